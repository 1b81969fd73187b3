import PyProof.Rows.All
import Wide.All
import OpenK.AllK
import Lean
import PyProof.FactsAll.zip
import PySem.Challenge.RW_tilegrow_k66_least_floors
noncomputable section
set_option compiler.extract_closed false
open PySem renaming wpAny_bind→W0,wpAny_pure→W3,Shared→W4,wpAny→W8,sizeLine→Wa,Spec→Wc,starEach→Wd,Program→Wo,World→Wt,Around→Wv,mainGlobals→Wy,wpAny_call_entry→Wz,mem_of_lookup→WB,wpAny_callSpecial?_slot→WF,wpAny_newObj_type→WJ,wpAny_holding→WL,wpAny_field→WM,wpAny_setField_rec→Q1,compareOp→Q7,rawInt→Qa,FuncData→Qh,wpAny_dictEntries→Qj,cLine→Qk,sysModules→Qn,backTo→Qv,wpAny_mono→Qw,pyNext→QA,assignEach→QC,wpAny_seqItems→QG,wpAny_notOrdered_dict→QI,bootBuiltins→QK,binaryOp→QL,behindInMarks→QM,sizeLine_eq→QN,cellsFrom→QP,wpAny_dictEpoch→QR,wpAny_rule→J0,wpAny_typeNameOfWhole_itemiter→J1,wpAny_truthy_bool→J4,foldedSetIterable→J5,swapsWith→J8,attributeBase→J9,wpAny_typeNameOfWhole_keyiter→Jb,wpAny_typeNameOfWhole_valiter→Jc,firstArgMember→Je,Addr→Jg,getattributeRaised→Jh,wpAny_passesOwn→Ji,wpAny_attempt→Jn,wpAny_typeNameOf_itemiter→Js,strIterType→Jt,codeAny→Ju,wpAny_setField→Jw,wpAny_isInstance→JC,wpAny_typeNameOf_keyiter→JD,wpAny_typeNameOf_valiter→JE,letOwnedTupleGo→JH,wpAny_Call_Name_kw→JI,wpAny_pyIter_list→JN,wpAny_pyIter_slot→JO,wpAny_typeOf→JR,builtinLookup_eq_fast→JT,wpAny_fieldsOf→JU,sliceBounds→U0,tupleKind_room_in1→U6,pushCells→U7,getItem→Ua,call_meets→Ub,isSubtype_stop→Ud,qualnameIn→Ug,wpAny_sequenceKey→Uh,keywordEach→Uk
open PySem.W renaming Frag→W5,mg_none_of→WV,fnOf→Qm,kia_one→Qz,kitOne→Jd,keepIn→Jv,envX→Jz,codeHdIn→JB,cellsFrom_some→JJ,fnMade→Uf
open List renaming getElem?_eq_some_iff→W6,getElem?_set_ne→W9,getElem?_eq_getElem→Wb,map_cons→Wf,mem_cons_of_mem→Wg,getElem?_map→Wj,replicate→Wm,length_map→Wn,mem_cons_self→Wp,mem_of_getElem?→Wq,getElem?_set_self→Wr,mem_cons→Wu,map_map→Ww,size_toArray→Wx,mem_map→WA,mem_map_of_mem→WD,nodup_cons→WN,find?_cons→WP,nil_append→WQ,map_append→WR,length_cons→WS,range→WY,getElem?_set→Q0,nodup_iff_pairwise_ne→Q2,mem_append_right→Q3,mem_iff_getElem?→Q4,getElem?_cons_zero→Q5,getElem?_cons_succ→Q6,getElem?_append_left→Q8,any_cons→Qb,length_set→Qe,map_congr_left→Qf,getD_eq_getElem?_getD→Qi,append_nil→Ql,length→Qp,mem_append→Qs,length_append→Qu,take_add_one→Qx,getElem?_eq_none→Qy,lookup_cons→QD,getElem_mem→QE,replicate_succ→QS,take_of_length_le→QT,take_length→QU,filter_cons→QV,drop_eq_getElem_cons→QX,pairwise_map→J7,foldl_cons→Jj,length_nil→Jk,getElem?_append_right→Jl,flatten_cons→Jp,append_assoc→Jq,all_eq_true→Jy,cons_append→JA,any_eq_false→JL,length_range→JM,flatMap_cons→JP,any_map→JS,mem_append_left→JV,any_eq_true→JX,not_mem_nil→JZ,getElem_of_mem→U1,forIn_cons→U2,map_nil→U5,pairwise_cons→U8,toArray→U9,forIn_nil→Uc,find?_map→Ue,getElem?_inj→Ui,nodup_append→Uj,all_cons→Um,map_take→Uo,map_drop→Up,getElem_inj→Uq,length_take→Ur,ext_getElem→Us,of_mem_zip→Ut,find?_some→Uu
open PySem.Heap renaming get?_push_of_some→W7,get?_push_size→Wh,lt_size→Ws,SameBut→Qt,size_push→QF,get?_update_self→QH,get?_update_other→JK
open Option.some renaming injEq→We,inj→WZ
open Nat renaming le_refl→Wi,lt_of_lt_of_le→WH,zero_add→WU,ne_of_lt→WX,le_trans→Qc,lt_irrefl→Qg,zero_le→Qq,ne_of_gt→JQ,le_add_right→JY,le_of_lt→U4,le_succ→Ul,min_eq_left→Uv,succ_mul→Uw
open Bool renaming false_ne_true→WC,and_eq_true→WE,false_eq_true→Qd,eq_iff_iff→U3
open Option renaming map_eq_some_iff→WG,map_some→WI,bind_some→WT,isSome_iff_exists→QZ,bind_eq_some_iff→JG,getD_some→JW
open PySem.Builtin.SmallTypes renaming nextOf→WK,ownedTupleIsFree→WO
open Array renaming length_toList→WW,getElem?_toList→QJ
open PySem.Builtin.Dict_items renaming ownsTuple→Q9
open PySem.Heap.SameBut renaming update→Qo
open Int renaming toNat_natCast→Qr
open PyProof.Rows renaming seqObj→QB,callWith_type1→QO,slot_tuple_getitem→QY,envOfC→Jo
open PySem.Builtin.Str renaming strSliceIndices→QQ
open PySem.Builtin.Dict renaming showsAll→QW,updateFrom→JF
open PySem.F renaming slot_dict_valueiterator_next→J3,slot_dict_itemiterator_next→Ja,slot_dict_keyiterator_next→Jf,slot_tuple_iterator_next→Jm
open PySem.Builtin.Slice renaming slicePlaces→Jr
open PySem.Builtin.Tuple renaming tupleExact→Jx
set_option Elab.async false
set_option linter.all false
set_option maxRecDepth 100000
set_option maxHeartbeats 4000000
theorem Y'{p:Prop}(h:p:=by lia):p:=h
theorem Z'{p:Prop}(h:p:=by decide):p:=h
theorem Z4{p:Prop}(h:p:=by rfl):p:=h
theorem Z5{p:Prop}(h:p:=by simp):p:=h
theorem Z6{p:Prop}(h:p:=by simp; lia):p:=h
theorem Z7{p:Prop}(h:p:=by intro _; rfl):p:=h
theorem Zp{p:Prop}(h:p:=by decide +kernel):p:=h
theorem U'{p:Prop}(h:p:=by simp at hl ⊢; lia):p:=h
local macro_rules|`(~~~$x)=>`(by simpa using $x)
local macro_rules|`(#v[$xs,*])=>`(by simp[$[$xs:term],*])
local macro_rules|`(%[$xs,*|$k])=>`(by rw[$[$xs:term],*]; exact $k)
namespace L2
open PySem PySem.Spec PyProof.Rows
variable {A:Wv}{B O O':Addr->Prop}{C a code dl dx fa i1 i2 it l sl:Addr}{E Q:Value->W4->Prop}{K:W5}{M:Model}{N loose ls ps:List Str}{P prog:Wo}{P1 P2:Nat->Value->Prop}{R:Result->W4->Prop}{S1 S2 tn:Nat->Heap->Prop}{XP:(Str->Option Value)->Heap->Prop}{YP:Wt->Heap->Prop}{aU cd ct doc oc pm u v0 vl vu:Value}{ak first its' us:List Value}{an:Option Addr}{apos bI ko og pos pos' pp tp tpos:Pos}{args:List WData}{base h h':Heap}{body tK:List Stmt}{cells cl:List (Str×Addr)}{ch f1 f2:List Addr}{cs js np:List Nat}{ctx ep i j n n1 n2 t':Nat}{d':Drawn}{e elt tg:Expr}{eW:Array (Option Value)}{elts es ifs:List Expr}{env:Env}{f:Value->Value->Sem Value}{fd:Qh}{g':Array GenState}{hi lo:Option Int}{items:Array Value}{kindOf:Str->Option NameKind}{m:Bool}{mA mb mg:Str->Option Value}{name qual tq x:Str}{ns:List Int}{oa:Obj}{op:CmpOp}{params:Arguments}{pins:List (Addr×Obj)}{s:W4}{sc scope:Scope}{t0:Tok}{w:Wt}
abbrev Key:=Sum Int Str
def i4:Key->Value->Bool
 | .inl k,v=>Value.isInt k v
 | .inr x,v=>Value.isStrOf x v
def wb(w:Wt):Key->Int
 | .inl k=>hashInt k
 | .inr x=>hashStr w x
theorem lH:∀ {k:Key} {v:Value},i4 k v=true->(∃ i t,k=Sum.inl i/\v=Value.int i t)\/(∃ x t,k=Sum.inr x/\v=Value.str x t)
 | .inl i,v,h=>by
  obtain⟨t,e⟩:=Value.isInt_shape (k:=i) (v:=v) h;exact .inl ⟨i,t,rfl,e⟩
 | .inr x,v,h=>by
  obtain⟨t,e⟩:=Value.isStrOf_shape (x:=x) (v:=v) h;exact .inr ⟨x,t,rfl,e⟩
theorem KI(i:Int)(t):i4 (.inl i) (.int i t)=true:=#v[i4,Value.isInt]
theorem KJ(x t):i4 (.inr x) (.str x t)=true:=#v[i4,Value.isStrOf]
theorem KL(a b:Int):decide ((Sum.inl a:Key)=Sum.inl b)=(a == b):=by grind
theorem KN(a b):decide ((Sum.inr a:Key)=Sum.inr b)=decide (a=b):=by grind
theorem KO(a:Int)(b):decide ((Sum.inl a:Key)=Sum.inr b)=false:=by grind
theorem KP(a)(b:Int):decide ((Sum.inr a:Key)=Sum.inl b)=false:=by grind
def eV(prog:Wo)(w:Wt):PySem.KeyKind prog w Key where
 is:=i4
 hash:=wb w
 inj:=λv a b ha hb=>by grind[lH]
 byValue:=λk v h=>by
  rcases lH h with ⟨i,t,rfl,rfl⟩ | ⟨x,t,rfl,rfl⟩ <;> rfl
 pyHash:=λhv h=>by
  rcases lH hv with ⟨i,t,rfl,rfl⟩ | ⟨x,t,rfl,rfl⟩
  ·exact wpAny_pyHash_int h
  ·exact wpAny_pyHash_str h
 eqBool:=λhu hv h=>by
  rcases lH hu with ⟨i,t,rfl,rfl⟩ | ⟨x,t,rfl,rfl⟩
  ·rcases lH hv with ⟨j,u,rfl,rfl⟩ | ⟨y,u,rfl,rfl⟩
   ·rw[KL] at h; exact wpAny_eqBool_int h
   ·rw[KO] at h; exact SeqAt.EqAt.int_str i t y u _ _ _ _ h
  ·rcases lH hv with ⟨j,u,rfl,rfl⟩ | ⟨y,u,rfl,rfl⟩
   ·rw[KP] at h; exact SeqAt.EqAt.str_int x t j u _ _ _ _ h
   ·rw[KN] at h; exact wpAny_eqBool_str h
 «strs»:=λk x t v h=>by
  rcases lH h with ⟨i,u,rfl,e⟩ | ⟨y,u,rfl,e⟩
  ·exact nomatch e
  ·injection e with e1 _
   subst e1
   cases v <;> rfl
theorem KQ(prog w k v):(eV prog w).is k v=i4 k v:=rfl
theorem KR(prog w)(i:Int)(t):(eV prog w).is (.inl i) (.int i t)=true:=KI i t
theorem KS(prog w x t):(eV prog w).is (.inr x) (.str x t)=true:=KJ x t
inductive V where
 | bp | bl (b:Bool) | int (i:Int) | str (x:Str) | byt (b:Array UInt8) | flt (b:UInt64) | ref (a:Addr) | ty (n:String)
 deriving DecidableEq
variable {KZ:List (Str×V)}{fv lQ vs ys:List V}{kps:List (Key×V)}
def RelV:V->Value->Prop
 | .bp,u=>u=Value.none
 | .bl b,u=>u=Value.bool b
 | .int i,u=>∃ t,u=Value.int i t
 | .str x,u=>∃ t,u=Value.str x t
 | .byt b,u=>∃ t,u=Value.bytes b t
 | .flt b,u=>∃ t,u=Value.float b t
 | .ref a,u=>u=Value.ref a
 | .ty n,u=>u=Value.type n
abbrev Vals:List V->List Value->Prop:=Paired RelV
theorem Vals.length(r:Vals xs us):xs.length=us.length:=Paired.length r
theorem Vals.get:∀ {xs:List V} {us:List Value} {i:Nat} {x:V},Vals xs us->xs[i]? = some x->∃ u,us[i]? = some u/\RelV x u
 | _,_,_,_,.nil,e=>by simp at e
 | _,_,0,_,.cons r _,e=>by simp at e; subst e; exact⟨_,rfl,r⟩
 | _,_,i + 1,x,.cons _ t,e=>by
  obtain⟨u,h1,h2⟩:=Vals.get (i:=i) (x:=x) t (~~~e);exact⟨u,~~~h1,h2⟩
theorem Vals.set{x}(r:RelV x u):∀ {xs:List V} {us:List Value} i,Vals xs us->Vals (xs.set i x) (us.set i u)
 | _,_,_,.nil=>.nil
 | _,_,0,.cons _ t=>.cons r t
 | _,_,i + 1,.cons q t=>.cons q (Vals.set r i t)
theorem Vals.append:∀ {xs ys:List V} {us ws:List Value},Vals xs us->Vals ys ws->Vals (xs ++ ys) (us ++ ws)
 | _,_,_,_,.nil,s=>s
 | _,_,_,_,.cons r t,s=>.cons r (Vals.append t s)
theorem Vals.take:∀ {xs:List V} {us:List Value} n,Vals xs us->Vals (xs.take n) (us.take n)
 | _,_,0,_=>.nil
 | _,_,_ + 1,.nil=>.nil
 | _,_,n + 1,.cons r t=>.cons r (Vals.take n t)
theorem Vals.drop:∀ {xs:List V} {us:List Value} n,Vals xs us->Vals (xs.drop n) (us.drop n)
 | _,_,0,r=>r
 | _,_,_ + 1,.nil=>.nil
 | _,_,n + 1,.cons _ t=>Vals.drop n t
def gc:Option V->Option Value->Prop
 | some v,some u=>RelV v u
 | none,none=>True
 | _,_=>False
def KV{κ:Type}:List (κ×V)->List (κ×Value)->Prop:=Paired λ(p:κ×V) (q:κ×Value)=>p.1=q.1/\RelV p.2 q.2
def kV:Key->V
 | .inl i=>.int i
 | .inr x=>.str x
inductive NK where
 | i (z:Int) | s (x:Str) | t (ks:List NK)
variable {ws:List (NK×V×V)}{xs:List (NK×Value×Value)}
noncomputable instance nkDec:DecidableEq NK:=λa b=>Classical.propDecidable (a=b)
mutual
def fP(w:Wt):NK->Int
 | .i z=>wb w (.inl z)
 | .s x=>wb w (.inr x)
 | .t ks=>reduceHash (Builtin.Tuple.tupleHashOf (tf w ks))
def tf(w:Wt):List NK->List Int
 | []=>[]
 | k :: ks=>fP w k :: tf w ks
end
inductive HO where
  | lst (xs:List V)
  | tup (xs:List V)
  | dK (aj:List (Key×V)) | dT (aj:List (List Key×V))
  | set (S:Int->Bool) (n:Nat)
  | ins (C dx:Addr) (fs:List (Str×V))
  | own (x:Addr)
  | xd (fs:List (Str×V))
  | met (f x:Addr)
  | kH (lo hi:Int)
  | frz (o:Obj) (u:HO)
  | tbl (ps:Array Value)
  | ctab (pos:Pos) (q:Str)
  | dN (ep:Nat) (aj:List (NK×V×V))
  | ext (φ:Heap->Prop)
abbrev Hp:=Addr->Option HO
variable {H H' H1:Hp}
def upd(H:Hp)(a:Addr)(o:HO):Hp:=λb=>if b=a then some o else H b
theorem cI:upd H a o a=some o:=by unfold upd; rw[if_pos rfl]
theorem aR(h:b≠a):upd H a o b=H b:=by unfold upd; rw[if_neg h]
theorem A7{u}:upd (upd H a o) a u=upd H a u:=by
 funext b; unfold upd; split <;> rfl
theorem KU{b o u}(h:H a=some o)(h':H b=some u)(d:o≠u):a≠b:=by grind
theorem fA{b o}(h:H a=some o)(h':H b=none):a≠b:=by grind
def i5 (h:Heap) (a:Addr) (ak:Array Value):Prop:=∃ n,h.get? a=some { cls:=.type "tuple",dict:=none,data:=.seq ak n,slots:=#[] }
theorem i5.tup{h a ak}(x:i5 h a ak):IsTup h a ak:=let ⟨n,e⟩:=x; ⟨_,e,rfl,n,rfl⟩
theorem i5.new (h:Heap) (ak):i5 (h.push { cls:=.type "tuple",data:=.seq ak }) h.objs.size ak:=⟨_,Wh _ rfl⟩
theorem i5.lt{ak}(x:i5 h a ak):a < h.objs.size:=let ⟨_,e⟩:=x; Ws e
section
variable (P:Wo)(w:Wt)
def cp(H:Hp)(h:Heap)(a:Addr):HO->Prop
 | .lst xs=>xs.length<=Wa/\∃ (ak:List Value) (n:Nat),Vals xs ak/\h.get? a=some { cls:=.type "list",data:=.seq ak.toArray n }
 | .tup xs=>xs.length<=Wa/\∃ ak:List Value,Vals xs ak/\i5 h a ak.toArray
 | .dK aj=>aj.length<=Wa/\(a == Qn)=false/\∃ vs,KV aj vs/\h.DictOf (eV P w) a vs
 | .dT aj=>aj.length<=Wa/\(a == Qn)=false/\∃ xs:List (List Key×Addr×Value),
   Paired (λ(p:List Key×V) (q:List Key×Addr×Value)=>p.1=q.1/\H q.2.1=some (.tup (p.1.map kV))/\RelV p.2 q.2.2) aj xs /\
   ∃ o es ep,h.get? a=some o/\o.ExactDict/\o.data = .dict es ep/\es.toList=xs.map (entryOfKey (tupleKind (eV P w)))/\(xs.map (·.1)).Nodup
 | .set S n=>h.SetOf (intKind P w) a S n
 | .ins C dx fs=>H dx=some (.own a)/\fs.length<=1000/\dx≠a/\h.get? a=some (PySem.W.instObj C dx) /\
   ∃ mA,h.Ns1 dx mA/\(∀ f,gc (fs.lookup f) (mA f))/\PySem.Within mA (fs.map (·.1))
 | .own _=>∃ o,h.get? a=some o
 | .xd fs=>∃ mA,h.Ns1 a mA/\∀ f,gc (fs.lookup f) (mA f)
 | .kH lo hi=>∃ t u v,h.get? a=some { cls:=.type "range",data:=.fields #[.int lo t,.int hi u,.int 1 v] }
 | .frz o u=>h.get? a=some o/\cp H h a u
 | .tbl ps=>h.get? a=some { cls:=.none,data:=.fields ps }
 | .dN ep aj=>aj.length<=Wa/\(a == Qn)=false/\∃ o es,h.get? a=some o/\o.ExactDict/\o.data = .dict es ep/\Paired (λ(p:NK×V×V) (e:DictEntry)=>e.hash=fP w p.1/\RelV p.2.1 e.key/\RelV p.2.2 e.val) aj es.toList/\(aj.map (·.1)).Nodup
 | .ctab pos q=>∃ ps,h.get? a=some { cls:=.none,data:=.fields ps }/\TriplesOk ps.toList/\∀ cv,codeAmong pos ps.toList=some cv->∃ c' oc,cv = .ref c'/\H c'=some (.frz oc (.ext λ_=>True))/\∃ vs tq,oc.data = .fields vs/\vs[1]? = some (.str q tq)
 | .met f x=>h.get? a=some (PySem.W.methodObj (.ref f) (.ref x))
 | .ext φ=>φ h/\(∃ o,h.get? a=some o)/\∀ h1 h2:Heap,φ h1->(∀ o,h1.get? a=some o->h2.get? a=some o)->φ h2
def cL(H:Hp)(h:Heap):Prop:=∀ a o,H a=some o->cp P w H h a o
end
section
variable {o:HO}
theorem cp.lt(x:cp P w H h a o):a < h.objs.size:=by
 cases o with
 | lst xs=>obtain⟨_,_,_,_,e⟩:=x; exact Ws e
 | tup xs=>obtain⟨_,_,_,p⟩:=x; exact p.lt
 | dK aj=>obtain⟨_,_,_,_,o,_,_,e,_⟩:=x; exact Ws e
 | dT aj=>obtain⟨_,_,_,_,o,_,_,e,_⟩:=x; exact Ws e
 | set S n=>obtain⟨o,_,_,_,e,_⟩:=x; exact Ws e
 | ins C dx fs=>obtain⟨_,_,_,e,_⟩:=x; exact Ws e
 | own y=>obtain⟨_,e⟩:=x; exact Ws e
 | xd fs=>obtain⟨_,⟨_,_,_,e,_⟩,_⟩:=x; exact Ws e
 | kH lo hi=>obtain⟨_,_,_,e⟩:=x; exact Ws e
 | frz ob u=>obtain⟨e,_⟩:=x; exact Ws e
 | tbl ps=>exact Ws (show h.get? a=some _ from x)
 | ctab pos q=>obtain⟨_,e,_⟩:=x; exact Ws e
 | dN ep aj=>obtain⟨_,_,_,_,e,_⟩:=x; exact Ws e
 | met f y=>exact Ws (show h.get? a=some _ from x)
 | ext φ=>obtain⟨_,⟨_,e⟩,_⟩:=x; exact Ws e
theorem Paired.wc:∀ {l₁:List α} {l₂:List β},Paired F l₁ l₂->(∀ a b,F a b->G a b)->Paired G l₁ l₂
 | _,_,.nil,_=>.nil
 | _,_,.cons r t,f=>.cons (f _ _ r) (Paired.wc t f)
theorem cp.gE(x:cp P w H h a o)(k:∀ b u,(b=a\/H b=some (.own a))->h.get? b=some u->h'.get? b=some u)
  (ho:∀ b,H b=some (.own a)->H' b=some (.own a)) (ht:∀ b xs,H b=some (.tup xs)->H' b=some (.tup xs)) (hf:∀ b o u,H b=some (.frz o u)->H' b=some (.frz o u)):cp P w H' h' a o:=by
 induction o with
 | lst xs=>obtain⟨z,ak,n,r,e⟩:=x; exact⟨z,ak,n,r,k _ _ (.inl rfl) e⟩
 | tup xs=>obtain⟨z,ak,r,n,e⟩:=x; exact⟨z,ak,r,n,k _ _ (.inl rfl) e⟩
 | dK aj=>obtain⟨z,y,vs,r,ob,es,ep,e,c⟩:=x; exact⟨z,y,vs,r,ob,es,ep,k _ _ (.inl rfl) e,c⟩
 | dT aj =>
  obtain⟨z,y,xs,r,ob,es,ep,e,c⟩:=x;exact⟨z,y,xs,Paired.wc r λp q z=>⟨z.1,ht _ _ z.2.1,z.2.2⟩,ob,es,ep,k _ _ (.inl rfl) e,c⟩
 | set S n=>obtain⟨ob,es,ep,t,e,c⟩:=x; exact⟨ob,es,ep,t,k _ _ (.inl rfl) e,c⟩
 | ins C dx fs =>
  obtain⟨d,z,ne,e,mA,⟨od,es,ep,e2,c⟩,r⟩:=x;exact⟨ho _ d,z,ne,k _ _ (.inl rfl) e,mA,⟨od,es,ep,k _ _ (.inr d) e2,c⟩,r⟩
 | own y=>obtain⟨ob,e⟩:=x; exact⟨ob,k _ _ (.inl rfl) e⟩
 | xd fs=>obtain⟨mA,⟨od,es,ep,e,c⟩,r⟩:=x; exact⟨mA,⟨od,es,ep,k _ _ (.inl rfl) e,c⟩,r⟩
 | kH lo hi=>obtain⟨t,u,v,e⟩:=x; exact⟨t,u,v,k _ _ (.inl rfl) e⟩
 | frz ob u ih=>obtain⟨e,q⟩:=x; exact⟨k _ _ (.inl rfl) e,ih q⟩
 | dN ep aj=>obtain⟨z,y,ob,es,e,c⟩:=x; exact⟨z,y,ob,es,k _ _ (.inl rfl) e,c⟩
 | ctab pos q=>obtain⟨ps,e,t,r⟩:=x; exact⟨ps,k _ _ (.inl rfl) e,t,λcv z=>let ⟨c',oc,z1,z2,z3⟩:=r cv z; ⟨c',oc,z1,hf _ _ _ z2,z3⟩⟩
 | tbl ps =>
  have e:h.get? a=some { cls:=.none,data:=.fields ps }:=x;show h'.get? a=some { cls:=.none,data:=.fields ps };exact k a _ (.inl rfl) e
 | met f y =>
  have e:h.get? a=some (PySem.W.methodObj (.ref f) (.ref y)):=x;show h'.get? a=some (PySem.W.methodObj (.ref f) (.ref y));exact k a _ (.inl rfl) e
 | ext φ=>obtain⟨p,⟨o,e⟩,st⟩:=x; exact⟨st _ _ p λo q=>k _ _ (.inl rfl) q,⟨o,k _ _ (.inl rfl) e⟩,st⟩
theorem cL.lt(x:cL P w H h)(e:H a=some o):a < h.objs.size:=(x a o e).lt
theorem cL.fresh(x:cL P w H h)(e:h.objs.size<=a):H a=none:=by
 cases q:H a with
 | none=>rfl
 | some u=>exact absurd (WH (x.lt q) e) (Qg _)
theorem cL.kept(x:cL P w H h)(k:∀ b u,h.get? b=some u->h'.get? b=some u):cL P w H h':=λa o e =>
 (x a o e).gE (λb u _ q=>k b u q) (λ_ q=>q) (λ_ _ q=>q) λ_ _ _ q=>q
theorem cL.laid(x:cL P w H h)(k:∀ b u,h.get? b=some u->h'.get? b=some u)(hp:h.objs.size<=a)(new:cp P w (upd H a o) h' a o):cL P w (upd H a o) h':=λb u e=>by
 have hn:=x.fresh hp;by_cases hb:b=a
 ·grind[cI]
 ·rw[aR hb] at e;exact(x b u e).gE (λc v _ q=>k c v q) (λc q=>%[aR (fA q hn)|q]) (λc xs q=>%[aR (fA q hn)|q]) λc o u q=>%[aR (fA q hn)|q]
end
def Rd(H:Hp)(a:Addr)(u:HO):Prop:=H a=some u\/∃ o,H a=some (.frz o u)
theorem Rd.ok{u}(r:Rd H a u)(x:cL P w H h):cp P w H h a u:=by
 rcases r with r | ⟨o,r⟩
 ·exact x a u r
 ·obtain⟨_,q⟩:=x a _ r;exact q
def qk:Option HO->Prop
 | some (.lst _)=>True
 | some (.dK _)=>True
 | some (.dT _)=>True
 | some (.dN _ _)=>True
 | some (.set _ _)=>True
 | some (.ins _ _ _)=>True
 | some (.ext _)=>True
 | _=>False
section
variable {x e:Addr}{o':HO}
theorem cL.write(ok:cL P w H h)(mu:qk (H x))(he:e=x\/H e=some (.own x))(k:∀ b u,b≠e->h.get? b=some u->h'.get? b=some u)(qm:∃ u,h'.get? e=some u)
  (new:cp P w (upd H x o') h' x o'):cL P w (upd H x o') h':=λb u q=>by
 have fB:∀ c y,H c=some (.own y)->c≠x:=λc y r z=>by subst z; rw[r] at mu; exact mu
 have KW:∀ c xs,H c=some (.tup xs)->c≠x:=λc xs r z=>by subst z; rw[r] at mu; exact mu
 have KY:∀ c o u,H c=some (.frz o u)->c≠x:=λc o u r z=>by subst z; rw[r] at mu; exact mu
 by_cases hb:b=x
 ·grind[cI]
 ·rw[aR hb] at q;by_cases hbe:b=e
  ·have q':H b=some (.own x):=by grind
   rw[q] at q'; cases q'
   obtain⟨v,hv⟩:=qm;exact⟨v,%[hbe|hv]⟩
  ·refine(ok b u q).gE (λc v hc r=>k c v ?_ r) (λc r=>%[aR (fB c b r)|r]) (λc xs r=>%[aR (KW c xs r)|r]) λc o u r=>%[aR (KY c o u r)|r]
   grind
end
structure Un(fs ex:List Addr)(H H':Hp)(h h':Heap):Prop where
 keep:∀ b o,h.get? b=some o->H b=none->b ∉ fs->b ∉ ex->h'.get? b=some o
 slot:∀ b o,h.get? b=some o->H b=none->b ∈ fs->b ∉ ex->∃ sl,h'.get? b=some { o with slots:=sl }
 free:∀ b o,h.get? b=some o->H b=none->b ∉ ex->H' b=none
 there:∀ b o,h.get? b=some o->b ∉ ex->∃ o',h'.get? b=some o'
 lJ:∀ b xs,H b=some (.tup xs)->H' b=some (.tup xs)
 jW:∀ b o u,H b=some (.frz o u)->H' b=some (.frz o u)
 mU:∀ b ps,H b=some (.tbl ps)->∃ more,H' b=some (.tbl (ps ++ more))
section
variable {fs KZ ex Zn:List Addr}{H2:Hp}{h1 h2:Heap}{x e:Addr}{o:HO}
theorem Un.any(u:Un fs ex H H1 h h1)(q:h.get? b=some ob)(n:H b=none)(hx:b ∉ ex):∃ sl,h1.get? b=some { ob with slots:=sl }:=by
 by_cases hb:b ∈ fs
 ·exact u.slot b ob q n hb hx
 ·exact⟨ob.slots,u.keep b ob q n hb hx⟩
theorem Un.kept(k:∀ b u,h.get? b=some u->h'.get? b=some u):Un fs ex H H h h' :=
 ⟨λb ob q _ _ _=>k b ob q,λb ob q _ _ _=>⟨ob.slots,k b ob q⟩,λ_ _ _ n _=>n,λb ob q _=>⟨ob,k b ob q⟩,λ_ _ q=>q,λ_ _ _ q=>q,λ_ ps q=>⟨#[],by rw[q]; simp⟩⟩
theorem Un.refl:Un fs ex H H h h:=Un.kept λ_ _ q=>q
theorem Un.laid(k:∀ b u,h.get? b=some u->h'.get? b=some u)(hp:h.objs.size<=a)(hn:H a=none):Un fs ex H (upd H a o) h h' where
 keep:=λb u q _ _ _=>k b u q
 slot:=λb u q _ _ _=>⟨u.slots,k b u q⟩
 free:=λb u q n _=>%[aR (WX (WH (Ws q) hp))|n]
 there:=λb u q _=>⟨u,k b u q⟩
 lJ:=λb xs q=>%[aR (fA q hn)|q]
 jW:=λb u xs q=>%[aR (fA q hn)|q]
 mU:=λb ps q=>⟨#[],by rw[aR (fA q hn),q]; simp⟩
theorem Un.write(mu:qk (H x))(he:e=x\/H e=some (.own x))(k:∀ b u,b≠e->h.get? b=some u->h'.get? b=some u)(qm:∃ u,h'.get? e=some u):Un fs ex H (upd H x o) h h':=by
 have hx:∀ b,H b=none->b≠x:=λb n z=>by subst z; rw[n] at mu; exact mu
 have hb:∀ b,H b=none->b≠e:=λb n z=>by grind
 have hm:∀ b u,H b=some u->¬ qk (some u)->b≠x:=λb u q nm z=>by grind
 refine⟨λb u q n _ _=>k b u (hb b n) q,λb u q n _ _=>⟨u.slots,k b u (hb b n) q⟩,λb u q n _=>%[aR (hx b n)|n],λb u q _=>?_,
  λb xs q=>%[aR (hm b _ q λz=>z)|q],λb u xs q=>%[aR (hm b _ q λz=>z)|q],λb ps q=>⟨#[],by rw[aR (hm b _ q λz=>z),q]; simp⟩⟩
 grind
end
def wd(h:Heap)(H:Hp):List Addr:=(WY h.objs.size).filter λa=>(H a).isSome
def jX(h:Heap)(H:Hp):Heap:=PySem.W.hideAll h (wd h H)
theorem K0(h:Heap)(H):(jX h H).objs.size=h.objs.size:=PySem.W.hideAll_size _ _
theorem K1(e:h.get? b=some o)(n:H b=none):(jX h H).get? b=some o :=
 PySem.W.hideAll_get _ e λhm=>by
  have q:(H b).isSome=true:=(List.mem_filter.mp hm).2;rw[n] at q; simp at q
theorem K2(e:(jX h H).get? b=some o):h.get? b=some o/\H b=none:=by
 have e':h.get? b=some o:=PySem.W.of_hideAll (wd h H) e;refine⟨e',?_⟩
 cases q:H b with
 | none=>rfl
 | some x =>
  have hm:b ∈ wd h H:=List.mem_filter.mpr ⟨List.mem_range.mpr (Ws e'),#v[q]⟩;grind[jX,W.hideAll_none]
def K3(g h:Heap)(L:Addr):List (Addr×Obj):=(WY h.objs.size).filterMap λa=>if a=L\/(g.get? a).isSome=true then none else(h.get? a).map λo=>(a,o)
def rest(g h:Heap)(L d:Addr):List (Addr×Obj):=(K3 g h L).filter λp=>decide (p.1≠d)
structure Mod(K:W5)(mg:Str->Option Value)(base:Heap):Prop where
 qo:K.In base
 glob:base.Ns Wy mg
 blt:∃ mb,base.Ns builtinsNs mb/\∀ x:Str,x≠"__name__"->mb x=QK x
 nolimit:base.NoLimit
structure Cx where
 prog:Wo
 w:Wt
 K:W5
 mg:Str->Option Value
 base:Heap
 A:Wv
 N:List Str
 s₀:W4
 H₀:Hp
 env:Env
 outer:List Env
 stack:List Env
 ex:List Addr
 fn:Str->Bool
 calm:Bool
 pn:List (Addr×Obj)
 xe:Value->W4->Prop
variable {X:Cx}
def gZ(l:List Env):List Addr:=l.filterMap (·.frame)
abbrev Cx.fs(X:Cx):List Addr:=gZ X.outer
def tj(sc:Scope)(x:Str):Prop:=sc.names.lookup x=some .local\/sc.names.lookup x=some .cell\/sc.names.lookup x=some .free
def Loc(sc:Scope)(x:Str):Prop:=sc.names.lookup x=some .local\/sc.names.lookup x=some .cell
def Look(env:Env)(h:Heap)(m:Str->Option Value)(x:Str)(u:Value):Prop :=
 (env.kindOf x=some .local/\m x=some u)\/((env.kindOf x=some .cell\/env.kindOf x=some .free)/\∃ c,env.cells.lookup x=some c/\h.IsCell c (some u))
structure Cx.Ok(X:Cx):Prop where
 mod:Mod X.K X.mg X.base
 kind:X.env.scope.kind = .function
 glob:X.env.globals=Wy
 blt:X.env.builtins=builtinsNs
 above:X.s₀.heap.objs.size<=X.env.locals
 inj:∀ x y c,X.env.cells.lookup x=some c->X.env.cells.lookup y=some c->x=y
 has:∀ x,(X.env.kindOf x=some .cell\/X.env.kindOf x=some .free)->∃ c,X.env.cells.lookup x=some c
 oG:∀ x c,X.fn x=true->X.env.cells.lookup x=some c->X.s₀.heap.objs.size<=c
 hd:X.calm=true->X.A.handled=none
 frames:X.A.frames=some X.stack
 tm:X.stack=X.outer\/(X.stack=X.env :: X.outer/\X.env.frame=some X.env.locals)
 tu:∀ b ∈ X.ex,b≠X.env.locals/\∀ x c,X.env.cells.lookup x=some c->c≠b
 bs:∀ b o,X.base.get? b=some o->X.s₀.heap.get? b=some o/\X.H₀ b=none
 kI:X.base.objs.size<=X.s₀.heap.objs.size
 qp:∀ b o,X.base.get? b=some o->b ∉ X.ex
 qr:∀ b ∈ X.ex,b ∉ X.fs
 iJ:X.s₀.heap.FunFrames X.base X.outer
 mV:∀ b ∈ X.fs,X.H₀ b=none
structure Inv(X:Cx)(pins:List (Addr×Obj))(σ:List (Option V))(H:Hp)(s:W4):Prop where
 ok:X.Ok
 os:s.os=X.s₀.os
 bare:AllBare s.gens
 base:Un X.fs X.ex X.H₀ H X.s₀.heap s.heap
 loc:∃ m,s.heap.Ns X.env.locals m/\∀ (i:Nat) (x:Str) (v:V),X.N[i]? = some x->σ[i]? = some (some v)->tj X.env.scope x->∃ u,RelV v u/\Look X.env s.heap m x u
 cell:∀ x c,X.env.cells.lookup x=some c->∃ v,s.heap.IsCell c v
 free:H X.env.locals=none
 i6:∀ x c,X.env.cells.lookup x=some c->H c=none
 pin:∀ p ∈ X.pn ++ pins,s.heap.get? p.1=some p.2/\H p.1=none/\p.1≠X.env.locals/\p.1 ∉ X.fs/\∀ v,p.2.data≠.cell v
 aC:cL X.prog X.w H s.heap
 len:σ.length=X.N.length
section
variable {σ:List (Option V)}
theorem Cx.Ok.K4(ok:X.Ok)(e:X.base.get? b=some o):b ∉ X.fs:=λhb=>by
 have:=(ok.iJ.mem hb).1;grind
theorem Inv.bs(I:Inv X pins σ H s):∀ b o,X.base.get? b=some o->s.heap.get? b=some o/\H b=none:=λb o e =>
 ⟨I.base.keep b o (I.ok.bs b o e).1 (I.ok.bs b o e).2 (I.ok.K4 e) (I.ok.qp b o e),I.base.free b o (I.ok.bs b o e).1 (I.ok.bs b o e).2 (I.ok.qp b o e)⟩
theorem Inv.bk(I:Inv X pins σ H s):∀ b o,X.base.get? b=some o->s.heap.get? b=some o:=λb o e=>(I.bs b o e).1
theorem Inv.mod(I:Inv X pins σ H s):Mod X.K X.mg X.base:=I.ok.mod
theorem Inv.e_(I:Inv X pins σ H s):X.K.In s.heap:=I.ok.mod.qo.keeps I.bk
theorem Inv.fr(I:Inv X pins σ H s):∃ m,Fr X.base X.env.locals s.heap m :=
 let ⟨m,hn,_⟩:=I.loc
 ⟨m,hn,I.bk,Qc I.ok.kI I.ok.above⟩
theorem Inv.lt(I:Inv X pins σ H s):X.env.locals < s.heap.objs.size:=let ⟨_,hn,_⟩:=I.loc; hn.lt
theorem Inv.sz(I:Inv X pins σ H s):X.s₀.heap.objs.size<=s.heap.objs.size:=Qc I.ok.above (U4 I.lt)
theorem Inv.K5{a}(I:Inv X pins σ H s)(h:s.heap.objs.size<=a):a ∉ X.fs:=λhb=>by
 obtain⟨_,o,ho,_⟩:=I.ok.iJ.mem hb;exact absurd (WH (Ws ho) (Qc I.sz h)) (Qg _)
theorem Inv.lK(I:Inv X pins σ H s):∀ x c,X.env.cells.lookup x=some c->c≠X.env.locals:=λx c e z=>by
 obtain⟨v,o,ho,hd⟩:=I.cell x c e;obtain⟨m,⟨o',es,ep,ho',hd',_⟩,_⟩:=I.loc;grind
theorem Inv.iJ(I:Inv X pins σ H s):s.heap.FunFrames X.base X.outer:=by
 have all:∀ (l:List Env),(∀ b ∈ gZ l,b ∈ X.fs)->X.s₀.heap.FunFrames X.base l->s.heap.FunFrames X.base l:=by
  intro l;induction l with
  | nil=>intro _ _; trivial
  | cons env r ih =>
   intro hs hl;obtain⟨hk,⟨L,o,hf,hn,ho,hd⟩,hr⟩:=hl;have hL:L ∈ X.fs:=hs L (by unfold gZ; rw[List.filterMap_cons,hf]; exact Wp);obtain⟨sl,e⟩:=I.base.slot L o ho (I.ok.mV L hL) hL λz=>I.ok.qr L z hL
   exact⟨hk,⟨L,_,hf,hn,e,hd⟩,ih (λb hb=>hs b (by unfold gZ; rw[List.filterMap_cons,hf]; exact Wg _ hb)) hr⟩
 exact all X.outer (λ_ hb=>hb) I.ok.iJ
theorem Inv.stack(I:Inv X pins σ H s):s.heap.FunFrames X.base X.stack:=by
 rcases I.ok.tm with e | ⟨e,hf⟩
 ·rw[e]; exact I.iJ
 ·rw[e];obtain⟨m,hn,_⟩:=I.loc;refine .cons (by rw[I.ok.kind]; decide) hf hn ?_ I.iJ;exact Heap.get?_none_of_le (Qc I.ok.kI I.ok.above)
theorem Inv.tE(I:Inv X pins σ H s):∀ b ∈ gZ X.stack,b ∈ X.env.locals :: X.fs:=λb hb=>by
 rcases I.ok.tm with e | ⟨e,hf⟩
 ·rw[e] at hb; exact Wg _ hb
 ·rw[e] at hb;unfold gZ at hb;rw[List.filterMap_cons,hf] at hb;exact hb
theorem Inv.A8(I:Inv X pins σ H s):∀ b ∈ gZ X.stack,H b=none:=λb hb=>by
 rcases Wu.mp (I.tE b hb) with e | hb
 ·rw[e]; exact I.free
 ·obtain⟨_,o,ho,_⟩:=I.ok.iJ.mem hb;exact I.base.free b o ho (I.ok.mV b hb) λz=>I.ok.qr b z hb
theorem Inv.step{g' t' d'}(I:Inv X pins σ H s)
  (jY:∀ b ∈ ch,(b ∈ X.ex\/X.s₀.heap.objs.size<=b)/\b≠X.env.locals/\(∀ x c,X.env.cells.lookup x=some c->c≠b)/\∀ p ∈ X.pn ++ pins,p.1≠b)
  (keep:∀ b o,b≠X.env.locals->b ∉ X.fs->b ∉ ch->s.heap.get? b=some o->H b=none->h'.get? b=some o)
  (slot:∀ b o,b≠X.env.locals->b ∈ X.fs->b ∉ ch->s.heap.get? b=some o->H b=none->∃ sl,h'.get? b=some { o with slots:=sl }) (free:∀ b o,b ∉ ch->s.heap.get? b=some o->H b=none->H' b=none)
  (there:∀ b o,b ∉ ch->s.heap.get? b=some o->∃ o',h'.get? b=some o')
  (lJ:∀ b xs,H b=some (.tup xs)->H' b=some (.tup xs)) (jW:∀ b o u,H b=some (.frz o u)->H' b=some (.frz o u)) (mU:∀ b ps,H b=some (.tbl ps)->∃ more,H' b=some (.tbl (ps ++ more)))
  (ns:∀ m,s.heap.Ns X.env.locals m->h'.Ns X.env.locals m) (aC:cL X.prog X.w H' h') (hg:AllBare g') :
  Inv X pins σ H' { s with heap:=h',gens:=g',drawn:=d',toks:=t' }:=by
 have A9:∀ b o,X.s₀.heap.get? b=some o->b≠X.env.locals:=λb o e=>WX (WH (Ws e) I.ok.above)
 have tF:∀ b o,X.s₀.heap.get? b=some o->b ∉ X.ex->b ∉ ch:=λb o e hx hb=>by
  rcases (jY b hb).1 with z | z
  ·exact hx z
  ·exact absurd (WH (Ws e) z) (Qg _)
 have cellK:∀ x c,X.env.cells.lookup x=some c->∀ v,s.heap.IsCell c v->h'.IsCell c v:=λx c e v ⟨o,ho,hd⟩=>by
  have qt:c ∉ ch:=λz=>(jY c z).2.2.1 x c e rfl
  by_cases hc:c ∈ X.fs
  ·obtain⟨sl,q⟩:=slot c o (I.lK x c e) hc qt ho (I.i6 x c e);exact⟨_,q,hd⟩
  ·exact⟨o,keep c o (I.lK x c e) hc qt ho (I.i6 x c e),hd⟩
 refine⟨I.ok,I.os,hg,⟨λb o e n hb hx=>?_,λb o e n hb hx=>?_,λb o e n hx=>?_,λb o e hx=>?_,λb xs e=>lJ b xs (I.base.lJ b xs e),λb o xs e=>jW b o xs (I.base.jW b o xs e),λb ps e=>?_⟩,?_,λx c e=>?_,?_,λx c e=>?_,λp hp=>?_,aC,I.len⟩
 ·exact keep b o (A9 b o e) hb (tF b o e hx) (I.base.keep b o e n hb hx) (I.base.free b o e n hx)
 ·obtain⟨sl,e1⟩:=I.base.slot b o e n hb hx;obtain⟨sl',e2⟩:=slot b _ (A9 b o e) hb (tF b o e hx) e1 (I.base.free b o e n hx);exact⟨sl',e2⟩
 ·obtain⟨o',e1⟩:=I.base.there b o e hx;exact free b o' (tF b o e hx) e1 (I.base.free b o e n hx)
 ·obtain⟨o',e1⟩:=I.base.there b o e hx;exact there b o' (tF b o e hx) e1
 ·obtain⟨m1,e1⟩:=I.base.mU b ps e;grind
 ·obtain⟨m,hn,hl⟩:=I.loc;refine⟨m,ns m hn,λi x v e1 e2 e3=>?_⟩;obtain⟨u,r,l⟩:=hl i x v e1 e2 e3;refine⟨u,r,?_⟩;rcases l with l | ⟨k,c,e,z⟩
  ·exact .inl l
  ·exact .inr ⟨k,c,e,cellK x c e _ z⟩
 ·obtain⟨v,z⟩:=I.cell x c e;exact⟨v,cellK x c e v z⟩
 ·obtain⟨m,⟨o,_,_,ho,_⟩,_⟩:=I.loc;exact free _ o (λz=>(jY _ z).2.1 rfl) ho I.free
 ·obtain⟨v,o,ho,hd⟩:=I.cell x c e;exact free c o (λz=>(jY c z).2.2.1 x c e rfl) ho (I.i6 x c e)
 ·obtain⟨e,n,ne,nf,d⟩:=I.pin p hp;have qt:p.1 ∉ ch:=λz=>(jY p.1 z).2.2.2 p hp rfl
  exact⟨keep p.1 p.2 ne nf qt e n,free p.1 p.2 qt e n,ne,nf,d⟩
theorem Inv.un{t'}(I:Inv X pins σ H s)(u:Un X.fs [] H H' s.heap h')(aC:cL X.prog X.w H' h'):Inv X pins σ H' { s with heap:=h',toks:=t' }:=by
 obtain⟨m,⟨o,es,ep,ho,r⟩,_⟩:=id I.loc;obtain⟨sl,hL⟩:=u.any ho I.free Z5;exact I.step (g':=s.gens) (d':=s.drawn) (ch:=[]) (λ_ z=>nomatch z) (λb o _ hb _ e n=>u.keep b o e n hb Z5) (λb o _ hb _ e n=>u.slot b o e n hb Z5) (λb o _ e n=>u.free b o e n Z5) (λb o _ e=>u.there b o e Z5) u.lJ u.jW u.mU (λm' hm=>by
  obtain⟨o',mW,gf,ho',r'⟩:=hm;rw[ho] at ho'; cases ho'
  exact⟨_,mW,gf,hL,r'⟩) aC I.bare
theorem Inv.call{t' d'}(I:Inv X pins σ H s)(u:Un (gZ X.stack) ch H H' s.heap h')(aC:cL X.prog X.w H' h')(hg:AllBare g')
  (jY:∀ b ∈ ch,(b ∈ X.ex\/X.s₀.heap.objs.size<=b)/\b≠X.env.locals/\(∀ x c,X.env.cells.lookup x=some c->c≠b)/\∀ p ∈ X.pn ++ pins,p.1≠b) :
  Inv X pins σ H' { s with heap:=h',gens:=g',drawn:=d',toks:=t' }:=by
 obtain⟨m,⟨o,es,ep,ho,r⟩,_⟩:=id I.loc;obtain⟨sl,hL⟩:=u.any ho I.free λz=>(jY _ z).2.1 rfl
 exact I.step (ch:=ch) jY (λb o hL hb hc e n=>u.keep b o e n (λz=>(Wu.mp (I.tE b z)).elim hL hb) hc) (λb o _ _ hc e n=>u.any e n hc) (λb o hc e n=>u.free b o e n hc) (λb o hc e=>u.there b o e hc) u.lJ u.jW u.mU (λm' hm=>by
  obtain⟨o',mW,gf,ho',r'⟩:=hm;rw[ho] at ho'; cases ho'
  exact⟨_,mW,gf,hL,r'⟩) aC hg
theorem Inv.turned{t'}(I:Inv X pins σ H s)(k:∀ b o,b≠it->s.heap.get? b=some o->h'.get? b=some o)(hn:H it=none)(hL:it≠X.env.locals)
  (h1:it ∈ X.ex\/X.s₀.heap.objs.size<=it) (h2:∀ x c,X.env.cells.lookup x=some c->c≠it) (h3:∀ p ∈ X.pn ++ pins,p.1≠it):Inv X pins σ H { s with heap:=h',toks:=t' }:=by
 have lL:∀ b u,H b=some u->b≠it:=λb u e z=>by grind
 refine I.step (g':=s.gens) (d':=s.drawn) (ch:=[it]) (λb hb=>?_) (by grind) (λb o _ _ hc e _=>⟨o.slots,k b o (λz=>hc #v[z]) e⟩) (λ_ _ _ _ n=>n)
  (by grind) (λ_ _ e=>e) (λ_ _ _ e=>e) (λb ps e=>⟨#[],by rw[e]; simp⟩) (λm hm=>?_) (λb u e=>?_) I.bare
 ·have e:b=it:= ~~~hb
  subst e;exact⟨h1,hL,h2,h3⟩
 ·obtain⟨o,es,ep,ho,r⟩:=hm;exact⟨o,es,ep,k _ o (Ne.symm hL) ho,r⟩
 ·refine(I.aC b u e).gE (λc v hc q=>k c v ?_ q) (λ_ q=>q) (λ_ _ q=>q) λ_ _ _ q=>q
  rcases hc with z | z
  ·rw[z]; exact lL b u e
  ·exact lL c _ z
theorem Inv.tok(I:Inv X pins σ H s)(t):Inv X pins σ H { s with toks:=t }:=I.un (h':=s.heap) (t':=t) Un.refl I.aC
theorem Inv.kept(I:Inv X pins σ H s)(k:∀ b u,s.heap.get? b=some u->h'.get? b=some u):Inv X pins σ H { s with heap:=h',toks:=t' }:=I.un (Un.kept k) (I.aC.kept k)
theorem Inv.laid{a}(I:Inv X pins σ H s)(k:∀ b u,s.heap.get? b=some u->h'.get? b=some u)(hp:s.heap.objs.size<=a)(new:cp X.prog X.w (upd H a o) h' a o) :
  Inv X pins σ (upd H a o) { s with heap:=h',toks:=t' }:=I.un (Un.laid k hp (I.aC.fresh hp)) (I.aC.laid k hp new)
theorem Inv.write{x e}(I:Inv X pins σ H s)(mu:qk (H x))(he:e=x\/H e=some (.own x))(k:∀ b u,b≠e->s.heap.get? b=some u->h'.get? b=some u)(qm:∃ u,h'.get? e=some u)
  (new:cp X.prog X.w (upd H x o) h' x o):Inv X pins σ (upd H x o) { s with heap:=h',toks:=t' }:=I.un (Un.write mu he k qm) (I.aC.write mu he k qm new)
theorem Inv.weak(I:Inv X pins σ H s)(hl:σ'.length=σ.length)(w:∀ (i:Nat) v,σ'[i]? = some (some v)->σ[i]? = some (some v)):Inv X pins σ' H s :=
 ⟨I.ok,I.os,I.bare,I.base,let ⟨m,hn,i7⟩:=I.loc; ⟨m,hn,λi x v e1 e2 e3=>i7 i x v e1 (w i v e2) e3⟩,I.cell,I.free,I.i6,I.pin,I.aC,hl.trans I.len⟩
theorem Inv.A_(I:Inv X pins σ H s)(h:∀ p ∈ pins',s.heap.get? p.1=some p.2/\H p.1=none/\p.1≠X.env.locals/\p.1 ∉ X.fs/\∀ v,p.2.data≠.cell v):Inv X pins' σ H s :=
 ⟨I.ok,I.os,I.bare,I.base,I.loc,I.cell,I.free,I.i6,λp hp=>(Qs.mp hp).elim (λz=>I.pin p (JV _ z)) (h p),I.aC,I.len⟩
theorem Ba(hN:N.Nodup)(a:N[i]? = some x)(b:N[j]? = some x):i=j:=by
 obtain⟨h1,e1⟩:=W6.mp a;obtain⟨h2,e2⟩:=W6.mp b;exact(Uq hN).mp (e1.trans e2.symm)
theorem Bb{M A}{E:Value->W4->Prop}{v}{Q:Unit->W4->Prop}(I:Inv X pins σ H s)(hN:X.N.Nodup)(hi:X.N[i]? = some x)(hx:Loc X.env.scope x)(r:RelV v u)
  (h:∀ s',Inv X pins (σ.set i (some v)) H s'->(∃ a,Qt a s.heap s'.heap/\(a=X.env.locals\/X.env.cells.lookup x=some a))->Q () s') (hf:X.fn x=true\/X.env.scope.names.lookup x=some .local:=by first | exact .inl rfl | exact .inr rfl | assumption):W8 M A (storeName X.env x u) Q E s:=by
 obtain⟨m,hn,hl⟩:=id I.loc;have K6:(X.env.scope.kind == .class || (X.env.scope.kind == .module && X.env.locals != X.env.globals))=false:=by rw[I.ok.kind]; rfl
 have Bc:i < σ.length:=by rw[I.len]; exact(W6.mp hi).1
 have lK:=I.lK;have tracked:∀ {a:Addr} {h':Heap},(∃ o,s.heap.get? a=some o/\H a=none)->Qt a s.heap h'->cL X.prog X.w H h':=λ{a h'} ha hs b ob e=>by
  obtain⟨_,_,tG⟩:=ha;refine(I.aC b ob e).gE (λc w' hc q=>(hs.2 c ?_).trans q) (λ_ q=>q) (λ_ _ q=>q) λ_ _ _ q=>q
  grind
 rcases hx with hk | hk
 ·refine wpAny_storeName_local hk hn (λh' jZ hs=>?_) K6;obtain⟨oL,_,_,tH,_⟩:=id hn;refine h _ ⟨I.ok,I.os,I.bare,⟨λb o e n hb hx=>?_,λb o e n hb hx=>?_,I.base.free,λb o e hx=>?_,I.base.lJ,I.base.jW,I.base.mU⟩,⟨_,jZ,λj y v' e1 e2 e3=>?_⟩,λy c e=>?_,I.free,I.i6,λp hp=>?_,tracked ⟨oL,tH,I.free⟩ hs,~~~I.len⟩ ⟨_,hs,.inl rfl⟩
  ·exact(hs.2 b (WX (WH (Ws e) I.ok.above))).trans (I.base.keep b o e n hb hx)
  ·obtain⟨sl,e1⟩:=I.base.slot b o e n hb hx;exact⟨sl,(hs.2 b (WX (WH (Ws e) I.ok.above))).trans e1⟩
  ·obtain⟨o',e1⟩:=I.base.there b o e hx;exact⟨o',(hs.2 b (WX (WH (Ws e) I.ok.above))).trans e1⟩
  ·by_cases hj:j=i
   ·subst hj;rw[hi] at e1; cases e1
    rw[Wr Bc] at e2
    cases e2;exact⟨u,r,.inl ⟨hk,Z5⟩⟩
   ·rw[W9 (Ne.symm hj)] at e2;obtain⟨u',r',q⟩:=hl j y v' e1 e2 e3;refine⟨u',r',?_⟩;rcases q with ⟨k,e⟩ | ⟨k,c,e,z⟩
    ·refine .inl ⟨k,?_⟩;have:y≠x:=λe=>hj (Ba hN e1 (e ▸ hi))
     simp[this,e]
    ·exact .inr ⟨k,c,e,z.sameBut hs (lK y c e)⟩
  ·obtain⟨w',z⟩:=I.cell y c e;exact⟨w',z.sameBut hs (lK y c e)⟩
  ·obtain⟨e,n,ne,nf,d⟩:=I.pin p hp;exact⟨(hs.2 p.1 ne).trans e,n,ne,nf,d⟩
 ·have kJ:X.fn x=true:=by grind
  obtain⟨c,hc⟩:=I.ok.has x (.inl hk);obtain⟨w',z⟩:=I.cell x c hc;refine wpAny_storeName_cell I.ok.kind hk hc z (λh' fQ hs=>?_);obtain⟨oc,hoc,hocd⟩:=id z;refine h { s with heap:=h' } ⟨I.ok,I.os,I.bare,⟨λb o e n hb hx=>?_,λb o e n hb hx=>?_,I.base.free,λb o e hx=>?_,I.base.lJ,I.base.jW,I.base.mU⟩,⟨m,hn.sameBut hs (Ne.symm (lK x c hc)),λj y v' e1 e2 e3=>?_⟩,λy c' e=>?_,I.free,I.i6,λp hp=>?_,tracked ⟨oc,hoc,I.i6 x c hc⟩ hs,~~~I.len⟩ ⟨c,hs,.inr hc⟩
  ·exact(hs.2 b (WX (WH (Ws e) (I.ok.oG x c kJ hc)))).trans (I.base.keep b o e n hb hx)
  ·obtain⟨sl,e1⟩:=I.base.slot b o e n hb hx;exact⟨sl,(hs.2 b (WX (WH (Ws e) (I.ok.oG x c kJ hc)))).trans e1⟩
  ·obtain⟨o',e1⟩:=I.base.there b o e hx;exact⟨o',(hs.2 b (WX (WH (Ws e) (I.ok.oG x c kJ hc)))).trans e1⟩
  ·by_cases hj:j=i
   ·subst hj;rw[hi] at e1; cases e1
    rw[Wr Bc] at e2
    cases e2;exact⟨u,r,.inr ⟨.inl hk,c,hc,fQ⟩⟩
   ·rw[W9 (Ne.symm hj)] at e2;obtain⟨u',r',q⟩:=hl j y v' e1 e2 e3;refine⟨u',r',?_⟩;rcases q with q | ⟨k,c',e,z'⟩
    ·exact .inl q
    ·refine .inr ⟨k,c',e,z'.sameBut hs ?_⟩;rintro rfl;exact hj (Ba hN e1 (I.ok.inj _ _ _ e hc ▸ hi))
  ·by_cases hcc:c'=c
   ·grind
   ·obtain⟨w2,z2⟩:=I.cell y c' e;exact⟨w2,z2.sameBut hs hcc⟩
  ·obtain⟨e,n,ne,nf,d⟩:=I.pin p hp;refine⟨(hs.2 p.1 ?_).trans e,n,ne,nf,d⟩;grind
theorem we{Q}(I:Inv X pins σ H s)(hN:X.N.Nodup)(hi:X.N[i]? = some x)(hx:Loc X.env.scope x)(r:RelV v u)
  (h:∀ s',Inv X pins (σ.set i (some v)) H s'->Q () s') (hf:X.fn x=true\/X.env.scope.names.lookup x=some .local:=by first | exact .inl rfl | exact .inr rfl | assumption):W8 M A (storeName X.env x u) Q E s :=
 Bb I hN hi hx r (λs' I' _=>h s' I') hf
theorem Inv.K7(I:Inv X pins σ H s)(ho:s'.os=s.os)(u:Un (gZ X.stack) ch H H' s.heap s'.heap)(aC:cL X.prog X.w H' s'.heap)(hg:AllBare s'.gens)
  (jY:∀ b ∈ ch,(b ∈ X.ex\/X.s₀.heap.objs.size<=b)/\b≠X.env.locals/\(∀ x c,X.env.cells.lookup x=some c->c≠b)/\∀ p ∈ X.pn ++ pins,p.1≠b):Inv X pins σ H' s':=by
 obtain⟨h',g',d',t',o'⟩:=s';have e:o'=s.os:=ho;subst e;exact I.call (g':=g') (t':=t') (d':=d') u aC hg jY
end
abbrev XK:=Value->Option Addr->Hp->Prop
abbrev St:=List (Option V)
variable {σ σ':St}
abbrev VK:=V->Hp->Prop
abbrev TE:=St->Hp->VK->Prop
variable {ta tb td te tv tx ty:TE}
abbrev TT:=St->Hp->(Bool->Hp->Prop)->Prop
abbrev TA:=St->Hp->(List V->Hp->Prop)->Prop
structure Ends where
 nx:St->Hp->Prop
 rt:VK
 bk:St->Hp->Prop:=λ_ _=>False
 ct:St->Hp->Prop:=λ_ _=>False
variable {Dn:Ends}
abbrev TS:=Ends->St->Hp->Prop
def EP(X:Cx)(pins:List (Addr×Obj))(σ:St)(Q:VK)(u:Value)(s':W4):Prop:=∃ v H',Inv X pins σ H' s'/\RelV v u/\Q v H'
def TP(X:Cx)(pins:List (Addr×Obj))(σ:St)(Q:Bool->Hp->Prop)(b:Bool)(s':W4):Prop:=∃ H',Inv X pins σ H' s'/\Q b H'
def AP(X:Cx)(pins:List (Addr×Obj))(σ:St)(Q:List V->Hp->Prop)(us:List Value)(s':W4):Prop:=∃ vs H',Inv X pins σ H' s'/\Vals vs us/\Q vs H'
def SP(X:Cx)(pins:List (Addr×Obj))(D:Ends)(f:Flow)(s':W4):Prop :=
 match f with
 | .next=>∃ σ' H',Inv X pins σ' H' s'/\D.nx σ' H'
 | .brk=>∃ σ' H',Inv X pins σ' H' s'/\D.bk σ' H'
 | .cont=>∃ σ' H',Inv X pins σ' H' s'/\D.ct σ' H'
 | .ret u=>∃ v σ' H',Inv X pins σ' H' s'/\RelV v u/\D.rt v H'
def PE(X:Cx)(e:Expr)(t:TE):Prop :=
 ∀ (pins:List (Addr×Obj)) (s:W4) (σ:St) (H:Hp) (Q:VK),Inv X pins σ H s->t σ H Q->W8 (model X.prog X.w) X.A (eval e X.env) (EP X pins σ Q) X.xe s
def PT(X:Cx)(e:Expr)(t:TT):Prop :=
 ∀ (pins:List (Addr×Obj)) (s:W4) (σ:St) (H:Hp) (Q:Bool->Hp->Prop),Inv X pins σ H s->t σ H Q->W8 (model X.prog X.w) X.A (isTrue e X.env (eval e X.env)) (TP X pins σ Q) X.xe s
def PW(X:Cx)(e:Expr)(t:TT):Prop :=
 ∀ (whole:Sem Value) (pins:List (Addr×Obj)) (s:W4) (σ:St) (H:Hp) (Q:Bool->Hp->Prop),Inv X pins σ H s->t σ H Q->W8 (model X.prog X.w) X.A (isTrue e X.env whole) (TP X pins σ Q) X.xe s
theorem PW.pt(h:PW X e t):PT X e t:=h _
def PA(X:Cx)(es:List Expr)(t:TA):Prop :=
 ∀ (pos:Pos) (pins:List (Addr×Obj)) (s:W4) (σ:St) (H:Hp) (Q:List V->Hp->Prop),Inv X pins σ H s->t σ H Q->W8 (model X.prog X.w) X.A (spliced (Qv pos (Wd es X.env))) (AP X pins σ Q) X.xe s
def PS(X:Cx)(st:Stmt)(t:TS):Prop :=
 ∀ (pins:List (Addr×Obj)) (s:W4) (σ:St) (H:Hp) (D:Ends),Inv X pins σ H s->t D σ H->W8 (model X.prog X.w) X.A (exec st X.env) (SP X pins D) X.xe s
def dR(X:Cx)(st:List Stmt)(t:TS):Prop :=
 ∀ (pins:List (Addr×Obj)) (s:W4) (σ:St) (H:Hp) (D:Ends),Inv X pins σ H s->t D σ H->W8 (model X.prog X.w) X.A (execs st X.env) (SP X pins D) X.xe s
theorem aY{Q}(h:W8 M A t Q E s)(hQ:∀ a s,Q a s->Q' a s):W8 M A t Q' E s:=Qw h hQ λ_ _ x=>x
section
theorem bin{a b}(ha:PE X a ta)(hb:PE X b tb){R:V->V->Hp->Prop}(I:Inv X pins σ H s)(h:ta σ H λx H1=>tb σ H1 λy H2=>R x y H2)
  {α:Type} {Q:α->W4->Prop} {f:Value->Value->Sem α}
  (hf:∀ v u s2 x y H2,Inv X pins σ H2 s2->RelV x v->RelV y u->R x y H2->W8 (model X.prog X.w) X.A (f v u) Q X.xe s2) :
  W8 (model X.prog X.w) X.A (eval a X.env) (λv s₁=>W8 (model X.prog X.w) X.A (eval b X.env) (λu s₂=>W8 (model X.prog X.w) X.A (f v u) Q X.xe s₂) X.xe s₁) X.xe s:=by
 refine aY (ha pins s σ H _ I h) λv s1 ⟨x,H1,I1,r1,q1⟩=>?_
 refine aY (hb pins s1 σ H1 _ I1 q1) λu s2 ⟨y,H2,I2,r2,q2⟩=>?_
 exact hf v u s2 x y H2 I2 r1 r2 q2
def dD(i:Nat):TE:=λσ H Q=>∃ v,σ[i]? = some (some v)/\Q v H
def tC(v:V):TE:=λ_ H Q=>Q v H
theorem K8 (hN:X.N[i]? = some x) (hv:tj X.env.scope x) (hd:(x == ("__debug__" : Str))=false:=by decide) (g6:(x == ("__classdict__" : Str))=false:=by decide):PE X (.Name x pos) (dD i):=by
 intro pins s σ H Q I h;obtain⟨v,e,h⟩:=h;obtain⟨m,hn,hl⟩:=I.loc;obtain⟨u,r,l⟩:=hl i x v hN e hv;have fin:EP X pins σ Q u s:=⟨v,H,I,r,h⟩
 rcases l with ⟨hk,hm⟩ | ⟨hk,c,hc,hcell⟩
 ·exact wpAny_Name (wpAny_loadName_local I.ok.kind hk hn hm fin) hd
 ·rcases hk with hk | hk
  ·exact wpAny_Name (wpAny_loadName_cell I.ok.kind hk hc hcell fin) hd
  ·exact wpAny_Name (wpAny_loadName_free I.ok.kind hk hc hcell fin g6) hd
theorem K9{i j pos}:PE X (.Constant (.int i) j pos) (tC (.int i)):=λ_ _ _ H _ I h=>wpAny_Constant_int ⟨.int i,H,I.tok _,⟨_,rfl⟩,h⟩
theorem K_{b j pos}:PE X (.Constant (.bool b) j pos) (tC (.bl b)):=λ_ _ _ H _ I h=>Constant_bool ⟨.bl b,H,I,rfl,h⟩
theorem La{j pos}:PE X (.Constant .none j pos) (tC .bp):=λ_ _ _ H _ I h=>Constant_none ⟨.bp,H,I,rfl,h⟩
theorem Be{x j pos}:PE X (.Constant (.str x) j pos) (tC (.str x)):=λ_ _ _ H _ I h=>Calls.Constant_str ⟨.str x,H,I.tok _,⟨_,rfl⟩,h⟩
def Gl(X:Cx)(x:Str):Prop:=X.env.kindOf x=some .globalImplicit
theorem wj(I:Inv X pins σ H s)(hg:Gl X x)(hm:X.mg x=some u)(h:Q u s)
  (hd:(x == ("__debug__" : Str))=false:=by decide):W8 (model X.prog X.w) X.A (eval (.Name x pos) X.env) Q E s :=
 Calls.Name_function_global I.ok.kind hg (Calls.loadGlobal_global %[I.ok.glob|I.mod.glob.keeps I.bk] hm h) hd
theorem mX(I:Inv X pins σ H s)(hg:Gl X x)(hm:X.mg x=none)(hv:QK x=some u)(h:Q u s)
  (hn:x≠"__name__":=by decide) (hd:(x == ("__debug__" : Str))=false:=by decide):W8 (model X.prog X.w) X.A (eval (.Name x pos) X.env) Q E s:=by
 obtain⟨mb,h1,h2⟩:=I.mod.blt;exact Calls.Name_function_global I.ok.kind hg (Calls.loadGlobal_builtin %[I.ok.glob|I.mod.glob.keeps I.bk] hm %[I.ok.blt|h1.keeps I.bk] ((h2 x hn).trans hv) h) hd
theorem Bf (hg:Gl X x) (hm:X.mg x=some u) (r:RelV v u) (hd:(x == ("__debug__" : Str))=false:=by decide):PE X (.Name x pos) (tC v) :=
 λ_ _ _ H _ I h=>wj I hg hm ⟨v,H,I,r,h⟩ hd
theorem Lb (hg:Gl X x) (hm:X.mg x=none) (hv:QK x=some u) (r:RelV v u) (hn:x≠"__name__":=by decide) (hd:(x == ("__debug__" : Str))=false:=by decide):PE X (.Name x pos) (tC v) :=
 λ_ _ _ H _ I h=>mX I hg hm hv ⟨v,H,I,r,h⟩ hn hd
variable {a b:Expr}
def PC(X:Cx)(op:CmpOp)(a b:Expr)(t:TE):Prop :=
 ∀ (pins:List (Addr×Obj)) (s:W4) (σ:St) (H:Hp) (Q:VK),Inv X pins σ H s->t σ H Q ->
  W8 (model X.prog X.w) X.A (eval a X.env) (λv s₁=>W8 (model X.prog X.w) X.A (eval b X.env) (λu s₂=>W8 (model X.prog X.w) X.A (Q7 op v u) (EP X pins σ Q) X.xe s₂) X.xe s₁) X.xe s
theorem Lc(b)(h:op≠.In)(h2:op≠.NotIn):QM op b=false:=by
 have e1:(op == CmpOp.In)=false:=by cases op <;> first | rfl | exact absurd rfl h
 have e2:(op == CmpOp.NotIn)=false:=by cases op <;> first | rfl | exact absurd rfl h2
 cases b <;> simp[QM,e1,e2]
def tB(t:TE):TT:=λσ H Q=>t σ H λx H1=>∃ c,x = .bl c/\Q c H1
theorem Zo(h:PC X op a b t)(h1:QM op b=false:=by first | exact Lc _ Z' Z' | rfl):PT X (.Compare a [op] [b] pos) (tB t):=by
 intro pins s σ H Q I hw;refine wpAny_isTrue_Compare1 (aY (h pins s σ H _ I hw) λv s1 h1=>aY h1 λu s2 h2=>aY h2 λc s3 ⟨x,H1,I1,r1,q1⟩=>?_) h1;obtain⟨d,rfl,q⟩:=q1
 cases r1;exact J4 ⟨H1,I1,q⟩
theorem Ld(h:PE X e t)(he:∀ whole,isTrue e X.env whole=(do let v <- whole; standAt e.pos; holding [v] (truthy v)):=by intro _; rfl):PT X e (tB t):=by
 intro pins s σ H Q I hw;refine isTrue_plain (aY (h pins s σ H _ I hw) λv s1 ⟨x,H1,I1,r1,q1⟩=>?_) (he _);obtain⟨d,rfl,q⟩:=q1
 cases r1;exact J4 ⟨H1,I1,q⟩
variable {tA tJ:TT}{rest:List Expr}
def Lf(t u:TT):TT:=λσ H Q=>t σ H λc H1=>if c=true then u σ H1 Q else Q false H1
def Lg(t u:TT):TT:=λσ H Q=>t σ H λc H1=>if c=true then Q true H1 else u σ H1 Q
def Lh(t:TT):TT:=λσ H Q=>t σ H λc H1=>Q (!c) H1
theorem Li(ha:PT X a tA):PW X (.BoolOp .And [a] pos) tA:=by
 intro wh pins s σ H Q I h;refine isTrue_and (aY (ha pins s σ H Q I h) λc s1 e=>?_)
 cases c with
 | true=>exact isTrue_and_nil e
 | false=>exact e
theorem Lj(ha:PT X a tA):PW X (.BoolOp .Or [a] pos) tA:=by
 intro wh pins s σ H Q I h;refine isTrue_or (aY (ha pins s σ H Q I h) λc s1 e=>?_)
 cases c with
 | false=>exact isTrue_or_nil e
 | true=>exact e
theorem Lk(ha:PT X a tA)(hb:PW X (.BoolOp .And (b :: rest) pos) tJ):PW X (.BoolOp .And (a :: b :: rest) pos) (Lf tA tJ):=by
 intro wh pins s σ H Q I h;refine isTrue_and (aY (ha pins s σ H _ I h) λc s1 ⟨H1,I1,q1⟩=>?_)
 cases c with
 | true=>exact hb wh pins s1 σ H1 Q I1 q1
 | false=>exact⟨H1,I1,q1⟩
theorem pw_or(ha:PT X a tA)(hb:PW X (.BoolOp .Or (b :: rest) pos) tJ):PW X (.BoolOp .Or (a :: b :: rest) pos) (Lg tA tJ):=by
 intro wh pins s σ H Q I h;refine isTrue_or (aY (ha pins s σ H _ I h) λc s1 ⟨H1,I1,q1⟩=>?_)
 cases c with
 | true=>exact⟨H1,I1,q1⟩
 | false=>exact hb wh pins s1 σ H1 Q I1 q1
theorem Ll(ha:PT X a tA):PT X (.UnaryOp .Not a pos) (Lh tA):=by
 intro pins s σ H Q I h;exact isTrue_not (ha pins s σ H (λc H1=>Q (!c) H1) I h)
def Lm(ta tb:TE):TE:=λσ H Q=>ta σ H λx H1=>∃ c,x = .bl c/\if c=true then tb σ H1 Q else Q (.bl false) H1
def Ln(ta:TE):TE:=λσ H Q=>ta σ H λx H1=>∃ c,x = .bl c/\Q (.bl (!c)) H1
theorem Lo{op}(h:PE X a t):PE X (.BoolOp op [a] pos) t:=λpins s σ H Q I hw=>BoolOp_one (h pins s σ H Q I hw)
theorem Lp(ha:PE X a ta)(hb:PE X (.BoolOp .And (b :: rest) pos) tb):PE X (.BoolOp .And (a :: b :: rest) pos) (Lm ta tb):=by
 intro pins s σ H Q I h;refine BoolOp_and (aY (ha pins s σ H _ I h) λv s1 ⟨x,H1,I1,r1,q1⟩=>?_);obtain⟨c,rfl,q1⟩:=q1
 cases r1;refine J4 ?_
 cases c with
 | true=>exact hb pins s1 σ H1 Q I1 q1
 | false=>exact⟨.bl false,H1,I1,rfl,q1⟩
theorem Lq(ha:PE X a ta):PE X (.UnaryOp .Not a pos) (Ln ta):=by
 intro pins s σ H Q I h;refine UnaryOp_ (aY (ha pins s σ H _ I h) λv s1 ⟨x,H1,I1,r1,q1⟩=>?_);obtain⟨c,rfl,q1⟩:=q1
 cases r1;exact not_of (J4 ⟨.bl (!c),H1,I1,rfl,q1⟩)
end
def cP(K:W5)(H:Hp)(a:Addr)(xs:List V):Prop :=
 Rd H a (.lst xs) \/
  ∃ (o:Obj) (ak:Array Value) (n:Nat),K.lookup a=some o/\o.cls = .type "list"/\o.dict=none/\o.data = .seq ak n/\ak.size<=Wa/\Vals xs ak.toList
def di(K:W5)(H:Hp)(a:Addr)(xs:List V):Prop :=
 Rd H a (.tup xs) \/
  ∃ (o:Obj) (ak:Array Value) (n:Nat),K.lookup a=some o/\o.cls = .type "tuple"/\o.data = .seq ak n/\ak.size<=Wa/\Vals xs ak.toList
def Lr:Value->Option V
 | .none=>some .bp
 | .bool b=>some (.bl b)
 | .int i _=>some (.int i)
 | .str x _=>some (.str x)
 | .bytes b _=>some (.byt b)
 | .float b _=>some (.flt b)
 | .ref a=>some (.ref a)
 | .type n=>some (.ty n)
 | _=>none
theorem RelV.abs{x}(r:RelV x u):Lr u=some x:=by
 cases x with
 | bp=>cases r; rfl
 | bl _=>cases r; rfl
 | int _=>obtain⟨t,rfl⟩:=r; rfl
 | str _=>obtain⟨t,rfl⟩:=r; rfl
 | byt _=>obtain⟨t,rfl⟩:=r; rfl
 | flt _=>obtain⟨t,rfl⟩:=r; rfl
 | ref _=>cases r; rfl
 | ty _=>cases r; rfl
theorem RelV.inj{x}(r:RelV x u)(q:RelV y u):x=y:=WZ (r.abs.symm.trans q.abs)
theorem Vals.inj:∀ {xs ys:List V} {us:List Value},Vals xs us->Vals ys us->xs=ys
 | _,_,_,.nil,.nil=>rfl
 | _,_,_,.cons r t,.cons r' t'=>by rw[r.inj r',Vals.inj t t']
section
variable {xs:List V}
theorem cP.of(h:H a=some (.lst xs)):cP K H a xs:=.inl (.inl h)
theorem di.of(h:H a=some (.tup xs)):di K H a xs:=.inl (.inl h)
theorem Inv.list(I:Inv X pins σ H s)(h:cP X.K H a xs):∃ ak:List Value,Vals xs ak/\PlainL s.heap a ak.toArray/\xs.length<=Wa:=by
 rcases h with h | ⟨o,ak,n,hk,hc,hd,hs,hz,r⟩
 ·obtain⟨z,ak,n,r,e⟩:=h.ok I.aC;exact⟨ak,r,⟨_,n,e,rfl,rfl,rfl⟩,z⟩
 ·refine⟨ak.toList,r,⟨o,n,I.e_ a o hk,hc,hd,~~~hs⟩,?_⟩;have e:=r.length;simp only[WW] at e;lia
theorem Inv.tuple(I:Inv X pins σ H s)(h:di X.K H a xs):∃ ak:List Value,Vals xs ak/\IsTup s.heap a ak.toArray/\xs.length<=Wa:=by
 rcases h with h | ⟨o,ak,n,hk,hc,hs,hz,r⟩
 ·obtain⟨z,ak,r,p⟩:=h.ok I.aC;exact⟨ak,r,p.tup,z⟩
 ·refine⟨ak.toList,r,⟨o,I.e_ a o hk,hc,n,~~~hs⟩,?_⟩;have e:=r.length;simp only[WW] at e;lia
theorem Inv.Bg(I:Inv X pins σ H s)(h:cP X.K H a xs)(h':cP X.K H a ys):xs=ys:=by
 obtain⟨ak,r,⟨o,n,e,_,_,d⟩,_⟩:=I.list h;obtain⟨its',r',⟨o',n',e',_,_,d'⟩,_⟩:=I.list h';rw[e] at e'; cases e'
 rw[d] at d';injection d' with d1 _
 have:ak=its':=by grind
 subst this;exact r.inj r'
theorem Inv.Bh(I:Inv X pins σ H s)(h:di X.K H a xs)(h':di X.K H a ys):xs=ys:=by
 obtain⟨ak,r,⟨o,e,_,n,d⟩,_⟩:=I.tuple h;obtain⟨its',r',⟨o',e',_,n',d'⟩,_⟩:=I.tuple h';rw[e] at e'; cases e'
 rw[d] at d';injection d' with d1 _
 have:ak=its':=by grind
 subst this;exact r.inj r'
end
abbrev Cx.j0(X:Cx)(E:Value->W4->Prop):Cx:={ X with xe:=E }
abbrev Cx.gF(X:Cx):Cx:=X.j0 λ_ _=>False
theorem Cx.Ok.j0(ok:X.Ok)(E:Value->W4->Prop):(X.j0 E).Ok :=
 ⟨ok.mod,ok.kind,ok.glob,ok.blt,ok.above,ok.inj,ok.has,ok.oG,ok.hd,ok.frames,ok.tm,ok.tu,ok.bs,ok.kI,ok.qp,ok.qr,ok.iJ,ok.mV⟩
theorem Cx.Ok.lM(ok:(X.j0 E).Ok):X.Ok :=
 ⟨ok.mod,ok.kind,ok.glob,ok.blt,ok.above,ok.inj,ok.has,ok.oG,ok.hd,ok.frames,ok.tm,ok.tu,ok.bs,ok.kI,ok.qp,ok.qr,ok.iJ,ok.mV⟩
theorem Inv.j0(I:Inv X pins σ H s)(E:Value->W4->Prop):Inv (X.j0 E) pins σ H s:=⟨I.ok.j0 E,I.os,I.bare,I.base,I.loc,I.cell,I.free,I.i6,I.pin,I.aC,I.len⟩
theorem Inv.lM(I:Inv (X.j0 E) pins σ H s):Inv X pins σ H s:=⟨I.ok.lM,I.os,I.bare,I.base,I.loc,I.cell,I.free,I.i6,I.pin,I.aC,I.len⟩
theorem SP.lM{f}(h:SP (X.j0 E) pins D f s'):SP X pins D f s':=by
 cases f with
 | next=>obtain⟨σ',H',I,q⟩:=h; exact⟨σ',H',I.lM,q⟩
 | brk=>obtain⟨σ',H',I,q⟩:=h; exact⟨σ',H',I.lM,q⟩
 | cont=>obtain⟨σ',H',I,q⟩:=h; exact⟨σ',H',I.lM,q⟩
 | ret u=>obtain⟨v,σ',H',I,r,q⟩:=h; exact⟨v,σ',H',I.lM,r,q⟩
theorem dR.gF{st t}(h:dR X.gF st t):dR X st t:=λpins s σ H D I hw =>
 Qw (h pins s σ H D (I.j0 _) hw) (λ_ _ q=>q.lM) (by grind)
section
variable {st:Stmt}{rest:List Stmt}{t u:TS}
def Ls:TS:=λD σ H=>D.nx σ H
def Lu(t u:TS):TS:=λD σ H=>t { D with nx:=u D } σ H
theorem Lv:dR X [] Ls:=λ_ _ σ H _ I h=>wpAny_execs_nil ⟨σ,H,I,h⟩
theorem Lw(h1:PS X st t)(h2:dR X rest u):dR X (st :: rest) (Lu t u):=by
 intro pins s σ H D I h;refine wpAny_execs_cons (aY (h1 pins s σ H { D with nx:=u D } I h) λf s1 q=>?_)
 cases f with
 | next =>
  obtain⟨σ',H',I',q⟩:=q;exact h2 pins s1 σ' H' D I' q
 | ret v=>exact q
 | brk=>exact q
 | cont=>exact q
theorem Bi(h1:PS X st t):dR X [st] t:=by
 intro pins s σ H D I h;refine wpAny_execs_cons (aY (h1 pins s σ H D I h) λf s1 q=>?_)
 cases f with
 | next=>exact wpAny_execs_nil q
 | ret v=>exact q
 | brk=>exact q
 | cont=>exact q
theorem Inv.quiet(I:Inv X pins σ H s):interactive X.env=false:=#v[interactive,I.ok.kind]
def qu(te:TE):TS:=λD σ H=>te σ H λ_ H1=>D.nx σ H1
theorem wk(he:PE X e te)(hs:J8 e none pos.line X.env=pure false:=by rfl):PS X (.Expr e pos) (qu te):=by
 intro pins s σ H D I h;exact wpAny_Expr_any (aY (he pins s σ H _ I h) λv s1 ⟨x,H1,I1,r1,q1⟩=>⟨σ,H1,I1,q1⟩) I.quiet hs
def Lx(te:TE):TS:=λD σ H=>te σ H D.rt
theorem Bj(he:PE X e te):PS X (.Return (some e) pos) (Lx te):=by
 intro pins s σ H D I h;exact wpAny_Return_some (aY (he pins s σ H _ I h) λv s1 ⟨x,H1,I1,r1,q1⟩=>⟨x,σ,H1,I1,r1,q1⟩)
def Ly(c:TT)(t u:TS):TS:=λD σ H=>c σ H λb H1=>if b=true then t D σ H1 else u D σ H1
theorem Lz{a}(hc:PT X c tc)(ha:dR X a t)(hb:dR X b u):PS X (.If c a b pos) (Ly tc t u):=by
 intro pins s σ H D I h;refine wpAny_If (aY (hc pins s σ H _ I h) λd s1 ⟨H1,I1,q1⟩=>?_)
 cases d with
 | true=>exact ha pins s1 σ H1 D I1 q1
 | false=>exact hb pins s1 σ H1 D I1 q1
def Bk:TS:=λ_ _ _=>False
theorem LA:PS X st Bk:=λ_ _ _ _ _ _ h=>h.elim
theorem LB:dR X tK Bk:=λ_ _ _ _ _ _ h=>h.elim
end
abbrev TG:=V->St->Hp->(St->Hp->Prop)->Prop
abbrev lN:=List V->St->Hp->(St->Hp->Prop)->Prop
def PG(X:Cx)(target:Expr)(t:TG):Prop :=
 ∀ (pins:List (Addr×Obj)) (s:W4) (σ:St) (H:Hp) (v:V) (u:Value) (Q:St->Hp->Prop),Inv X pins σ H s->RelV v u->t v σ H Q ->
  W8 (model X.prog X.w) X.A (assign target X.env u) (λ_ s'=>∃ σ' H',Inv X pins σ' H' s'/\Q σ' H') X.xe s
def iK(X:Cx)(ts:List Expr)(t:lN):Prop :=
 ∀ (pins:List (Addr×Obj)) (s:W4) (σ:St) (H:Hp) (vs:List V) (us:List Value) (Q:St->Hp->Prop),Inv X pins σ H s->Vals vs us->t vs σ H Q ->
  W8 (model X.prog X.w) X.A (assignInOrder ((QC ts X.env).map (·.2)) us) (λ_ s'=>∃ σ' H',Inv X pins σ' H' s'/\Q σ' H') X.xe s
abbrev Bl:=V->V->V->Hp->(Hp->Prop)->Prop
def Bm(X:Cx)(t:Bl):Prop :=
 ∀ (pins:List (Addr×Obj)) (s:W4) (σ:St) (H:Hp) (o i v:V) (ov iv u:Value) (Q:Hp->Prop),Inv X pins σ H s->RelV o ov->RelV i iv->RelV v u->t o i v H Q ->
  W8 (model X.prog X.w) X.A (setItem ov iv u) (λ_ s'=>∃ H',Inv X pins σ H' s'/\Q H') X.xe s
def oH(i:Nat):TG:=λv σ H Q=>Q (σ.set i (some v)) H
theorem tL(hN:X.N.Nodup)(hi:X.N[i]? = some x)(hx:Loc X.env.scope x)(hf:X.fn x=true\/X.env.scope.names.lookup x=some .local:=by first | exact .inl rfl | exact .inr rfl | assumption):PG X (.Name x pos) (oH i):=by
 intro pins s σ H v u Q I r h;exact wpAny_assign_Name (we I hN hi hx r (λs' I'=>⟨_,H,I',h⟩) hf)
def Bn:lN:=λvs σ H Q=>vs=[]/\Q σ H
def wm(t:TG)(u:lN):lN:=λvs σ H Q=>∃ v r,vs=v :: r/\t v σ H λσ' H'=>u r σ' H' Q
theorem wo:iK X [] Bn:=by
 intro pins s σ H vs us Q I r h;obtain⟨e,h⟩:=h;subst e
 cases r;exact assignInOrder_nil ⟨σ,H,I,h⟩
theorem tM{u}(h1:PG X e t)(h2:iK X es u)
  (hs:(QC (e :: es) X.env).map (·.2)=assign e X.env :: (QC es X.env).map (·.2):=by rfl):iK X (e :: es) (wm t u):=by
 intro pins s σ H vs us Q I r h;obtain⟨v,vr,e1,h⟩:=h;subst e1
 cases r with
 | cons r rr =>
  rw[hs];refine assignInOrder_cons (aY (h1 pins s σ H _ _ _ I r h) λ_ s1 ⟨σ1,H1,I1,q1⟩=>?_);exact h2 pins s1 σ1 H1 _ _ Q I1 rr q1
def Bo(K:W5)(n:Nat)(t:lN):TG:=λv σ H Q=>∃ a xs,v = .ref a/\di K H a xs/\xs.length=n/\t xs σ H Q
theorem wq(hc:X.calm=true)(h:iK X es t)
  (hn:(QC es X.env).length=n:=by rfl) (c9:(QC es X.env).findIdx? (·.1)=none:=by rfl):PG X (.Tuple es k pos) (Bo X.K n t):=by
 intro pins s σ H v u Q I r hw;obtain⟨a,xs,e1,hq,hl,hw⟩:=hw;subst e1
 cases r;obtain⟨ak,rv,ht,hz⟩:=I.tuple hq;refine assign_Tuple_tuple (I.ok.hd hc) ht (by simp[hn,<- hl,rv.length]) c9 λh' hx=>?_
 have I1:Inv X pins σ H { s with heap:=h' }:=I.kept (t':=s.toks) λb o e=>hx b o (WX (Ws e)) e
 exact h pins _ σ H xs _ Q I1 (~~~rv) hw
def LC(to ti:TE)(t:Bl):TG:=λv σ H Q=>to σ H λo H1=>ti σ H1 λi H2=>t o i v H2 λH3=>Q σ H3
theorem LD{i}(ho:PE X o to)(hi:PE X i ti)(hs:Bm X t)
  (ha:∀ v,assign (.Subscript o i pos) X.env v=(do
   let ov <- holding [v] (eval o X.env)
   let iv <- holding [v,ov] (eval i X.env)
   standAt pos
   holding [v,ov,iv] (setItem ov iv v)
   release [v,ov,iv] []):=by intro _; rfl):PG X (.Subscript o i pos) (LC to ti t):=by
 intro pins s σ H v u Q I r h;rw[ha];refine W0 (WL (aY (ho pins s σ H _ I h) λov s1 ⟨x,H1,I1,r1,q1⟩=>?_));refine W0 (WL (aY (hi pins s1 σ H1 _ I1 q1) λiv s2 ⟨y,H2,I2,r2,q2⟩=>?_));refine W0 (wpAny_standAt (W0 (WL (aY (hs pins s2 σ H2 x y v ov iv u _ I2 r1 r2 r q2) λ_ s3 ⟨H3,I3,q3⟩=>?_))));exact wpAny_release ⟨σ,H3,I3,q3⟩
def tN(te:TE)(g:TG):TS:=λD σ H=>te σ H λx H1=>g x σ H1 D.nx
theorem Bp(he:PE X e te)(hg:PG X tg g)(hs:swapsWithSole [tg] e pos.line X.env=pure false:=by rfl)(hw:swappedStores [tg] e X.env=pure none:=by rfl)
  (h1:(QC [tg] X.env).map (·.2)=[assign tg X.env]:=by rfl):PS X (.Assign [tg] e pos) (tN te g):=by
 intro pins s σ H D I h;refine wpAny_Assign_stores (aY (he pins s σ H _ I h) λv s1 ⟨x,H1,I1,r1,q1⟩=>?_) hs hw;rw[h1];exact aY (hg pins s1 σ H1 x v _ I1 r1 q1) λ_ s2 q=>q
theorem Bq(hN:X.N.Nodup)(hi:X.N[i]? = some x)(hx:Loc X.env.scope x)(he:PE X e te)(hs:J8 e (some (.Name x pos')) pos.line X.env=pure false:=by rfl)(hf:X.fn x=true\/X.env.scope.names.lookup x=some .local:=by first | exact .inl rfl | exact .inr rfl | assumption) :
  PS X (.Assign [.Name x pos'] e pos) (tN te (oH i)):=by
 intro pins s σ H D I h;refine wpAny_Assign_Name (aY (he pins s σ H _ I h) λv s1 ⟨y,H1,I1,r1,q1⟩=>?_) hs;exact we I1 hN hi hx r1 (λs2 I2=>⟨_,H1,I2,q1⟩) hf
def Br(c:TT)(tb:TS):TS:=λD σ H=>∃ W:Nat->St->Hp->Prop,(∃ m,W m σ H)/\∀ m σ H,W m σ H ->
 c σ H λb H1=>if b=true then ∃ N:St->Hp->Prop,(∀ σ' H',N σ' H'->∃ m',m' < m/\W m' σ' H')/\tb { D with nx:=N,ct:=N,bk:=D.nx } σ H1 else D.nx σ H1
theorem Bs{tb}(hp:PassesOwn (model X.prog X.w) X.A X.env X.xe)(hc:PT X c tc)(hb:dR X body tb):PS X (.While c body [] pos) (Br tc tb):=by
 intro pins s σ H D I h;obtain⟨W,⟨m0,w0⟩,turn⟩:=h;refine wpAny_While (codeAny_whileLoop (λn s'=>∃ σ' H',Inv X pins σ' H' s'/\W n σ' H') ?_ m0 ⟨σ,H,I,w0⟩);rintro n s1 ⟨σ1,H1,I1,w1⟩;refine Ji hp (aY (hc pins s1 σ1 H1 _ I1 (turn n σ1 H1 w1)) λb s2 ⟨H2,I2,q2⟩=>?_)
 cases b with
 | true =>
  obtain⟨N,hN,q2⟩:=q2;rw[if_pos rfl];refine Ji hp (aY (hb pins s2 σ1 H2 _ I2 q2) λf s3 q3=>?_)
  cases f with
  | next =>
   obtain⟨σ3,H3,I3,n3⟩:=q3;obtain⟨m',hm,w3⟩:=hN σ3 H3 n3;exact⟨m',hm,σ3,H3,I3,w3⟩
  | cont =>
   obtain⟨σ3,H3,I3,n3⟩:=q3;obtain⟨m',hm,w3⟩:=hN σ3 H3 n3;exact⟨m',hm,σ3,H3,I3,w3⟩
  | brk=>exact q3
  | ret v=>exact q3
 | false =>
  rw[if_neg WC];exact wpAny_execs_nil ⟨σ1,H2,I2,q2⟩
structure It where
 go:Nat->Hp->Prop
 qv:Nat->Hp->V->Hp->Prop
 stop:Nat->Hp->Prop
def gh(X:Cx)(pins:List (Addr×Obj))(H:Hp)(b:Addr):Prop :=
 H b=none/\b≠X.env.locals/\b ∉ X.fs/\(b ∈ X.ex\/X.s₀.heap.objs.size<=b)/\(∀ x c,X.env.cells.lookup x=some c->c≠b)/\∀ p ∈ X.pn ++ pins,p.1≠b
theorem Inv.jD(I:Inv X pins σ H s)(hb:s.heap.objs.size<=b)(hn:H' b=none):gh X pins H' b:=by
 refine⟨hn,JQ (WH I.lt hb),I.K5 hb,.inr (Qc I.sz hb),λx c e z=>?_,λp hp z=>?_⟩
 ·obtain⟨v,q⟩:=I.cell x c e;exact absurd (WH q.lt %[z|hb]) (Qg _)
 ·exact absurd (WH (Ws (I.pin p hp).1) %[z|hb]) (Qg _)
structure Turn(P:Wo)(w:Wt)(K:W5)(tg:Expr)(J:It)(fp:List Addr)(it:Addr)(tn:Nat->Heap->Prop):Prop where
 mem:it ∈ fp
 obj:∀ i h,tn i h->∀ b ∈ fp,∃ o,h.get? b=some o/\∀ v,o.data≠.cell v
 keep:∀ i h h',tn i h->(∀ b ∈ fp,∀ o,h.get? b=some o->h'.get? b=some o)->tn i h'
 item:∀ (X:Cx),X.prog=P->X.w=w->X.K=K->X.calm=true->∀ (i:Nat) (pins:List (Addr×Obj)) (s:W4) (σ:St) (H:Hp) (E:Value->W4->Prop),Inv X pins σ H s->(∀ b ∈ fp,gh X pins H b)->tn i s.heap->J.go i H ->
  W8 (model P w) X.A (QA (.ref it)) (λr s1=>∃ u,r=some u /\
   W8 (model P w) X.A (JH tg (.ref it) u) (λ_ s2=>∃ x H',Inv X pins σ H' s2/\RelV x u/\J.qv i H x H'/\tn (i + 1) s2.heap/\∀ b ∈ fp,H' b=none) E s1) E s
 done:∀ (X:Cx),X.prog=P->X.w=w->X.K=K->X.calm=true->∀ (i:Nat) (pins:List (Addr×Obj)) (s:W4) (σ:St) (H:Hp) (E:Value->W4->Prop),Inv X pins σ H s->(∀ b ∈ fp,gh X pins H b)->tn i s.heap->J.stop i H ->
  W8 (model P w) X.A (QA (.ref it)) (λr s1=>r=none/\Inv X pins σ H s1) E s
 self:∀ (A:Wv) (i:Nat) (s:W4) (Q:Value->W4->Prop) (E:Value->W4->Prop),tn i s.heap->Q (.ref it) s->W8 (model P w) A (pyIter (.ref it)) Q E s
abbrev TI:=St->Hp->(It->Hp->Prop)->Prop
def Bt(X:Cx)(pins:List (Addr×Obj))(σ:St)(tg:Expr)(R:It->Hp->Prop)(tO:Value)(s2:W4):Prop :=
 ∃ (it:Addr) (fp:List Addr) (tn:Nat->Heap->Prop) (J:It) (H':Hp),tO = .ref it/\Inv X pins σ H' s2/\Turn X.prog X.w X.K tg J fp it tn/\tn 0 s2.heap/\(∀ b ∈ fp,gh X pins H' b)/\R J H'
def PI(X:Cx)(tg iter:Expr)(wi:TI):Prop :=
 ∀ (pins:List (Addr×Obj)) (s:W4) (σ:St) (H:Hp) (R:It->Hp->Prop),Inv X pins σ H s->wi σ H R ->
  W8 (model X.prog X.w) X.A (eval iter X.env) (λv s1=>W8 (model X.prog X.w) X.A (pyIter v) (Bt X pins σ tg R) X.xe s1) X.xe s
theorem qw{n Q vs}(ho:s.heap.get? it=some o)(hc:o.cls = .type n)(hd:o.data = .fields vs)
  (hn:["enumerate","zip","dict_itemiterator","dict_reverseitemiterator","odict_iterator","itertools.zip_longest","itertools.pairwise"].contains n=false) (hQ:Q () s):W8 M A (JH tg (.ref it) u) Q E s:=by
 unfold JH
 cases tg <;> first
  | exact W3 hQ
  | (cases u <;> first
    | exact W3 hQ
    | (refine W0 (wpAny_load ho ?_); rw[hc,hd]; show W8 M A (if (["enumerate","zip","dict_itemiterator","dict_reverseitemiterator","odict_iterator","itertools.zip_longest","itertools.pairwise"].contains n && vs[0]? == some (Qa _))=true then _ else _) Q E s; rw[if_neg (by intro h; rw[hn,Bool.false_and] at h; cases h)]; exact W3 hQ))
def wt(K:W5)(a:Addr):It :=
 ⟨λi H=>∃ xs x,cP K H a xs/\xs[i]? = some x,λi H x H'=>H'=H/\∀ xs,cP K H a xs->xs[i]? = some x,λi H=>∃ xs,cP K H a xs/\xs.length<=i⟩
def wu(K:W5)(a:Addr):It :=
 ⟨λi H=>∃ xs x,di K H a xs/\xs[i]? = some x,λi H x H'=>H'=H/\∀ xs,di K H a xs->xs[i]? = some x,λi H=>∃ xs,di K H a xs/\xs.length<=i⟩
def tP(lo:Int)(n:Nat):It:=⟨λi _=>i < n,λi H x H'=>H'=H/\x = .int (lo + i),λi _=>n<=i⟩
theorem LF(a it):Turn P w K tg (wt K a) [it] it (λi h=>h.IsListIter it a i) where
 mem:=by simp
 obj:=λi h st b hb=>by
  have e:b=it:= ~~~hb
  subst e;obtain⟨o,e,c,d⟩:=st;exact⟨o,e,λv z=>by rw[d] at z; cases z⟩
 keep:=λi h h' st k=>st.at λo e=>k it Z5 o e
 item:=by
  intro X hP hw hK hc i pins s σ H E I hf st hg;subst hP hw hK;obtain⟨xs,x,hq,hx⟩:=hg;obtain⟨ak,rv,p,hz⟩:=I.list hq;obtain⟨u,hu,ru⟩:=rv.get hx;obtain⟨f0,f1,f2,f3,f4,f5⟩:=hf it Z5;refine wpAny_pyNext_list_item st p.isList (x:=u) (~~~hu) λh' cF sb=>?_
  have I1:Inv X pins σ H { s with heap:=h' }:=I.turned (t':=s.toks) (λb o hb e=>(sb.2 b hb).trans e) f0 f1 f3 f4 f5;obtain⟨o,e,c,d⟩:=id cF;exact⟨u,rfl,qw (s:={ s with heap:=h' }) e c d Z' ⟨x,H,I1,ru,⟨rfl,λys hy=>%[I.Bg hy hq|hx]⟩,cF,λb hb=>(hf b hb).1⟩⟩
 done:=by
  intro X hP hw hK hc i pins s σ H E I hf st hg;subst hP hw hK;obtain⟨xs,hq,hx⟩:=hg;obtain⟨ak,rv,p,hz⟩:=I.list hq;obtain⟨f0,f1,f2,f3,f4,f5⟩:=hf it Z5;have hl:=rv.length;exact wpAny_pyNext_list_end (I.ok.hd hc) st p.isList Z6 λh' eb=>⟨rfl,I.turned (t':=s.toks) (λb o hb e=>eb b o hb e) f0 f1 f3 f4 f5⟩
 self:=λ_ _ _ _ _ st h=>wpAny_pyIter_listiter st h
theorem LG(a it):Turn P w K tg (wu K a) [it] it (λi h=>h.IsTupleIter it a i) where
 mem:=by simp
 obj:=λi h st b hb=>by
  have e:b=it:= ~~~hb
  subst e;obtain⟨o,e,c,d⟩:=st;exact⟨o,e,λv z=>by rw[d] at z; cases z⟩
 keep:=λi h h' st k=>st.at λo e=>k it Z5 o e
 item:=by
  intro X hP hw hK hc i pins s σ H E I hf st hg;subst hP hw hK;obtain⟨xs,x,hq,hx⟩:=hg;obtain⟨ak,rv,p,hz⟩:=I.tuple hq;obtain⟨u,hu,ru⟩:=rv.get hx;obtain⟨f0,f1,f2,f3,f4,f5⟩:=hf it Z5;refine wpAny_pyNext_tuple_item st (show s.heap.IsTuple a ak.toArray from p) (x:=u) (~~~hu) λh' cF sb=>?_
  have I1:Inv X pins σ H { s with heap:=h' }:=I.turned (t':=s.toks) (λb o hb e=>(sb.2 b hb).trans e) f0 f1 f3 f4 f5;obtain⟨o,e,c,d⟩:=id cF;exact⟨u,rfl,qw (s:={ s with heap:=h' }) e c d Z' ⟨x,H,I1,ru,⟨rfl,λys hy=>%[I.Bh hy hq|hx]⟩,cF,λb hb=>(hf b hb).1⟩⟩
 done:=by
  intro X hP hw hK hc i pins s σ H E I hf st hg;subst hP hw hK;obtain⟨xs,hq,hx⟩:=hg;obtain⟨ak,rv,p,hz⟩:=I.tuple hq;obtain⟨f0,f1,f2,f3,f4,f5⟩:=hf it Z5;have hl:=rv.length;exact wpAny_pyNext_tuple_end (I.ok.hd hc) st (show s.heap.IsTuple a ak.toArray from p) Z6 λh' eb=>⟨rfl,I.turned (t':=s.toks) (λb o hb e=>eb b o hb e) f0 f1 f3 f4 f5⟩
 self:=λ_ _ _ _ _ st h=>wpAny_pyIter_tupleiter st h
theorem LH(it)(lo:Int)(n:Nat):Turn P w K tg (tP lo n) [it] it (λi h=>IsRangeIter h it (lo + (i:Nat) * 1) ((n:Int) - (i:Nat)) 1) where
 mem:=by simp
 obj:=λi h st b hb=>by
  have e:b=it:= ~~~hb
  subst e;exact⟨_,st,λv z=>by
   have z':Data.fields _=Data.cell v:=z
   cases z'⟩
 keep:=λi h h' st k=>k it Z5 _ st
 item:=by
  intro X hP hw hK hc i pins s σ H E I hf st hg;subst hP hw hK;obtain⟨f0,f1,f2,f3,f4,f5⟩:=hf it Z5;have W:=Walks.range (prog:=X.prog) (w:=X.w) (I.ok.hd hc) it lo 1 n;refine W.item i s _ _ hg st λv h' tk hv cF kk=>?_
  obtain⟨t,rfl⟩:=hv;have I1:Inv X pins σ H { s with heap:=h',toks:=tk }:=I.turned (λb o hb e=>kk b o (~~~hb) e) f0 f1 f3 f4 f5;refine⟨_,rfl,qw (s:={ s with heap:=h',toks:=tk }) (n:="range_iterator") cF rfl rfl Z' ⟨.int (lo + i),H,I1,⟨t,?_⟩,⟨rfl,rfl⟩,cF,λb hb=>(hf b hb).1⟩⟩;rw[Int.mul_one]
 done:=by
  intro X hP hw hK hc i pins s σ H E I hf st hg;subst hP hw hK;obtain⟨f0,f1,f2,f3,f4,f5⟩:=hf it Z5;exact wpAny_pyNext_range_end (I.ok.hd hc) st (by have:n<=i:=hg; lia) λh' eb=>⟨rfl,I.turned (t':=s.toks) (λb o hb e=>eb b o hb e) f0 f1 f3 f4 f5⟩
 self:=λ_ _ _ _ _ st h=>wpAny_pyIter_rangeiter st h
theorem LI{R:It->Hp->Prop}{lo hi:Int}{t u v}{tk:Nat}(I:Inv X pins σ H s)(h1 : -(2 ^ 62)<=lo)(h2:lo < 2 ^ 62)(h3 : -(2 ^ 62)<=hi)(h4:hi < 2 ^ 62)
  (q:R (tP lo (hi - lo).toNat) H):W8 (model X.prog X.w) X.A (pyIter (.ref s.heap.objs.size)) (Bt X pins σ tg R) E { s with heap:=s.heap.push { cls:=.type "range",data:=.fields #[.int lo t,.int hi u,.int 1 v] },toks:=tk }:=by
 refine wpAny_pyIter_range (IsRange.new ..) (small_one h1 h2 h3 h4) ?_;have I1:Inv X pins σ H { s with heap:=s.heap.push { cls:=.type "range",data:=.fields #[.int lo t,.int hi u,.int 1 v] },toks:=tk }:=I.kept λb o e=>W7 _ e
 refine⟨(s.heap.push { cls:=.type "range",data:=.fields #[.int lo t,.int hi u,.int 1 v] }).objs.size,[(s.heap.push { cls:=.type "range",data:=.fields #[.int lo t,.int hi u,.int 1 v] }).objs.size],_,_,H,rfl,
  I1.kept (t':=tk) λb o e=>W7 _ e,LH _ lo (hi - lo).toNat,?_,λb hb=>?_,q⟩
 ·have e1:lo + ((0:Nat):Int) * 1=lo:=by simp
  have e2:(((hi - lo).toNat:Nat):Int) - ((0:Nat):Int)=Builtin.Range.rangeSize lo hi 1:=by rw[rangeSize_one]; split <;> lia
  show IsRangeIter _ _ (lo + ((0:Nat):Int) * 1) ((((hi - lo).toNat:Nat):Int) - ((0:Nat):Int)) 1;rw[e1,e2];exact Wh _ rfl
 ·have e:b=(s.heap.push { cls:=.type "range",data:=.fields #[.int lo t,.int hi u,.int 1 v] }).objs.size:=by grind
  subst e;exact I1.jD (Wi _) (I1.aC.fresh (Wi _))
def LJ(ta:TA):TI:=λσ H R=>ta σ H λvs H1=>∃ j:Int,vs=[.int j]/\-(2 ^ 62)<=j/\j < 2 ^ 62/\R (tP 0 j.toNat) H1
theorem LM {a ta p pos} (hg:Gl X "range") (hm:X.mg "range" = none) (ha:PA X [a] ta) (hs:Wd [a] X.env=[(false,eval a X.env)]:=by rfl):PI X tg (.Call (.Name "range" p) [a] [] pos) (LJ ta):=by
 intro pins s σ H R I h;refine Call_ (mX I hg hm boot_range (QO (aY (ha pos pins s σ H _ I h) λus s1 ⟨vs,H1,I1,r1,q1⟩=>?_) hs rfl));obtain⟨j,e,q1,q2,q⟩:=q1;subst e
 cases r1 with
 | cons r rr =>
  cases rr;obtain⟨t,rfl⟩:=r;exact call_range_1 (LI I1 Y' Y' q1 q2 (~~~q))
def LO(wi:TI)(g:TG)(tb:TS):TS:=λD σ H=>wi σ H λJ H1=>∃ W:Nat->Nat->St->Hp->Prop,(∃ m,W 0 m σ H1)/\∀ i m σ H,W i m σ H ->
 (J.stop i H/\D.nx σ H)\/(J.go i H/\∃ N:St->Hp->Prop,(∀ σ' H',N σ' H'->∃ m',m' < m/\W (i + 1) m' σ' H')/\∀ x H',J.qv i H x H'->g x σ H' λσ2 H2=>tb { D with nx:=N,ct:=N,bk:=D.nx } σ2 H2)
def qx(fp:List Addr)(h:Heap):List (Addr×Obj):=fp.filterMap λb=>(h.get? b).map λo=>(b,o)
theorem tQ(hb:b ∈ fp)(e:h.get? b=some o):(b,o) ∈ qx fp h:=List.mem_filterMap.mpr ⟨b,hb,by rw[e]; rfl⟩
theorem LP(hp:p ∈ qx fp h):p.1 ∈ fp/\h.get? p.1=some p.2:=by
 obtain⟨b,hb,e⟩:=List.mem_filterMap.mp hp
 cases q:h.get? b<;>grind
theorem Inv.pinned(I:Inv X pins σ H s)(hf:∀ b ∈ fp,gh X pins H b)(ho:∀ b ∈ fp,∃ o,s.heap.get? b=some o/\∀ v,o.data≠.cell v):Inv X (pins ++ qx fp s.heap) σ H s :=
 I.A_ λp hp=>(Qs.mp hp).elim (λz=>I.pin p (Q3 _ z)) λz=>by
  obtain⟨hb,e⟩:=LP z;obtain⟨f0,f1,f2,_⟩:=hf p.1 hb;obtain⟨o,e',d⟩:=ho p.1 hb;rw[e] at e'; cases e'
  exact⟨e,f0,f1,f2,d⟩
theorem Inv.tR(I:Inv X (pins ++ pl) σ H s):Inv X pins σ H s:=I.A_ λp hp=>I.pin p (Q3 _ (JV _ hp))
theorem Bu{tb}(hp:PassesOwn (model X.prog X.w) X.A X.env X.xe)(hc:X.calm=true)(hi:PI X tg iter wi)(hg:PG X tg g)(hb:dR X body tb)
  (hs:∀ x,J5 iter X.env x=pure x:=by intro _; rfl):PS X (.For tg iter body [] pos) (LO wi g tb):=by
 intro pins s σ H D I h;refine wpAny_For (aY (hi pins s σ H _ I h) λv s1 h1=>aY h1 λtO s2 h2=>?_) hs;obtain⟨it,fp,tn,J,H2,e,I2,T,st2,f2,W,⟨m0,w0⟩,turn⟩:=h2;subst e;-- what stays true of the iterator's objects through the loop
 have wx:∀ {H':Hp},(∀ b ∈ fp,H' b=none)->∀ b ∈ fp,gh X pins H' b:=λhn b hb=>⟨hn b hb,(f2 b hb).2⟩
 refine codeAny_forLoop_any (λn s'=>∃ i σ' H',Inv X pins σ' H' s'/\tn i s'.heap/\(∀ b ∈ fp,H' b=none)/\W i n σ' H') ?_ m0 ⟨0,σ,H2,I2,st2,λb hb=>(f2 b hb).1,w0⟩;rintro n s3 ⟨i,σ3,H3,I3,lO,fr3,w3⟩;rcases turn i n σ3 H3 w3 with ⟨stop,qn⟩ | ⟨go,N,hN,step⟩
 ·refine Ji hp (aY (T.done X rfl rfl rfl hc i pins s3 σ3 H3 X.xe I3 (wx fr3) lO stop) λr s4 ⟨hr,I4⟩=>?_);subst hr;exact wpAny_execs_nil ⟨σ3,H3,I4,qn⟩
 ·refine Ji hp (aY (T.item X rfl rfl rfl hc i pins s3 σ3 H3 X.xe I3 (wx fr3) lO go) λr s4 ⟨u,hr,h4⟩=>?_);subst hr;refine Ji hp (aY h4 λ_ s5 ⟨x,H5,I5,r5,y5,st5,fr5⟩=>?_);have LQ:=I5.pinned (wx fr5) (T.obj _ _ st5);refine Ji hp (aY (hg _ s5 σ3 H5 x u _ LQ r5 (step x H5 y5)) λ_ s6 ⟨σ6,H6,I6,q6⟩=>?_);refine Ji hp (aY (hb _ s6 σ6 H6 _ I6 q6) λf s7 q7=>?_);have again:∀ {σ7:St} {H7:Hp},Inv X (pins ++ qx fp s5.heap) σ7 H7 s7->N σ7 H7->∃ m,m < n/\∃ i σ' H',Inv X pins σ' H' s7/\tn i s7.heap/\(∀ b ∈ fp,H' b=none)/\W i m σ' H':=λ{σ7 H7} I7 n7=>by
   obtain⟨m',hm,w7⟩:=hN σ7 H7 n7;refine⟨m',hm,i + 1,σ7,H7,I7.tR,T.keep _ _ _ st5 λb hb o e=>(I7.pin (b,o) (Q3 _ (Q3 _ (tQ hb e)))).1,λb hb=>?_,w7⟩;obtain⟨o,e,d⟩:=T.obj _ _ st5 b hb;exact(I7.pin (b,o) (Q3 _ (Q3 _ (tQ hb e)))).2.1
  cases f with
  | next=>obtain⟨σ7,H7,I7,n7⟩:=q7; exact again I7 n7
  | cont=>obtain⟨σ7,H7,I7,n7⟩:=q7; exact again I7 n7
  | brk=>obtain⟨σ7,H7,I7,q7⟩:=q7; exact⟨σ7,H7,I7.tR,q7⟩
  | ret v=>obtain⟨x7,σ7,H7,I7,r7,q7⟩:=q7; exact⟨x7,σ7,H7,I7.tR,r7,q7⟩
abbrev R2:=V->V->Hp->VK->Prop
def cj(X:Cx)(f:Value->Value->Sem Value)(r:R2):Prop :=
 ∀ (pins:List (Addr×Obj)) (s:W4) (σ:St) (H:Hp) (x y:V) (v u:Value) (Q:VK),Inv X pins σ H s->RelV x v->RelV y u->r x y H Q ->
  W8 (model X.prog X.w) X.A (f v u) (EP X pins σ Q) X.xe s
def eO(X:Cx)(f:Value)(r:List V->Hp->VK->Prop):Prop :=
 ∀ (pins:List (Addr×Obj)) (s:W4) (σ:St) (H:Hp) (xs:List V) (us:List Value) (Q:VK),Inv X pins σ H s->Vals xs us->r xs H Q ->
  W8 (model X.prog X.w) X.A (call f us) (EP X pins σ Q) X.xe s
def mY(r:R2)(ta tb:TE):TE:=λσ H Q=>ta σ H λx H1=>tb σ H1 λy H2=>r x y H2 Q
def LR(r:V->Hp->VK->Prop)(ta:TE):TE:=λσ H Q=>ta σ H λx H1=>r x H1 Q
def rI(C:Int->Int->Prop)(g:Int->Int->V):R2:=λx y H Q=>∃ i j,x = .int i/\y = .int j/\C i j/\Q (g i j) H
def jE(g:Int->Int->V):R2:=λx y H Q=>∃ i j,x = .int i/\y = .int j/\Q (g i j) H
section
variable {a b c:Expr}{tc:TE}
theorem wz(ha:PE X a ta)(hb:PE X b tb){R:V->V->Hp->Prop}(I:Inv X pins σ H s)
  (h:ta σ H λx H1=>tb σ H1 λy H2=>R x y H2)  
  (hf:∀ v u s2 x y H2,Inv X pins σ H2 s2->RelV x v->RelV y u->R x y H2->W8 (model X.prog X.w) X.A (f v u) Q X.xe s2) :
  W8 (model X.prog X.w) X.A (eval a X.env) (λv s₁=>W8 (model X.prog X.w) X.A (eval b X.env) (λu s₂=>W8 (model X.prog X.w) X.A (f v u) Q X.xe s₂) X.xe s₁) X.xe s:=by
 refine aY (ha pins s σ H _ I h) λv s1 ⟨x,H1,I1,r1,q1⟩=>?_
 refine aY (hb pins s1 σ H1 _ I1 q1) λu s2 ⟨y,H2,I2,r2,q2⟩=>?_
 exact hf v u s2 x y H2 I2 r1 r2 q2
theorem Bv{op r}(ho:cj X (QL op) r)(ha:PE X a ta)(hb:PE X b tb):PE X (.BinOp a op b pos) (mY r ta tb):=by
 intro pins s σ H Q I h;exact wpAny_BinOp (wz ha hb I h λv u s2 x y H2 I2 rx ry q=>ho pins s2 σ H2 x y v u Q I2 rx ry q)
theorem tS{f:Value->Value->Sem Value}{C:Int->Int->Prop}{g:Int->Int->Int}
  (rule:∀ (i j:Int) t u (s:W4) (Q:Value->W4->Prop) (E:Value->W4->Prop),C i j->Q (.int (g i j) s.toks) { s with toks:=s.toks + 1 }->W8 (model X.prog X.w) X.A (f (.int i t) (.int j u)) Q E s) :
  cj X f (rI C λi j=>.int (g i j)):=by
 intro pins s σ H x y v u Q I rx ry h;obtain⟨i,j,rfl,rfl,hc,q⟩:=h;obtain⟨t,rfl⟩:=rx;obtain⟨t',rfl⟩:=ry;exact rule i j t t' s _ _ hc ⟨.int (g i j),H,I.tok _,⟨_,rfl⟩,q⟩
theorem Bw{f:Value->Value->Sem Value}{g:Int->Int->Int}
  (rule:∀ (i j:Int) t u (s:W4) (Q:Value->W4->Prop) (E:Value->W4->Prop),Q (.int (g i j) s.toks) { s with toks:=s.toks + 1 }->W8 (model X.prog X.w) X.A (f (.int i t) (.int j u)) Q E s) :
  cj X f (jE λi j=>.int (g i j)):=by
 intro pins s σ H x y v u Q I rx ry h;obtain⟨i,j,rfl,rfl,q⟩:=h;obtain⟨t,rfl⟩:=rx;obtain⟨t',rfl⟩:=ry;exact rule i j t t' s _ _ ⟨.int (g i j),H,I.tok _,⟨_,rfl⟩,q⟩
theorem qy{g:Int->Int->Bool}
  (rule:∀ (i j:Int) t u s (Q:Value->W4->Prop) (E:Value->W4->Prop),Q (.bool (g i j)) s->W8 (model X.prog X.w) X.A (f (.int i t) (.int j u)) Q E s) :
  cj X f (jE λi j=>.bl (g i j)):=by
 intro pins s σ H x y v u Q I rx ry h;obtain⟨i,j,rfl,rfl,q⟩:=h;obtain⟨t,rfl⟩:=rx;obtain⟨t',rfl⟩:=ry;exact rule i j t t' s _ _ ⟨.bl (g i j),H,I,rfl,q⟩
def Bx(i j:Int):Prop:=0 < j/\j < 1073741824
def By(i j:Int):Prop:=0<=j/\j<=1000000/\i.natAbs < 2 ^ 64
def qz(i j:Int):Prop:=(-(2 ^ 64) < i/\i < 2 ^ 64)\/(-(2 ^ 64) < j/\j < 2 ^ 64)
theorem qz.ok{i j}(h:qz i j):IntMulOk i j:=by
 rcases h with ⟨h1,h2⟩ | ⟨h1,h2⟩
 ·exact .of_left (intBits_le_64 h1 h2)
 ·exact .of_right (intBits_le_64 h1 h2)
theorem LS:cj X (QL .Add) (jE λi j=>.int (i + j)):=Bw λ_ _ _ _ _ _ _ q=>add_int q
theorem LU:cj X (QL .Sub) (jE λi j=>.int (i - j)):=Bw λ_ _ _ _ _ _ _ q=>sub_int q
theorem LV:cj X (QL .Mult) (rI qz λi j=>.int (i * j)):=tS λ_ _ _ _ _ _ _ hc q=>mul_int q hc.ok
theorem LW:cj X (QL .FloorDiv) (rI Bx λi j=>.int (i / j)):=tS λi j _ _ _ _ _ hc q=>by
 have h1:(0:Int) < j:=hc.1;have h2:j < 1073741824:=hc.2;exact floordiv_int Y' %[Int.fdiv_eq_ediv_of_nonneg i Y'|q] (.inl (PyProof.noPylong_small Y'))
theorem Bz:cj X (QL .Mod) (rI (λ_ j=>0 < j) λi j=>.int (i % j)):=tS λi j _ _ _ _ _ hc q=>by
 have h1:(0:Int) < j:=hc;exact mod_int' Y' %[Int.fmod_eq_emod_of_nonneg i Y'|q]
theorem LX:cj X (QL .Pow) (rI By λi j=>.int (i ^ j.toNat)):=tS λ_ _ _ _ _ _ _ hc q=>pow_int_small hc.1 hc.2.1 hc.2.2 q
theorem BA{Q}(I:Inv X pins σ H s)(q:Q (.bl k) H)(e:k=k'):EP X pins σ Q (.bool k') s:=by
 subst e;exact⟨.bl k,H,I,rfl,q⟩
theorem LY:cj X (Q7 .Lt) (jE λi j=>.bl (decide (i < j))):=qy λ_ _ _ _ _ _ _ q=>lt_int q
theorem LZ:cj X (Q7 .Gt) (jE λi j=>.bl (decide (j < i))):=qy λ_ _ _ _ _ _ _ q=>gt_int q
theorem L0:cj X (Q7 .GtE) (jE λi j=>.bl (decide (j<=i))):=qy λ_ _ _ _ _ _ _ q=>ge_int q
theorem L3:cj X (Q7 .Lt) (λx y H Q=>∃ i j,x = .str i/\y = .str j/\Q (.bl (decide (i.cps.toList < j.cps.toList))) H):=by
 intro pins s σ H x y v u Q I rx ry h;obtain⟨i,j,rfl,rfl,q⟩:=h;obtain⟨t,rfl⟩:=rx;obtain⟨t',rfl⟩:=ry;exact lt_str (BA I q rfl)
theorem L4:cj X (Q7 .NotIn) (λx y H Q=>∃ i j,x = .str i/\y = .str j/\Q (.bl (!(!(Builtin.Str.occurrences j i 0 j.length 1).isEmpty))) H):=by
 intro pins s σ H x y v u Q I rx ry h;obtain⟨i,j,rfl,rfl,q⟩:=h;obtain⟨t,rfl⟩:=rx;obtain⟨t',rfl⟩:=ry;exact notIn_str (BA I q rfl)
theorem cj.or(h:cj X f r)(h':cj X f r'):cj X f (λx y H Q=>r x y H Q\/r' x y H Q):=by
 intro pins s σ H x y v u Q I rx ry q;rcases q with q | q
 ·exact h pins s σ H x y v u Q I rx ry q
 ·exact h' pins s σ H x y v u Q I rx ry q
theorem fT(b)(h:op≠.In:=by decide)(h2:op≠.NotIn:=by decide):QM op b=false:=by
 have e1:(op == CmpOp.In)=false:=by cases op <;> first | rfl | exact absurd rfl h
 have e2:(op == CmpOp.NotIn)=false:=by cases op <;> first | rfl | exact absurd rfl h2
 cases b <;> simp[QM,e1,e2]
theorem BC{r}(ho:cj X (Q7 op) r)(ha:PE X a ta)(hb:PE X b tb)(hm:QM op b=false):PE X (.Compare a [op] [b] pos) (mY r ta tb):=by
 intro pins s σ H Q I h;exact wpAny_Compare1 (wz ha hb I h λv u s2 x y H2 I2 rx ry q=>ho pins s2 σ H2 x y v u Q I2 rx ry q) hm
def L5(t:TE):TT:=λσ H Q=>t σ H λx H'=>∃ k,x = .bl k/\Q k H'
theorem BD(ho:cj X (Q7 op) r)(ha:PE X a ta)(hb:PE X b tb)(hm:QM op b=false):PT X (.Compare a [op] [b] pos) (L5 (mY r ta tb)):=by
 intro pins s σ H Q I h;refine wpAny_isTrue_Compare1 (aY (ha pins s σ H _ I h) λv s1 ⟨x,H1,I1,r1,q1⟩=>aY (hb pins s1 σ H1 _ I1 q1) λu s2 ⟨y,H2,I2,r2,q2⟩ =>
  aY (ho pins s2 σ H2 x y v u _ I2 r1 r2 q2) λc s3 ⟨z,H3,I3,r3,k,e,q3⟩=>?_) hm
 subst e
 cases r3;exact J4 ⟨H3,I3,q3⟩
theorem oI:(Wa:Nat) < 2 ^ 63:=by rw[QN]; decide
theorem L6:cj X (QL .Add) (λx y H Q=>∃ i j,x = .str i/\y = .str j/\i.length + j.length<=Wa/\Q (.str (i ++ j)) H):=by
 intro pins s σ H x y v u Q I rx ry h;obtain⟨i,j,rfl,rfl,hz,q⟩:=h;obtain⟨t,rfl⟩:=rx;obtain⟨t',rfl⟩:=ry;exact add_str (λt' tk=>⟨.str (i ++ j),H,I.tok _,⟨_,rfl⟩,q⟩) hz
theorem g7{x}(r:Vals [x] us):∃ u,us=[u]/\RelV x u:=by
 cases r with
 | cons r1 r2=>cases r2; exact⟨_,rfl,r1⟩
theorem BF{x}(r:Vals [x,y] us):∃ u w',us=[u,w']/\RelV x u/\RelV y w':=by
 cases r with
 | cons r1 r2 =>
  cases r2 with
  | cons r3 r4=>cases r4; exact⟨_,_,rfl,r1,r3⟩
theorem L7 (hc:X.calm=true):eO X (.builtin "max") (λxs H Q=>∃ i j,xs=[.int i,.int j]/\Q (.int (if j > i then j else i)) H):=by
 intro pins s σ H xs us Q I r h;obtain⟨i,j,rfl,q⟩:=h;obtain⟨u,w',rfl,⟨t,rfl⟩,⟨t',rfl⟩⟩:=BF r;refine max_two_ints (I.ok.hd hc) λh' tk k=>⟨_,H,I.kept k,?_,q⟩
 by_cases hj:j > i
 ·rw[if_pos hj,if_pos hj]; exact⟨_,rfl⟩
 ·rw[if_neg hj,if_neg hj]; exact⟨_,rfl⟩
theorem L8:eO X (.type "int") (λxs H Q=>(∃ i,xs=[.int i]/\Q (.int i) H)\/∃ k,xs=[.bl k]/\Q (.int (if k then 1 else 0)) H):=by
 intro pins s σ H xs us Q I r h;rcases h with ⟨i,rfl,q⟩ | ⟨k,rfl,q⟩
 ·obtain⟨u,rfl,t,rfl⟩:=g7 r;exact call_int_int ⟨.int i,H,I,⟨_,rfl⟩,q⟩
 ·obtain⟨u,rfl,r1⟩:=g7 r
  cases r1;exact call_int_bool ⟨.int (if k then 1 else 0),H,I.tok _,⟨_,rfl⟩,q⟩
end
structure wB(h:Heap)(x dx C:Addr)(mA:Str->Option Value):Prop where
 obj:h.get? x=some (PySem.W.instObj C dx)
 ns:h.Ns1 dx mA
 ne:dx≠x
theorem L9(n:h.Ns1 dx mA):∃ od,h.get? dx=some od/\∀ name,PySem.W.lookIn name od=some (mA name):=by
 obtain⟨o,es,ep,ho,hd,hk,_,hm⟩:=n;refine⟨o,ho,λname=>?_⟩;have e:=hm name;unfold nsFind findBy at e;rw[<- Array.find?_toList] at e;unfold PySem.W.lookIn;rw[hd];dsimp only;split
 ·rename_i y q;rw[q] at e;exact congrArg some e
 ·rename_i q;rw[q] at e;have a:es.toList.any (·.refKey)=false:=by
   rw[JL];intro y hy;obtain⟨z,t,tU⟩:=hk y (Array.mem_toList_iff.mp hy);simp[DictEntry.refKey,tU]
  grind
theorem wB.look{x}(I:wB h x dx C mA):∃ od,PySem.W.InstAt h x (PySem.W.instObj C dx) C (some od)/\∀ name,PySem.W.lookIn name od=some (mA name) :=
 let ⟨od,ho,hl⟩:=L9 I.ns
 ⟨od,⟨I.obj,rfl,rfl,ho⟩,hl⟩
theorem gc.some_of(r:gc (some v) o):∃ u,o=some u/\RelV v u:=by
 cases o with
 | none=>exact(show False from r).elim
 | some u=>exact⟨u,rfl,r⟩
theorem gc.none_of(r:gc none o):o=none:=by
 cases o with
 | none=>rfl
 | some u=>exact(show False from r).elim
section
variable {fs:List (Str×V)}
theorem L_(aC:cL P w H h)(e:H a=some (.ins C dx fs)):∃ mA,wB h a dx C mA/\(∀ f,gc (fs.lookup f) (mA f))/\PySem.Within mA (fs.map (·.1))/\fs.length<=1000/\H dx=some (.own a):=by
 obtain⟨d,z,ne,ob,mA,n,r,q⟩:=(show cp P w H h a (.ins C dx fs) from aC a _ e)
 exact⟨mA,⟨ob,n,ne⟩,r,q,z,d⟩
end
structure wC(K:W5)(C:Addr):Prop where
 pg:PySem.W.plainGet K C Str.empty=true
 hd:PySem.W.hasDictIn K C=true
 po:PySem.W.plainOver K C=true
 sa:PySem.W.findIn K (.ref C) "__setattr__" = some (some (.builtin "object.__setattr__"))
theorem wC.get(c:wC K C)(f):PySem.W.plainGet K C f=true:=c.pg
section
variable {c:Value}{b:Bool}
inductive i8 (K:W5) (H:Hp):V->Value->Prop where
 | bp:i8 K H .bp (.type "NoneType")
 | bl (x:Bool):i8 K H (.bl x) (.type "bool")
 | int (i:Int):i8 K H (.int i) (.type "int")
 | str (x:Str):i8 K H (.str x) (.type "str")
 | flt (x:UInt64):i8 K H (.flt x) (.type "float")
 | lst {a:Addr} {xs:List V} (e:H a=some (.lst xs)):i8 K H (.ref a) (.type "list")
 | frz {a:Addr} {o:Obj} {xs:List V} (e:H a=some (.frz o (.lst xs))):i8 K H (.ref a) (.type "list")
 | tup {a:Addr} {xs:List V} (e:H a=some (.tup xs)):i8 K H (.ref a) (.type "tuple")
 | dK {a:Addr} {aj:List (Key×V)} (e:H a=some (.dK aj)):i8 K H (.ref a) (.type "dict")
 | dT {a:Addr} {aj:List (List Key×V)} (e:H a=some (.dT aj)):i8 K H (.ref a) (.type "dict")
 | ins {a C dx:Addr} {fs:List (Str×V)} (e:H a=some (.ins C dx fs)) (cl:wC K C) (ha:PySem.W.findIn K (.ref C) "__class__" = some (some (.builtin "object.__class__")))
   (hn:PySem.W.specialIn K (.builtin "object.__class__") "__get__" = some (some (.builtin "getset_descriptor.__get__"))) (BG:PySem.W.takesIn K (.builtin "object.__class__")=some true)
   (hm:PySem.W.mroIn K C (.type "object")=some true):i8 K H (.ref a) (.ref C)
theorem lP{x}(I:Inv X pins σ H s)(rx:RelV x u)(ty:i8 X.K H x t)(e:Jd X.K t c=some b)(h:∀ tk,Q (.bool b) { s with toks:=tk }) :
  W8 (model X.prog X.w) A (call (.builtin "isinstance") [u,c]) Q E s:=by
 cases ty with
 | bp=>cases (show u=Value.none from rx); exact Qz PySem.W.kitx_none I.e_ True.intro e (by grind) h
 | bl y=>cases (show u=Value.bool y from rx); exact Qz PySem.W.kitx_bool I.e_ True.intro e (by grind) h
 | int i=>obtain⟨t,q⟩:=(show ∃ t,u=Value.int i t from rx); cases q; exact Qz PySem.W.kitx_int I.e_ True.intro e (by grind) h
 | str y=>obtain⟨t,q⟩:=(show ∃ t,u=Value.str y t from rx); cases q; exact Qz PySem.W.kitx_str I.e_ True.intro e (by grind) h
 | flt y=>obtain⟨t,q⟩:=(show ∃ t,u=Value.float y t from rx); cases q; exact Qz PySem.W.kitx_float I.e_ True.intro e (by grind) h
 | @lst a xs ea =>
  cases (show u=Value.ref a from rx);obtain⟨_,_,n,_,h1⟩:=(show cp X.prog X.w H s.heap a (.lst xs) from I.aC a _ ea)
  exact Qz PySem.W.kitx_list I.e_ ⟨_,h1,rfl⟩ e (by grind) h
 | @frz a ob xs ea =>
  cases (show u=Value.ref a from rx);obtain⟨_,_,_,n,_,h1⟩:=(show cp X.prog X.w H s.heap a (.frz ob (.lst xs)) from I.aC a _ ea)
  exact Qz PySem.W.kitx_list I.e_ ⟨_,h1,rfl⟩ e (by grind) h
 | @tup a xs ea =>
  cases (show u=Value.ref a from rx);obtain⟨_,_,_,p⟩:=(show cp X.prog X.w H s.heap a (.tup xs) from I.aC a _ ea)
  obtain⟨o,h1,h2,_⟩:=p.tup;exact Qz PySem.W.kitx_tuple I.e_ ⟨o,h1,h2⟩ e (by grind) h
 | @dK a aj ea =>
  cases (show u=Value.ref a from rx);obtain⟨_,_,vs,_,p⟩:=(show cp X.prog X.w H s.heap a (.dK aj) from I.aC a _ ea)
  obtain⟨o,es,ep,h1,h2,_⟩:=p;exact Qz PySem.W.kitx_dict I.e_ ⟨o,h1,h2.1⟩ e (by grind) h
 | @dT a aj ea =>
  cases (show u=Value.ref a from rx);obtain⟨_,_,xs,_,o,es,ep,h1,h2,_⟩:=(show cp X.prog X.w H s.heap a (.dT aj) from I.aC a _ ea)
  exact Qz PySem.W.kitx_dict I.e_ ⟨o,h1,h2.1⟩ e (by grind) h
 | @ins a C dx fs ea cl ha hn BG hm =>
  cases (show u=Value.ref a from rx);obtain⟨mA,O,_⟩:=L_ I.aC ea;obtain⟨od,J,_⟩:=O.look;exact Qz (PySem.W.kitx_own (cl.get _) cl.hd ha hn BG hm) I.e_ J e (by grind) h
end
structure cQ(k:Nat)(A:Wv):Prop where
 hd:A.handled=none
 dp:A.depth + 3 * k + 5 < recursionLimit
 un:A.units + 16 * k + 200 < Qk
theorem cQ.mono(r:cQ k A)(h:j<=k):cQ j A:=⟨r.hd,by have:=r.dp; lia,by have:=r.un; lia⟩
theorem cQ.deeper(r:cQ (k + 1) A)(env):cQ k (A.deeper env) :=
 ⟨r.hd,by have:=r.dp; show A.depth + 1 + 3 * k + 5 < _; lia,by have:=r.un; show A.units + 3 + 16 * k + 200 < _; lia⟩
theorem cQ.depth(r:cQ k A):A.depth < recursionLimit:=by have:=r.dp; lia
def oJ:TA:=λ_ H Q=>Q [] H
def qA(ta:TE)(tr:TA):TA:=λσ H Q=>ta σ H λx H1=>tr σ H1 λxs H2=>Q (x :: xs) H2
section
variable {t:TA}
theorem g8:PA X [] oJ:=λ_ _ _ _ H Q I h=>Calls.spliced_nil ⟨[],H,I,.nil,h⟩
theorem fc(ha:PE X e te)(hr:PA X es t)(hs:Wd (e :: es) X.env=(false,eval e X.env) :: Wd es X.env:=by rfl):PA X (e :: es) (qA te t):=by
 intro pos pins s σ H Q I h;rw[hs];show W8 _ _ (spliced ((false,eval e X.env) :: Qv pos (Wd es X.env))) _ _ s;refine Calls.spliced_cons (aY (ha pins s σ H _ I h) λu s1 ⟨x,H1,I1,r1,q1⟩=>?_);exact aY (hr pos pins s1 σ H1 _ I1 q1) λus s2 ⟨xs,H2,I2,r2,q2⟩=>⟨x :: xs,H2,I2,.cons r1 r2,q2⟩
def Ma(t:TA):TE:=λσ H Q=>t σ H λxs H1=>xs.length<=Wa/\∀ p,H1 p=none->Q (.ref p) (upd H1 p (.tup xs))
def wD(t:TA):TE:=λσ H Q=>t σ H λxs H1=>xs.length<=Wa/\∀ p,H1 p=none->Q (.ref p) (upd H1 p (.lst xs))
theorem Mb{x1}(h:PA X es t):PE X (.Tuple es x1 pos) (Ma t):=by
 intro pins s σ H Q I hq;refine wpAny_Tuple_spliced (aY (h pos pins s σ H _ I hq) λus s1 ⟨xs,H1,I1,r,z,q⟩=>⟨by rw[<- r.length]; exact z,?_⟩);have hf:H1 s1.heap.objs.size=none:=I1.aC.fresh (Wi _);refine⟨.ref s1.heap.objs.size,upd H1 s1.heap.objs.size (.tup xs),I1.laid (t':=s1.toks) (λb u e=>W7 _ e) (Wi _) ?_,rfl,q _ hf⟩;exact⟨z,us,r,⟨_,Wh _ rfl⟩⟩
theorem BH(h:PA X es t):PE X (.List es pos) (wD t):=by
 intro pins s σ H Q I hq;refine wpAny_List_spliced (aY (h pos pins s σ H _ I hq) λus s1 ⟨xs,H1,I1,r,z,q⟩=>⟨by rw[<- r.length]; exact z,?_⟩);have hf:H1 s1.heap.objs.size=none:=I1.aC.fresh (Wi _);refine⟨.ref s1.heap.objs.size,upd H1 s1.heap.objs.size (.lst xs),I1.laid (t':=s1.toks) (λb u e=>W7 _ e) (Wi _) ?_,rfl,q _ hf⟩;exact⟨z,us,0,r,Wh _ rfl⟩
end
abbrev Sp:=List V->Hp->VK->XK->Prop
variable {sp:Sp}
abbrev kK:=List Env->Hp->W4->XK->Value->W4->Prop
variable {CX:kK}
structure qB(P:Wo)(w:Wt)(K:W5)(mg:Str->Option Value)(base:Heap)(A:Wv)(outer:List Env)(s:W4)(H:Hp):Prop where
 frames:A.frames=some outer
 mod:Mod K mg base
 bs:∀ b o,base.get? b=some o->s.heap.get? b=some o/\H b=none
 kI:base.objs.size<=s.heap.objs.size
 iJ:s.heap.FunFrames base outer
 mV:∀ b ∈ gZ outer,H b=none
 aC:cL P w H s.heap
 bare:AllBare s.gens
def CE(outer:List Env)(P:Wo)(w:Wt)(H:Hp)(s:W4)(Q:VK)(u:Value)(s':W4):Prop :=
 ∃ v H',s'.os=s.os/\AllBare s'.gens/\Un (gZ outer) [] H H' s.heap s'.heap/\cL P w H' s'.heap/\RelV v u/\Q v H'
def CR(CX:kK)(outer:List Env)(P:Wo)(w:Wt)(H:Hp)(s:W4)(Q:VK)(E:XK)(r:Result)(s':W4):Prop :=
 match r with
 | .ok (.ret u)=>CE outer P w H s Q u s'
 | .ok _=>False
 | .error e=>CX outer H s E e s'
structure i9(P:Wo)(w:Wt)(K:W5)(mg:Str->Option Value)(base:Heap)(CX:kK)(k:Nat)(f:Addr)(fd:Qh)(ps:List Str)(sp:Sp):Prop where
 len:∀ vs H Q E,sp vs H Q E->vs.length=ps.length
 run:∀ (A:Wv) (outer:List Env) (s:W4) (H:Hp) (args:Args) (us:List Value) (vs:List V) (Q:VK) (E:XK),cQ k A->qB P w K mg base A outer s H->BindsTo s fd args (ps.zip us)->Vals vs us->sp vs H Q E ->
  Ju (model P w) A (.call (.ref f) args) (CR CX outer P w H s Q E) s
section
variable {s':W4}
theorem Inv.wF(I:Inv X pins σ H s):qB X.prog X.w X.K X.mg X.base X.A X.stack s H :=
 ⟨I.ok.frames,I.ok.mod,I.bs,Qc I.ok.kI I.sz,I.stack,I.A8,I.aC,I.bare⟩
theorem Inv.after{Q}(I:Inv X pins σ H s)(h:CE X.stack X.prog X.w H s Q u s'):EP X pins σ Q u s':=by
 obtain⟨v,H',os,bare,un,aC,r,q⟩:=h;obtain⟨hh,g,d,t,os'⟩:=s';obtain rfl:os'=s.os:=os;exact⟨v,H',I.call (h':=hh) (g':=g) (d':=d) (t':=t) (ch:=[]) un aC bare (λb z=>absurd z Z5),r,q⟩
end
def wH(sp:Sp)(lQ:List V)(E:XK)(t:TA):TE:=λσ H Q=>t σ H λvs H1=>sp (vs ++ lQ) H1 Q E
def Binds(K:W5)(fd:Qh)(ps:List Str)(ds:List Value):Prop :=
 ∀ (s:W4) (us:List Value),K.In s.heap->(us ++ ds).length=ps.length->BindsTo s fd ⟨us,[]⟩ (ps.zip (us ++ ds))
theorem Binds.all(h:∀ us:List Value,us.length=ps.length->bindArgs fd ⟨us,[]⟩=pure (ps.zip us)):Binds K fd ps []:=λs us _ hl=>by
 rw[Ql] at hl ⊢;exact .of_eq (h us hl)
def wI(CX:kK)(X:Cx)(E:XK):Prop:=∀ (pins:List (Addr×Obj)) (σ:St) (H:Hp) (s:W4) (e:Value) (s':W4),Inv X pins σ H s->CX X.stack H s E e s'->X.xe e s'
section
variable {k:Nat}{f:Addr}{ds:List Value}{E:XK}{m:Str}{p:Pos}{o:Expr}{t:TA}
theorem Mc{Q}(F:i9 X.prog X.w X.K X.mg X.base CX k f fd ps sp)(hr:cQ k X.A)(hb:Binds X.K fd ps ds)(hd:Vals lQ ds)(hx:wI CX X E)
  (I:Inv X pins σ H s) (r:Vals vs us) (h:sp (vs ++ lQ) H Q E):W8 (model X.prog X.w) X.A (call (.ref f) us) (EP X pins σ Q) X.xe s:=by
 have r2:Vals (vs ++ lQ) (us ++ ds):=r.append hd;have hl:(us ++ ds).length=ps.length:=by rw[<- r2.length]; exact F.len _ _ _ _ h
 refine wpAny_call (codeAny_mono (F.run X.A X.stack s H ⟨us,[]⟩ (us ++ ds) (vs ++ lQ) Q E hr I.wF (hb s us I.e_ hl) r2 h) λr s' hq=>?_)
 cases r with
 | error e=>exact hx pins σ H s e s' I hq
 | ok fl =>
  cases fl with
  | ret u=>exact I.after hq
  | next=>exact False.elim hq
  | brk=>exact False.elim hq
  | cont=>exact False.elim hq
theorem wJ(F:i9 X.prog X.w X.K X.mg X.base CX k f fd ps sp)(hr:cQ k X.A)(hg:Gl X x)(hm:X.mg x=some (.ref f))(hk:Jv X.K (.ref f)=true)(hb:Binds X.K fd ps ds)(hd:Vals lQ ds)(hx:wI CX X E)
  (ha:PA X (e :: es) t) (gi:(x == ("__debug__" : Str))=false:=by decide) (he:Wd (e :: es) X.env=(false,eval e X.env) :: Wd es X.env:=by rfl) (cB:(Qv pos (Wd es X.env)).any (·.1)=false:=by rfl) :
  PE X (.Call (.Name x p) (e :: es) [] pos) (wH sp lQ E t):=by
 intro pins s σ H Q I h;refine JI (wj I hg hm ?_ gi);refine PySem.W.callWith_K (h₀:=X.base) I.ok.mod.qo hk (aY (ha pos pins s σ H _ I h) λus s1 ⟨vs,H1,I1,r,q⟩=>⟨I1.e_,?_⟩) he cB;exact Mc F hr hb hd hx I1 r q
end
def PK(X:Cx)(BI:List Keyword)(t:TA):Prop :=
 ∀ (pos:Pos) (pins:List (Addr×Obj)) (s:W4) (σ:St) (H:Hp) (Q:List V->Hp->Prop),Inv X pins σ H s->t σ H Q->W8 (model X.prog X.w) X.A (evalAll ((backToKw pos (Uk BI X.env)).map (·.2))) (AP X pins σ Q) X.xe s
structure gj(N P:List Str)(sc:Scope):Prop where
 kind:sc.kind = .function
 co:sc.isCoroutine=false
 gen:sc.isGenerator=false
 nd:N.Nodup
 pre:N.take P.length=P
 par:∀ x ∈ P,sc.names.lookup x=some .local\/sc.names.lookup x=some .cell
 wK:∀ y ∈ sc.names,y.2≠.free
theorem scc{N P:List Str}(kind:sc.kind = .function:=by rfl)(co:sc.isCoroutine=false:=by rfl)(gen:sc.isGenerator=false:=by rfl)(nd:N.Nodup:=by decide +kernel)(pre:N.take P.length=P:=by rfl)(par:∀ x ∈ P,sc.names.lookup x=some .local\/sc.names.lookup x=some .cell:=by decide +kernel)(wK:∀ y ∈ sc.names,y.2≠.free:=by decide +kernel):gj N P sc:=⟨kind,co,gen,nd,pre,par,wK⟩
theorem BJ:∀ {binds:List (Str×Value)} {m:Str->Option Value},(∀ v,(x,v) ∉ binds)->bindL kindOf binds m x=m x
 | [],_,_=>rfl
 | (n,v) :: r,m,h=>by
  unfold bindL;rw[BJ λw hw=>h w (Wg _ hw)];split;all_goals grind
theorem BK:∀ {binds:List (Str×Value)} {m:Str->Option Value},(∀ v,(x,v) ∉ binds)->bindC kindOf binds m x=m x
 | [],_,_=>rfl
 | (n,v) :: r,m,h=>by
  unfold bindC;rw[BK λw hw=>h w (Wg _ hw)];split;all_goals grind
theorem BM{kindOf:Str->Option NameKind}{x v}:∀ {P:List Str} {vs:List Value} {i:Nat} {m:Str->Option Value},P.Nodup->P[i]? = some x->vs[i]? = some v->kindOf x=some .local ->
  bindL kindOf (P.zip vs) m x=some v
 | [],_,_,_,_,h,_,_=>by simp at h
 | _ :: _,[],_,_,_,_,h,_=>by simp at h
 | p :: P,w :: vs,0,m,nd,h1,h2,hk=>by
  simp at h1 h2; subst h1; subst h2
  show bindL kindOf ((p,w) :: P.zip vs) m p=_;unfold bindL;rw[BJ λv hv=>(WN.mp nd).1 (Ut hv).1,if_pos hk];simp
 | p :: P,w :: vs,i + 1,m,nd,h1,h2,hk=>by
  show bindL kindOf ((p,w) :: P.zip vs) m x=_;unfold bindL;exact BM (i:=i) (WN.mp nd).2 (~~~h1) (~~~h2) hk
theorem BN{kindOf:Str->Option NameKind}{x v}:∀ {P:List Str} {vs:List Value} {i:Nat} {m:Str->Option Value},P.Nodup->P[i]? = some x->vs[i]? = some v->kindOf x≠some .local ->
  bindC kindOf (P.zip vs) m x=some v
 | [],_,_,_,_,h,_,_=>by simp at h
 | _ :: _,[],_,_,_,_,h,_=>by simp at h
 | p :: P,w :: vs,0,m,nd,h1,h2,hk=>by
  simp at h1 h2; subst h1; subst h2
  show bindC kindOf ((p,w) :: P.zip vs) m p=_;unfold bindC;rw[BK λv hv=>(WN.mp nd).1 (Ut hv).1,if_neg hk];simp
 | p :: P,w :: vs,i + 1,m,nd,h1,h2,hk=>by
  show bindC kindOf ((p,w) :: P.zip vs) m x=_;unfold bindC;exact BN (i:=i) (WN.mp nd).2 (~~~h1) (~~~h2) hk
def gk(N:List Str)(vs:List V):St:=vs.map some ++ Wm (N.length - vs.length) none
def fU(CX:kK)(P:Wo)(w:Wt)(K:W5)(mg:Str->Option Value)(base:Heap)(N:List Str)(qual:Str)(scope:Scope)(f:Addr)(cd:Value)(A:Wv)(outer:List Env)(s:W4)(H:Hp)(E:XK):Cx where
 prog:=P
 w:=w
 K:=K
 mg:=mg
 base:=base
 A:=A.deeper (Jo qual scope s.heap.objs.size f cd)
 N:=N
 s₀:=s
 H₀:=H
 env:=Jo qual scope s.heap.objs.size f cd
 outer:=outer
 stack:=Jo qual scope s.heap.objs.size f cd :: outer
 ex:=[]
 calm:=true
 fn:=λ_=>true
 pn:=[]
 xe:=λe s'=>W8 (model P w) (A.deeper (Jo qual scope s.heap.objs.size f cd)) (leaving (Jo qual scope s.heap.objs.size f cd) e) (λ_ mZ=>CX outer H s E e mZ) (λe' mZ=>CX outer H s E e' mZ) s'
theorem BO(h:sc.names.lookup x=some .cell):∃ c,(QP n sc.names []).lookup x=some c:=by
 have q:=JJ sc.names n [] (.inl h);exact QZ.mp q
theorem BP{f outer s1 E}
  (S:gj N ps scope) (hd:A.handled=none) (e0:qB P w K mg base A outer s H) (hl:vs.length=ps.length) (r:Vals vs us)
  (x:InCallC s s.heap.objs.size (bindL (Jo qual scope s.heap.objs.size f cd).kindOf (ps.zip us) λ_=>none) (QP (s.heap.objs.size + 1) scope.names []) (bindC (Jo qual scope s.heap.objs.size f cd).kindOf (ps.zip us) λ_=>none) s1) :
  Inv (fU CX P w K mg base N qual scope f cd A outer s H E) [] (gk N vs) H s1:=by
 have cB:ps.length<=N.length:=by have:=congrArg Qp S.pre; rw[Ur] at this; lia
 obtain⟨h1,tk,rfl,hk⟩:=x.done;have kL:∀ b:Addr,b ∉ (fU CX P w K mg base N qual scope f cd A outer s H E).ex:=λb z=>absurd (show b ∈ ([]:List Addr) from z) Z5
 refine⟨⟨e0.mod,S.kind,rfl,rfl,Wi _,λy z c h1 h2=>?_,λy hy=>?_,λy c _ h=>?_,λ_=>hd,Around.frames_deeper e0.frames,.inr ⟨rfl,rfl⟩,λb z=>absurd z (kL b),e0.bs,e0.kI,λb _ _=>kL b,λb z=>absurd z (kL b),e0.iJ,e0.mV⟩,
  rfl,e0.bare,Un.kept hk,⟨_,x.toInCall.ns,λi y v h1 h2 h3=>?_⟩,λy c h=>⟨_,x.cell y c h⟩,e0.aC.fresh (Wi _),λy c h=>?_,λp hp=>absurd (show p ∈ ([]:List (Addr×Obj)) from hp) Z5,e0.aC.kept hk,?_⟩
 ·exact name_of_addr x.apart (WB h1) (WB h2)
 ·have hy:scope.names.lookup y=some .cell\/scope.names.lookup y=some .free:=hy;rcases hy with hy | hy
  ·exact BO hy
  ·exact absurd rfl (S.wK _ (WB hy))
 ·exact U4 (x.above y c (WB h))
 ·have hi:i < vs.length:=by
   unfold gk at h2;by_cases hi:i < vs.length
   ·exact hi
   ·rw[Jl (~~~hi)] at h2;rw[List.getElem?_replicate] at h2;split at h2 <;> cases h2
  have ha:vs[i]? = some v:=by
   unfold gk at h2;rw[Q8 (~~~hi),Wj] at h2
   cases e:vs[i]? with
   | none=>rw[e] at h2; cases h2
   | some a=>rw[e] at h2; cases h2; rfl
  obtain⟨u,hu,rv⟩:=r.get ha;have hp:ps[i]? = some y:=by
   rw[<- S.pre,List.getElem?_take_of_lt Y']; exact h1
  have BQ:ps.Nodup:=by rw[<- S.pre]; exact S.nd.sublist (List.take_sublist _ _)
  refine⟨u,rv,?_⟩;rcases S.par y (Wq hp) with k | k
  ·exact .inl ⟨k,BM BQ hp hu k⟩
  ·obtain⟨c,e⟩:=BO (n:=s.heap.objs.size + 1) k;refine .inr ⟨.inl k,c,e,?_⟩;have q:=x.cell y c e;rw[BN BQ hp hu (by show scope.names.lookup y≠_; rw[k]; decide)] at q;exact q
 ·exact e0.aC.fresh (U4 (x.above y c (WB h)))
 ·unfold gk;show _=N.length;rw[Qu,Wn,List.length_replicate];lia
theorem BR{k f dV kV od}
     (lk:K.lookup f=some ⟨oc,od,.func (Qm name qual params body scope dV kV doc pm an aU ct),eW⟩) (g6:PySem.W.codeIn K aU qual=true) (S:gj N ps scope)
  (len:∀ vs H Q E,sp vs H Q E->vs.length=ps.length)
  (dW:∀ (A:Wv) outer (s:W4) H (vs:List V) Q E,cQ k (A.deeper (Jo qual scope s.heap.objs.size f aU))->sp vs H Q E ->
   ∃ t,dR (fU CX P w K mg base N qual scope f aU A outer s H E) body t/\t { nx:=λ_ H'=>Q .bp H',rt:=Q } (gk N vs) H) :
  i9 P w K mg base CX (k + 1) f (Qm name qual params body scope dV kV doc pm an aU ct) ps sp:=by
 refine⟨len,λA outer s H args us vs Q E hr e0 hb r m3=>?_⟩;have hl:=len _ _ _ _ m3;have KX:K.In s.heap:=e0.mod.qo.keeps λb o e=>(e0.bs b o e).1
 have lim:s.heap.NoLimit:=e0.mod.nolimit.keeps λb o e=>(e0.bs b o e).1
 have wL:∀ y ∈ ps.zip us,scope.names.lookup y.1=some .local\/(scope.names.lookup y.1=some .cell/\((QP (s.heap.objs.size + 1) scope.names []).lookup y.1).isSome=true):=λ⟨n,v⟩ hy=>by
  rcases S.par n (Ut hy).1 with q | q
  ·exact .inl q
  ·exact .inr ⟨q,JJ _ _ _ (.inl q)⟩
 refine codeAny_call_function hr.depth (KX _ _ lk) rfl S.co S.gen rfl (PySem.W.codeRec_of KX g6) (hb _ _ _ _ ?_);refine wpAny_newFunctionEnv_cells S.kind wL λenv he s1 x=>?_
 subst he;refine⟨lim.keeps x.toInCall.keep,codeAny_func ?_⟩;obtain⟨t,ht,hq⟩:=dW A outer s H vs Q E (hr.deeper _) m3;have I:Inv (fU CX P w K mg base N qual scope f aU A outer s H E) [] (gk N vs) H s1:=BP S hr.hd e0 hl r x;refine Qw (ht [] s1 (gk N vs) H _ I hq) (λfl s' hs=>?_) λe s' hs=>hs
 have fin:∀ {σ':St} {H':Hp} {v:V} {u:Value},Inv (fU CX P w K mg base N qual scope f aU A outer s H E) [] σ' H' s'->RelV v u->Q v H'->CE outer P w H s Q u s' :=
  λ{σ' H' v u} J rv q=>⟨v,H',J.os,J.bare,J.base,J.aC,rv,q⟩
 cases fl with
 | ret u =>
  obtain⟨v,σ',H',J,rv,q⟩:=hs;exact fin J rv q
 | next =>
  obtain⟨σ',H',J,q⟩:=hs;exact fin (v:=V.bp) (u:=Value.none) J rfl q
 | brk =>
  obtain⟨_,_,_,q⟩:=hs;exact False.elim q
 | cont =>
  obtain⟨_,_,_,q⟩:=hs;exact False.elim q
section
variable {p:Pos}{t:TA}{id T:String}{r:List V->Hp->VK->Prop}
def BS(r:List V->Hp->VK->Prop)(t:TA):TE:=λσ H Q=>t σ H λvs H1=>r vs H1 Q
theorem wM (hc:eO X (.builtin id) r) (hg:Gl X x) (hm:X.mg x=none) (hv:QK x=some (.builtin id)) (ha:PA X (e :: es) t) (hn:x≠"__name__":=by decide) (gi:(x == ("__debug__" : Str))=false:=by decide)
  (he:Wd (e :: es) X.env=(false,eval e X.env) :: Wd es X.env:=by rfl) (cB:(Qv pos (Wd es X.env)).any (·.1)=false:=by rfl):PE X (.Call (.Name x p) (e :: es) [] pos) (BS r t):=by
 intro pins s σ H Q I h;refine JI (mX I hg hm hv ?_ hn gi);exact PyProof.Rows.callWith_builtin1 (aY (ha pos pins s σ H _ I h) λus s1 ⟨vs,H1,I1,r1,q1⟩=>hc pins s1 σ H1 vs us Q I1 r1 q1) he cB
theorem Md (hc:eO X (.type T) r) (hg:Gl X x) (hm:X.mg x=none) (hv:QK x=some (.type T)) (ha:PA X (e :: es) t) (hn:x≠"__name__":=by decide) (gi:(x == ("__debug__" : Str))=false:=by decide)
  (he:Wd (e :: es) X.env=(false,eval e X.env) :: Wd es X.env:=by rfl) (cB:(Qv pos (Wd es X.env)).any (·.1)=false:=by rfl):PE X (.Call (.Name x p) (e :: es) [] pos) (BS r t):=by
 intro pins s σ H Q I h;refine JI (mX I hg hm hv ?_ hn gi);exact QO (aY (ha pos pins s σ H _ I h) λus s1 ⟨vs,H1,I1,r1,q1⟩=>hc pins s1 σ H1 vs us Q I1 r1 q1) he cB
end
theorem Me{vs ws}(ht:IsTup s.heap t vs.toArray)(hb:IsTup s.heap b ws.toArray)(hv:vs≠[])
  (h1:ws=[]->Q (.ref t) s) (h2:ws≠[]->Q (.ref s.heap.objs.size) { s with heap:=s.heap.push { cls:=.type "tuple",data:=.seq (vs ++ ws).toArray } })
  (hsz:vs.length + ws.length<=Wa):W8 (model prog w) A (QL .Add (.ref t) (.ref b)) Q E s:=by
 obtain⟨⟨cls,dd,data,sl⟩,ho,hc,n,hd⟩:=id ht;obtain⟨⟨cls2,dd2,data2,sl2⟩,ho2,hc2,n2,hd2⟩:=id hb;simp only at hc hd hc2 hd2;subst hc hd hc2 hd2;have e:vs.toArray ++ ws.toArray=(vs ++ ws).toArray:=by simp
 by_cases hw:ws=[]
 ·exact concat_meets ⟨_,ho,rfl⟩ ⟨_,ho2,rfl⟩ noFill_tuple_add seq_tuple_add PySem.F.slot_tuple_add PySem.F.entry_tuple_add (PySem.F.args_tuple_add_2 _ _)
   (tuple_addW1 t b vs.toArray ws.toArray n n2 dd dd2 sl sl2 (~~~hv) #v[hw]) ⟨ho,ho2,h1 hw⟩
 ·refine concat_meets ⟨_,ho,rfl⟩ ⟨_,ho2,rfl⟩ noFill_tuple_add seq_tuple_add PySem.F.slot_tuple_add PySem.F.entry_tuple_add (PySem.F.args_tuple_add_2 _ _)
   (tuple_addW2 t b vs.toArray ws.toArray n n2 dd dd2 sl sl2 (~~~hv) (~~~hw) %[Wx,Wx|hsz]) ⟨ho,ho2,?_⟩
  rw[e];exact h2 hw
def a0(n d:Nat):Option Int->Nat
 | none=>d
 | some v=>if v < 0 then(v + (n:Int)).toNat else min v.toNat n
theorem wN(n d:Nat)(hd:d<=n)(o):a0 n d o<=n:=by
 cases o with
 | none=>exact hd
 | some v =>
  show(if v < 0 then(v + (n:Int)).toNat else min v.toNat n)<=n;by_cases hv:v < 0
  ·rw[if_pos hv]; lia
  ·rw[if_neg hv]; exact Nat.min_le_right _ _
theorem BU(v:Int)(n d:Nat):(if v < 0 then max (v + (n:Int)) 0 else min v (n:Int))=((a0 n d (some v):Nat):Int):=by
 show(if v < 0 then max (v + (n:Int)) 0 else min v (n:Int))=(((if v < 0 then(v + (n:Int)).toNat else min v.toNat n):Nat):Int);by_cases hv:v < 0
 ·simp only[if_pos hv]; lia
 ·simp only[if_neg hv]; lia
theorem Mf(lo hi)(n:Nat):Builtin.Slice.sliceAdjust lo hi 1 (n:Int)=(((a0 n 0 lo:Nat):Int),((a0 n n hi:Nat):Int)):=by
 have h1:¬ ((1:Int) < 0):=by lia
 unfold Builtin.Slice.sliceAdjust;simp only[h1,if_false];refine Prod.ext ?_ ?_
 ·cases lo with
  | none=>rfl
  | some v=>exact BU v n 0
 ·cases hi with
  | none=>rfl
  | some v=>exact BU v n n
theorem Mg(i j:Nat):Jr (i:Int) (j:Int) 1=j - i:=by
 unfold Jr;have h1:(1:Int) > 0:=by lia
 simp only[h1,if_true,Int.ediv_one];split <;> lia
theorem BV{Q}(p:IsPart v o)(h:Q o s):W8 (model prog w) A (Builtin.Slice.slicePartIndex v) Q E s:=by
 cases p with
 | none=>exact slicePart_none h
 | int i t=>exact slicePart_int h
theorem BW{Q:Int×Int×Nat->W4->Prop}(hs:s.heap.IsSliceOf sl vl vu .none)(pl:IsPart vl lo)(pu:IsPart vu hi)
  (h:Q (((a0 n 0 lo:Nat):Int),1,a0 n n hi - a0 n 0 lo) s):W8 (model prog w) A (Builtin.Slice.sliceApplied (.ref sl) (pure (n:Int))) Q E s:=by
 obtain⟨os,hos,hcs,lR⟩:=id hs;unfold Builtin.Slice.sliceApplied Builtin.Slice.sliceFields;refine W0 (W0 (WM hos lR (x:=vl) rfl (W0 (WM hos lR (x:=vu) rfl (W0 (WM hos lR (x:=.none) rfl (W3 ?_)))))));refine W0 (slicePart_none ?_);show W8 _ _ (if ((1:Int) == 0)=true then _ else _) _ _ s;rw[if_neg Z'];refine W0 (BV pl (W0 (BV pu (W0 (W3 ?_)))));show W8 _ _ (match Builtin.Slice.sliceAdjust lo hi 1 (n:Int) with | (lo,hi)=>pure (lo,(1:Int),Jr lo hi 1)) _ _ s;rw[Mf lo hi n];show W8 _ _ (pure (((a0 n 0 lo:Nat):Int),(1:Int),Jr ((a0 n 0 lo:Nat):Int) ((a0 n n hi:Nat):Int) 1)) _ _ s;rw[Mg];exact W3 h
theorem Mh(xs:Array Value)(i k:Nat):((WY k).filterMap λ(m:Nat)=>xs[((i:Int) + (m:Int) * 1).toNat]?).toArray=((xs.toList.drop i).take k).toArray:=by
 have e:(λ(m:Nat)=>xs[((i:Int) + (m:Int) * 1).toNat]?)=λm=>xs[i + m]?:=by
  funext m
  have:((i:Int) + (m:Int) * 1).toNat=i + m:=by lia
  rw[this]
 rw[e];have:=pick_run xs i k;rw[List.filterMap_map] at this;have e2:((λx=>xs[x]?) ∘ λx=>i + x)=λm=>xs[i + m]?:=rfl
 rw[e2] at this;rw[this]
theorem Mi{t}(ht:IsTup s.heap t items)(hs:s.heap.IsSliceOf sl vl vu .none)(pl:IsPart vl lo)(pu:IsPart vu hi)
  (hw:¬ (a0 items.size 0 lo=0/\a0 items.size items.size hi=items.size))
  (h:Q (.ref s.heap.objs.size) { s with heap:=s.heap.push { cls:=.type "tuple",data:=.seq ((items.toList.drop (a0 items.size 0 lo)).take (a0 items.size items.size hi - a0 items.size 0 lo)).toArray } })
  (hsz:items.size<=Wa):W8 (model prog w) A (Ua (.ref t) (.ref sl)) Q E s:=by
 have tV:sizeOk (.seq ((items.toList.drop (a0 items.size 0 lo)).take (a0 items.size items.size hi - a0 items.size 0 lo)).toArray):=by
  show((items.toList.drop (a0 items.size 0 lo)).take (a0 items.size items.size hi - a0 items.size 0 lo)).toArray.size<=Wa;rw[Wx,Ur,List.length_drop,WW];lia
 have hj:a0 items.size items.size hi<=items.size:=wN _ _ (Wi _) hi;obtain⟨os,hos,hcs,lR⟩:=id hs;have wO:s.TypeIs (.ref sl) "slice":=⟨os,hos,hcs⟩
 unfold Ua;try with_reducible refine WL ?_
 first | refine W0 (W3 ?_) | skip
 refine W0 (Uh ht.typeIs Z' ?_);refine W0 (WF (name:=Str.ofString "__getitem__") ht.typeIs QY
  (Wz QY ht.typeIs entry_tuple_getitem ?_ (args_tuple_getitem _ _)))
 show W8 _ _ (Builtin.Tuple.tupleItemsOf (.ref t) >>= _) _ _ s;refine W0 (tupleItemsOf_ ht ?_);refine W0 (JR wO ?_);rw[if_pos Z'];refine W0 (BW hs pl pu ?_);have fV:¬ ((((a0 items.size 0 lo:Nat):Int) == 0 && (1:Int) == 1 && (a0 items.size items.size hi - a0 items.size 0 lo) == items.size)=true):=by
  intro q;rw[WE,WE] at q;have q1:((a0 items.size 0 lo:Nat):Int)=0:=eq_of_beq q.1.1;have q2:a0 items.size items.size hi - a0 items.size 0 lo=items.size:=eq_of_beq q.2;exact hw ⟨Y',Y'⟩
 show W8 _ _ (if (((a0 items.size 0 lo:Nat):Int) == 0 && (1:Int) == 1 && (a0 items.size items.size hi - a0 items.size 0 lo) == items.size)=true then _ else _) _ _ s;rw[if_neg fV,Mh];first
  | exact W0 (m:=Jx _) (WJ (W3 ⟨_,rfl,W3 h⟩) tV)
  | exact W0 (m:=Jx _) (WJ (W0 (W3 (W3 ⟨_,rfl,W3 h⟩))) tV)
  | exact W0 (W0 (m:=Jx _) (WJ (W3 (W3 ⟨_,rfl,W3 h⟩)) tV))
  | exact W0 (W0 (m:=Jx _) (WJ (W3 ⟨_,rfl,W3 h⟩) tV))
abbrev TO:=St->Hp->(Option Int->Hp->Prop)->Prop
def PO(X:Cx)(e:Option Expr)(t:TO):Prop :=
 ∀ (pins:List (Addr×Obj)) (s:W4) (σ:St) (H:Hp) (Q:Option Int->Hp->Prop),Inv X pins σ H s->t σ H Q ->
  W8 (model X.prog X.w) X.A (evalPart e X.env) (λu s'=>∃ o H',Inv X pins σ H' s'/\IsPart u o/\Q o H') X.xe s
def Mj:TO:=λ_ H Q=>Q none H
def Mk(t:TE):TO:=λσ H Q=>t σ H λx H1=>∃ i,x = .int i/\Q (some i) H1
section
variable {lo hi:Option Expr}{tl th:TO}{p2:Pos}
theorem Ml:PO X none Mj:=by
 intro pins s σ H Q I h;rw[evalPart_none];exact W3 ⟨none,H,I,.none,h⟩
theorem Mm(h:PE X e te):PO X (some e) (Mk te):=by
 intro pins s σ H Q I hw;rw[evalPart_some];refine aY (h pins s σ H _ I hw) λu s1 ⟨x,H1,I1,r1,q1⟩=>?_
 obtain⟨i,rfl,q⟩:=q1;obtain⟨t,rfl⟩:=r1;exact⟨some i,H1,I1,.int i t,q⟩
def j3(X:Cx)(r:V->Option Int->Option Int->Hp->VK->Prop):Prop :=
 ∀ (pins:List (Addr×Obj)) (s:W4) (σ:St) (H:Hp) (x:V) (v vl vu:Value) (lo hi:Option Int) (sl:Addr) (Q:VK),Inv X pins σ H s->RelV x v->s.heap.IsSliceOf sl vl vu .none->IsPart vl lo->IsPart vu hi->r x lo hi H Q ->
  ∃ T id,typeLookup (.type T) "__getitem__" = pure (some (.builtin id))/\s.TypeIs v T/\W8 (model X.prog X.w) X.A (Ua v (.ref sl)) (EP X pins σ Q) X.xe s
theorem j3.or(h:j3 X r)(h':j3 X r'):j3 X (λx lo hi H Q=>r x lo hi H Q\/r' x lo hi H Q):=by
 intro pins s σ H x v vl vu lo hi sl Q I rx hs pl pu q;rcases q with q | q
 ·exact h pins s σ H x v vl vu lo hi sl Q I rx hs pl pu q
 ·exact h' pins s σ H x v vl vu lo hi sl Q I rx hs pl pu q
def Mn(r:V->Option Int->Option Int->Hp->VK->Prop)(te:TE)(tl th:TO):TE:=λσ H Q=>te σ H λx H1=>tl σ H1 λl H2=>th σ H2 λu H3=>r x l u H3 Q
theorem BX(hr:j3 X r)(he:PE X e te)(hl:PO X lo tl)(hu:PO X hi th):PE X (.Subscript e (.Slice lo hi none p2) pos) (Mn r te tl th):=by
 intro pins s σ H Q I h;refine Subscript_ (aY (he pins s σ H _ I h) λv s1 ⟨x,H1,I1,r1,q1⟩=>?_);refine wpAny_Slice (aY (hl pins s1 σ H1 _ I1 q1) λvl s2 ⟨l,H2,I2,pl,q2⟩=>aY (hu pins s2 σ H2 _ I2 q2) λvu s3 ⟨u,H3,I3,pu,q3⟩=>?_);rw[evalPart_none];refine W3 ?_;have I4:Inv X pins σ H3 { s3 with heap:=s3.heap.push { cls:=.type "slice",data:=.fields #[vl,vu,.none] } }:=I3.kept (t':=s3.toks) λb ob q=>W7 _ q
 obtain⟨T,id,hT,ht,hg⟩:=hr pins { s3 with heap:=s3.heap.push { cls:=.type "slice",data:=.fields #[vl,vu,.none] } } σ H3 x v vl vu l u s3.heap.objs.size Q I4 r1 (Heap.IsSliceOf.new ..) pl pu q3;show W8 (model X.prog X.w) X.A (subscriptTail e (.Slice lo hi none p2) v (.ref s3.heap.objs.size)) (EP X pins σ Q) X.xe { s3 with heap:=s3.heap.push { cls:=.type "slice",data:=.fields #[vl,vu,.none] } };exact tail_any (ops:=[.ref s3.heap.objs.size,v]) ht hT hg (by with_unfolding_all rfl)
def lS(xs:List V)(lo hi:Option Int):List V:=(xs.drop (a0 xs.length 0 lo)).take (a0 xs.length xs.length hi - a0 xs.length 0 lo)
theorem BY(xs:List V)(lo hi):(lS xs lo hi).length<=xs.length:=by
 unfold lS;rw[Ur,List.length_drop];lia
def Mo(K:W5):V->Option Int->Option Int->Hp->VK->Prop:=λx lo hi H Q=>∃ a xs,x = .ref a/\di K H a xs /\
 ¬ (a0 xs.length 0 lo=0/\a0 xs.length xs.length hi=xs.length)/\∀ p,H p=none->Q (.ref p) (upd H p (.tup (lS xs lo hi)))
theorem tW:j3 X (Mo X.K):=by
 intro pins s σ H x v vl vu lo hi sl Q I rx hs pl pu h;obtain⟨a,xs,rfl,hx,hw,q⟩:=h
 cases rx;obtain⟨ak,r,ht,hz⟩:=I.tuple hx;have hlen:ak.toArray.size=xs.length:=%[Wx|r.length.symm]
 refine⟨"tuple",_,PyProof.Rows.slot_tuple_getitem.lookup,ht.typeIs,?_⟩;refine Mi ht hs pl pu %[hlen|hw] ?_ %[hlen|hz];rw[hlen];refine⟨.ref s.heap.objs.size,_,I.laid (t':=s.toks) (o:=.tup (lS xs lo hi)) (λb ob q=>W7 _ q) (Wi _) ?_,rfl,q _ (I.aC.fresh (Wi _))⟩;exact⟨Qc (BY xs lo hi) hz,_,(r.drop (a0 xs.length 0 lo)).take (a0 xs.length xs.length hi - a0 xs.length 0 lo),i5.new _ _⟩
def BZ(K:W5):R2:=λx y H Q=>∃ a b xs ys,x = .ref a/\y = .ref b/\di K H a xs/\di K H b ys/\xs≠[]/\xs.length + ys.length<=Wa /\
 (ys=[]->Q (.ref a) H)/\(ys≠[]->∀ p,H p=none->Q (.ref p) (upd H p (.tup (xs ++ ys))))
theorem Vals.tY{xs}(r:Vals xs us):us=[] ↔ xs=[]:=by
 cases r with
 | nil=>simp
 | cons _ _=>simp
theorem Mp:cj X (QL .Add) (BZ X.K):=by
 intro pins s σ H x y v u Q I rx ry h;obtain⟨a,b,xs,ys,rfl,rfl,ha,hb,hx,hz,q1,q2⟩:=h
 cases rx
 cases ry;obtain⟨ak,r1,p1,_⟩:=I.tuple ha;obtain⟨its2,r2,p2,_⟩:=I.tuple hb;refine Me p1 p2 (λz=>hx (r1.tY.mp z)) (λz=>⟨.ref a,H,I,rfl,q1 (r2.tY.mp z)⟩) (λz=>?_) (by rw[<- r1.length,<- r2.length]; exact hz);refine⟨.ref s.heap.objs.size,_,I.laid (t':=s.toks) (o:=.tup (xs ++ ys)) (λb ob q=>W7 _ q) (Wi _) ?_,rfl,q2 (λw=>z (r2.tY.mpr w)) _ (I.aC.fresh (Wi _))⟩;exact⟨%[Qu|hz],_,r1.append r2,i5.new _ _⟩
end
def fD(n:Nat)(i:Int):Option Nat:=if 0<=i then(if i < n then some i.toNat else none) else if -(n:Int)<=i then some (i + n).toNat else none
def dE{α:Type}(xs:List α)(i:Int):Option α:=(fD xs.length i).bind λj=>xs[j]?
theorem B0{i}(h:fD n i=some j):seqIndex? i n=some j/\j < n/\-(n:Int)<=i/\i < n:=by
 unfold fD at h;by_cases h0:0<=i
 ·rw[if_pos h0] at h;by_cases h1:i < n
  ·rw[if_pos h1] at h;have e:i.toNat=j:=WZ h;exact⟨by rw[seqIndex_of h0 h1,e],Y',Y',h1⟩
  ·rw[if_neg h1] at h; cases h
 ·rw[if_neg h0] at h;by_cases h1 : -(n:Int)<=i
  ·rw[if_pos h1] at h;have e:(i + n).toNat=j:=WZ h;exact⟨by rw[seqIndex_neg Y' h1,e],Y',h1,Y'⟩
  ·rw[if_neg h1] at h; cases h
theorem wQ{xs i}(h:dE xs i=some v):∃ j,seqIndex? i xs.length=some j/\xs[j]? = some v/\j < xs.length/\-(xs.length:Int)<=i/\i < xs.length:=by
 unfold dE at h
 cases e:fD xs.length i with
 | none=>rw[e] at h; cases h
 | some j =>
  rw[e] at h;obtain⟨h1,h2,h3,h4⟩:=B0 e;exact⟨j,h1,h,h2,h3,h4⟩
def wR(b:Expr):Prop:=∀ o i,subscripted b false o i=operate [o,i] (Ua o i)
def g9(X:Cx)(r:R2):Prop :=
 ∀ (value slice:Expr) (pins:List (Addr×Obj)) (s:W4) (σ:St) (H:Hp) (x y:V) (v u:Value) (Q:VK),Inv X pins σ H s->RelV x v->RelV y u->r x y H Q ->
  subscripted slice false v u=operate [v,u] (Ua v u)->W8 (model X.prog X.w) X.A (subscriptTail value slice v u) (EP X pins σ Q) X.xe s
def wU(X:Cx)(id:String)(r:V->List V->Hp->VK->Prop):Prop :=
 ∀ (pins:List (Addr×Obj)) (s:W4) (σ:St) (H:Hp) (x:V) (xs:List V) (v:Value) (us:List Value) (Q:VK),Inv X pins σ H s->RelV x v->Vals xs us->r x xs H Q ->
  W8 (model X.prog X.w) X.A (call (.builtin id) (v :: us)) (EP X pins σ Q) X.xe s
section
variable {a b:Expr}
theorem g9.or(h:g9 X r)(h':g9 X r'):g9 X (λx y H Q=>r x y H Q\/r' x y H Q):=by
 intro value slice pins s σ H x y v u Q I rx ry q hs;rcases q with q | q
 ·exact h value slice pins s σ H x y v u Q I rx ry q hs
 ·exact h' value slice pins s σ H x y v u Q I rx ry q hs
theorem B1(hr:g9 X r)(ha:PE X a ta)(hb:PE X b tb)(hs:wR b):PE X (.Subscript a b pos) (mY r ta tb):=by
 intro pins s σ H Q I h;exact Subscript_ (wz ha hb I h λv u s2 x y H2 I2 rx ry q=>hr a b pins s2 σ H2 x y v u Q I2 rx ry q (hs _ _))
def B2(K:W5):R2:=λx y H Q=>∃ p xs i v,x = .ref p/\y = .int i/\cP K H p xs/\dE xs i=some v/\Q v H
def B3(K:W5):R2:=λx y H Q=>∃ p xs i v,x = .ref p/\y = .int i/\di K H p xs/\dE xs i=some v/\Q v H
def B4:R2:=λx y H Q=>∃ z i c,x = .str z/\y = .int i/\z.length<=Wa/\dE z.cps.toList i=some c/\Q (.str ⟨#[c]⟩) H
theorem Mq:g9 X (B2 X.K):=by
 intro value slice pins s σ H x y v u Q I rx ry h hs;obtain⟨p,xs,i,z,rfl,rfl,hq,he,q⟩:=h
 cases rx;obtain⟨t,rfl⟩:=ry;obtain⟨ak,r,pl,hz⟩:=I.list hq;obtain⟨j,h1,h2,h3,h4,h5⟩:=wQ he;obtain⟨w,ew,jF⟩:=r.get h2;have hl:=r.length;have hn:=oI;have fin:EP X pins σ Q w s:=⟨z,H,I,jF,q⟩
 by_cases h0:0<=i
 ·have hj:i.toNat=j:=by
   rw[seqIndex_of h0 h5] at h1;exact WZ h1
  exact item_listR pl.isList h0 Y' (by rw[hj]; simpa using ew) fin hs
 ·have hj:(i + (ak.toArray.size:Int)).toNat=j:=by
   rw[seqIndex_neg Y' h4] at h1;rw[Wx,<- hl];exact WZ h1
  exact subscriptTail_builtinR (x:=w) pl.isList.typeIs slot_list_getitem.lookup
   (wpAny_getItem_list_neg (Q:=λr s'=>r=w/\EP X pins σ Q r s') pl.isList Y' (by rw[Wx] <;> lia) Y' (by rw[hj]; simpa using ew) ⟨rfl,fin⟩) hs
theorem Mr:g9 X (B3 X.K):=by
 intro value slice pins s σ H x y v u Q I rx ry h hs;obtain⟨p,xs,i,z,rfl,rfl,hq,he,q⟩:=h
 cases rx;obtain⟨t,rfl⟩:=ry;obtain⟨ak,r,pl,hz⟩:=I.tuple hq;obtain⟨j,h1,h2,h3,h4,h5⟩:=wQ he;obtain⟨w,ew,jF⟩:=r.get h2;have hl:=r.length;have hn:=oI;have fin:EP X pins σ Q w s:=⟨z,H,I,jF,q⟩
 exact subscriptTail_builtinR (x:=w) pl.typeIs slot_tuple_getitem.lookup
  (getItem_tuple (j:=j) (Q:=λr s'=>r=w/\EP X pins σ Q r s') pl Y' Y' (by rw[Wx,<- hl]; exact h1) (~~~ew) ⟨rfl,fin⟩) hs
theorem Ms:g9 X B4:=by
 intro value slice pins s σ H x y v u Q I rx ry h hs;obtain⟨z,i,c,rfl,rfl,hz,he,q⟩:=h;obtain⟨t,rfl⟩:=rx;obtain⟨t',rfl⟩:=ry;obtain⟨j,h1,h2,h3,h4,h5⟩:=wQ he;have hl:z.cps.toList.length=z.length:=#v[Str.length]
 rw[hl] at h1 h4 h5;have hn:=oI;exact tail_any (typeIs_str s z t) slot_str_getitem.lookup (getItem_str (c:=c) (by
  have e1:decide (i < -(2 ^ 63:Int))=false:=decide_eq_false Y';have e2:decide (i ≥ 2 ^ 63)=false:=decide_eq_false Y';rw[e1,e2,Bool.or_false]) (by rw[h1]; simpa using h2) ⟨.str ⟨#[c]⟩,H,I.tok _,⟨_,rfl⟩,q⟩) hs
def oK(K:W5):R2:=λx y H Q=>B2 K x y H Q\/B3 K x y H Q\/B4 x y H Q
theorem lT:g9 X (oK X.K):=Mq.or (Mr.or Ms)
theorem Mt (ak:List Value) (n j u):Obj.mapSeq (·.setIfInBounds j u) { cls:=.type "list",data:=.seq ak.toArray n } = { cls:=.type "list",data:=.seq (ak.set j u).toArray n }:=by
 simp[Obj.mapSeq]
theorem Inv.lst{X pins σ H s p xs}(I:Inv X pins σ H s)(h:H p=some (.lst xs)) :
  ∃ (ak:List Value) (n:Nat),Vals xs ak/\s.heap.get? p=some { cls:=.type "list",data:=.seq ak.toArray n }/\xs.length<=Wa:=by
 obtain⟨z,ak,n,r,e⟩:=I.aC p _ h;exact⟨ak,n,r,e,z⟩
theorem Inv.Mu{p}{xs ys:List V}{ak its':List Value}{n n'}{f:Obj->Obj}(I:Inv X pins σ H s)(h:H p=some (.lst xs))
  (ho:s.heap.get? p=some { cls:=.type "list",data:=.seq ak.toArray n }) (hf:f { cls:=.type "list",data:=.seq ak.toArray n } = { cls:=.type "list",data:=.seq its'.toArray n' }) (r:Vals ys its') (hz:ys.length<=Wa) (t) :
  Inv X pins σ (upd H p (.lst ys)) { s with heap:=s.heap.update p f,toks:=t }:=by
 have e:(s.heap.update p f).get? p=some { cls:=.type "list",data:=.seq its'.toArray n' }:=by
  rw[QH f ho (by rw[hf] <;> rfl),hf]
 refine I.write (x:=p) (e:=p) (by rw[h]; trivial) (.inl rfl) (λb u hb q=>(JK _ _ (Ne.symm hb)).trans q) ⟨_,e⟩ ?_;exact⟨hz,its',n',r,e⟩
def Mv:V->V->V->Hp->(Hp->Prop)->Prop:=λo i v H Q=>∃ p xs k j,o = .ref p/\i = .int k/\H p=some (.lst xs)/\fD xs.length k=some j/\Q (upd H p (.lst (xs.set j v)))
theorem Mw:Bm X Mv:=by
 intro pins s σ H o i v ov iv u Q I ro ri rv h;obtain⟨p,xs,k,j,rfl,rfl,hp,hj,q⟩:=h
 cases ro;obtain⟨t,rfl⟩:=ri;obtain⟨ak,n,r,ho,hz⟩:=I.lst hp;obtain⟨h1,h2,h3,h4⟩:=B0 hj;have hl:=r.length;have hn:=oI;have I':Inv X pins σ (upd H p (.lst (xs.set j v))) { s with heap:=s.heap.update p (Obj.mapSeq (·.setIfInBounds j u)) } :=
  I.Mu hp ho (Mt ak n j u) (r.set rv j) %[Qe|hz] s.toks
 by_cases h0:0<=k
 ·have hk:k.toNat=j:=by
   rw[seqIndex_of h0 h4] at h1;exact WZ h1
  exact PySem.W.ki_setAt ho h0 Y' (by rw[Wx,<- hl]; exact h4) (by rw[hk]; exact⟨_,I',q⟩)
 ·have hk:(k + (ak.toArray.size:Int)).toNat=j:=by
   rw[seqIndex_neg Y' h3] at h1;rw[Wx,<- hl];exact WZ h1
  exact PySem.W.ki_setBack ho Y' (by rw[Wx,<- hl]; exact h3) Y' (by rw[hk]; exact⟨_,I',q⟩)
theorem Mx(lo hi)(n:Nat):(U0 lo hi none n).1=((a0 n 0 lo:Nat):Int)/\(U0 lo hi none n).2.1=((a0 n n hi:Nat):Int)/\(U0 lo hi none n).2.2=1:=by
 refine⟨?_,?_,rfl⟩
 ·cases lo with
  | none=>simp[U0,a0]
  | some i =>
   simp only[U0,a0,Option.getD_none,show(1:Int) > 0 by decide,if_true];by_cases h:i < 0
   ·simp only[h,if_true] <;> lia
   ·simp only[h,if_false] <;> lia
 ·cases hi with
  | none=>simp[U0,a0]
  | some i =>
   simp only[U0,a0,Option.getD_none,show(1:Int) > 0 by decide,if_true];by_cases h:i < 0
   ·simp only[h,if_true] <;> lia
   ·simp only[h,if_false] <;> lia
theorem My(ak:List Value)(lo hi):slicePick ak.toArray lo hi none=((ak.drop (a0 ak.length 0 lo)).take (a0 ak.length ak.length hi - a0 ak.length 0 lo)).toArray:=by
 obtain⟨h1,h2,h3⟩:=Mx lo hi ak.toArray.size;unfold slicePick;rw[h1,h2,h3];simp only[sliceRange_one,pick_run,Wx] <;> rfl
def B5(K:W5):V->Option Int->Option Int->Hp->VK->Prop:=λx lo hi H Q=>∃ a xs,x = .ref a/\cP K H a xs/\∀ p,H p=none->Q (.ref p) (upd H p (.lst (lS xs lo hi)))
theorem Mz:j3 X (B5 X.K):=by
 intro pins s σ H x v vl vu lo hi sl Q I rx hs pl pu h;obtain⟨a,xs,rfl,hx,q⟩:=h
 cases rx;obtain⟨ak,r,ht,hz⟩:=I.list hx;have hlen:=r.length;refine⟨"list",_,slot_list_getitem.lookup,ht.isList.typeIs,?_⟩;refine wpAny_getItem_list_slice ht.isList hs pl pu .none Z5 ?_ (by rw[Wx] <;> lia);rw[My,<- hlen];refine⟨.ref s.heap.objs.size,_,I.laid (t':=s.toks) (o:=.lst (lS xs lo hi)) (λb ob q=>W7 _ q) (Wi _) ?_,rfl,q _ (I.aC.fresh (Wi _))⟩;exact⟨Qc (BY xs lo hi) hz,_,0,(r.drop (a0 xs.length 0 lo)).take (a0 xs.length xs.length hi - a0 xs.length 0 lo),Wh _ rfl⟩
def kM:V->Bool
 | .bp=>true
 | .bl _=>true
 | .int _=>true
 | .str _=>true
 | _=>false
def lU:V->V->Bool
 | .bp,.bp=>true
 | .bl a,.bl b=>a == b
 | .bl a,.int b=>(if a then 1 else 0) == b
 | .int a,.bl b=>a == (if b then 1 else 0)
 | .int a,.int b=>a == b
 | .str a,.str b=>a == b
 | _,_=>false
theorem MA{x}(ry:RelV y u)(rx:RelV x v)(fy:kM y=true)(fx:kM x=true):SeqAt.EqAt A s u v (lU y x):=by
 cases y with
 | bp =>
  cases ry
  cases x with
  | bp=>cases rx; exact SeqAt.EqAt.same _
  | bl b=>cases rx; exact SeqAt.EqAt.none_bool b
  | int b=>obtain⟨t,rfl⟩:=rx; exact SeqAt.EqAt.none_int b t
  | str b=>obtain⟨t,rfl⟩:=rx; exact SeqAt.EqAt.none_str b t
  | _=>exact absurd (show false=true from fx) WC
 | bl a =>
  cases ry
  cases x with
  | bp=>cases rx; exact SeqAt.EqAt.bool_none a
  | bl b=>cases rx; exact SeqAt.EqAt.bool_bool a b
  | int b=>obtain⟨t,rfl⟩:=rx; exact SeqAt.EqAt.bool_int a b t
  | str b=>obtain⟨t,rfl⟩:=rx; exact SeqAt.EqAt.bool_str a b t
  | _=>exact absurd (show false=true from fx) WC
 | int a =>
  obtain⟨t',rfl⟩:=ry
  cases x with
  | bp=>cases rx; exact SeqAt.EqAt.int_none a t'
  | bl b=>cases rx; exact SeqAt.EqAt.int_bool a t' b
  | int b=>obtain⟨t,rfl⟩:=rx; exact SeqAt.EqAt.int_int a t' b t
  | str b=>obtain⟨t,rfl⟩:=rx; exact SeqAt.EqAt.int_str a t' b t
  | _=>exact absurd (show false=true from fx) WC
 | str a =>
  obtain⟨t',rfl⟩:=ry
  cases x with
  | bp=>cases rx; exact SeqAt.EqAt.str_none a t'
  | bl b=>cases rx; exact SeqAt.EqAt.str_bool a t' b
  | int b=>obtain⟨t,rfl⟩:=rx; exact SeqAt.EqAt.str_int a t' b t
  | str b=>obtain⟨t,rfl⟩:=rx; exact SeqAt.EqAt.str_str a t' b t
  | _=>exact absurd (show false=true from fx) WC
 | _=>exact absurd (show false=true from fy) WC
def kO(x:V)(u:Value):Bool:=match u with
 | .none=>lU .bp x
 | .bool b=>lU (.bl b) x
 | .int i _=>lU (.int i) x
 | .str z _=>lU (.str z) x
 | _=>false
theorem B6{x}(r:RelV y u)(f:kM y=true):kO x u=lU y x:=by
 cases y with
 | bp=>cases r; rfl
 | bl b=>cases r; rfl
 | int i=>obtain⟨t,rfl⟩:=r; rfl
 | str z=>obtain⟨t,rfl⟩:=r; rfl
 | _=>exact absurd (show false=true from f) WC
theorem wV{x}:∀ {xs:List V} {us:List Value},Vals xs us->xs.all kM=true->us.any (kO x)=xs.any λy=>lU y x
 | _,_,.nil,_=>rfl
 | y :: xs,u :: us,.cons r t,f=>by
  rw[Um,WE] at f;rw[Qb,Qb,B6 r f.1,wV t f.2]
theorem wW{x}(rx:RelV x v)(fx:kM x=true):∀ {xs:List V} {us:List Value},Vals xs us->xs.all kM=true->∀ u ∈ us,SeqAt.EqAt A s u v (kO x u)
 | _,_,.nil,_=>by grind
 | y :: xs,u :: us,.cons r t,f=>λu' hu=>by
  rw[Um,WE] at f;rcases Wu.mp hu with rfl | hu
  ·rw[B6 r f.1]; exact MA r rx f.1 fx
  ·exact wW rx fx t f.2 u' hu
def tZ(x:V)(xs:List V):Bool:=xs.any λy=>lU y x
def B7(K:W5)(neg:Bool):R2:=λx y H Q=>∃ p xs,y = .ref p/\(cP K H p xs\/di K H p xs)/\kM x=true/\xs.all kM=true/\Q (.bl (if neg then !tZ x xs else tZ x xs)) H
theorem MB:cj X (Q7 .NotIn) (B7 X.K true):=by
 intro pins s σ H x y v u Q I rx ry h;obtain⟨p,xs,rfl,hq,fx,fs,q⟩:=h
 cases ry;rcases hq with hq | hq
 ·obtain⟨ak,r,pl,hz⟩:=I.list hq;refine SeqAt.notIn_listAt (kO x) pl.isList (λw hw=>wW rx fx r fs w (~~~hw)) ⟨.bl _,H,I,rfl,?_⟩;rw[show ak.toArray.any (kO x)=ak.any (kO x) by simp,wV r fs];exact q
 ·obtain⟨ak,r,pl,hz⟩:=I.tuple hq;refine SeqAt.notIn_tupleAt (kO x) pl (λw hw=>wW rx fx r fs w (~~~hw)) ⟨.bl _,H,I,rfl,?_⟩;rw[show ak.toArray.any (kO x)=ak.any (kO x) by simp,wV r fs];exact q
theorem MC:eO X (.builtin "len") (λxs H Q=>∃ p ys,xs=[.ref p]/\(cP X.K H p ys\/di X.K H p ys)/\Q (.int ys.length) H):=by
 intro pins s σ H xs us Q I r h;obtain⟨p,ys,rfl,hq,q⟩:=h;obtain⟨u,rfl,rx⟩:=g7 r
 cases rx;have hn:=oI;rcases hq with hq | hq
 ·obtain⟨ak,r',pl,hz⟩:=I.list hq;have hlen:=r'.length;exact Calls.call_len_list pl.isList (by simp only[Wx] <;> lia) ⟨.int ys.length,H,I.tok _,⟨s.toks + 1,by rw[Wx,hlen]⟩,q⟩
 ·obtain⟨ak,r',pl,hz⟩:=I.tuple hq;have hlen:=r'.length;exact len_tuple pl (by simp only[Wx] <;> lia) ⟨.int ys.length,H,I.tok _,⟨s.toks + 1,by rw[Wx,hlen]⟩,q⟩
theorem MD:eO X (.builtin "len") (λxs H Q=>∃ z,xs=[.str z]/\z.length<=Wa/\Q (.int z.length) H):=by
 intro pins s σ H xs us Q I r h;obtain⟨z,rfl,hz,q⟩:=h;obtain⟨u,rfl,t,rfl⟩:=g7 r;have hn:=oI;exact len_str Y' ⟨.int z.length,H,I.tok _,⟨_,rfl⟩,q⟩
theorem eO.or{f}(h:eO X f r)(h':eO X f r'):eO X f (λxs H Q=>r xs H Q\/r' xs H Q):=by
 intro pins s σ H xs us Q I rs q;rcases q with q | q
 ·exact h pins s σ H xs us Q I rs q
 ·exact h' pins s σ H xs us Q I rs q
theorem ME:eO X (.type "tuple") (λxs H Q=>∃ p ys,xs=[.ref p]/\((cP X.K H p ys/\∀ l,H l=none->Q (.ref l) (upd H l (.tup ys)))\/(di X.K H p ys/\Q (.ref p) H))):=by
 intro pins s σ H xs us Q I r h;obtain⟨p,ys,rfl,h⟩:=h;obtain⟨u,rfl,rx⟩:=g7 r
 cases rx;rcases h with ⟨hq,q⟩ | ⟨hq,q⟩
 ·obtain⟨ak,r',pl,hz⟩:=I.list hq;have hlen:=r'.length;refine call_tuple_list pl.isList (λh' kp=>?_) (by simp only[Wx] <;> lia);have I1:Inv X pins σ H { s with heap:=h' }:=I.kept (t':=s.toks) kp;have I2:Inv X pins σ (upd H h'.objs.size (.tup ys)) { s with heap:=h'.push { cls:=.type "tuple",data:=.seq ak.toArray } } :=
   I1.laid (t':=s.toks) (λb o e=>W7 _ e) (Wi _) (show cp X.prog X.w _ _ _ (.tup ys) from⟨hz,ak,r',i5.new _ _⟩)
  exact⟨.ref h'.objs.size,_,I2,rfl,q _ (I1.aC.fresh (Wi _))⟩
 ·obtain⟨ak,r',pl,hz⟩:=I.tuple hq;exact call_tuple_same pl ⟨.ref p,H,I,rfl,q⟩
def wX(K:W5)(T:String)(x:V)(H:Hp):Prop:=match x with
 | .str _=>T = "str"
 | .int _=>T = "int"
 | .ref p=>(T = "list"/\∃ xs,cP K H p xs)\/(T = "tuple"/\∃ o,K.lookup p=some o/\o.cls = .type "tuple"/\o.dict=none) \/
   (T = "dict"/\((∃ aj,H p=some (.dK aj))\/∃ aj,H p=some (.dT aj)))\/(T = "set"/\∃ S n,H p=some (.set S n))
 | _=>False
theorem MF{x}(I:Inv X pins σ H s)(r:RelV x v)(ty:wX X.K T x H) :
  s.TypeIs v T/\∀ a,v = .ref a->∃ ob,s.heap.get? a=some ob/\ob.dict=none:=by
 cases x with
 | str z =>
  obtain⟨t,rfl⟩:=r
  cases (show T = "str" from ty);exact⟨typeIs_str s z t,λ_ e=>nomatch e⟩
 | int i =>
  obtain⟨t,rfl⟩:=r
  cases (show T = "int" from ty);exact⟨typeIs_int s i t,λ_ e=>nomatch e⟩
 | ref p =>
  cases r;rcases ty with ⟨rfl,xs,hq⟩ | ⟨rfl,o,hk,hc,hd⟩ | ⟨rfl,hk⟩ | ⟨rfl,S,n,hk⟩
  ·obtain⟨ak,_,pl,_⟩:=I.list hq;refine⟨pl.isList.typeIs,λa e=>?_⟩
   cases e;obtain⟨o,n,e,c,hd,_⟩:=pl;exact⟨o,e,hd⟩
  ·refine⟨⟨o,I.e_ p o hk,hc⟩,λa e=>?_⟩
   cases e;exact⟨o,I.e_ _ o hk,hd⟩
  ·have z:∃ o,s.heap.get? p=some o/\o.ExactDict:=by
    rcases hk with ⟨aj,hk⟩ | ⟨aj,hk⟩
    ·obtain⟨_,_,_,_,o,_,_,e,ex,_⟩:=I.aC p _ hk;exact⟨o,e,ex⟩
    ·obtain⟨_,_,_,_,o,_,_,e,ex,_⟩:=I.aC p _ hk;exact⟨o,e,ex⟩
   obtain⟨o,e,ex⟩:=z;refine⟨⟨o,e,ex.1⟩,λa e2=>?_⟩
   cases e2;exact⟨o,e,ex.2.1⟩
  ·obtain⟨o,_,_,_,e,ex,_⟩:=I.aC p _ hk;refine⟨⟨o,e,ex.1⟩,λa e2=>?_⟩
   cases e2;exact⟨o,e,ex.2.1⟩
 | _=>exact False.elim ty
def t4(K:W5)(T:String)(r:V->List V->Hp->VK->Prop)(to:TE)(t:TA):TE:=λσ H Q=>to σ H λx H1=>wX K T x H1/\t σ H1 λxs H2=>r x xs H2 Q
variable {o:Expr}{to:TE}{t:TA}{T id:String}{r:V->List V->Hp->VK->Prop}
theorem t5 (pa:PlainAttrs T) (slot:Slot T name id) (MG:typeOf (.builtin id)=pure (.type "method_descriptor")) (hm:wU X id r) (ho:PE X o to) (ha:PA X (e :: es) t)
  (m4:J9 o name X.env (eval o X.env)=eval o X.env:=by rfl)
  (m5:((Qv bI (Wd (e :: es) X.env)).all (λx=>!x.1) && (backToKw bI (Uk [] X.env)).all (λx=>x.1.isSome)
   && decide ((e :: es).length + ([]:List Keyword).length + (if ([]:List Keyword).isEmpty then 0 else 1) < 30))=true:=by rfl)
  (ik:(apos.endLine == bI.line)=true:=by rfl) (hs:Wd (e :: es) X.env=(false,eval e X.env) :: Wd es X.env:=by rfl) (wY:(Qv bI (Wd es X.env)).any (·.1)=false:=by rfl) :
  PE X (.Call (.Attribute o name apos) (e :: es) [] bI) (t4 X.K T r to t):=by
 intro pins s σ H Q I h;refine wpAny_Call_method_late m4 m5 ik rfl (aY (ho pins s σ H _ I h) λv s1 ⟨x,H1,I1,r1,ty,q1⟩=>?_);obtain⟨h1,h2⟩:=MF I1 r1 ty;refine⟨T,id,pa,slot,MG,h1,h2,?_⟩;have hA:=ha bI pins s1 σ H1 _ I1 q1;rw[hs] at hA ⊢;refine Calls.callWith_builtin (by show(false || (Qv bI (Wd es X.env)).any (·.1))=false; rw[wY] <;> rfl) (Calls.evalArgs_plain ?_);exact aY hA λus s2 ⟨vs,H2,I2,r2,q2⟩=>hm pins s2 σ H2 x vs v us Q I2 r1 r2 q2
end
def MH(X:Cx)(id:String)(r:V->List V->Hp->VK->Prop):Prop :=
 ∀ (pins:List (Addr×Obj)) (s:W4) (σ:St) (H:Hp) (x:V) (xs:List V) (v:Value) (us:List Value) (Q:VK),Inv X pins σ H s->RelV x v->Vals xs us->r x xs H Q ->
  W8 (model X.prog X.w) X.A (call (.builtin id) (v :: us)) (EP X pins σ Q) X.xe s
theorem Vals.one:∀ {x:V} {us:List Value},Vals [x] us->∃ u,us=[u]/\RelV x u
 | _,_,.cons r .nil=>⟨_,rfl,r⟩
theorem Vals.two:∀ {x y:V} {us:List Value},Vals [x,y] us->∃ u v,us=[u,v]/\RelV x u/\RelV y v
 | _,_,_,.cons r (.cons q .nil)=>⟨_,_,rfl,r,q⟩
theorem Vals.rep{xs}(h:Vals xs us):∀ k:Nat,Vals (Wm k xs).flatten (Wm k us).flatten
 | 0=>.nil
 | k + 1=>by
  rw[QS,QS,Jp,Jp];exact Vals.append h (Vals.rep h k)
theorem B8(ak:List Value):∀ k (acc:List Value),
  List.foldl (λx1 x2=>x1 ++ x2) acc.toArray (Wm k ak.toArray)=(acc ++ (Wm k ak).flatten).toArray
 | 0,acc=>by simp
 | k + 1,acc=>by
  have e:acc.toArray ++ ak.toArray=(acc ++ ak).toArray:=by simp
  have e2:(acc ++ ak) ++ (Wm k ak).flatten=acc ++ (Wm (k + 1) ak).flatten:=by grind
  rw[<- e2,<- B8 ak k (acc ++ ak),<- e,QS,Jj]
section
variable {b:Addr}{xs zs:List V}
theorem Inv.MI{ak its':List Value}{n}{f:Array Value->Array Value}{t'}(I:Inv X pins σ H s)(hH:H l=some (.lst xs))
  (e:s.heap.get? l=some { cls:=.type "list",data:=.seq ak.toArray n }) (hf:f ak.toArray=its'.toArray) (hv:Vals ys its') (hz:ys.length<=Wa) :
  Inv X pins σ (upd H l (.lst ys)) { s with heap:=s.heap.update l (Obj.mapSeq f),toks:=t' }:=by
 have q:=PySem.IsL.update e f;rw[hf] at q;refine I.write (x:=l) (e:=l) %[hH|trivial] (.inl rfl) (λb' u hb hu=>(JK s.heap (Obj.mapSeq f) (Ne.symm hb)).trans hu) ⟨_,q⟩ ?_;exact⟨hz,its',_,hv,q⟩
theorem Inv.MJ(I:Inv X pins σ H s)(hv:Vals ys ak)(hz:ys.length<=Wa) :
  Inv X pins σ (upd H s.heap.objs.size (.lst ys)) { s with heap:=s.heap.push { cls:=.type "list",data:=.seq ak.toArray },toks:=t' } :=
 I.laid (λ_ _ q=>W7 _ q) (Wi _) ⟨hz,ak,0,hv,Wh _ rfl⟩
theorem Inv.fresh(I:Inv X pins σ H s):H s.heap.objs.size=none:=I.aC.fresh (Wi _)
theorem Inv.MK (I:Inv X pins σ H s) (hH:H l=some (.lst xs)):xs.length<=Wa/\∃ (ak:List Value) (n:Nat),Vals xs ak/\xs.length=ak.length/\s.heap.get? l=some { cls:=.type "list",data:=.seq ak.toArray n }:=by
 obtain⟨z,ak,n,r,e⟩:=I.aC l _ hH;exact⟨z,ak,n,r,r.length,e⟩
end
def t7:V->List V->Hp->VK->Prop:=λx vs H Q=>∃ l xs y,x = .ref l/\vs=[y]/\H l=some (.lst xs)/\xs.length < Wa/\Q .bp (upd H l (.lst (xs ++ [y])))
theorem wZ:MH X "list.append" t7:=by
 intro pins s σ H x vs v us Q I rx rv h;obtain⟨l,xs,y,rfl,rfl,hH,hz,q⟩:=h
 cases rx;obtain⟨u,rfl,ru⟩:=rv.one;obtain⟨z,ak,n,r,hl,e⟩:=I.MK hH;refine Ub F.slot_list_append ⟨_,e,rfl⟩ F.entry_list_append (F.args_list_append_2 _ _) (PySem.list_append l ak.toArray n u (by rw[Wx]; lia)) ⟨e,?_⟩;refine⟨.bp,_,I.MI (its':=ak ++ [u]) hH e Z5 (r.append (.cons ru .nil)) ?_,rfl,q⟩;rw[Qu,List.length_singleton];lia
theorem w4(xs:List α)(k):(Wm k xs).flatten.length=k * xs.length:=by simp_all
section
variable {κ:Type}[DecidableEq κ]
def gm(aj:List (κ×V))(k:κ):Option V:=(aj.find? λkv=>decide (kv.1=k)).map (·.2)
def putK(aj:List (κ×V))(k:κ)(v:V):List (κ×V) :=
 if (aj.any λkv=>decide (kv.1=k))=true then aj.map (λkv=>if kv.1=k then(kv.1,v) else kv) else aj ++ [(k,v)]
theorem t8{p:κ×V}{r:List (κ×V)}{k:κ}(e:p.1=k):gm (p :: r) k=some p.2:=#v[gm,WP,e]
theorem t_{p:κ×V}{r:List (κ×V)}{k:κ}(e:¬ p.1=k):gm (p :: r) k=gm r k:=#v[gm,WP,e]
theorem B9(k:κ):∀ aj:List (κ×V),(aj.any λkv=>decide (kv.1=k))=(gm aj k).isSome
 | []=>rfl
 | p :: r=>by
  rw[Qb];by_cases e:p.1=k
  ·simp only[t8 e,decide_eq_true e,Bool.true_or,Option.isSome_some]
  ·rw[t_ e,decide_eq_false e,Bool.false_or]; exact B9 k r
theorem oM(aj:List (κ×V))(k:κ)(v):(putK aj k v).length<=aj.length + 1:=by
 unfold putK;split
 ·rw[Wn]; lia
 ·rw[Qu,WS,Jk]; lia
theorem gc.qC{u}(r:gc o u):o.isSome=u.isSome:=by
 cases o with
 | none=>cases u with
  | none=>rfl
  | some _=>exact(show False from r).elim
 | some _=>cases u with
  | none=>exact(show False from r).elim
  | some _=>rfl
theorem KV.val{aj:List (κ×V)}{vs:List (κ×Value)}(r:KV aj vs)(k:κ):gc (gm aj k) (valueAt vs k):=by
 unfold KV at r;induction r with
 | nil=>exact True.intro
 | @cons p q ps qs h t ih =>
  obtain⟨h1,h2⟩:=h;by_cases e:p.1=k
  ·have e':q.1=k:=h1.symm.trans e;have b:valueAt (q :: qs) k=some q.2:=#v[valueAt,WP,e']
   rw[t8 e,b]; exact h2
  ·have e':¬ q.1=k:=λz=>e (h1.trans z)
   have b:valueAt (q :: qs) k=valueAt qs k:=#v[valueAt,WP,e']
   rw[t_ e,b]; exact ih
theorem KV.any{vs}(r:KV aj vs)(k:κ):(aj.any λkv=>decide (kv.1=k))=vs.any λkv=>decide (kv.1=k):=by
 unfold KV at r;induction r with
 | nil=>rfl
 | cons h t ih=>rw[Qb,Qb,ih,h.1]
theorem KV.w6{vs}(r:KV aj vs)(k:κ)(ry:RelV y u) :
  KV (aj.map λkv=>if kv.1=k then(kv.1,y) else kv) (vs.map λkv=>if kv.1=k then(kv.1,u) else kv):=by
 unfold KV at r ⊢;induction r with
 | nil=>exact .nil
 | @cons p q ps qs h t ih =>
  rw[Wf,Wf];refine .cons ?_ ih;grind
theorem KV.put{vs}(r:KV aj vs)(k:κ)(ry:RelV y u):KV (putK aj k y) (stored vs k u):=by
 unfold putK stored;rw[r.any k];by_cases e:(vs.any λkv=>decide (kv.1=k))=true
 ·rw[if_pos e,if_pos e]; exact r.w6 k ry
 ·rw[if_neg e,if_neg e]; exact Paired.snoc r ⟨rfl,ry⟩
theorem KV.length{vs}(r:KV aj vs):aj.length=vs.length:=Paired.length r
end
theorem kP(r:RelV (kV k) u):(eV P w).is k u=true:=by
 cases k with
 | inl i=>obtain⟨t,e⟩:=(show ∃ t,u=Value.int i t from r); subst e; exact KR P w i t
 | inr x=>obtain⟨t,e⟩:=(show ∃ t,u=Value.str x t from r); subst e; exact KS P w x t
theorem B_:∀ {ks:List Key} {us:List Value},Vals (ks.map kV) us->ItemsAre (eV P w) ks us
 | [],_,r=>by rw[U5] at r; cases r; exact .nil
 | k :: ks,_,r=>by
  rw[Wf] at r
  cases r with
  | cons h t=>exact .cons (kP h) (B_ t)
abbrev KT(H:Hp):List (List Key×V)->List (List Key×Addr×Value)->Prop:=Paired λp q=>p.1=q.1/\H q.2.1=some (.tup (p.1.map kV))/\RelV p.2 q.2.2
theorem KT.val{H}{aj:List (List Key×V)}{xs:List (List Key×Addr×Value)}(r:KT H aj xs)(k):gc (gm aj k) ((atKey xs k).map (·.2)):=by
 induction r with
 | nil=>exact True.intro
 | @cons p q ps qs h t ih =>
  obtain⟨h1,_,h2⟩:=h;by_cases e:p.1=k
  ·have e':q.1=k:=h1.symm.trans e;have b:atKey (q :: qs) k=some q.2:=#v[atKey,WP,e']
   rw[t8 e,b]; exact h2
  ·have e':¬ q.1=k:=λz=>e (h1.trans z)
   have b:atKey (q :: qs) k=atKey qs k:=#v[atKey,WP,e']
   rw[t_ e,b]; exact ih
theorem KT.w6{xs}(r:KT H aj xs)(k)(ry:RelV y u) :
  KT H (aj.map λkv=>if kv.1=k then(kv.1,y) else kv) (xs.map (putAt k u)):=by
 induction r with
 | nil=>exact .nil
 | @cons p q ps qs h t ih =>
  rw[Wf,Wf];refine .cons ?_ ih;obtain⟨h1,h2,h3⟩:=h;unfold putAt;by_cases e:p.1=k
  ·rw[if_pos e,if_pos (h1.symm.trans e)]; exact⟨h1,h2,ry⟩
  ·rw[if_neg e,if_neg (λz=>e (h1.trans z))]; exact⟨h1,h2,h3⟩
theorem KT.put{xs}(r:KT H aj xs)(k:List Key)(hb:H b=some (.tup (k.map kV)))(ry:RelV y u) :
  KT H (putK aj k y) (storedH xs k b u):=by
 have e:(aj.any λkv=>decide (kv.1=k))=(atKey xs k).isSome:=by
  rw[B9,(r.val k).qC,Option.isSome_map]
 unfold putK storedH;rw[e];by_cases q:(atKey xs k).isSome=true
 ·rw[if_pos q,if_pos q]; exact r.w6 k ry
 ·rw[if_neg q,if_neg q]; exact Paired.snoc r ⟨rfl,hb,ry⟩
theorem KT.keeps{xs}(r:KT H aj xs)(ht:∀ b ys,H b=some (.tup ys)->H' b=some (.tup ys)):KT H' aj xs :=
 Paired.wc r λ_ _ z=>⟨z.1,ht _ _ z.2.1,z.2.2⟩
theorem Ca{u}(ok:cL P w H h)(e:Rd H a u):cp P w H h a u:=e.ok ok
theorem qD(ok:cL P w H h)(e:Rd H a (.dK aj)):aj.length<=Wa/\(a == Qn)=false/\∃ vs,KV aj vs/\h.DictOf (eV P w) a vs :=
 show cp P w H h a (.dK aj) from Ca ok e
theorem qE(ok:cL P w H h)(e:H a=some (.dK aj)):aj.length<=Wa/\(a == Qn)=false/\∃ vs,KV aj vs/\h.DictOf (eV P w) a vs:=qD ok (.inl e)
theorem qF(ok:cL P w H h)(e:H a=some (.tup (ks.map kV))):(tupleKind (eV P w)).is h ks a:=by
 obtain⟨_,ak,r,p⟩:=(show cp P w H h a (.tup (ks.map kV)) from ok a _ e)
 obtain⟨o,h1,h2,n,h3⟩:=p.tup;exact⟨o,ak.toArray,n,h1,h2,h3,by simpa using B_ r⟩
theorem ua(ok:cL P w H h)(e:Rd H a (.dT aj)):aj.length<=Wa/\(a == Qn)=false /\
  ∃ xs,KT H aj xs/\h.DictOfH (tupleKind (eV P w)) a xs:=by
 obtain⟨z,y,xs,r,o,es,ep,h1,h2,h3,h4,h5⟩:=(show cp P w H h a (.dT aj) from Ca ok e)
 refine⟨z,y,xs,r,o,es,ep,h1,h2,h3,h4,λx hx=>?_,h5⟩;have all:∀ {l:List (List Key×V)} {m:List (List Key×Addr×Value)},KT H l m->∀ x ∈ m,(tupleKind (eV P w)).is h x.1 x.2.1:=by
  intro l m q;induction q with
  | nil=>intro x hx; exact nomatch hx
  | @cons p q ps qs hq t ih =>
   intro x hx;rcases Wu.mp hx with e | hx
   ·subst e;exact qF ok (by rw[<- hq.1]; exact hq.2.1)
   ·exact ih x hx
 exact all r x hx
theorem ML(ok:cL P w H h)(e:H a=some (.dT aj)):aj.length<=Wa/\(a == Qn)=false /\
  ∃ xs,KT H aj xs/\h.DictOfH (tupleKind (eV P w)) a xs:=ua ok (.inl e)
def lV(H:Hp)(a:Addr)(y:V)(r:Option V):Prop :=
 (∃ aj k,Rd H a (.dK aj)/\y=kV k/\r=gm aj k)\/∃ aj k b,Rd H a (.dT aj)/\y = .ref b/\H b=some (.tup (k.map kV))/\r=gm aj k
def qG(H:Hp)(a:Addr)(y v:V)(H':Hp):Prop :=
 (∃ aj k,H a=some (.dK aj)/\y=kV k/\aj.length < Wa/\H'=upd H a (.dK (putK aj k v))) \/
 ∃ aj k b,H a=some (.dT aj)/\y = .ref b/\H b=some (.tup (k.map kV))/\aj.length < Wa/\H'=upd H a (.dT (putK aj k v))
theorem lV.k{aj k}(e:H a=some (.dK aj)):lV H a (kV k) (gm aj k):=.inl ⟨aj,k,.inl e,rfl,rfl⟩
theorem qG.k{aj:List (Key×V)}{k v}(e:H a=some (.dK aj))(hl:aj.length < Wa):qG H a (kV k) v (upd H a (.dK (putK aj k v))):=.inl ⟨aj,k,e,rfl,hl,rfl⟩
section
variable {y v:V}{r:Value}{o:Option V}
theorem Inv.big(I:Inv X pins σ H s):Qn < s.heap.objs.size:=by
 have h:Wy < s.heap.objs.size:=(I.mod.glob.keeps I.bk).lt;exact Nat.lt_trans Z' h
theorem MM(hu:A.units + 1 < Qk)(I:Inv X pins σ H s)(g:lV H a y (some v))(ry:RelV y u)(h:∀ w' s',Inv X pins σ H s'->RelV v w'->Q w' s') :
  W8 (model X.prog X.w) A (Ua (.ref a) u) Q E s:=by
 rcases g with ⟨aj,k,e,ey,l⟩ | ⟨aj,k,b,e,ey,eb,l⟩
 ·subst ey;obtain⟨z,hd,vs,rel,dd⟩:=qD I.aC e;obtain⟨w',hw,jF⟩:=gc.some_of (v:=v) (o:=valueAt vs k) %[l|rel.val k];exact wpAny_getItem_of (kP ry) dd.mapOf hw (h w' _ (I.tok _) jF)
 ·subst ey
  cases (show u=Value.ref b from ry);obtain⟨z,hd,xs,rel,dd⟩:=ua I.aC e;obtain⟨w',hw,jF⟩:=gc.some_of (v:=v) (o:=(atKey xs k).map (·.2)) %[l|rel.val k];obtain⟨p,hp,hp2⟩:=Option.map_eq_some_iff.mp hw;refine wpAny_getItem_heap (U6 hu) (qF I.aC eb) dd hp ?_;rw[hp2];exact h w' _ (I.tok _) jF
theorem MN(hu:A.units + 1 < Qk)(I:Inv X pins σ H s)(g:lV H a y o)(ry:RelV y u)(h:∀ s',Inv X pins σ H s'->Q (.bool o.isSome) s') :
  W8 (model X.prog X.w) A (Q7 .In u (.ref a)) Q E s:=by
 rcases g with ⟨aj,k,e,ey,l⟩ | ⟨aj,k,b,e,ey,eb,l⟩
 ·subst ey;obtain⟨z,hd,vs,rel,dd⟩:=qD I.aC e;refine wpAny_in_of (kP ry) hd dd.mapOf ?_;rw[<- (rel.val k).qC,<- l];exact h _ (I.tok _)
 ·subst ey
  cases (show u=Value.ref b from ry);obtain⟨z,hd,xs,rel,dd⟩:=ua I.aC e;refine wpAny_in_heap (U6 hu) (qF I.aC eb) hd dd ?_;have q:=(rel.val k).qC;rw[Option.isSome_map] at q;rw[<- q,<- l];exact h _ (I.tok _)
theorem MO(hu:A.units + 1 < Qk)(I:Inv X pins σ H s)(g:lV H a y o)(ry:RelV y u)(h:∀ s',Inv X pins σ H s'->Q (.bool (!o.isSome)) s') :
  W8 (model X.prog X.w) A (Q7 .NotIn u (.ref a)) Q E s:=by
 rcases g with ⟨aj,k,e,ey,l⟩ | ⟨aj,k,b,e,ey,eb,l⟩
 ·subst ey;obtain⟨z,hd,vs,rel,dd⟩:=qD I.aC e;refine wpAny_notIn_of (kP ry) hd dd.mapOf ?_;rw[<- (rel.val k).qC,<- l];exact h _ (I.tok _)
 ·subst ey
  cases (show u=Value.ref b from ry);obtain⟨z,hd,xs,rel,dd⟩:=ua I.aC e;refine wpAny_notIn_heap (U6 hu) (qF I.aC eb) hd dd ?_;have q:=(rel.val k).qC;rw[Option.isSome_map] at q;rw[<- q,<- l];exact h _ (I.tok _)
theorem m7(I:Inv X pins σ H s)(mu:qk (H a))(hs:Qt a s.heap h')(he:∃ q,h'.get? a=some q)(new:cp X.prog X.w (upd H a ob) h' a ob) :
  Inv X pins σ (upd H a ob) { s with heap:=h',toks:=t' } :=
 I.write (x:=a) (e:=a) mu (.inl rfl) (λb q hb z=>(hs.2 b hb).trans z) he new
theorem ub{vs}(z:aj.length<=Wa)(hd:(a == Qn)=false)(rel:KV aj vs)(dd:h'.DictOf (eV P w) a vs) :
  cp P w H' h' a (.dK aj):=⟨z,hd,vs,rel,dd⟩
theorem MP{Q}(hu:A.units + 1 < Qk)(I:Inv X pins σ H s)(g:qG H a y v H')(ry:RelV y u)(rv:RelV v r)(h:∀ s',Inv X pins σ H' s'->Q () s') :
  W8 (model X.prog X.w) A (setItem (.ref a) u r) Q E s:=by
 rcases g with ⟨aj,k,e,ey,l,eH⟩ | ⟨aj,k,b,e,ey,eb,l,eH⟩
 ·subst ey eH;obtain⟨z,hd,vs,rel,dd⟩:=qE I.aC e;have hz:vs.length<=Wa:=by rw[<- rel.length]; exact z
  have hl:(putK aj k v).length<=Wa:=by have:=oM aj k v; lia
  refine wpAny_setItem_pairs (hsz:=hz) (kP ry) dd λh' iL hs=>h _ ?_
  have he:∃ q,h'.get? a=some q:=let ⟨q,_,_,hq,_⟩:=iL; ⟨q,hq⟩
  exact m7 I %[e|True.intro] hs he (ub hl hd (rel.put k rv) iL)
 ·subst ey eH
  cases (show u=Value.ref b from ry);obtain⟨z,hd,xs,rel,dd⟩:=ML I.aC e;have hz:xs.length<=Wa:=by rw[<- Paired.length rel]; exact z
  have hl:(putK aj k v).length<=Wa:=by have:=oM aj k v; lia
  refine wpAny_setItem_heap (hsz:=hz) (U6 hu) (qF I.aC eb) dd λh' iL hs=>h _ ?_
  obtain⟨q,es,ep,hq,h2,h3,h4,_,h5⟩:=iL;refine m7 I %[e|True.intro] hs ⟨q,hq⟩ ⟨hl,hd,_,(rel.put k eb rv).keeps λc ys ec=>?_,q,es,ep,hq,h2,h3,h4,h5⟩;rw[aR (KU ec e (λz=>nomatch z))];exact ec
end
section
variable {aj:List (Key×V)}{k:Key}
theorem MQ (I:Inv X pins σ H s) (e:Rd H a (.dK aj)) (h:∀ t s',Inv X pins σ H s'->Q (.int aj.length t) s'):W8 (model X.prog X.w) A (call (.builtin "len") [.ref a]) Q E s:=by
 obtain⟨z,hd,vs,rel,dd⟩:=qD I.aC e;refine call_len_dict hd dd (by rw[<- rel.length]; rw[QN] at z; lia) ?_;rw[<- rel.length];exact h _ _ (I.tok _)
end
def MR(td ty tv:TE):TS:=λD σ H=>tv σ H λv H1=>td σ H1 λx H2=>ty σ H2 λy H3=>∃ a H4,x = .ref a/\qG H3 a y v H4/\D.nx σ H4
section
variable {o i value:Expr}
theorem MS(hu:X.A.units + 1 < Qk)(ho:PE X o td)(hi:PE X i ty)(hv:PE X value tv)(hs:J8 value (some (.Subscript o i pos')) pos.line X.env=pure false) :
  PS X (.Assign [.Subscript o i pos'] value pos) (MR td ty tv):=by
 intro pins s σ H D I h;refine wpAny_Assign_Subscript (aY (hv pins s σ H _ I h) λr s1 ⟨v,H1,I1,rv,q1⟩=>aY (ho pins s1 σ H1 _ I1 q1) λu s2 ⟨x,H2,I2,rx,q2⟩=>aY (hi pins s2 σ H2 _ I2 q2) λiv s3 ⟨y,H3,I3,ry,a,H4,ex,g,q3⟩=>?_) hs;subst ex;obtain rfl:u=Value.ref a:=rx;exact MP hu I3 g ry rv λs4 I4=>⟨σ,H4,I4,q3⟩
end
theorem uc (h:Heap) (hb:Qn < h.objs.size):cp P w H (h.push { cls:=.type "dict",data:=.dict #[] }) h.objs.size (.dK []) :=
 ⟨Qq _,beq_eq_false_iff_ne.mpr (Ne.symm (WX hb)),[],.nil,Heap.DictOf.new h⟩
def MT:TE:=λ_ H Q=>∀ p,H p=none->Q (.ref p) (upd H p (.dK []))
theorem MU:PE X (.Dict [] [] pos) MT:=λpins s σ H Q I h =>
 wpAny_Dict_empty ⟨.ref s.heap.objs.size,_,I.laid (a:=s.heap.objs.size) (o:=.dK []) (t':=s.toks) (λ_ _ q=>W7 _ q) (Wi _) (uc s.heap I.big),rfl,h _ (I.aC.fresh (Wi _))⟩
def w8:List (TE×TE)->St->Hp->(List (V×V)->Hp->Prop)->Prop
 | [],_,H,Q=>Q [] H
 | (tk,tv) :: r,σ,H,Q=>tk σ H λx H1=>tv σ H1 λy H2=>w8 r σ H2 λps H3=>Q ((x,y) :: ps) H3
abbrev VV:List (V×V)->List (Value×Value)->Prop:=Paired λp q=>RelV p.1 q.1/\RelV p.2 q.2
def ud(X:Cx)(pos:Pos)(keys:List (Option Expr))(values:List Expr)(m8:List (TE×TE)):Prop :=
 ∀ (pins:List (Addr×Obj)) (s:W4) (σ:St) (H:Hp) (Q:List (V×V)->Hp->Prop),Inv X pins σ H s->w8 m8 σ H Q ->
  W8 (model X.prog X.w) X.A (evalPairs (pairTrees keys values X.env pos)) (λvs s'=>∃ ps H',Inv X pins σ H' s'/\VV ps vs/\Q ps H') X.xe s
theorem MV:ud X pos [] [] []:=λpins s σ H Q I h=>pairTrees_nil_walk ⟨[],H,I,.nil,h⟩
theorem MW{vs}(hk:PE X k tk)(hv:PE X v tv)(hr:ud X pos ks vs m8) :
  ud X pos (some k :: ks) (v :: vs) ((tk,tv) :: m8):=λpins s σ H Q I h =>
 pairTrees_cons_walk (aY (hk pins s σ H _ I h) λu s1 ⟨x,H1,I1,rx,q1⟩=>aY (hv pins s1 σ H1 _ I1 q1) λw2 s2 ⟨y,H2,I2,ry,q2⟩ =>
  aY (hr pins s2 σ H2 _ I2 q2) λws s3 ⟨ps,H3,I3,rel,q3⟩=>⟨(x,y) :: ps,H3,I3,.cons ⟨rx,ry⟩ rel,q3⟩)
def m9(aj more:List (Key×V)):List (Key×V):=more.foldl (λacc kv=>putK acc kv.1 kv.2) aj
theorem KV.merge:∀ {more:List (Key×V)} {rs:List (Key×Value)} {aj:List (Key×V)} {vs:List (Key×Value)},KV more rs->KV aj vs->KV (m9 aj more) (merged vs rs):=by
 intro more rs aj vs r;unfold KV at r;induction r generalizing aj vs with
 | nil=>intro q; exact q
 | @cons p q ps qs h t ih =>
  intro r0;have e:KV (putK aj p.1 p.2) (stored vs q.1 q.2):=by
   have:=r0.put p.1 h.2;rw[<- h.1]; exact this
  exact ih e
theorem Cb:∀ (more aj:List (Key×V)),(m9 aj more).length<=aj.length + more.length
 | [],aj=>by show aj.length<=aj.length + 0; lia
 | p :: r,aj=>by
  have h1:=Cb r (putK aj p.1 p.2);have h2:=oM aj p.1 p.2;show(m9 (putK aj p.1 p.2) r).length<=_;rw[WS]; lia
theorem Cc{P w}:∀ {aj:List (Key×V)} {ws:List (Value×Value)},VV (aj.map λkv=>(kV kv.1,kv.2)) ws->∃ rs,Carries (eV P w) ws rs/\KV aj rs
 | [],_,r=>by rw[U5] at r; cases r; exact⟨[],True.intro,.nil⟩
 | p :: aj,_,r=>by
  rw[Wf] at r
  cases r with
  | @cons a b as bs h t =>
   obtain⟨rs,c,q⟩:=Cc (P:=P) (w:=w) t;obtain⟨b1,b2⟩:=b;exact⟨(p.1,b2) :: rs,⟨kP h.1,rfl,c⟩,.cons ⟨rfl,h.2⟩ q⟩
def MX(m8:List (TE×TE)):TE:=λσ H Q=>∀ p,H p=none->w8 m8 σ (upd H p (.dK [])) λps H2=>H2 p=some (.dK [])/\∃ aj:List (Key×V),ps=aj.map (λkv=>(kV kv.1,kv.2))/\aj.length<=15/\Q (.ref p) (upd H2 p (.dK (m9 [] aj)))
theorem MY(h:ud X pos keys values m8)(gn:keys.all (·.isSome)=true)(hl:keys.length=values.length)(h0:keys≠[])
  (MZ:keys.length<=15):PE X (.Dict keys values pos) (MX m8):=by
 intro pins s σ H Q I q;have hn:=I.aC.fresh (Wi s.heap.objs.size);have I1:=I.laid (a:=s.heap.objs.size) (o:=.dK []) (h':=s.heap.push { cls:=.type "dict",data:=.dict #[] }) (t':=s.toks) (λ_ _ q=>W7 _ q) (Wi _) (uc s.heap I.big);refine wpAny_Dict_walk (knd:=eV X.prog X.w) gn hl h0 MZ (aY (h pins _ σ _ _ I1 (q _ hn)) λws s2 ⟨ps,H2,I2,rel,e,aj,ep,lk,q2⟩=>?_);subst ep;obtain⟨rs,c,rk⟩:=Cc (P:=X.prog) (w:=X.w) rel;obtain⟨z,hd,vs0,r0,dd⟩:=qE I2.aC e
 cases r0;refine⟨rs,c,dd,λh' iL hs=>⟨.ref s.heap.objs.size,_,?_,rfl,q2⟩⟩;have hz:(m9 [] aj).length<=Wa:=by
  have h1:=Cb aj [];rw[Jk] at h1;rw[QN]; lia
 have he:∃ q,h'.get? s.heap.objs.size=some q:=let ⟨q,_,_,hq,_⟩:=iL; ⟨q,hq⟩
 exact m7 I2 %[e|True.intro] hs he (ub hz hd (rk.merge .nil) iL)
structure M2(X:Cx)(o:Expr)(m:Str)(apos:Pos)(e f:Expr)(bI:Pos):Prop where
 base:J9 o m X.env (eval o X.env)=eval o X.env
 M0:((Qv bI (Wd [e,f] X.env)).all (λx=>!x.1) && (backToKw bI (Uk [] X.env)).all (λx=>x.1.isSome)
  && decide (([e,f]:List Expr).length + ([]:List Keyword).length + (if ([]:List Keyword).isEmpty then 0 else 1) < 30))=true
 line:(apos.endLine == bI.line)=true
 trees:Qv bI (Wd [e,f] X.env)=[(false,eval e X.env),(false,eval f X.env)]
section
open PySem.W PySem.Calls
theorem M1{P}:∀ (ns:List Int) vs,WellAll P h vs (ns.map WData.int)->IntsAre vs ns:=by
 intro ns;induction ns with
 | nil =>
  intro vs w;rw[U5] at w
  cases w;exact .nil
 | cons n ns ih =>
  intro vs w;rw[Wf] at w
  cases w with
  | cons a b =>
   cases a;exact .cons _ _ (ih _ b)
theorem M3{l:OpenLaw}(hn:l.most=some n){P vals}
  (qH:l.row.toRowW.claim.pre args=true) (w_:WellAll P h vals args) :
  ∃ a vs ns,vals=[Value.ref a]/\args=[WData.list (ns.map WData.int)]/\h.get? a=some { cls:=.type "list",data:=.seq vs.toArray }/\IntsAre vs ns/\ns.length<=n:=by
 have M4:WShape.hasAll [] args [.list .int]=true:=(pre_splitW qH).1;have hc:l.pre.holds [] { args:=args } = true:=(pre_splitW qH).2;obtain⟨d,r,rfl,h1,h2⟩:=hasAllW_cons M4;obtain rfl:=hasAllW_nil h2;obtain⟨xs,rfl,h3⟩:=hasW_list h1;obtain⟨ns,rfl⟩:=items_int h3;have hlen:ns.length<=n:=by
  unfold OpenLaw.pre at hc;have h4:(WTm.not (.lt (.lit (.int (n:Int))) (.len (.arg 0)))).holds [] { args:=[.list (ns.map .int)] } = true:=by
   have h4:=(holds_andW hc).1;rw[hn] at h4;exact h4
  have h5:=condW_of h4 (w_not (w_lt w_lit (w_len_list (w_arg rfl))));rw[Wn] at h5;refine Nat.le_of_not_lt λq=>?_
  have q':(n:Int) < ((ns.length:Nat):Int):=by lia
  first
   | (rw[decide_eq_true q'] at h5; exact absurd h5 Z')
   | (simp at h5; lia)
 cases w_ with
 | cons w1 w2 =>
  cases w2
  cases w1 with
  | list ho gn=>exact⟨_,_,ns,rfl,rfl,ho,M1 ns _ gn,hlen⟩
theorem M5(l:OpenLaw)(args):l.row.toRowW.claim.post args (.bool true) args=true :=
 postW_of (r:=l.row.toRowW) (X:=(true == true))
  (show WShape.has [] (.bool true) .bool=true by first | rfl | decide | simp[WShape.has,WShape.arms,WShape.armsAll])
  (show(WTm.eq .res (.lit (.bool true))).value [] { args:=args,res:=some (.bool true),after:=args } = some (.bool (true == true)) from w_eq_bool (w_res rfl) w_lit) rfl
theorem M6{l:OpenLaw}{q}{d:DefRec}
  (hn:l.most=some n) (xa:d.params.defaults=[])
  (call:∀ w (s₀ s₁:W4) mg mb fa (o:Obj) pm cd doc a (vs:List Value) (ns:List Int),
   Ground q loose [] XP w s₀ mg mb s₁.heap->YP w s₁.heap ->
   s₁.heap.get? fa=some o->o.data = .func (docDef d.name d.params d.body d.scope pm cd doc)->s₁.heap.CodeRec cd d.name->mg d.name=some (.ref fa) ->
   s₁.heap.get? a=some { cls:=.type "list",data:=.seq vs.toArray }->IntsAre vs ns->ns.length<=n->s₁.gens = #[] ->
   Ju (model l.prog w) callerA (.call (.ref fa) ⟨[.ref a],[]⟩) (λr s'=>r = .ok (.ret (.bool true))/\OldK s₁.heap s'.heap/\s'.os=s₁.os/\AllBare s'.gens) s₁) :
  WalkO q loose XP YP l.row.toRowW d [] (λf vs=>PySem.call f vs):=by
 intro w s₀ s₁ mg mb G Y fa o pm cd doc dV kV ho hd g6 hD m_ hg args vals as qH hlay hrd w_ Cd;obtain rfl:dV = .none:=Dflts.none hD xa;obtain rfl:kV = .none:=Dflts.noKw hD;obtain⟨a,vs,ns,rfl,rfl,xf,hints,hlen⟩:=M3 hn qH w_;refine enter_call (codeAny_mono (call w s₀ s₁ mg mb fa o pm cd doc a vs ns G Y ho (fd_plain hd) g6 m_ xf hints hlen hg) λr s' hq=>?_);obtain⟨rfl,h2,h3,h4⟩:=hq;exact⟨.inl ⟨.bool true,.bool true,[],rfl,λ_=>rfl,.bool true,M5 l _,λ_=>⟨List.Pairwise.nil,λ_ hm=>(nomatch hm)⟩⟩,h2,h3,h4⟩
end
theorem Ce:∀ {vs:List Value} {ns:List Int},IntsAre vs ns->Vals (ns.map V.int) vs
 | _,_,.nil=>.nil
 | _,_,.cons n t h=>.cons ⟨t,rfl⟩ (Ce h)
def Zq(H:Hp):Prop:=∀ b,H b=none\/∃ o xs,H b=some (.frz o (.lst xs))
abbrev Zr(_:K.In h):W5:=K
def il(s:Stmt):Arguments:=match s with
 | .FunctionDef _ a _ _ _ _ _ _ _ _=>a
 | _=>{ posonlyargs:=[],args:=[],vararg:=none,kwonlyargs:=[],kw_defaults:=[],kwarg:=none,defaults:=[] }
def eA(s:Stmt):List Stmt:=match s with
 | .FunctionDef _ _ b _ _ _ _ _ _ _=>b
 | _=>[]
def bM(s:Stmt):Scope:=match s with
 | .FunctionDef _ _ _ _ _ _ sc _ _ _=>sc
 | _=>{ kind:=.function,names:=[],isGenerator:=false,isCoroutine:=false }
abbrev dX:kK:=λ_ _ _ _ _ _=>False
abbrev E0:XK:=λ_ _ _=>False
theorem xg:wI dX X E0:=λ_ _ _ _ _ _ _ h=>h.elim
structure eB(K:W5)(x qual:Str)(st:Stmt)(f:Addr)(fd:Qh):Prop where
 ex:∃ (oc:Value) (od:Option Addr) (kV doc pm:Value) (an:Option Addr) (aU ct:Value) (eW:Array (Option Value)),
  fd=Qm x qual (il st) (eA st) (bM st) .none kV doc pm an aU ct/\K.lookup f=some ⟨oc,od,.func fd,eW⟩/\PySem.W.codeIn K aU qual=true
 kp:Jv K (.ref f)=true
theorem eB.ok{st f k}(F:eB K x qual st f fd)(S:gj N ps (bM st))(len:∀ vs H Q E,sp vs H Q E->vs.length=ps.length)
  (dW:∀ aU (A:Wv) outer (s:W4) H (vs:List V) Q E,cQ k (A.deeper (Jo qual (bM st) s.heap.objs.size f aU))->sp vs H Q E ->
   ∃ t,dR (fU dX P w K mg base N qual (bM st) f aU A outer s H E).gF (eA st) t/\t { nx:=λ_ H'=>Q .bp H',rt:=Q } (gk N vs) H):i9 P w K mg base dX (k + 1) f fd ps sp:=by
 obtain⟨oc,od,kV,doc,pm,an,aU,ct,eW,rfl,lk,g6⟩:=F.ex;refine BR lk g6 S len λA outer s H vs Q E hr m3=>?_
 obtain⟨t,h,q⟩:=dW aU A outer s H vs Q E hr m3;exact⟨t,h.gF,q⟩
theorem eB.binds{st f}(F:eB K x qual st f fd)
  (h:∀ kV doc pm an aU ct (us:List Value),us.length=ps.length->bindArgs (Qm x qual (il st) (eA st) (bM st) .none kV doc pm an aU ct) ⟨us,[]⟩=pure (ps.zip us)):Binds K fd ps []:=by
 obtain⟨oc,od,kV,doc,pm,an,aU,ct,eW,rfl,lk,g6⟩:=F.ex;exact .all (h kV doc pm an aU ct)
theorem xh{st f od kV}(l:K.lookup f=some ⟨oc,od,.func (Qm x qual (il st) (eA st) (bM st) .none kV doc pm an aU ct),eW⟩)
  (c:PySem.W.codeIn K aU qual=true) (k:Jv K (.ref f)=true):eB K x qual st f (Qm x qual (il st) (eA st) (bM st) .none kV doc pm an aU ct):=⟨⟨oc,od,kV,doc,pm,an,aU,ct,eW,rfl,l,c⟩,k⟩
theorem M7(h:n<=1000):n < Wa:=Nat.lt_of_le_of_lt h Z'
theorem pv (i:Nat) (hN:X.N[i]? = some x:=by rfl) (hv:tj X.env.scope x:=by first | exact Or.inl rfl | exact Or.inr (Or.inl rfl) | exact Or.inr (Or.inr rfl)) (hd:(x == ("__debug__" : Str))=false:=by decide)
  (g6:(x == ("__classdict__" : Str))=false:=by decide):PE X (.Name x pos) (dD i):=K8 hN hv hd g6
theorem M8:eO X (.builtin "len") (λxs H Q=>∃ a aj,xs=[V.ref a]/\H a=some (.dK aj)/\Q (.int aj.length) H):=by
 intro pins s σ H xs us Q I r h;obtain⟨a,aj,rfl,ha,q⟩:=h;obtain⟨u,rfl,ru⟩:=g7 r
 cases ru;exact MQ I (.inl ha) λt s' I'=>⟨.int aj.length,H,I',⟨t,rfl⟩,q⟩
def gq(cells:List (Str×Addr)):List (Str×NameKind)->List (Str×Addr)->List (Str×Addr)
 | [],acc=>acc
 | (n,k) :: r,acc=>gq cells r (if k == .free then(match cells.lookup n with | some a=>(n,a) :: acc | none=>acc) else acc)
theorem xi(f:Str×NameKind->List (Str×Addr)->Sem (ForInStep (List (Str×Addr))))
  (hf:∀ name kind cs,f (name,kind) cs=if kind == .free then(do let a <- cellOf env name; pure (.yield ((name,a) :: cs))) else pure (.yield cs)) :
  ∀ names acc,(∀ x ∈ names,x.2=NameKind.free->∃ c,env.cells.lookup x.1=some c)->(forIn names acc f:Sem (List (Str×Addr)))=pure (gq env.cells names acc)
 | [],acc,_=>by rw[Uc]; rfl
 | (n,k) :: r,acc,h=>by
  rw[U2,hf];unfold gq;by_cases hk:(k == NameKind.free)=true
  ·obtain⟨c,hc⟩:=h (n,k) Wp (~~~hk);have fQ:env.cells.lookup n=some c:=hc;have e:cellOf env n=pure c:=by unfold cellOf; rw[fQ]
   rw[if_pos hk,if_pos hk,e,fQ];exact xi f hf r _ λx hx=>h x (Wg _ hx)
  ·rw[if_neg hk,if_neg hk];exact xi f hf r _ λx hx=>h x (Wg _ hx)
theorem Cf(h:∀ x ∈ scope.names,x.2=NameKind.free->∃ c,env.cells.lookup x.1=some c):closureFor scope env=pure (gq env.cells scope.names []):=by
 unfold closureFor;dsimp only;rw[xi (env:=env) _ (λname kind cs=>by all_goals grind) scope.names [] h];rfl
theorem Cg{n}:∀ names acc,(n,c) ∈ gq cells names acc->(n,c) ∈ acc\/((n,NameKind.free) ∈ names/\cells.lookup n=some c)
 | [],acc,h=>.inl h
 | (y,k) :: r,acc,h=>by
  unfold gq at h;rcases Cg r _ h with q | ⟨q,e⟩
  all_goals grind
theorem Ci{n}:∀ names (acc:List (Str×Addr)),(acc.lookup n).isSome=true\/((n,NameKind.free) ∈ names/\(cells.lookup n).isSome=true)->((gq cells names acc).lookup n).isSome=true
 | [],acc,h=>h.elim id (by grind)
 | (y,k) :: r,acc,h=>by
  unfold gq;apply Ci r;by_cases hk:(k == NameKind.free)=true
  ·rw[if_pos hk]
   cases e:cells.lookup y with
   | none =>
    rcases h with h | ⟨h1,h2⟩
    ·exact .inl h
    ·rcases Wu.mp h1 with z | z
     ·cases z;rw[e] at h2; cases h2
     ·exact .inr ⟨z,h2⟩
   | some a =>
    by_cases hn:(n == y)=true
    ·refine .inl ?_;show(List.lookup n ((y,a) :: acc)).isSome=true;rw[QD,hn];rfl
    ·rcases h with h | ⟨h1,h2⟩
     ·refine .inl ?_;show(List.lookup n ((y,a) :: acc)).isSome=true;have jZ:(n == y)=false:= ~~~hn
      rw[QD,jZ];exact h
     ·rcases Wu.mp h1 with z | z
      ·cases z;exact absurd Z5 hn
      ·exact .inr ⟨z,h2⟩
  ·rw[if_neg hk];rcases h with h | ⟨h1,h2⟩
   ·exact .inl h
   ·rcases Wu.mp h1 with z | z
    ·cases z;exact absurd rfl hk
    ·exact .inr ⟨z,h2⟩
theorem xj{n}:∀ names (h:Heap) acc,(n,c) ∈ QP h.objs.size names acc ->
  (n,c) ∈ acc\/((n,NameKind.cell) ∈ names/\h.objs.size<=c/\(U7 h names).IsCell c none)
 | [],_,_,h=>.inl h
 | (y,k) :: r,h,acc,hm=>by
  unfold QP at hm;unfold U7;by_cases hk:(k == NameKind.cell)=true
  ·rw[if_pos hk] at hm;rw[if_pos hk];have qI:k=NameKind.cell:= ~~~hk
   have sz:(h.push { cls:=.type "cell",data:=.cell none }).objs.size=h.objs.size + 1:=QF ..;rw[<- sz] at hm;rcases xj r _ _ hm with q | ⟨q1,q2,q3⟩
   ·rcases Wu.mp q with z | z
    ·cases z;refine .inr ⟨%[qI|Wp],Wi _,?_⟩;exact Heap.IsCell.keeps ⟨_,Wh _ rfl,rfl⟩ (pushCells_keeps r _)
    ·exact .inl z
   ·exact .inr ⟨Wg _ q1,by rw[sz] at q2; lia,q3⟩
  ·rw[if_neg hk] at hm;rw[if_neg hk];rcases xj r _ _ hm with q | ⟨q1,q2,q3⟩
   ·exact .inl q
   ·exact .inr ⟨Wg _ q1,q2,q3⟩
theorem xk:∀ names k acc,(∀ n n' c,(n,c) ∈ acc->(n',c) ∈ acc->n=n')->(∀ n c,(n,c) ∈ acc->c < k) ->
  ∀ n n' c,(n,c) ∈ QP k names acc->(n',c) ∈ QP k names acc->n=n'
 | [],_,_,h,_=>h
 | (y,kd) :: r,k,acc,h,hb=>by
  unfold QP;by_cases hk:(kd == NameKind.cell)=true
  ·rw[if_pos hk];refine xk r (k + 1) _ (λn n' c h1 h2=>?_) λn c hm=>?_
   all_goals grind
  ·rw[if_neg hk];exact xk r k acc h hb
theorem ng{env:Env}{x}:∀ {names:List (Str×NameKind)} {k:NameKind},
  (names.map λ(y:Str×NameKind)=>if (y.2 == NameKind.free && env.scope.kind == .function && env.kindOf y.1 == some .cell) then(y.1,NameKind.cell) else(y.1,y.2)).lookup x=some k ->
  names.lookup x=some k\/(k=NameKind.cell/\names.lookup x=some .free)
 | [],_,h=>by simp at h
 | (n,kd) :: r,k,h=>by
  rw[Wf] at h;have ih:=@ng env x r k
  cases hx:x == n with
  | true =>
   by_cases hc:(kd == NameKind.free && env.scope.kind == .function && env.kindOf n == some .cell)=true
   ·rw[if_pos hc,QD,hx] at h
    cases h;simp only[WE] at hc;have:kd=NameKind.free:= ~~~hc.1.1
    exact .inr ⟨rfl,by rw[QD,hx,this]⟩
   ·rw[if_neg hc,QD,hx] at h
    cases h;exact .inl (by rw[QD,hx])
  | false =>
   have h':(r.map λ(y:Str×NameKind)=>if (y.2 == NameKind.free && env.scope.kind == .function && env.kindOf y.1 == some .cell) then(y.1,NameKind.cell) else(y.1,y.2)).lookup x=some k:=by
    by_cases hc:(kd == NameKind.free && env.scope.kind == .function && env.kindOf n == some .cell)=true
    ·rw[if_pos hc,QD,hx] at h; exact h
    ·rw[if_neg hc,QD,hx] at h; exact h
   rw[QD,hx];exact ih h'
def fE(X:Cx)(scope:Scope)(s₀:W4)(H₀:Hp)(ex:List Addr):Cx :=
 { X with
  env:={ scope:=relabel scope X.env,locals:=s₀.heap.objs.size,globals:=X.env.globals,cells:=QP (s₀.heap.objs.size + 1) scope.names (gq X.env.cells scope.names []),qual:=X.env.qual,func:=none,code:=X.env.code,frame:=X.env.frame,builtins:=X.env.builtins }
  s₀:=s₀
  H₀:=H₀
  outer:=X.stack
  ex:=ex
  fn:=λx=>scope.names.lookup x == some .cell
  pn:=[]
  xe:=λ_ _=>False }
structure nh(X:Cx)(scope:Scope)(cs:List Nat):Prop where
 kind:scope.kind = .function
 names:∀ x ∈ scope.names,x.2 = .local->scope.names.lookup x.1=some .local
 free:∀ x ∈ scope.names,x.2 = .free->X.env.kindOf x.1=some .cell\/X.env.kindOf x.1=some .free
 nd:(scope.names.map (·.1)).Nodup
 own:∀ (i:Nat) x,X.N[i]? = some x->scope.names.lookup x=some .local\/scope.names.lookup x=some .cell->i ∈ cs
def bQ(cs:List Nat)(σ:St):St:=cs.foldl (λσ i=>σ.set i none) σ
theorem ue(cs):∀ σ:St,(bQ cs σ).length=σ.length:=by
 induction cs with
 | nil=>intro σ; rfl
 | cons i r ih =>
  intro σ;show(bQ r (σ.set i none)).length=_;rw[ih]; simp
theorem lW:∀ cs (σ:St) i v,(bQ cs σ)[i]? = some (some v)->σ[i]? = some (some v)/\i ∉ cs:=by
 intro cs;induction cs with
 | nil=>intro σ i v h; exact⟨h,Z5⟩
 | cons j r ih =>
  intro σ i v h;have h':(bQ r (σ.set j none))[i]? = some (some v):=h;obtain⟨h1,h2⟩:=ih _ i v h';by_cases e:j=i
  ·subst e;rw[Q0] at h1;simp at h1
  ·rw[W9 e] at h1;exact⟨h1,by simp only[Wu,not_or]; exact⟨Ne.symm e,h2⟩⟩
theorem xl:∀ {l:List (Str×α)},(l.map (·.1)).Nodup->(x,k) ∈ l->(x,k') ∈ l->k=k'
 | (y,j) :: r,nd,h1,h2=>by
  rw[Wf,WN] at nd;rcases Wu.mp h1 with e | g1 <;> rcases Wu.mp h2 with e' | g2
  ·grind
  ·grind
  ·grind
  ·exact xl nd.2 g1 g2
section
variable {fp:List Addr}
theorem M9(I:Inv X pins σ H s)(S:nh X scope cs)(hf:∀ b ∈ fp,gh X pins H b)(bu:∀ b ∈ fp,b < s.heap.objs.size) :
  Inv (fE X scope s H fp) [] (bQ cs σ) H { s with heap:=U7 (s.heap.push { cls:=.type "dict",data:=.dict #[] }) scope.names }:=by
 have sz:(s.heap.push { cls:=.type "dict",data:=.dict #[] }).objs.size=s.heap.objs.size + 1:=QF ..;have kp:∀ b o,s.heap.get? b=some o->(U7 (s.heap.push { cls:=.type "dict",data:=.dict #[] }) scope.names).get? b=some o:=λb o e=>pushCells_keeps _ _ b o (W7 _ e)
 have uf:∀ n c,(n,c) ∈ gq X.env.cells scope.names []->(n,NameKind.free) ∈ scope.names/\X.env.cells.lookup n=some c:=λn c h=>(Cg _ _ h).elim (by grind) id
 have M_:∀ n c,(n,c) ∈ gq X.env.cells scope.names []->c < s.heap.objs.size:=λn c h=>by
  obtain⟨v,q⟩:=I.cell n c (uf n c h).2;exact q.lt
 have qJ:∀ n c,(n,c) ∈ QP (s.heap.objs.size + 1) scope.names (gq X.env.cells scope.names []) ->
   ((n,NameKind.free) ∈ scope.names/\X.env.cells.lookup n=some c)\/((n,NameKind.cell) ∈ scope.names/\s.heap.objs.size + 1<=c/\(U7 (s.heap.push { cls:=.type "dict",data:=.dict #[] }) scope.names).IsCell c none):=λn c h=>by
  rw[<- sz] at h;rcases xj _ _ _ h with q | q
  ·exact .inl (uf n c q)
  ·rw[sz] at q; exact .inr q
 have Na:=xk scope.names (s.heap.objs.size + 1) (gq X.env.cells scope.names []) (λn n' c h1 h2=>I.ok.inj n n' c (uf n c h1).2 (uf n' c h2).2) (λn c h=>Nat.lt_succ_of_lt (M_ n c h));have qK:∀ x ∈ scope.names,x.2 = .free->∃ c,X.env.cells.lookup x.1=some c:=λx hx hk=>I.ok.has x.1 (S.free x hx hk)
 have Nb:∀ b ∈ fp,b ∉ gZ X.stack:=λb hb z=>by
  obtain⟨_,f1,f2,_⟩:=hf b hb;rcases Wu.mp (I.tE b z) with e | e
  ·exact f1 e
  ·exact f2 e
 have Nc:∀ x,(fE X scope s H fp).env.kindOf x=some .cell\/(fE X scope s H fp).env.kindOf x=some .free->scope.names.lookup x=some .cell\/scope.names.lookup x=some .free:=λx h=>by
  rcases h with h | h
  ·have h':(relabel scope X.env).names.lookup x=some .cell:=h;rcases ng (env:=X.env) (names:=scope.names) h' with q | ⟨_,q⟩
   ·exact .inl q
   ·exact .inr q
  ·have h':(relabel scope X.env).names.lookup x=some .free:=h;rcases ng (env:=X.env) (names:=scope.names) h' with q | ⟨q,_⟩
   ·exact .inr q
   ·cases q
 have Cj:∀ x,scope.names.lookup x=some .cell\/scope.names.lookup x=some .free->∃ c,(QP (s.heap.objs.size + 1) scope.names (gq X.env.cells scope.names [])).lookup x=some c:=λx h=>by
  refine QZ.mp (JJ scope.names _ _ ?_);rcases h with h | h
  ·exact .inl h
  ·refine .inr (Ci _ _ (.inr ⟨WB h,?_⟩));obtain⟨c,hc⟩:=qK _ (WB h) rfl;grind
 have Nd:(U7 (s.heap.push { cls:=.type "dict",data:=.dict #[] }) scope.names).Ns s.heap.objs.size λ_=>none:=(Heap.Ns.new s.heap (.type "dict")).keeps (pushCells_keeps _ _)
 refine⟨⟨I.ok.mod,S.kind,I.ok.glob,I.ok.blt,Wi _,λy z c h1 h2=>Na y z c (WB h1) (WB h2),λx hx=>Cj x (Nc x hx),λx c kJ h=>?_,I.ok.hd,I.ok.frames,.inl rfl,
  λb hb=>⟨WX (bu b hb),λx c h e=>?_⟩,I.bs,Qc I.ok.kI I.sz,λb o e hb=>?_,Nb,I.stack,I.A8⟩,
  rfl,I.bare,Un.kept kp,⟨λ_=>none,Nd,λi x v h1 h2 h3=>?_⟩,λx c h=>?_,I.aC.fresh (Wi _),λx c h=>?_,λp hp=>absurd (show p ∈ ([]:List (Addr×Obj)) from hp) Z5,I.aC.kept kp,(ue cs σ).trans I.len⟩
 ·rcases qJ x c (WB h) with q | q
  ·have Nf:scope.names.lookup x=some .cell:=by
    have:(scope.names.lookup x == some .cell)=true:=kJ;exact eq_of_beq this
   have:=xl S.nd q.1 (WB Nf)
   cases this
  ·exact Nat.le_of_succ_le q.2.1
 ·subst e;rcases qJ x c (WB h) with q | q
  ·exact(hf c hb).2.2.2.2.1 x c q.2 rfl
  ·exact absurd (WH (bu c hb) (Nat.le_of_succ_le q.2.1)) (Qg _)
 ·obtain⟨_,_,_,f3,_⟩:=hf b hb;rcases f3 with z | z
  ·exact I.ok.qp b o e z
  ·exact absurd (WH (Ws (I.ok.bs b o e).1) z) (Qg _)
 ·obtain⟨ni,hni⟩:=lW cs σ i v h2;have Ng:¬ (scope.names.lookup x=some .local\/scope.names.lookup x=some .cell):=λz=>hni (S.own i x h1 z)
  have tG:scope.names.lookup x=some .free:=by
   rcases h3 with h3 | h3 | h3
   ·rcases ng (env:=X.env) (names:=scope.names) h3 with q | ⟨q,_⟩
    all_goals grind
   ·rcases ng (env:=X.env) (names:=scope.names) h3 with q | ⟨_,q⟩
    ·exact absurd (.inr q) Ng
    ·exact q
   ·rcases ng (env:=X.env) (names:=scope.names) h3 with q | ⟨q,_⟩
    ·exact q
    ·cases q
  have hk:=S.free _ (WB tG) rfl;obtain⟨m,hn,hl⟩:=I.loc;have Nh:tj X.env.scope x:=by
   rcases hk with hk | hk
   ·exact .inr (.inl hk)
   ·exact .inr (.inr hk)
  obtain⟨u,r,l⟩:=hl i x v h1 ni Nh;refine⟨u,r,?_⟩;rcases l with ⟨k,_⟩ | ⟨_,c,hc,hcell⟩
  ·grind
  ·obtain⟨c',fQ⟩:=Cj x (.inr tG);have e:c'=c:=by
    rcases qJ x c' (WB fQ) with q | q
    ·have q2:=q.2;rw[hc] at q2; exact(WZ q2).symm
    ·have:=xl S.nd q.1 (WB tG)
     cases this
   subst e;refine .inr ⟨?_,c',fQ,hcell.keeps kp⟩;rcases h3 with h3 | h3 | h3
   ·rcases ng (env:=X.env) (names:=scope.names) h3 with q | ⟨q,_⟩
    all_goals grind
   ·exact .inl h3
   ·exact .inr h3
 ·rcases qJ x c (WB h) with q | q
  ·obtain⟨v,z⟩:=I.cell x c q.2;exact⟨v,z.keeps kp⟩
  ·exact⟨none,q.2.2⟩
 ·rcases qJ x c (WB h) with q | q
  ·exact I.i6 x c q.2
  ·exact I.aC.fresh (Nat.le_of_succ_le q.2.1)
end
abbrev kQ:Value->W4->Prop:=λ_ _=>False
def Ck(ifs:List Expr)(env:Env):Sem Bool:=forIn ifs true λc r=>if r=true then do let ok <- isTrue c env (eval c env); pure (ForInStep.yield ok) else pure (ForInStep.yield r)
theorem Ni{it}(I:Nat->W4->Prop)
  (turn:∀ n s,I n s->W8 (model prog w) A (QA it) (λr s₁=>match r with
   | none=>R (.ok .next) s₁
   | some v=>W8 (model prog w) A (JH target it v) (λ_ Cm=>W8 (model prog w) A (assign target env v) (λ_ s₂ =>
     W8 (model prog w) A (Ck ifs env) (λok s₃ =>
      if ok=true then W8 (model prog w) A (eval elt env) (λx s₄ =>
       W8 (model prog w) A (call (.builtin "list.append") [acc,x]) (λ_ s₅=>∃ m,m < n/\I m s₅) kQ s₄) kQ s₃
      else ∃ m,m < n/\I m s₃) kQ s₂) kQ Cm) kQ s₁) kQ s)
  (n:Nat) (h:I n s) :
  Ju (model prog w) A (.compLoop (.ListComp elt [⟨target,iter,ifs,0⟩] scope pos) 0 it acc env) R s:=by
 refine codeAny_loop rfl I (λn s hI=>?_) n h;show W8 _ A ((compTurn (.ListComp elt [⟨target,iter,ifs,0⟩] scope pos) 0 it acc env).onRaise (λx=>do noteFrame x env; theTreesLotGoes x)) _ _ s;refine wpAny_noted ?_;rw[compTurn_list];refine W0 (wpAny_standAt (W0 (Qw (turn n s hI) (λr s₁ h₁=>?_) (by grind))))
 cases r with
 | none=>exact W3 h₁
 | some v =>
  refine W0 (Qw h₁ (λ_ Cm Nj=>?_) (by grind));refine W0 (Qw Nj (λ_ s₂ h₂=>W0 (Qw h₂ (λok s₃ h₃=>?_) (by grind))) (by grind))
  cases ok with
  | false=>exact W3 ⟨rfl,h₃⟩
  | true =>
   exact W0 (W0 (Qw h₃ (λx s₄ h₄=>W0 (Qw h₄ (λ_ s₅ h₅=>W3 (W3 ⟨rfl,h₅⟩)) (by grind))) (by grind)))
theorem Nk{Q}
  (h:Q { scope,locals:=s.heap.objs.size,globals,cells:=QP (s.heap.objs.size + 1) scope.names cl,qual,func:=none,code:=env.code,frame:=env.frame,builtins:=env.builtins }
   { s with heap:=U7 (s.heap.push { cls:=.type "dict",data:=.dict #[] }) scope.names }):W8 M A (newFunctionEnv scope globals cl [] qual none .none (some env)) Q E s:=by
 simp only[newFunctionEnv,Option.isSome_some,if_true];refine W0 (wpAny_alloc ?_);refine W0 (wpAny_layCells _ (λname kind cells=>by all_goals grind) _ _ _ _ ?_);rw[show({ s with heap:=s.heap.push { cls:=.type "dict",data:=.dict #[] } }:W4).heap.objs.size=s.heap.objs.size + 1 from QF ..];exact W0 (W3 (W3 h))
def oN(X:Cx)(ifs:List Expr)(t:TT):Prop :=
 ∀ (pins:List (Addr×Obj)) (s:W4) (σ:St) (H:Hp) (Q:Bool->Hp->Prop),Inv X pins σ H s->t σ H Q->W8 (model X.prog X.w) X.A (Ck ifs X.env) (TP X pins σ Q) X.xe s
def Nl:TT:=λ_ H Q=>Q true H
theorem Nm:oN X [] Nl:=λpins s σ H Q I h=>wpAny_tests_nil ⟨H,I,h⟩
theorem Nn(h:PT X c t):oN X [c] t:=λpins s σ H Q I q=>wpAny_tests_one (h pins s σ H Q I q)
def Le(σ σ':St):Prop:=σ'.length=σ.length/\∀ (i:Nat) (v:V),σ[i]? = some (some v)->σ'[i]? = some (some v)
def Cn(cs:List Nat)(g:TG)(tt:TT)(te:TE)(σ:St)(Q:VK)(J:It)(H1:Hp):Prop :=
 ∀ l,H1 l=none->∃ W:Nat->Nat->Hp->Prop,(∃ m,W 0 m (upd H1 l (.lst [])))/\∀ i m H2,W i m H2 ->
  (J.stop i H2/\Q (.ref l) H2) \/
  (J.go i H2/\∀ x H3,J.qv i H2 x H3->g x (bQ cs σ) H3 λσ4 H4=>Le (bQ cs σ) σ4/\tt σ4 H4 λb H5 =>
   if b=true then te σ4 H5 λv H6=>∃ ys m',H6 l=some (.lst ys)/\ys.length < Wa/\m' < m/\W (i + 1) m' (upd H6 l (.lst (ys ++ [v]))) else ∃ m',m' < m/\W (i + 1) m' H5)
def xm(cs:List Nat)(wi:TI)(g:TG)(tt:TT)(te:TE):TE:=λσ H Q=>wi σ H λJ H1=>Cn cs g tt te σ Q J H1
section
variable {iter:Expr}{g:TG}{tt:TT}
theorem Co{fp J Q}{E:Value->W4->Prop}{RR:Value->Addr->Result->W4->Prop}(hc:X.calm=true)(I:Inv X pins σ H s)(S:nh X scope cs)
  (T:Turn X.prog X.w X.K tg J fp it tn) (st:tn 0 s.heap) (hf:∀ b ∈ fp,gh X pins H b)
  (hg:∀ s₀ H₀ ex,PG (fE X scope s₀ H₀ ex) tg g) (ht:∀ s₀ H₀ ex,oN (fE X scope s₀ H₀ ex) ifs tt) (he:∀ s₀ H₀ ex,PE (fE X scope s₀ H₀ ex) elt te) (q:Cn cs g tt te σ Q J H)
  (Nq:∀ l C s' H',Inv X pins σ H' s'->gh X pins H' C->(∃ m,s'.heap.Ns C m)->Q (.ref l) H'->RR (.ref l) C (.ok .next) s') :
  W8 (model X.prog X.w) X.A (newList []) (λacc s₃=>W8 (model X.prog X.w) X.A (newFunctionEnv scope X.env.globals (gq X.env.cells scope.names []) [] X.env.qual none .none (some X.env)) (λCp s₄ =>
   Ju (model X.prog X.w) X.A (.compStart (.ListComp elt [⟨tg,iter,ifs,0⟩] scope pos) 0 (.ref it) acc { Cp with scope:=relabel scope X.env }) (RR acc Cp.locals) s₄) E s₃) E s:=by
 refine WJ ?_;have j4:H s.heap.objs.size=none:=I.aC.fresh (Wi _);obtain⟨W,⟨m0,w0⟩,turn⟩:=q s.heap.objs.size j4;generalize hl:s.heap.objs.size=l at *;have I3:Inv X pins σ (upd H l (.lst [])) { s with heap:=s.heap.push { cls:=.type "list",dict:=none,data:=.seq ([]:List Value).toArray } } :=
  I.laid (t':=s.toks) (λb u e=>W7 _ e) (Nat.le_of_eq hl) ⟨Qq _,[],0,.nil,by rw[<- hl]; exact Wh _ rfl⟩
 have ug:∀ b o,s.heap.get? b=some o->(s.heap.push { cls:=.type "list",dict:=none,data:=.seq ([]:List Value).toArray }).get? b=some o:=λb o e=>W7 _ e
 have j5:∀ b ∈ fp,b≠l:=λb hb e=>by
  obtain⟨o,ho,_⟩:=T.obj 0 _ st b hb;exact absurd (Ws ho) %[e,hl|Qg _]
 have xo:∀ b ∈ fp,gh X pins (upd H l (.lst [])) b:=λb hb=>⟨by rw[aR (j5 b hb)]; exact(hf b hb).1,(hf b hb).2⟩
 have lO:tn 0 (s.heap.push { cls:=.type "list",dict:=none,data:=.seq ([]:List Value).toArray }):=T.keep 0 _ _ st λb _ o e=>ug b o e
 generalize hs3:({ s with heap:=s.heap.push { cls:=.type "list",dict:=none,data:=.seq ([]:List Value).toArray } }:W4)=s3 at I3;have Cq:tn 0 s3.heap:=by rw[<- hs3]; exact lO
 have Nr:∀ b ∈ fp,b < s3.heap.objs.size:=λb hb=>by
  obtain⟨o,ho,_⟩:=T.obj 0 _ Cq b hb;exact Ws ho
 refine Nk ?_;have I4:=M9 I3 S xo Nr;generalize hX:fE X scope s3 (upd H l (.lst [])) fp=X' at I4;generalize hs4:({ s3 with heap:=U7 (s3.heap.push { cls:=.type "dict",data:=.dict #[] }) scope.names }:W4)=s4 at I4 ⊢;have j6:=hg s3 (upd H l (.lst [])) fp;have nj:=ht s3 (upd H l (.lst [])) fp;have uh:=he s3 (upd H l (.lst [])) fp;rw[hX] at j6 nj uh;have Cr:tn 0 s4.heap:=T.keep 0 _ _ Cq λb _ o e=>by rw[<- hs4]; exact pushCells_keeps _ _ b o (W7 _ e)
 have hP:X'.prog=X.prog:=by rw[<- hX]; rfl
 have hw:X'.w=X.w:=by rw[<- hX]; rfl
 have hA:X'.A=X.A:=by rw[<- hX]; rfl
 have hK:X'.K=X.K:=by rw[<- hX]; rfl
 have fQ:X'.calm=true:=by rw[<- hX]; exact hc
 have ui:X'.xe=kQ:=by rw[<- hX]; rfl
 have Cs:X'.env.locals=s3.heap.objs.size:=by rw[<- hX]; rfl
 have Nt:({ scope:=relabel scope X.env,locals:=s3.heap.objs.size,globals:=X.env.globals,cells:=QP (s3.heap.objs.size + 1) scope.names (gq X.env.cells scope.names []),qual:=X.env.qual,func:=none,code:=X.env.code,frame:=X.env.frame,builtins:=X.env.builtins }:Env)=X'.env:=by rw[<- hX]; rfl
 have xp:∀ {H':Hp},(∀ b ∈ fp,H' b=none)->∀ b ∈ fp,gh X' [] H' b:=λ{H'} hn b hb=>by
  have ex:X'.ex=fp:=by rw[<- hX]; rfl
  have pn:X'.pn=[]:=by rw[<- hX]; rfl
  refine⟨hn b hb,(I4.ok.tu b %[ex|hb]).1,I4.ok.qr b %[ex|hb],.inl %[ex|hb],(I4.ok.tu b %[ex|hb]).2,λp hp=>?_⟩;rw[pn] at hp;simp at hp
 show Ju (model X.prog X.w) X.A (.compStart (.ListComp elt [⟨tg,iter,ifs,0⟩] scope pos) 0 (.ref it) (.ref l) ({ scope:=relabel scope X.env,locals:=s3.heap.objs.size,globals:=X.env.globals,cells:=QP (s3.heap.objs.size + 1) scope.names (gq X.env.cells scope.names []),qual:=X.env.qual,func:=none,code:=X.env.code,frame:=X.env.frame,builtins:=X.env.builtins }:Env)) (RR (.ref l) s3.heap.objs.size) s4;rw[Nt];have loop:Ju (model X.prog X.w) X.A (.compLoop (.ListComp elt [⟨tg,iter,ifs,0⟩] scope pos) 0 (.ref it) (.ref l) X'.env) (RR (.ref l) s3.heap.objs.size) s4:=by
  refine Ni (λn s'=>∃ i H',Inv X' [] (bQ cs σ) H' s'/\tn i s'.heap/\(∀ b ∈ fp,H' b=none)/\W i n H') ?_ m0 ⟨0,_,I4,Cr,λb hb=>(xo b hb).1,w0⟩;rintro n s5 ⟨i,H5,I5,st5,fr5,w5⟩;rcases turn i n H5 w5 with ⟨stop,qn⟩ | ⟨go,step⟩
  ·have:=T.done X' hP hw hK fQ i [] s5 (bQ cs σ) H5 kQ I5 (xp fr5) st5 stop;rw[hA] at this;refine aY this λr s6 ⟨hr,I6⟩=>?_
   subst hr;have b6:=I6.base;have e1:X'.fs=gZ X.stack:=by rw[<- hX]; rfl
   have e2:X'.ex=fp:=by rw[<- hX]; rfl
   have e3:X'.H₀=upd H l (.lst []):=by rw[<- hX]; rfl
   have e4:X'.s₀=s3:=by rw[<- hX]; rfl
   rw[e1,e2,e3,e4] at b6;have o6:s6.os=s3.os:=by rw[<- e4]; exact I6.os
   have Nu:cL X.prog X.w H5 s6.heap:=by rw[<- hP,<- hw]; exact I6.aC
   have J6:Inv X pins σ H5 s6:=I3.K7 o6 b6 Nu I6.bare λb hb=>by
    obtain⟨_,f1,_,f3,f4,f5⟩:=xo b hb;exact⟨f3,f1,f4,f5⟩
   obtain⟨m6,n6,_⟩:=I6.loc;rw[Cs] at n6;refine Nq l s3.heap.objs.size s6 H5 J6 (I3.jD (Wi _) ?_) ⟨m6,n6⟩ qn;rw[<- Cs];exact I6.free
  ·have:=T.item X' hP hw hK fQ i [] s5 (bQ cs σ) H5 kQ I5 (xp fr5) st5 go;rw[hA] at this;refine aY this λr s6 ⟨u,hr,h6⟩=>?_
   subst hr;refine aY h6 λ_ s7 ⟨x,H7,I7,r7,y7,st7,fr7⟩=>?_
   have Nv:=I7.pinned (xp fr7) (T.obj _ _ st7);have a8:=j6 _ s7 (bQ cs σ) H7 x u _ Nv r7 (step x H7 y7);rw[hP,hw,hA,ui] at a8;refine aY a8 λ_ s8 ⟨σ8,H8,I8,le8,q8⟩=>?_
   have a9:=nj _ s8 σ8 H8 _ I8 q8;rw[hP,hw,hA,ui] at a9;refine aY a9 λok s9 ⟨H9,I9,q9⟩=>?_
   have back:∀ {H':Hp} {s':W4},Inv X' ([] ++ qx fp s7.heap) σ8 H' s'->Inv X' [] (bQ cs σ) H' s'/\tn (i + 1) s'.heap/\∀ b ∈ fp,H' b=none:=λ{H' s'} J=>by
    refine⟨J.tR.weak (le8.1.symm) le8.2,T.keep _ _ _ st7 λb hb o e=>(J.pin (b,o) (Q3 _ (Q3 _ (tQ hb e)))).1,λb hb=>?_⟩;obtain⟨o,e,d⟩:=T.obj _ _ st7 b hb;exact(J.pin (b,o) (Q3 _ (Q3 _ (tQ hb e)))).2.1
   cases ok with
   | false =>
    rw[if_neg WC] at q9 ⊢;obtain⟨m',hm,w9⟩:=q9;obtain⟨b1,b2,b3⟩:=back I9;exact⟨m',hm,i + 1,H9,b1,b2,b3,w9⟩
   | true =>
    rw[if_pos rfl] at q9 ⊢;have Ct:=uh _ s9 σ8 H9 _ I9 q9;rw[hP,hw,hA,ui] at Ct;refine aY Ct λx10 i_ ⟨v,H10,I10,r10,ys,m',hy,hz,hm,w10⟩=>?_
    have Cu:=wZ (X:=X') _ i_ σ8 H10 (.ref l) [v] (.ref l) [x10] (λ_ H'=>W (i + 1) m' H') I10 rfl (.cons r10 .nil) ⟨l,ys,v,rfl,rfl,hy,hz,w10⟩;rw[hP,hw,hA,ui] at Cu;refine aY Cu λ_ s11 ⟨_,H11,I11,_,w11⟩=>?_
    obtain⟨b1,b2,b3⟩:=back I11;exact⟨m',hm,i + 1,H11,b1,b2,b3,w11⟩
 exact codeAny_compStart_list loop (T.self X.A 0 s4 _ _ Cr loop)
theorem Nw(hc:X.calm=true)(S:nh X scope cs)(hi:PI X tg iter wi)(hg:∀ s₀ H₀ ex,PG (fE X scope s₀ H₀ ex) tg g)(ht:∀ s₀ H₀ ex,oN (fE X scope s₀ H₀ ex) ifs tt)(he:∀ s₀ H₀ ex,PE (fE X scope s₀ H₀ ex) elt te)
  (hs:∀ x,J5 iter X.env x=pure x:=by intro _; rfl):PE X (.ListComp elt [⟨tg,iter,ifs,0⟩] scope pos) (xm cs wi g tt te):=by
 intro pins s σ H Q I h;have qK:∀ x ∈ scope.names,x.2 = .free->∃ c,X.env.cells.lookup x.1=some c:=λx hx hk=>I.ok.has x.1 (S.free x hx hk)
 rw[eval_ListComp];refine wpAny_comprehension_free (use:=none) rfl hs (Cf qK) S.kind S.names (aY (hi pins s σ H _ I h) λxv s1 h1=>aY h1 λtO s2 h2=>?_);obtain⟨it,fp,tn,J,H2,e,I2,T,st2,f2,q2⟩:=h2;subst e;refine Co (RR:=λacc C=>compPost (model X.prog X.w) X.A X.xe none (EP X pins σ Q) acc C) hc I2 S T st2 f2 hg ht he q2 ?_;intro l C s' H' I' fC ⟨m,n⟩ q;exact⟨m,n,λh' jG=>⟨.ref l,H',I'.turned (t':=s'.toks) (λb o hb e=>(jG.2 b hb).trans e) fC.1 fC.2.1 fC.2.2.2.1 fC.2.2.2.2.1 fC.2.2.2.2.2,rfl,q⟩⟩
theorem Nx(hc:X.calm=true)(S:nh X scope cs)(hN:X.N.Nodup)(gG:X.N[i]? = some y)(hy:X.env.scope.names.lookup y=some .local)
  (hi:PI X tg iter wi) (hg:∀ s₀ H₀ ex,PG (fE X scope s₀ H₀ ex) tg g) (ht:∀ s₀ H₀ ex,oN (fE X scope s₀ H₀ ex) ifs tt) (he:∀ s₀ H₀ ex,PE (fE X scope s₀ H₀ ex) elt te)
  (qL:J8 (.ListComp elt [⟨tg,iter,ifs,0⟩] scope pos) (some (.Name y py)) uj.line X.env=pure true:=by rfl)
  (hs:∀ x,J5 iter X.env x=pure x:=by intro _; rfl):PS X (.Assign [.Name y py] (.ListComp elt [⟨tg,iter,ifs,0⟩] scope pos) uj) (tN (xm cs wi g tt te) (oH i)):=by
 intro pins s σ H D I h;have qK:∀ x ∈ scope.names,x.2 = .free->∃ c,X.env.cells.lookup x.1=some c:=λx hx hk=>I.ok.has x.1 (S.free x hx hk)
 rw[exec_Assign_Name_used _ _ _ _ qL];refine W0 (wpAny_standAt (W0 ?_));show W8 _ X.A (do let _ <- comprehension (.ListComp elt [⟨tg,iter,ifs,0⟩] scope pos) scope X.env _ (newList []) false (eval iter X.env) (some (assign (.Name y py) X.env))) _ _ s;refine W0 (Qw (wpAny_comprehension_free (use:=some (assign (.Name y py) X.env)) (Q:=λ_ s'=>SP X pins D .next s') rfl hs (Cf qK) S.kind S.names
  (aY (hi pins s σ H _ I h) λxv s1 h1=>aY h1 λtO s2 h2=>?_)) (λ_ s' hq=>W3 (W3 hq)) λ_ _ e=>e)
 obtain⟨it,fp,tn,J,H2,e,I2,T,st2,f2,q2⟩:=h2;subst e;refine Co (RR:=λacc C=>compPost (model X.prog X.w) X.A X.xe (some (assign (.Name y py) X.env)) (λ_ s'=>SP X pins D .next s') acc C) hc I2 S T st2 f2 hg ht he q2 ?_;intro l C s' H' I' fC ⟨m,n⟩ q;show W8 _ X.A (assign (.Name y py) X.env (.ref l)) _ _ _;refine wpAny_assign_Name (Bb I' hN gG (.inl hy) (v:=.ref l) rfl (λmZ I'' ⟨a,xq,ha⟩=>?_) (.inr hy));have cw:C≠a:=by
  rcases ha with rfl | ha
  ·exact fC.2.1
  ·exactλe=>fC.2.2.2.2.1 y a ha e.symm
 refine⟨m,n.sameBut xq cw,λh' jG=>⟨_,H',I''.turned (t':=mZ.toks) (λb o hb e=>(jG.2 b hb).trans e) fC.1 fC.2.1 fC.2.2.2.1 fC.2.2.2.2.1 fC.2.2.2.2.2,q⟩⟩
end
abbrev Tx:=List Nat
def toS(x:Tx):Str:=⟨x.toArray⟩
theorem oO(x):(toS x).cps.toList=x:=#v[toS]
theorem j7(x:Tx):(toS x).length=x.length:=#v[toS,Str.length]
theorem xr{x}(h:toS x=toS y):x=y:=by
 have:=congrArg (λz:Str=>z.cps.toList) h;simpa[toS] using this
theorem Cv(z:Str):z=toS z.cps.toList:=#v[toS]
abbrev a7:=Sum Int Tx
def dw:a7->Key
 | .inl i=>.inl i
 | .inr x=>.inr (toS x)
inductive D where
 | bp | bl (b:Bool) | int (i:Int) | str (x:Tx) | tup (xs:List D) | lst (xs:List D) | ay (aj:List (a7×D)) | exc (n:Nat) (fl:D) | xd (fs:List (Tx×D)) | fn (a:Nat) | dic (aj:List (D×D))
variable {F:D->Option D}{dv:List D}
mutual
noncomputable def cJ:Nat->D->Option NK
 | _,.int i=>some (.i i)
 | _,.bl b=>some (.i (if b then 1 else 0))
 | _,.str x=>some (.s (toS x))
 | n + 1,.tup xs=>(gH n xs).map .t
 | _,_=>none
noncomputable def gH:Nat->List D->Option (List NK)
 | _,[]=>some []
 | n,x :: xs=>(cJ n x).bind λk=>(gH n xs).map λks=>k :: ks
end
def excAt(C:Addr)(v:V)(a:Addr):Heap->Prop:=λh=>∃ o,h.get? a=some o/\o.cls = .ref C/\(∀ x,v = .ref x->o.dict=some x)/\∃ vs,o.data = .fields vs
def Ny(fs:List (Str×V))(x:Addr):Heap->Prop:=λh=>∃ mA,h.Ns1 x mA/\∀ f,gc (fs.lookup f) (mA f)
inductive S where
 | pure (d:D)
 | own (d:D)
variable {ss:List S}
def S.d:S->D
 | .pure d=>d
 | .own d=>d
abbrev Dl:=List (Option S)
variable {δ δ':Dl}
inductive Rep (H:Hp) (O:Addr->Prop):V->D->Prop
 | bp:Rep H O .bp .bp
 | bl (b:Bool):Rep H O (.bl b) (.bl b)
 | int (i:Int):Rep H O (.int i) (.int i)
 | str (x:Tx):Rep H O (.str (toS x)) (.str x)
 | tup {a:Addr} {vs:List V} {ds:List D}:¬ O a->H a=some (.tup vs)->vs.length=ds.length->(∀ (i:Nat) v d,vs[i]? = some v->ds[i]? = some d->Rep H O v d)->Rep H O (.ref a) (.tup ds)
 | lst {a:Addr} {vs:List V} {ds:List D}:¬ O a->Rd H a (.lst vs)->vs.length=ds.length->(∀ (i:Nat) v d,vs[i]? = some v->ds[i]? = some d->Rep H O v d)->Rep H O (.ref a) (.lst ds)
 | ay {a:Addr} {ws:List (Key×V)} {ds:List (a7×D)}:¬ O a->H a=some (.dK ws)->ws.map (·.1)=ds.map (λp=>dw p.1)->(∀ (i:Nat) p q,ws[i]? = some p->ds[i]? = some q->Rep H O p.2 q.2)->Rep H O (.ref a) (.ay ds)
 | exc {a:Addr} {n:Nat} {v:V} {fl:D}:¬ O a->H a=some (.ext (excAt n v a))->Rep H O v fl->Rep H O (.ref a) (.exc n fl)
 | xd {x:Addr} {fs:List (Str×V)} {ds:List (Tx×D)}:¬ O x->H x=some (.ext (Ny fs x))->fs.map (·.1)=ds.map (λp=>toS p.1)->(∀ (i:Nat) p q,fs[i]? = some p->ds[i]? = some q->Rep H O p.2 q.2)->Rep H O (.ref x) (.xd ds)
 | fn (a:Addr):Rep H O (.ref a) (.fn a)
 | dic {a:Addr} {ep:Nat} {ws:List (NK×V×V)} {ds:List (D×D)}:¬ O a->H a=some (.dN ep ws)->ws.length=ds.length->(∀ (i:Nat) p q,ws[i]? = some p->ds[i]? = some q->Rep H O p.2.1 q.1)->(∀ (i:Nat) p q,ws[i]? = some p->ds[i]? = some q->Rep H O p.2.2 q.2)->(∀ (i:Nat) p q,ws[i]? = some p->ds[i]? = some q->cJ 6 q.1=some p.1)->Rep H O (.ref a) (.dic ds)
abbrev aK(H:Hp)(O:Addr->Prop)(vs:List V)(ds:List D):Prop:=vs.length=ds.length/\∀ (i:Nat) v d,vs[i]? = some v->ds[i]? = some d->Rep H O v d
structure DN(H:Hp)(O:Addr->Prop)(ws:List (NK×V×V))(ds:List (D×D)):Prop where
 len:ws.length=ds.length
 key:∀ (i:Nat) p q,ws[i]? = some p->ds[i]? = some q->Rep H O p.2.1 q.1
 val:∀ (i:Nat) p q,ws[i]? = some p->ds[i]? = some q->Rep H O p.2.2 q.2
 nq:∀ (i:Nat) p q,ws[i]? = some p->ds[i]? = some q->cJ 6 q.1=some p.1
def fg(H:Hp)(O:Addr->Prop)(a:Addr):D->Prop
 | .lst ds=>∃ vs,H a=some (.lst vs)/\aK H O vs ds
 | .ay ds=>∃ ws:List (Key×V),H a=some (.dK ws)/\ws.map (·.1)=ds.map (λp=>dw p.1)/\∀ (i:Nat) p q,ws[i]? = some p->ds[i]? = some q->Rep H O p.2 q.2
 | .dic ds=>∃ (ep:Nat) (ws:List (NK×V×V)),H a=some (.dN ep ws)/\DN H O ws ds
 | _=>False
section
variable {v:V}{d:D}{ds:List D}
theorem Rd.keep{u}(h:Rd H a u)(k:∀ o,H a=Option.some o->H' a=Option.some o):Rd H' a u:=by
 rcases h with h | ⟨o,h⟩
 ·exact .inl (k _ h)
 ·exact .inr ⟨o,k _ h⟩
theorem Rd.some{u}(h:Rd H a u):∃ o,H a=some o:=by
 rcases h with h | ⟨o,h⟩
 ·exact⟨_,h⟩
 ·exact⟨_,h⟩
theorem Rep.keep(h:Rep H O v d)(k:∀ a o,H a=some o->¬ O a->H' a=some o):Rep H' O v d:=by
 induction h with
 | bp=>exact .bp
 | bl b=>exact .bl b
 | int i=>exact .int i
 | str x=>exact .str x
 | tup h1 h2 h3 _ ih=>exact .tup h1 (k _ _ h2 h1) h3 ih
 | lst h1 h2 h3 _ ih=>exact .lst h1 (Rd.keep h2 λo e=>k _ o e h1) h3 ih
 | ay h1 h2 h3 _ ih=>exact .ay h1 (k _ _ h2 h1) h3 ih
 | exc h1 h2 _ ih=>exact .exc h1 (k _ _ h2 h1) ih
 | xd h1 h2 h3 _ ih=>exact .xd h1 (k _ _ h2 h1) h3 ih
 | fn a=>exact .fn a
 | dic h1 h2 h3 _ _ h6 ih ih'=>exact .dic h1 (k _ _ h2 h1) h3 ih ih' h6
theorem Rep.aM(h:Rep H O v d)(k:∀ a,O' a->O a\/H a=none):Rep H O' v d:=by
 have no:∀ {a:Addr} {u:HO},¬ O a->Rd H a u->¬ O' a:=λ{a u} h1 h2 z=>by grind[Rd.some]
 induction h with
 | bp=>exact .bp
 | bl b=>exact .bl b
 | int i=>exact .int i
 | str x=>exact .str x
 | tup h1 h2 h3 _ ih=>exact .tup (no h1 (.inl h2)) h2 h3 ih
 | lst h1 h2 h3 _ ih=>exact .lst (no h1 h2) h2 h3 ih
 | ay h1 h2 h3 _ ih=>exact .ay (no h1 (.inl h2)) h2 h3 ih
 | exc h1 h2 _ ih=>exact .exc (no h1 (.inl h2)) h2 ih
 | xd h1 h2 h3 _ ih=>exact .xd (no h1 (.inl h2)) h2 h3 ih
 | fn a=>exact .fn a
 | dic h1 h2 h3 _ _ h6 ih ih'=>exact .dic (no h1 (.inl h2)) h2 h3 ih ih' h6
theorem DN.keep{ds}(h:DN H O ws ds)(k:∀ a o,H a=some o->¬ O a->H' a=some o):DN H' O ws ds:=⟨h.len,λi p q e1 e2=>(h.key i p q e1 e2).keep k,λi p q e1 e2=>(h.val i p q e1 e2).keep k,h.nq⟩
theorem DN.aM{ds}(h:DN H O ws ds)(k:∀ a,O' a->O a\/H a=none):DN H O' ws ds:=⟨h.len,λi p q e1 e2=>(h.key i p q e1 e2).aM k,λi p q e1 e2=>(h.val i p q e1 e2).aM k,h.nq⟩
theorem aK.keep(h:aK H O vs ds)(k:∀ a o,H a=some o->¬ O a->H' a=some o):aK H' O vs ds:=⟨h.1,λi v d e1 e2=>(h.2 i v d e1 e2).keep k⟩
theorem aK.aM(h:aK H O vs ds)(k:∀ a,O' a->O a\/H a=none):aK H O' vs ds:=⟨h.1,λi v d e1 e2=>(h.2 i v d e1 e2).aM k⟩
theorem aK.nil:aK H O [] []:=⟨rfl,λi v d e _=>by simp at e⟩
theorem aK.cons{H O v d vs ds}(h:Rep H O v d)(r:aK H O vs ds):aK H O (v :: vs) (d :: ds):=by
 refine⟨#v[r.1],λi v' d' e1 e2=>?_⟩
 cases i with
 | zero=>simp at e1 e2; subst e1; subst e2; exact h
 | succ i=>exact r.2 i v' d' (~~~e1) (~~~e2)
theorem aK.head(r:aK H O (v :: vs) (d :: ds)):Rep H O v d:=r.2 0 v d rfl rfl
theorem aK.tail(r:aK H O (v :: vs) (d :: ds)):aK H O vs ds:=⟨~~~r.1,λi v' d' e1 e2=>r.2 (i + 1) v' d' (~~~e1) (~~~e2)⟩
theorem aK.append(h:aK H O vs ds)(h':aK H O iM dY):aK H O (vs ++ iM) (ds ++ dY):=by
 induction vs generalizing ds with
 | nil =>
  cases ds with
  | nil=>exact h'
  | cons d r=>have:=h.1; simp at this
 | cons v r ih =>
  cases ds with
  | nil=>have:=h.1; simp at this
  | cons d q=>exact .cons h.head (ih h.tail)
theorem aK.get(h:aK H O vs ds)(e:ds[i]? = some d):∃ v,vs[i]? = some v/\Rep H O v d:=by
 have hi:i < ds.length:=(W6.mp e).1;have hv:i < vs.length:=%[h.1|hi]
 exact⟨vs[i],#v[hv],h.2 i _ d #v[hv] e⟩
theorem aK.take(n)(h:aK H O vs ds):aK H O (vs.take n) (ds.take n):=by
 refine⟨#v[h.1],λi v d e1 e2=>?_⟩;by_cases hi:i < n
 ·rw[List.getElem?_take_of_lt hi] at e1 e2;exact h.2 i v d e1 e2
 ·rw[List.getElem?_take_eq_none Y'] at e1; cases e1
theorem aK.drop(n)(h:aK H O vs ds):aK H O (vs.drop n) (ds.drop n):=by
 refine⟨#v[h.1],λi v d e1 e2=>?_⟩;rw[List.getElem?_drop] at e1 e2;exact h.2 (n + i) v d e1 e2
theorem aK.set(h:aK H O vs ds)(r:Rep H O v d)(j):aK H O (vs.set j v) (ds.set j d):=by
 refine⟨#v[h.1],λi v' d' e1 e2=>?_⟩;by_cases hi:j=i
 ·subst hi;rw[Q0] at e1 e2;simp at e1 e2;obtain⟨_,rfl⟩:=e1;obtain⟨_,rfl⟩:=e2;exact r
 ·rw[W9 hi] at e1 e2;exact h.2 i v' d' e1 e2
theorem fg.keep(h:fg H O a d)(hk:∀ b o,H b=Option.some o->¬ O b->H' b=Option.some o)(ha:∀ o,H a=Option.some o->H' a=Option.some o):fg H' O a d:=by
 cases d <;> first
  | exact h.elim
  | (obtain⟨vs,e,r⟩:=h; exact⟨vs,ha _ e,aK.keep r hk⟩)
  | (obtain⟨ws,e,r,q⟩:=h; exact⟨ws,ha _ e,r,λi p p' e1 e2=>(q i p p' e1 e2).keep hk⟩)
  | (obtain⟨ep,ws,e,r⟩:=h; exact⟨ep,ws,ha _ e,r.keep hk⟩)
theorem fg.aM(h:fg H O a d)(k:∀ a,O' a->O a\/H a=none):fg H O' a d:=by
 cases d <;> first
  | exact h.elim
  | (obtain⟨vs,e,r⟩:=h; exact⟨vs,e,aK.aM r k⟩)
  | (obtain⟨ws,e,r,q⟩:=h; exact⟨ws,e,r,λi p p' e1 e2=>(q i p p' e1 e2).aM k⟩)
  | (obtain⟨ep,ws,e,r⟩:=h; exact⟨ep,ws,e,r.aM k⟩)
theorem fg.some(h:fg H O a d):∃ o,H a=some o:=by
 cases d <;> first
  | exact h.elim
  | (obtain⟨vs,e,r⟩:=h; exact⟨_,e⟩)
  | (obtain⟨ep,vs,e,r⟩:=h; exact⟨_,e⟩)
theorem fg.rep(h:fg H O a d)(ho:¬ O a):Rep H O (.ref a) d:=by
 cases d with
 | lst ds=>obtain⟨vs,e,r⟩:=h; exact .lst ho (.inl e) r.1 r.2
 | ay ds=>obtain⟨ws,e,r,q⟩:=h; exact .ay ho e r q
 | dic ds=>obtain⟨ep,ws,e,r⟩:=h; exact .dic ho e r.len r.key r.val r.nq
 | _=>exact h.elim
end
structure Xc where
 cls:Tx
 Zs:D
structure Fc where
 H₀:Hp
 B:Addr->Prop
 pin:List (Nat×Addr)
 xc:Xc->Dl->Prop:=λ_ _=>False
variable {c:Fc}
def Fc.plus(c:Fc)(p:Addr):Fc:={ c with B:=λa=>c.B a\/a=p }
def Fc.I(c:Fc)(a:Addr):Prop:=∃ i,(i,a) ∈ c.pin
def Own(σ:St)(δ:Dl)(a:Addr):Prop:=∃ (i:Nat) (d:D),δ[i]? = some (some (.own d))/\σ[i]? = some (some (.ref a))
def Av(c:Fc)(σ:St)(δ:Dl)(a:Addr):Prop:=c.B a\/Own σ δ a
structure Ok(c:Fc)(σ:St)(δ:Dl)(H:Hp):Prop where
 keep:∀ a o,c.H₀ a=some o->¬ c.I a->H a=some o
 bd:∀ a,c.B a->∃ o,H a=some o
 dZ:∀ a,c.I a->∃ o,H a=some o
 len:δ.length=σ.length
 slot:∀ (i:Nat) d,δ[i]? = some (some (.pure d))->∃ v,σ[i]? = some (some v)/\Rep H (Av c σ δ) v d
 own:∀ (i:Nat) d,δ[i]? = some (some (.own d))->∃ a,σ[i]? = some (some (.ref a))/\fg H (Av c σ δ) a d/\(c.I a\/c.H₀ a=none)/\¬ c.B a
 inj:∀ (i j:Nat) a d d',δ[i]? = some (some (.own d))->δ[j]? = some (some (.own d'))->σ[i]? = some (some (.ref a))->σ[j]? = some (some (.ref a))->i=j
 pinned:∀ p ∈ c.pin,σ[p.1]? = some (some (.ref p.2))
structure aS(c:Fc)(σ:St)(δ:Dl)(H:Hp)(σ':St)(δ':Dl)(H':Hp):Prop where
 ok:Ok c σ' δ' H'
 keep:∀ a o,H a=some o->¬ Own σ δ a->H' a=some o
 own:∀ a,Own σ' δ' a->Own σ δ a\/H a=none
 there:∀ a o,H a=some o->∃ o',H' a=some o'
section
variable {σ'':St}{δ'':Dl}{Cw:Hp}{v:V}{d:D}{p:Addr}
theorem Ok.Nz(k:Ok c σ δ H)(h:c.B a):∃ o,H a=some o:=k.bd a h
theorem Ok.qM(k:Ok c σ δ H)(h:Own σ δ a):∃ o,H a=some o:=by
 obtain⟨i,d,e1,e2⟩:=h;obtain⟨b,e3,q,_⟩:=k.own i d e1;rw[e2] at e3; cases e3
 exact q.some
theorem Ok.uk(k:Ok c σ δ H)(h:Av c σ δ a):∃ o,H a=some o:=h.elim k.Nz k.qM
theorem Ok.ja(k:Ok c σ δ H)(h:H a=none):¬ Av c σ δ a:=λz=>by
 obtain⟨o,e⟩:=k.uk z;grind
theorem aS.refl(k:Ok c σ δ H):aS c σ δ H σ δ H:=⟨k,λ_ _ e _=>e,λ_ h=>.inl h,λ_ o e=>⟨o,e⟩⟩
theorem aS.trans(x:aS c σ δ H σ' δ' H')(y:aS c σ' δ' H' σ'' δ'' Cw):aS c σ δ H σ'' δ'' Cw:=by
 refine⟨y.ok,λa o e n=>?_,λa h=>?_,λa o e=>?_⟩
 ·refine y.keep a o (x.keep a o e n) λz=>?_
  rcases x.own a z with q | q
  all_goals grind
 ·rcases y.own a h with q | q
  ·exact x.own a q
  ·right
   cases e:H a with
   | none=>rfl
   | some o =>
    obtain⟨o',e'⟩:=x.there a o e;grind
 ·obtain⟨o',e'⟩:=x.there a o e;exact y.there a o' e'
theorem aS.av(x:aS c σ δ H σ' δ' H'):∀ a,Av c σ' δ' a->Av c σ δ a\/H a=none:=λa h=>by
 rcases h with h | h
 ·exact .inl (.inl h)
 ·rcases x.own a h with q | q
  ·exact .inl (.inr q)
  ·exact .inr q
theorem Rep.d_(h:Rep H (Av c σ δ) v d)(x:aS c σ δ H σ' δ' H'):Rep H' (Av c σ' δ') v d:=by
 have h1:Rep H (λa=>Av c σ δ a\/Av c σ' δ' a) v d:=Rep.aM h λa z=>z.elim .inl (x.av a)
 exact(h1.keep λa o e n=>x.keep a o e λz=>n (.inl (.inr z))).aM λa z=>.inl (.inr z)
theorem aK.d_(h:aK H (Av c σ δ) vs ds)(x:aS c σ δ H σ' δ' H'):aK H' (Av c σ' δ') vs ds:=⟨h.1,λi v d e1 e2=>Rep.d_ (h.2 i v d e1 e2) x⟩
def bD(c:Fc)(σ:St)(δ:Dl)(Hs H:Hp)(v:V):S->Prop
 | .pure d=>Rep H (Av c σ δ) v d
 | .own d=>∃ a,v = .ref a/\fg H (Av (c.plus a) σ δ) a d/\¬ c.B a/\c.H₀ a=none/\Ok (c.plus a) σ δ H/\Hs a=none
theorem oP(k:Ok (c.plus a) σ δ H):¬ Own σ δ a:=λ⟨i,d,e1,e2⟩=>by
 obtain⟨b,e3,_,_,n⟩:=k.own i d e1;rw[e2] at e3; cases e3
 exact n (.inr rfl)
theorem bD.rep(h:bD c σ δ Hs H v r):Rep H (Av c σ δ) v r.d:=by
 cases r with
 | pure d=>exact h
 | own d =>
  obtain⟨a,rfl,o,n,f,k,_⟩:=h;refine(o.aM λb z=>.inl ?_).rep λz=>z.elim n (oP k)
  exact z.elim (λz=>.inl (.inl z)) .inr
theorem bD.back(h:bD c σ δ Hs H v r)(x:aS c σ₀ δ₀ H' σ' δ' Hs):bD c σ δ H' H v r:=by
 cases r with
 | pure d=>exact h
 | own d =>
  obtain⟨a,e,o,n,f,k,hs⟩:=h;refine⟨a,e,o,n,f,k,?_⟩
  cases q:H' a with
  | none=>rfl
  | some o =>
   obtain⟨o',e'⟩:=x.there a o q;grind
theorem bD.NA(h:bD c σ δ Hs H v r):bD c σ δ c.H₀ H v r:=by
 cases r with
 | pure d=>exact h
 | own d =>
  obtain⟨a,e,o,n,f,k,hs⟩:=h;exact⟨a,e,o,n,f,k,f⟩
theorem Ok.alloc(k:Ok c σ δ H)(hp:H p=none)(o):Ok c σ δ (upd H p o):=by
 have up:∀ a w,H a=some w->upd H p o a=some w:=λa w e=>by
  rw[aR (fA e hp)]; exact e
 refine⟨λa w e n=>up a w (k.keep a w e n),λa z=>(k.bd a z).elim λw e=>⟨w,up a w e⟩,λa z=>(k.dZ a z).elim λw e=>⟨w,up a w e⟩,k.len,λi d e=>?_,λi d e=>?_,k.inj,k.pinned⟩
 ·obtain⟨v,e1,r⟩:=k.slot i d e;exact⟨v,e1,r.keep λa w q _=>up a w q⟩
 ·obtain⟨a,e1,r,q⟩:=k.own i d e;exact⟨a,e1,r.keep (λb w q _=>up b w q) λw q=>up a w q,q⟩
theorem aS.alloc(k:Ok c σ δ H)(hp:H p=none)(o):aS c σ δ H σ δ (upd H p o):=by
 have up:∀ a w,H a=some w->upd H p o a=some w:=λa w e=>by
  rw[aR (fA e hp)]; exact e
 exact⟨k.alloc hp o,λa w e _=>up a w e,λa h=>.inl h,λa w e=>⟨w,up a w e⟩⟩
theorem Ok.nr(k:Ok c σ δ H)(hp:H p=none):c.H₀ p=none:=by
 cases e:c.H₀ p with
 | none=>rfl
 | some o =>
  by_cases q:c.I p
  ·obtain⟨w,e'⟩:=k.dZ p q;grind
  ·have:=k.keep p o e q;grind
theorem Ok.plus(k:Ok c σ δ H)(hp:H p=none)(o):Ok (c.plus p) σ δ (upd H p o):=by
 have k':=k.alloc hp o;have sub:∀ b,Av (c.plus p) σ δ b->Av c σ δ b\/b=p:=λb z=>by
  rcases z with (z | z) | z
  ·exact .inl (.inl z)
  ·exact .inr z
  ·exact .inl (.inr z)
 have um:∀ b,Av (c.plus p) σ δ b->Av c σ δ b\/H b=none:=λb z=>(sub b z).elim .inl λe=>.inr %[e|hp]
 have up:∀ a w,H a=some w->upd H p o a=some w:=λa w e=>by
  rw[aR (fA e hp)]; exact e
 refine⟨k'.keep,λa z=>?_,k'.dZ,k.len,λi d e=>?_,λi d e=>?_,k.inj,k.pinned⟩
 ·rcases z with z | z
  ·exact k'.bd a z
  ·exact⟨o,%[z|cI]⟩
 ·obtain⟨v,e1,r⟩:=k.slot i d e;exact⟨v,e1,(r.aM um).keep λa w q _=>up a w q⟩
 ·obtain⟨a,e1,r,q,nb⟩:=k.own i d e;refine⟨a,e1,(r.aM um).keep (λb w q _=>up b w q) (λw q=>up a w q),q,λz=>?_⟩;rcases z with z | z
  all_goals grind[fg.some]
theorem bD.oQ(k:Ok c σ δ H)(r:aK H (Av c σ δ) vs ds)(hp:H p=none):bD c σ δ H (upd H p (.lst vs)) (.ref p) (.own (.lst ds)):=by
 have up:∀ a w,H a=some w->upd H p (.lst vs) a=some w:=λa w e=>by
  rw[aR (fA e hp)]; exact e
 refine⟨p,rfl,⟨vs,cI,?_⟩,λz=>k.ja hp (.inl z),k.nr hp,k.plus hp _,hp⟩;have r1:aK H (Av (c.plus p) σ δ) vs ds:=aK.aM r λb z=>by
  rcases z with (z | z) | z
  ·exact .inl (.inl z)
  ·exact .inr %[z|hp]
  ·exact .inl (.inr z)
 exact aK.keep r1 λb w e _=>up b w e
theorem bD.oR(k:Ok c σ δ H)(r:aK H (Av c σ δ) vs ds)(hp:H p=none):bD c σ δ H (upd H p (.tup vs)) (.ref p) (.pure (.tup ds)):=by
 have up:∀ a w,H a=some w->upd H p (.tup vs) a=some w:=λa w e=>by
  rw[aR (fA e hp)]; exact e
 have r1:=aK.keep r (H':=upd H p (.tup vs)) λb w e _=>up b w e
 exact .tup (k.ja hp) cI r1.1 r1.2
end
inductive Rs (α:Type) where
 | ok (a:α) (δ:Dl)
 | exc (x:Xc) (δ:Dl)
 | stuck
noncomputable def Rs.bind{α β:Type}(r:Rs α)(f:α->Dl->Rs β):Rs β:=match r with
 | .ok a δ=>f a δ
 | .exc x δ=>.exc x δ
 | .stuck=>.stuck
abbrev DE:=Dl->Rs S
variable {el fe:DE}
def XC(c:Fc)(x:Xc)(δ:Dl):Prop:=c.xc x δ
def post{α:Type}(c:Fc)(r:Rs α)(k:α->Dl->Prop):Prop:=match r with
 | .ok a δ=>k a δ
 | .exc x δ=>XC c x δ
 | .stuck=>False
theorem bA{f}:post c (r.bind f) k ↔ post c r λa δ=>post c (f a δ) k:=by
 cases r <;> exact Iff.rfl
theorem aX(h:post c r k)(m:∀ a δ,k a δ->k' a δ):post c r k':=by
 cases r with
 | ok a δ=>exact m a δ h
 | exc x δ=>exact h
 | stuck=>exact h
def tD(c:Fc)(f:DE):TE:=λσ H Q=>∃ δ,Ok c σ δ H/\post c (f δ) λr δ'=>∀ v H',aS c σ δ H σ δ' H'->bD c σ δ' H H' v r->Q v H'
abbrev SE(X:Cx)(c:Fc)(e:Expr)(f:DE):Prop:=PE X e (tD c f)
def cX(c:Fc)(σ:St)(δ:Dl)(H:Hp)(v:V)(d:D):Prop:=Rep H (Av c σ δ) v d\/∃ a,v = .ref a/\fg H (Av c σ δ) a d
abbrev BE:=Dl->Rs D
variable {fb:BE}
def UF(c:Fc)(f:BE):TE:=λσ H Q=>∃ δ,Ok c σ δ H/\post c (f δ) λd δ'=>∀ v H',aS c σ δ H σ δ' H'->cX c σ δ' H' v d->Q v H'
abbrev SB(X:Cx)(c:Fc)(e:Expr)(f:BE):Prop:=PE X e (UF c f)
theorem PE.weak{t'}(h:PE X e t)(w:∀ σ H Q,t' σ H Q->t σ H Q):PE X e t':=λpins s σ H Q I q=>h pins s σ H Q I (w σ H Q q)
def ar(f:DE):BE:=λδ=>(f δ).bind λr δ'=>.ok r.d δ'
theorem bD.b(h:bD c σ δ Hs H v r):cX c σ δ H v r.d:=.inl h.rep
theorem j8{X c e f}(h:SE X c e f):SB X c e (ar f):=PE.weak h λσ H Q ⟨δ,k,p⟩=>⟨δ,k,by
 unfold ar at p;rw[bA] at p;exact aX p λr δ' q v H' a s=>q v H' a s.b⟩
def ag(i:Nat):BE:=λδ=>match δ[i]? with
 | some (some r)=>.ok r.d δ
 | _=>.stuck
def aa(i:Nat):DE:=λδ=>match δ[i]? with
 | some (some (.pure d))=>.ok (.pure d) δ
 | some (some (.own d))=>.ok (.pure d) (δ.set i (some (.pure d)))
 | _=>.stuck
def eD(d:D):DE:=λδ=>.ok (.pure d) δ
theorem dM{X c i e}(h:PE X e (dD i)):SB X c e (ag i):=PE.weak h λσ H Q ⟨δ,k,p⟩=>by
 unfold ag at p
 cases e:δ[i]? with
 | none=>rw[e] at p; exact p.elim
 | some o =>
  cases o with
  | none=>rw[e] at p; exact p.elim
  | some r =>
   rw[e] at p
   cases r with
   | pure d =>
    obtain⟨v,e1,r⟩:=k.slot i d e;exact⟨v,e1,p v H (.refl k) (.inl r)⟩
   | own d =>
    obtain⟨a,e1,r,_⟩:=k.own i d e;exact⟨.ref a,e1,p _ H (.refl k) (.inr ⟨a,rfl,r⟩)⟩
theorem Own.sub(h:Own σ (δ.set i (some (.pure d))) a):Own σ δ a:=by
 obtain⟨j,d',e1,e2⟩:=h;by_cases hj:i=j
 ·subst hj;rw[Q0] at e1;simp at e1
 ·rw[W9 hj] at e1;exact⟨j,d',e1,e2⟩
theorem Ok.give(k:Ok c σ δ H)(e:δ[i]? = some (some (.own d))) :
  ∃ a,σ[i]? = some (some (.ref a))/\aS c σ δ H σ (δ.set i (some (.pure d))) H/\Rep H (Av c σ (δ.set i (some (.pure d)))) (.ref a) d:=by
 obtain⟨a,e1,r,q,nb⟩:=k.own i d e;have hi:i < δ.length:=(W6.mp e).1;have sub:∀ b,Av c σ (δ.set i (some (.pure d))) b->Av c σ δ b:=λb z=>z.elim .inl λz=>.inr z.sub
 have na:¬ Av c σ (δ.set i (some (.pure d))) a:=by
  rintro (z | ⟨j,d',f1,f2⟩)
  ·exact nb z
  ·by_cases hj:i=j
   ·subst hj;rw[Q0] at f1;simp at f1
   ·rw[W9 hj] at f1;exact hj (k.inj i j a d d' e f1 e1 f2)
 have rep:Rep H (Av c σ (δ.set i (some (.pure d)))) (.ref a) d:=(r.aM λb z=>.inl (sub b z)).rep na;refine⟨a,e1,⟨⟨k.keep,k.bd,k.dZ,%[Qe|k.len],λj d' f=>?_,λj d' f=>?_,λj l b d1 d2 f1 f2=>?_,k.pinned⟩,λ_ _ w _=>w,λb z=>.inl z.sub,λ_ o w=>⟨o,w⟩⟩,rep⟩
 ·by_cases hj:i=j
  ·subst hj;rw[Wr hi] at f
   cases f;exact⟨.ref a,e1,rep⟩
  ·rw[W9 hj] at f;obtain⟨v,g1,g2⟩:=k.slot j d' f;exact⟨v,g1,g2.aM λb z=>.inl (sub b z)⟩
 ·by_cases hj:i=j
  ·subst hj;rw[Wr hi] at f
   cases f
  ·rw[W9 hj] at f;obtain⟨b,g1,g2,g3⟩:=k.own j d' f;exact⟨b,g1,g2.aM λb z=>.inl (sub b z),g3⟩
 ·have h1:δ[j]? = some (some (.own d1)):=by
   by_cases hj:i=j
   ·subst hj; rw[Wr hi] at f1; cases f1
   ·rw[W9 hj] at f1; exact f1
  have h2:δ[l]? = some (some (.own d2)):=by
   by_cases hj:i=l
   ·subst hj; rw[Wr hi] at f2; cases f2
   ·rw[W9 hj] at f2; exact f2
  exact k.inj j l b d1 d2 h1 h2
theorem dj{X c i e}(h:PE X e (dD i)):SE X c e (aa i):=PE.weak h λσ H Q ⟨δ,k,p⟩=>by
 unfold aa at p
 cases e:δ[i]? with
 | none=>rw[e] at p; exact p.elim
 | some o =>
  cases o with
  | none=>rw[e] at p; exact p.elim
  | some r =>
   rw[e] at p
   cases r with
   | pure d =>
    obtain⟨v,e1,r⟩:=k.slot i d e;exact⟨v,e1,p v H (.refl k) r⟩
   | own d =>
    obtain⟨a,e1,x,r⟩:=k.give e;exact⟨.ref a,e1,p _ H x r⟩
theorem nt{X c}{i j pos}:SE X c (.Constant (.int i) j pos) (eD (.int i)):=PE.weak K9 λσ H Q ⟨δ,k,p⟩=>p _ H (.refl k) (.int i)
theorem qN{X c}{b j pos}:SE X c (.Constant (.bool b) j pos) (eD (.bl b)):=PE.weak K_ λσ H Q ⟨δ,k,p⟩=>p _ H (.refl k) (.bl b)
theorem Cy{X c}{j pos}:SE X c (.Constant .none j pos) (eD .bp):=PE.weak La λσ H Q ⟨δ,k,p⟩=>p _ H (.refl k) .bp
theorem Cz{X c x j pos}(y)(h:x=toS y:=by decide +kernel):SE X c (.Constant (.str x) j pos) (eD (.str y)):=by
 subst h;exact PE.weak Be λσ H Q ⟨δ,k,p⟩=>p _ H (.refl k) (.str y)
theorem NB{i} (hg:Gl X x) (hm:X.mg x=some (.int i t)) (hd:(x == ("__debug__" : Str))=false:=by decide):SE X c (.Name x pos) (eD (.int i)) :=
 PE.weak (Bf (v:=.int i) hg hm ⟨t,rfl⟩ hd) λσ H Q ⟨δ,k,p⟩=>p _ H (.refl k) (.int i)
open PySem.SeqAt
mutual
noncomputable def dI:D->D->Bool
 | .bp,.bp=>true
 | .bl a,.bl b=>a == b
 | .int a,.int b=>a == b
 | .bl a,.int b=>(if a then 1 else 0) == b
 | .int a,.bl b=>a == (if b then 1 else 0)
 | .str a,.str b=>a == b
 | .tup xs,.tup ys=>jb xs ys
 | .lst xs,.lst ys=>jb xs ys
 | _,_=>false
noncomputable def jb:List D->List D->Bool
 | [],[]=>true
 | x :: xs,y :: ys=>dI x y && jb xs ys
 | _,_=>false
end
abbrev qO:Addr->Prop:=λ_=>False
theorem Rep.un(h:Rep H O v d):Rep H qO v d:=Rep.aM h λ_ z=>z.elim
theorem cX.un(h:cX c σ δ H v d):Rep H qO v d:=by
 rcases h with h | ⟨a,rfl,o⟩
 ·exact Rep.un h
 ·exact(o.aM (O':=qO) λ_ z=>z.elim).rep λz=>z
theorem uo(x y):((toS x:Str) == toS y)=(x == y):=by
 rw[U3];simp only[beq_iff_eq];exact⟨xr,λe=>by rw[e]⟩
def cC{α:Type}(xs:List α)(lo hi:Option Int):List α:=(xs.drop (a0 xs.length 0 lo)).take (a0 xs.length xs.length hi - a0 xs.length 0 lo)
theorem CA(xs lo hi):cC xs lo hi=lS xs lo hi:=rfl
theorem NC(xs:List α)(lo hi):(cC xs lo hi).length<=xs.length:=by
 unfold cC;rw[Ur,List.length_drop];lia
theorem aK.cut(lo hi)(h:aK H O vs ds):aK H O (cC vs lo hi) (cC ds lo hi):=by
 unfold cC;rw[h.1];exact aK.take _ (aK.drop _ h)
theorem NF{α:Type}{xs:List α}(h:a0 xs.length 0 lo=0/\a0 xs.length xs.length hi=xs.length):cC xs lo hi=xs:=by
 unfold cC;rw[h.1,h.2];simp
theorem NG{t}(ht:IsTup s.heap t items)(hs:s.heap.IsSliceOf sl vl vu .none)(pl:IsPart vl lo)(pu:IsPart vu hi)
  (hw:a0 items.size 0 lo=0/\a0 items.size items.size hi=items.size) (h:Q (.ref t) s):W8 (model prog w) A (Ua (.ref t) (.ref sl)) Q E s:=by
 obtain⟨os,hos,hcs,lR⟩:=id hs;have wO:s.TypeIs (.ref sl) "slice":=⟨os,hos,hcs⟩
 unfold Ua;try with_reducible refine WL ?_
 first | refine W0 (W3 ?_) | skip
 refine W0 (Uh ht.typeIs Z' ?_);refine W0 (WF (name:=Str.ofString "__getitem__") ht.typeIs QY
  (Wz QY ht.typeIs entry_tuple_getitem ?_ (args_tuple_getitem _ _)))
 show W8 _ _ (Builtin.Tuple.tupleItemsOf (.ref t) >>= _) _ _ s;refine W0 (tupleItemsOf_ ht ?_);refine W0 (JR wO ?_);rw[if_pos Z'];refine W0 (BW hs pl pu ?_);show W8 _ _ (if (((a0 items.size 0 lo:Nat):Int) == 0 && (1:Int) == 1 && (a0 items.size items.size hi - a0 items.size 0 lo) == items.size)=true then _ else _) _ _ s;rw[hw.1,hw.2];rw[if_pos Z5];refine W0 (m:=Builtin.Tuple.tupleIsExact (.ref t)) ?_;unfold Builtin.Tuple.tupleIsExact;refine W0 (JR ht.typeIs (W3 ?_));rw[if_pos Z'];exact W0 (J0 (W0 (W3 (W3 ⟨_,rfl,W3 h⟩))))
def CB(K:W5):V->Option Int->Option Int->Hp->VK->Prop:=λx lo hi H Q=>∃ a xs,x = .ref a/\di K H a xs /\
 ((a0 xs.length 0 lo=0/\a0 xs.length xs.length hi=xs.length)->Q (.ref a) H)/\(¬ (a0 xs.length 0 lo=0/\a0 xs.length xs.length hi=xs.length)->∀ p,H p=none->Q (.ref p) (upd H p (.tup (lS xs lo hi))))
theorem NH:j3 X (CB X.K):=by
 intro pins s σ H x v vl vu lo hi sl Q I rx hs pl pu h;obtain⟨a,xs,rfl,hx,q1,q2⟩:=h;by_cases hw:a0 xs.length 0 lo=0/\a0 xs.length xs.length hi=xs.length
 ·cases rx;obtain⟨ak,r,ht,hz⟩:=I.tuple hx;have hlen:ak.toArray.size=xs.length:=%[Wx|r.length.symm]
  refine⟨"tuple",_,PyProof.Rows.slot_tuple_getitem.lookup,ht.typeIs,?_⟩;exact NG ht hs pl pu %[hlen|hw] ⟨.ref a,H,I,rfl,q1 hw⟩
 ·exact tW pins s σ H (.ref a) v vl vu lo hi sl Q I rx hs pl pu ⟨a,xs,rfl,hx,hw,q2 hw⟩
theorem NI(a b:Nat):sliceRange (a:Int) (b:Int) 1=(WY (b - a)).map (λk=>a + k):=by
 have h0:((1:Int) > 0)=True:=by simp
 unfold sliceRange;simp only[h0,if_true];by_cases bu:(a:Int) < (b:Int)
 ·rw[if_pos bu];have e3:(((b:Int) - (a:Int) + 1 - 1) / 1).toNat=b - a:=by
   rw[Int.ediv_one]; lia
  rw[e3];refine Qf λk _=>?_
  lia
 ·rw[if_neg bu];have:b - a=0:=by lia
  rw[this];rfl
theorem CD(lo hi)(n:Nat):QQ lo hi 1 n=(WY (a0 n n hi - a0 n 0 lo)).map (λk=>a0 n 0 lo + k):=by
 have c:∀ (i:Int) (d:Nat),max 0 (min (if i < 0 then i + (n:Int) else i) (n:Int))=((a0 n d (some i):Nat):Int):=by
  intro i d;show max 0 (min (if i < 0 then i + (n:Int) else i) (n:Int))=(((if i < 0 then(i + (n:Int)).toNat else min i.toNat n):Nat):Int);by_cases hi:i < 0
  ·simp only[if_pos hi]; lia
  ·simp only[if_neg hi]; lia
 have h0:((1:Int) > 0)=True:=by simp
 rw[<- NI];unfold QQ;simp only[h0,if_true]
 cases lo with
 | none =>
  cases hi with
  | none=>rfl
  | some j=>show sliceRange 0 (max 0 (min (if j < 0 then j + (n:Int) else j) (n:Int))) 1=_; rw[c j n]; rfl
 | some i =>
  cases hi with
  | none=>show sliceRange (max 0 (min (if i < 0 then i + (n:Int) else i) (n:Int))) (n:Int) 1=_; rw[c i 0]; rfl
  | some j=>grind
theorem NJ(x lo hi):(⟨((QQ lo hi 1 (toS x).length).filterMap ((toS x).cps[·]?)).toArray⟩:Str)=toS (cC x lo hi):=by
 unfold toS;congr 1
 rw[CD];have:=pick_run (x.toArray) (a0 x.length 0 lo) (a0 x.length x.length hi - a0 x.length 0 lo);have hl:({ cps:=x.toArray }:Str).length=x.length:=#v[Str.length]
 rw[hl];rw[this];rfl
def CF:V->Option Int->Option Int->Hp->VK->Prop:=λx lo hi H Q=>∃ z:Tx,x = .str (toS z)/\z.length<=Wa/\Q (.str (toS (cC z lo hi))) H
theorem CG(p:IsPart v o):∃ q:Option (Int×Tok),v=partValue q/\q.map (·.1)=o:=by
 cases p with
 | none=>exact⟨none,rfl,rfl⟩
 | int i t=>exact⟨some (i,t),rfl,rfl⟩
theorem xt:j3 X CF:=by
 intro pins s σ H x v vl vu lo hi sl Q I rx hs pl pu h;obtain⟨z,rfl,hz,q⟩:=h;obtain⟨t,rfl⟩:=rx;obtain⟨l,rfl,el⟩:=CG pl;obtain⟨u,rfl,eu⟩:=CG pu;obtain⟨o,ho,hc,hd⟩:=hs;refine⟨"str",_,F.slot_str_getitem.lookup,typeIs_str s _ t,?_⟩;refine wpAny_getItem_str_slice (l:=l) (u:=u) (st:=none) ⟨o,ho,hc,hd⟩ rfl ?_;unfold sliceMade;have e:(slicePicked (toS z) l u none)=QQ lo hi 1 (toS z).length:=by
  unfold slicePicked;rw[el,eu];rfl
 rw[e];by_cases hw:(((none:Option (Int×Tok)).map (·.1)).getD 1 == 1 && (QQ lo hi 1 (toS z).length).length == (toS z).length)=true
 ·rw[if_pos hw];refine⟨.str (toS (cC z lo hi)),H,I,⟨t,?_⟩,q⟩;congr 1
  rw[WE] at hw;have xu:=eq_of_beq hw.2;rw[CD,Wn,JM,j7] at xu;have h1:=wN z.length 0 (Qq _) lo;have h2:=wN z.length z.length (Wi _) hi;unfold cC;congr 1
  by_cases h0:z.length=0
  ·grind
  ·have a1:a0 z.length 0 lo=0:=by lia
   rw[a1] at xu ⊢;rw[xu];simp
 ·rw[if_neg hw];show Made.post (.str _) _ _;rw[NJ];exact⟨%[j7|Qc (NC z lo hi) hz],.str (toS (cC z lo hi)),H,I.tok _,⟨_,rfl⟩,q⟩
theorem NL:cj X (QL .Add) (λx y H Q=>∃ a b ys,x = .ref a/\y = .ref b/\di X.K H a []/\di X.K H b ys/\Q (.ref b) H):=by
 intro pins s σ H x y v u Q I rx ry h;obtain⟨a,b,ys,rfl,rfl,ha,hb,q⟩:=h
 cases rx
 cases ry;obtain⟨ak,r1,p1,_⟩:=I.tuple ha;obtain⟨its2,r2,p2,_⟩:=I.tuple hb
 cases r1;obtain⟨⟨cls,dd,data,sl⟩,ho,hc,n,hd⟩:=id p1;obtain⟨⟨cls2,dd2,data2,sl2⟩,ho2,hc2,n2,hd2⟩:=id p2;simp only at hc hd hc2 hd2;subst hc hd hc2 hd2;exact concat_meets ⟨_,ho,rfl⟩ ⟨_,ho2,rfl⟩ noFill_tuple_add seq_tuple_add PySem.F.slot_tuple_add PySem.F.entry_tuple_add (PySem.F.args_tuple_add_2 _ _)
   (tuple_addW0 a b #[] its2.toArray n n2 dd dd2 sl sl2 rfl) ⟨ho,ho2,.ref b,H,I,rfl,q⟩
def CI(K:W5):R2:=λx y H Q=>∃ l b xs zs,x = .ref l/\y = .ref b/\cP K H l xs/\cP K H b zs/\xs.length + zs.length<=Wa/\∀ p,H p=none->Q (.ref p) (upd H p (.lst (xs ++ zs)))
theorem NM:cj X (QL .Add) (CI X.K):=by
 intro pins s σ H x y v u Q I rx ry h;obtain⟨l,b,xs,zs,rfl,rfl,hH,hB,hz,q⟩:=h
 cases rx
 cases ry;obtain⟨ak,r,⟨⟨cls,dd,data,sl⟩,n,e,hc,eQ,hd⟩,z⟩:=I.list hH;obtain⟨its2,r2,⟨⟨cls2,dd2,data2,sl2⟩,n2,e2,hc2,hdd2,hd2⟩,z2⟩:=I.list hB;simp only at hc hd eQ hc2 hd2 hdd2;subst hc hd eQ hc2 hd2 hdd2;have hl:=r.length;have kR:=r2.length;refine concat_meets ⟨_,e,rfl⟩ ⟨_,e2,rfl⟩ noFill_list_add seq_list_add PySem.F.slot_list_add PySem.F.entry_list_add (PySem.F.args_list_add_2 _ _)
   (list_addW l b ak.toArray its2.toArray n n2 none none sl sl2 (by rw[Wx,Wx]; lia)) ⟨e,e2,?_⟩
 have ea:ak.toArray ++ its2.toArray=(ak ++ its2).toArray:=by simp
 rw[ea];exact⟨.ref _,_,I.MJ (t':=s.toks) (r.append r2) (by rw[Qu]; lia),rfl,q _ I.fresh⟩
theorem uq:∀ {ys:List Str} {us:List Value},Vals (ys.map V.str) us->StrsAre us ys
 | [],us,r=>by cases r; exact .nil
 | y :: ys,us,r=>by
  cases r with
  | cons r1 r2 =>
   obtain⟨t,rfl⟩:=r1;exact .cons y t (uq r2)
theorem CJ:∀ {ys:List Str} {us:List Value},StrsAre us ys->Vals (ys.map V.str) us
 | _,_,.nil=>.nil
 | _,_,.cons y t h=>.cons ⟨t,rfl⟩ (CJ h)
def ur(K:W5):V->List V->Hp->VK->Prop:=λx vs H Q=>∃ (z:Str) (a:Addr) (ys:List Str),x = .str z/\vs=[.ref a]/\(cP K H a (ys.map V.str)\/di K H a (ys.map V.str)) /\
 (ys.map (·.length)).sum + ys.length * z.length<=16777216/\Q (.str (Txt.join z ys)) H
theorem NO:wU X "str.join" (ur X.K):=by
 intro pins s σ H x vs v us Q I rx rv h;obtain⟨z,a,ys,rfl,rfl,hq,hz,q⟩:=h;obtain⟨t,rfl⟩:=rx;obtain⟨u,rfl,ru⟩:=rv.one
 cases ru;rcases hq with hq | hq
 ·obtain⟨ak,r,p,_⟩:=I.list hq;exact join_list p.isList (by simpa using uq r) hz λt' k=>⟨.str _,H,I.tok _,⟨t',rfl⟩,q⟩
 ·obtain⟨ak,r,p,_⟩:=I.tuple hq;exact join_tuple p (by simpa using uq r) hz λt' k=>⟨.str _,H,I.tok _,⟨t',rfl⟩,q⟩
theorem xw:∀ {bs:List Bool} {us:List Value},Vals (bs.map V.bl) us->∀ (i:Nat) v,us[i]? = some v->∃ b,bs[i]? = some b/\v = .bool b
 | [],us,r,i,v,e=>by cases r; simp at e
 | b :: bs,us,r,i,v,e=>by
  cases r with
  | cons r1 r2 =>
   cases i with
   | zero =>
    simp at e;subst e;exact⟨b,rfl,r1⟩
   | succ i=>exact xw r2 i v (~~~e)
theorem CK:∀ bs:List Bool,((WY bs.length).all λi=>(bs[i]?).getD true)=bs.all id
 | []=>rfl
 | b :: bs=>by
  rw[WS,List.range_succ_eq_map,Um,List.all_map];have:=CK bs;simp only[Q5,JW,Um,id];rw[<- this];rfl
theorem CL:∀ bs:List Bool,((WY bs.length).any λi=>(bs[i]?).getD false)=bs.any id
 | []=>rfl
 | b :: bs=>by
  rw[WS,List.range_succ_eq_map,Qb,JS];have:=CL bs;simp only[Q5,JW,Qb,id];rw[<- this];rfl
theorem NP (hc:X.calm=true):eO X (.builtin "all") (λxs H Q=>∃ (a:Addr) (bs:List Bool),xs=[.ref a]/\cP X.K H a (bs.map V.bl)/\Q (.bl (bs.all (λb=>b))) H):=by
 intro pins s σ H xs us Q I r h;obtain⟨a,bs,rfl,hq,q⟩:=h;obtain⟨u,rfl,ru⟩:=g7 r
 cases ru;obtain⟨ak,r',p,_⟩:=I.list hq;have hl:=p.isList;have bu:a < s.heap.objs.size:=by obtain⟨_,e,_⟩:=hl; exact Ws e
 have hlen:=r'.length;rw[Wn] at hlen;refine call_all_walk (JN hl ?_);refine⟨s.heap.objs.size,[s.heap.objs.size,a],[s.heap.objs.size],ak.toArray.size,_,_,λi=>(bs[i]?).getD true,rfl,Walks.list (A:=X.A.in1) (I.ok.hd hc) _ a (WX bu) ak.toArray,
  ⟨⟨_,Wh _ rfl,rfl,rfl⟩,hl.push _⟩,λi v s' Q' E' hP hQ=>?_,λh' tk hk=>?_⟩
 ·obtain⟨b,e,rfl⟩:=xw r' i v (~~~hP);simp only[e,JW] at hQ;exact J4 hQ
 ·have e:((WY ak.toArray.size).all λi=>(bs[i]?).getD true)=bs.all id:=by
   rw[Wx,<- hlen]; exact CK bs
  rw[e];exact⟨.bl _,H,I.kept λb o e=>hk b o (λhm=>by rw[List.mem_singleton.mp hm] at e; exact Qg _ (Ws e)) (W7 _ e),rfl,q⟩
theorem NQ (hc:X.calm=true):eO X (.builtin "any") (λxs H Q=>∃ (a:Addr) (bs:List Bool),xs=[.ref a]/\cP X.K H a (bs.map V.bl)/\Q (.bl (bs.any (λb=>b))) H):=by
 intro pins s σ H xs us Q I r h;obtain⟨a,bs,rfl,hq,q⟩:=h;obtain⟨u,rfl,ru⟩:=g7 r
 cases ru;obtain⟨ak,r',p,_⟩:=I.list hq;have hl:=p.isList;have bu:a < s.heap.objs.size:=by obtain⟨_,e,_⟩:=hl; exact Ws e
 have hlen:=r'.length;rw[Wn] at hlen;refine call_any_walk (JN hl ?_);refine⟨s.heap.objs.size,[s.heap.objs.size,a],[s.heap.objs.size],ak.toArray.size,_,_,λi=>(bs[i]?).getD false,rfl,Walks.list (A:=X.A.in1) (I.ok.hd hc) _ a (WX bu) ak.toArray,
  ⟨⟨_,Wh _ rfl,rfl,rfl⟩,hl.push _⟩,λi v s' Q' E' hP hQ=>?_,λh' tk hk=>?_⟩
 ·obtain⟨b,e,rfl⟩:=xw r' i v (~~~hP);simp only[e,JW] at hQ;exact J4 hQ
 ·have e:((WY ak.toArray.size).any λi=>(bs[i]?).getD false)=bs.any id:=by
   rw[Wx,<- hlen]; exact CL bs
  rw[e];exact⟨.bl _,H,I.kept λb o e=>hk b o (λhm=>by rw[List.mem_singleton.mp hm] at e; exact Qg _ (Ws e)) (W7 _ e),rfl,q⟩
def kS(x:Tx):List Tx->List Tx
 | []=>[x]
 | y :: r=>if y < x then y :: kS x r else x :: y :: r
def iN:List Tx->List Tx
 | []=>[]
 | x :: r=>kS x (iN r)
theorem xy(x):∀ l:List Tx,(kS x l).Perm (x :: l)
 | []=>.refl _
 | y :: r=>by
  unfold kS;split
  ·exact((xy x r).cons y).trans (.swap x y r)
  ·exact .refl _
theorem xA:∀ l,(iN l).Perm l
 | []=>.refl _
 | x :: r=>(xy x _).trans ((xA r).cons x)
abbrev jc(a b:Tx):Prop:=¬ b < a
theorem NS{a c}(h1:jc a b)(h2:jc b c):jc a c:=by grind
theorem NT{a}(h1:jc a b)(h2:jc b a):a=b:=by grind
theorem CM(x):∀ l:List Tx,l.Pairwise jc->(kS x l).Pairwise jc
 | [],_=>#v[kS]
 | y :: r,h=>by
  unfold kS;obtain⟨h1,h2⟩:=List.pairwise_cons.mp h;split
  ·rename_i bu;refine List.pairwise_cons.mpr ⟨λz hz=>?_,CM x r h2⟩;grind[xy]
  grind[U8]
theorem CN:∀ l,(iN l).Pairwise jc
 | []=>.nil
 | x :: r=>CM x _ (CN r)
theorem NU{l}(hp:l'.Perm l)(hs:l'.Pairwise jc):l'=iN l :=
 List.Perm.eq_of_pairwise (λ_ _ _ _ h1 h2=>NT h1 h2) hs (CN l) (hp.trans (xA l).symm)
theorem CO:∀ x r,risingS x r=true->((x :: r).map λz:Str=>z.cps.toList).Pairwise jc
 | x,[],_=>by simp
 | x,y :: r,h=>by
  have h':(!ltCps y.cps.toList x.cps.toList && risingS y r)=true:=h;rw[WE] at h';have ih:=CO y r h'.2;have xB:jc x.cps.toList y.cps.toList:=by grind[ltCps_eq]
  rw[Wf];refine List.pairwise_cons.mpr ⟨λz hz=>?_,ih⟩;rw[Wf] at hz ih;rcases Wu.mp hz with e | hz
  ·subst e; exact xB
  ·exact NS xB ((List.pairwise_cons.mp ih).1 z hz)
theorem NV:eO X (.builtin "sorted") (λxs H Q=>∃ (a:Addr) (ts:List Tx),xs=[.ref a]/\cP X.K H a (ts.map λz=>V.str (toS z))/\ts.length < 64/\∀ p,H p=none->Q (.ref p) (upd H p (.lst ((iN ts).map λz=>V.str (toS z))))):=by
 intro pins s σ H xs us Q I r h;obtain⟨a,ts,rfl,hq,hz,q⟩:=h;obtain⟨u,rfl,ru⟩:=g7 r
 cases ru;obtain⟨ak,r',p,_⟩:=I.list hq;have r2:Vals ((ts.map toS).map V.str) ak:=%[Ww|r']
 have hlen:=r'.length;rw[Wn] at hlen;refine sorted_strs p.isList (uq r2) Y' λout ss hS hp hs=>?_
 have e:ss=(iN ts).map toS:=by
  have NW:(ss.map λz:Str=>z.cps.toList).Pairwise jc:=by
   cases ss with
   | nil=>simp
   | cons x r=>exact CO x r hs
  have qP:(ss.map λz:Str=>z.cps.toList).Perm ts:=by
   have:=hp.map λz:Str=>z.cps.toList
   rw[Ww] at this;have e2:ts.map ((λz:Str=>z.cps.toList) ∘ toS)=ts:=by
    rw[show((λz:Str=>z.cps.toList) ∘ toS)=id from funext λz=>oO z,List.map_id]
   rw[e2] at this;exact this
  rw[<- NU qP NW,Ww];have:(toS ∘ λz:Str=>z.cps.toList)=id:=funext λz=>(Cv z).symm
  simp_all
 obtain⟨ep,he⟩:=sortedAll_at s.heap ak out;have hv:Vals ((iN ts).map λz=>V.str (toS z)) out.toList:=by
  have:=CJ hS;rw[e,Ww] at this;exact this
 have kR:((iN ts).map λz=>V.str (toS z)).length<=Wa:=by
  rw[Wn,(xA ts).length_eq];exact Qc (U4 hz) (by rw[QN]; decide)
 refine⟨.ref (s.heap.objs.size + 1),_,I.laid (a:=s.heap.objs.size + 1) (o:=.lst ((iN ts).map λz=>V.str (toS z))) (t':=s.toks) (λb u e=>sortedAll_old e) (Ul _) ?_,rfl,q _ (I.aC.fresh (Ul _))⟩;exact⟨kR,out.toList,ep,hv,by simp_all⟩
noncomputable def p2(p:D->D->Option S)(x y:D)(δ:Dl):Rs S:=match p x y with
 | some s=>.ok s δ
 | none=>.stuck
def aH(p:D->D->Option S)(fa:DE)(fb:BE):DE:=λδ=>(fa δ).bind λx δ1=>(fb δ1).bind λy δ2=>p2 p x.d y δ2
def aV(p:D->D->Option S)(i:Nat)(fb:BE):DE:=λδ=>(fb δ).bind λy δ1=>(ag i δ1).bind λx δ2=>p2 p x y δ2
def dF(r:R2)(p:D->D->Option S):Prop:=∀ (c:Fc) (σ:St) (δ:Dl) (H:Hp) (x y:V) (d e:D) (s:S) (Q:VK),Ok c σ δ H->cX c σ δ H x d->cX c σ δ H y e->p d e=some s ->
 (∀ v H',aS c σ δ H σ δ H'->bD c σ δ H H' v s->Q v H')->r x y H Q
section
variable {a b:Expr}{fa:DE}{r:R2}{p:D->D->Option S}
theorem xC{x e Q}(hp:dF r p)(k:Ok c σ δ H)(rx:cX c σ δ H x d)(ry:cX c σ δ H y e)
  (h:post c (p2 p d e δ) λs δ'=>∀ v H',aS c σ δ H σ δ' H'->bD c σ δ' H H' v s->Q v H'):r x y H Q:=by
 unfold p2 at h
 cases e1:p d e with
 | none=>rw[e1] at h; exact h.elim
 | some s=>rw[e1] at h; exact hp c σ δ H x y d e s Q k rx ry e1 h
theorem uu{Q}(hp:dF r p)(h:tD c (aH p fa fb) σ H Q):mY r (tD c fa) (UF c fb) σ H Q:=by
 obtain⟨δ,k,q⟩:=h;refine⟨δ,k,?_⟩;unfold aH at q;rw[bA] at q;refine aX q λx δ1 q1 v H1 a1 r1=>⟨δ1,a1.ok,?_⟩
 rw[bA] at q1;refine aX q1 λy δ2 q2 u H2 a2 r2=>?_
 exact xC hp a2.ok (.inl (Rep.d_ r1.rep a2)) r2 (aX q2 λs δ3 q3 v' H3 a3 r3=>q3 v' H3 (a1.trans (a2.trans a3)) (bD.back r3 (a1.trans a2)))
theorem NX{Q}(hp:dF r p)(h:tD c (aV p i fb) σ H Q)(hv:∀ δ,Ok c σ δ H->post c (fb δ) (λ_ _=>True)->∃ v,σ[i]? = some (some v)):mY r (dD i) (UF c fb) σ H Q:=by
 obtain⟨δ,k,q⟩:=h;unfold aV at q;rw[bA] at q;obtain⟨v,ev⟩:=hv δ k (aX q λ_ _ _=>trivial);refine⟨v,ev,δ,k,aX q λy δ1 q1 u H1 a1 r1=>?_⟩;rw[bA] at q1;unfold ag at q1
 cases e:δ1[i]? with
 | none=>rw[e] at q1; exact q1.elim
 | some o =>
  cases o with
  | none=>rw[e] at q1; exact q1.elim
  | some w =>
   rw[e] at q1;have xD:post c (p2 p w.d y δ1) λs δ'=>∀ v H',aS c σ δ H σ δ' H'->bD c σ δ' H H' v s->Q v H':=q1
   have rb:cX c σ δ1 H1 v w.d:=by
    cases w with
    | pure d =>
     obtain⟨v',e1,r⟩:=a1.ok.slot i d e;rw[ev] at e1; cases e1
     exact .inl r
    | own d =>
     obtain⟨a,e1,r,_⟩:=a1.ok.own i d e;rw[ev] at e1; cases e1
     exact .inr ⟨a,rfl,r⟩
   exact xC hp a1.ok rb r1 (aX xD λs δ3 q3 v' H3 a3 r3=>q3 v' H3 (a1.trans a3) (bD.back r3 a1))
theorem xE(k:Ok c σ δ H){w}(e:δ[i]? = some (some w)):∃ v,σ[i]? = some (some v):=by
 cases w with
 | pure d=>obtain⟨v,e1,_⟩:=k.slot i d e; exact⟨v,e1⟩
 | own d=>obtain⟨a,e1,_⟩:=k.own i d e; exact⟨_,e1⟩
end
noncomputable def ah(p:D->D->Option S)(i:Nat)(fb:BE):DE:=λδ=>match δ[i]? with
 | some (some _)=>aV p i fb δ
 | _=>.stuck
section
variable {a b:Expr}{fa:DE}{r:R2}{p:D->D->Option S}
theorem uv(hp:dF r p){Q}(h:tD c (ah p i fb) σ H Q):mY r (dD i) (UF c fb) σ H Q:=by
 obtain⟨δ,k,q⟩:=h;unfold ah at q
 cases e:δ[i]? with
 | none=>rw[e] at q; exact q.elim
 | some o =>
  cases o with
  | none=>rw[e] at q; exact q.elim
  | some w =>
   rw[e] at q;obtain⟨v,ev⟩:=xE k e;exact NX hp (i:=i) ⟨δ,k,q⟩ λ_ _ _=>⟨v,ev⟩
theorem nu{X c a b fa fb r p pos op}(ho:cj X (QL op) r)(hp:dF r p)(ha:SE X c a fa)(hb:SB X c b fb):SE X c (.BinOp a op b pos) (aH p fa fb):=PE.weak (Bv ho ha hb) λ_ _ _ h=>uu hp h
theorem oS{X c a b fb r p pos op i}(ho:cj X (QL op) r)(hp:dF r p)(ha:PE X a (dD i))(hb:SB X c b fb):SE X c (.BinOp a op b pos) (ah p i fb):=PE.weak (Bv ho ha hb) λ_ _ _ h=>uv hp h
theorem qQ{X c a b fa fb r p pos op}(ho:cj X (Q7 op) r)(hp:dF r p)(ha:SE X c a fa)(hb:SB X c b fb)(hm:QM op b=false):SE X c (.Compare a [op] [b] pos) (aH p fa fb):=PE.weak (BC ho ha hb hm) λ_ _ _ h=>uu hp h
theorem oT{X c a b fb r p pos op i}(ho:cj X (Q7 op) r)(hp:dF r p)(ha:PE X a (dD i))(hb:SB X c b fb)(hm:QM op b=false):SE X c (.Compare a [op] [b] pos) (ah p i fb):=PE.weak (BC ho ha hb hm) λ_ _ _ h=>uv hp h
theorem CP{X c a b fa fb r p pos}(hr:g9 X r)(hp:dF r p)(ha:SE X c a fa)(hb:SB X c b fb)(hs:wR b):SE X c (.Subscript a b pos) (aH p fa fb):=PE.weak (B1 hr ha hb hs) λ_ _ _ h=>uu hp h
theorem ip{X c a b fb r p pos i}(hr:g9 X r)(hp:dF r p)(ha:PE X a (dD i))(hb:SB X c b fb)(hs:wR b):SE X c (.Subscript a b pos) (ah p i fb):=PE.weak (B1 hr ha hb hs) λ_ _ _ h=>uv hp h
end
abbrev DT:=Dl->Rs Bool
def tT(c:Fc)(f:DT):TT:=λσ H Q=>∃ δ,Ok c σ δ H/\post c (f δ) λb δ'=>∀ H',aS c σ δ H σ δ' H'->Q b H'
abbrev ST(X:Cx)(c:Fc)(e:Expr)(f:DT):Prop:=PT X e (tT c f)
theorem PT.weak{t'}(h:PT X e t)(w:∀ σ H Q,t' σ H Q->t σ H Q):PT X e t':=λpins s σ H Q I q=>h pins s σ H Q I (w σ H Q q)
def aF(f:DE):DT:=λδ=>(f δ).bind λr δ'=>match r with
 | .pure (.bl b)=>.ok b δ'
 | _=>.stuck
section
variable {a b:Expr}{fa f:DE}{r:R2}{p:D->D->Option S}
theorem xF{Q}(h:tT c (aF f) σ H Q):tD c f σ H λx H'=>∃ k,x = .bl k/\Q k H':=by
 obtain⟨δ,k,q⟩:=h;refine⟨δ,k,?_⟩;unfold aF at q;rw[bA] at q;refine aX q λr δ1 q1 v H1 a1 r1=>?_
 cases r with
 | own d=>exact q1.elim
 | pure d =>
  cases d <;> first | exact q1.elim | skip
  rename_i b
  cases r1;exact⟨b,rfl,q1 H1 a1⟩
theorem oU{X c a b fa fb r p pos op}(ho:cj X (Q7 op) r)(hp:dF r p)(ha:SE X c a fa)(hb:SB X c b fb)(hm:QM op b=false):ST X c (.Compare a [op] [b] pos) (aF (aH p fa fb)) :=
 PT.weak (BD ho ha hb hm) λσ H Q h=>uu hp (xF h)
theorem uw{X c a b fb r p pos op i}(ho:cj X (Q7 op) r)(hp:dF r p)(ha:PE X a (dD i))(hb:SB X c b fb)(hm:QM op b=false):ST X c (.Compare a [op] [b] pos) (aF (ah p i fb)) :=
 PT.weak (BD ho ha hb hm) λσ H Q h=>uv hp (xF h)
theorem ux{X c f}{e:Expr}(h:SE X c e f)(he:∀ whole,isTrue e X.env whole=(do let v <- whole; standAt e.pos; holding [v] (truthy v)):=by intro _; rfl):ST X c e (aF f) :=
 PT.weak (Ld h he) λσ H Q h=>xF h
def oV(t u:DT):DT:=λδ=>(t δ).bind λb δ1=>if b then u δ1 else .ok false δ1
def nv(t u:DT):DT:=λδ=>(t δ).bind λb δ1=>if b then .ok true δ1 else u δ1
def gI(t:DT):DT:=λδ=>(t δ).bind λb δ1=>.ok (!b) δ1
abbrev SW(X:Cx)(c:Fc)(e:Expr)(f:DT):Prop:=PW X e (tT c f)
theorem PW.weak{t'}(h:PW X e t)(w:∀ σ H Q,t' σ H Q->t σ H Q):PW X e t':=λwh pins s σ H Q I q=>h wh pins s σ H Q I (w σ H Q q)
variable {t u:DT}{rest:List Expr}
theorem NY{X c a pos t}(ha:ST X c a t):SW X c (.BoolOp .And [a] pos) t:=Li ha
theorem CQ{X c a pos t}(ha:ST X c a t):SW X c (.BoolOp .Or [a] pos) t:=Lj ha
theorem NZ{X c a b pos t u rest}(ha:ST X c a t)(hb:SW X c (.BoolOp .And (b :: rest) pos) u):SW X c (.BoolOp .And (a :: b :: rest) pos) (oV t u):=PW.weak (Lk ha hb) λσ H Q ⟨δ,k,q⟩=>by
 unfold oV at q;rw[bA] at q;refine⟨δ,k,aX q λx δ1 q1 H1 a1=>?_⟩
 cases x with
 | true=>exact⟨δ1,a1.ok,aX q1 λy δ2 q2 H2 a2=>q2 H2 (a1.trans a2)⟩
 | false=>exact q1 H1 a1
theorem N0(ha:ST X c a t)(hb:SW X c (.BoolOp .Or (b :: rest) pos) u):SW X c (.BoolOp .Or (a :: b :: rest) pos) (nv t u):=PW.weak (pw_or ha hb) λσ H Q ⟨δ,k,q⟩=>by
 unfold nv at q;rw[bA] at q;refine⟨δ,k,aX q λx δ1 q1 H1 a1=>?_⟩
 cases x with
 | false=>exact⟨δ1,a1.ok,aX q1 λy δ2 q2 H2 a2=>q2 H2 (a1.trans a2)⟩
 | true=>exact q1 H1 a1
theorem CS{X c a t}(h:SW X c a t):ST X c a t:=PW.pt h
theorem CT{X c a pos t}(ha:ST X c a t):ST X c (.UnaryOp .Not a pos) (gI t):=PT.weak (Ll ha) λσ H Q ⟨δ,k,q⟩=>by
 unfold gI at q;rw[bA] at q;exact⟨δ,k,q⟩
def kT(f g:DE):DE:=λδ=>(f δ).bind λr δ1=>match r with
 | .pure (.bl true)=>g δ1
 | .pure (.bl false)=>.ok (.pure (.bl false)) δ1
 | _=>.stuck
def uy(f:DE):DE:=λδ=>(f δ).bind λr δ1=>match r with
 | .pure (.bl b)=>.ok (.pure (.bl (!b))) δ1
 | _=>.stuck
def N1(t:DT)(f g:DE):DE:=λδ=>(t δ).bind λb δ1=>if b then f δ1 else g δ1
variable {g:DE}
theorem xG{X c a f pos}{op}(h:SE X c a f):SE X c (.BoolOp op [a] pos) f:=Lo h
theorem xH{X c a b f pos rest g}(ha:SE X c a f)(hb:SE X c (.BoolOp .And (b :: rest) pos) g):SE X c (.BoolOp .And (a :: b :: rest) pos) (kT f g):=PE.weak (Lp ha hb) λσ H Q ⟨δ,k,q⟩=>by
 unfold kT at q;rw[bA] at q;refine⟨δ,k,aX q λr δ1 q1 v H1 a1 r1=>?_⟩
 cases r with
 | own d=>exact q1.elim
 | pure d =>
  cases d <;> first | exact q1.elim | skip
  rename_i b
  cases r1;refine⟨b,rfl,?_⟩
  cases b with
  | true=>exact⟨δ1,a1.ok,aX q1 λy δ2 q2 v H2 a2 r2=>q2 v H2 (a1.trans a2) (bD.back r2 a1)⟩
  | false=>exact q1 _ H1 a1 (.bl false)
theorem N2{X c a f pos}(ha:SE X c a f):SE X c (.UnaryOp .Not a pos) (uy f):=PE.weak (Lq ha) λσ H Q ⟨δ,k,q⟩=>by
 unfold uy at q;rw[bA] at q;refine⟨δ,k,aX q λr δ1 q1 v H1 a1 r1=>?_⟩
 cases r with
 | own d=>exact q1.elim
 | pure d =>
  cases d <;> first | exact q1.elim | skip
  rename_i b
  cases r1;exact⟨b,rfl,q1 _ H1 a1 (.bl _)⟩
end
section
variable {x:V}
theorem cX.int{i}(h:cX c σ δ H x (.int i)):x = .int i:=by
 rcases h with h | ⟨_,_,h⟩
 ·cases h; rfl
 ·exact h.elim
theorem cX.bl(h:cX c σ δ H x (.bl b)):x = .bl b:=by
 rcases h with h | ⟨_,_,h⟩
 ·cases h; rfl
 ·exact h.elim
theorem cX.str(h:cX c σ δ H x (.str z)):x = .str (toS z):=by
 rcases h with h | ⟨_,_,h⟩
 ·cases h; rfl
 ·exact h.elim
theorem cX.tup{c σ δ H x ds}(h:cX c σ δ H x (.tup ds)):∃ a vs,x = .ref a/\H a=some (.tup vs)/\aK H (Av c σ δ) vs ds:=by
 rcases h with h | ⟨_,_,h⟩
 ·cases h with
  | tup h1 h2 h3 h4=>exact⟨_,_,rfl,h2,h3,h4⟩
 ·exact h.elim
theorem cX.lst{c σ δ H x ds}(h:cX c σ δ H x (.lst ds)):∃ a vs,x = .ref a/\Rd H a (.lst vs)/\aK H (Av c σ δ) vs ds:=by
 rcases h with h | ⟨a,e,h⟩
 ·cases h with
  | lst h1 h2 h3 h4=>exact⟨_,_,rfl,h2,h3,h4⟩
 ·obtain⟨vs,h1,h2⟩:=h;exact⟨a,vs,e,.inl h1,h2⟩
theorem cX.ay(h:cX c σ δ H x (.ay ds)):∃ a ws,x = .ref a/\H a=some (.dK ws)/\ws.map (·.1)=ds.map (λp=>dw p.1)/\∀ (i:Nat) p q,ws[i]? = some p->ds[i]? = some q->Rep H (Av c σ δ) p.2 q.2:=by
 rcases h with h | ⟨a,e,h⟩
 ·cases h with
  | ay h1 h2 h3 h4=>exact⟨_,_,rfl,h2,h3,h4⟩
 ·obtain⟨ws,h1,h2,h3⟩:=h;exact⟨a,ws,e,h1,h2,h3⟩
end
theorem CU(h:z.length<=Wa):(toS z).length<=Wa:=%[j7|h]
theorem N3(x y):toS x ++ toS y=toS (x ++ y):=by
 show Str.append (toS x) (toS y)=_;simp[toS,Str.append]
noncomputable def bt:D->D->Option S
 | .int i,.int j=>some (.pure (.int (i + j)))
 | .str x,.str y=>if x.length + y.length<=Wa then some (.pure (.str (x ++ y))) else none
 | .tup xs,.tup ys=>if xs.length + ys.length<=Wa then some (.pure (.tup (xs ++ ys))) else none
 | .lst xs,.lst ys=>if xs.length + ys.length<=Wa then some (.own (.lst (xs ++ ys))) else none
 | _,_=>none
def CV(K:W5):R2:=λx y H Q=>jE (λi j=>V.int (i + j)) x y H Q\/(∃ i j,x = .str i/\y = .str j/\i.length + j.length<=Wa/\Q (.str (i ++ j)) H) \/
 (∃ a b ys,x = .ref a/\y = .ref b/\di K H a []/\di K H b ys/\Q (.ref b) H)\/BZ K x y H Q\/CI K x y H Q
theorem uz:cj X (QL .Add) (CV X.K):=LS.or (L6.or (NL.or (Mp.or NM)))
theorem uA:dF (CV K) bt:=by
 intro c σ δ H x y d e s Q k rx ry hp q
 cases d <;> cases e <;> first
  | (simp[bt] at hp; done)
  | skip
 ·rename_i i j;simp only[bt,We] at hp;subst hp;exact .inl ⟨i,j,rx.int,ry.int,q _ H (.refl k) (.int _)⟩
 ·rename_i u w;simp only[bt] at hp;split at hp
  ·rename_i hz;simp only[We] at hp;subst hp;refine .inr (.inl ⟨toS u,toS w,rx.str,ry.str,%[j7,j7|hz],?_⟩);rw[N3];exact q _ H (.refl k) (.str _)
  ·cases hp
 ·rename_i us ws;simp only[bt] at hp;split at hp
  ·rename_i hz;simp only[We] at hp;subst hp;obtain⟨a,vs,ea,ha,ra⟩:=rx.tup;obtain⟨b,zs,eb,hb,rb⟩:=ry.tup
   cases vs with
   | nil =>
    have:us=[]:=by have:=ra.1; simpa using this.symm
    subst this;refine .inr (.inr (.inl ⟨a,b,zs,ea,eb,.of ha,.of hb,?_⟩));rw[eb] at ry;rcases ry with ry | ⟨_,_,ry⟩
    ·exact q _ H (.refl k) ry
    ·exact ry.elim
   | cons v0 vr =>
    refine .inr (.inr (.inr (.inl ⟨a,b,_,zs,ea,eb,.of ha,.of hb,Z5,%[ra.1,rb.1|hz],λe0=>?_,λ_ p hp=>?_⟩)))
    ·subst e0;have:ws=[]:=by have:=rb.1; simpa using this.symm
     subst this;rw[ea] at rx;rcases rx with rx | ⟨_,_,rx⟩
     ·rw[Ql] at q;exact q _ H (.refl k) rx
     ·exact rx.elim
    ·exact q _ _ (.alloc k hp _) (bD.oR k (ra.append rb) hp)
  ·cases hp
 ·rename_i us ws;simp only[bt] at hp;split at hp
  ·rename_i hz;simp only[We] at hp;subst hp;obtain⟨a,vs,ea,ha,ra⟩:=rx.lst;obtain⟨b,zs,eb,hb,rb⟩:=ry.lst;exact .inr (.inr (.inr (.inr ⟨a,b,vs,zs,ea,eb,.inl ha,.inl hb,%[ra.1,rb.1|hz],λp hp=>q _ _ (.alloc k hp _) (bD.oQ k (ra.append rb) hp)⟩)))
  ·cases hp
noncomputable def fF(C:Int->Int->Bool)(g:Int->Int->D):D->D->Option S
 | .int i,.int j=>if C i j then some (.pure (g i j)) else none
 | _,_=>none
theorem uB{C g'}(hC:∀ i j,C' i j=true->C i j)(hg:∀ i j H O,Rep H O (g i j) (g' i j)):dF (rI C g) (fF C' g'):=by
 intro c σ δ H x y d e s Q k rx ry hp q
 cases d <;> cases e <;> first
  | (simp[fF] at hp; done)
  | skip
 rename_i i j;simp only[fF] at hp;split at hp
 ·rename_i hc;simp only[We] at hp;subst hp;exact⟨i,j,rx.int,ry.int,hC i j hc,q _ H (.refl k) (hg i j H _)⟩
 ·cases hp
theorem N4{g'}(hg:∀ i j H O,Rep H O (g i j) (g' i j)):dF (jE g) (fF (λ_ _=>true) g'):=by
 intro c σ δ H x y d e s Q k rx ry hp q
 cases d <;> cases e <;> first
  | (simp[fF] at hp; done)
  | skip
 rename_i i j;simp only[fF,if_true,We] at hp;subst hp;exact⟨i,j,rx.int,ry.int,q _ H (.refl k) (hg i j H _)⟩
def qR:=fF (λ_ _=>true) λi j=>.int (i - j)
theorem N5:dF (jE λi j=>V.int (i - j)) qR:=N4 λ_ _ _ _=>.int _
def jd(i j:Int):Bool:=(decide (-(2 ^ 64) < i) && decide (i < 2 ^ 64)) || (decide (-(2 ^ 64) < j) && decide (j < 2 ^ 64))
def oW:=fF jd λi j=>.int (i * j)
theorem N6:dF (rI qz λi j=>V.int (i * j)) oW:=uB (λi j h=>by
 unfold jd at h;simp only[Bool.or_eq_true,WE,decide_eq_true_eq] at h;exact h) λ_ _ _ _=>.int _
def qS(_ j:Int):Bool:=decide (0 < j) && decide (j < 1073741824)
def oX:=fF qS λi j=>.int (i / j)
theorem N7:dF (rI Bx λi j=>V.int (i / j)) oX:=uB (λi j h=>by
 unfold qS at h;simp only[WE,decide_eq_true_eq] at h;exact h) λ_ _ _ _=>.int _
def fW:=fF (λ_ j=>decide (0 < j)) λi j=>.int (i % j)
theorem CW:dF (rI (λ_ j=>0 < j) λi j=>V.int (i % j)) fW:=uB (λi j h=> ~~~h) λ_ _ _ _=>.int _
def xI(i j:Int):Bool:=decide (0<=j) && decide (j<=1000000) && decide (i.natAbs < 2 ^ 64)
def uC:=fF xI λi j=>.int (i ^ j.toNat)
theorem N8:dF (rI By λi j=>V.int (i ^ j.toNat)) uC:=uB (λi j h=>by
 unfold xI at h;simp only[WE,decide_eq_true_eq] at h;exact⟨h.1.1,h.1.2,h.2⟩) λ_ _ _ _=>.int _
noncomputable def cK(f:Int->Int->Bool)(g:Tx->Tx->Bool):D->D->Option S
 | .int i,.int j=>some (.pure (.bl (f i j)))
 | .str x,.str y=>some (.pure (.bl (g x y)))
 | _,_=>none
def ny(f:Int->Int->Bool)(g:List Nat->List Nat->Bool):R2:=λx y H Q=>jE (λi j=>V.bl (f i j)) x y H Q\/∃ i j,x = .str i/\y = .str j/\Q (.bl (g i.cps.toList j.cps.toList)) H
theorem gJ{f}:dF (ny f g) (cK f g):=by
 intro c σ δ H x y d e s Q k rx ry hp q
 cases d <;> cases e <;> first
  | (simp[cK] at hp; done)
  | skip
 ·rename_i i j;simp only[cK,We] at hp;subst hp;exact .inl ⟨i,j,rx.int,ry.int,q _ H (.refl k) (.bl _)⟩
 ·rename_i i j;simp only[cK,We] at hp;subst hp;refine .inr ⟨toS i,toS j,rx.str,ry.str,?_⟩;rw[oO,oO];exact q _ H (.refl k) (.bl _)
theorem uD{g:List Nat->List Nat->Bool}(rule:∀ (i j:Str) t u (Q:Value->W4->Prop) s,Q (.bool (g i.cps.toList j.cps.toList)) s->W8 (model X.prog X.w) X.A (Q7 op (.str i t) (.str j u)) Q X.xe s) :
  cj X (Q7 op) (λx y H Q=>∃ i j,x = .str i/\y = .str j/\Q (.bl (g i.cps.toList j.cps.toList)) H):=by
 intro pins s σ H x y v u Q I rx ry h;obtain⟨i,j,rfl,rfl,q⟩:=h;obtain⟨t,rfl⟩:=rx;obtain⟨t',rfl⟩:=ry;exact rule i j t t' _ s ⟨.bl _,H,I,rfl,q⟩
def gL:=cK (λi j=>decide (i < j)) λx y=>decide (x < y)
theorem qT:cj X (Q7 .Lt) (ny (λi j=>decide (i < j)) λx y=>decide (x < y)):=LY.or L3
theorem qU:dF (ny (λi j=>decide (i < j)) λx y=>decide (x < y)) gL:=gJ
noncomputable def aw:D->D->Option S
 | .lst ds,.int i=>(dE ds i).map .pure
 | .tup ds,.int i=>(dE ds i).map .pure
 | .str x,.int i=>if x.length<=Wa then(dE x i).map λn=>.pure (.str [n]) else none
 | _,_=>none
theorem CY{i}(r:aK H O vs ds)(h:dE ds i=some d):∃ v,dE vs i=some v/\Rep H O v d:=by
 unfold dE at h ⊢;rw[r.1]
 cases e:fD ds.length i with
 | none=>rw[e] at h; cases h
 | some j =>
  rw[e] at h;exact r.get h
theorem lX:dF (oK K) aw:=by
 intro c σ δ H x y d e s Q k rx ry hp q
 cases d <;> cases e <;> first
  | (simp[aw] at hp; done)
  | skip
 ·rename_i z i;simp only[aw] at hp;split at hp
  ·rename_i hz
   cases e1:dE z i with
   | none=>rw[e1] at hp; cases hp
   | some n =>
    rw[e1] at hp;simp only[WI,We] at hp;subst hp;refine .inr (.inr ⟨toS z,i,n,rx.str,ry.int,CU hz,%[oO|e1],?_⟩);exact q (.str (toS [n])) H (.refl k) (.str [n])
  ·cases hp
 ·rename_i ds i;simp only[aw] at hp
  cases e1:dE ds i with
  | none=>rw[e1] at hp; cases hp
  | some n =>
   rw[e1] at hp;simp only[WI,We] at hp;subst hp;obtain⟨a,vs,ea,ha,ra⟩:=rx.tup;obtain⟨v,e2,r2⟩:=CY ra e1;exact .inr (.inl ⟨a,vs,i,v,ea,ry.int,.of ha,e2,q v H (.refl k) r2⟩)
 ·rename_i ds i;simp only[aw] at hp
  cases e1:dE ds i with
  | none=>rw[e1] at hp; cases hp
  | some n =>
   rw[e1] at hp;simp only[WI,We] at hp;subst hp;obtain⟨a,vs,ea,ha,ra⟩:=rx.lst;obtain⟨v,e2,r2⟩:=CY ra e1;exact .inl ⟨a,vs,i,v,ea,ry.int,.inl ha,e2,q v H (.refl k) r2⟩
def iO:=cK (λi j=>decide (j < i)) λx y=>decide (y < x)
def xJ:=cK (λi j=>decide (j<=i)) λx y=>!decide (x < y)
theorem uE:cj X (Q7 .Gt) (ny (λi j=>decide (j < i)) λx y=>decide (y < x)):=LZ.or (uD (g:=λx y=>decide (y < x)) λ_ _ _ _ _ _ h=>PySem.P.gt_str h)
theorem N9:cj X (Q7 .GtE) (ny (λi j=>decide (j<=i)) λx y=>!decide (x < y)):=L0.or (uD (g:=λx y=>!decide (x < y)) λ_ _ _ _ _ _ h=>PySem.P.ge_str h)
abbrev DA:=Dl->Rs (List D)
def N_(c:Fc)(f:DA):TA:=λσ H Q=>∃ δ,Ok c σ δ H/\post c (f δ) λds δ'=>∀ vs H',aS c σ δ H σ δ' H'->aK H' (Av c σ δ') vs ds->Q vs H'
structure SA(X:Cx)(c:Fc)(es:List Expr)(f:DA):Prop where
 pa:PA X es (N_ c f)
 len:∀ δ ds δ',f δ = .ok ds δ'->ds.length=es.length
theorem PA.weak{t'}(h:PA X es t)(w:∀ σ H Q,t' σ H Q->t σ H Q):PA X es t':=λpos pins s σ H Q I q=>h pos pins s σ H Q I (w σ H Q q)
def aJ:DA:=λδ=>.ok [] δ
def ax(f:DE)(g:DA):DA:=λδ=>(f δ).bind λx δ1=>(g δ1).bind λxs δ2=>.ok (x.d :: xs) δ2
section
variable {f:DE}{g:DA}
theorem lY{X c}:SA X c [] aJ:=⟨PA.weak g8 λσ H Q ⟨δ,k,q⟩=>q [] H (.refl k) .nil,λδ ds δ' h=>by cases h; rfl⟩
theorem CZ(ha:SE X c e f)(hr:SA X c es g)(hs:Wd (e :: es) X.env=(false,eval e X.env) :: Wd es X.env:=by rfl):SA X c (e :: es) (ax f g):=by
 refine⟨PA.weak (fc ha hr.pa hs) λσ H Q ⟨δ,k,q⟩=>?_,λδ ds δ' h=>?_⟩
 ·unfold ax at q;rw[bA] at q;refine⟨δ,k,aX q λx δ1 q1 v H1 a1 r1=>⟨δ1,a1.ok,?_⟩⟩;rw[bA] at q1;exact aX q1 λxs δ2 q2 vs H2 a2 r2=>q2 (v :: vs) H2 (a1.trans a2) (.cons (Rep.d_ r1.rep a2) r2)
 ·unfold ax at h
  cases h1:f δ with
  | ok x δ1 =>
   rw[h1] at h
   cases h2:g δ1 with
   | ok xs δ2 =>
    simp only[Rs.bind,h2] at h
    cases h;simp[hr.len _ _ _ h2]
   | exc x δx=>simp only[Rs.bind,h2] at h; cases h
   | stuck=>simp only[Rs.bind,h2] at h; cases h
  | exc x δx=>rw[h1] at h; cases h
  | stuck=>rw[h1] at h; cases h
def ba(f:DA):DE:=λδ=>(f δ).bind λds δ'=>.ok (.pure (.tup ds)) δ'
def cG(f:DA):DE:=λδ=>(f δ).bind λds δ'=>.ok (.own (.lst ds)) δ'
theorem C0(h:n<=1000):n<=Wa:=U4 (M7 h)
theorem C3(h:post c r k):post c r λa δ=>r = .ok a δ/\k a δ:=by
 cases r with
 | ok a δ=>exact⟨rfl,h⟩
 | exc x δx=>exact h
 | stuck=>exact h
theorem oY{X c es g pos}{x1}(h:SA X c es g)(hz:es.length<=1000:=by decide):SE X c (.Tuple es x1 pos) (ba g):=PE.weak (Mb h.pa) λσ H Q ⟨δ,k,q⟩=>by
 unfold ba at q;rw[bA] at q;refine⟨δ,k,aX (C3 q) λds δ1 ⟨e1,q1⟩ vs H1 a1 r1=>?_⟩;have hl:=h.len _ _ _ e1;exact⟨%[r1.1,hl|C0 hz],λp hp=>q1 _ _ (a1.trans (.alloc a1.ok hp _)) (bD.back (bD.oR a1.ok r1 hp) a1)⟩
theorem uF{X c es g pos}(h:SA X c es g)(hz:es.length<=1000:=by decide):SE X c (.List es pos) (cG g):=PE.weak (BH h.pa) λσ H Q ⟨δ,k,q⟩=>by
 unfold cG at q;rw[bA] at q;refine⟨δ,k,aX (C3 q) λds δ1 ⟨e1,q1⟩ vs H1 a1 r1=>?_⟩;have hl:=h.len _ _ _ e1;exact⟨%[r1.1,hl|C0 hz],λp hp=>q1 _ _ (a1.trans (.alloc a1.ok hp _)) (bD.back (bD.oQ a1.ok r1 hp) a1)⟩
end
noncomputable def p1(p:D->Option S)(x:D)(δ:Dl):Rs S:=match p x with
 | some s=>.ok s δ
 | none=>.stuck
def aA(p:D->Option S)(fb:BE):DE:=λδ=>(fb δ).bind λx δ1=>p1 p x δ1
def j9(r:V->Hp->VK->Prop)(p:D->Option S):Prop:=∀ (c:Fc) (σ:St) (δ:Dl) (H:Hp) (x:V) (d:D) (s:S) (Q:VK),Ok c σ δ H->cX c σ δ H x d->p d=some s ->
 (∀ v H',aS c σ δ H σ δ H'->bD c σ δ H H' v s->Q v H')->r x H Q
section
variable {r:V->Hp->VK->Prop}{p:D->Option S}{id T:String}
theorem xK{Q}(hp:j9 r p)(k:Ok c σ δ H)(rx:cX c σ δ H v d)
  (h:post c (p1 p d δ) λs δ'=>∀ v H',aS c σ δ H σ δ' H'->bD c σ δ' H H' v s->Q v H'):r v H Q:=by
 unfold p1 at h
 cases e1:p d with
 | none=>rw[e1] at h; exact h.elim
 | some s=>rw[e1] at h; exact hp c σ δ H v d s Q k rx e1 h
theorem xM{Q}(hp:j9 r p)(h:tD c (aA p fb) σ H Q):LR r (UF c fb) σ H Q:=by
 obtain⟨δ,k,q⟩:=h;unfold aA at q;rw[bA] at q;exact⟨δ,k,aX q λy δ1 q1 v H1 a1 r1=>xK hp a1.ok r1 (aX q1 λs δ2 q2 w H2 a2 r2=>q2 w H2 (a1.trans a2) (bD.back r2 a1))⟩
theorem oZ(hc:eO X (.builtin id) rl)(hl:∀ v H Q,r v H Q->rl [v] H Q)(hp:j9 r p)(hg:Gl X x)(hm:X.mg x=none)(hv:QK x=some (.builtin id))(he:SB X c e fb)
  (hn:x≠"__name__":=by decide) (gi:(x == ("__debug__" : Str))=false:=by decide) (hs:Wd [e] X.env=(false,eval e X.env) :: Wd [] X.env:=by rfl) (cB:(Qv pos (Wd [] X.env)).any (·.1)=false:=by rfl) :
  SE X c (.Call (.Name x pp) [e] [] pos) (aA p fb):=PE.weak (wM hc hg hm hv (fc he g8 hs) hn gi hs cB) λσ H Q h=>by
 obtain⟨δ,k,q⟩:=xM hp h;exact⟨δ,k,aX q λy δ1 q1 v H1 a1 r1=>hl _ _ _ (q1 v H1 a1 r1)⟩
theorem uG(hc:eO X (.type T) rl)(hl:∀ v H Q,r v H Q->rl [v] H Q)(hp:j9 r p)(hg:Gl X x)(hm:X.mg x=none)(hv:QK x=some (.type T))(he:SB X c e fb)
  (hn:x≠"__name__":=by decide) (gi:(x == ("__debug__" : Str))=false:=by decide) (hs:Wd [e] X.env=(false,eval e X.env) :: Wd [] X.env:=by rfl) (cB:(Qv pos (Wd [] X.env)).any (·.1)=false:=by rfl) :
  SE X c (.Call (.Name x pp) [e] [] pos) (aA p fb):=PE.weak (Md hc hg hm hv (fc he g8 hs) hn gi hs cB) λσ H Q h=>by
 obtain⟨δ,k,q⟩:=xM hp h;exact⟨δ,k,aX q λy δ1 q1 v H1 a1 r1=>hl _ _ _ (q1 v H1 a1 r1)⟩
noncomputable def bw:D->Option S
 | .lst ds=>some (.pure (.int ds.length))
 | .tup ds=>some (.pure (.int ds.length))
 | .str z=>if z.length<=Wa then some (.pure (.int z.length)) else none
 | .ay ds=>some (.pure (.int ds.length))
 | _=>none
def Oa(K:W5):V->Hp->VK->Prop:=λv H Q=>((∃ p ys,v = .ref p/\(cP K H p ys\/di K H p ys)/\Q (.int ys.length) H)\/∃ z,v = .str z/\z.length<=Wa/\Q (.int z.length) H)\/∃ a aj,v=V.ref a/\H a=some (.dK aj)/\Q (.int aj.length) H
theorem Ob:j9 (Oa K) bw:=by
 intro c σ δ H x d s Q k rx hp q
 cases d with
 | lst ds =>
  simp only[bw,We] at hp;subst hp;obtain⟨a,vs,ea,ha,ra⟩:=rx.lst;exact .inl (.inl ⟨a,vs,ea,.inl (.inl ha),%[ra.1|q _ H (.refl k) (.int _)]⟩)
 | tup ds =>
  simp only[bw,We] at hp;subst hp;obtain⟨a,vs,ea,ha,ra⟩:=rx.tup;exact .inl (.inl ⟨a,vs,ea,.inr (.of ha),%[ra.1|q _ H (.refl k) (.int _)]⟩)
 | str z =>
  simp only[bw] at hp;split at hp
  ·rename_i hz;simp only[We] at hp;subst hp;exact .inl (.inr ⟨toS z,rx.str,CU hz,%[j7|q _ H (.refl k) (.int _)]⟩)
  ·cases hp
 | ay ds =>
  simp only[bw,We] at hp;subst hp;obtain⟨a,ws,ea,ha,h1,h2⟩:=rx.ay;have hl:ws.length=ds.length:=by have:=congrArg Qp h1; simpa using this
  exact .inr ⟨a,ws,ea,ha,%[hl|q _ H (.refl k) (.int _)]⟩
 | _=>simp[bw] at hp
theorem qV{X c e fb pp pos} (hg:Gl X "len") (hm:X.mg "len" = none) (he:SB X c e fb) (hs:Wd [e] X.env=(false,eval e X.env) :: Wd [] X.env:=by rfl):SE X c (.Call (.Name "len" pp) [e] [] pos) (aA bw fb) :=
 oZ ((MC.or MD).or M8) (λv H Q h=>by
  rcases h with (⟨p,ys,e,h⟩ | ⟨z,e,h⟩) | ⟨a,aj,e,h⟩
  ·exact .inl (.inl ⟨p,ys,by rw[e],h⟩)
  ·exact .inl (.inr ⟨z,by rw[e],h⟩)
  ·exact .inr ⟨a,aj,by rw[e],h⟩) (Ob (K:=X.K)) hg hm PySem.boot_len he Z' Z' hs
noncomputable def bT:D->Option S
 | .lst ds=>some (.pure (.tup ds))
 | .tup ds=>some (.pure (.tup ds))
 | _=>none
def Oc(K:W5):V->Hp->VK->Prop:=λv H Q=>∃ p ys,v = .ref p/\((cP K H p ys/\∀ l,H l=none->Q (.ref l) (upd H l (.tup ys)))\/(di K H p ys/\Q (.ref p) H))
theorem Od:j9 (Oc K) bT:=by
 intro c σ δ H x d s Q k rx hp q
 cases d with
 | lst ds =>
  simp only[bT,We] at hp;subst hp;obtain⟨a,vs,ea,ha,ra⟩:=rx.lst;exact⟨a,vs,ea,.inl ⟨.inl ha,λl hl=>q _ _ (.alloc k hl _) (bD.oR k ra hl)⟩⟩
 | tup ds =>
  simp only[bT,We] at hp;subst hp;obtain⟨a,vs,ea,ha,ra⟩:=rx.tup;refine⟨a,vs,ea,.inr ⟨.of ha,?_⟩⟩;rw[ea] at rx;rcases rx with rx | ⟨_,_,rx⟩
  ·exact q _ H (.refl k) rx
  ·exact rx.elim
 | _=>simp[bT] at hp
theorem qW{X c e fb pp pos} (hg:Gl X "tuple") (hm:X.mg "tuple" = none) (he:SB X c e fb) (hs:Wd [e] X.env=(false,eval e X.env) :: Wd [] X.env:=by rfl):SE X c (.Call (.Name "tuple" pp) [e] [] pos) (aA bT fb) :=
 uG ME (λv H Q ⟨p,ys,e,h⟩=>⟨p,ys,by rw[e],h⟩) (Od (K:=X.K)) hg hm PyProof.Rows.boot_tuple he Z' Z' hs
noncomputable def nA:D->Option S
 | .int i=>some (.pure (.int i))
 | .bl b=>some (.pure (.int (if b then 1 else 0)))
 | _=>none
theorem Oe{X c e fb pp pos} (hg:Gl X "int") (hm:X.mg "int" = none) (he:SB X c e fb) (hs:Wd [e] X.env=(false,eval e X.env) :: Wd [] X.env:=by rfl):SE X c (.Call (.Name "int" pp) [e] [] pos) (aA nA fb) :=
 uG (r:=λv H Q=>(∃ i,v = .int i/\Q (.int i) H)\/∃ k,v = .bl k/\Q (.int (if k then 1 else 0)) H) L8 (λv H Q h=>by
  rcases h with ⟨i,e,q⟩ | ⟨k,e,q⟩
  ·exact .inl ⟨i,by rw[e],q⟩
  ·exact .inr ⟨k,by rw[e],q⟩) (λc σ δ H x d s Q k rx hp q=>by
  cases d with
  | int i =>
   simp only[nA,We] at hp;subst hp;exact .inl ⟨i,rx.int,q _ H (.refl k) (.int _)⟩
  | bl b =>
   simp only[nA,We] at hp;subst hp;exact .inr ⟨b,rx.bl,q _ H (.refl k) (.int _)⟩
  | _=>simp[nA] at hp) hg hm PyProof.Rows.boot_int he Z' Z' hs
noncomputable def gM:List D->Option (List Bool)
 | []=>some []
 | .bl b :: r=>(gM r).map (b :: ·)
 | _ :: _=>none
noncomputable def gr:List D->Option (List Tx)
 | []=>some []
 | .str x :: r=>(gr r).map (x :: ·)
 | _ :: _=>none
theorem xN:∀ {ds:List D} {vs:List V} {bs:List Bool},gM ds=some bs->aK H O vs ds->vs=bs.map V.bl
 | [],vs,bs,h,r=>by
  simp only[gM,We] at h;subst h;have:=r.1;simpa using this
 | d :: ds,[],bs,h,r=>by have:=r.1; simp at this
 | d :: ds,v :: vs,bs,h,r=>by
  cases d with
  | bl b =>
   simp only[gM] at h
   cases e:gM ds with
   | none=>rw[e] at h; cases h
   | some bH =>
    rw[e] at h;simp only[WI,We] at h;subst h;have:=r.head
    cases this;rw[xN e r.tail];rfl
  | _=>simp[gM] at h
theorem o_:∀ {ds:List D} {vs:List V} {bs:List Tx},gr ds=some bs->aK H O vs ds->vs=bs.map λz=>V.str (toS z)
 | [],vs,bs,h,r=>by
  simp only[gr,We] at h;subst h;have:=r.1;simpa using this
 | d :: ds,[],bs,h,r=>by have:=r.1; simp at this
 | d :: ds,v :: vs,bs,h,r=>by
  cases d with
  | str b =>
   simp only[gr] at h
   cases e:gr ds with
   | none=>rw[e] at h; cases h
   | some bH =>
    rw[e] at h;simp only[WI,We] at h;subst h;have:=r.head
    cases this;rw[o_ e r.tail];rfl
  | _=>simp[gr] at h
theorem C4:∀ ts:List Tx,aK H O (ts.map λz=>V.str (toS z)) (ts.map D.str)
 | []=>.nil
 | t :: ts=>.cons (.str t) (C4 ts)
noncomputable def pb:D->Option S
 | .lst ds=>(gM ds).map λbs=>.pure (.bl (bs.all (λb=>b)))
 | _=>none
noncomputable def kU:D->Option S
 | .lst ds=>(gM ds).map λbs=>.pure (.bl (bs.any (λb=>b)))
 | _=>none
noncomputable def nC:D->Option S
 | .lst ds=>match gr ds with
  | some ts=>if ts.length < 64 then some (.own (.lst ((iN ts).map D.str))) else none
  | none=>none
 | _=>none
theorem Of:QK "all" = some (.builtin "all"):=by decide +kernel
theorem Og:QK "any" = some (.builtin "any"):=by decide +kernel
theorem Oh (hc:X.calm=true) (hg:Gl X "all") (hm:X.mg "all" = none) (he:SB X c e fb) (hs:Wd [e] X.env=(false,eval e X.env) :: Wd [] X.env:=by rfl):SE X c (.Call (.Name "all" pp) [e] [] pos) (aA pb fb) :=
 oZ (r:=λv H Q=>∃ (a:Addr) (bs:List Bool),v = .ref a/\cP X.K H a (bs.map V.bl)/\Q (.bl (bs.all (λb=>b))) H) (NP hc) (λv H Q ⟨a,bs,e,h⟩=>⟨a,bs,by rw[e],h⟩) (λc σ δ H x d s Q k rx hp q=>by
  cases d with
  | lst ds =>
   simp only[pb] at hp
   cases e:gM ds with
   | none=>rw[e] at hp; cases hp
   | some bs =>
    rw[e] at hp;simp only[WI,We] at hp;subst hp;obtain⟨a,vs,ea,ha,ra⟩:=rx.lst;have:=xN e ra;subst this;exact⟨a,bs,ea,.inl ha,q _ H (.refl k) (.bl _)⟩
  | _=>simp[pb] at hp) hg hm Of he Z' Z' hs
theorem Oi{X c e fb pp pos} (hc:X.calm=true) (hg:Gl X "any") (hm:X.mg "any" = none) (he:SB X c e fb) (hs:Wd [e] X.env=(false,eval e X.env) :: Wd [] X.env:=by rfl):SE X c (.Call (.Name "any" pp) [e] [] pos) (aA kU fb) :=
 oZ (r:=λv H Q=>∃ (a:Addr) (bs:List Bool),v = .ref a/\cP X.K H a (bs.map V.bl)/\Q (.bl (bs.any (λb=>b))) H) (NQ hc) (λv H Q ⟨a,bs,e,h⟩=>⟨a,bs,by rw[e],h⟩) (λc σ δ H x d s Q k rx hp q=>by
  cases d with
  | lst ds =>
   simp only[kU] at hp
   cases e:gM ds with
   | none=>rw[e] at hp; cases hp
   | some bs =>
    rw[e] at hp;simp only[WI,We] at hp;subst hp;obtain⟨a,vs,ea,ha,ra⟩:=rx.lst;have:=xN e ra;subst this;exact⟨a,bs,ea,.inl ha,q _ H (.refl k) (.bl _)⟩
  | _=>simp[kU] at hp) hg hm Og he Z' Z' hs
theorem Oj{X c e fb pp pos} (hg:Gl X "sorted") (hm:X.mg "sorted" = none) (he:SB X c e fb) (hs:Wd [e] X.env=(false,eval e X.env) :: Wd [] X.env:=by rfl):SE X c (.Call (.Name "sorted" pp) [e] [] pos) (aA nC fb) :=
 oZ (r:=λv H Q=>∃ (a:Addr) (ts:List Tx),v = .ref a/\cP X.K H a (ts.map λz=>V.str (toS z))/\ts.length < 64/\∀ p,H p=none->Q (.ref p) (upd H p (.lst ((iN ts).map λz=>V.str (toS z))))) NV (λv H Q ⟨a,bs,e,h⟩=>⟨a,bs,by rw[e],h⟩) (λc σ δ H x d s Q k rx hp q=>by
  cases d with
  | lst ds =>
   simp only[nC] at hp
   cases e:gr ds with
   | none=>rw[e] at hp; cases hp
   | some ts =>
    rw[e] at hp;simp only at hp;split at hp
    ·rename_i hz;simp only[We] at hp;subst hp;obtain⟨a,vs,ea,ha,ra⟩:=rx.lst;have:=o_ e ra;subst this;exact⟨a,ts,ea,.inl ha,hz,λp hp=>q _ _ (.alloc k hp _) (bD.oQ k (C4 _) hp)⟩
    ·cases hp
  | _=>simp[nC] at hp) hg hm PyProof.Rows.boot_sorted he Z' Z' hs
noncomputable def xO:D->D->Option S
 | .int i,.int j=>some (.pure (.int (if j > i then j else i)))
 | _,_=>none
def qX(f g:DE):DE:=λδ=>(f δ).bind λx δ1=>(g δ1).bind λy δ2=>p2 xO x.d y.d δ2
theorem Ol{X c pp pos a b f g} (hc:X.calm=true) (hg:Gl X "max") (hm:X.mg "max" = none) (ha:SE X c a f) (hb:SE X c b g) (hs:Wd [a,b] X.env=(false,eval a X.env) :: Wd [b] X.env:=by rfl)
  (lZ:Wd [b] X.env=(false,eval b X.env) :: Wd [] X.env:=by rfl) (cB:(Qv pos (Wd [b] X.env)).any (·.1)=false:=by rfl):SE X c (.Call (.Name "max" pp) [a,b] [] pos) (qX f g) :=
 PE.weak (wM (L7 hc) hg hm PyProof.Rows.boot_max (fc ha (fc hb g8 lZ) hs) Z' Z' hs cB) λσ H Q ⟨δ,k,q⟩=>by
  unfold qX at q;rw[bA] at q;refine⟨δ,k,aX q λx δ1 q1 v H1 a1 r1=>⟨δ1,a1.ok,?_⟩⟩;rw[bA] at q1;refine aX q1 λy δ2 q2 u H2 a2 r2=>?_
  unfold p2 at q2;have hx:cX c σ δ2 H2 v x.d:=.inl (Rep.d_ r1.rep a2);have hy:=r2.b;generalize x.d=dx at q2 hx;generalize y.d=dy at q2 hy
  cases dx <;> cases dy <;> first
   | exact q2.elim
   | skip
  rename_i i j;exact⟨i,j,by rw[hx.int,hy.int],q2 _ H2 (a1.trans a2) (.int _)⟩
noncomputable def kW(T:String):D->Option Bool
 | .bp=>some (T == "NoneType")
 | .bl _=>some (T == "bool" || T == "int")
 | .int _=>some (T == "int")
 | .str _=>some (T == "str")
 | .tup _=>some (T == "tuple")
 | .lst _=>some (T == "list")
 | .ay _=>some (T == "dict")
 | .exc _ _=>none
 | .xd _=>none
 | .fn _=>none
 | .dic _=>none
structure jH(K:W5)(T:String):Prop where
 bp:Jd K (.type "NoneType") (.type T)=some (T == "NoneType")
 bl:Jd K (.type "bool") (.type T)=some (T == "bool" || T == "int")
 int:Jd K (.type "int") (.type T)=some (T == "int")
 str:Jd K (.type "str") (.type T)=some (T == "str")
 tup:Jd K (.type "tuple") (.type T)=some (T == "tuple")
 lst:Jd K (.type "list") (.type T)=some (T == "list")
 ay:Jd K (.type "dict") (.type T)=some (T == "dict")
def g_(T:String)(fb:BE):DE:=λδ=>(fb δ).bind λd δ'=>match kW T d with
 | some b=>.ok (.pure (.bl b)) δ'
 | none=>.stuck
theorem Om{Q}(ty:jH X.K T)(I:Inv X pins σ H s)(ru:RelV v u)(r:Rep H qO v d)(e:kW T d=some b)(q:Q (.bl b) H) :
  W8 (model X.prog X.w) X.A (call (.builtin "isinstance") [u,.type T]) (EP X pins σ Q) X.xe s:=by
 have fin:∀ tk,EP X pins σ Q (.bool b) { s with toks:=tk }:=λtk=>⟨.bl b,H,I.tok tk,rfl,q⟩
 cases r with
 | bp=>exact lP I ru .bp (ty.bp.trans e) fin
 | bl x=>exact lP I ru (.bl x) (ty.bl.trans e) fin
 | int x=>exact lP I ru (.int x) (ty.int.trans e) fin
 | str x=>exact lP I ru (.str _) (ty.str.trans e) fin
 | tup _ h2 _ _=>exact lP I ru (.tup h2) (ty.tup.trans e) fin
 | lst _ h2 _ _ =>
  rcases h2 with h2 | ⟨o,h2⟩
  ·exact lP I ru (.lst h2) (ty.lst.trans e) fin
  ·exact lP I ru (.frz h2) (ty.lst.trans e) fin
 | ay _ h2 _ _=>exact lP I ru (.dK h2) (ty.ay.trans e) fin
 | exc _ _=>cases e
 | xd _ _=>cases e
 | fn _=>cases e
 | dic _=>cases e
theorem Oo (ty:jH X.K T):eO X (.builtin "isinstance") (λxs H Q=>∃ v d b,xs=[v,.ty T]/\Rep H qO v d/\kW T d=some b/\Q (.bl b) H):=by
 intro pins s σ H xs us Q I r h;obtain⟨v,d,b,rfl,rp,e,q⟩:=h;obtain⟨u,w',rfl,r1,r2⟩:=BF r
 cases r2;exact Om ty I r1 rp e q
theorem pf{X c e fb T pp pos y py} (ty:jH X.K T) (hg:Gl X "isinstance") (hm:X.mg "isinstance" = none) (Oq:Gl X y) (Ot:X.mg y=none) (Ou:QK y=some (.type T)) (he:SB X c e fb)
  (Ov:y≠"__name__":=by decide) (Ow:(y == ("__debug__" : Str))=false:=by decide)
  (hs:Wd [e,.Name y py] X.env=(false,eval e X.env) :: Wd [.Name y py] X.env:=by rfl) (cB:(Qv pos (Wd [.Name y py] X.env)).any (·.1)=false:=by rfl) :
  SE X c (.Call (.Name "isinstance" pp) [e,.Name y py] [] pos) (g_ T fb) :=
 PE.weak (wM (Oo ty) hg hm PyProof.Rows.boot_isinstance (fc he (fc (Lb (v:=.ty T) Oq Ot Ou rfl Ov Ow) g8) hs) Z' Z' hs cB) λσ H Q ⟨δ,k,q⟩=>by
  unfold g_ at q;rw[bA] at q;refine⟨δ,k,aX q λd δ1 q1 v H1 a1 r1=>?_⟩
  cases e1:kW T d with
  | none=>rw[e1] at q1; exact q1.elim
  | some b =>
   rw[e1] at q1;exact⟨v,d,b,rfl,r1.un,e1,q1 _ H1 a1 (.bl _)⟩
end
abbrev l0:=Dl->Rs (Option Int)
def Ox(c:Fc)(f:l0):TO:=λσ H Q=>∃ δ,Ok c σ δ H/\post c (f δ) λo δ'=>∀ H',aS c σ δ H σ δ' H'->Q o H'
abbrev SO(X:Cx)(c:Fc)(e:Option Expr)(f:l0):Prop:=PO X e (Ox c f)
theorem PO.weak{e t'}(h:PO X e t)(w:∀ σ H Q,t' σ H Q->t σ H Q):PO X e t':=λpins s σ H Q I q=>h pins s σ H Q I (w σ H Q q)
def l5:l0:=λδ=>.ok none δ
def eX(f:DE):l0:=λδ=>(f δ).bind λr δ'=>match r with
 | .pure (.int i)=>.ok (some i) δ'
 | _=>.stuck
section
variable {f:DE}{fl fh:l0}{lo hi:Option Expr}{p2:Pos}
theorem Oy{X c}:SO X c none l5:=PO.weak Ml λσ H Q ⟨δ,k,q⟩=>q H (.refl k)
theorem xP{X c e f}(h:SE X c e f):SO X c (some e) (eX f):=PO.weak (Mm h) λσ H Q ⟨δ,k,q⟩=>by
 unfold eX at q;rw[bA] at q;refine⟨δ,k,aX q λr δ1 q1 v H1 a1 r1=>?_⟩
 cases r with
 | own d=>exact q1.elim
 | pure d =>
  cases d <;> first | exact q1.elim | skip
  rename_i i
  cases r1;exact⟨i,rfl,q1 H1 a1⟩
noncomputable def eY(lo hi:Option Int):D->Option S
 | .str x=>if x.length<=Wa then some (.pure (.str (cC x lo hi))) else none
 | .tup ds=>some (.pure (.tup (cC ds lo hi)))
 | .lst ds=>some (.own (.lst (cC ds lo hi)))
 | _=>none
def C5(K:W5):V->Option Int->Option Int->Hp->VK->Prop:=λx lo hi H Q=>CF x lo hi H Q\/CB K x lo hi H Q\/B5 K x lo hi H Q
theorem C6:j3 X (C5 X.K):=xt.or (NH.or Mz)
theorem C7(lo hi):j9 (λx H Q=>C5 K x lo hi H Q) (eY lo hi):=by
 intro c σ δ H x d s Q k rx hp q
 cases d with
 | str z =>
  simp only[eY] at hp;split at hp
  ·rename_i hz;simp only[We] at hp;subst hp;exact .inl ⟨z,rx.str,hz,q _ H (.refl k) (.str _)⟩
  ·cases hp
 | tup ds =>
  simp only[eY,We] at hp;subst hp;obtain⟨a,vs,ea,ha,ra⟩:=rx.tup;refine .inr (.inl ⟨a,vs,ea,.of ha,λhw=>?_,λ_ p hp=>?_⟩)
  ·rw[ra.1] at hw;rw[NF hw] at q;rw[ea] at rx;rcases rx with rx | ⟨_,_,rx⟩
   ·exact q _ H (.refl k) rx
   ·exact rx.elim
  ·rw[<- CA];exact q _ _ (.alloc k hp _) (bD.oR k (ra.cut lo hi) hp)
 | lst ds =>
  simp only[eY,We] at hp;subst hp;obtain⟨a,vs,ea,ha,ra⟩:=rx.lst;refine .inr (.inr ⟨a,vs,ea,.inl ha,λp hp=>?_⟩);rw[<- CA];exact q _ _ (.alloc k hp _) (bD.oQ k (ra.cut lo hi) hp)
 | _=>simp[eY] at hp
def ph(f:DE)(fl fh:l0):DE:=λδ=>(f δ).bind λx δ1=>(fl δ1).bind λl δ2=>(fh δ2).bind λh δ3=>p1 (eY l h) x.d δ3
theorem Oz{X c e f fl fh lo hi pos p2}(he:SE X c e f)(hl:SO X c lo fl)(hh:SO X c hi fh):SE X c (.Subscript e (.Slice lo hi none p2) pos) (ph f fl fh):=PE.weak (BX C6 he hl hh) λσ H Q ⟨δ,k,q⟩=>by
 unfold ph at q;rw[bA] at q;refine⟨δ,k,aX q λx δ1 q1 v H1 a1 r1=>⟨δ1,a1.ok,?_⟩⟩;rw[bA] at q1;refine aX q1 λl δ2 q2 H2 a2=>⟨δ2,a2.ok,?_⟩
 rw[bA] at q2;refine aX q2 λh δ3 q3 H3 a3=>?_
 exact xK (C7 l h) a3.ok (.inl (Rep.d_ r1.rep (a2.trans a3))) (aX q3 λs δ4 q4 w H4 a4 r4=>q4 w H4 (a1.trans (a2.trans (a3.trans a4))) (bD.back r4 (a1.trans (a2.trans a3))))
def hJ(i:Nat)(fl fh:l0):DE:=λδ=>match δ[i]? with
 | some (some _)=>(fl δ).bind λl δ2=>(fh δ2).bind λh δ3=>(ag i δ3).bind λx δ4=>p1 (eY l h) x δ4
 | _=>.stuck
theorem OA{v}{w:S}(k:Ok c σ δ H)(e:δ[i]? = some (some w))(ev:σ[i]? = some (some v)):cX c σ δ H v w.d:=by
 cases w with
 | pure d =>
  obtain⟨v',e1,r⟩:=k.slot i d e;rw[ev] at e1; cases e1
  exact .inl r
 | own d =>
  obtain⟨a,e1,r,_⟩:=k.own i d e;rw[ev] at e1; cases e1
  exact .inr ⟨a,rfl,r⟩
theorem OB(h:post c ((ag i δ).bind g) kk):∃ w,δ[i]? = some (some w)/\post c (g w.d δ) kk:=by
 unfold ag at h
 cases e:δ[i]? with
 | none=>rw[e] at h; exact h.elim
 | some o =>
  cases o with
  | none=>rw[e] at h; exact h.elim
  | some w=>rw[e] at h; exact⟨w,rfl,h⟩
theorem C8{X c e fl fh lo hi pos p2 i}(he:PE X e (dD i))(hl:SO X c lo fl)(hh:SO X c hi fh):SE X c (.Subscript e (.Slice lo hi none p2) pos) (hJ i fl fh):=PE.weak (BX C6 he hl hh) λσ H Q ⟨δ,k,q⟩=>by
 unfold hJ at q
 cases e:δ[i]? with
 | none=>rw[e] at q; exact q.elim
 | some o =>
  cases o with
  | none=>rw[e] at q; exact q.elim
  | some w =>
   rw[e] at q;obtain⟨v,ev⟩:=xE k e;have q':post c ((fl δ).bind λl δ2=>(fh δ2).bind λh δ3=>(ag i δ3).bind λx δ4=>p1 (eY l h) x δ4) λr δ'=>∀ v H',aS c σ δ H σ δ' H'->bD c σ δ' H H' v r->Q v H':=q
   rw[bA] at q';refine⟨v,ev,δ,k,aX q' λl δ2 q2 H2 a2=>⟨δ2,a2.ok,?_⟩⟩;rw[bA] at q2;refine aX q2 λh δ3 q3 H3 a3=>?_
   obtain⟨w3,e3,q4⟩:=OB q3;exact xK (C7 l h) a3.ok (OA a3.ok e3 ev) (aX q4 λs δ4 q4 w H4 a4 r4=>q4 w H4 (a2.trans (a3.trans a4)) (bD.back r4 (a2.trans a3)))
def jI(z:Tx):List Tx->Tx
 | []=>[]
 | [x]=>x
 | x :: y :: r=>x ++ z ++ jI z (y :: r)
theorem C9(z):∀ (r:List Tx) (acc:Tx),((r.map toS).foldl (λ(acc:Array Nat) p=>acc ++ (toS z).cps ++ p.cps) acc.toArray)=(match r with | []=>acc | x :: r'=>acc ++ z ++ jI z (x :: r')).toArray
 | [],acc=>rfl
 | x :: r,acc=>by
  rw[Wf,Jj];have e:acc.toArray ++ (toS z).cps ++ (toS x).cps=(acc ++ z ++ x).toArray:=#v[toS]
  rw[e,C9 z r (acc ++ z ++ x)]
  cases r with
  | nil=>simp[jI]
  | cons y r'=>simp[jI]
theorem OC(z)(ts:List Tx):Txt.join (toS z) (ts.map toS)=toS (jI z ts):=by
 show Builtin.Str.glued _ _=_;unfold Builtin.Str.glued
 cases ts with
 | nil=>rfl
 | cons x r =>
  rw[Wf];show(⟨(List.foldl _ (toS x).cps (r.map toS))⟩:Str)=_;have:=C9 z r x;have e:(toS x).cps=x.toArray:=rfl;rw[e,this]
  cases r with
  | nil=>rfl
  | cons y r'=>rfl
def iq(ts:List Tx):Nat:=(ts.map (·.length)).sum
noncomputable def cx(z:Tx):D->Option S
 | .lst ds=>match gr ds with
  | some ts=>if iq ts + ts.length * z.length<=16777216 then some (.pure (.str (jI z ts))) else none
  | none=>none
 | .tup ds=>match gr ds with
  | some ts=>if iq ts + ts.length * z.length<=16777216 then some (.pure (.str (jI z ts))) else none
  | none=>none
 | _=>none
theorem OD(z):j9 (λx H Q=>ur K (.str (toS z)) [x] H Q) (cx z):=by
 intro c σ δ H x d s Q k rx hp q;have key:∀ (a:Addr) (vs:List V) (ds:List D),x = .ref a->(cP K H a vs\/di K H a vs)->aK H (Av c σ δ) vs ds->(match gr ds with | some ts=>if iq ts + ts.length * z.length<=16777216 then some (S.pure (.str (jI z ts))) else none | none=>none)=some s->ur K (.str (toS z)) [x] H Q:=by
  intro a vs ds ea ha ra hp
  cases e:gr ds with
  | none=>rw[e] at hp; cases hp
  | some ts =>
   rw[e] at hp;simp only at hp;split at hp
   ·rename_i hz;simp only[We] at hp;subst hp;have:=o_ e ra;subst this;refine⟨toS z,a,ts.map toS,rfl,by rw[ea],?_,?_,?_⟩
    ·rw[Ww]; exact ha
    ·rw[Ww,Wn,j7];have:((λx:Str=>x.length) ∘ toS)=λx:Tx=>x.length:=funext λx=>j7 x
     rw[this];exact hz
    ·rw[OC];exact q _ H (.refl k) (.str _)
   ·cases hp
 cases d with
 | lst ds =>
  obtain⟨a,vs,ea,ha,ra⟩:=rx.lst;exact key a vs ds ea (.inl (.inl ha)) ra hp
 | tup ds =>
  obtain⟨a,vs,ea,ha,ra⟩:=rx.tup;exact key a vs ds ea (.inr (.of ha)) ra hp
 | _=>simp[cx] at hp
theorem C_{X c e fb x j}{p0 apos bI:Pos}(z)(he:SB X c e fb)(hx:x=toS z:=by decide +kernel)
  (m4:J9 (.Constant (.str x) j p0) "join" X.env (eval (.Constant (.str x) j p0) X.env)=eval (.Constant (.str x) j p0) X.env:=by rfl)
  (m5:((Qv bI (Wd [e] X.env)).all (λx=>!x.1) && (backToKw bI (Uk [] X.env)).all (λx=>x.1.isSome)
   && decide ([e].length + ([]:List Keyword).length + (if ([]:List Keyword).isEmpty then 0 else 1) < 30))=true:=by rfl)
  (ik:(apos.endLine == bI.line)=true:=by rfl) (hs:Wd [e] X.env=(false,eval e X.env) :: Wd [] X.env:=by rfl) :
  SE X c (.Call (.Attribute (.Constant (.str x) j p0) "join" apos) [e] [] bI) (aA (cx z) fb):=by
 subst hx;refine PE.weak (t5 PySem.F.plainAttrs_str PySem.F.slot_str_join PySem.F.type_str_join NO Be (fc he g8 hs) m4 m5 ik hs rfl) λσ H Q h=>?_
 obtain⟨δ,k,q⟩:=xM (r:=λx H Q=>ur X.K (.str (toS z)) [x] H Q) (OD z) h;refine⟨?_,δ,k,q⟩;show("str" : String) = "str";rfl
end
inductive Fl where
 | next | ret (r:S) | brk | cont
abbrev DS:=Dl->Rs Fl
variable {iB:Addr->(D->Option D)->DS}
def fin(c:Fc)(D:Ends)(σ:St)(δ:Dl)(H:Hp):Fl->Prop
 | .next=>D.nx σ H
 | .ret r=>∀ v,bD c σ δ c.H₀ H v r->D.rt v H
 | .brk=>D.bk σ H
 | .cont=>D.ct σ H
def eC(c:Fc)(D:Ends)(σ:St)(δ:Dl)(H:Hp)(r:Rs Fl):Prop:=post c r λfl δ'=>∀ σ' H',aS c σ δ H σ' δ' H'->fin c D σ' δ' H' fl
def nD(c:Fc)(f:DS):TS:=λD σ H=>∃ δ,Ok c σ δ H/\eC c D σ δ H (f δ)
abbrev SS(X:Cx)(c:Fc)(st:Stmt)(f:DS):Prop:=PS X st (nD c f)
abbrev eM(X:Cx)(c:Fc)(st:List Stmt)(f:DS):Prop:=dR X st (nD c f)
theorem PS.weak{st t t'}(h:PS X st t)(w:∀ D σ H,t' D σ H->t D σ H):PS X st t':=λpins s σ H D I q=>h pins s σ H D I (w D σ H q)
theorem dR.weak{st t t'}(h:dR X st t)(w:∀ D σ H,t' D σ H->t D σ H):dR X st t':=λpins s σ H D I q=>h pins s σ H D I (w D σ H q)
def cR:DS:=λδ=>.ok .next δ
def aq(f g:DS):DS:=λδ=>(f δ).bind λfl δ1=>match fl with
 | .next=>g δ1
 | .ret r=>.ok (.ret r) δ1
 | .brk=>.ok .brk δ1
 | .cont=>.ok .cont δ1
def kX(f:DE):DS:=λδ=>(f δ).bind λ_ δ1=>.ok .next δ1
def bU(f:DE):DS:=λδ=>(f δ).bind λr δ1=>.ok (.ret r) δ1
def cN(t:DT)(f g:DS):DS:=λδ=>(t δ).bind λb δ1=>if b then f δ1 else g δ1
def nE:DS:=λ_=>.stuck
def Zt(np:List Nat)(i:Nat):DE:=λδ=>match δ[i]? with
 | some (some (.own d))=>if np.contains i then .ok (.pure d) (δ.set i (some (.pure d))) else .ok (.own d) (δ.set i none)
 | some (some (.pure d))=>.ok (.pure d) δ
 | _=>.stuck
section
variable {st:Stmt}{a:Expr}{f g:DS}{t:DT}
theorem qY:eM X c [] cR:=dR.weak Lv λD σ H ⟨δ,k,q⟩=>q σ H (.refl k)
theorem eh{X c st tK f g}(h1:SS X c st f)(h2:eM X c tK g):eM X c (st :: tK) (aq f g):=dR.weak (Lw h1 h2) λD σ H ⟨δ,k,q⟩=>by
 unfold aq eC at q;rw[bA] at q;refine⟨δ,k,aX q λfl δ1 q1 σ1 H1 a1=>?_⟩
 cases fl with
 | next=>exact⟨δ1,a1.ok,aX q1 λZu δ2 q2 σ2 H2 a2=>q2 σ2 H2 (a1.trans a2)⟩
 | ret r=>exact q1 σ1 H1 a1
 | brk=>exact q1 σ1 H1 a1
 | cont=>exact q1 σ1 H1 a1
theorem gN{X c st f}(h1:SS X c st f):eM X c [st] f:=dR.weak (Bi h1) λD σ H h=>h
theorem OE{X c st}:SS X c st nE:=PS.weak LA λD σ H ⟨δ,k,q⟩=>q
theorem OF:eM X c tK nE:=dR.weak LB λD σ H ⟨δ,k,q⟩=>q
theorem kY{X c e fe pos}(he:SE X c e fe):SS X c (.Return (some e) pos) (bU fe):=PS.weak (Bj he) λD σ H ⟨δ,k,q⟩=>by
 unfold bU eC at q;rw[bA] at q;exact⟨δ,k,aX q λr δ1 q1 v H1 a1 r1=>q1 σ H1 a1 v r1.NA⟩
theorem qZ{X c e f g t pos b1 b2}(ht:ST X c e t)(h1:eM X c b1 f)(h2:eM X c b2 g):SS X c (.If e b1 b2 pos) (cN t f g):=PS.weak (Lz ht h1 h2) λD σ H ⟨δ,k,q⟩=>by
 unfold cN eC at q;rw[bA] at q;refine⟨δ,k,aX q λb δ1 q1 H1 a1=>?_⟩
 cases b with
 | true=>exact⟨δ1,a1.ok,aX q1 λfl δ2 q2 σ2 H2 a2=>q2 σ2 H2 (a1.trans a2)⟩
 | false=>exact⟨δ1,a1.ok,aX q1 λfl δ2 q2 σ2 H2 a2=>q2 σ2 H2 (a1.trans a2)⟩
theorem Own.q_(h:Own (σ.set i (some v)) (δ.set i (some r)) b):Own σ δ b\/(v = .ref b/\∃ d,r = .own d):=by
 obtain⟨j,d,e1,e2⟩:=h;by_cases hj:i=j
 ·subst hj;right
  rw[Q0] at e1 e2;simp at e1 e2;obtain⟨_,h1⟩:=e1;obtain⟨_,h2⟩:=e2;exact⟨h2,d,h1⟩
 ·rw[W9 hj] at e1 e2;exact .inl ⟨j,d,e1,e2⟩
theorem Ok.set(x:aS c σ₀ δ₀ H₁ σ δ H)(hr:bD c σ δ H₁ H v r)(hp:∀ p ∈ c.pin,p.1≠i):aS c σ₀ δ₀ H₁ (σ.set i (some v)) (δ.set i (some r)) H:=by
 have k:=x.ok;-- all slots avoid the new address,too
 have all:∃ c':Fc,c'.H₀=c.H₀/\c'.pin=c.pin/\Ok c' σ δ H/\(∀ b,Av c (σ.set i (some v)) (δ.set i (some r)) b->Av c' σ δ b):=by
  cases r with
  | pure d =>
   refine⟨c,rfl,rfl,k,λb z=>?_⟩;rcases z with z | z
   ·exact .inl z
   ·rcases z.q_ with z | ⟨_,d',e⟩
    ·exact .inr z
    ·cases e
  | own d =>
   obtain⟨a,ea,o,n,f,k2,_⟩:=hr;refine⟨c.plus a,rfl,rfl,k2,λb z=>?_⟩;rcases z with z | z
   ·exact .inl (.inl z)
   ·rcases z.q_ with z | ⟨e,_⟩
    ·exact .inr z
    ·rw[ea] at e; cases e
     exact .inl (.inr rfl)
 obtain⟨c',eH,eP,k2,sub⟩:=all;have eI:∀ a,c'.I a ↔ c.I a:=λa=>by unfold Fc.I; rw[eP]
 have OG:Rep H (Av c (σ.set i (some v)) (δ.set i (some r))) v r.d\/∃ d,r = .own d:=by
  cases r with
  | pure d =>
   left
   refine Rep.aM hr λb z=>?_
   rcases z with z | z
   ·exact .inl (.inl z)
   ·rcases z.q_ with z | ⟨_,d',e⟩
    ·exact .inl (.inr z)
    ·cases e
  | own d=>exact .inr ⟨d,rfl⟩
 refine⟨⟨k.keep,k.bd,k.dZ,%[Qe,Qe|k.len],λj d e=>?_,λj d e=>?_,λj l a d d' e1 e2 e3 e4=>?_,λp hm=>?_⟩,x.keep,λb z=>?_,x.there⟩
 ·by_cases hj:i=j
  ·subst hj;rw[Q0] at e;simp at e;obtain⟨hi,rfl⟩:=e;have gG:i < σ.length:=by rw[<- k.len]; exact hi
   rcases OG with h | ⟨_,h⟩
   ·exact⟨v,by rw[Wr gG],h⟩
   ·cases h
  ·rw[W9 hj] at e;obtain⟨w,e1,q⟩:=k2.slot j d e;exact⟨w,%[W9 hj|e1],q.aM λb z=>.inl (sub b z)⟩
 ·by_cases hj:i=j
  ·subst hj;rw[Q0] at e;simp at e;obtain⟨hi,rfl⟩:=e;have gG:i < σ.length:=by rw[<- k.len]; exact hi
   obtain⟨a,ea,o,n,f,k3,_⟩:=hr;refine⟨a,by rw[Wr gG,ea],o.aM λb z=>.inl ?_,.inr f,n⟩;rcases z with z | z
   ·exact .inl (.inl z)
   ·rcases z.q_ with z | ⟨e,_⟩
    ·exact .inr z
    ·rw[ea] at e; cases e
     exact .inl (.inr rfl)
  ·rw[W9 hj] at e;obtain⟨a,e1,q,q2,q3⟩:=k.own j d e;obtain⟨a',e1',q',_,_⟩:=k2.own j d e;rw[e1] at e1'; cases e1'
   exact⟨a,%[W9 hj|e1],q'.aM λb z=>.inl (sub b z),q2,q3⟩
 ·by_cases hj:i=j
  ·subst hj;by_cases hl:i=l
   ·exact hl
   ·rw[W9 hl] at e2 e4;rw[Q0] at e1 e3;simp at e1 e3;obtain⟨_,rfl⟩:=e1;obtain⟨_,rfl⟩:=e3;obtain⟨a',ea,o,n,f,k3,_⟩:=hr
    cases ea;exact absurd ⟨l,d',e2,e4⟩ (oP k3)
  ·rw[W9 hj] at e1 e3;by_cases hl:i=l
   ·subst hl;rw[Q0] at e2 e4;simp at e2 e4;obtain⟨_,rfl⟩:=e2;obtain⟨_,rfl⟩:=e4;obtain⟨a',ea,o,n,f,k3,_⟩:=hr
    cases ea;exact absurd ⟨j,d,e1,e3⟩ (oP k3)
   ·rw[W9 hl] at e2 e4;exact k.inj j l a d d' e1 e2 e3 e4
 ·rw[W9 (Ne.symm (hp p hm))];exact k.pinned p hm
 ·rcases z.q_ with z | ⟨e,d,ed⟩
  ·exact x.own b z
  ·subst ed;obtain⟨a,ea,_,_,_,_,hs⟩:=hr;grind
abbrev DG:=S->Dl->Option Dl
def xQ(c:Fc)(g:DG):TG:=λv σ H Q=>∃ σ₀ δ₀ H₁ δ r δ',aS c σ₀ δ₀ H₁ σ δ H/\bD c σ δ H₁ H v r/\g r δ=some δ'/\∀ σ',aS c σ₀ δ₀ H₁ σ' δ' H->Q σ' H
abbrev SG(X:Cx)(c:Fc)(tg:Expr)(g:DG):Prop:=PG X tg (xQ c g)
def ae(np:List Nat)(i:Nat):DG:=λr δ=>if np.contains i then none else some (δ.set i (some r))
def Np(c:Fc)(np:List Nat):Prop:=∀ p ∈ c.pin,np.contains p.1=true
theorem xR{Q}(hp:Np c np)(h:xQ c (ae np i) v σ H Q):oH i v σ H Q:=by
 obtain⟨σ₀,δ₀,H₁,δ,r,δ',x,rr,e,q⟩:=h;unfold ae at e;split at e
 ·cases e
 ·rename_i hn
  cases e;exact q _ (Ok.set x rr λp hm e=>hn (by rw[<- e]; exact hp p hm))
theorem PG.weak{t t'}(h:PG X tg t)(w:∀ v σ H Q,t' v σ H Q->t v σ H Q):PG X tg t':=λpins s σ H v u Q I r q=>h pins s σ H v u Q I r (w v σ H Q q)
theorem iK.weak{tg t t'}(h:iK X tg t)(w:∀ v σ H Q,t' v σ H Q->t v σ H Q):iK X tg t':=λpins s σ H v u Q I r q=>h pins s σ H v u Q I r (w v σ H Q q)
theorem jJ{X c pos np i x}(hp:Np c np)(hN:X.N.Nodup)(hi:X.N[i]? = some x)(hx:Loc X.env.scope x)(hf:X.fn x=true\/X.env.scope.names.lookup x=some .local):SG X c (.Name x pos) (ae np i) :=
 PG.weak (tL hN hi hx hf) λv σ H Q h=>xR hp h
abbrev je:=List D->Dl->Option Dl
def OH(c:Fc)(g:je):lN:=λvs σ H Q=>∃ δ ds δ',Ok c σ δ H/\aK H (Av c σ δ) vs ds/\g ds δ=some δ'/\∀ σ',aS c σ δ H σ' δ' H->Q σ' H
abbrev nF(X:Cx)(c:Fc)(tg:List Expr)(g:je):Prop:=iK X tg (OH c g)
def ck:je:=λds δ=>match ds with
 | []=>some δ
 | _=>none
def aW(g:DG)(gs:je):je:=λds δ=>match ds with
 | []=>none
 | d :: r=>(g (.pure d) δ).bind λδ1=>gs r δ1
theorem xS{X c}:nF X c [] ck:=iK.weak wo λvs σ H Q ⟨δ,ds,δ',k,r,e,q⟩=>by
 cases ds with
 | nil =>
  cases e;have:vs=[]:=by have:=r.1; simpa using this
  exact⟨this,q σ (.refl k)⟩
 | cons d r=>cases e
theorem nG{X c e es g gs}(h1:SG X c e g)(h2:nF X c es gs)(hs:(QC (e :: es) X.env).map (·.2)=assign e X.env :: (QC es X.env).map (·.2):=by rfl):nF X c (e :: es) (aW g gs) :=
 iK.weak (tM h1 h2 hs) λvs σ H Q ⟨δ,ds,δ',k,r,e,q⟩=>by
  cases ds with
  | nil=>cases e
  | cons d ds =>
   cases vs with
   | nil=>have:=r.1; simp at this
   | cons v vs =>
    simp only[aW] at e
    cases e1:g (.pure d) δ with
    | none=>rw[e1] at e; cases e
    | some δ1 =>
     rw[e1] at e;refine⟨v,vs,rfl,σ,δ,H,δ,.pure d,δ1,.refl k,r.head,e1,λσ1 a1=>?_⟩;exact⟨δ1,ds,δ',a1.ok,aK.d_ r.tail a1,e,λσ2 a2=>q σ2 (a1.trans a2)⟩
def bX(n:Nat)(gs:je):DG:=λr δ=>match r.d with
 | .tup ds=>if ds.length=n then gs ds δ else none
 | _=>none
theorem xT{X c pos es k gs n}(hc:X.calm=true)(h:nF X c es gs)(hn:(QC es X.env).length=n:=by rfl)(c9:(QC es X.env).findIdx? (·.1)=none:=by rfl) :
  SG X c (.Tuple es k pos) (bX n gs):=PG.weak (wq hc h hn c9) λv σ H Q hw=>by
 obtain⟨σ₀,δ₀,H₁,δ,r,δ',x,rr,e,q⟩:=hw;have hb:=rr.b;unfold bX at e;generalize r.d=d at e hb
 cases d <;> first | (cases e; done) | skip
 rename_i ds;simp only at e;split at e
 ·rename_i hl;obtain⟨a,vs,ea,ha,ra⟩:=hb.tup;exact⟨a,vs,ea,.of ha,%[ra.1|hl],δ,ds,δ',x.ok,ra,e,λσ' a1=>q σ' (x.trans a1)⟩
 ·cases e
def au(f:DE)(g:DG):DS:=λδ=>(f δ).bind λr δ1=>match g r δ1 with
 | some δ2=>.ok .next δ2
 | none=>.stuck
theorem xU{g D tg}(he:∀ σ H Q,tD c fe σ H Q->te σ H Q)(hg:∀ v σ H Q,xQ c g v σ H Q->tg v σ H Q)(h:nD c (au fe g) D σ H):tN te tg D σ H:=by
 obtain⟨δ,k,q⟩:=h;unfold au eC at q;rw[bA] at q;refine he _ _ _ ⟨δ,k,aX q λr δ1 q1 v H1 a1 r1=>hg _ _ _ _ ?_⟩
 cases e:g r δ1 with
 | none=>rw[e] at q1; exact q1.elim
 | some δ2 =>
  rw[e] at q1;exact⟨σ,δ,H,δ1,r,δ2,a1,r1,e,λσ' a2=>q1 σ' H1 a2⟩
theorem xV{X c e fe pos tg g}(he:SE X c e fe)(hg:SG X c tg g)(hs:swapsWithSole [tg] e pos.line X.env=pure false:=by rfl)(hw:swappedStores [tg] e X.env=pure none:=by rfl)
  (h1:(QC [tg] X.env).map (·.2)=[assign tg X.env]:=by rfl):SS X c (.Assign [tg] e pos) (au fe g):=PS.weak (Bp he hg hs hw h1) λD σ H h=>xU (λ_ _ _ h=>h) (λ_ _ _ _ h=>h) h
theorem hV{X c e fe pos pos' np i x}(hp:Np c np)(hN:X.N.Nodup)(hi:X.N[i]? = some x)(hx:Loc X.env.scope x)(he:SE X c e fe)(hs:J8 e (some (.Name x pos')) pos.line X.env=pure false)(hf:X.fn x=true\/X.env.scope.names.lookup x=some .local) :
  SS X c (.Assign [.Name x pos'] e pos) (au fe (ae np i)):=PS.weak (Bq hN hi hx he hs hf) λD σ H h=>xU (λ_ _ _ h=>h) (λ_ _ _ _ h=>xR hp h) h
theorem OI(he:SE X c e fe)(hs:∀ (x:Value),J8 e none pos.line X.env=pure false:=by intro _; rfl)(hd:True:=trivial)(h:PS X (.Expr e pos) (qu (tD c fe))):SS X c (.Expr e pos) (kX fe):=PS.weak h λD σ H ⟨δ,k,q⟩=>by
 unfold kX eC at q;rw[bA] at q;exact⟨δ,k,aX q λr δ1 q1 v H1 a1 r1=>q1 σ H1 a1⟩
theorem Ok.Dc{ds dY a iM}(k:Ok c σ δ H)(e:δ[i]? = some (some (.own (.lst ds))))(ea:σ[i]? = some (some (.ref a)))(r:aK H (Av c σ δ) iM dY) :
  aS c σ δ H σ (δ.set i (some (.own (.lst dY)))) (upd H a (.lst iM)):=by
 have hi:i < δ.length:=(W6.mp e).1;obtain⟨a',ea',oa,ia,nb⟩:=k.own i _ e;rw[ea] at ea'; cases ea'
 obtain⟨vs,ha,_⟩:=oa;have rg:Own σ δ a:=⟨i,_,e,ea⟩
 have rh:Av c σ δ a:=.inr rg;have l6:∀ b,Own σ (δ.set i (some (.own (.lst dY)))) b ↔ Own σ δ b:=λb=>by
  constructor
  ·rintro ⟨j,d,e1,e2⟩;by_cases hj:i=j
   ·subst hj;exact⟨i,_,e,e2⟩
   ·rw[W9 hj] at e1;exact⟨j,d,e1,e2⟩
  ·rintro ⟨j,d,e1,e2⟩;by_cases hj:i=j
   ·subst hj;exact⟨i,_,by rw[Wr hi],e2⟩
   ·exact⟨j,d,%[W9 hj|e1],e2⟩
 have jK:∀ b,Av c σ (δ.set i (some (.own (.lst dY)))) b->Av c σ δ b:=λb z=>z.elim .inl λz=>.inr ((l6 b).mp z)
 have ne:∀ b,¬ Av c σ δ b->b≠a:=λb n z=>n %[z|rh]
 have kp:∀ b o,H b=some o->¬ Av c σ δ b->upd H a (.lst iM) b=some o:=λb o h n=>%[aR (ne b n)|h]
 have ir:∀ b o,H b=some o->∃ o',upd H a (.lst iM) b=some o':=λb o h=>by
  by_cases hb:b=a
  ·exact⟨_,%[hb|cI]⟩
  ·exact⟨o,%[aR hb|h]⟩
 refine⟨⟨λb o h n=>?_,λb z=>?_,λb z=>?_,%[Qe|k.len],λj d h=>?_,λj d h=>?_,λj l b d d' h1 h2 h3 h4=>?_,k.pinned⟩,λb o h n=>?_,λb z=>.inl ((l6 b).mp z),ir⟩
 ·have hb:b≠a:=λz=>by grind
  rw[aR hb];exact k.keep b o h n
 ·obtain⟨o,h⟩:=k.bd b z;exact ir b o h
 ·obtain⟨o,h⟩:=k.dZ b z;exact ir b o h
 ·have hj:i≠j:=λz=>by subst z; rw[Wr hi] at h; cases h
  rw[W9 hj] at h;obtain⟨v,h1,h2⟩:=k.slot j d h;exact⟨v,h1,(h2.keep kp).aM λb z=>.inl (jK b z)⟩
 ·by_cases hj:i=j
  ·subst hj;rw[Wr hi] at h
   cases h;exact⟨a,ea,⟨iM,cI,aK.aM (aK.keep r kp) λb z=>.inl (jK b z)⟩,ia,nb⟩
  ·rw[W9 hj] at h;obtain⟨b,h1,h2,h3,h4⟩:=k.own j d h;have hb:b≠a:=λz=>by subst z; exact hj (k.inj i j b _ d e h ea h1)
   exact⟨b,h1,(h2.keep kp λo q=>%[aR hb|q]).aM λb z=>.inl (jK b z),h3,h4⟩
 ·have f1:∃ d,δ[j]? = some (some (.own d)):=by
   by_cases hj:i=j
   ·subst hj; exact⟨_,e⟩
   ·rw[W9 hj] at h1; exact⟨d,h1⟩
  have f2:∃ d,δ[l]? = some (some (.own d)):=by
   by_cases hj:i=l
   ·subst hj; exact⟨_,e⟩
   ·rw[W9 hj] at h2; exact⟨d',h2⟩
  obtain⟨_,f1⟩:=f1;obtain⟨_,f2⟩:=f2;exact k.inj j l b _ _ f1 f2 h3 h4
 grind[aR]
def fX(δ:Dl)(i:Nat):Bool:=match δ[i]? with
 | some (some (.own (.lst _)))=>true
 | _=>false
noncomputable def putL(δ:Dl)(i:Nat)(f:List D->Option (List D)):Rs Fl:=match δ[i]? with
 | some (some (.own (.lst ds)))=>match f ds with
  | some dY=>.ok .next (δ.set i (some (.own (.lst dY))))
  | none=>.stuck
 | _=>.stuck
theorem Dd(h:fX δ i=true):∃ ds,δ[i]? = some (some (.own (.lst ds))):=by
 unfold fX at h;split at h
 ·rename_i ds e; exact⟨ds,e⟩
 ·cases h
theorem De{g:List D->Option (List D)}{kk:Fl->Dl->Prop}(h:post c (putL δ i g) kk):∃ ds dY,δ[i]? = some (some (.own (.lst ds)))/\g ds=some dY/\kk .next (δ.set i (some (.own (.lst dY)))):=by
 unfold putL at h;split at h
 ·rename_i ds e;split at h
  ·rename_i dY e2;exact⟨ds,dY,e,e2,h⟩
  ·exact h.elim
 ·exact h.elim
def cb(i:Nat)(f:DE):DS:=λδ=>if fX δ i then(f δ).bind λr δ1=>putL δ1 i λds=>if ds.length < Wa then some (ds ++ [r.d]) else none else .stuck
theorem OJ{o}{p0:Pos}(ho:PE X o (dD i))(he:SE X c e fe)
  (h:PS X (.Expr (.Call (.Attribute o "append" apos) [e] [] bI) pos) (qu (t4 X.K "list" t7 (dD i) (qA (tD c fe) oJ)))):SS X c (.Expr (.Call (.Attribute o "append" apos) [e] [] bI) pos) (cb i fe) :=
 PS.weak h λD σ H ⟨δ,k,q⟩=>by
  unfold cb eC at q;split at q
  ·rename_i fj;obtain⟨ds0,e0⟩:=Dd fj;rw[bA] at q;obtain⟨a,ea,oa,_⟩:=k.own i _ e0;refine⟨.ref a,ea,?_,δ,k,aX q λr δ1 q1 v H1 a1 r1=>?_⟩
   ·obtain⟨vs,ha,_⟩:=oa;exact .inl ⟨rfl,vs,.of ha⟩
   ·obtain⟨ds,dY,e1,e2,q2⟩:=De q1;split at e2
    ·rename_i hz
     cases e2;obtain⟨a',ea',oa1,_⟩:=a1.ok.own i _ e1;rw[ea] at ea'; cases ea'
     obtain⟨vs,ha,ra⟩:=id oa1;refine⟨a,vs,v,rfl,rfl,ha,%[ra.1|hz],?_⟩;exact q2 σ _ (a1.trans (Ok.Dc a1.ok e1 ea (ra.append (.cons r1.rep .nil))))
    ·cases e2
  ·exact q.elim
def l7(i:Nat)(fi:DE)(fe:DE):DS:=λδ=>if fX δ i then(fe δ).bind λr δ1=>(fi δ1).bind λk δ2=>match k with
 | .pure (.int j)=>putL δ2 i λds=>(fD ds.length j).map λn=>ds.set n r.d
 | _=>.stuck else .stuck
theorem OK{X c e fe pos i o ix fi sp}(ho:PE X o (dD i))(hi:SE X c ix fi)(he:SE X c e fe)
  (ha:∀ v,assign (.Subscript o ix sp) X.env v=(do
   let ov <- holding [v] (eval o X.env)
   let iv <- holding [v,ov] (eval ix X.env)
   standAt sp
   holding [v,ov,iv] (setItem ov iv v)
   release [v,ov,iv] []):=by intro _; rfl)
  (hs:swapsWithSole [.Subscript o ix sp] e pos.line X.env=pure false:=by rfl) (hw:swappedStores [.Subscript o ix sp] e X.env=pure none:=by rfl)
  (h1:(QC [.Subscript o ix sp] X.env).map (·.2)=[assign (.Subscript o ix sp) X.env]:=by rfl):SS X c (.Assign [.Subscript o ix sp] e pos) (l7 i fi fe) :=
 PS.weak (Bp he (LD ho hi Mw ha) hs hw h1) λD σ H ⟨δ,k,q⟩=>by
  unfold l7 eC at q;split at q
  ·rename_i fj;obtain⟨ds0,e0⟩:=Dd fj;rw[bA] at q;obtain⟨a,ea,_,_⟩:=k.own i _ e0;refine⟨δ,k,aX q λr δ1 q1 v H1 a1 r1=>⟨.ref a,ea,δ1,a1.ok,?_⟩⟩;rw[bA] at q1;refine aX q1 λkx δ2 q2 u H2 a2 r2=>?_
   cases kx with
   | own d=>exact q2.elim
   | pure d =>
    cases d <;> first | exact q2.elim | skip
    rename_i j
    cases r2;obtain⟨ds,dY,e1,e2,q3⟩:=De q2
    cases e3:fD ds.length j with
    | none=>rw[e3] at e2; cases e2
    | some n =>
     rw[e3] at e2
     cases e2;obtain⟨a',ea',oa1,_⟩:=a2.ok.own i _ e1;rw[ea] at ea'; cases ea'
     obtain⟨vs,ha,ra⟩:=id oa1;refine⟨a,vs,j,n,rfl,rfl,ha,%[ra.1|e3],?_⟩;exact q3 σ _ (a1.trans (a2.trans (Ok.Dc a2.ok e1 ea (ra.set (Rep.d_ r1.rep a2) n))))
  ·exact q.elim
end
abbrev DI:=Dl->Rs (List D)
def l8(c:Fc)(σ:St)(δ:Dl)(H:Hp)(J:It)(ds:List D):Prop:=∀ H2,(∀ a o,H a=some o->¬ Own σ δ a->H2 a=some o)->J.stop ds.length H2 /\
 ∀ (i:Nat) d,ds[i]? = some d->J.go i H2/\∀ x H3,J.qv i H2 x H3->(H3=H2/\Rep H (Av c σ δ) x d) \/
  ∃ p vs es,H2 p=none/\H3=upd H2 p (.tup vs)/\x = .ref p/\d = .tup es/\aK H (Av c σ δ) vs es
def tI(c:Fc)(f:DI):TI:=λσ H R=>∃ δ,Ok c σ δ H/\post c (f δ) λds δ'=>∀ J H',aS c σ δ H σ δ' H'->l8 c σ δ' H' J ds->R J H'
abbrev SI(X:Cx)(c:Fc)(tg iter:Expr)(f:DI):Prop:=PI X tg iter (tI c f)
theorem PI.weak{t'}(h:PI X tg iter t)(w:∀ σ H R,t' σ H R->t σ H R):PI X tg iter t':=λpins s σ H R I q=>h pins s σ H R I (w σ H R q)
theorem Zv(K)(h:Rd H a (.lst vs))(n:¬ Own σ δ a)(r:aK H (Av c σ δ) vs ds)(hK:∀ H2 ws,Rd H2 a (.lst vs)->cP K H2 a ws->ws=vs):l8 c σ δ H (wt K a) ds:=by
 intro H2 kp;have h2:Rd H2 a (.lst vs):=Rd.keep h λo e=>kp a o e n
 refine⟨⟨vs,.inl h2,%[r.1|Wi _]⟩,λi d e=>?_⟩;obtain⟨v,ev,rv⟩:=r.get e;refine⟨⟨vs,v,.inl h2,ev⟩,λx H3 ⟨e3,y⟩=>.inl ⟨e3,?_⟩⟩;have:=y vs (.inl h2);grind
theorem OL(K)(h:H a=some (.tup vs))(n:¬ Own σ δ a)(r:aK H (Av c σ δ) vs ds):l8 c σ δ H (wu K a) ds:=by
 intro H2 kp;have h2:=kp a _ h n;refine⟨⟨vs,.of h2,%[r.1|Wi _]⟩,λi d e=>?_⟩;obtain⟨v,ev,rv⟩:=r.get e;refine⟨⟨vs,v,.of h2,ev⟩,λx H3 ⟨e3,y⟩=>.inl ⟨e3,?_⟩⟩;have:=y vs (.of h2);grind
def dA(lo:Int)(n:Nat):List D:=(WY n).map λk:Nat=>D.int (lo + k)
theorem OM{lo:Int}{d}(h:(dA lo n)[i]? = some d):i < n/\d = .int (lo + i):=by
 unfold dA at h;rw[Wj] at h;by_cases hi:i < n
 ·rw[List.getElem?_range hi] at h;simp at h;exact⟨hi,h.symm⟩
 ·rw[Qy (~~~hi)] at h
  cases h
theorem ON(lo:Int)(n:Nat):l8 c σ δ H (tP lo n) (dA lo n):=by
 intro H2 kp;refine⟨by show n<=(dA lo n).length; simp[dA],λi d e=>?_⟩;obtain⟨hi,rfl⟩:=OM e;exact⟨hi,λx H3 ⟨e3,ex⟩=>.inl ⟨e3,%[ex|.int _]⟩⟩
def pj(j:Int):Bool:=decide (-(2 ^ 62)<=j) && decide (j < 2 ^ 62)
def cY(f:DE):DI:=λδ=>(f δ).bind λr δ1=>match r with
 | .pure (.int j)=>if pj j then .ok (dA 0 j.toNat) δ1 else .stuck
 | _=>.stuck
theorem xW{X c tg e fe pos pp} (hg:Gl X "range") (hm:X.mg "range" = none) (he:SE X c e fe) (hs:Wd [e] X.env=[(false,eval e X.env)]:=by rfl):SI X c tg (.Call (.Name "range" pp) [e] [] pos) (cY fe) :=
 PI.weak (LM hg hm (fc he g8 hs) hs) λσ H R ⟨δ,k,q⟩=>by
  unfold cY at q;rw[bA] at q;refine⟨δ,k,aX q λr δ1 q1 v H1 a1 r1=>?_⟩
  cases r with
  | own d=>exact q1.elim
  | pure d =>
   cases d <;> first | exact q1.elim | skip
   rename_i j
   cases r1;simp only at q1;split at q1
   ·rename_i hj;unfold pj at hj;simp only[WE,decide_eq_true_eq] at hj;exact⟨j,rfl,hj.1,hj.2,q1 _ H1 a1 (ON 0 j.toNat)⟩
   ·exact q1.elim
noncomputable def forL(g:DG)(b:DS):List D->DS
 | [],δ=>.ok .next δ
 | d :: r,δ=>match g (.pure d) δ with
  | none=>.stuck
  | some δ1=>(b δ1).bind λfl δ2=>match fl with
   | .next=>forL g b r δ2
   | .cont=>forL g b r δ2
   | .brk=>.ok .next δ2
   | .ret v=>.ok (.ret v) δ2
def bG(it:DI)(g:DG)(b:DS):DS:=λδ=>(it δ).bind λds δ1=>forL g b ds δ1
theorem Df{x}(io:l8 c σ δ H J ds)(a:aS c σ δ H σ2 δ2 H2)(e:ds[i]? = some d)(y:J.qv i H2 x H3):aS c σ2 δ2 H2 σ2 δ2 H3/\Rep H3 (Av c σ2 δ2) x d:=by
 obtain⟨_,t⟩:=io H2 a.keep;rcases (t i d e).2 x H3 y with ⟨e3,r⟩ | ⟨p,vs,es,hp,e3,ex,ed,r⟩
 ·subst e3;exact⟨.refl a.ok,Rep.d_ r a⟩
 ·subst e3 ex ed;have:=bD.oR a.ok (aK.d_ r a) hp;exact⟨.alloc a.ok hp _,this⟩
theorem rj{X c tg pos iter body it g b}(hp:PassesOwn (model X.prog X.w) X.A X.env X.xe)(hc:X.calm=true)(hi:SI X c tg iter it)(hg:SG X c tg g)(hb:eM X c body b)
  (hs:∀ x,J5 iter X.env x=pure x:=by intro _; rfl):SS X c (.For tg iter body [] pos) (bG it g b):=PS.weak (Bu hp hc hi hg hb hs) λD σ H ⟨δ,k,q⟩=>by
 unfold bG eC at q;rw[bA] at q;refine⟨δ,k,aX q λds δ1 q1 J H1 a1 io=>?_⟩;refine⟨λi m σ2 H2=>∃ δ2,m=ds.length - i/\i<=ds.length/\aS c σ δ1 H1 σ2 δ2 H2/\eC c D σ2 δ2 H2 (forL g b (ds.drop i) δ2),⟨ds.length,δ1,Z5,Qq _,.refl a1.ok,?_⟩,?_⟩
 ·rw[List.drop_zero];exact aX q1 λfl δ2 q2 σ2 H2 a2=>q2 σ2 H2 (a1.trans a2)
 ·rintro i m σ2 H2 ⟨δ2,rfl,l9,a2,p2⟩;by_cases bu:i < ds.length
  ·right
   have e:ds[i]? = some ds[i]:=#v[bu]
   rw[QX bu] at p2;refine⟨((io H2 a2.keep).2 i _ e).1,λσ4 H4=>∃ δ4,aS c σ δ1 H1 σ4 δ4 H4/\eC c D σ4 δ4 H4 (forL g b (ds.drop (i + 1)) δ4),λσ4 H4 ⟨δ4,a4,p4⟩=>⟨ds.length - (i + 1),Y',δ4,rfl,bu,a4,p4⟩,λx H3 y=>?_⟩;obtain⟨a3,r3⟩:=Df io a2 e y;simp only[forL,eC] at p2
   cases eg:g (.pure ds[i]) δ2 with
   | none=>rw[eg] at p2; exact p2.elim
   | some δ3 =>
    rw[eg] at p2;refine⟨σ2,δ2,H3,δ2,.pure ds[i],δ3,.refl a3.ok,r3,eg,λσ3 a3'=>?_⟩;have p3:post c ((b δ3).bind λfl δ2=>match fl with
     | .next=>forL g b (ds.drop (i + 1)) δ2
     | .cont=>forL g b (ds.drop (i + 1)) δ2
     | .brk=>.ok .next δ2
     | .ret v=>.ok (.ret v) δ2) λfl δ'=>∀ σ' H',aS c σ2 δ2 H2 σ' δ' H'->fin c D σ' δ' H' fl:=p2
    rw[bA] at p3;have OO:aS c σ2 δ2 H2 σ3 δ3 H3:=a3.trans a3';refine⟨δ3,a3'.ok,aX p3 λfl δ4 p4 σ4 H4 a4=>?_⟩;have iP:=OO.trans a4
    cases fl with
    | next=>exact⟨δ4,a2.trans iP,aX p4 λfl δ5 p5 σ5 H5 a5=>p5 σ5 H5 (iP.trans a5)⟩
    | cont=>exact⟨δ4,a2.trans iP,aX p4 λfl δ5 p5 σ5 H5 a5=>p5 σ5 H5 (iP.trans a5)⟩
    | brk=>exact p4 σ4 H4 iP
    | ret r=>exact p4 σ4 H4 iP
  ·left
   have nH:i=ds.length:=by lia
   subst nH;rw[List.drop_length] at p2;exact⟨(io H2 a2.keep).1,p2 σ2 H2 (.refl a2.ok)⟩
def dB(t:DT)(b:DS):Nat->DS
 | 0,_=>.stuck
 | n + 1,δ=>(t δ).bind λx δ1=>if x then(b δ1).bind λfl δ2=>match fl with
   | .next=>dB t b n δ2
   | .cont=>dB t b n δ2
   | .brk=>.ok .next δ2
   | .ret v=>.ok (.ret v) δ2
  else .ok .next δ1
theorem Dg{X c pos e body t b}(n)(hw:∀ {tt:TT} {tb:TS},PT X e tt->dR X body tb->PS X (.While e body [] pos) (Br tt tb))(ht:ST X c e t)(hb:eM X c body b):SS X c (.While e body [] pos) (dB t b n) :=
 PS.weak (hw ht hb) λD σ H ⟨δ,k,q⟩=>by
  refine⟨λm σ2 H2=>∃ δ2,Ok c σ2 δ2 H2/\eC c D σ2 δ2 H2 (dB t b m δ2),⟨n,δ,k,q⟩,?_⟩;rintro m σ2 H2 ⟨δ2,k2,q2⟩
  cases m with
  | zero=>exact q2.elim
  | succ m =>
   simp only[dB,eC] at q2;rw[bA] at q2;refine⟨δ2,k2,aX q2 λx δ3 q3 H3 a3=>?_⟩
   cases x with
   | false=>exact q3 σ2 H3 a3
   | true =>
    have p3:post c ((b δ3).bind λfl δ2=>match fl with
     | .next=>dB t b m δ2
     | .cont=>dB t b m δ2
     | .brk=>.ok .next δ2
     | .ret v=>.ok (.ret v) δ2) λfl δ'=>∀ σ' H',aS c σ2 δ2 H2 σ' δ' H'->fin c D σ' δ' H' fl:=q3
    rw[bA] at p3;refine⟨λσ4 H4=>∃ δ4,Ok c σ4 δ4 H4/\eC c D σ4 δ4 H4 (dB t b m δ4),λσ4 H4 w=>⟨m,Nat.lt_succ_self _,w⟩,δ3,a3.ok,aX p3 λfl δ4 p4 σ4 H4 a4=>?_⟩;have iP:=a3.trans a4
    cases fl with
    | next=>exact⟨δ4,a4.ok,aX p4 λfl δ5 p5 σ5 H5 a5=>p5 σ5 H5 (iP.trans a5)⟩
    | cont=>exact⟨δ4,a4.ok,aX p4 λfl δ5 p5 σ5 H5 a5=>p5 σ5 H5 (iP.trans a5)⟩
    | brk=>exact p4 σ4 H4 iP
    | ret r=>exact p4 σ4 H4 iP
def bz(cs:List Nat)(δ:Dl):Dl:=cs.foldl (λδ i=>δ.set i none) δ
def cS(cs:List Nat)(δ₁ δ:Dl):Dl:=cs.foldl (λδ i=>match δ₁[i]? with | some o=>δ.set i o | none=>δ) δ
def bN(δ:Dl)(i:Nat):Bool:=match δ[i]? with
 | some (some (.own _))=>true
 | _=>false
theorem Dh(cs):∀ δ:Dl,(bz cs δ).length=δ.length:=by
 induction cs with
 | nil=>intro δ; rfl
 | cons i r ih =>
  intro δ;show(bz r (δ.set i none)).length=_;rw[ih]; simp
theorem jf:∀ cs (δ:Dl) i v,(bz cs δ)[i]? = some (some v)->δ[i]? = some (some v)/\i ∉ cs:=by
 intro cs;induction cs with
 | nil=>intro δ i v h; exact⟨h,Z5⟩
 | cons j r ih =>
  intro δ i v h;have h':(bz r (δ.set j none))[i]? = some (some v):=h;obtain⟨h1,h2⟩:=ih _ i v h';by_cases e:j=i
  ·subst e;rw[Q0] at h1;simp at h1
  ·rw[W9 e] at h1;exact⟨h1,by simp only[Wu,not_or]; exact⟨Ne.symm e,h2⟩⟩
theorem kZ:∀ cs (σ:St) i,i ∉ cs->(bQ cs σ)[i]? = σ[i]?:=by
 intro cs;induction cs with
 | nil=>intro σ i _; rfl
 | cons j r ih =>
  intro σ i h;simp only[Wu,not_or] at h;show(bQ r (σ.set j none))[i]? = _;rw[ih _ _ h.2,W9 (Ne.symm h.1)]
theorem OP:∀ cs (δ:Dl) i,i ∉ cs->(bz cs δ)[i]? = δ[i]?:=by
 intro cs;induction cs with
 | nil=>intro σ i _; rfl
 | cons j r ih =>
  intro σ i h;simp only[Wu,not_or] at h;show(bz r (σ.set j none))[i]? = _;rw[ih _ _ h.2,W9 (Ne.symm h.1)]
theorem OQ(cs δ₁):∀ δ:Dl,(cS cs δ₁ δ).length=δ.length:=by
 induction cs with
 | nil=>intro δ; rfl
 | cons i r ih =>
  intro δ;unfold cS;rw[Jj];have:=ih (match δ₁[i]? with | some o=>δ.set i o | none=>δ);unfold cS at this;rw[this]
  cases δ₁[i]? <;> simp
theorem uH:∀ cs (δ₁ δ:Dl) i,i ∉ cs->(cS cs δ₁ δ)[i]? = δ[i]?:=by
 intro cs δ₁;induction cs with
 | nil=>intro δ i _; rfl
 | cons j r ih =>
  intro δ i h;simp only[Wu,not_or] at h;unfold cS;rw[Jj];have:=ih (match δ₁[j]? with | some o=>δ.set j o | none=>δ) i h.2;unfold cS at this;rw[this]
  cases δ₁[j]? with
  | none=>rfl
  | some o=>simp only; rw[W9 (Ne.symm h.1)]
theorem xX:∀ cs (δ₁ δ:Dl) i,δ₁.length=δ.length->i ∈ cs->(cS cs δ₁ δ)[i]? = δ₁[i]?:=by
 intro cs δ₁;induction cs with
 | nil=>intro δ i _ h; simp at h
 | cons j r ih =>
  intro δ i hl h;unfold cS;rw[Jj];have kR:δ₁.length=(match δ₁[j]? with | some o=>δ.set j o | none=>δ).length:=by cases δ₁[j]? <;> simp[hl]
  by_cases hr:i ∈ r
  ·have:=ih (match δ₁[j]? with | some o=>δ.set j o | none=>δ) i kR hr;unfold cS at this;exact this
  ·have e:i=j:=by grind
   subst e;have:=uH r δ₁ (match δ₁[i]? with | some o=>δ.set i o | none=>δ) i hr;unfold cS at this;rw[this]
   cases e:δ₁[i]? with
   | none =>
    simp only;have:=List.getElem?_eq_none_iff.mp e;exact Qy Y'
   | some o =>
    simp only;have:=(W6.mp e).1;rw[Wr Y']
theorem Ok.less(k:Ok (c.plus l) σ δ H):Ok c σ δ H:=by
 have sub:∀ b,Av c σ δ b->Av (c.plus l) σ δ b:=λb z=>z.elim (λz=>.inl (.inl z)) .inr
 refine⟨k.keep,λa z=>k.bd a (.inl z),k.dZ,k.len,λi d e=>?_,λi d e=>?_,k.inj,k.pinned⟩
 ·obtain⟨v,h1,h2⟩:=k.slot i d e;exact⟨v,h1,h2.aM λb z=>.inl (sub b z)⟩
 ·obtain⟨a,h1,h2,h3,h4⟩:=k.own i d e;exact⟨a,h1,h2.aM λb z=>.inl (sub b z),h3,λz=>h4 (.inl z)⟩
theorem Ok.OR(k:Ok c σ δ H)(hb:c.B l)(h0:c.H₀ l=none)(o):Ok c σ δ (upd H l o):=by
 have kp:∀ b w,H b=some w->¬ Av c σ δ b->upd H l o b=some w:=λb w e n=>by
  rw[aR (λz=>n %[z|.inl hb])]; exact e
 have ir:∀ b w,H b=some w->∃ w',upd H l o b=some w':=λb w h=>by
  by_cases hb:b=l
  ·exact⟨_,%[hb|cI]⟩
  ·exact⟨w,%[aR hb|h]⟩
 refine⟨λa w e n=>?_,λa z=>?_,λa z=>?_,k.len,λi d e=>?_,λi d e=>?_,k.inj,k.pinned⟩
 ·have:a≠l:=λz=>by grind
  rw[aR this]; exact k.keep a w e n
 ·obtain⟨w,e⟩:=k.bd a z; exact ir a w e
 ·obtain⟨w,e⟩:=k.dZ a z; exact ir a w e
 ·obtain⟨v,h1,h2⟩:=k.slot i d e;exact⟨v,h1,h2.keep kp⟩
 ·obtain⟨a,h1,h2,h3,h4⟩:=k.own i d e;have:a≠l:=λz=>h4 %[z|hb]
  exact⟨a,h1,h2.keep kp λw q=>%[aR this|q],h3,h4⟩
theorem Own.bQ(h:Own (bQ cs σ) (bz cs δ) l):Own σ δ l:=by
 obtain⟨i,d,e1,e2⟩:=h;exact⟨i,d,(jf cs δ i _ e1).1,(lW cs σ i _ e2).1⟩
theorem Ok.bQ(k:Ok c σ δ H)(hp:∀ p ∈ c.pin,p.1 ∉ cs):Ok c (L2.bQ cs σ) (bz cs δ) H:=by
 have sub:∀ b,Av c (L2.bQ cs σ) (bz cs δ) b->Av c σ δ b:=λb z=>z.elim .inl λz=>.inr z.bQ
 refine⟨k.keep,k.bd,k.dZ,%[Dh,ue|k.len],λi d e=>?_,λi d e=>?_,λi j a d d' e1 e2 e3 e4=>?_,λp hm=>?_⟩
 ·obtain⟨e',hi⟩:=jf cs δ i _ e;obtain⟨v,h1,h2⟩:=k.slot i d e';exact⟨v,%[kZ cs σ i hi|h1],h2.aM λb z=>.inl (sub b z)⟩
 ·obtain⟨e',hi⟩:=jf cs δ i _ e;obtain⟨a,h1,h2,h3⟩:=k.own i d e';exact⟨a,%[kZ cs σ i hi|h1],h2.aM λb z=>.inl (sub b z),h3⟩
 ·exact k.inj i j a d d' (jf cs δ i _ e1).1 (jf cs δ j _ e2).1 (lW cs σ i _ e3).1 (lW cs σ j _ e4).1
 ·rw[kZ cs σ _ (hp p hm)]; exact k.pinned p hm
theorem aS.back(k:Ok c₀ σ δ H)(jg:c.pin=c₀.pin)(hB:∀ b,c.B b->c₀.B b\/H b=none)(fV:cs.any (bN δ)=false)(x:aS c (L2.bQ cs σ) (bz cs δ) H (L2.bQ cs σ) δ' H'):aS c σ δ H σ (cS cs δ δ') H':=by
 have len:δ.length=δ'.length:=by
  have:=x.ok.len;rw[ue] at this;rw[this]; exact k.len
 have fB:∀ i d,i ∈ cs->δ[i]?≠some (some (.own d)):=λi d hi e=>by
  have:=List.any_eq_false.mp fV i hi;unfold bN at this;rw[e] at this;simp at this
 have ownOut:∀ i d,(cS cs δ δ')[i]? = some (some (.own d))->i ∉ cs/\δ'[i]? = some (some (.own d)):=λi d e=>by
  by_cases hi:i ∈ cs
  ·rw[xX cs δ δ' i len hi] at e;exact absurd e (fB i d hi)
  ·rw[uH cs δ δ' i hi] at e;exact⟨hi,e⟩
 have sub:∀ b,Own σ (cS cs δ δ') b->Own (L2.bQ cs σ) δ' b:=λb ⟨i,d,e1,e2⟩=>by
  obtain⟨hi,e⟩:=ownOut i d e1;exact⟨i,d,e,%[kZ cs σ i hi|e2]⟩
 have nJ:∀ b,Av c σ (cS cs δ δ') b->Av c (L2.bQ cs σ) δ' b:=λb z=>z.elim .inl λz=>.inr (sub b z)
 have ownEq:∀ b,Own σ δ b->Own (L2.bQ cs σ) (bz cs δ) b:=λb ⟨i,d,e1,e2⟩=>by
  have hi:i ∉ cs:=λz=>fB i d z e1
  exact⟨i,d,%[OP cs δ i hi|e1],%[kZ cs σ i hi|e2]⟩
 refine⟨⟨x.ok.keep,x.ok.bd,x.ok.dZ,by rw[OQ,<- len]; exact k.len,λi d e=>?_,λi d e=>?_,λi j a d d' e1 e2 e3 e4=>?_,%[jg|k.pinned]⟩,λa o e n=>?_,λa z=>?_,x.there⟩
 ·by_cases hi:i ∈ cs
  ·rw[xX cs δ δ' i len hi] at e;obtain⟨v,h1,h2⟩:=k.slot i d e;have h3:Rep H (Av c (L2.bQ cs σ) (bz cs δ)) v d:=h2.aM λb z=>by
    rcases z with z | z
    ·exact(hB b z).elim (λz=>.inl (.inl z)) .inr
    ·exact .inl (.inr z.bQ)
   exact⟨v,h1,(Rep.d_ h3 x).aM λb z=>.inl (nJ b z)⟩
  ·rw[uH cs δ δ' i hi] at e;obtain⟨v,h1,h2⟩:=x.ok.slot i d e;exact⟨v,(lW cs σ i v h1).1,h2.aM λb z=>.inl (nJ b z)⟩
 ·obtain⟨hi,e'⟩:=ownOut i d e;obtain⟨a,h1,h2,h3⟩:=x.ok.own i d e';exact⟨a,(lW cs σ i _ h1).1,h2.aM λb z=>.inl (nJ b z),h3⟩
 ·obtain⟨hi,f1⟩:=ownOut i d e1;obtain⟨hj,f2⟩:=ownOut j d' e2;exact x.ok.inj i j a d d' f1 f2 %[kZ cs σ i hi|e3] %[kZ cs σ j hj|e4]
 ·exact x.keep a o e λz=>n z.bQ
 ·rcases x.own a (sub a z) with q | q
  ·exact .inl q.bQ
  ·exact .inr q
noncomputable def cT(cs:List Nat)(g:DG)(t:DT)(el:DE):List D->Dl->List D->Rs (List D)
 | [],δ,acc=>.ok acc δ
 | d :: r,δ,acc=>match g (.pure d) δ with
  | none=>.stuck
  | some δ1=>(t δ1).bind λb δ2=>if b then(el δ2).bind λx δ3=>if acc.length < Wa then cT cs g t el r (bz cs δ3) (acc ++ [x.d]) else .stuck
   else cT cs g t el r (bz cs δ2) acc
def bE(cs:List Nat)(it:DI)(g:DG)(t:DT)(el:DE):DE:=λδ=>(it δ).bind λds δ1=>if cs.any (bN δ1) then .stuck else
 (cT cs g t el ds (bz cs δ1) []).bind λacc δ2=>.ok (.own (.lst acc)) (cS cs δ1 δ2)
def aZ:DT:=λδ=>.ok true δ
abbrev pk(X:Cx)(c:Fc)(ifs:List Expr)(t:DT):Prop:=oN X ifs (tT c t)
theorem nK{X c}:pk X c [] aZ:=λpins s σ H Q I ⟨δ,k,q⟩=>Nm pins s σ H Q I (q H (.refl k))
theorem OS{X c e t}(h:ST X c e t):pk X c [e] t:=Nn h
section
variable {iter:Expr}{it:DI}{g:DG}{t:DT}
theorem aS.clear(x:aS c (L2.bQ cs σ) δ H σ4 δ4 H4)(le:Le (L2.bQ cs σ) σ4)(hp:∀ p ∈ c.pin,p.1 ∉ cs)(hs:∀ i v,σ4[i]? = some (some v)->i ∉ cs->σ[i]? = some (some v)):aS c (L2.bQ cs σ) δ H (L2.bQ cs σ) (bz cs δ4) H4:=by
 have eq:∀ i,i ∉ cs->∀ v,σ4[i]? = some (some v)->(L2.bQ cs σ)[i]? = some (some v):=λi hi v e=>%[kZ cs σ i hi|hs i v e hi]
 have own:∀ b,Own (L2.bQ cs σ) (bz cs δ4) b->Own σ4 δ4 b:=λb ⟨i,d,e1,e2⟩=>by
  exact⟨i,d,(jf cs δ4 i _ e1).1,le.2 i _ e2⟩
 have sub:∀ b,Av c (L2.bQ cs σ) (bz cs δ4) b->Av c σ4 δ4 b:=λb z=>z.elim .inl λz=>.inr (own b z)
 have k:=x.ok;refine⟨⟨k.keep,k.bd,k.dZ,%[Dh,k.len|le.1],λi d e=>?_,λi d e=>?_,λi j a d d' e1 e2 e3 e4=>?_,λp hm=>?_⟩,x.keep,λa z=>x.own a (own a z),x.there⟩
 ·obtain⟨e',hi⟩:=jf cs δ4 i _ e;obtain⟨v,h1,h2⟩:=k.slot i d e';exact⟨v,eq i hi v h1,h2.aM λb z=>.inl (sub b z)⟩
 ·obtain⟨e',hi⟩:=jf cs δ4 i _ e;obtain⟨a,h1,h2,h3⟩:=k.own i d e';exact⟨a,eq i hi _ h1,h2.aM λb z=>.inl (sub b z),h3⟩
 ·exact k.inj i j a d d' (jf cs δ4 i _ e1).1 (jf cs δ4 j _ e2).1 (le.2 i _ e3) (le.2 j _ e4)
 ·exact eq p.1 (hp p hm) _ (k.pinned p hm)
def Out(cs:List Nat)(σ σ':St):Prop:=σ'.length=σ.length/\∀ i,i ∉ cs->σ'[i]? = σ[i]?
theorem Out.trans(a:Out cs σ σ')(b:Out cs σ' σ''):Out cs σ σ'':=⟨b.1.trans a.1,λi h=>(b.2 i h).trans (a.2 i h)⟩
def uI(cs:List Nat)(c:Fc)(g:DG):TG:=λv σ H Q=>∃ σ₀ δ₀ H₁ δ r δ',aS c σ₀ δ₀ H₁ σ δ H/\bD c σ δ H₁ H v r/\g r δ=some δ'/\∀ σ',aS c σ₀ δ₀ H₁ σ' δ' H->Out cs σ σ'->Q σ' H
abbrev l_(X:Cx)(c:Fc)(cs:List Nat)(tg:Expr)(g:DG):Prop:=PG X tg (uI cs c g)
theorem ma{X c cs pos np i x}(hp:Np c np)(hN:X.N.Nodup)(hi:X.N[i]? = some x)(hx:Loc X.env.scope x)(hf:X.fn x=true\/X.env.scope.names.lookup x=some .local)(hc:i ∈ cs):l_ X c cs (.Name x pos) (ae np i) :=
 PG.weak (tL hN hi hx hf) λv σ H Q ⟨σ₀,δ₀,H₁,δ,r,δ',x,rr,e,q⟩=>by
  unfold ae at e;split at e
  ·cases e
  ·rename_i hn
   cases e;refine q _ (Ok.set x rr λp hm e=>hn (by rw[<- e]; exact hp p hm)) ⟨Z5,λj hj=>?_⟩;rw[W9 (λz=>hj (by rw[<- z]; exact hc))]
def OT(cs:List Nat)(c:Fc)(g:je):lN:=λvs σ H Q=>∃ δ ds δ',Ok c σ δ H/\aK H (Av c σ δ) vs ds/\g ds δ=some δ'/\∀ σ',aS c σ δ H σ' δ' H->Out cs σ σ'->Q σ' H
abbrev nL(X:Cx)(c:Fc)(cs:List Nat)(tg:List Expr)(g:je):Prop:=iK X tg (OT cs c g)
theorem Di{X c cs}:nL X c cs [] ck:=iK.weak wo λvs σ H Q ⟨δ,ds,δ',k,r,e,q⟩=>by
 cases ds with
 | nil =>
  cases e;have:vs=[]:=by have:=r.1; simpa using this
  exact⟨this,q σ (.refl k) ⟨rfl,λ_ _=>rfl⟩⟩
 | cons d r=>cases e
theorem xY{X c cs e es g gs}(h1:l_ X c cs e g)(h2:nL X c cs es gs)(hs:(QC (e :: es) X.env).map (·.2)=assign e X.env :: (QC es X.env).map (·.2):=by rfl):nL X c cs (e :: es) (aW g gs) :=
 iK.weak (tM h1 h2 hs) λvs σ H Q ⟨δ,ds,δ',k,r,e,q⟩=>by
  cases ds with
  | nil=>cases e
  | cons d ds =>
   cases vs with
   | nil=>have:=r.1; simp at this
   | cons v vs =>
    simp only[aW] at e
    cases e1:g (.pure d) δ with
    | none=>rw[e1] at e; cases e
    | some δ1 =>
     rw[e1] at e;refine⟨v,vs,rfl,σ,δ,H,δ,.pure d,δ1,.refl k,r.head,e1,λσ1 a1 o1=>?_⟩;exact⟨δ1,ds,δ',a1.ok,aK.d_ r.tail a1,e,λσ2 a2 o2=>q σ2 (a1.trans a2) (o1.trans o2)⟩
theorem Dj{X c cs pos es k gs n}(hc:X.calm=true)(h:nL X c cs es gs)(hn:(QC es X.env).length=n:=by rfl)(c9:(QC es X.env).findIdx? (·.1)=none:=by rfl) :
  l_ X c cs (.Tuple es k pos) (bX n gs):=PG.weak (wq hc h hn c9) λv σ H Q hw=>by
 obtain⟨σ₀,δ₀,H₁,δ,r,δ',x,rr,e,q⟩:=hw;have hb:=rr.b;unfold bX at e;generalize r.d=d at e hb
 cases d <;> first | (cases e; done) | skip
 rename_i ds;simp only at e;split at e
 ·rename_i hl;obtain⟨a,vs,ea,ha,ra⟩:=hb.tup;exact⟨a,vs,ea,.of ha,%[ra.1|hl],δ,ds,δ',x.ok,ra,e,λσ' a1 o1=>q σ' (x.trans a1) o1⟩
 ·cases e
theorem aS.less(x:aS (c.plus l) σ δ H σ' δ' H'):aS c σ δ H σ' δ' H':=⟨x.ok.less,x.keep,x.own,x.there⟩
theorem Dk{Q}(Dm:∀ σ H R,tI c it σ H R->wi σ H R)(hg:∀ l v σ H Q,uI cs (c.plus l) g v σ H Q->gt v σ H Q)(ht:∀ l σ H Q,tT (c.plus l) t σ H Q->tt σ H Q)(he:∀ l σ H Q,tD (c.plus l) el σ H Q->te σ H Q)
  (hp:∀ p ∈ c.pin,p.1 ∉ cs) (h:tD c (bE cs it g t el) σ H Q):xm cs wi gt tt te σ H Q:=by
 obtain⟨δ,k,q⟩:=h;unfold bE at q;rw[bA] at q;refine Dm _ _ _ ⟨δ,k,aX q λds δ1 q1 J H1 a1 io=>?_⟩;intro l hl;split at q1
 ·exact q1.elim
 ·rename_i fV;have Dp:cs.any (bN δ1)=false:=by grind
  rw[bA] at q1;have k1:=a1.ok;have kp:=k1.plus hl (.lst []);have k0:Ok (c.plus l) (L2.bQ cs σ) (bz cs δ1) (upd H1 l (.lst [])):=kp.bQ hp;have up:∀ a w,H1 a=some w->upd H1 l (.lst []) a=some w:=λa w e=>by
   rw[aR (fA e hl)]; exact e
  have h0:c.H₀ l=none:=k1.nr hl;-- the walked things,as the block sees them
  have xZ:l8 (c.plus l) (L2.bQ cs σ) (bz cs δ1) H1 J ds:=by
   intro H2 kp2;obtain⟨s1,s2⟩:=io H2 λa o e n=>kp2 a o e λz=>n z.bQ
   have cv:∀ {x:V} {d:D},Rep H1 (Av c σ δ1) x d->Rep H1 (Av (c.plus l) (L2.bQ cs σ) (bz cs δ1)) x d:=λ{x d} r =>
    r.aM λb z=>by
     rcases z with (z | z) | z
     ·exact .inl (.inl z)
     ·exact .inr %[z|hl]
     ·exact .inl (.inr z.bQ)
   refine⟨s1,λi d e=>⟨(s2 i d e).1,λx H3 y=>?_⟩⟩;rcases (s2 i d e).2 x H3 y with ⟨e3,r⟩ | ⟨p,vs,es,hp,e3,ex,ed,r⟩
   ·exact .inl ⟨e3,cv r⟩
   ·exact .inr ⟨p,vs,es,hp,e3,ex,ed,r.1,λi v d e1 e2=>cv (r.2 i v d e1 e2)⟩
  let Fin:List D->Dl->Prop:=λacc δ'=>∀ H' vs,aS (c.plus l) (L2.bQ cs σ) (bz cs δ1) H1 (L2.bQ cs σ) δ' H'->H' l=some (.lst vs)->aK H' (Av (c.plus l) (L2.bQ cs σ) δ') vs acc->Q (.ref l) H'
  have q2:post c (cT cs g t el ds (bz cs δ1) []) Fin:=aX q1 λacc δ2 q2 H' vs x hv r=>by
   have b1:aS (c.plus l) σ δ1 H1 σ (cS cs δ1 δ2) H':=aS.back k1 rfl (λb z=>z.elim .inl λz=>.inr %[z|hl]) Dp x;have b2:aS c σ δ1 H1 σ (cS cs δ1 δ2) H':=b1.less;have len:δ1.length=δ2.length:=by
    have:=x.ok.len;rw[ue] at this;rw[this]; exact k1.len
   have OU:H l=none:=by
    cases e:H l with
    | none=>rfl
    | some o =>
     obtain⟨o',e'⟩:=a1.there l o e;grind
   refine q2 _ H' (a1.trans b2) ⟨l,rfl,⟨vs,hv,aK.aM r λb z=>.inl ?_⟩,λz=>k1.ja hl (.inl z),h0,b1.ok,OU⟩;rcases z with z | ⟨i,d,e1,e2⟩
   ·exact .inl z
   ·have hi:i ∉ cs:=λhi=>by
     rw[xX cs δ1 δ2 i len hi] at e1;have:=List.any_eq_false.mp Dp i hi;unfold bN at this;rw[e1] at this;simp at this
    rw[uH cs δ1 δ2 i hi] at e1;exact .inr ⟨i,d,e1,%[kZ cs σ i hi|e2]⟩
  refine⟨λi m H2=>∃ δ2 acc vs,m=ds.length - i/\i<=ds.length/\aS (c.plus l) (L2.bQ cs σ) (bz cs δ1) H1 (L2.bQ cs σ) δ2 H2/\H2 l=some (.lst vs)/\aK H2 (Av (c.plus l) (L2.bQ cs σ) δ2) vs acc /\
   post c (cT cs g t el (ds.drop i) δ2 acc) Fin,⟨ds.length,bz cs δ1,[],[],Z5,Qq _,⟨k0,λa w e _=>up a w e,λa z=>.inl z,λa w e=>⟨w,up a w e⟩⟩,cI,.nil,%[List.drop_zero|q2]⟩,?_⟩
  rintro i m H2 ⟨δ2,acc,vs,rfl,l9,a2,hv,rv,p2⟩;by_cases bu:i < ds.length
  ·right
   have e:ds[i]? = some ds[i]:=#v[bu]
   rw[QX bu] at p2;refine⟨((xZ H2 a2.keep).2 i _ e).1,λx H3 y=>hg l _ _ _ _ ?_⟩;obtain⟨a3,r3⟩:=Df xZ a2 e y;simp only[cT] at p2
   cases eg:g (.pure ds[i]) δ2 with
   | none=>rw[eg] at p2; exact p2.elim
   | some δ3 =>
    rw[eg] at p2;have p3:post c ((t δ3).bind λb δ2=>if b then(el δ2).bind λx δ3=>if acc.length < Wa then cT cs g t el (ds.drop (i + 1)) (bz cs δ3) (acc ++ [x.d]) else .stuck
     else cT cs g t el (ds.drop (i + 1)) (bz cs δ2) acc) Fin:=p2
    refine⟨L2.bQ cs σ,δ2,H3,δ2,.pure ds[i],δ3,.refl a3.ok,r3,eg,λσ4 a4 o4=>?_⟩;have le:Le (L2.bQ cs σ) σ4:=⟨o4.1,λj v ej=>by
     rw[o4.2 j (lW cs σ j v ej).2]; exact ej⟩
    have hs:∀ (j:Nat) v,σ4[j]? = some (some v)->j ∉ cs->σ[j]? = some (some v):=λj v ej hj=>by
     rw[o4.2 j hj] at ej;exact(lW cs σ j v ej).1
    refine⟨le,ht l _ _ _ ⟨δ3,a4.ok,?_⟩⟩;rw[bA] at p3;have Dq:∀ p ∈ (c.plus l).pin,p.1 ∉ cs:=hp;have iP:=a2.trans (a3.trans a4);have ln:∀ {σ':St} {δ':Dl} {H':Hp},Ok (c.plus l) σ' δ' H'->¬ Own σ' δ' l:=λ{σ' δ' H'} k=>oP k
    have OV:post (c.plus l) (t δ3) λb δ5=>post c (if b then(el δ5).bind λx δ3=>if acc.length < Wa then cT cs g t el (ds.drop (i + 1)) (bz cs δ3) (acc ++ [x.d]) else .stuck
     else cT cs g t el (ds.drop (i + 1)) (bz cs δ5) acc) Fin:=p3
    refine aX OV λb δ5 p5 H5 a5=>?_
    have pq:=iP.trans a5;have OW:H3 l=some (.lst vs):=a3.keep l _ hv (ln a2.ok);have Dr:H5 l=some (.lst vs):=a5.keep l _ OW (ln a4.ok);have Ds:=aK.d_ (aK.d_ (aK.d_ rv a3) a4) a5
    cases b with
    | false =>
     have c5:=pq.clear le Dq hs;refine⟨ds.length - (i + 1),Y',bz cs δ5,acc,vs,rfl,bu,c5,Dr,aK.aM Ds λb z=>.inl ?_,p5⟩;exact z.elim .inl λ⟨j,d,e1,e2⟩=>.inr ⟨j,d,(jf cs δ5 j _ e1).1,le.2 j _ e2⟩
    | true =>
     have Dt:post c ((el δ5).bind λx δ3=>if acc.length < Wa then cT cs g t el (ds.drop (i + 1)) (bz cs δ3) (acc ++ [x.d]) else .stuck) Fin:=p5;rw[bA] at Dt;refine he l _ _ _ ⟨δ5,a5.ok,?_⟩;have p6:post (c.plus l) (el δ5) λx δ6=>post c (if acc.length < Wa then cT cs g t el (ds.drop (i + 1)) (bz cs δ6) (acc ++ [x.d]) else .stuck) Fin:=Dt
     refine aX p6 λx δ6 p7 v H6 a6 r6=>?_
     split at p7
     ·rename_i hz;have rm:=pq.trans a6;have OX:H6 l=some (.lst vs):=a6.keep l _ Dr (ln a5.ok);have Du:=aK.d_ Ds a6;have rr:aK H6 (Av (c.plus l) σ4 δ6) (vs ++ [v]) (acc ++ [x.d]):=Du.append (.cons r6.rep .nil);have c6:=rm.clear le Dq hs;have uJ:∀ b o,H6 b=some o->¬ Av (c.plus l) σ4 δ6 b->upd H6 l (.lst (vs ++ [v])) b=some o:=λb o e n=>by
       rw[aR (λz=>n %[z|.inl (.inr rfl)])]; exact e
      have OY:∀ b,Av (c.plus l) (L2.bQ cs σ) (bz cs δ6) b->Av (c.plus l) σ4 δ6 b:=λb z=>z.elim .inl λ⟨j,d,e1,e2⟩=>.inr ⟨j,d,(jf cs δ6 j _ e1).1,le.2 j _ e2⟩
      refine⟨vs,ds.length - (i + 1),OX,%[Du.1|hz],Y',bz cs δ6,acc ++ [x.d],vs ++ [v],rfl,bu,?_,cI,aK.aM (aK.keep rr uJ) λb z=>.inl (OY b z),p7⟩;-- the list that is built has grown
      refine⟨c6.ok.OR (.inr rfl) h0 _,λa o ea n=>?_,λa z=>c6.own a z,λa o ea=>?_⟩
      ·have gO:a≠l:=λz=>by grind
       rw[aR gO]; exact c6.keep a o ea n
      ·by_cases gO:a=l
       ·grind
       ·obtain⟨o',e'⟩:=c6.there a o ea;exact⟨o',%[aR gO|e']⟩
     ·exact p7.elim
  ·left
   have nH:i=ds.length:=by lia
   subst nH;rw[List.drop_length] at p2;exact⟨(xZ H2 a2.keep).1,p2 H2 vs a2 hv rv⟩
theorem nM{X c cs tg iter elt ifs scope pos it g t el}(hc:X.calm=true)(S:nh X scope cs)(hi:SI X c tg iter it)(hg:∀ l s₀ H₀ ex,l_ (fE X scope s₀ H₀ ex) (c.plus l) cs tg g)(ht:∀ l s₀ H₀ ex,pk (fE X scope s₀ H₀ ex) (c.plus l) ifs t)
  (he:∀ l s₀ H₀ ex,SE (fE X scope s₀ H₀ ex) (c.plus l) elt el) (hp:∀ p ∈ c.pin,p.1 ∉ cs) (hs:∀ x,J5 iter X.env x=pure x:=by intro _; rfl) :
  SE X c (.ListComp elt [⟨tg,iter,ifs,0⟩] scope pos) (bE cs it g t el) :=
 PE.weak (Nw (g:=λv σ H Q=>∃ l,uI cs (c.plus l) g v σ H Q) (tt:=λσ H Q=>∃ l,tT (c.plus l) t σ H Q) (te:=λσ H Q=>∃ l,tD (c.plus l) el σ H Q) hc S hi
  (λs₀ H₀ ex pins s σ H v u Q I r ⟨l,q⟩=>hg l s₀ H₀ ex pins s σ H v u Q I r q) (λs₀ H₀ ex pins s σ H Q I ⟨l,q⟩=>ht l s₀ H₀ ex pins s σ H Q I q) (λs₀ H₀ ex pins s σ H Q I ⟨l,q⟩=>he l s₀ H₀ ex pins s σ H Q I q) hs)
  λσ H Q h=>Dk (λ_ _ _ h=>h) (λl _ _ _ _ h=>⟨l,h⟩) (λl _ _ _ h=>⟨l,h⟩) (λl _ _ _ h=>⟨l,h⟩) hp h
theorem OZ{X c cs tg iter elt ifs scope pos it g t el np i y}{py uj:Pos}(bj:Np c np)(hc:X.calm=true)(S:nh X scope cs)(hN:X.N.Nodup)(gG:X.N[i]? = some y)(hy:X.env.scope.names.lookup y=some .local)
  (hi:SI X c tg iter it) (hg:∀ l s₀ H₀ ex,l_ (fE X scope s₀ H₀ ex) (c.plus l) cs tg g) (ht:∀ l s₀ H₀ ex,pk (fE X scope s₀ H₀ ex) (c.plus l) ifs t)
  (he:∀ l s₀ H₀ ex,SE (fE X scope s₀ H₀ ex) (c.plus l) elt el) (hp:∀ p ∈ c.pin,p.1 ∉ cs)
  (qL:J8 (.ListComp elt [⟨tg,iter,ifs,0⟩] scope pos) (some (.Name y py)) uj.line X.env=pure true:=by rfl) (hs:∀ x,J5 iter X.env x=pure x:=by intro _; rfl) :
  SS X c (.Assign [.Name y py] (.ListComp elt [⟨tg,iter,ifs,0⟩] scope pos) uj) (au (bE cs it g t el) (ae np i)) :=
 PS.weak (Nx (g:=λv σ H Q=>∃ l,uI cs (c.plus l) g v σ H Q) (tt:=λσ H Q=>∃ l,tT (c.plus l) t σ H Q) (te:=λσ H Q=>∃ l,tD (c.plus l) el σ H Q) hc S hN gG hy hi
  (λs₀ H₀ ex pins s σ H v u Q I r ⟨l,q⟩=>hg l s₀ H₀ ex pins s σ H v u Q I r q) (λs₀ H₀ ex pins s σ H Q I ⟨l,q⟩=>ht l s₀ H₀ ex pins s σ H Q I q) (λs₀ H₀ ex pins s σ H Q I ⟨l,q⟩=>he l s₀ H₀ ex pins s σ H Q I q) qL hs)
  λD σ H h=>xU (λσ H Q h=>Dk (λ_ _ _ h=>h) (λl _ _ _ _ h=>⟨l,h⟩) (λl _ _ _ h=>⟨l,h⟩) (λl _ _ _ h=>⟨l,h⟩) hp h) (λ_ _ _ _ h=>xR bj h) h
end
abbrev DF:=List S->Option (S×List S)
variable {G:DF}
def c_:Nat->List S->List V->List (Nat×Addr)
 | n,.own _ :: ss,.ref a :: vs=>(n,a) :: c_ (n + 1) ss vs
 | n,_ :: ss,_ :: vs=>c_ (n + 1) ss vs
 | _,_,_=>[]
theorem nN:∀ {n:Nat} {ss:List S} {vs:List V} {i:Nat} {a:Addr},(i,a) ∈ c_ n ss vs->∃ j d,i=n + j/\ss[j]? = some (.own d)/\vs[j]? = some (.ref a)
 | n,[],vs,i,a,h=>by simp[c_] at h
 | n,s :: ss,[],i,a,h=>by cases s <;> simp[c_] at h
 | n,s :: ss,v :: vs,i,a,h=>by
  have x6:(i,a) ∈ c_ (n + 1) ss vs->∃ j d,i=n + j/\(s :: ss)[j]? = some (.own d)/\(v :: vs)[j]? = some (.ref a):=λh=>by
   obtain⟨j,d,e,h1,h2⟩:=nN h;exact⟨j + 1,d,Y',~~~h1,~~~h2⟩
  cases s with
  | pure d=>exact x6 h
  | own d =>
   cases v with
   | ref b =>
    rcases Wu.mp h with e | h
    ·cases e;exact⟨0,d,rfl,rfl,rfl⟩
    ·exact x6 h
   | _=>exact x6 h
theorem uK:∀ {n:Nat} {ss:List S} {vs:List V} {j:Nat} {d:D} {a:Addr},ss[j]? = some (.own d)->vs[j]? = some (.ref a)->(n + j,a) ∈ c_ n ss vs
 | n,[],vs,j,d,a,h,_=>by simp at h
 | n,s :: ss,[],j,d,a,_,h=>by simp at h
 | n,s :: ss,v :: vs,0,d,a,h1,h2=>by
  simp at h1 h2;subst h1 h2;exact Wp
 | n,s :: ss,v :: vs,j + 1,d,a,h1,h2=>by
  have ih:=uK (n:=n + 1) (ss:=ss) (vs:=vs) (j:=j) (d:=d) (a:=a) (~~~h1) (~~~h2);have e:n + 1 + j=n + (j + 1):=by lia
  rw[e] at ih
  cases s with
  | pure d=>exact ih
  | own d =>
   cases v with
   | ref b=>exact Wg _ ih
   | _=>exact ih
abbrev cD(vs:List V):St:=vs.map some
abbrev cE(ss:List S):Dl:=ss.map some
theorem fm{r}:(cE ss)[i]? = some (some r) ↔ ss[i]? = some r:=by
 rw[Wj]
 cases ss[i]? <;> simp
theorem fG{v}:(cD vs)[i]? = some (some v) ↔ vs[i]? = some v:=by
 rw[Wj]
 cases vs[i]? <;> simp
def rq(n:Nat)(G:DF):Sp:=λvs H Q _=>∃ ss B,vs.length=n/\Ok ⟨H,B,c_ 0 ss vs,λ_ _=>False⟩ (cD vs) (cE ss) H/\∃ r aT,G ss=some (r,aT) /\
 ∀ v H',aS ⟨H,B,c_ 0 ss vs,λ_ _=>False⟩ (cD vs) (cE ss) H (cD vs) (cE aT) H'->bD ⟨H,B,c_ 0 ss vs,λ_ _=>False⟩ (cD vs) (cE aT) H H' v r->Q v H'
def bK(P:Wo)(w:Wt)(K:W5)(mg:Str->Option Value)(base:Heap)(k:Nat)(x:Str)(n:Nat)(G:DF):Prop :=
 ∃ (f:Addr) (fd:Qh) (ps:List Str),mg x=some (.ref f)/\Jv K (.ref f)=true/\Binds K fd ps []/\i9 P w K mg base dX k f fd ps (rq n G)
def bV(n:Nat)(ss:List S):Dl:=cE ss ++ Wm (n - ss.length) none
def cf:Nat->List S->Dl->Option (List S)
 | _,[],_=>some []
 | n,.pure d :: ss,δ=>(cf (n + 1) ss δ).map (.pure d :: ·)
 | n,.own _ :: ss,δ=>match δ[n]? with
  | some (some (.own d'))=>(cf (n + 1) ss δ).map (.own d' :: ·)
  | _=>none
noncomputable def cH:Fl->Option S
 | .next=>some (.pure .bp)
 | .ret r=>some r
 | _=>none
def eN(f:DS)(n:Nat)(ss:List S):Option (S×List S):=match f (bV n ss) with
 | .ok fl δ=>(cH fl).bind λr=>(cf 0 ss δ).map λaT=>(r,aT)
 | _=>none
def cy(np:List Nat):Nat->List S->Bool
 | _,[]=>true
 | n,.own _ :: ss=>np.contains n && cy np (n + 1) ss
 | n,.pure _ :: ss=>cy np (n + 1) ss
theorem x8:∀ {n:Nat} {ss:List S} {j:Nat} {d:D},cy np n ss=true->ss[j]? = some (.own d)->np.contains (n + j)=true
 | n,[],j,d,_,h=>by simp at h
 | n,s :: ss,0,d,h,e=>by
  simp at e;subst e;simp only[cy,WE] at h;exact h.1
 | n,s :: ss,j + 1,d,h,e=>by
  have h':cy np (n + 1) ss=true:=by
   cases s with
   | pure d=>exact h
   | own d=>simp only[cy,WE] at h; exact h.2
  have:=x8 (n:=n + 1) (j:=j) h' (~~~e);rw[show n + (j + 1)=n + 1 + j by lia];exact this
theorem uL:∀ {n:Nat} {ss aT:List S} {δ:Dl},cf n ss δ=some aT->aT.length=ss.length/\∀ i s,ss[i]? = some s->(∃ d,s = .pure d/\aT[i]? = some (.pure d))\/∃ d d',s = .own d/\δ[n + i]? = some (some (.own d'))/\aT[i]? = some (.own d')
 | n,[],aT,δ,h=>by
  simp only[cf,We] at h;subst h;exact⟨rfl,λi s e=>by simp at e⟩
 | n,.pure d :: ss,aT,δ,h=>by
  simp only[cf] at h
  cases e:cf (n + 1) ss δ with
  | none=>rw[e] at h; cases h
  | some os =>
   rw[e] at h;simp only[WI,We] at h;subst h;obtain⟨h1,h2⟩:=uL e;refine⟨#v[h1],λi s es=>?_⟩
   cases i with
   | zero=>simp at es; subst es; exact .inl ⟨d,rfl,rfl⟩
   | succ i =>
    rcases h2 i s (~~~es) with ⟨d,z1,z2⟩ | ⟨d,d',z1,z2,z3⟩
    ·exact .inl ⟨d,z1,~~~z2⟩
    ·exact .inr ⟨d,d',z1,%[show n + (i + 1)=n + 1 + i by lia|z2],~~~z3⟩
 | n,.own d :: ss,aT,δ,h=>by
  simp only[cf] at h;split at h
  ·rename_i d' ed
   cases e:cf (n + 1) ss δ with
   | none=>rw[e] at h; cases h
   | some os =>
    rw[e] at h;simp only[WI,We] at h;subst h;obtain⟨h1,h2⟩:=uL e;refine⟨#v[h1],λi s es=>?_⟩
    cases i with
    | zero=>simp at es; subst es; exact .inr ⟨d,d',rfl,ed,rfl⟩
    | succ i =>
     rcases h2 i s (~~~es) with ⟨d,z1,z2⟩ | ⟨d,d',z1,z2,z3⟩
     ·exact .inl ⟨d,z1,~~~z2⟩
     ·exact .inr ⟨d,d',z1,%[show n + (i + 1)=n + 1 + i by lia|z2],~~~z3⟩
  ·cases h
section
variable {aT:List S}
theorem md{α:Type}{l:List (Option α)}{k}{v:α}(h:(l ++ Wm k none)[i]? = some (some v)):l[i]? = some (some v):=by
 by_cases hi:i < l.length
 ·rw[Q8 hi] at h; exact h
 ·rw[Jl Y',List.getElem?_replicate] at h;split at h <;> cases h
theorem k4{α:Type}{l:List (Option α)}{k}{v:α}(h:l[i]? = some (some v)):(l ++ Wm k none)[i]? = some (some v):=by
 have hi:i < l.length:=(W6.mp h).1;rw[Q8 hi]; exact h
theorem Own.ext{k}:Own (σ ++ Wm k none) (δ ++ Wm k none) a ↔ Own σ δ a :=
 ⟨λ⟨i,d,e1,e2⟩=>⟨i,d,md e1,md e2⟩,λ⟨i,d,e1,e2⟩=>⟨i,d,k4 e1,k4 e2⟩⟩
theorem Ok.ext(k:Ok c σ δ H)(n):Ok c (σ ++ Wm n none) (δ ++ Wm n none) H:=by
 have sub:∀ b,Av c (σ ++ Wm n none) (δ ++ Wm n none) b->Av c σ δ b:=λb z=>z.elim .inl λz=>.inr (Own.ext.mp z)
 refine⟨k.keep,k.bd,k.dZ,#v[k.len],λi d e=>?_,λi d e=>?_,λi j a d d' e1 e2 e3 e4=>k.inj i j a d d' (md e1) (md e2) (md e3) (md e4),λp hm=>k4 (k.pinned p hm)⟩
 ·obtain⟨v,h1,h2⟩:=k.slot i d (md e);exact⟨v,k4 h1,h2.aM λb z=>.inl (sub b z)⟩
 ·obtain⟨a,h1,h2,h3⟩:=k.own i d (md e);exact⟨a,k4 h1,h2.aM λb z=>.inl (sub b z),h3⟩
theorem pw(hc:c = ⟨H,B,c_ 0 ss vs,λ_ _=>False⟩)(k:Ok c (cD vs) (cE ss) H)(x:aS c (cD vs ++ Wm n none) (cE ss ++ Wm n none) H σ' δ' H')(ho:cf 0 ss δ'=some aT) :
  aS c (cD vs) (cE ss) H (cD vs) (cE aT) H'/\∀ v r,bD c σ' δ' H H' v r->bD c (cD vs) (cE aT) H H' v r:=by
 obtain⟨hlen,hat⟩:=uL ho;have jL:ss.length=vs.length:=by have:=k.len; simpa using this
 have pin:∀ (i:Nat) (a:Addr) (d:D),ss[i]? = some (.own d)->vs[i]? = some (.ref a)->σ'[i]? = some (some (.ref a)):=λi a d h1 h2=>by
  have:=uK (n:=0) h1 h2;rw[WU] at this;exact x.ok.pinned (i,a) %[hc|this]
 have uM:∀ (i:Nat) (d:D),aT[i]? = some (.own d)->(∃ d₀,ss[i]? = some (.own d₀))/\δ'[i]? = some (some (.own d)):=λi d e=>by
  have hi:i < ss.length:=by rw[<- hlen]; exact(W6.mp e).1
  rcases hat i ss[i] #v[hi] with ⟨d₁,z1,z2⟩ | ⟨d₁,d',z1,z2,z3⟩
  all_goals grind
 have sub:∀ b,Own (cD vs) (cE aT) b->Own σ' δ' b:=λb ⟨i,d,e1,e2⟩=>by
  obtain⟨⟨d₀,h0⟩,h1⟩:=uM i d (fm.mp e1);exact⟨i,d,h1,pin i b d₀ h0 (fG.mp e2)⟩
 have nJ:∀ b,Av c (cD vs) (cE aT) b->Av c σ' δ' b:=λb z=>z.elim .inl λz=>.inr (sub b z)
 have Dv:∀ {c':Fc},c'.pin=c.pin->Ok c' σ' δ' H'->(∀ b,c.B b->c'.B b)->(∀ (i:Nat) d v,ss[i]? = some (.pure d)->vs[i]? = some v->Rep H' (Av c' σ' δ') v d)->Ok c' (cD vs) (cE aT) H':=λ{c'} ep k' hB hsl=>by
  have Dw:∀ b,Av c' (cD vs) (cE aT) b->Av c' σ' δ' b:=λb z=>z.elim .inl λz=>.inr (sub b z)
  refine⟨k'.keep,k'.bd,k'.dZ,#v[hlen,jL],λi d e=>?_,λi d e=>?_,λi j a d d' e1 e2 e3 e4=>?_,λp hm=>?_⟩
  ·have e':=fm.mp e;have hi:i < ss.length:=by rw[<- hlen]; exact(W6.mp e').1
   have hv:i < vs.length:=by lia
   rcases hat i ss[i] #v[hi] with ⟨d₁,z1,z2⟩ | ⟨d₁,d',z1,z2,z3⟩
   ·rw[e'] at z2; cases z2
    exact⟨vs[i],#v[hv],(hsl i d vs[i] (by rw[Wb hi,z1]) #v[hv]).aM λb z=>.inl (Dw b z)⟩
   grind
  ·have e':=fm.mp e;obtain⟨⟨d₀,h0⟩,h1⟩:=uM i d e';obtain⟨a₀,h2,_⟩:=k.own i d₀ (fm.mpr h0);obtain⟨a,h3,h4,h5⟩:=k'.own i d h1;rw[pin i a₀ d₀ h0 (fG.mp h2)] at h3
   cases h3;exact⟨a₀,h2,h4.aM λb z=>.inl (Dw b z),h5⟩
  ·obtain⟨⟨d₀,h0⟩,h1⟩:=uM i d (fm.mp e1);obtain⟨⟨d₁,h2⟩,h3⟩:=uM j d' (fm.mp e2);exact k'.inj i j a d d' h1 h3 (pin i a d₀ h0 (fG.mp e3)) (pin j a d₁ h2 (fG.mp e4))
  ·exact k.pinned p (by rw[<- ep]; exact hm)
 have slots:∀ (i:Nat) d v,ss[i]? = some (.pure d)->vs[i]? = some v->Rep H' (Av c σ' δ') v d:=λi d v h1 h2=>by
  obtain⟨w,e1,r⟩:=(k.ext n).slot i d (k4 (fm.mpr h1));rw[k4 (fG.mpr h2)] at e1
  cases e1;exact Rep.d_ r x
 refine⟨⟨Dv rfl x.ok (λ_ z=>z) slots,λa o e m=>x.keep a o e λz=>m (Own.ext.mp z),λa z=>(x.own a (sub a z)).elim (λz=>.inl (Own.ext.mp z)) .inr,x.there⟩,λv r hr=>?_⟩
 cases r with
 | pure d=>exact Rep.aM hr λb z=>.inl (nJ b z)
 | own d =>
  obtain⟨a,ea,o,nb,h0,kp,hs⟩:=hr;refine⟨a,ea,o.aM λb z=>.inl (z.elim .inl λz=>.inr (sub b z)),nb,h0,Dv rfl kp (λ_ z=>.inl z) λi d v h1 h2=>?_,hs⟩;obtain⟨w,e1,r⟩:=(k.ext n).slot i d (k4 (fm.mpr h1));rw[k4 (fG.mpr h2)] at e1
  cases e1;have px:H a=none:=hs;have r1:Rep H (Av c (cD vs ++ Wm n none) (cE ss ++ Wm n none)) v d:=r;have r2:Rep H (λb=>Av c (cD vs ++ Wm n none) (cE ss ++ Wm n none) b\/Av (c.plus a) σ' δ' b) v d:=r1.aM λb z=>by
   rcases z with z | (z | z) | z
   ·exact .inl z
   ·exact .inl (.inl z)
   ·exact .inr %[z|px]
   ·rcases x.own b z with q | q
    ·exact .inl (.inr q)
    ·exact .inr q
  exact(r2.keep λb o e m=>x.keep b o e λz=>m (.inl (.inr z))).aM λb z=>.inl (.inr z)
end
theorem O0{st f k fb}(F:eB K x qual st f fd)(S:gj N ps (bM st))
  (dW:∀ c aU (A:Wv) outer (s:W4) H E,cQ k (A.deeper (Jo qual (bM st) s.heap.objs.size f aU))->Np c np->eM (fU dX P w K mg base N qual (bM st) f aU A outer s H E).gF c (eA st) fb)
  (hG:∀ ss y,G ss=some y->cy np 0 ss=true/\eN fb N.length ss=some y):i9 P w K mg base dX (k + 1) f fd ps (rq ps.length G):=by
 refine F.ok S (λvs H Q E h=>?_) λaU A outer s H vs Q E hr h=>?_
 ·obtain⟨ss,B,hl,_⟩:=h;exact hl
 ·obtain⟨ss,B,hl,ok,r,aT,hg,q⟩:=h;obtain⟨fH,hrun⟩:=hG ss _ hg;have jL:ss.length=vs.length:=by have:=ok.len; simpa using this
  have x9:Np ⟨H,B,c_ 0 ss vs,λ_ _=>False⟩ np:=λp hp=>by
   obtain⟨j,d,e,h1,_⟩:=nN (i:=p.1) (a:=p.2) hp;rw[e];exact x8 fH h1
  refine⟨nD ⟨H,B,c_ 0 ss vs,λ_ _=>False⟩ fb,dW ⟨H,B,c_ 0 ss vs,λ_ _=>False⟩ aU A outer s H E hr x9,?_⟩;have c9:gk N vs=cD vs ++ Wm (N.length - ss.length) none:=by rw[jL]; rfl
  refine⟨bV N.length ss,%[c9|ok.ext _],?_⟩;unfold eN at hrun;unfold eC
  cases e:fb (bV N.length ss) with
  | exc x δx=>rw[e] at hrun; cases hrun
  | stuck=>rw[e] at hrun; cases hrun
  | ok fl δ' =>
   rw[e] at hrun;show ∀ σ' H',aS _ (gk N vs) (bV N.length ss) H σ' δ' H'->fin _ _ σ' δ' H' fl;intro σ' H' a;rw[c9] at a;simp only at hrun
   cases fl with
   | brk=>cases hrun
   | cont=>cases hrun
   | next =>
    simp only[cH,WT] at hrun
    cases eo:cf 0 ss δ' with
    | none=>rw[eo] at hrun; cases hrun
    | some os =>
     rw[eo] at hrun
     cases hrun;obtain⟨l1,l2⟩:=pw rfl ok a eo;exact q .bp H' l1 .bp
   | ret r' =>
    simp only[cH,WT] at hrun
    cases eo:cf 0 ss δ' with
    | none=>rw[eo] at hrun; cases hrun
    | some os =>
     rw[eo] at hrun
     cases hrun;obtain⟨l1,l2⟩:=pw rfl ok a eo;exactλv rv=>q v H' l1 (l2 v _ rv)
theorem uN{st f k fb}(F:eB K x qual st f fd)(hm:mg x=some (.ref f))(hb:Binds K fd ps [])(S:gj N ps (bM st))
  (dW:∀ c aU (A:Wv) outer (s:W4) H E,cQ k (A.deeper (Jo qual (bM st) s.heap.objs.size f aU))->Np c np->eM (fU dX P w K mg base N qual (bM st) f aU A outer s H E).gF c (eA st) fb)
  (hG:∀ ss y,G ss=some y->cy np 0 ss=true/\eN fb N.length ss=some y):bK P w K mg base (k + 1) x ps.length G:=⟨f,fd,ps,hm,F.kp,hb,O0 F S dW hG⟩
inductive Ak where
 | val (f:DE)
 | io (i:Nat)
variable {as:List Ak}
def bY:List Ak->Dl->Rs (List (Option D))
 | [],δ=>.ok [] δ
 | .val f :: r,δ=>(f δ).bind λx δ1=>(bY r δ1).bind λxs δ2=>.ok (some x.d :: xs) δ2
 | .io _ :: r,δ=>(bY r δ).bind λxs δ2=>.ok (none :: xs) δ2
inductive iQ (c:Fc) (σ:St) (δ:Dl) (H:Hp):List V->List Ak->List (Option D)->Prop
 | nil:iQ c σ δ H [] [] []
 | val {v:V} {d:D} {f:DE} {vs:List V} {as:List Ak} {ds:List (Option D)}:Rep H (Av c σ δ) v d->iQ c σ δ H vs as ds->iQ c σ δ H (v :: vs) (.val f :: as) (some d :: ds)
 | io {v:V} {i:Nat} {vs:List V} {as:List Ak} {ds:List (Option D)}:σ[i]? = some (some v)->iQ c σ δ H vs as ds->iQ c σ δ H (v :: vs) (.io i :: as) (none :: ds)
def tX(c:Fc)(as:List Ak):TA:=λσ H Q=>∃ δ,Ok c σ δ H/\(∀ i,Ak.io i ∈ as->∃ v,σ[i]? = some (some v))/\post c (bY as δ) λds δ'=>∀ vs H',aS c σ δ H σ δ' H'->iQ c σ δ' H' vs as ds->Q vs H'
abbrev SX(X:Cx)(c:Fc)(es:List Expr)(as:List Ak):Prop:=PA X es (tX c as)
theorem me{X c}:SX X c [] []:=PA.weak g8 λσ H Q ⟨δ,k,_,q⟩=>q [] H (.refl k) .nil
theorem O1(ha:SE X c e fe)(hr:SX X c es as)(hs:Wd (e :: es) X.env=(false,eval e X.env) :: Wd es X.env:=by rfl):SX X c (e :: es) (.val fe :: as):=PA.weak (fc ha hr hs) λσ H Q ⟨δ,k,fH,q⟩=>by
 unfold bY at q;rw[bA] at q;refine⟨δ,k,aX q λx δ1 q1 v H1 a1 r1=>⟨δ1,a1.ok,λi hi=>fH i (Wg _ hi),?_⟩⟩;rw[bA] at q1;exact aX q1 λxs δ2 q2 vs H2 a2 r2=>q2 (v :: vs) H2 (a1.trans a2) (.val (Rep.d_ r1.rep a2) r2)
theorem O2(ha:PE X e (dD i))(hr:SX X c es as)(hs:Wd (e :: es) X.env=(false,eval e X.env) :: Wd es X.env:=by rfl):SX X c (e :: es) (.io i :: as):=PA.weak (fc ha hr hs) λσ H Q ⟨δ,k,fH,q⟩=>by
 obtain⟨v,ev⟩:=fH i Wp;unfold bY at q;rw[bA] at q;exact⟨v,ev,δ,k,λi hi=>fH i (Wg _ hi),aX q λxs δ2 q2 vs H2 a2 r2=>q2 (v :: vs) H2 a2 (.io ev r2)⟩
def bJ:List Ak->List (Option D)->Dl->Option (List S)
 | [],[],_=>some []
 | .val _ :: as,some d :: ds,δ=>(bJ as ds δ).map (.pure d :: ·)
 | .io i :: as,none :: ds,δ=>match δ[i]? with
  | some (some (.own d))=>(bJ as ds δ).map (.own d :: ·)
  | _=>none
 | _,_,_=>none
def bF:List Ak->List Nat
 | []=>[]
 | .val _ :: as=>bF as
 | .io i :: as=>i :: bF as
def bc:List Ak->List S->Dl->Dl
 | .io i :: as,r :: rs,δ=>bc as rs (δ.set i (some r))
 | .val _ :: as,_ :: rs,δ=>bc as rs δ
 | _,_,δ=>δ
def cz:List Nat->Bool
 | []=>true
 | i :: r=>!r.contains i && cz r
def aE(G:DF)(as:List Ak):DE:=λδ=>if (bF as).all (bN δ) && cz (bF as) then(bY as δ).bind λds δ1=>match bJ as ds δ1 with
  | none=>.stuck
  | some ss=>match G ss with
   | none=>.stuck
   | some (r,aT)=>.ok r (bc as aT δ1)
 else .stuck
theorem Dx:∀ {l:List Nat},cz l=true->l.Nodup
 | [],_=>.nil
 | i :: r,h=>by
  simp only[cz,WE,Bool.not_eq_true'] at h;exact WN.mpr ⟨λhm=>by have:=h.1; simp at this; exact this hm,Dx h.2⟩
theorem mf:∀ {as:List Ak} {i:Nat},i ∈ bF as ↔ Ak.io i ∈ as
 | [],i=>#v[bF]
 | .val f :: as,i=>#v[bF,mf (as:=as)]
 | .io j :: as,i=>#v[bF,mf (as:=as)]
theorem x_:∀ {as:List Ak} {i j k:Nat},(bF as).Nodup->as[j]? = some (.io i)->as[k]? = some (.io i)->j=k
 | [],i,j,k,_,h,_=>by simp at h
 | .val f :: as,i,j,k,nd,h1,h2=>by
  cases j with
  | zero=>simp at h1
  | succ j =>
   cases k with
   | zero=>simp at h2
   | succ k=>exact congrArg (· + 1) (x_ (as:=as) nd (~~~h1) (~~~h2))
 | .io n :: as,i,j,k,nd,h1,h2=>by
  have iR:=WN.mp nd
  cases j with
  | zero =>
   grind[mf]
  | succ j =>
   cases k with
   | zero =>
    grind[mf]
   | succ k=>exact congrArg (· + 1) (x_ (as:=as) iR.2 (~~~h1) (~~~h2))
section
variable {ds:List (Option D)}
theorem uO(h:iQ c σ δ H vs as ds):∀ {ss:List S},bJ as ds δ=some ss->ss.length=vs.length/\as.length=vs.length/\∀ (j:Nat) s v,ss[j]? = some s->vs[j]? = some v ->
  (∃ d f,s = .pure d/\as[j]? = some (.val f)/\Rep H (Av c σ δ) v d)\/∃ d i,s = .own d/\as[j]? = some (.io i)/\σ[i]? = some (some v)/\δ[i]? = some (some (.own d)):=by
 induction h with
 | nil =>
  intro ss h;simp only[bJ,We] at h;subst h;exact⟨rfl,rfl,λj s v e _=>by simp at e⟩
 | @val v d f vs as ds r _ ih =>
  intro ss h;simp only[bJ] at h
  cases e:bJ as ds δ with
  | none=>rw[e] at h; cases h
  | some rs =>
   rw[e] at h;simp only[WI,We] at h;subst h;obtain⟨h1,h2,h3⟩:=ih e;refine⟨#v[h1],#v[h2],λj s v' e1 e2=>?_⟩
   cases j with
   | zero=>simp at e1 e2; subst e1 e2; exact .inl ⟨d,f,rfl,rfl,r⟩
   | succ j=>simpa using h3 j s v' (~~~e1) (~~~e2)
 | @io v i vs as ds ev _ ih =>
  intro ss h;simp only[bJ] at h;split at h
  ·rename_i d ed
   cases e:bJ as ds δ with
   | none=>rw[e] at h; cases h
   | some rs =>
    rw[e] at h;simp only[WI,We] at h;subst h;obtain⟨h1,h2,h3⟩:=ih e;refine⟨#v[h1],#v[h2],λj s v' e1 e2=>?_⟩
    cases j with
    | zero=>simp at e1 e2; subst e1 e2; exact .inr ⟨d,i,rfl,rfl,ev,ed⟩
    | succ j=>simpa using h3 j s v' (~~~e1) (~~~e2)
  ·cases h
theorem ya:∀ as rs (δ:Dl),(bc as rs δ).length=δ.length
 | [],rs,δ=>#v[bc]
 | .val f :: as,[],δ=>#v[bc]
 | .io i :: as,[],δ=>#v[bc]
 | .val f :: as,r :: rs,δ=>#v[bc,ya as rs δ]
 | .io i :: as,r :: rs,δ=>#v[bc,ya as rs]
theorem rA:∀ as rs (δ:Dl) i,i ∉ bF as->(bc as rs δ)[i]? = δ[i]?
 | [],rs,δ,i,_=>#v[bc]
 | .val f :: as,[],δ,i,_=>#v[bc]
 | .io j :: as,[],δ,i,_=>#v[bc]
 | .val f :: as,r :: rs,δ,i,h=>%[bc|rA as rs δ i h]
 | .io j :: as,r :: rs,δ,i,h=>by
  simp only[bF,Wu,not_or] at h;rw[bc,rA as rs _ i h.2,W9 (Ne.symm h.1)]
theorem uP:∀ (as:List Ak) (rs:List S) (δ:Dl) (i j:Nat) (r:S),(bF as).Nodup->as[j]? = some (.io i)->rs[j]? = some r->i < δ.length->(bc as rs δ)[i]? = some (some r)
 | [],rs,δ,i,j,r,_,h,_,_=>by simp at h
 | a :: as,[],δ,i,j,r,_,_,h,_=>by simp at h
 | .val f :: as,r0 :: rs,δ,i,j,r,nd,h1,h2,hi=>by
  cases j with
  | zero=>simp at h1
  | succ j=>rw[bc]; exact uP as rs δ i j r nd (~~~h1) (~~~h2) hi
 | .io k :: as,r0 :: rs,δ,i,j,r,nd,h1,h2,hi=>by
  have iR:=WN.mp nd
  cases j with
  | zero =>
   simp at h1 h2;subst h1 h2;rw[bc,rA as rs _ k iR.1,Wr hi]
  | succ j=>rw[bc]; exact uP as rs _ i j r iR.2 (~~~h1) (~~~h2) (~~~hi)
theorem Dy(k:Ok c σ δ H)(hr:iQ c σ δ H vs as ds)(hm:bJ as ds δ=some ss)(nd:(bF as).Nodup) :
  Ok ⟨H,λa=>Av c σ δ a/\¬ ∃ (j:Nat) (d:D),ss[j]? = some (S.own d)/\vs[j]? = some (V.ref a),c_ 0 ss vs,λ_ _=>False⟩ (cD vs) (cE ss) H:=by
 obtain⟨h1,h2,h3⟩:=uO hr hm;have at':∀ (j:Nat) s,ss[j]? = some s->∃ v,vs[j]? = some v:=λj s e=>by
  have:j < vs.length:=by rw[<- h1]; exact(W6.mp e).1
  simp_all
 have rC:∀ a,Own (cD vs) (cE ss) a ↔ ∃ (j:Nat) (d:D),ss[j]? = some (S.own d)/\vs[j]? = some (V.ref a):=λa =>
  ⟨λ⟨j,d,e1,e2⟩=>⟨j,d,fm.mp e1,fG.mp e2⟩,λ⟨j,d,e1,e2⟩=>⟨j,d,fm.mpr e1,fG.mpr e2⟩⟩
 have Dz:∀ a,Own (cD vs) (cE ss) a->Own σ δ a:=λa z=>by
  obtain⟨j,d,e1,e2⟩:=(rC a).mp z;rcases h3 j _ _ e1 e2 with ⟨d',f,e,_⟩ | ⟨d',i,e,_,es,ed⟩
  ·cases e
  ·exact⟨i,d',ed,es⟩
 have sub:∀ a,Av ⟨H,λa=>Av c σ δ a/\¬ ∃ (j:Nat) (d:D),ss[j]? = some (S.own d)/\vs[j]? = some (V.ref a),c_ 0 ss vs,λ_ _=>False⟩ (cD vs) (cE ss) a->Av c σ δ a:=λa z=>z.elim (λz=>z.1) λz=>.inr (Dz a z)
 refine⟨λa o e _=>e,λa z=>k.uk z.1,λa ⟨i,hi⟩=>?_,#v[h1],λj d e=>?_,λj d e=>?_,λi j a d d' e1 e2 e3 e4=>?_,λp hp=>?_⟩
 ·obtain⟨j,d,_,e1,e2⟩:=nN hi;exact k.qM (Dz a ((rC a).mpr ⟨j,d,e1,e2⟩))
 ·have e':=fm.mp e;obtain⟨v,ev⟩:=at' j _ e';rcases h3 j _ v e' ev with ⟨d',f,e,_,r⟩ | ⟨d',i,e,_⟩
  ·cases e;exact⟨v,fG.mpr ev,r.aM λb z=>.inl (sub b z)⟩
  ·cases e
 ·have e':=fm.mp e;obtain⟨v,ev⟩:=at' j _ e';rcases h3 j _ v e' ev with ⟨d',f,e,_,r⟩ | ⟨d',i,e,_,es,ed⟩
  ·cases e
  ·cases e;obtain⟨a,g1,g2,g3⟩:=k.own i d ed;rw[es] at g1
   cases g1;refine⟨a,fG.mpr ev,g2.aM λb z=>.inl (sub b z),.inl ⟨0 + j,uK e' ev⟩,λz=>z.2 ⟨j,d,e',ev⟩⟩
 ·have f1:=fm.mp e1;have f2:=fm.mp e2;rcases h3 i _ _ f1 (fG.mp e3) with ⟨_,_,e,_⟩ | ⟨d1,i1,e,a1,s1,x1⟩
  ·cases e
  ·rcases h3 j _ _ f2 (fG.mp e4) with ⟨_,_,e',_⟩ | ⟨d2,i2,e',a2,s2,x2⟩
   ·cases e'
   ·have:=k.inj i1 i2 a d1 d2 x1 x2 s1 s2;subst this;exact x_ nd a1 a2
 ·obtain⟨j,d,e,e1,e2⟩:=nN (i:=p.1) (a:=p.2) hp;rw[WU] at e;rw[e];exact fG.mpr e2
theorem DC(k:Ok c σ δ H)(hr:iQ c σ δ H vs as ds)(hm:bJ as ds δ=some ss)(nd:(bF as).Nodup)(hB:B=λa=>Av c σ δ a/\¬ ∃ (j:Nat) (d:D),ss[j]? = some (S.own d)/\vs[j]? = some (V.ref a))
  (x:aS ⟨H,B,c_ 0 ss vs,λ_ _=>False⟩ (cD vs) (cE ss) H (cD vs) (cE aT) H') (fH:∀ (j:Nat) d,ss[j]? = some (.own d)->∃ d',aT[j]? = some (.own d')) (Zw:∀ (j:Nat) d,ss[j]? = some (.pure d)->∃ d',aT[j]? = some (.pure d')) :
  aS c σ δ H σ (bc as aT δ) H'/\∀ v r,bD ⟨H,B,c_ 0 ss vs,λ_ _=>False⟩ (cD vs) (cE aT) H H' v r->bD c σ (bc as aT δ) H H' v r:=by
 obtain⟨h1,h2,h3⟩:=uO hr hm;have uQ:∀ i,i ∈ bF as->∃ (j:Nat) (d:D) (a:Addr),as[j]? = some (.io i)/\ss[j]? = some (.own d)/\vs[j]? = some (.ref a)/\σ[i]? = some (some (.ref a))/\δ[i]? = some (some (.own d)):=λi hi=>by
  obtain⟨j,hj,ej⟩:=List.mem_iff_getElem.mp (mf.mp hi);have hv:j < vs.length:=by lia
  have hs:j < ss.length:=by lia
  have DH:as[j]? = some (.io i):=by rw[Wb hj,ej]
  rcases h3 j ss[j] vs[j] #v[hs] #v[hv] with ⟨d,f,e,a1,_⟩ | ⟨d,i',e,a1,s1,x1⟩
  ·grind
  ·rw[DH] at a1; cases a1
   obtain⟨a,g1,_⟩:=k.own i d x1;rw[s1] at g1;have g2:vs[j] = .ref a:=by
    have:=WZ g1;exact WZ this
   exact⟨j,d,a,DH,by rw[Wb hs,e],by rw[Wb hv,g2],by rw[s1,g2],x1⟩
 have uR:∀ a,(∃ (j:Nat) (d:D),ss[j]? = some (S.own d)/\vs[j]? = some (V.ref a))->Own σ δ a:=λa ⟨j,d,e1,e2⟩=>by
  rcases h3 j _ _ e1 e2 with ⟨d',f,e,_⟩ | ⟨d',i,e,_,es,ed⟩
  ·cases e
  ·exact⟨i,d',ed,es⟩
 have Zx:∀ a,(⟨H,B,c_ 0 ss vs,λ_ _=>False⟩:Fc).I a ↔ ∃ (j:Nat) (d:D),ss[j]? = some (S.own d)/\vs[j]? = some (V.ref a):=λa =>
  ⟨λ⟨i,hi⟩=>by obtain⟨j,d,_,e1,e2⟩:=nN hi; exact⟨j,d,e1,e2⟩,λ⟨j,d,e1,e2⟩=>⟨0 + j,uK e1 e2⟩⟩
 have ownIn:∀ a,Own (cD vs) (cE ss) a->∃ (j:Nat) (d:D),ss[j]? = some (S.own d)/\vs[j]? = some (V.ref a):=λa ⟨j,d,e1,e2⟩=>⟨j,d,fm.mp e1,fG.mp e2⟩
 -- the owned addresses are the same
 have uS:∀ (i:Nat) (d:D),(bc as aT δ)[i]? = some (some (.own d))->(i ∉ bF as/\δ[i]? = some (some (.own d)))\/(i ∈ bF as/\∃ (j:Nat) (d0:D) (a:Addr),as[j]? = some (.io i)/\ss[j]? = some (.own d0)/\vs[j]? = some (.ref a)/\σ[i]? = some (some (.ref a))/\aT[j]? = some (.own d)):=λi d e=>by
  by_cases hi:i ∈ bF as
  ·right
   obtain⟨j,d0,a,a1,a2,a3,a4,a5⟩:=uQ i hi;obtain⟨d',ed'⟩:=fH j d0 a2;have bu:i < δ.length:=(W6.mp a5).1;have:=uP as aT δ i j (.own d') nd a1 ed' bu;rw[e] at this
   cases this;exact⟨hi,j,d0,a,a1,a2,a3,a4,ed'⟩
  ·rw[rA as aT δ i hi] at e;exact .inl ⟨hi,e⟩
 have rD:∀ b,Own σ (bc as aT δ) b->Own σ δ b:=λb ⟨i,d,e1,e2⟩=>by
  rcases uS i d e1 with ⟨_,e⟩ | ⟨hi,j,d0,a,_,a2,a3,a4,_⟩
  ·exact⟨i,d,e,e2⟩
  grind
 have O3:∀ (i:Nat) (d:D),(bc as aT δ)[i]? = some (some (.pure d))->i ∉ bF as/\δ[i]? = some (some (.pure d)):=λi d e=>by
  by_cases hi:i ∈ bF as
  ·obtain⟨j,d0,a,a1,a2,a3,a4,a5⟩:=uQ i hi;obtain⟨d',ed'⟩:=fH j d0 a2;have bu:i < δ.length:=(W6.mp a5).1;have:=uP as aT δ i j (.own d') nd a1 ed' bu;rw[e] at this
   cases this
  ·rw[rA as aT δ i hi] at e;exact⟨hi,e⟩
 have DJ:∀ a o,H a=some o->¬ Av c σ δ a->H' a=some o:=λa o e n=>x.keep a o e λz=>n (.inr (uR a (ownIn a z)))
 have nJ:∀ b,Av c σ (bc as aT δ) b->Av c σ δ b:=λb z=>z.elim .inl λz=>.inr (rD b z)
 -- the callee's set holds ours
 have big:∀ {c':Fc},c'.B=B->∀ b,Av c σ δ b->Av c' (cD vs) (cE aT) b:=λ{c'} hB' b z=>by
  by_cases hp:∃ (j:Nat) (d:D),ss[j]? = some (S.own d)/\vs[j]? = some (V.ref b)
  ·obtain⟨j,d,e1,e2⟩:=hp;obtain⟨d',ed'⟩:=fH j d e1;exact .inr ⟨j,d',fm.mpr ed',fG.mpr e2⟩
  ·exact .inl (by rw[hB',hB]; exact⟨z,hp⟩)
 have DK:∀ (c1 c2:Fc),c1.H₀=c.H₀->c1.pin=c.pin->(∀ b,c1.B b->c.B b\/(c2.B b/\H b=none))->c2.pin=c_ 0 ss vs->(∀ b,B b->c2.B b)->Ok c2 (cD vs) (cE aT) H'->(∀ b,c1.B b->∃ o,H' b=some o)->Ok c1 σ (bc as aT δ) H':=λc1 c2 e0 e1 e2 e3 e4 k2 hex=>by
  have DM:∀ b,Av c1 σ (bc as aT δ) b->Av c σ δ b\/H b=none:=λb z=>by
   rcases z with z | z
   ·rcases e2 b z with z | ⟨_,z⟩
    ·exact .inl (.inl z)
    ·exact .inr z
   ·exact .inl (.inr (rD b z))
  have um:∀ b,Av c1 σ (bc as aT δ) b->Av c2 (cD vs) (cE aT) b:=λb z=>by
   have bg:∀ b,Av c σ δ b->Av c2 (cD vs) (cE aT) b:=λb z=>by
    by_cases hp:∃ (j:Nat) (d:D),ss[j]? = some (S.own d)/\vs[j]? = some (V.ref b)
    ·obtain⟨j,d,e1,e2⟩:=hp;obtain⟨d',ed'⟩:=fH j d e1;exact .inr ⟨j,d',fm.mpr ed',fG.mpr e2⟩
    ·exact .inl (e4 b (by rw[hB]; exact⟨z,hp⟩))
   rcases z with z | z
   ·rcases e2 b z with z | ⟨z,_⟩
    ·exact bg b (.inl z)
    ·exact .inl z
   ·exact bg b (.inr (rD b z))
  have O4:∀ {v:V} {d:D},Rep H (Av c σ δ) v d->Rep H' (Av c1 σ (bc as aT δ)) v d:=λ{v d} r=>by
   have r1:Rep H (λb=>Av c σ δ b\/Av c1 σ (bc as aT δ) b) v d:=r.aM λb z=>z.elim .inl (DM b)
   exact(r1.keep λb o e n=>DJ b o e λz=>n (.inl z)).aM λb z=>.inl (.inr z)
  refine⟨λa o e n=>?_,hex,λa z=>?_,%[ya|k.len],λi d e=>?_,λi d e=>?_,λi j a d d' f1 f2 f3 f4=>?_,%[e1|k.pinned]⟩
  ·rw[e0] at e;have n':¬ c.I a:=λz=>n (by unfold Fc.I at z ⊢; rw[e1]; exact z)
   refine x.keep a o (k.keep a o e n') λz=>?_
   obtain⟨i,d,g1,g2⟩:=uR a (ownIn a z);obtain⟨a',g3,_,g4,_⟩:=k.own i d g1;grind
  ·have z':c.I a:=by unfold Fc.I at z ⊢; rw[<- e1]; exact z
   obtain⟨o,e⟩:=k.dZ a z';exact x.there a o e
  ·obtain⟨hi,e'⟩:=O3 i d e;obtain⟨v,g1,g2⟩:=k.slot i d e';exact⟨v,g1,O4 g2⟩
  ·rcases uS i d e with ⟨hi,e'⟩ | ⟨hi,j,d0,a,b1,b2,b3,b4,b5⟩
   ·obtain⟨a,g1,g2,g3,g4⟩:=k.own i d e';have na:¬ Own (cD vs) (cE ss) a:=λz=>by
     obtain⟨j,d1,q1,q2⟩:=ownIn a z;rcases h3 j _ _ q1 q2 with ⟨d',f,ee,_⟩ | ⟨d',i',ee,ai,es,ed⟩
     ·cases ee
     ·have:=k.inj i i' a d d' e' ed g1 es;grind[mf]
    have O5:fg H' (Av c1 σ (bc as aT δ)) a d:=by
     have o1:fg H (λb=>Av c σ δ b\/Av c1 σ (bc as aT δ) b) a d:=g2.aM λb z=>z.elim .inl (DM b)
     exact(o1.keep (λb o e n=>DJ b o e λz=>n (.inl z)) λo e=>x.keep a o e na).aM λb z=>.inl (.inr z)
    refine⟨a,g1,O5,by unfold Fc.I at g3 ⊢; rw[e0,e1]; exact g3,λz=>?_⟩;rcases e2 a z with z | ⟨_,z⟩
    ·exact g4 z
    ·obtain⟨o,eo⟩:=g2.some;rw[z] at eo; cases eo
   ·obtain⟨a',g1,g2,g3,g4⟩:=k2.own j d (fm.mpr b5);rw[fG.mpr b3] at g1
    cases g1;obtain⟨i0,d1,q1,q2⟩:=uR a ⟨j,d0,b2,b3⟩;obtain⟨a'',q3,q4,q5,q6⟩:=k.own i0 d1 q1;rw[q2] at q3; cases q3
    refine⟨a,b4,g2.aM λb z=>.inl (um b z),by unfold Fc.I at q5 ⊢; rw[e0,e1]; exact q5,λz=>?_⟩;grind
  ·obtain⟨d1,g1⟩:∃ d1,δ[i]? = some (some (.own d1)):=by
    rcases uS i d f1 with ⟨_,e'⟩ | ⟨hi,_⟩
    ·exact⟨d,e'⟩
    ·obtain⟨_,d1,_,_,_,_,_,a5⟩:=uQ i hi;exact⟨d1,a5⟩
   obtain⟨d2,g2⟩:∃ d2,δ[j]? = some (some (.own d2)):=by
    rcases uS j d' f2 with ⟨_,e'⟩ | ⟨hi,_⟩
    ·exact⟨d',e'⟩
    ·obtain⟨_,d1,_,_,_,_,_,a5⟩:=uQ j hi;exact⟨d1,a5⟩
   exact k.inj i j a d1 d2 g1 g2 f3 f4
 have O6:Ok c σ (bc as aT δ) H':=DK c ⟨H,B,c_ 0 ss vs,λ_ _=>False⟩ rfl rfl (λb z=>.inl z) rfl (λb z=>z) x.ok λb z=>by
  obtain⟨o,e⟩:=k.bd b z;exact x.there b o e
 refine⟨⟨O6,λa o e n=>x.keep a o e λz=>n (uR a (ownIn a z)),λa z=>.inl (rD a z),x.there⟩,λv r hr=>?_⟩
 cases r with
 | pure d=>exact Rep.aM hr λb z=>.inl (big rfl b (nJ b z))
 | own d =>
  obtain⟨a,ea,o,nb,h0,kp,hs⟩:=hr;have px:H a=none:=hs;have ja:¬ Av c σ δ a:=k.ja px;refine⟨a,ea,o.aM λb z=>.inl ?_,λz=>ja (.inl z),k.nr px,?_,px⟩
  ·rcases z with (z | z) | z
   ·exact(big rfl b (.inl z)).elim (λz=>.inl (.inl z)) .inr
   ·exact .inl (.inr z)
   ·exact(big rfl b (.inr (rD b z))).elim (λz=>.inl (.inl z)) .inr
  ·refine DK (c.plus a) (Fc.plus ⟨H,B,c_ 0 ss vs,λ_ _=>False⟩ a) rfl rfl (λb z=>?_) rfl (λb z=>.inl z) kp λb z=>?_
   ·rcases z with z | z
    ·exact .inl z
    ·exact .inr ⟨.inr z,%[z|px]⟩
   ·rcases z with z | z
    ·obtain⟨o,e⟩:=k.bd b z;exact x.there b o e
    ·rw[z]; exact o.some
end
def jh(G:DF):Prop:=∀ ss r aT,G ss=some (r,aT)->aT.length=ss.length/\∀ (j:Nat),(∀ d,ss[j]? = some (.own d)->∃ d',aT[j]? = some (.own d'))/\∀ d,ss[j]? = some (.pure d)->∃ d',aT[j]? = some (.pure d')
theorem O7{fb}(hG:∀ ss y,G ss=some y->eN fb n ss=some y):jh G:=λss r aT h=>by
 have:=hG ss _ h;unfold eN at this
 cases e:fb (bV n ss) with
 | exc x δx=>rw[e] at this; cases this
 | stuck=>rw[e] at this; cases this
 | ok fl δ =>
  rw[e] at this;simp only at this
  cases e1:cH fl with
  | none=>rw[e1] at this; cases this
  | some r' =>
   rw[e1] at this;simp only[WT] at this
   cases e2:cf 0 ss δ with
   | none=>rw[e2] at this; cases this
   | some os =>
    rw[e2] at this
    cases this;obtain⟨h1,h2⟩:=uL e2;refine⟨h1,λj=>⟨λd ed=>?_,λd ed=>?_⟩⟩
    ·rcases h2 j _ ed with ⟨d',z,_⟩ | ⟨d',d'',_,_,z⟩
     ·cases z
     ·exact⟨d'',z⟩
    ·rcases h2 j _ ed with ⟨d',z,z'⟩ | ⟨d',d'',z,_⟩
     ·exact⟨d',z'⟩
     ·cases z
section
variable {k:Nat}
theorem DO{ps:List Str}(hK:jh G){Q}(hl:as.length=n)(h:tD c (aE G as) σ H Q):wH (rq n G) [] E0 (tX c as) σ H Q:=by
 obtain⟨δ,kk,q⟩:=h;unfold aE at q;split at q
 ·rename_i hc;rw[WE] at hc;have nd:=Dx hc.2;rw[bA] at q;refine⟨δ,kk,λi hi=>?_,aX q λds δ1 q1 vs H1 a1 r1=>?_⟩
  ·have:=Jy.mp hc.1 i (mf.mpr hi);unfold bN at this;split at this
   ·rename_i d ed;exact xE kk ed
   ·cases this
  ·cases em:bJ as ds δ1 with
   | none=>rw[em] at q1; exact q1.elim
   | some ss =>
    rw[em] at q1;simp only at q1
    cases eg:G ss with
    | none=>rw[eg] at q1; exact q1.elim
    | some y =>
     obtain⟨r,aT⟩:=y;rw[eg] at q1;have fY:=Dy a1.ok r1 em nd;obtain⟨m1,m2,_⟩:=uO r1 em;obtain⟨g1,g2⟩:=hK ss r aT eg;refine⟨ss,_,by rw[Ql,<- m2]; exact hl,%[Ql|fY],r,aT,eg,λv H2 a2 r2=>?_⟩;rw[Ql] at a2 r2;obtain⟨o1,o2⟩:=DC a1.ok r1 em nd rfl a2 (λj d ed=>(g2 j).1 d ed) λj d ed=>(g2 j).2 d ed
     exact q1 v H2 (a1.trans o1) (bD.back (o2 v r r2) a1)
 ·exact q.elim
theorem pA{X c e es as k n x G pp pos} (F:bK X.prog X.w X.K X.mg X.base k x n G) (hK:jh G) (hr:cQ k X.A) (hg:Gl X x) (ha:SX X c (e :: es) as) (hl:as.length=n) (gi:(x == ("__debug__" : Str))=false:=by decide)
  (he:Wd (e :: es) X.env=(false,eval e X.env) :: Wd es X.env:=by rfl) (cB:(Qv pos (Wd es X.env)).any (·.1)=false:=by rfl):SE X c (.Call (.Name x pp) (e :: es) [] pos) (aE G as):=by
 obtain⟨f,fd,ps,hm,hk,hb,ok⟩:=F;exact PE.weak (wJ ok hr hg hm hk hb .nil xg ha gi he cB) λσ H Q h=>DO (ps:=ps) hK hl h
end
def bR(np:List Nat)(n:Nat)(b:DS):DF:=λss=>if cy np 0 ss then eN b n ss else none
theorem pB(h:bR np n b ss=some y):cy np 0 ss=true/\eN b n ss=some y:=by
 unfold bR at h;split at h
 ·rename_i hi; exact⟨hi,h⟩
 ·cases h
theorem mh:jh (bR np n b):=O7 λ_ _ h=>(pB h).2
theorem k6(r:cQ k A):A.units + 64 < Qk:=by have:=r.un; lia
theorem mi(h:Np c np)(hc:cs.all (λi=>!np.contains i)=true):∀ p ∈ c.pin,p.1 ∉ cs:=λp hp z=>by
 have h1:=h p hp;grind
def uT:List Str->Bool
 | []=>true
 | x :: r=>!r.contains x && uT r
theorem DQ:∀ {l:List Str},uT l=true->l.Nodup
 | [],_=>.nil
 | x :: r,h=>by
  simp only[uT,WE,Bool.not_eq_true'] at h;exact WN.mpr ⟨λhm=>by have:=h.1; simp at this; exact this hm,DQ h.2⟩
def iS(names:List (Str×NameKind))(x:Str)(k:NameKind):Bool:=match names.lookup x with
 | some j=>j == k
 | none=>false
theorem yb(h:iS names x k=true):names.lookup x=some k:=by
 unfold iS at h;split at h
 ·rename_i j e; rw[e,eq_of_beq h]
 ·cases h
def DU(names:List (Str×NameKind))(N:List Str)(sc:List (Str×NameKind))(cs:List Nat):Bool :=
 sc.all (λx=>!(x.2 == .local) || iS sc x.1 .local) && sc.all (λx=>!(x.2 == .free) || (iS names x.1 .cell || iS names x.1 .free)) && uT (sc.map (·.1)) &&
 (WY N.length).all λi=>match N[i]? with
  | some x=>!(iS sc x .local || iS sc x .cell) || cs.contains i
  | none=>true
theorem O8(h:names.lookup x=some k):iS names x k=true:=by
 unfold iS; rw[h]; simp
theorem mj(hk:scope.kind = .function)(h:DU X.env.scope.names X.N scope.names cs=true):nh X scope cs:=by
 unfold DU at h;simp only[WE] at h;obtain⟨⟨⟨h1,h2⟩,h3⟩,h4⟩:=h;refine⟨hk,λx hx hl=>?_,λx hx hf=>?_,DQ h3,λi x hi hl=>?_⟩
 ·have:=Jy.mp h1 x hx;rw[hl] at this;exact yb (~~~this)
 ·have:=Jy.mp h2 x hx;rw[hf] at this;have:iS X.env.scope.names x.1 .cell=true\/iS X.env.scope.names x.1 .free=true:= ~~~this
  exact this.elim (λz=>.inl (yb z)) λz=>.inr (yb z)
 ·have l9:i < X.N.length:=(W6.mp hi).1;have:=Jy.mp h4 i (List.mem_range.mpr l9);rw[hi] at this;have i7:(iS scope.names x .local || iS scope.names x .cell)=true:=by grind[O8]
  grind
theorem O9 :jH K "int":=⟨rfl,rfl,rfl,rfl,rfl,rfl,rfl⟩
theorem O_ :jH K "bool":=⟨rfl,rfl,rfl,rfl,rfl,rfl,rfl⟩
theorem Pa :jH K "str":=⟨rfl,rfl,rfl,rfl,rfl,rfl,rfl⟩
theorem Pb :jH K "tuple":=⟨rfl,rfl,rfl,rfl,rfl,rfl,rfl⟩
def nQ:Expr->Bool
 | .Starred ..=>false
 | _=>true
theorem pC(h:nQ e=true):Wd (e :: es) env=(false,eval e env) :: Wd es env:=by
 cases e <;> first | (cases h; done) | rw[Wd] | rfl
 all_goals (intros; contradiction)
section
variable {f:DE}{g:DA}
theorem ji{X c e es f g}(ha:SE X c e f)(hr:SA X c es g)(hs:nQ e=true:=by rfl):SA X c (e :: es) (ax f g):=CZ ha hr (pC hs)
theorem hW{X c e es fe as}(ha:SE X c e fe)(hr:SX X c es as)(hs:nQ e=true:=by rfl):SX X c (e :: es) (.val fe :: as):=O1 ha hr (pC hs)
theorem Pc{X c e es as i}(ha:PE X e (dD i))(hr:SX X c es as)(hs:nQ e=true:=by rfl):SX X c (e :: es) (.io i :: as):=O2 ha hr (pC hs)
end
mutual
def j_:Nat->Expr->Option D
 | _,.Constant (.int i) _ _=>some (.int i)
 | _,.Constant (.bool b) _ _=>some (.bl b)
 | _,.Constant .none _ _=>some .bp
 | _,.Constant (.str x) _ _=>some (.str x.cps.toList)
 | n + 1,.Tuple es _ _=>if es.length<=1000 then(ml n es).map .tup else none
 | _,_=>none
def ml:Nat->List Expr->Option (List D)
 | _,[]=>some []
 | n,e :: es=>match j_ n e,ml n es with
  | some d,some ds=>some (d :: ds)
  | _,_=>none
end
theorem Pd:∀ {n:Nat} {e:Expr} {d:D},j_ n e=some d->nQ e=true:=λ{n e d} h=>by
 cases e <;> first | rfl | (cases n <;> simp[j_] at h)
theorem DW{k a b d}(h:j_ n (.Constant k a b)=some d):SE X c (.Constant k a b) (eD d):=by
 cases k <;> cases n <;> simp[j_] at h <;> subst h <;> first | exact nt | exact qN | exact Cy | exact Cz _ (Cv _)
theorem yc(ih:∀ {e:Expr} {d:D},j_ n e=some d->SE X c e (eD d)):∀ {es:List Expr} {ds:List D},ml n es=some ds->SA X c es (λδ=>.ok ds δ)
 | [],ds,h=>by
  simp only[ml,We] at h; subst h; exact lY
 | e :: es,ds,h=>by
  simp only[ml] at h;split at h
  ·rename_i d dY h1 h2
   cases h;exact CZ (ih h1) (yc ih h2) (pC (Pd h1))
  ·cases h
theorem Pe:∀ {e:Expr} {d:D},j_ n e=some d->SE X c e (eD d):=by
 induction n with
 | zero=>intro e d h; cases e <;> first | exact DW h | (simp[j_] at h; done)
 | succ n ih =>
  intro e d h
  cases e <;> first | exact DW h | (simp[j_] at h; done) | skip
  simp only[j_] at h;split at h
  ·rename_i es _ _ hl
   cases e:ml n es with
   | none=>rw[e] at h; cases h
   | some ds =>
    rw[e] at h;simp only[WI,We] at h;subst h;exact oY (yc ih e) hl
  ·cases h
theorem Pf(h:ml n es=some ds):SA X c es (λδ=>.ok ds δ):=yc Pe h
def uU(ds:List D):DE:=λδ=>.ok (.own (.lst ds)) δ
theorem Pg{X c}{es:List Expr}{ds pos}(h:ml 9 es=some ds)(hl:es.length<=1000):SE X c (.List es pos) (uU ds):=uF (Pf h) hl
theorem DY{X c pos x} {i:Int} (hg:Gl X x) (hm:∃ t,X.mg x=some (.int i t)) (hd:(x == ("__debug__" : Str))=false:=by decide):SE X c (.Name x pos) (eD (.int i)):=by
 obtain⟨t,h⟩:=hm;exact NB hg h hd
theorem Ph{X c e fe pos}(he:SE X c e fe)(hs:J8 e none pos.line X.env=pure false:=by rfl):SS X c (.Expr e pos) (kX fe) :=
 OI he (λ_=>hs) trivial (wk he hs)
theorem yd{X c e fe pos}{i:Nat}{o}{apos bI:Pos}(ho:PE X o (dD i))(he:SE X c e fe)
  (m4:J9 o "append" X.env (eval o X.env)=eval o X.env:=by rfl)
  (m5:((Qv bI (Wd [e] X.env)).all (λx=>!x.1) && (backToKw bI (Uk [] X.env)).all (λx=>x.1.isSome)
   && decide ([e].length + ([]:List Keyword).length + (if ([]:List Keyword).isEmpty then 0 else 1) < 30))=true:=by rfl)
  (ik:(apos.endLine == bI.line)=true:=by rfl) (hs:Wd [e] X.env=(false,eval e X.env) :: Wd [] X.env:=by rfl)
  (qL:J8 (.Call (.Attribute o "append" apos) [e] [] bI) none pos.line X.env=pure false:=by rfl):SS X c (.Expr (.Call (.Attribute o "append" apos) [e] [] bI) pos) (cb i fe) :=
 OJ (p0:=apos) ho he (wk (t5 PySem.F.plainAttrs_list PySem.F.slot_list_append PySem.F.type_list_append wZ ho (fc he g8 hs) m4 m5 ik hs rfl) qL)
def ye(K:W5):Bool:=K.all λp=>match p.2.cls with
 | .type t=>!(t == "list")
 | _=>true
theorem DZ[BEq α][LawfulBEq α]:∀ {K:List (α×β)} {a:α} {o:β},K.lookup a=some o->(a,o) ∈ K
 | [],a,o,e=>by simp at e
 | (b,o') :: r,a,o,e=>by
  rw[QD] at e
  cases hb:a == b with
  | true =>
   rw[hb] at e;have h1:o'=o:=WZ e;have h2:a=b:=eq_of_beq hb;rw[h1,h2];exact Wp
  | false =>
   rw[hb] at e;exact Wg _ (DZ e)
theorem Pj   {o:Obj} (h:ye K=true) (e:K.lookup a=some o) (hc:o.cls = .type "list"):False:=by
 have hm:(a,o) ∈ (K:List (Addr×Obj)):=DZ e;have h1:=Jy.mp h (a,o) hm;have h2:(match o.cls with | .type t=>!(t == "list") | _=>true)=true:=h1;rw[hc] at h2;have h3:(!(("list" : String) == "list"))=true:=h2;rw[beq_self_eq_true] at h3
 cases h3
def yf(x:Str):It:=⟨λi _=>i < x.cps.size,λi H y H'=>H'=H/\∃ c,x.cps[i]? = some c/\y = .str ⟨#[c]⟩,λi _=>i=x.cps.size⟩
theorem Pk     (x t it T) (hT:T = "str_ascii_iterator"\/T = "str_iterator"):Turn P w K tg (yf x) [it] it (λi h=>h.IsStrIter it T x t i):=by
 have W:∀ A:Wv,A.handled=none->Walks P w A it [it] [it] x.cps.size (SignAt x) (λi h=>h.IsStrIter it T x t i):=λA hh=>by
  rcases hT with rfl | rfl
  ·exact Walks.strAscii hh it x t
  ·exact Walks.strWide hh it x t
 refine⟨Z5,λi h st b hb=>?_,λi h h' st k=>?_,?_,?_,λA i s Q E st h=>?_⟩
 ·have e:b=it:= ~~~hb
  subst e;obtain⟨o,e,c,d⟩:=st;exact⟨o,e,λv z=>by rw[d] at z; cases z⟩
 ·obtain⟨o,e,r⟩:=st;exact⟨o,k it Z5 o e,r⟩
 ·intro X hP hw hK hc i pins s σ H E I hf st hg;subst hP hw hK;obtain⟨f0,f1,f2,f3,f4,f5⟩:=hf it Z5;refine(W X.A (I.ok.hd hc)).item i s _ _ hg st λv h' tk hv cF kk=>?_
  obtain⟨c,u,hx,rfl⟩:=hv;have I1:Inv X pins σ H { s with heap:=h',toks:=tk }:=I.turned (λb o hb e=>kk b o (~~~hb) e) f0 f1 f3 f4 f5;obtain⟨o,e,c',d⟩:=id cF;refine⟨_,rfl,qw (s:={ s with heap:=h',toks:=tk }) e c' d (by rcases hT with rfl | rfl <;> decide) ⟨.str ⟨#[c]⟩,H,I1,⟨u,rfl⟩,⟨rfl,c,hx,rfl⟩,cF,λb hb=>(hf b hb).1⟩⟩
 ·intro X hP hw hK hc i pins s σ H E I hf st hg;subst hP hw hK;have j6:i=x.cps.size:=hg;subst j6;obtain⟨f0,f1,f2,f3,f4,f5⟩:=hf it Z5;exact(W X.A (I.ok.hd hc)).done s _ _ st λh' tk eb=>⟨rfl,I.turned (λb o hb e=>eb b o (~~~hb) e) f0 f1 f3 f4 f5⟩
 grind[wpAny_pyIter_striter_ascii,wpAny_pyIter_striter_wide]
def Pl(K:W5)(tl:TE):TI:=λσ H R=>tl σ H λx H1=>(∃ a,x = .ref a/\(∃ xs,cP K H1 a xs)/\R (wt K a) H1)\/(∃ a,x = .ref a/\(∃ xs,di K H1 a xs)/\R (wu K a) H1)\/∃ z,x = .str z/\R (yf z) H1
theorem Pm{l tl}(hl:PE X l tl):PI X tg l (Pl X.K tl):=by
 intro pins s σ H R I h;refine aY (hl pins s σ H _ I h) λv s1 ⟨x,H1,I1,r1,q1⟩=>?_
 rcases q1 with q1 | q1 | ⟨z,e,q⟩
 ·obtain⟨a,e,⟨xs,hq⟩,q⟩:=q1;subst e
  cases r1;obtain⟨ak,rv,p,hz⟩:=I1.list hq;refine JN p.isList ?_;refine⟨s1.heap.objs.size,[s1.heap.objs.size],_,_,H1,rfl,I1.kept (t':=s1.toks) λb o e=>W7 _ e,LF a _,⟨_,Wh _ rfl,rfl,rfl⟩,λb hb=>?_,q⟩;have e:b=s1.heap.objs.size:= ~~~hb
  subst e;exact I1.jD (Wi _) (I1.aC.fresh (Wi _))
 ·obtain⟨a,e,⟨xs,hq⟩,q⟩:=q1;subst e
  cases r1;obtain⟨ak,rv,p,hz⟩:=I1.tuple hq;refine wpAny_pyIter_tuple (show s1.heap.IsTuple a ak.toArray from p) ?_;refine⟨s1.heap.objs.size,[s1.heap.objs.size],_,_,H1,rfl,I1.kept (t':=s1.toks) λb o e=>W7 _ e,LG a _,⟨_,Wh _ rfl,rfl,rfl⟩,λb hb=>?_,q⟩;have e:b=s1.heap.objs.size:= ~~~hb
  subst e;exact I1.jD (Wi _) (I1.aC.fresh (Wi _))
 ·subst e;obtain⟨t,rfl⟩:=r1;refine wpAny_pyIter_strU ?_;have hT:Jt z = "str_ascii_iterator"\/Jt z = "str_iterator":=by
   unfold Jt;split
   ·exact .inl rfl
   ·exact .inr rfl
  refine⟨s1.heap.objs.size,[s1.heap.objs.size],_,_,H1,rfl,I1.kept (t':=s1.toks) λb o e=>W7 _ e,Pk z t _ _ hT,⟨_,Wh _ rfl,rfl,rfl⟩,λb hb=>?_,q⟩;have e:b=s1.heap.objs.size:= ~~~hb
  subst e;exact I1.jD (Wi _) (I1.aC.fresh (Wi _))
theorem Pn(z:Tx):l8 c σ δ H (yf (toS z)) (z.map λn=>D.str [n]):=by
 intro H2 kp;have hsz:(toS z).cps.size=z.length:=#v[toS]
 refine⟨by show(z.map _).length=_; rw[hsz]; simp,λi d e=>?_⟩;rw[Wj] at e
 cases ez:z[i]? with
 | none=>rw[ez] at e; cases e
 | some n =>
  rw[ez] at e
  cases e;have hi:i < z.length:=(W6.mp ez).1;refine⟨by show i < _; rw[hsz]; exact hi,λx H3 ⟨e3,cc,hc,hx⟩=>.inl ⟨e3,?_⟩⟩;have:(toS z).cps[i]? = z[i]?:=#v[toS]
  rw[this,ez] at hc
  cases hc;rw[hx];exact .str [n]
def aG(f:DE):DI:=λδ=>(f δ).bind λr δ1=>match r.d with
 | .lst ds=>.ok ds δ1
 | .tup ds=>.ok ds δ1
 | .str x=>.ok (x.map λn=>.str [n]) δ1
 | _=>.stuck
theorem nR{X c tg e fe}(he:SE X c e fe):SI X c tg e (aG fe):=PI.weak (Pm he) λσ H R ⟨δ,k,q⟩=>by
 unfold aG at q;rw[bA] at q;refine⟨δ,k,aX q λr δ1 q1 v H1 a1 r1=>?_⟩;have rr:=r1.rep;generalize r.d=d at q1 rr
 cases d <;> first | exact q1.elim | skip
 ·cases rr;exact .inr (.inr ⟨_,rfl,q1 _ H1 a1 (Pn _)⟩)
 ·cases rr with
  | tup h1 h2 h3 h4=>exact .inr (.inl ⟨_,rfl,⟨_,.of h2⟩,q1 _ H1 a1 (OL _ h2 (λz=>h1 (.inr z)) ⟨h3,h4⟩)⟩)
 ·cases rr with
  | lst h1 h2 h3 h4 =>
   refine .inl ⟨_,rfl,⟨_,.inl h2⟩,q1 _ H1 a1 ?_⟩;intro H2 kp;rename_i a vs;have h5:Rd H2 a (.lst vs):=Rd.keep h2 λo e=>kp a o e λz=>h1 (.inr z)
   have r':aK H1 (Av c σ δ1) vs _:=⟨h3,h4⟩
   refine⟨⟨vs,.inl h5,%[r'.1|Wi _]⟩,λi d e=>?_⟩;obtain⟨v,ev,rv⟩:=r'.get e;refine⟨⟨vs,v,.inl h5,ev⟩,λx H3 ⟨e3,y⟩=>.inl ⟨e3,?_⟩⟩;have:=y vs (.inl h5);grind
theorem Po(a:Int)(t l dd items)(n:Nat)(sl:Array (Option Value)) :
  Meets (Builtin.«int.__rmul__» ⟨[.int a t,.ref l],[]⟩) (λ_ R s=>s.heap.get? l=some { cls:=.type "tuple",dict:=dd,data:=.seq items n,slots:=sl }/\R (.ok (.ret Value.notImplemented)) s) :=
 .of_wp λprog w A R s h=>by obtain⟨hp,g,d,tk,os⟩:=s; obtain⟨hl,h⟩:=h; wp_walk; exact⟨_,rfl,h⟩
theorem Pp:fillsNumberSlot (.type "tuple") "mul" = pure false :=
 PySem.fillsNumberSlot_seq (id:="tuple.__mul__") (r:=some (.builtin "tuple.__rmul__")) F.slot_tuple_mul.lookup Zp F.slot_tuple_rmul.lookup Zp
theorem Pq:seqRepeat? (.type "tuple")=pure (some (.builtin "tuple.__mul__")):=by
 unfold seqRepeat?;rw[PySem.seqSlot_of (T:="tuple") (name:="__mul__") (id:="tuple.__mul__") F.slot_tuple_mul.lookup Zp,PySem.seqSlot_of (T:="tuple") (name:="__rmul__") (id:="tuple.__rmul__") F.slot_tuple_rmul.lookup Zp];rfl
theorem Pr(l dd)(items:Array Value)(n:Nat)(sl:Array (Option Value))(x:Int)(u)(h1:¬ (decide (x < -(2 ^ 63)) || decide (x ≥ 2 ^ 63))=true)(h2:¬ (items.isEmpty || x == 1)=true)(h3:¬ (decide (x<=0) || items.isEmpty)=true)(h4:¬ items.size * x > (2 ^ 63 - 1) / 8)(h5:¬ Builtin.Tuple.tupleTooMany (items.size * x)=true)(h6:((Wm x.toNat items).foldl (· ++ ·) #[]).size<=Wa) :
  Meets (Builtin.«tuple.__mul__» ⟨[.ref l,.int x u],[]⟩) (λ_ R s=>s.heap.get? l=some { cls:=.type "tuple",dict:=dd,data:=.seq items n,slots:=sl } /\
   R (.ok (.ret (.ref s.heap.objs.size))) { s with heap:=s.heap.push { cls:=.type "tuple",data:=.seq ((Wm x.toNat items).foldl (· ++ ·) #[]) } }) :=
 .of_wp λprog w A R s h=>by
  obtain⟨hp,g,d,tk,os⟩:=s; obtain⟨hl,h⟩:=h
  wp_walk
  rw[if_neg h1];wp_walk
  try rw[if_neg h2]
  try wp_walk
  try rw[if_neg h3]
  try wp_walk
  try rw[if_neg h4]
  try wp_walk
  try rw[if_neg h5]
  try wp_walk
  exact⟨_,rfl,h⟩
theorem yg(ak:List α):∀ k (acc:List α),List.foldl (λx1 x2:Array α=>x1 ++ x2) acc.toArray (Wm k ak.toArray)=(acc ++ (Wm k ak).flatten).toArray
 | 0,acc=>by simp
 | k + 1,acc=>by
  rw[QS,Jj,show acc.toArray ++ ak.toArray=(acc ++ ak).toArray by simp,yg ak k];simp[QS]
def D3(K:W5):R2:=λx y H Q=>∃ l k xs,x = .ref l/\y = .int k/\di K H l xs/\xs≠[]/\2<=k/\k<=1000000/\xs.length * k.toNat<=Wa/\∀ p,H p=none->Q (.ref p) (upd H p (.tup (Wm k.toNat xs).flatten))
theorem Pt:cj X (QL .Mult) (D3 X.K):=by
 intro pins s σ H x y v u Q I rx ry h;obtain⟨l,k,xs,rfl,rfl,hH,cw,h1,h2,hz,q⟩:=h
 cases rx;obtain⟨t,rfl⟩:=ry;obtain⟨ak,r,pl,hl⟩:=I.tuple hH;obtain⟨⟨cls,dd,data,sl⟩,ho,hc,n,hd⟩:=id pl;simp only at hc hd;subst hc hd;have hlen:ak.toArray.size=xs.length:=%[Wx|r.length.symm]
 have pD:ak.toArray.isEmpty=false:=by
  cases ak with
  | nil=>exact absurd (r.tY.mp rfl) cw
  | cons a b=>rfl
 have ik:Wa=16777216:=rfl;have hk:(k.toNat:Int)=k:=by lia
 have hmul:((ak.toArray.size:Nat):Int) * k=((xs.length * k.toNat:Nat):Int):=by rw[hlen,Int.natCast_mul,hk]
 have D4:List.foldl (λx1 x2=>x1 ++ x2) #[] (Wm k.toNat ak.toArray)=(Wm k.toNat ak).flatten.toArray:=by
  have:=B8 ak k.toNat [];rw[WQ] at this;exact this
 refine wpAny_binaryOp_repeat_ref (T:="tuple") (U:="int") Z' ⟨_,ho,rfl⟩ (λs'=>typeIs_int s' k t) Pp F.fills_int_mul F.slot_int_rmul Pq F.slot_int_index.lookup
  (Ub F.slot_int_rmul (typeIs_int s k t) F.entry_int_rmul (F.args_int_rmul_2 _ _) (Po k t l dd ak.toArray n sl)
   ⟨ho,rfl,⟨_,ho,rfl⟩,Ub F.slot_tuple_mul ⟨_,ho,rfl⟩ F.entry_tuple_mul (F.args_tuple_mul_2 _ _) (Pr l dd ak.toArray n sl k t ?_ ?_ ?_ ?_ ?_ ?_) ⟨ho,?_⟩⟩)
 ·simp; lia
 ·rw[pD]; simp; lia
 ·rw[pD]; simp; lia
 ·rw[hmul]; lia
 ·rw[hmul];unfold Builtin.Tuple.tupleTooMany;rw[ik] at hz;generalize xs.length * k.toNat=m at hz;simp only[ik,decide_eq_true_eq];lia
 ·rw[D4,Wx,w4,<- r.length,Nat.mul_comm]; exact hz
 ·rw[D4];have I1:Inv X pins σ (upd H s.heap.objs.size (.tup (Wm k.toNat xs).flatten)) { s with heap:=s.heap.push { cls:=.type "tuple",data:=.seq (Wm k.toNat ak).flatten.toArray } } :=
   I.laid (t':=s.toks) (λb o e=>W7 _ e) (Wi _) (show cp X.prog X.w _ _ _ (.tup (Wm k.toNat xs).flatten) from⟨%[w4,Nat.mul_comm|hz],(Wm k.toNat ak).flatten,r.rep k.toNat,i5.new _ _⟩)
  exact⟨.ref _,_,I1,rfl,q _ (I.aC.fresh (Wi _))⟩
def D5:R2:=λx y H Q=>∃ z k,x = .str z/\y = .int k/\2<=k/\k<=1000000/\0 < z.length/\z.length * k.toNat<=Wa/\Q (.str ⟨(Wm k.toNat z.cps).foldl (· ++ ·) #[]⟩) H
theorem Pu:cj X (QL .Mult) D5:=by
 intro pins s σ H x y v u Q I rx ry h;obtain⟨z,k,rfl,rfl,h1,h2,h0,hz,q⟩:=h;obtain⟨t,rfl⟩:=rx;obtain⟨t',rfl⟩:=ry;have ik:Wa=16777216:=rfl;have c1:¬ k < 1:=by lia
 have c2:(k == 1 || z.length == 0)=false:=by
  simp;lia
 refine PySem.P.mul_str Z6 (λ_ _=>?_) (λ_ _=>?_) ?_
 ·have hm:(z.length:Int) * k<=16777216:=by
   have:(z.length:Int) * k=((z.length * k.toNat:Nat):Int):=by rw[Int.natCast_mul,show(k.toNat:Int)=k by lia]
   rw[this];rw[ik] at hz;lia
  have:(z.length:Int)<=(2 ^ 63 - 1) / k:=(Int.le_ediv_iff_mul_le Y').mpr Y';lia
 ·unfold Builtin.Str.tooLong;rw[ik] at hz;generalize z.length * k.toNat=m at hz;simp only[ik,decide_eq_false_iff_not];lia
 ·rw[if_neg c1,if_neg (by rw[c2]; simp)];have hsz:((Wm k.toNat z.cps).foldl (· ++ ·) #[]).size=k.toNat * z.length:=by
   have h:=yg z.cps.toList k.toNat [];simp only[WQ,Array.toArray_toList] at h;rw[h,Wx,w4];simp[Str.length]
  exact⟨by show((Wm k.toNat z.cps).foldl (· ++ ·) #[]).size<=_; rw[hsz,Nat.mul_comm]; exact hz,.str _,H,I.tok _,⟨_,rfl⟩,q⟩
noncomputable def eF:D->D->Option S
 | .int i,.int j=>oW (.int i) (.int j)
 | .str x,.int k=>if 2<=k/\k<=1000000/\0 < x.length/\x.length * k.toNat<=Wa then some (.pure (.str (Wm k.toNat x).flatten)) else none
 | .tup xs,.int k=>if 2<=k/\k<=1000000/\0 < xs.length/\xs.length * k.toNat<=Wa then some (.pure (.tup (Wm k.toNat xs).flatten)) else none
 | _,_=>none
def D6(K:W5):R2:=λx y H Q=>rI qz (λi j=>V.int (i * j)) x y H Q\/D5 x y H Q\/D3 K x y H Q
theorem uV:cj X (QL .Mult) (D6 X.K):=LV.or (Pu.or Pt)
theorem aK.rep(h:aK H O vs ds):∀ k,aK H O (Wm k vs).flatten (Wm k ds).flatten
 | 0=>.nil
 | k + 1=>%[QS,QS,Jp,Jp|h.append (aK.rep h k)]
theorem uW:dF (D6 K) eF:=by
 intro c σ δ H x y d e s Q k rx ry hp q
 cases d <;> cases e <;> first | (simp[eF] at hp; done) | skip
 ·exact .inl (N6 c σ δ H x y _ _ s Q k rx ry hp q)
 ·rename_i z n;simp only[eF] at hp;split at hp
  ·rename_i h
   cases hp;refine .inr (.inl ⟨toS z,n,rx.str,ry.int,h.1,h.2.1,%[j7|h.2.2.1],%[j7|h.2.2.2],?_⟩);have e:(⟨(Wm n.toNat (toS z).cps).foldl (· ++ ·) #[]⟩:Str)=toS (Wm n.toNat z).flatten:=by
    unfold toS;congr 1
    have:=yg z n.toNat [];rw[WQ] at this;exact this
   rw[e];exact q _ H (.refl k) (.str _)
  ·cases hp
 ·rename_i ds n;simp only[eF] at hp;split at hp
  ·rename_i h
   cases hp;obtain⟨a,vs,ex,ha,r⟩:=rx.tup;refine .inr (.inr ⟨a,n,vs,ex,ry.int,.of ha,?_,h.1,h.2.1,%[r.1|h.2.2.2],λp pE=>?_⟩)
   ·intro z;rw[z] at r;have:=r.1;simp at this;lia
   ·exact q _ _ (.alloc k pE _) (bD.oR k (aK.rep r _) pE)
  ·cases hp
theorem bD.newD(k:Ok c σ δ H)(hp:H p=none):bD c σ δ H (upd H p (.dK [])) (.ref p) (.own (.ay [])):=by
 refine⟨p,rfl,⟨[],cI,rfl,λi p q e=>by simp at e⟩,λz=>k.ja hp (.inl z),k.nr hp,k.plus hp _,hp⟩
def iT:DE:=λδ=>.ok (.own (.ay [])) δ
theorem D7{X c pos}:SE X c (.Dict [] [] pos) iT:=PE.weak MU λσ H Q ⟨δ,k,q⟩=>λp hp=>q _ _ (.alloc k hp _) (bD.newD k hp)
section
variable {a x y:Expr}{f g fa:DE}{p p2:Pos}
def Pw(neg:Bool)(fa f g:DE):DE:=λδ=>(fa δ).bind λv δ1=>(f δ1).bind λlo δ2=>(g δ2).bind λhi δ3=>match v.d,lo.d,hi.d with
 | .int i,.int l,.int h=>.ok (.pure (.bl (if neg then !(decide (l<=i) && decide (i < h)) else(decide (l<=i) && decide (i < h))))) δ3
 | _,_,_=>.stuck
end
theorem D8:entryFor table "dict.update.loop" = some Builtin.«dict.update.loop»:=entryFor_of_tree (by kernel_rfl)
theorem pF:plainId "dict.update.loop" = true:=by decide +kernel
theorem Px:typeLookup (.type "tuple") "keys" = pure none:=by rw[typeLookup_type,JT]; kernel_rfl
theorem Py:typeLookup (.type "list") "keys" = pure none:=by rw[typeLookup_type,JT]; kernel_rfl
set_option maxRecDepth 8000 in
theorem Pz{Q xs}
  (hx:s.heap.get? a=some o) (hc:o.cls = .type "tuple") (iu:o.data = .seq xs k) (hd:o.dict=none) (hA:A.handled=none)
  (h:∀ h' tk,(∀ b ob,s.heap.get? b=some ob->h'.get? b=some ob)->Q none { s with heap:=h',toks:=tk }) :
  W8 (model prog w) A (getAttr? (.ref a) "keys") Q E s:=by
 obtain⟨c,ay,dat,sl⟩:=o;simp only at hc iu hd;subst hc iu hd;obtain⟨hp,g,d,tk,os⟩:=s;have hT:∀ jM,(⟨hp,g,d,jM,os⟩:W4).TypeIs (.ref a) "tuple":=λ_=>⟨_,hx,rfl⟩
 have f1:=sub_AttributeError;have f3:=F.slot_tuple_getattribute.lookup;have f4:=F.slot_tuple_getattribute.bind (.ref a);have f5:=am_tuple_getattr_none;have uX:=Px;unfold getAttr? getAttrBy? getAttrBy;repeat (any_goals (first | assumption | exact hT _ | ((with_reducible show W8 _ _ (call (Value.builtin "tuple.__getattribute__") _ _) _ _ _); refine Ub F.slot_tuple_getattribute (hT _) am_entry_tuple_getattribute (F.args_tuple_getattribute_2 _ _) (meets_getattribute_miss_tuple a xs k sl "keys" _ uX Zp) ⟨hx,hA,λh' jM e mq=>?_⟩) | wp_step))
 obtain⟨t',u',he⟩:=mq.there;show W8 _ _ (Jh _ _ _ _ _ _ _) _ _ _;unfold Jh;repeat (any_goals (first | assumption | wp_step))
 exact h _ _ mq.keeps
set_option maxRecDepth 8000 in
theorem PB{Q xs}
  (hx:s.heap.get? a=some o) (hc:o.cls = .type "list") (iu:o.data = .seq xs k) (hd:o.dict=none) (hA:A.handled=none)
  (h:∀ h' tk,(∀ b ob,s.heap.get? b=some ob->h'.get? b=some ob)->Q none { s with heap:=h',toks:=tk }) :
  W8 (model prog w) A (getAttr? (.ref a) "keys") Q E s:=by
 obtain⟨c,ay,dat,sl⟩:=o;simp only at hc iu hd;subst hc iu hd;obtain⟨hp,g,d,tk,os⟩:=s;have hT:∀ jM,(⟨hp,g,d,jM,os⟩:W4).TypeIs (.ref a) "list":=λ_=>⟨_,hx,rfl⟩
 have f1:=sub_AttributeError;have f3:=F.slot_list_getattribute.lookup;have f4:=F.slot_list_getattribute.bind (.ref a);have f5:=am_list_getattr_none;have uX:=Py;unfold getAttr? getAttrBy? getAttrBy;repeat (any_goals (first | assumption | exact hT _ | ((with_reducible show W8 _ _ (call (Value.builtin "list.__getattribute__") _ _) _ _ _); refine Ub F.slot_list_getattribute (hT _) am_entry_list_getattribute (F.args_list_getattribute_2 _ _) (meets_getattribute_miss_list a xs k sl "keys" _ uX Zp) ⟨hx,hA,λh' jM e mq=>?_⟩) | wp_step))
 obtain⟨t',u',he⟩:=mq.there;show W8 _ _ (Jh _ _ _ _ _ _ _) _ _ _;unfold Jh;repeat (any_goals (first | assumption | wp_step))
 exact h _ _ mq.keeps
def eJ(kps:List (Key×V))(acc:List (Key×V)):List (Key×V):=kps.foldl (λa kv=>putK a kv.1 kv.2) acc
theorem D9{R:Result->W4->Prop}{s:W4}{dl:Addr}{i:Int}{t0:Tok}
  (hn:W8 (model prog w) A.in1 (QA (.ref it)) (λr s1=>∃ (q:Addr) (k v:Value) (n:Nat),r=some (.ref q)/\s1.heap.get? q=some { cls:=.type "tuple",dict:=none,data:=.seq #[k,v] n,slots:=#[] } /\
   W8 (model prog w) A.in1 (dictSet dl k v) (λ_ s2=>Ju (model prog w) A (.builtin "dict.update.loop" ⟨[.ref dl,.ref it,Qa (i + 1),.none],[]⟩) R s2) (λ_ _=>False) s1) (λ_ _=>False) s) :
  Ju (model prog w) A (.builtin "dict.update.loop" ⟨[.ref dl,.ref it,.int i t0,.none],[]⟩) R s:=by
 refine codeAny_builtin D8 ?_;rw[Around.under_plainId pF _];show W8 _ A.in1 (QA (.ref it) >>= _) _ _ s;refine W0 (Qw hn (λr s1 hr=>?_) (by grind));obtain⟨q,k,v,n,rfl,hq,hd⟩:=hr;dsimp only;refine W0 ?_;try with_reducible refine WL ?_
 refine W0 (wpAny_tryCatch ?_);have hT:s1.TypeIs (.ref q) "tuple":=⟨_,hq,rfl⟩
 unfold Builtin.Dict.pairItems;refine W0 (JR hT ?_);rw[if_pos Z'];refine W0 ?_;unfold seqItems?;refine W0 (wpAny_load hq (W3 ?_));refine W3 ?_;show W8 _ A.in1 (holding [k,v] (dictSet dl k v)) _ _ s1;try with_reducible refine WL ?_
 refine Qw hd (λ_ s2 h2=>?_) (by grind);exact W3 ⟨plainId_quiet pF _,h2⟩
theorem D_{i:Int}
  (hn:W8 (model prog w) A.in1 (QA (.ref it)) (λr s1=>r=none/\R (.ok (.ret .none)) s1) (λ_ _=>False) s) :
  Ju (model prog w) A (.builtin "dict.update.loop" ⟨[.ref dl,.ref it,.int i t0,.none],[]⟩) R s:=by
 refine codeAny_builtin D8 ?_;rw[Around.under_plainId pF _];show W8 _ A.in1 (QA (.ref it) >>= _) _ _ s;refine W0 (Qw hn (λr s1 hr=>?_) (by grind));obtain⟨rfl,hd⟩:=hr;dsimp only;show W8 _ A.in1 (Builtin.Dict.addKeywords dl [] >>= _) _ _ s1;exact W0 (W3 (W3 hd))
theorem Rd.sub{u}(h:Rd H a u)(k:∀ b o,H b=Option.some o->H' b=Option.some o):Rd H' a u:=by
 rcases h with h | ⟨o,h⟩
 ·exact .inl (k _ _ h)
 ·exact .inr ⟨o,k _ _ h⟩
def uY(H:Hp)(ys:List V)(kps:List (Key×V)):Prop:=ys.length=kps.length/\∀ (i:Nat) y kv,ys[i]? = some y->kps[i]? = some kv->∃ q,y = .ref q/\H q=some (.tup [kV kv.1,kv.2])
theorem yh:∀ (kps acc:List (Key×V)),(eJ kps acc).length<=acc.length + kps.length
 | [],acc=>Wi _
 | kv :: r,acc=>by
  have h1:=yh r (putK acc kv.1 kv.2);have h2:=oM acc kv.1 kv.2;show(eJ r (putK acc kv.1 kv.2)).length<=_;simp only[WS];lia
theorem Ea(kps)(kv:Key×V)(acc):eJ (kps ++ [kv]) acc=putK (eJ kps acc) kv.1 kv.2:=by
 unfold eJ;rw[List.foldl_append];rfl
theorem Eb(hP:uY H ys kps)(gu:H dl=none)(hz:kps.length<=Wa)
  (item:∀ (i:Nat) y H' (s:W4) (Q:Option Value->W4->Prop),(∀ b o,H b=some o->H' b=some o)->H' it=none->Inv X pins σ H' s->tn i s.heap->ys[i]? = some y->(∀ u s',RelV y u->Inv X pins σ H' s'->tn (i + 1) s'.heap->Q (some u) s')->W8 (model X.prog X.w) A.in1 (QA (.ref it)) Q (λ_ _=>False) s)
  (done:∀ H' (s:W4) (Q:Option Value->W4->Prop),(∀ b o,H b=some o->H' b=some o)->H' it=none->Inv X pins σ H' s->tn ys.length s.heap->(∀ s',Inv X pins σ H' s'->Q none s')->W8 (model X.prog X.w) A.in1 (QA (.ref it)) Q (λ_ _=>False) s)
  (keep:∀ (i:Nat) (h h':Heap),tn i h->(∀ o,h.get? it=some o->h'.get? it=some o)->tn i h') (hit:H it=none) (cw:it≠dl) (hR:∀ s',Inv X pins σ (upd H dl (.dK (eJ kps []))) s'->R (.ok (.ret .none)) s') :
  ∀ (k i:Nat) (s:W4) (j:Int) t0,ys.length - i=k->i<=ys.length->Inv X pins σ (upd H dl (.dK (eJ (kps.take i) []))) s->tn i s.heap ->
   Ju (model X.prog X.w) A (.builtin "dict.update.loop" ⟨[.ref dl,.ref it,.int j t0,.none],[]⟩) R s:=by
 have up:∀ (acc:List (Key×V)) b o,H b=some o->upd H dl (.dK acc) b=some o:=λacc b o e=>%[aR (fA e gu)|e]
 have lL:∀ acc:List (Key×V),upd H dl (.dK acc) it=none:=λacc=>%[aR cw|hit]
 intro k;induction k with
 | zero =>
  intro i s j t0 hk hi I st;have e:i=ys.length:=by lia
  subst e;rw[hP.1,QT (Wi _)] at I;refine D_ (done _ s _ (up _) (lL _) I st λs' I'=>⟨rfl,hR s' I'⟩)
 | succ k ih =>
  intro i s j t0 hk hi I st;have bu:i < ys.length:=by lia
  have jk:i < kps.length:=by rw[<- hP.1]; exact bu
  obtain⟨q,ey,hq⟩:=hP.2 i ys[i] kps[i] #v[bu] #v[jk];-- the item is a tuple of two
  have main:∀ s1,Inv X pins σ (upd H dl (.dK (eJ (kps.take i) []))) s1->tn (i + 1) s1.heap->∃ (kk vv:Value) (n:Nat),s1.heap.get? q=some { cls:=.type "tuple",dict:=none,data:=.seq #[kk,vv] n,slots:=#[] }/\RelV (kV kps[i].1) kk/\RelV kps[i].2 vv:=λs1 I1 _=>by
   obtain⟨_,ak,r,n,e⟩:=(show cp X.prog X.w _ s1.heap q (.tup [kV kps[i].1,kps[i].2]) from I1.aC q _ (up _ q _ hq))
   obtain⟨u,v,rfl,r1,r2⟩:=Vals.two r;exact⟨u,v,n,e,r1,r2⟩
  refine D9 (item i ys[i] _ s _ (up _) (lL _) I st #v[bu] λu s' ru I' cF=>?_);rw[ey] at ru
  cases ru;obtain⟨kk,vv,n,e,r1,r2⟩:=main s' I' cF;refine⟨q,kk,vv,n,rfl,e,?_⟩;obtain⟨z,hd,vs,rel,dd⟩:=qE I'.aC cI;have jL:vs.length<=Wa:=by rw[<- rel.length]; exact z
  have hl:(putK (eJ (kps.take i) []) kps[i].1 kps[i].2).length<=Wa:=by
   have h1:=oM (eJ (kps.take i) []) kps[i].1 kps[i].2;have h2:=yh (kps.take i) [];simp at h2;lia
  refine wpAny_dictSet_pairs (hsz:=jL) (kP r1) dd λh' iL hs=>?_
  have he:∃ q,h'.get? dl=some q:=let ⟨q,_,_,hq,_⟩:=iL; ⟨q,hq⟩
  have I2:=m7 (t':=s'.toks + 1) I' %[cI|True.intro] hs he (ub hl hd (rel.put kps[i].1 r2) iL);rw[A7] at I2;have et:kps.take (i + 1)=kps.take i ++ [kps[i]]:=by simp_all
  rw[show putK (eJ (kps.take i) []) kps[i].1 kps[i].2=eJ (kps.take (i + 1)) [] by rw[et,Ea]] at I2;exact ih (i + 1) _ (j + 1) _ Y' bu I2 (keep (i + 1) _ _ cF λo eo=>(hs.2 it cw).trans eo)
theorem PD (hc:X.calm=true):eO X (.type "dict") (λxs H Q=>∃ p ys kps,xs=[.ref p]/\(H p=some (.tup ys)\/Rd H p (.lst ys))/\uY H ys kps/\kps.length<=Wa/\∀ l,H l=none->Q (.ref l) (upd H l (.dK (eJ kps [])))):=by
 intro pins s σ H xs us Q I r h;obtain⟨p,ys,kps,rfl,hp,hP,hz,q⟩:=h;obtain⟨u,rfl,rx⟩:=g7 r
 cases rx;have hA:X.A.handled=none:=I.ok.hd hc;refine callType_codes (Q₁:=λobj s₁=>obj = .ref s.heap.objs.size/\s₁ = { s with heap:=s.heap.push { cls:=.type "dict",data:=.dict #[] } }) F.kt_called_dict (F.kt_typeCall_dict_1 _) F.entry_dict_init (kt_code_dict_new _ ⟨rfl,rfl⟩) ?_;rintro obj s₁ ⟨rfl,rfl⟩;have gu:H s.heap.objs.size=none:=I.aC.fresh (Wi _);have I1:Inv X pins σ (upd H s.heap.objs.size (.dK [])) { s with heap:=s.heap.push { cls:=.type "dict",data:=.dict #[] } }:=I.laid (t':=s.toks) (λ_ _ q=>W7 _ q) (Wi _) (uc s.heap I.big);generalize eQ:s.heap.objs.size=dl at gu I1;have up:∀ (acc:List (Key×V)) b o,H b=some o->upd H dl (.dK acc) b=some o:=λacc b o e=>%[aR (fA e gu)|e]
 have rE:({ s with heap:=s.heap.push { cls:=.type "dict",data:=.dict #[] } }:W4).TypeIs (.ref dl) "dict":=⟨_,by rw[<- eQ]; exact Wh _ rfl,rfl⟩
 refine⟨rE,F.args_dict_init_2 _ _,?_⟩;unfold Builtin.«dict.__init__»;refine W0 ?_;unfold Builtin.Dict.selfAndRest;refine W0 (QI rE ?_);show W8 _ _ (pure (dl,[Value.ref p])) _ _ _;refine W3 ?_;show W8 _ _ (JF "dict.__init__" dl (.ref p) [] .none) _ _ _;unfold JF;have fin:∀ s',Inv X pins σ (upd H dl (.dK (eJ kps []))) s'->EP X pins σ Q (.ref dl) s':=λs' I'=>⟨.ref dl,_,I',rfl,q dl gu⟩
 rcases hp with hp | hp
 ·obtain⟨_,ak,r,n,e⟩:=(show cp X.prog X.w _ (s.heap.push { cls:=.type "dict",data:=.dict #[] }) p (.tup ys) from I1.aC p _ (up _ p _ hp))
  refine W0 (JR ⟨_,e,rfl⟩ ?_);rw[if_pos Z'];refine W0 (Pz e rfl rfl rfl hA λh' tk kp=>?_);rw[if_pos (show(none:Option Value).isNone=true from rfl)];refine W0 (J0 ?_);have I2:Inv X pins σ (upd H dl (.dK [])) { s with heap:=h',toks:=tk }:=I1.kept kp;have yi:h'.IsTuple p ak.toArray:=⟨_,kp _ _ e,rfl,n,rfl⟩
  refine W0 (wpAny_pyIter_tuple (s:={ s with heap:=h',toks:=tk }) yi ?_);refine W3 ⟨plainId_quiet pF _,?_⟩;have j4:upd H dl (.dK []) h'.objs.size=none:=I2.aC.fresh (Wi _);have cw:h'.objs.size≠dl:=λz=>by grind[cI]
  have hit:H h'.objs.size=none:=by rw[aR cw] at j4; exact j4
  have fp:∀ H':Hp,H' h'.objs.size=none->gh X pins H' h'.objs.size:=λH' hn=>I2.jD (Wi _) hn
  refine Eb (X:=X) (pins:=pins) (σ:=σ) (H:=H) (dl:=dl) (it:=h'.objs.size) (ys:=ys) (kps:=kps) (tn:=λi h=>h.IsTupleIter h'.objs.size p i) hP gu hz ?_ ?_ (λi h h2 st k=>st.at k) hit cw (λs' I'=>⟨rfl,fin s' I'⟩) ys.length 0 _ 0 _ (Nat.sub_zero _) (Qq _) ?_ ?_
  ·intro i y H' s' Q' sub hn I' st hy k;obtain⟨_,its2,r2,n2,e2⟩:=(show cp X.prog X.w _ s'.heap p (.tup ys) from I'.aC p _ (sub p _ hp))
   obtain⟨v,hv,rv⟩:=r2.get hy;obtain⟨f0,f1,f2,f3,f4,f5⟩:=fp H' hn;refine wpAny_pyNext_tuple_item st (items:=its2.toArray) ⟨_,e2,rfl,n2,rfl⟩ (x:=v) (~~~hv) λh3 lO sb=>?_
   exact k v { s' with heap:=h3 } rv (I'.turned (t':=s'.toks) (λb o hb e=>(sb.2 b hb).trans e) f0 f1 f3 f4 f5) lO
  ·intro H' s' Q' sub hn I' st k;obtain⟨_,its2,r2,n2,e2⟩:=(show cp X.prog X.w _ s'.heap p (.tup ys) from I'.aC p _ (sub p _ hp))
   obtain⟨f0,f1,f2,f3,f4,f5⟩:=fp H' hn;have kR:=r2.length;exact wpAny_pyNext_tuple_end (show X.A.in1.in1.handled=none from hA) st (items:=its2.toArray) ⟨_,e2,rfl,n2,rfl⟩ Z6 λh3 eb=>k { s' with heap:=h3 } (I'.turned (t':=s'.toks) (λb o hb e=>eb b o hb e) f0 f1 f3 f4 f5)
  ·exact I2.kept (t':=tk) λb o e=>W7 _ e
  ·exact⟨_,Wh _ rfl,rfl,rfl⟩
 ·obtain⟨_,ak,n,r,e⟩:=(show cp X.prog X.w _ (s.heap.push { cls:=.type "dict",data:=.dict #[] }) p (.lst ys) from(Rd.sub hp (up _)).ok I1.aC)
  refine W0 (JR ⟨_,e,rfl⟩ ?_);rw[if_pos Z'];refine W0 (PB e rfl rfl rfl hA λh' tk kp=>?_);rw[if_pos (show(none:Option Value).isNone=true from rfl)];refine W0 (J0 ?_);have I2:Inv X pins σ (upd H dl (.dK [])) { s with heap:=h',toks:=tk }:=I1.kept kp;have yi:h'.IsList p ak.toArray:=⟨_,kp _ _ e,rfl,n,rfl⟩
  refine W0 (JN (s:={ s with heap:=h',toks:=tk }) yi ?_);refine W3 ⟨plainId_quiet pF _,?_⟩;have j4:upd H dl (.dK []) h'.objs.size=none:=I2.aC.fresh (Wi _);have cw:h'.objs.size≠dl:=λz=>by grind[cI]
  have hit:H h'.objs.size=none:=by rw[aR cw] at j4; exact j4
  have fp:∀ H':Hp,H' h'.objs.size=none->gh X pins H' h'.objs.size:=λH' hn=>I2.jD (Wi _) hn
  refine Eb (X:=X) (pins:=pins) (σ:=σ) (H:=H) (dl:=dl) (it:=h'.objs.size) (ys:=ys) (kps:=kps) (tn:=λi h=>h.IsListIter h'.objs.size p i) hP gu hz ?_ ?_ (λi h h2 st k=>st.at k) hit cw (λs' I'=>⟨rfl,fin s' I'⟩) ys.length 0 _ 0 _ (Nat.sub_zero _) (Qq _) ?_ ?_
  ·intro i y H' s' Q' sub hn I' st hy k;obtain⟨_,its2,n2,r2,e2⟩:=(show cp X.prog X.w _ s'.heap p (.lst ys) from(Rd.sub hp sub).ok I'.aC)
   obtain⟨v,hv,rv⟩:=r2.get hy;obtain⟨f0,f1,f2,f3,f4,f5⟩:=fp H' hn;refine wpAny_pyNext_list_item st (items:=its2.toArray) ⟨_,e2,rfl,n2,rfl⟩ (x:=v) (~~~hv) λh3 lO sb=>?_
   exact k v { s' with heap:=h3 } rv (I'.turned (t':=s'.toks) (λb o hb e=>(sb.2 b hb).trans e) f0 f1 f3 f4 f5) lO
  ·intro H' s' Q' sub hn I' st k;obtain⟨_,its2,n2,r2,e2⟩:=(show cp X.prog X.w _ s'.heap p (.lst ys) from(Rd.sub hp sub).ok I'.aC)
   obtain⟨f0,f1,f2,f3,f4,f5⟩:=fp H' hn;have kR:=r2.length;exact wpAny_pyNext_list_end (show X.A.in1.in1.handled=none from hA) st (items:=its2.toArray) ⟨_,e2,rfl,n2,rfl⟩ Z6 λh3 eb=>k { s' with heap:=h3 } (I'.turned (t':=s'.toks) (λb o hb e=>eb b o hb e) f0 f1 f3 f4 f5)
  ·exact I2.kept (t':=tk) λb o e=>W7 _ e
  ·exact⟨_,Wh _ rfl,rfl,rfl⟩
def da(aj:List (a7×D))(k:a7):Option D:=(aj.find? λkv=>decide (kv.1=k)).map (·.2)
def putD(aj:List (a7×D))(k:a7)(v:D):List (a7×D) :=
 if (aj.any λkv=>decide (kv.1=k))=true then aj.map (λkv=>if kv.1=k then(kv.1,v) else kv) else aj ++ [(k,v)]
def k7(kps acc:List (a7×D)):List (a7×D):=kps.foldl (λa kv=>putD a kv.1 kv.2) acc
theorem PF{j}(h:dw k=dw j):k=j:=by
 cases k <;> cases j <;> simp[dw] at h
 ·rw[h]
 ·rw[xr h]
def DR(H:Hp)(O:Addr->Prop):List (Key×V)->List (a7×D)->Prop
 | [],[]=>True
 | p :: ws,q :: ds=>p.1=dw q.1/\Rep H O p.2 q.2/\DR H O ws ds
 | _,_=>False
theorem DR.of:∀ {ws:List (Key×V)} {ds:List (a7×D)},ws.map (·.1)=ds.map (λp=>dw p.1)->(∀ (i:Nat) p q,ws[i]? = some p->ds[i]? = some q->Rep H O p.2 q.2)->DR H O ws ds
 | [],[],_,_=>trivial
 | [],_ :: _,h,_=>by simp at h
 | _ :: _,[],h,_=>by simp at h
 | p :: ws,q :: ds,h,k=>by
  simp only[Wf,List.cons.injEq] at h;exact⟨h.1,k 0 p q rfl rfl,DR.of h.2 λi p' q' e1 e2=>k (i + 1) p' q' (~~~e1) (~~~e2)⟩
theorem DR.keys:∀ {ws:List (Key×V)} {ds:List (a7×D)},DR H O ws ds->ws.map (·.1)=ds.map (λp=>dw p.1)
 | [],[],_=>rfl
 | [],_ :: _,h=>h.elim
 | _ :: _,[],h=>h.elim
 | p :: ws,q :: ds,h=>by simp only[Wf,h.1,DR.keys h.2.2]
theorem DR.vals:∀ {ws:List (Key×V)} {ds:List (a7×D)},DR H O ws ds->∀ (i:Nat) p q,ws[i]? = some p->ds[i]? = some q->Rep H O p.2 q.2
 | [],[],_,i,p,q,e,_=>by simp at e
 | [],_ :: _,h,_,_,_,_,_=>h.elim
 | _ :: _,[],h,_,_,_,_,_=>h.elim
 | p :: ws,q :: ds,h,i,p',q',e1,e2=>by
  cases i with
  | zero=>simp at e1 e2; subst e1 e2; exact h.2.1
  | succ i=>exact DR.vals h.2.2 i p' q' (~~~e1) (~~~e2)
theorem DR.map:∀ {ws:List (Key×V)} {ds:List (a7×D)},DR H O ws ds->(∀ v d,Rep H O v d->Rep H' O' v d)->DR H' O' ws ds
 | [],[],_,_=>trivial
 | [],_ :: _,h,_=>h.elim
 | _ :: _,[],h,_=>h.elim
 | p :: ws,q :: ds,h,k=>⟨h.1,k _ _ h.2.1,DR.map h.2.2 k⟩
theorem nS(h:p=dw q):(p=dw k) ↔ q=k:=⟨λe=>PF (by rw[<- h]; exact e),by grind⟩
theorem DR.any:∀ {ws:List (Key×V)} {ds:List (a7×D)} k,DR H O ws ds->(ws.any λkv=>decide (kv.1=dw k))=ds.any λkv=>decide (kv.1=k)
 | [],[],_,_=>rfl
 | [],_ :: _,_,h=>h.elim
 | _ :: _,[],_,h=>h.elim
 | p :: ws,q :: ds,k,h=>by
  rw[Qb,Qb,DR.any k h.2.2];congr 1
  exact decide_eq_decide.mpr (nS h.1)
theorem DR.val{H O}:∀ {ws:List (Key×V)} {ds:List (a7×D)} k,DR H O ws ds->(da ds k=none/\gm ws (dw k)=none)\/∃ v d,da ds k=some d/\gm ws (dw k)=some v/\Rep H O v d
 | [],[],_,_=>.inl ⟨rfl,rfl⟩
 | [],_ :: _,_,h=>h.elim
 | _ :: _,[],_,h=>h.elim
 | p :: ws,q :: ds,k,h=>by
  by_cases e:q.1=k
  ·have e':=(nS h.1).mpr e;exact .inr ⟨p.2,q.2,#v[da,WP,e],t8 e',h.2.1⟩
  ·have e':¬ p.1=dw k:=λz=>e ((nS h.1).mp z)
   have ev:da (q :: ds) k=da ds k:=#v[da,WP,e]
   rw[ev,t_ e'];exact DR.val k h.2.2
theorem DR.append:∀ {ws Ec:List (Key×V)} {ds dY:List (a7×D)},DR H O ws ds->DR H O Ec dY->DR H O (ws ++ Ec) (ds ++ dY)
 | [],_,[],_,_,h'=>h'
 | [],_,_ :: _,_,h,_=>h.elim
 | _ :: _,_,[],_,h,_=>h.elim
 | p :: ws,_,q :: ds,_,h,h'=>⟨h.1,h.2.1,DR.append h.2.2 h'⟩
theorem DR.store:∀ {ws:List (Key×V)} {ds:List (a7×D)} {k:a7} {v:V} {d:D},DR H O ws ds->Rep H O v d->DR H O (ws.map λkv=>if kv.1=dw k then(kv.1,v) else kv) (ds.map λkv=>if kv.1=k then(kv.1,d) else kv)
 | [],[],_,_,_,_,_=>trivial
 | [],_ :: _,_,_,_,h,_=>h.elim
 | _ :: _,[],_,_,_,h,_=>h.elim
 | p :: ws,q :: ds,k,v,d,h,r=>by
  refine⟨?_,?_,DR.store h.2.2 r⟩
  ·by_cases e:q.1=k
   ·dsimp only; rw[if_pos ((nS h.1).mpr e),if_pos e]; exact h.1
   ·dsimp only; rw[if_neg λz=>e ((nS h.1).mp z),if_neg e]; exact h.1
  ·by_cases e:q.1=k
   ·dsimp only; rw[if_pos ((nS h.1).mpr e),if_pos e]; exact r
   ·dsimp only; rw[if_neg λz=>e ((nS h.1).mp z),if_neg e]; exact h.2.1
theorem DR.put{ws}(h:DR H O ws ds)(r:Rep H O v d):DR H O (putK ws (dw k) v) (putD ds k d):=by
 unfold putK putD;rw[DR.any k h];split
 ·exact DR.store h r
 ·exact DR.append h ⟨rfl,r,trivial⟩
theorem DR.uZ:∀ {kps:List (Key×V)} {u6:List (a7×D)} {ws:List (Key×V)} {ds:List (a7×D)},DR H O kps u6->DR H O ws ds->DR H O (eJ kps ws) (k7 u6 ds)
 | [],[],_,_,_,h=>h
 | [],_ :: _,_,_,h,_=>h.elim
 | _ :: _,[],_,_,h,_=>h.elim
 | p :: kps,q :: u6,ws,ds,h,h'=>by
  show DR H O (eJ kps (putK ws p.1 p.2)) (k7 u6 (putD ds q.1 q.2));rw[h.1];exact DR.uZ h.2.2 (DR.put h' h.2.1)
noncomputable def cA:D->Option a7
 | .int i=>some (.inl i)
 | .str x=>some (.inr x)
 | _=>none
theorem yj(h:cA d=some k)(r:Rep H O v d):v=kV (dw k):=by
 cases d <;> simp[cA] at h <;> subst h <;> cases r <;> rfl
theorem u9(h:cA d=some k)(r:cX c σ δ H v d):v=kV (dw k):=by
 rcases r with r | ⟨a,rfl,r⟩
 ·exact yj h r
 ·cases d <;> simp[cA] at h <;> exact r.elim
noncomputable def iw:List D->Option (List (a7×D))
 | []=>some []
 | .tup [k,v] :: r=>match cA k,iw r with
  | some k',some r'=>some ((k',v) :: r')
  | _,_=>none
 | _ :: _=>none
noncomputable def cO:D->Option S
 | .lst ds=>(iw ds).bind λps=>if ps.length<=Wa then some (.own (.ay (k7 ps []))) else none
 | .tup ds=>(iw ds).bind λps=>if ps.length<=Wa then some (.own (.ay (k7 ps []))) else none
 | _=>none
theorem yk:∀ {ds:List D} {vs:List V} {ps:List (a7×D)},iw ds=some ps->aK H O vs ds->∃ kps,uY H vs kps/\DR H O kps ps/\kps.length=ps.length
 | [],[],ps,h,_=>by
  simp[iw] at h;subst h;exact⟨[],⟨rfl,λi y kv e=>by simp at e⟩,trivial,rfl⟩
 | [],_ :: _,_,_,r=>by have:=r.1; simp at this
 | _ :: _,[],_,_,r=>by have:=r.1; simp at this
 | d :: ds,v :: vs,ps,h,r=>by
  unfold iw at h;split at h
  ·grind
  ·rename_i k w r' heq
   cases heq;split at h
   ·rename_i k' r'' hk hr
    cases h;obtain⟨kps,hP,hD,hL⟩:=yk hr r.tail;have rp:=r.head
    cases rp with
    | tup h1 h2 h3 h4 =>
     rename_i a us;match us,h3,h4,h2 with
     | [x,y],_,h4,h2 =>
      have rk:=h4 0 x k rfl rfl;have rv:=h4 1 y w rfl rfl;have ek:=yj hk rk;subst ek;refine⟨(dw k',y) :: kps,⟨#v[hP.1],λi z kv e1 e2=>?_⟩,⟨rfl,rv,hD⟩,#v[hL]⟩
      cases i with
      | zero=>simp at e1 e2; subst e1 e2; exact⟨a,rfl,h2⟩
      | succ i=>exact hP.2 i z kv (~~~e1) (~~~e2)
   ·cases h
  ·cases h
theorem bD.yl{ws}(k:Ok c σ δ H)(hp:H p=none)(r:DR H (Av c σ δ) ws ds):bD c σ δ H (upd H p (.dK ws)) (.ref p) (.own (.ay ds)):=by
 have up:∀ a w,H a=some w->upd H p (.dK ws) a=some w:=λa w e=>%[aR (fA e hp)|e]
 have r1:DR (upd H p (.dK ws)) (Av (c.plus p) σ δ) ws ds:=r.map λv d h=>(h.aM λb z=>by
  rcases z with (z | z) | z
  ·exact .inl (.inl z)
  ·exact .inr %[z|hp]
  ·exact .inl (.inr z)).keep λb w e _=>up b w e
 exact⟨p,rfl,⟨ws,cI,r1.keys,r1.vals⟩,λz=>k.ja hp (.inl z),k.nr hp,k.plus hp _,hp⟩
theorem PH:QK "dict" = some (.type "dict"):=by decide +kernel
theorem Ed{X c e fb pos pp} (hc:X.calm=true) (hg:Gl X "dict") (hm:X.mg "dict" = none) (he:SB X c e fb) (hs:nQ e=true:=by rfl):SE X c (.Call (.Name "dict" pp) [e] [] pos) (aA cO fb) :=
 uG (r:=λv H Q=>∃ p ys kps,v = .ref p/\(H p=some (.tup ys)\/Rd H p (.lst ys))/\uY H ys kps/\kps.length<=Wa/\∀ l,H l=none->Q (.ref l) (upd H l (.dK (eJ kps []))))
  (PD hc) (λv H Q ⟨p,ys,kps,e,h⟩=>⟨p,ys,kps,by rw[e],h⟩)
  (λc σ δ H x d s Q k rx hp q=>by
   cases d with
   | lst ds =>
    simp only[cO] at hp
    cases jN:iw ds with
    | none=>rw[jN] at hp; cases hp
    | some ps =>
     rw[jN] at hp;simp only[WT] at hp;split at hp
     ·rename_i hz
      cases hp;obtain⟨a,vs,ex,ha,r⟩:=rx.lst;obtain⟨kps,hP,hD,hL⟩:=yk jN r;exact⟨a,vs,kps,ex,.inr ha,hP,%[hL|hz],λl hl=>q _ _ (.alloc k hl _) (bD.yl k hl (DR.uZ hD (ws:=[]) (ds:=[]) trivial))⟩
     ·cases hp
   | tup ds =>
    simp only[cO] at hp
    cases jN:iw ds with
    | none=>rw[jN] at hp; cases hp
    | some ps =>
     rw[jN] at hp;simp only[WT] at hp;split at hp
     ·rename_i hz
      cases hp;obtain⟨a,vs,ex,ha,r⟩:=rx.tup;obtain⟨kps,hP,hD,hL⟩:=yk jN r;exact⟨a,vs,kps,ex,.inl ha,hP,%[hL|hz],λl hl=>q _ _ (.alloc k hl _) (bD.yl k hl (DR.uZ hD (ws:=[]) (ds:=[]) trivial))⟩
     ·cases hp
   | _=>simp[cO] at hp) hg hm PH he Z' Z' (pC hs)
theorem Ee(r:cX c σ δ H v (.ay ds)):∃ a ws,v = .ref a/\H a=some (.dK ws)/\DR H (Av c σ δ) ws ds:=by
 obtain⟨a,ws,e,h,k1,k2⟩:=r.ay;exact⟨a,ws,e,h,DR.of k1 k2⟩
def ym(neg:Bool):R2:=λx y H Q=>∃ a aj k,y = .ref a/\H a=some (.dK aj)/\x=kV k/\Q (.bl (if neg then !(gm aj k).isSome else(gm aj k).isSome)) H
theorem Zy(hu:X.A.units + 64 < Qk):cj X (Q7 .In) (ym false):=by
 intro pins s σ H x y v u Q I rx ry h;obtain⟨a,aj,k,rfl,ha,rfl,q⟩:=h
 cases ry;exact MN Y' I (lV.k ha) rx λs' I'=>⟨.bl _,H,I',rfl,q⟩
theorem PJ(hu:X.A.units + 64 < Qk):cj X (Q7 .NotIn) (ym true):=by
 intro pins s σ H x y v u Q I rx ry h;obtain⟨a,aj,k,rfl,ha,rfl,q⟩:=h
 cases ry;exact MO Y' I (lV.k ha) rx λs' I'=>⟨.bl _,H,I',rfl,q⟩
def Ef(K:W5)(neg:Bool):R2:=λx y H Q=>ym neg x y H Q\/B7 K neg x y H Q\/∃ i j,x = .str i/\y = .str j/\Q (.bl (if neg then !(!(Builtin.Str.occurrences j i 0 j.length 1).isEmpty) else !(Builtin.Str.occurrences j i 0 j.length 1).isEmpty)) H
theorem yn(hu:X.A.units + 64 < Qk):cj X (Q7 .NotIn) (Ef X.K true):=(PJ hu).or (MB.or L4)
noncomputable def eR(neg:Bool)(x y:D):Option S:=match y with
 | .ay ds=>(cA x).map λk=>.pure (.bl (if neg then !(da ds k).isSome else(da ds k).isSome))
 | .str y=>match x with
  | .str [n]=>some (.pure (.bl (if neg then !decide (n ∈ y) else decide (n ∈ y))))
  | _=>none
 | .lst ds=>match x,gr ds with
  | .str z,some ts=>some (.pure (.bl (if neg then !ts.contains z else ts.contains z)))
  | _,_=>none
 | .tup ds=>match x,gr ds with
  | .str z,some ts=>some (.pure (.bl (if neg then !ts.contains z else ts.contains z)))
  | _,_=>none
 | _=>none
theorem Eg(z)(ts:List Tx):tZ (V.str (toS z)) (ts.map λz=>V.str (toS z))=ts.contains z:=by
 unfold tZ;rw[JS];induction ts with
 | nil=>rfl
 | cons t r ih =>
  rw[Qb,List.contains_cons,ih];congr 1
  show(toS t == toS z)=(z == t);rw[uo,Bool.beq_comm]
theorem Eh(ts:List Tx):(ts.map λz=>V.str (toS z)).all kM=true:=by
 rw[List.all_map];exact List.all_eq_true.mpr λ_ _=>rfl
theorem yo(neg):dF (Ef K neg) (eR neg):=by
 intro c σ δ H x y d e s Q k rx ry hp q
 cases e <;> first | (simp[eR] at hp; done) | skip
 ·rename_i z;simp only[eR] at hp;split at hp <;> first | (cases hp; done) | skip
  rename_i n
  cases hp;refine .inr (.inr ⟨toS [n],toS z,rx.str,ry.str,?_⟩);rw[show toS [n] = ⟨#[n]⟩ from rfl,PySem.StrLaws.found_one,show(toS z).cps.toList=z by simp[toS]];exact q _ H (.refl k) (.bl _)
 ·rename_i ds;simp only[eR] at hp;split at hp <;> first | (cases hp; done) | skip
  rename_i z ts ht
  cases hp;obtain⟨a,vs,ea,ha,r⟩:=ry.tup;have ev:=o_ ht r;refine .inr (.inl ⟨a,vs,ea,.inr (.of ha),by rw[rx.str]; rfl,%[ev|Eh ts],?_⟩);rw[rx.str,ev,Eg];exact q _ H (.refl k) (.bl _)
 ·rename_i ds;simp only[eR] at hp;split at hp <;> first | (cases hp; done) | skip
  rename_i z ts ht
  cases hp;obtain⟨a,vs,ea,ha,r⟩:=ry.lst;have ev:=o_ ht r;refine .inr (.inl ⟨a,vs,ea,.inl (.inl ha),by rw[rx.str]; rfl,%[ev|Eh ts],?_⟩);rw[rx.str,ev,Eg];exact q _ H (.refl k) (.bl _)
 ·rename_i ds;simp only[eR] at hp
  cases hk:cA d with
  | none=>rw[hk] at hp; cases hp
  | some kk =>
   rw[hk] at hp
   cases hp;obtain⟨a,ws,ea,ha,dr⟩:=Ee ry;refine .inl ⟨a,ws,dw kk,ea,ha,u9 hk rx,?_⟩;have:(gm ws (dw kk)).isSome=(da ds kk).isSome:=by
    rcases dr.val kk with ⟨e1,e2⟩ | ⟨v,d,e1,e2,_⟩
    ·rw[e1,e2]; rfl
    ·rw[e1,e2]; rfl
   rw[this];exact q _ H (.refl k) (.bl _)
def rF:R2:=λx y H Q=>∃ a aj k v,x = .ref a/\H a=some (.dK aj)/\y=kV k/\gm aj k=some v/\Q v H
noncomputable def aL:D->D->Option S
 | .ay ds,k=>(cA k).bind λk=>(da ds k).map .pure
 | x,y=>aw x y
theorem PL(hu:X.A.units + 64 < Qk):g9 X rF:=by
 intro value slice pins s σ H x y v u Q I rx ry h hs;obtain⟨a,aj,k,w,rfl,ha,rfl,hv,q⟩:=h
 cases rx;obtain⟨_,_,vs,_,dd⟩:=qE I.aC ha;have hT:s.TypeIs (.ref a) "dict":=dd.typeIs;exact tail_any hT F.slot_dict_getitem.lookup (MM (v:=w) Y' I (by rw[<- hv]; exact lV.k ha) ry λw' s' I' jF=>⟨w,H,I',jF,q⟩) hs
theorem mr:dF (λx y H Q=>rF x y H Q\/oK K x y H Q) aL:=by
 intro c σ δ H x y d e s Q k rx ry hp q
 cases d with
 | ay ds =>
  simp only[aL] at hp
  cases hk:cA e with
  | none=>rw[hk] at hp; cases hp
  | some kk =>
   rw[hk] at hp;simp only[WT,WG] at hp;obtain⟨dv,hv,rfl⟩:=hp;obtain⟨a,ws,ea,ha,dr⟩:=Ee rx;rcases dr.val kk with ⟨e1,e2⟩ | ⟨v,d',e1,e2,r⟩
   ·grind
   ·rw[e1] at hv; cases hv
    exact .inl ⟨a,ws,dw kk,v,ea,ha,u9 hk ry,e2,q v H (.refl k) r⟩
 | _=>exact .inr (lX c σ δ H x y _ e s Q k rx ry hp q)
open Sem (wp)
section
open AutoSeq1 (wpAny_loadPart')
theorem PM{x}{items}(hit:s.heap.IsTupleIter it l i)(hl:s.heap.IsTuple l items)(hx:items[i]? = some x)
  (hQ:∀ h',h'.IsTupleIter it l (i + 1)->Qt it s.heap h'->Q x { s with heap:=h' }):W8 (model prog w) A (WK (.ref it)) Q E s:=by
 obtain⟨o,ho,hc,hd⟩:=id hit;obtain⟨ol,hol,_,nl,gu⟩:=hl;unfold WK;refine W0 (WF (name:=Str.ofString "__next__") hit.typeIs Jm
  (Wz Jm hit.typeIs F.entry_tuple_iterator_next ?_ (F.args_tuple_iterator_next_1 _)))
 show W8 _ _ (field (.ref it) 0 >>= _) _ _ s;refine W0 (WM ho hd (x:=.ref l) rfl ?_);show W8 _ _ (if (Value.ref l == Value.none)=true then _ else _) _ _ s;rw[if_neg (show ¬ ((Value.ref l == Value.none)=true) from WC)];show W8 _ _ (field (.ref it) 1 >>= _) _ _ s;refine W0 (WM ho hd (x:=.int i 0) rfl ?_);show W8 _ _ (seqItems? (.ref l) >>= _) _ _ s;refine W0 (QG hol gu ?_);simp only[Qr,hx];refine W0 (Jw ho hd Z5 (W3 ⟨x,rfl,W3 (hQ _ ?_ (Qo ..))⟩));exact⟨_,QH _ ho (Obj.isFreed_of_fields (Obj.data_mapFields hd _)),(Obj.cls_mapFields ..).trans hc,by
  rw[Obj.data_mapFields hd]; simp[Qa]⟩
theorem PN{items}(hh:A.handled=none)(hit:s.heap.IsTupleIter it l i)(hl:s.heap.IsTuple l items)(hx:items[i]? = none)
  (hE:∀ h' e,Heap.ExtBut it s.heap h'->(∃ o,h'.get? e=some o/\o.cls = .type "StopIteration")->E (.ref e) { s with heap:=h' }):W8 (model prog w) A (WK (.ref it)) Q E s:=by
 obtain⟨o,ho,hc,hd⟩:=id hit;obtain⟨ol,hol,_,nl,gu⟩:=hl;unfold WK;refine W0 (WF (name:=Str.ofString "__next__") hit.typeIs Jm
  (Wz Jm hit.typeIs F.entry_tuple_iterator_next ?_ (F.args_tuple_iterator_next_1 _)))
 show W8 _ _ (field (.ref it) 0 >>= _) _ _ s;refine W0 (WM ho hd (x:=.ref l) rfl ?_);show W8 _ _ (if (Value.ref l == Value.none)=true then _ else _) _ _ s;rw[if_neg (show ¬ ((Value.ref l == Value.none)=true) from WC)];show W8 _ _ (field (.ref it) 1 >>= _) _ _ s;refine W0 (WM ho hd (x:=.int i 0) rfl ?_);show W8 _ _ (seqItems? (.ref l) >>= _) _ _ s;refine W0 (QG hol gu ?_);simp only[Qr,hx];refine W0 (J0 (W0 (Jw ho hd Z5 ?_)));show W8 _ _ (newExc (.type "StopIteration") [] >>= _) _ _ _;refine W0 ?_;simp only[newExc,newTuple];refine W0 (WJ ?_ (by size_fits));refine W0 (m:=Je _ _) (wpAny_of_eq (a:=Value.none) (by first | rfl | (simp only[Je]; rfl)) ?_);refine WJ ?_ (by size_fits);simp only[raiseNew];refine W0 (wpAny_handled ?_);first | rw[show A.in1.handled=none from hh] | rw[hh]
 refine W0 (W3 (wpAny_throw ?_));exact hE _ _ (((Qo ..).extBut.push _).push _) ⟨_,Wh _ rfl,rfl⟩
theorem IsTuple.at'(x:h.IsTuple l items)(k:∀ o,h.get? l=some o->h'.get? l=some o):h'.IsTuple l items:=by
 obtain⟨o,ho,r⟩:=x;exact⟨o,k o ho,r⟩
theorem Draws.tuple'(hh:A.handled=none)(it l)(cw:l≠it)(items:Array Value) :
  Draws prog w A it [it,l] items.size (λi v=>items[i]? = some v) (λi h=>h.IsTupleIter it l i/\h.IsTuple l items) where
 live:=λ_ _ st=>let ⟨o,ho,_⟩:=st.1; ⟨o,ho⟩
 frame:=λ_ _ _ st hk=>⟨st.1.at λo e=>hk it Z5 o e,IsTuple.at' st.2 λo e=>hk l Z5 o e⟩
 item:=λi s Q E hi st hQ=>by
  refine PM st.1 st.2 (x:=items[i]) #v[hi] λh' ka jG=>?_
  exact hQ _ h' s.toks #v[hi] ⟨ka,IsTuple.at' st.2 λo e=>(jG.2 l cw).trans e⟩ jG
 done:=λs Q E st hE=>PN hh st.1 st.2 Z5 hE
end
theorem Inv.pG(fp:List Addr)(I:Inv X pins σ H s)(k:∀ b o,b ∉ fp->s.heap.get? b=some o->h'.get? b=some o)(hf:∀ b ∈ fp,gh X pins H b):Inv X pins σ H { s with heap:=h',toks:=t' }:=by
 have lL:∀ b u,H b=some u->b ∉ fp:=λb u e z=>by rw[(hf b z).1] at e; cases e
 refine I.step (g':=s.gens) (d':=s.drawn) (ch:=fp) (λb hb=>?_) (λb o _ _ hc e _=>k b o hc e) (λb o _ _ hc e _=>⟨o.slots,k b o hc e⟩) (λ_ _ _ _ n=>n)
  (λb o hc e=>⟨o,k b o hc e⟩) (λ_ _ e=>e) (λ_ _ _ e=>e) (λb ps e=>⟨#[],by rw[e]; simp⟩) (λm hm=>?_) (λb u e=>?_) I.bare
 ·obtain⟨f0,f1,f2,f3,f4,f5⟩:=hf b hb;exact⟨f3,f1,f4,f5⟩
 ·obtain⟨o,es,ep,ho,r⟩:=hm;exact⟨o,es,ep,k _ o (λz=>(hf _ z).2.1 rfl) ho,r⟩
 ·refine(I.aC b u e).gE (λc v hc q=>k c v ?_ q) (λ_ q=>q) (λ_ _ q=>q) λ_ _ _ q=>q
  rcases hc with z | z
  ·rw[z]; exact lL b u e
  ·exact lL c _ z
def Fc.yp(c:Fc)(i:Nat)(a:Addr):Fc:=⟨c.H₀,λb=>c.B b\/b=a,(i,a) :: c.pin,c.xc⟩
section
variable {ds:List D}
theorem Own.unset(h:Own σ (δ.set i none) b):Own σ δ b:=by
 obtain⟨j,d',e1,e2⟩:=h;by_cases hj:i=j
 ·subst hj;rw[Q0] at e1;split at e1
  ·split at e1 <;> cases e1
  ·rename_i q; exact absurd rfl q
 ·rw[W9 hj] at e1;exact⟨j,d',e1,e2⟩
theorem PQ(k:Ok c σ δ H)(e:δ[i]? = some (some (.own (.lst ds))))(ea:σ[i]? = some (some (.ref a)))(b)(z:Av (c.yp i a) σ (δ.set i none) b):Av c σ δ b:=by
 rcases z with (z | z) | z
 ·exact .inl z
 ·subst z; exact .inr ⟨i,_,e,ea⟩
 ·exact .inr z.unset
theorem Ok.yp(k:Ok c σ δ H)(e:δ[i]? = some (some (.own (.lst ds))))(ea:σ[i]? = some (some (.ref a))):Ok (c.yp i a) σ (δ.set i none) H:=by
 have sub:=PQ k e ea;have ne:∀ j d,(δ.set i none)[j]? = some (some d)->i≠j/\δ[j]? = some (some d):=λj d q=>by
  by_cases hj:i=j
  ·subst hj;rw[Wr (W6.mp e).1] at q; cases q
  ·rw[W9 hj] at q; exact⟨hj,q⟩
 refine⟨λb o h n=>k.keep b o h λ⟨j,z⟩=>n ⟨j,Wg _ z⟩,λb z=>?_,λb ⟨j,z⟩=>?_,%[Qe|k.len],λj d q=>?_,λj d q=>?_,λj l b d d' q1 q2=>?_,λp hp=>?_⟩
 ·rcases z with z | z
  ·exact k.bd b z
  ·subst z; exact k.qM ⟨i,_,e,ea⟩
 ·rcases Wu.mp z with z | z
  ·cases z; exact k.qM ⟨i,_,e,ea⟩
  ·exact k.dZ b ⟨j,z⟩
 ·obtain⟨_,q⟩:=ne j _ q;obtain⟨v,g1,g2⟩:=k.slot j d q;exact⟨v,g1,g2.aM λb z=>.inl (sub b z)⟩
 ·obtain⟨hj,q⟩:=ne j _ q;obtain⟨b,g1,g2,g3,g4⟩:=k.own j d q;refine⟨b,g1,g2.aM λb z=>.inl (sub b z),g3.imp (λ⟨l,z⟩=>⟨l,Wg _ z⟩) id,λz=>?_⟩;rcases z with z | z
  ·exact g4 z
  ·subst z; exact hj (k.inj i j b _ _ e q ea g1)
 ·exact k.inj j l b d d' (ne j _ q1).2 (ne l _ q2).2
 ·rcases Wu.mp hp with z | z
  ·subst z; exact ea
  ·exact k.pinned p z
end
def Zz(i:Nat)(g:DG)(b:DS):DS:=λδ=>match δ[i]? with
 | some (some (.own (.lst ds)))=>(forL g b ds (δ.set i none)).bind λfl δ'=>match fl with
  | .ret (.own _)=>.stuck
  | fl=>.ok fl (δ'.set i (some (.own (.lst ds))))
 | _=>.stuck
section
variable {iter:Expr}{g:DG}{b:DS}
def jl(np:List Nat)(i:Nat):DS:=λδ=>match δ[i]? with
 | some (some (.own d))=>if np.contains i || !np.all (bN δ) then .ok (.ret (.pure d)) (δ.set i (some (.pure d))) else .ok (.ret (.own d)) (δ.set i none)
 | some (some (.pure d))=>.ok (.ret (.pure d)) δ
 | _=>.stuck
theorem Ei{X c i pos np e}(bj:Np c np)(he:PE X e (dD i)):SS X c (.Return (some e) pos) (jl np i):=PS.weak (Bj he) λD σ H ⟨δ,k,q⟩=>by
 unfold jl eC at q;split at q
 ·rename_i d e;obtain⟨a,ea,oa,ia,nb⟩:=k.own i d e;refine⟨.ref a,ea,?_⟩;split at q
  ·obtain⟨a',ea',x,r⟩:=k.give e;rw[ea] at ea'; cases ea'
   exact q σ H x _ r
  ·rename_i hc;simp only[Bool.or_eq_true,not_or,Bool.not_eq_true,Bool.not_eq_false',List.all_eq_true] at hc;obtain⟨Ej,hc2⟩:=hc;have nI:¬ c.I a:=λ⟨j,z⟩=>by
    have z1:=bj (j,a) z;have z2:=k.pinned (j,a) z;have z3:=hc2 j (~~~z1);unfold bN at z3;split at z3
    ·rename_i d' ej;have:=k.inj i j a _ _ e ej ea z2;grind
    ·cases z3
   have h0:c.H₀ a=none:=ia.resolve_left nI;have hi:i < δ.length:=(W6.mp e).1;have ne:∀ j d,(δ.set i none)[j]? = some (some d)->i≠j/\δ[j]? = some (some d):=λj d q=>by
    by_cases hj:i=j
    ·subst hj;rw[Wr hi] at q; cases q
    ·rw[W9 hj] at q; exact⟨hj,q⟩
   have sub:∀ b,Av (c.plus a) σ (δ.set i none) b->Av c σ δ b:=λb z=>by
    rcases z with (z | z) | z
    ·exact .inl z
    ·subst z; exact .inr ⟨i,_,e,ea⟩
    ·exact .inr z.unset
   have kp:Ok (c.plus a) σ (δ.set i none) H:=by
    refine⟨k.keep,λb z=>?_,k.dZ,%[Qe|k.len],λj d q=>?_,λj d q=>?_,λj l b d d' q1 q2=>k.inj j l b d d' (ne j _ q1).2 (ne l _ q2).2,k.pinned⟩
    ·rcases z with z | z
     ·exact k.bd b z
     ·subst z; exact k.qM ⟨i,_,e,ea⟩
    ·obtain⟨_,q⟩:=ne j _ q;obtain⟨v,g1,g2⟩:=k.slot j d q;exact⟨v,g1,g2.aM λb z=>.inl (sub b z)⟩
    ·obtain⟨hj,q⟩:=ne j _ q;obtain⟨b,g1,g2,g3,g4⟩:=k.own j d q;refine⟨b,g1,g2.aM λb z=>.inl (sub b z),g3,λz=>?_⟩;rcases z with z | z
     ·exact g4 z
     ·subst z; exact hj (k.inj i j b _ _ e q ea g1)
   have x:aS c σ δ H σ (δ.set i none) H:=by
    refine⟨⟨k.keep,k.bd,k.dZ,%[Qe|k.len],λj d q=>?_,λj d q=>?_,λj l b d d' q1 q2=>k.inj j l b d d' (ne j _ q1).2 (ne l _ q2).2,k.pinned⟩,λ_ _ w _=>w,λb z=>.inl z.unset,λ_ o w=>⟨o,w⟩⟩
    ·obtain⟨_,q⟩:=ne j _ q;obtain⟨v,g1,g2⟩:=k.slot j d q;exact⟨v,g1,g2.aM λb z=>.inl (z.elim .inl λz=>.inr z.unset)⟩
    ·obtain⟨hj,q⟩:=ne j _ q;obtain⟨b,g1,g2,g3,g4⟩:=k.own j d q;exact⟨b,g1,g2.aM λb z=>.inl (z.elim .inl λz=>.inr z.unset),g3,g4⟩
   exact q σ H x _ ⟨a,rfl,oa.aM λb z=>.inl (sub b z),nb,h0,kp,h0⟩
 ·rename_i d e;obtain⟨v,e1,r⟩:=k.slot i d e;exact⟨v,e1,q σ H (.refl k) v r⟩
 ·exact q.elim
end
theorem mv(hu:X.A.units + 64 < Qk):g9 X (λx y H Q=>rF x y H Q\/oK X.K x y H Q):=(PL hu).or lT
open Classical in
noncomputable def itAt (δ₀:Dl) (ds:List D):DI:=λδ=>if δ=δ₀ then .ok ds δ else .stuck
section
variable {d:D}
theorem iy{xs x}(h:(xs ++ [x])[i]? = some y):xs[i]? = some y\/(i=xs.length/\y=x):=by
 rw[List.getElem?_append] at h;split at h
 ·exact .inl h
 ·rename_i hi;right
  have:i - xs.length=0:=by
   cases hk:i - xs.length with
   | zero=>rfl
   | succ k=>rw[hk] at h; simp at h
  rw[this] at h;simp at h;exact⟨Y',h.symm⟩
theorem getL{α:Type}{xs:List α}{x y:α}(h:xs[i]? = some y):(xs ++ [x])[i]? = some y:=by
 rw[Q8 (W6.mp h).1]; exact h
theorem Ek(hl:δ.length=σ.length):Own (σ ++ [some (V.ref a)]) (δ ++ [some (S.own d)]) b->Own σ δ b\/b=a:=by
 rintro ⟨i,d',e1,e2⟩;rcases iy e1 with e1 | ⟨hi,_⟩
 ·rcases iy e2 with e2 | ⟨hi,_⟩
  ·exact .inl ⟨i,d',e1,e2⟩
  ·have:=(W6.mp e1).1; lia
 ·rcases iy e2 with e2 | ⟨_,e2⟩
  ·have:=(W6.mp e2).1; lia
  ·cases e2; exact .inr rfl
theorem u_(hl:δ.length=σ.length)(h:Av c (σ ++ [some (V.ref a)]) (δ ++ [some (S.own d)]) b):Av (c.plus a) σ δ b:=by
 rcases h with h | h
 ·exact .inl (.inl h)
 ·rcases Ek hl h with h | h
  ·exact .inr h
  ·exact .inl (.inr h)
theorem Ok.PR(k:Ok (c.plus a) σ δ H)(o:fg H (Av (c.plus a) σ δ) a d)(nb:¬ c.B a)(h0:c.H₀ a=none):Ok c (σ ++ [some (.ref a)]) (δ ++ [some (.own d)]) H:=by
 have hl:=k.len;refine⟨k.keep,λb z=>k.bd b (.inl z),k.dZ,#v[hl],λi d' e=>?_,λi d' e=>?_,λi j b d1 d2 e1 e2 s1 s2=>?_,λp hp=>getL (k.pinned p hp)⟩
 ·rcases iy e with e | ⟨_,e⟩
  ·obtain⟨v,g1,g2⟩:=k.slot i d' e;exact⟨v,getL g1,g2.aM λb z=>.inl (u_ hl z)⟩
  ·cases e
 ·rcases iy e with e | ⟨hi,e⟩
  ·obtain⟨b,g1,g2,g3,g4⟩:=k.own i d' e;exact⟨b,getL g1,g2.aM λb z=>.inl (u_ hl z),g3,λz=>g4 (.inl z)⟩
  ·cases e;subst hi;exact⟨a,by rw[hl]; simp,o.aM λb z=>.inl (u_ hl z),.inr h0,nb⟩
 ·have na:∀ (i:Nat) (d:D),δ[i]? = some (some (.own d))->σ[i]? = some (some (.ref a))->False:=λi d q1 q2=>oP k ⟨i,d,q1,q2⟩
  rcases iy e1 with e1 | ⟨h1,_⟩ <;> rcases iy e2 with e2 | ⟨h2,_⟩
  ·have i1:=(W6.mp e1).1;have i2:=(W6.mp e2).1;rcases iy s1 with s1 | ⟨z,_⟩
   ·rcases iy s2 with s2 | ⟨z,_⟩
    ·exact k.inj i j b d1 d2 e1 e2 s1 s2
    ·lia
   ·lia
  ·subst h2;rw[hl] at s2;have hb:b=a:= ~~~s2.symm
   subst hb;rcases iy s1 with s1 | ⟨z,_⟩
   ·exact(na i d1 e1 s1).elim
   ·have:=(W6.mp e1).1; lia
  ·subst h1;rw[hl] at s1;have hb:b=a:= ~~~s1.symm
   subst hb;rcases iy s2 with s2 | ⟨z,_⟩
   ·exact(na j d2 e2 s2).elim
   ·have:=(W6.mp e2).1; lia
  ·rw[h1,h2]
theorem Ok.yq(hl:δ.length=σ.length)(k:Ok c (σ ++ [some (.ref a)]) (δ ++ [some (.own d)]) H)(hp:∀ p ∈ c.pin,p.1 < σ.length):Ok c σ δ H:=by
 have sub:∀ b,Av c σ δ b->Av c (σ ++ [some (.ref a)]) (δ ++ [some (.own d)]) b:=λb z=>z.elim .inl λ⟨i,d',e1,e2⟩=>.inr ⟨i,d',getL e1,getL e2⟩
 refine⟨k.keep,k.bd,k.dZ,hl,λi d' e=>?_,λi d' e=>?_,λi j b d1 d2 e1 e2 s1 s2=>k.inj i j b d1 d2 (getL e1) (getL e2) (getL s1) (getL s2),λp hm=>?_⟩
 ·obtain⟨v,g1,g2⟩:=k.slot i d' (getL e);have hi:=(W6.mp e).1;rcases iy g1 with g1 | ⟨z,_⟩
  ·exact⟨v,g1,g2.aM λb z=>.inl (sub b z)⟩
  ·lia
 ·obtain⟨b,g1,g2,g3⟩:=k.own i d' (getL e);have hi:=(W6.mp e).1;rcases iy g1 with g1 | ⟨z,_⟩
  ·exact⟨b,g1,g2.aM λb z=>.inl (sub b z),g3⟩
  ·lia
 ·rcases iy (k.pinned p hm) with g | ⟨z,_⟩
  ·exact g
  ·have:=hp p hm; lia
end
def nT(G:DF)(f0:DE)(as:List Ak):DE:=λδ=>if (bF as).isEmpty then(f0 δ).bind λr δ1=>match r with
  | .own d=>(bY as δ1).bind λds δ2=>match bJ as ds δ2 with
   | none=>.stuck
   | some ss=>match G (.own d :: ss) with
    | none=>.stuck
    | some (r,_)=>.ok r δ2
  | _=>.stuck
 else .stuck
theorem El{x}:∀ {as:List Ak} {ds:List (Option D)} {δ:Dl},bF as=[]->bJ as ds (δ ++ [x])=bJ as ds δ
 | [],[],δ,_=>rfl
 | [],_ :: _,δ,_=>rfl
 | .val f :: as,[],δ,_=>rfl
 | .val f :: as,none :: ds,δ,_=>rfl
 | .val f :: as,some d :: ds,δ,h=>by
  simp only[bJ];rw[El (as:=as) (ds:=ds) (δ:=δ) (by simpa[bF] using h)]
 | .io i :: as,ds,δ,h=>by simp[bF] at h
theorem PU{d}{ds:List (Option D)}(hl:δ.length=σ.length)(h:iQ (c.plus a) σ δ H vs as ds):iQ c (σ ++ [some (.ref a)]) (δ ++ [some (.own d)]) H vs as ds:=by
 induction h with
 | nil=>exact .nil
 | val r _ ih=>exact .val (r.aM λb z=>.inl (u_ hl z)) ih
 | io e _ ih=>exact .io (getL e) ih
section
variable {f0:DE}{k:Nat}
theorem PX(hK:jh G){Q}(hl:as.length + 1=n)(h:tD c (nT G f0 as) σ H Q):wH (rq n G) [] E0 (qA (tD c f0) (λσ H Q=>∃ a,tX (c.plus a) as σ H Q)) σ H Q:=by
 obtain⟨δ,kk,q⟩:=h;unfold nT at q;split at q
 case isFalse=>exact q.elim
 rename_i fH;have va:bF as=[]:= ~~~fH
 rw[bA] at q;refine⟨δ,kk,aX q λr δ1 q1 v0 H1 a1 r1=>?_⟩
 cases r with
 | pure d=>exact q1.elim
 | own d =>
  obtain⟨a,rfl,oa,nb,h0,kp,hs⟩:=r1;simp only at q1;rw[bA] at q1;refine⟨a,δ1,kp,λi hi=>absurd (mf.mpr hi) (by rw[va]; simp),?_⟩;have xD:post (c.plus a) (bY as δ1) λds δ2=>post c (match bJ as ds δ2 with
   | none=>.stuck
   | some ss=>match G (.own d :: ss) with
    | none=>.stuck
    | some (r,_)=>.ok r δ2) λr δ'=>∀ v H',aS c σ δ H σ δ' H'->bD c σ δ' H H' v r->Q v H':=by
   cases hf:bY as δ1 with
   | ok fl δ'=>rw[hf] at q1; exact q1
   | exc x δx=>rw[hf] at q1; exact q1
   | stuck=>rw[hf] at q1; exact q1
  refine aX xD λds δ2 q2 vs H2 a2 r2=>?_
  cases em:bJ as ds δ2 with
  | none=>rw[em] at q2; exact q2.elim
  | some ss =>
   rw[em] at q2;simp only at q2
   cases eg:G (.own d :: ss) with
   | none=>rw[eg] at q2; exact q2.elim
   | some y =>
    obtain⟨r,aT⟩:=y;rw[eg] at q2;have k8:=a2.ok.len;have PY:fg H2 (Av (c.plus a) σ δ2) a d:=by
     have o1:fg H1 (λb=>Av (c.plus a) σ δ1 b\/Av (c.plus a) σ δ2 b) a d:=oa.aM λb z=>z.elim .inl (a2.av b)
     exact(o1.keep (λb o e n=>a2.keep b o e λz=>n (.inl (.inr z))) λo e=>a2.keep a o e (oP kp)).aM λb z=>.inl (.inr z)
    have k':=Ok.PR a2.ok PY nb h0;have r':iQ c (σ ++ [some (.ref a)]) (δ2 ++ [some (.own d)]) H2 (.ref a :: vs) (.io σ.length :: as) (none :: ds):=.io Z5 (PU k8 r2);have yr:bJ (.io σ.length :: as) (none :: ds) (δ2 ++ [some (.own d)])=some (.own d :: ss):=by
     simp only[bJ];rw[<- k8,show(δ2 ++ [some (S.own d)])[δ2.length]? = some (some (.own d)) by simp];simp only[El va,em,WI]
    have nd:(bF (.io σ.length :: as)).Nodup:=#v[bF,va]
    have fY:=Dy k' r' yr nd;obtain⟨m1,m2,_⟩:=uO r' yr;obtain⟨g1,g2⟩:=hK _ r aT eg;refine⟨.own d :: ss,_,by rw[Ql]; rw[<- m2]; simpa using hl,%[Ql|fY],r,aT,eg,λv H3 a3 r3=>?_⟩;rw[Ql] at a3 r3;obtain⟨o1,o2⟩:=DC k' r' yr nd rfl a3 (λj d ed=>(g2 j).1 d ed) λj d ed=>(g2 j).2 d ed
    have o3:=o2 v r r3;-- the virtual slot holds what came of the list
    obtain⟨d',ed'⟩:=(g2 0).1 d rfl;obtain⟨rs,ers⟩:∃ rs,aT = .own d' :: rs:=by
     cases aT with
     | nil=>simp at ed'
     | cons z rs=>simp at ed'; subst ed'; exact⟨rs,rfl⟩
    subst ers;have yt:bc (.io σ.length :: as) (.own d' :: rs) (δ2 ++ [some (.own d)])=δ2 ++ [some (.own d')]:=by
     have hp:∀ (as:List Ak) (rs:List S) (δ:Dl),bF as=[]->bc as rs δ=δ:=by
      intro as;induction as with
      | nil=>intro rs δ _; cases rs <;> rfl
      | cons x as ih =>
       intro rs δ h
       cases x with
       | val f=>cases rs with
        | nil=>rfl
        | cons y rs=>simp only[bc]; exact ih rs δ (by simpa[bF] using h)
       | io i=>simp[bF] at h
     simp only[bc];rw[hp as rs _ va,<- k8];simp
    rw[yt] at o1 o3;have yu:∀ p ∈ c.pin,p.1 < σ.length:=λp hm=>(W6.mp (kk.pinned p hm)).1
    have kc:Ok c σ δ2 H3:=Ok.yq k8 o1.ok yu;have Em:∀ b,Own σ δ2 b->Own (σ ++ [some (.ref a)]) (δ2 ++ [some (.own d')]) b:=λb ⟨i,d1,e1,e2⟩=>⟨i,d1,getL e1,getL e2⟩
    have rG:aS c σ δ H σ δ2 H2:=a1.trans ⟨Ok.yq k8 k' yu,a2.keep,a2.own,a2.there⟩;have fin:aS c σ δ H σ δ2 H3:=by
     refine⟨kc,λb o eb nO=>?_,rG.own,λb o eb=>?_⟩
     ·have PZ:=rG.keep b o eb nO;refine o1.keep b o PZ λz=>?_
      rcases Ek k8 z with z | z
      ·rcases rG.own b z with w | w
       ·exact nO w
       ·rw[w] at eb; cases eb
      ·subst z; rw[hs] at eb; cases eb
     ·obtain⟨o',e'⟩:=rG.there b o eb;exact o1.there b o' e'
    have sub:∀ b,Av c σ δ2 b->Av c (σ ++ [some (.ref a)]) (δ2 ++ [some (.own d')]) b:=λb z=>z.elim .inl λz=>.inr (Em b z)
    refine q2 v H3 fin ?_
    cases r with
    | pure dr=>exact Rep.aM (show Rep H3 (Av c (σ ++ [some (.ref a)]) (δ2 ++ [some (.own d')])) v dr from o3) λb z=>.inl (sub b z)
    | own dr =>
     obtain⟨p,e1,oo,np,f,kq,lZ⟩:=o3;have P0:δ2.length=σ.length:=k8;refine⟨p,e1,oo.aM λb z=>.inl ?_,np,f,Ok.yq P0 kq yu,?_⟩
     ·rcases z with z | z
      ·exact .inl z
      ·exact .inr (Em b z)
     ·cases eH:H p with
      | none=>rfl
      | some o =>
       obtain⟨o',e'⟩:=rG.there p o eH;rw[lZ] at e'; cases e'
theorem P4 (F:bK X.prog X.w X.K X.mg X.base k x n G) (hK:jh G) (hr:cQ k X.A) (hg:Gl X x) (h0:SE X c e f0) (ha:∀ a,SX X (c.plus a) es as) (hl:as.length + 1=n) (gi:(x == ("__debug__" : Str))=false:=by decide)
  (he:Wd (e :: es) X.env=(false,eval e X.env) :: Wd es X.env:=by rfl) (cB:(Qv pos (Wd es X.env)).any (·.1)=false:=by rfl):SE X c (.Call (.Name x pp) (e :: es) [] pos) (nT G f0 as):=by
 obtain⟨f,fd,ps,hm,hk,hb,ok⟩:=F;exact PE.weak (wJ ok hr hg hm hk hb .nil xg (fc h0 (t:=λσ H Q=>∃ a,tX (c.plus a) as σ H Q) (λppp pins s σ H Q I ⟨a,q⟩=>ha a ppp pins s σ H Q I q) he) gi he cB) λσ H Q h=>PX hK hl h
end
theorem Ok.P5(k:Ok c σ δ H)(e:δ[i]? = some (some (.own (.ay ds))))(ea:σ[i]? = some (some (.ref a)))(r:DR H (Av c σ δ) iM dY) :
  aS c σ δ H σ (δ.set i (some (.own (.ay dY)))) (upd H a (.dK iM)):=by
 have hi:i < δ.length:=(W6.mp e).1;obtain⟨a',ea',oa,ia,nb⟩:=k.own i _ e;rw[ea] at ea'; cases ea'
 obtain⟨vs,ha,_⟩:=oa;have rg:Own σ δ a:=⟨i,_,e,ea⟩
 have rh:Av c σ δ a:=.inr rg;have l6:∀ b,Own σ (δ.set i (some (.own (.ay dY)))) b ↔ Own σ δ b:=λb=>by
  constructor
  ·rintro ⟨j,d,e1,e2⟩;by_cases hj:i=j
   ·subst hj;exact⟨i,_,e,e2⟩
   ·rw[W9 hj] at e1;exact⟨j,d,e1,e2⟩
  ·rintro ⟨j,d,e1,e2⟩;by_cases hj:i=j
   ·subst hj;exact⟨i,_,by rw[Wr hi],e2⟩
   ·exact⟨j,d,%[W9 hj|e1],e2⟩
 have jK:∀ b,Av c σ (δ.set i (some (.own (.ay dY)))) b->Av c σ δ b:=λb z=>z.elim .inl λz=>.inr ((l6 b).mp z)
 have ne:∀ b,¬ Av c σ δ b->b≠a:=λb n z=>n %[z|rh]
 have kp:∀ b o,H b=some o->¬ Av c σ δ b->upd H a (.dK iM) b=some o:=λb o h n=>%[aR (ne b n)|h]
 have ir:∀ b o,H b=some o->∃ o',upd H a (.dK iM) b=some o':=λb o h=>by
  by_cases hb:b=a
  ·exact⟨_,%[hb|cI]⟩
  ·exact⟨o,%[aR hb|h]⟩
 refine⟨⟨λb o h n=>?_,λb z=>?_,λb z=>?_,%[Qe|k.len],λj d h=>?_,λj d h=>?_,λj l b d d' h1 h2 h3 h4=>?_,k.pinned⟩,λb o h n=>?_,λb z=>.inl ((l6 b).mp z),ir⟩
 ·have hb:b≠a:=λz=>by grind
  rw[aR hb];exact k.keep b o h n
 ·obtain⟨o,h⟩:=k.bd b z;exact ir b o h
 ·obtain⟨o,h⟩:=k.dZ b z;exact ir b o h
 ·have hj:i≠j:=λz=>by subst z; rw[Wr hi] at h; cases h
  rw[W9 hj] at h;obtain⟨v,h1,h2⟩:=k.slot j d h;exact⟨v,h1,(h2.keep kp).aM λb z=>.inl (jK b z)⟩
 ·by_cases hj:i=j
  ·subst hj;rw[Wr hi] at h
   cases h;exact⟨a,ea,(let r':=r.map λv d h=>(Rep.keep h kp).aM λb z=>.inl (jK b z); ⟨iM,cI,r'.keys,r'.vals⟩),ia,nb⟩
  ·rw[W9 hj] at h;obtain⟨b,h1,h2,h3,h4⟩:=k.own j d h;have hb:b≠a:=λz=>by subst z; exact hj (k.inj i j b _ d e h ea h1)
   exact⟨b,h1,(h2.keep kp λo q=>%[aR hb|q]).aM λb z=>.inl (jK b z),h3,h4⟩
 ·have f1:∃ d,δ[j]? = some (some (.own d)):=by
   by_cases hj:i=j
   ·subst hj; exact⟨_,e⟩
   ·rw[W9 hj] at h1; exact⟨d,h1⟩
  have f2:∃ d,δ[l]? = some (some (.own d)):=by
   by_cases hj:i=l
   ·subst hj; exact⟨_,e⟩
   ·rw[W9 hj] at h2; exact⟨d',h2⟩
  obtain⟨_,f1⟩:=f1;obtain⟨_,f2⟩:=f2;exact k.inj j l b _ _ f1 f2 h3 h4
 grind[aR]
def kb(δ:Dl)(i:Nat):Bool:=match δ[i]? with
 | some (some (.own (.ay _)))=>true
 | _=>false
def de(i:Nat)(fi fe:DE):DS:=λδ=>if kb δ i then(fe δ).bind λr δ1=>if kb δ1 i then(fi δ1).bind λk δ2=>match δ2[i]? with
  | some (some (.own (.ay ds)))=>match cA k.d with
   | some kk=>if ds.length < Wa then .ok .next (δ2.set i (some (.own (.ay (putD ds kk r.d))))) else .stuck
   | none=>.stuck
  | _=>.stuck else .stuck else .stuck
theorem P6(h:kb δ i=true):∃ ds,δ[i]? = some (some (.own (.ay ds))):=by
 unfold kb at h;split at h
 ·rename_i ds e; exact⟨ds,e⟩
 ·cases h
theorem yv{X c e fe pos i o ix fi sp}(hu:X.A.units + 64 < Qk)(ho:PE X o (dD i))(hi:SE X c ix fi)(he:SE X c e fe)
  (hs:J8 e (some (.Subscript o ix sp)) pos.line X.env=pure false:=by rfl):SS X c (.Assign [.Subscript o ix sp] e pos) (de i fi fe) :=
 PS.weak (MS Y' ho hi he hs) λD σ H ⟨δ,k,q⟩=>by
  unfold de eC at q;split at q
  case isFalse=>exact q.elim
  rename_i fj;rw[bA] at q;refine⟨δ,k,aX q λr δ1 q1 v H1 a1 r1=>?_⟩;split at q1
  case isFalse=>exact q1.elim
  rename_i hown1;obtain⟨ds1,e1⟩:=P6 hown1;obtain⟨a,ea,_,_⟩:=a1.ok.own i _ e1;refine⟨.ref a,ea,δ1,a1.ok,?_⟩;rw[bA] at q1;refine aX q1 λkx δ2 q2 u H2 a2 r2=>?_
  split at q2
  ·rename_i ds e2;split at q2
   ·rename_i kk hk;split at q2
    ·rename_i hz;obtain⟨a',ea',oa,_⟩:=a2.ok.own i _ e2;rw[ea] at ea'; cases ea'
     obtain⟨ws,ha,hk1,hk2⟩:=id oa;have dr:DR H2 (Av c σ δ2) ws ds:=DR.of hk1 hk2;have pH:=u9 hk r2.b;subst pH;have hlen:ws.length=ds.length:=by have:=congrArg Qp hk1; simpa using this
     have rv:Rep H2 (Av c σ δ2) v r.d:=Rep.d_ r1.rep a2;refine⟨a,_,rfl,qG.k ha %[hlen|hz],?_⟩;exact q2 σ _ (a1.trans (a2.trans (Ok.P5 a2.ok e2 ea (dr.put rv))))
    ·exact q2.elim
   ·exact q2.elim
  ·exact q2.elim
def Cx.loop(X:Cx):Cx:={ X with xe:=notedBy (model X.prog X.w) X.A X.env (cameBackBy (model X.prog X.w) X.A X.env X.xe) }
abbrev DX:=List S->Option ((S×List S) ⊕ (Xc×List S))
structure ZA(z TI TO i1 i2:Addr)(f1 f2:List Addr):Prop where
 m1:i1 ∈ f1
 m2:i2 ∈ f2
 z1:z ∉ f1
 z2:z ∉ f2
 t1:TO ∉ f1
 t2:TO ∉ f2
 k1:i1 ∉ f2
 k2:i2 ∉ f1
 tz:TO≠z
 iz:TI≠z
 io:TI≠TO
 n1:TI≠i1
 n2:TI≠i2
def k9(b:Bool)(h:Heap)(a:Addr)(ak:Array Value):Prop:=match b with
 | true=>h.IsList a ak
 | false=>h.IsTuple a ak
def En(b:Bool)(h:Heap)(it a:Addr)(i:Nat):Prop:=match b with
 | true=>h.IsListIter it a i
 | false=>h.IsTupleIter it a i
def Eo (b:Bool) (a:Addr):Obj:={ cls:=.type (match b with | true=>"list_iterator" | false=>"tuple_iterator"),data:=.fields #[.ref a,.int 0 0] }
theorem k9.lt{ak}(q:k9 b h a ak):a < h.objs.size:=by
 cases b
 ·obtain⟨o,e,_⟩:=(q:h.IsTuple a ak); exact Ws e
 ·obtain⟨o,e,_⟩:=(q:h.IsList a ak); exact Ws e
theorem k9.push{ak}(q:k9 b h a ak)(o):k9 b (h.push o) a ak:=by
 cases b
 ·obtain⟨o,e,r⟩:=(q:h.IsTuple a ak); exact⟨o,W7 _ e,r⟩
 ·obtain⟨o,e,r⟩:=(q:h.IsList a ak); exact⟨o,W7 _ e,r⟩
theorem P7{ak}(h:k9 b s.heap a ak)(q:Q (.ref s.heap.objs.size) { s with heap:=s.heap.push (Eo b a) }):W8 (model prog w) A (pyIter (.ref a)) Q E s:=by
 cases b
 ·exact wpAny_pyIter_tuple h q
 ·exact JN h q
theorem P8(b)(hh:A.handled=none)(it a)(cw:a≠it)(ak:Array Value):Draws prog w A it [it,a] ak.size (λi v=>ak[i]? = some v) (λi h=>En b h it a i/\k9 b h a ak):=by
 cases b
 ·exact Draws.tuple' hh it a cw ak
 ·exact Draws.list hh it a cw ak
theorem Inv.Ep{x}(fp:List Addr)(I:Inv X pins σ H s)(hf:∀ b ∈ fp,gh X pins H b)(bu:∀ b ∈ fp,b < s.heap.objs.size)(ru:RelV x u)(rv:RelV y v)
  (hT:h'.get? s.heap.objs.size=some { cls:=.type "tuple",data:=.seq #[u,v] }) (k:∀ b o,b ∉ fp->s.heap.get? b=some o->h'.get? b=some o) :
  Inv X pins σ (upd H s.heap.objs.size (.tup [x,y])) { s with heap:=h',toks:=t' }:=by
 have I1:Inv X pins σ (upd H s.heap.objs.size (.tup [x,y])) { s with heap:=s.heap.push { cls:=.type "tuple",data:=.seq #[u,v] },toks:=t' } :=
  I.laid (t':=t') (λb o e=>W7 _ e) (Wi _) (show cp X.prog X.w _ _ _ (.tup [x,y]) from
   ⟨by simp only[WS,Jk]; rw[QN]; decide,[u,v],.cons ru (.cons rv .nil),i5.new _ _⟩)
 have:=Inv.pG (t':=t') (h':=h') fp I1 (λb o hb eb=>?_) λb hb=>?_
 ·exact this
 ·rcases Heap.get?_push_cases eb with ⟨z,z'⟩ | eb
  ·subst z z'; exact hT
  ·exact k b o hb eb
 ·obtain⟨f0,r⟩:=hf b hb;exact⟨%[aR (WX (bu b hb))|f0],r⟩
def nU(b:Bool)(K:W5)(H:Hp)(a:Addr)(xs:List V):Prop:=match b with
 | true=>cP K H a xs
 | false=>di K H a xs
theorem Inv.Er{xs}(I:Inv X pins σ H s)(h:nU b X.K H a xs):∃ ak,Vals xs ak/\k9 b s.heap a ak.toArray:=by
 cases b
 ·obtain⟨ak,rv,p,_⟩:=I.tuple (h:di X.K H a xs);exact⟨ak,rv,p⟩
 ·obtain⟨ak,rv,p,_⟩:=I.list (h:cP X.K H a xs);exact⟨ak,rv,p.isList⟩
theorem Inv.P9{xs}(I:Inv X pins σ H s)(h:nU b X.K H a xs)(h':nU b X.K H a ys):xs=ys:=by
 cases b
 ·exact I.Bh h h'
 ·exact I.Bg h h'
def ke(xs ys:List D):List D:=List.zipWith (λx y=>D.tup [x,y]) xs ys
theorem P_{xs ys:List D}{d}(h:(ke xs ys)[i]? = some d):∃ x y,xs[i]? = some x/\ys[i]? = some y/\d = .tup [x,y]:=by
 unfold ke at h;rw[List.getElem?_zipWith] at h
 cases e1:xs[i]? with
 | none=>rw[e1] at h; cases h
 | some x =>
  cases e2:ys[i]? with
  | none=>rw[e1,e2] at h; cases h
  | some y =>
   rw[e1,e2] at h
   cases h;exact⟨x,y,rfl,rfl,rfl⟩
theorem aK.two{u x}(r:Rep H O u x)(r':Rep H O v y):aK H O [u,v] [x,y]:=by
 refine⟨rfl,λj v' d' e1 e2=>?_⟩;match j with
 | 0=>simp at e1 e2; subst e1 e2; exact r
 | 1=>simp at e1 e2; subst e1 e2; exact r'
 | j + 2=>simp at e1
noncomputable def rH:D->Option (List D)
 | .lst ds=>some ds
 | .tup ds=>some ds
 | _=>none
theorem Rep.sq{v d ds}(r:Rep H O v d)(e:rH d=some ds) :
  ∃ b a vs,v = .ref a/\nU b K H a vs/\aK H O vs ds/\∀ H2,(∀ p o,H p=some o->¬ O p->H2 p=some o)->nU b K H2 a vs:=by
 cases d <;> first | (simp[rH] at e; done) | skip
 ·cases r with
  | tup h1 h2 h3 h4 =>
   simp only[rH,We] at e;subst e;exact⟨false,_,_,rfl,di.of h2,⟨h3,h4⟩,λH2 k=>di.of (k _ _ h2 h1)⟩
 ·cases r with
  | lst h1 h2 h3 h4 =>
   simp only[rH,We] at e;subst e;exact⟨true,_,_,rfl,.inl h2,⟨h3,h4⟩,λH2 k=>.inl (Rd.keep h2 λo e=>k _ o e h1)⟩
def mw(fk fv:DE):DE:=λδ=>(fk δ).bind λr δ1=>(fv δ1).bind λs δ2=>match r,s with
 | .pure dk,.pure d=>match cA dk with
  | some kk=>.ok (.own (.ay [(kk,d)])) δ2
  | none=>.stuck
 | _,_=>.stuck
section
variable {p:Addr}
theorem Ok.Q_(k:Ok (c.plus p) σ δ H)(h0:c.H₀ p=none)(o):Ok (c.plus p) σ δ (upd H p o):=by
 have uJ:∀ b w,H b=some w->¬ Av (c.plus p) σ δ b->upd H p o b=some w:=λb w e n=>by
  rw[aR (λz:b=p=>n (.inl (.inr z)))]; exact e
 have ex:∀ b,(∃ w,H b=some w)->∃ w,upd H p o b=some w:=λb ⟨w,e⟩=>by
  by_cases z:b=p
  ·rw[z]; exact⟨o,cI⟩
  ·rw[aR z]; exact⟨w,e⟩
 refine⟨λa w e n=>?_,λa z=>ex a (k.bd a z),λa z=>ex a (k.dZ a z),k.len,λi d e=>?_,λi d e=>?_,k.inj,k.pinned⟩
 ·rw[aR (λz:a=p=>by have e':c.H₀ a=some w:=e; grind)];exact k.keep a w e n
 ·obtain⟨v,e1,r⟩:=k.slot i d e;exact⟨v,e1,r.keep uJ⟩
 ·obtain⟨a,e1,oa,h1,h2⟩:=k.own i d e;exact⟨a,e1,oa.keep uJ (λw e=>%[aR (λz:a=p=>h2 (.inr z))|e]),h1,h2⟩
theorem Es(h:post c r k)(m:∀ a δ,k a δ->k' a δ):post (c.plus p) r k':=by
 cases r with
 | ok a δ=>exact m a δ h
 | exc x δ=>exact h
 | stuck=>exact h
end
theorem Et{X c k v fk fv pos}(hk:∀ c',SE X c' k fk)(hv:∀ c',SE X c' v fv):SE X c (.Dict [some k] [v] pos) (mw fk fv):=by
 have PK:PE X k (λσ H Q=>∃ c',tD c' fk σ H Q):=λpins s σ H Q I ⟨c',h⟩=>hk c' pins s σ H Q I h
 have PV:PE X v (λσ H Q=>∃ c',tD c' fv σ H Q):=λpins s σ H Q I ⟨c',h⟩=>hv c' pins s σ H Q I h
 refine PE.weak (MY (MW PK PV MV) rfl rfl Z5 Z5) λσ H Q ⟨δ,kk,q⟩=>?_
 intro p hp;show ∃ c',tD c' fk σ (upd H p (.dK [])) λx H1=>∃ c',tD c' fv σ H1 λy H2=>H2 p=some (.dK [])/\∃ aj:List (Key×V),[(x,y)]=aj.map (λkv=>(kV kv.1,kv.2))/\aj.length<=15/\Q (.ref p) (upd H2 p (.dK (m9 [] aj)))
 unfold mw at q;rw[bA] at q;refine⟨c.plus p,δ,kk.plus hp _,Es q λr δ1 q1 x H1 a1 rx=>?_⟩;rw[bA] at q1;refine⟨c.plus p,δ1,a1.ok,Es q1 λs δ2 q2 y H2 a2 ry=>?_⟩;have A:=a1.trans a2;have h0:=kk.nr hp;have nb:¬ c.B p:=λz=>kk.ja hp (.inl z)
 have Ra:H2 p=some (.dK []):=A.keep p _ cI λz=>kk.ja hp (.inr z)
 cases r with
 | own d=>exact q2.elim
 | pure dk =>
  cases s with
  | own d=>exact q2.elim
  | pure d =>
   cases hkd:cA dk with
   | none=>simp only[hkd] at q2; exact q2.elim
   | some kd =>
    simp only[hkd] at q2;have ex:x=kV (dw kd):=u9 hkd (.inl rx);refine⟨Ra,[(dw kd,y)],by rw[ex]; rfl,Z5,?_⟩;have em:m9 [] [(dw kd,y)]=[(dw kd,y)]:=rfl;rw[em];have Eu:=A.ok.Q_ h0 (.dK [(dw kd,y)]);have ne:∀ {a w},H a=some w->a≠p:=λe z=>by grind
    refine q2 (.ref p) _ ⟨Eu.less,λa w e n=>?_,λa z=>?_,λa w e=>?_⟩ ⟨p,rfl,⟨[(dw kd,y)],cI,rfl,λi u t e1 e2=>?_⟩,nb,h0,Eu,hp⟩
    ·rw[aR (ne e)];exact A.keep a w %[aR (ne e)|e] n
    ·by_cases zp:a=p
     ·rw[zp]; exact .inr hp
     ·rcases A.own a z with z | z
      ·exact .inl z
      ·rw[aR zp] at z; exact .inr z
    ·obtain⟨w',e'⟩:=A.there a w %[aR (ne e)|e];exact⟨w',%[aR (ne e)|e']⟩
    ·match i with
     | 0 =>
      cases e1
      cases e2;exact Rep.keep (show Rep H2 (Av (c.plus p) σ δ2) y d from ry) λb w e n=>%[aR (λz:b=p=>n (.inl (.inr z)))|e]
     | i + 1=>cases e1
section
variable {q:Str}{st:Stmt}{f:Addr}
abbrev bW(K:W5)(x:Str)(st:Stmt):Prop:=∃ (f:Addr) (oc:Value) (od:Option Addr) (kV dc pm:Value) (an:Option Addr) (cd ct:Value) (sl:Array (Option Value)),
 PySem.W.nsIn K Wy x=some (some (.ref f))/\K.lookup f=some ⟨oc,od,.func (Qm x x (il st) (eA st) (bM st) .none kV dc pm an cd ct),sl⟩/\PySem.W.codeIn K cd x=true/\Jv K (.ref f)=true
theorem rJ(X:K.In h)(G:h.Ns Wy mg)(d:bW K x st):∃ f fd,eB K x x st f fd/\mg x=some (.ref f):=by
 obtain⟨f,oc,od,kV,dc,pm,an,cd,ct,sl,a,l,c,k⟩:=d;exact⟨f,_,xh l c k,PySem.W.mg_of X G a⟩
abbrev Bd(x q:Str)(st:Stmt)(ps:List Str)(us:List Value):Prop:=∀ (kV doc pm:Value) (an:Option Addr) (aU ct:Value),bindArgs (Qm x q (il st) (eA st) (bM st) .none kV doc pm an aU ct) ⟨us,[]⟩=pure (ps.zip us)
variable {p1 p2 p3 p4 p5 p6:Str}
theorem Ew(F:eB K x q st f fd)(h:∀ a,Bd x q st [p1] [a]):Binds K fd [p1] []:=F.binds λ_ _ _ _ _ _ us hl=>match us,hl with
 | [a],_=>h a _ _ _ _ _ _
theorem vb(F:eB K x q st f fd)(h:∀ a b,Bd x q st [p1,p2] [a,b]):Binds K fd [p1,p2] []:=F.binds λ_ _ _ _ _ _ us hl=>match us,hl with
 | [a,b],_=>h a b _ _ _ _ _ _
theorem Ex(F:eB K x q st f fd)(h:∀ a b c,Bd x q st [p1,p2,p3] [a,b,c]):Binds K fd [p1,p2,p3] []:=F.binds λ_ _ _ _ _ _ us hl=>match us,hl with
 | [a,b,c],_=>h a b c _ _ _ _ _ _
theorem Rb(F:eB K x q st f fd)(h:∀ a b c d,Bd x q st [p1,p2,p3,p4] [a,b,c,d]):Binds K fd [p1,p2,p3,p4] []:=F.binds λ_ _ _ _ _ _ us hl=>match us,hl with
 | [a,b,c,d],_=>h a b c d _ _ _ _ _ _
end
theorem Rc{α:Type}{P:α->Prop}{a:α}(x:P a):∀ z ∈ [a],P z:=λ_ h=>by cases h with | head=>exact x | tail _ h=>cases h
theorem Ey{α:Type}{P:α->Prop}{a b:α}(x:P a)(y:P b):∀ z ∈ [a,b],P z:=λ_ h=>by cases h with | head=>exact x | tail _ h=>exact Rc y _ h
section
open PySem.SeqAt
def yw(z:Str):Value->Bool
 | .str x _=>x == z
 | _=>false
theorem Rf{xs}(h:Vals xs us):∀ (j:Nat) (u:Value),us[j]? = some u->∃ v,xs[j]? = some v/\RelV v u:=by
 induction h with
 | nil=>intro j u e; simp at e
 | cons r rs ih =>
  intro j u e
  cases j with
  | zero=>simp at e; subst e; exact⟨_,rfl,r⟩
  | succ j=>simpa using ih j u (~~~e)
def Ez(K:W5):V->List V->Hp->VK->Prop:=λx xs H Q=>∃ (a:Addr) (ts:List Tx) (z:Tx),x = .ref a/\xs=[.str (toS z)]/\cP K H a (ts.map λt=>V.str (toS t))/\z ∈ ts/\ts.length<=1000/\Q (.int (ts.idxOf z:Nat)) H
theorem Rg:wU X "list.index" (Ez X.K):=by
 intro pins s σ H x xs v us Q I rx rs h;obtain⟨a,ts,z,rfl,rfl,hq,hm,hl,q⟩:=h;obtain⟨u,rfl,ru⟩:=g7 rs;obtain⟨tk,rfl⟩:=ru
 cases rx;obtain⟨ak,r',p,_⟩:=I.list hq;obtain⟨⟨cls,dd,data,sl⟩,ho,hc,n,hd⟩:=p.isList;simp only at hc hd;subst hc; subst hd
 have at':∀ j (hj:j < ak.length),∃ t tk,ts[j]? = some t/\ak[j] = .str (toS t) tk:=λj hj=>by
  obtain⟨v,e1,r1⟩:=Rf r' j _ (Wb hj);rw[Wj] at e1;obtain⟨t,e2,e3⟩:=Option.map_eq_some_iff.mp e1;subst e3;obtain⟨tk,e4⟩:=r1;exact⟨t,tk,e2,e4⟩
 have hlen:ak.length=ts.length:=by have:=r'.length; simpa using this.symm
 have hj:ts.idxOf z < ts.length:=List.idxOf_lt_length_iff.mpr hm;have nV:ts.idxOf z < ak.length:=by lia
 refine Ub PySem.F.slot_list_index ⟨_,ho,rfl⟩ PySem.F.entry_list_index (PySem.F.args_list_index_2 _ _) (list_indexAt a _ n dd sl (.str (toS z) tk) (yw (toS z)) (ts.idxOf z) (~~~nV) Y' ?_ ?_) ⟨ho,λy hy=>?_,⟨.int (ts.idxOf z:Nat),H,I.tok _,⟨_,rfl⟩,q⟩⟩
 ·obtain⟨t,jM,e1,e2⟩:=at' _ nV;have e3:ts[ts.idxOf z]=z:=List.getElem_idxOf hj;rw[Wb hj,e3] at e1
  cases e1;simp only[List.getElem_toArray,e2,yw];exact beq_self_eq_true _
 ·intro m EA bu;have EB:m < ak.length:= ~~~EA
  obtain⟨t,jM,e1,e2⟩:=at' m EB;have cw:t≠z:=λe=>by
   subst e;have rK:m < ts.length:=by lia
   have z2:=List.not_of_lt_findIdx (p:=(· == t)) (xs:=ts) (i:=m) bu;rw[Wb rK] at e1
   cases e1;simp at z2
  simp only[List.getElem_toArray,e2,yw];rw[uo];exact beq_false_of_ne cw
 ·have Rh:y ∈ ak:= ~~~hy
  obtain⟨j,hjj,rfl⟩:=U1 Rh;obtain⟨t,jM,e1,e2⟩:=at' j hjj;rw[e2];exact EqAt.str_str _ _ _ _
end
noncomputable def EC:D->Bool
 | .lst _=>true
 | _=>false
noncomputable def nW(x y:D):Option S:=match x,y with
 | .lst ds,.str z=>match gr ds with
  | some ts=>if z ∈ ts/\ts.length<=1000 then some (.pure (.int (ts.idxOf z:Nat))) else none
  | none=>none
 | _,_=>none
def mx(fa fb:DE):DE:=λδ=>(fa δ).bind λr δ1=>if EC r.d then(fb δ1).bind λy δ2=>p2 nW r.d y.d δ2 else .stuck
section
variable {o:Expr}{fa fb:DE}
theorem Ri:dF (λx y H Q=>Ez K x [y] H Q) nW:=by
 intro c σ δ H x y d e s Q k rx ry hp q
 cases d with
 | lst ds =>
  cases e with
  | str z =>
   simp only[nW] at hp;split at hp
   ·rename_i ts ht;split at hp
    ·rename_i hz
     cases hp;obtain⟨a,vs,ea,ha,r⟩:=rx.lst;have ev:=o_ ht r;subst ev;exact⟨a,ts,z,ea,by rw[ry.str],.inl ha,hz.1,hz.2,q _ H (.refl k) (.int _)⟩
    ·cases hp
   ·cases hp
  | _=>simp[nW] at hp
 | _=>simp[nW] at hp
theorem Rj(he:SE X c o fa)(hx:SE X c e fb)
  (m4:J9 o "index" X.env (eval o X.env)=eval o X.env:=by rfl)
  (m5:((Qv bI (Wd [e] X.env)).all (λx=>!x.1) && (backToKw bI (Uk [] X.env)).all (λx=>x.1.isSome)
   && decide ([e].length + ([]:List Keyword).length + (if ([]:List Keyword).isEmpty then 0 else 1) < 30))=true:=by rfl)
  (ik:(apos.endLine == bI.line)=true:=by rfl) (hs:Wd [e] X.env=(false,eval e X.env) :: Wd [] X.env:=by rfl) :
  SE X c (.Call (.Attribute o "index" apos) [e] [] bI) (mx fa fb):=by
 refine PE.weak (t5 PySem.F.plainAttrs_list PySem.F.slot_list_index PySem.F.type_list_index Rg he (fc hx g8 hs) m4 m5 ik hs rfl) λσ H Q h=>?_
 obtain⟨δ,k,q⟩:=h;unfold mx at q;rw[bA] at q;refine⟨δ,k,aX q λr δ1 q1 v H1 a1 r1=>?_⟩;split at q1
 case isFalse=>exact q1.elim
 rename_i hL;have ty:wX X.K "list" v H1:=by
  have r2:=r1.rep
  cases hd:r.d <;> rw[hd] at hL <;> try cases hL
  rw[hd] at r2;obtain⟨a,vs,ea,ha,_⟩:=cX.lst (.inl r2:cX c σ δ1 H1 v _);subst ea;exact .inl ⟨rfl,_,.inl ha⟩
 rw[bA] at q1;refine⟨ty,δ1,a1.ok,aX q1 λy δ2 q2 u H2 a2 r2=>?_⟩;exact xC Ri a2.ok (.inl (Rep.d_ r1.rep a2)) (.inl r2.rep) (aX q2 λs δ3 q3 v' H3 a3 r3=>q3 v' H3 (a1.trans (a2.trans a3)) (bD.back r3 (a1.trans a2)))
end
section
open PySem.W
def Good(n:Nat){α:Type}:KasT α->(α->Prop)->Prop
 | .ret a,R=>R a
 | .ask i j k,R=>i < n/\j < n/\i≠j/\∀ b,Good n (k b) R
def runK{α:Type}(lt:Nat->Nat->Bool):KasT α->α
 | .ret a=>a
 | .ask i j k=>runK lt (k (lt i j))
section
variable {α β:Type}
theorem Good.bind{R f}:∀ {t:KasT α},Good n t R->(∀ a,R a->Good n (f a) R')->Good n (t.bind f) R'
 | .ret a,h,k=>k a h
 | .ask i j g,h,k=>⟨h.1,h.2.1,h.2.2.1,λb=>Good.bind (h.2.2.2 b) k⟩
theorem Good.mono{R}:∀ {t:KasT α},Good n t R->(∀ a,R a->R' a)->Good n t R'
 | .ret a,h,k=>k a h
 | .ask i j g,h,k=>⟨h.1,h.2.1,h.2.2.1,λb=>Good.mono (h.2.2.2 b) k⟩
theorem Good.run{R}(lt:Nat->Nat->Bool):∀ {t:KasT α},Good n t R->R (runK lt t)
 | .ret a,h=>h
 | .ask i j g,h=>Good.run (t:=g (lt i j)) lt (h.2.2.2 _)
theorem Good.wp{R G}
  (hc:∀ i j,i < n->j < n->i≠j->∀ C:Bool->W4->Prop,C (lt i j) s->cmp i j C s):∀ {t:KasT α},Good n t R->G (runK lt t) s->t.kasWp cmp G s
 | .ret a,h,g=>g
 | .ask i j k,h,g=>hc i j h.1 h.2.1 h.2.2.1 _ (Good.wp hc (h.2.2.2 _) g)
end
section
variable {p:Array Nat}
abbrev dJ(n:Nat)(p:Array Nat):Prop:=p.Perm (U9 (WY n))
theorem dJ.size(h:dJ n p):p.size=n:=by rw[Array.Perm.size_eq h]; simp
theorem dJ.list(h:dJ n p):p.toList.Perm (WY n):=by simpa using Array.perm_iff_toList_perm.mp h
theorem dJ.lt(h:dJ n p)(h0:0 < n)(i):p.getD i 0 < n:=by
 by_cases hi:i < p.size
 ·have:p[i] ∈ p.toList:=by simp
  have:=(h.list.mem_iff).mp this;simpa[Array.getD,hi] using this
 ·simpa[Array.getD,hi] using h0
theorem dJ.ne(h:dJ n p)(hi:i < n)(hj:j < n)(e:i≠j):p.getD i 0≠p.getD j 0:=by
 have hs:=h.size;have nd:p.toList.Nodup:=h.list.nodup_iff.mpr List.nodup_range;have gG:i < p.size:=by lia
 have nV:j < p.size:=by lia
 intro z;have e1:p.getD i 0=p.toList[i]'(~~~gG):=#v[Array.getD,gG]
 have e2:p.getD j 0=p.toList[j]'(~~~nV):=#v[Array.getD,nV]
 rw[e1,e2] at z;rcases Nat.lt_or_gt_of_ne e with q | q
 ·exact(List.pairwise_iff_getElem.mp nd) i j (~~~gG) (~~~nV) q z
 ·exact(List.pairwise_iff_getElem.mp nd) j i (~~~nV) (~~~gG) q z.symm
theorem dJ.rev(h:dJ n p)(i j):dJ n (kas_rev p i j):=(mirror_perm p i j _).trans h
theorem dJ.Rk(h:dJ n p)(i j):dJ n (bubble p i j):=(bubble_perm p i j).trans h
theorem yx(h:dJ n p):∀ f m,1<=m->m + f<=n->Good n (kas_asc p f m) (λr=>m<=r/\r<=n)
 | 0,m,h1,h2=>⟨Wi _,h2⟩
 | f + 1,m,h1,h2=>⟨h.lt Y' _,h.lt Y' _,h.ne Y' Y' Y',λb=>by
  cases b
  ·exact(yx h f (m + 1) Y' Y').mono λr z=>⟨Y',z.2⟩
  ·exact⟨Wi _,Y'⟩⟩
theorem vc:∀ f {p:Array Nat} (h:dJ n p) m q,1<=m->m + f<=n->Good n (kas_desc f p m q) (λr=>dJ n r.1/\1<=r.2.1/\r.2.1<=n)
 | 0,p,h,m,q,h1,h2=>⟨h,h1,h2⟩
 | f + 1,p,h,m,q,h1,h2=>⟨h.lt Y' _,h.lt Y' _,h.ne Y' Y' Y',λb=>by
  cases b
  ·refine⟨h.lt Y' _,h.lt Y' _,h.ne Y' Y' Y',λd=>?_⟩
   cases d
   ·exact vc f h (m + 1) (q + 1) Y' Y'
   ·exact⟨h,h1,show m<=n by lia⟩
  ·show Good n (if q > 0 then kas_desc f (kas_rev p (m - (q + 1)) m) (m + 1) 0 else kas_desc f p (m + 1) 0) _;split
   ·exact vc f (h.rev _ _) (m + 1) 0 Y' Y'
   ·exact vc f h (m + 1) 0 Y' Y'⟩
theorem ED{m}(h:dJ n p)(h1:1<=m)(h2:m<=n):Good n (kas_tail3 m n p) (λr=>dJ n r.2/\1<=r.1/\r.1<=n) :=
 (yx (h.rev 0 m) (n - m) m h1 Y').bind λr z=>⟨h.rev _ _,by have:=z.1; lia,z.2⟩
theorem EE{m}(h:dJ n p)(h1:1<=m)(h2:m + 1<=n):Good n (kas_descPart m n p) (λr=>dJ n r.2/\1<=r.1/\r.1<=n) :=
 (vc (n - (m + 1)) h (m + 1) 0 Y' Y').bind λr z=>by
  show Good n (if r.2.2 > 0 then _ else _) _;split
  ·exact ED (z.1.rev _ _) z.2.1 z.2.2
  ·exact ED z.1 z.2.1 z.2.2
theorem Rl(h:dJ n p)(h2:2<=n):Good n (kas_count n p) (λr=>dJ n r.2/\1<=r.1/\r.1<=n) :=
 (yx h (n - 1) 1 Y' Y').bind λm z=>by
  show Good n (if (m == n)=true then _ else _) _;split
  ·exact⟨h,z.1,z.2⟩
  ·rename_i hm;have EA:m≠n:=λe=>hm #v[e]
   split
   ·refine⟨h.lt Y' _,h.lt Y' _,h.ne Y' Y' Y',λc=>?_⟩
    cases c
    ·exact EE (h.rev _ _) z.1 Y'
    ·exact⟨h,z.1,z.2⟩
   ·exact EE h z.1 Y'
theorem yy(h:dJ n p)(hk:k < n):∀ f l r,r<=k->Good n (kas_place p k f l r) (λ_=>True)
 | 0,l,r,_=>trivial
 | f + 1,l,r,hr=>by
  show Good n (if l ≥ r then _ else _) _;split
  ·trivial
  ·refine⟨h.lt Y' _,h.lt Y' _,h.ne Y' Y' Y',λc=>?_⟩
   cases c
   ·exact yy h hk f _ _ hr
   ·exact yy h hk f _ _ Y'
theorem EF:∀ f {p:Array Nat} (h:dJ n p) k,k + f<=n->Good n (kas_bin f p k) (λr=>dJ n r)
 | 0,p,h,k,_=>h
 | f + 1,p,h,k,hk=>(yy h Y' k 0 k (Wi _)).bind λl _=>EF f (h.Rk _ _) (k + 1) Y'
theorem EG(h2:2<=n):Good n (kas_sort n) (λr=>dJ n r) :=
 (Rl (.refl _) h2).bind λr z=>by
  show Good n (if r.1 < n then _ else _) _;split
  ·exact EF _ z.1 _ Y'
  ·exact z.1
end
def fZ(ks:List Tx):List Nat:=(runK (λi j=>decide (ks.getD i [] < ks.getD j [])) (kas_sort ks.length)).toList
theorem vd(h:2<=ks.length):(fZ ks).Perm (WY ks.length):=dJ.list (Good.run _ (EG h))
structure kf(h:Heap)(vs:List Value)(ks:List Tx):Prop where
 len:ks.length=vs.length
 at':∀ i v,vs[i]? = some v->∃ b o xs m t,v = .ref b/\h.get? b=some o/\o.cls = .type "tuple"/\o.data = .seq xs m/\xs[0]? = some (.str (toS (ks.getD i [])) t)
theorem kf.keeps{vs} (t:kf h vs ks) (k:∀ b o,h.get? b=some o->o.cls = .type "tuple"->h'.get? b=some o):kf h' vs ks :=
 ⟨t.len,λi v e=>let ⟨b,o,xs,m,tk,e1,e2,e3,r⟩:=t.at' i v e; ⟨b,o,xs,m,tk,e1,k b o e2 e3,e3,r⟩⟩
theorem EH:∀ {vs:List Value} {ks:List Tx},kf h vs ks->∃ fs,KatTups h vs fs/\fs.length=vs.length/\∀ v ∈ fs,∃ x t,v=Value.str x t
 | [],ks,t=>⟨[],trivial,rfl,λv h=>by simp at h⟩
 | v :: vs,[],t=>by have:=t.len; simp at this
 | v :: vs,k :: ks,t=>by
  obtain⟨fs,a,b,c⟩:=EH (vs:=vs) (ks:=ks) ⟨by have:=t.len; simpa using this,λi v e=>by
   have:=t.at' (i + 1) v (~~~e);simpa using this⟩
  obtain⟨x,o,xs,m,tk,rfl,e2,e3,e4,e5⟩:=t.at' 0 v rfl;exact⟨_ :: fs,⟨⟨x,o,xs,m,rfl,e2,e3,e4,e5⟩,a⟩,#v[b],λv hv=>by
   rcases Wu.mp hv with rfl | hv
   ·exact⟨_,_,rfl⟩
   ·exact c v hv⟩
section
variable {vs:List Value}{ks:List Tx}
theorem Rm{C}(t:kf s.heap vs ks)(nd:ks.Nodup)(hi:i < vs.length)(hj:j < vs.length)(ne:i≠j)(h:C (decide (ks.getD i [] < ks.getD j [])) s):kas_ask prog w A (tuples' true) vs i j C s:=by
 obtain⟨a,o,xs,m,tk,e1,e2,e3,e4,e5⟩:=t.at' i vs[i] #v[hi];obtain⟨b,p,ys,n,tl,f1,f2,f3,f4,f5⟩:=t.at' j vs[j] #v[hj];unfold kas_ask;rw[Qi,Qi,Wb hi,Wb hj];simp only[JW];rw[e1,f1];refine kat_lt e2 e4 f2 f4 ?_;have hx:∃ r,xs.toList = .str (toS (ks.getD i [])) tk :: r:=by
  have:xs.toList[0]? = some (.str (toS (ks.getD i [])) tk):= ~~~e5
  cases z:xs.toList with
  | nil=>rw[z] at this; simp at this
  | cons u r=>rw[z] at this; simp at this; exact⟨r,by rw[this]; simp⟩
 have hy:∃ r,ys.toList = .str (toS (ks.getD j [])) tl :: r:=by
  have:ys.toList[0]? = some (.str (toS (ks.getD j [])) tl):= ~~~f5
  cases z:ys.toList with
  | nil=>rw[z] at this; simp at this
  | cons u r=>rw[z] at this; simp at this; exact⟨r,by rw[this]; simp⟩
 obtain⟨r,hr⟩:=hx;obtain⟨q,hq⟩:=hy;rw[hr,hq,List.zip_cons_cons];have Rn:i < ks.length:=%[t.len|hi]
 have Ro:j < ks.length:=%[t.len|hj]
 have cw:(toS (ks.getD i []) == toS (ks.getD j []))=false:=by
  rw[beq_eq_false_iff_ne];intro z;have z:=xr z;rw[Qi,Qi,Wb Rn,Wb Ro] at z;exact ne ((Uq nd).mp z)
 refine kat_cons (eqBool_str ?_);rw[cw];refine kat_no (oneLt_str ?_);rw[oO,oO];exact h
theorem Rp{P} (ho:s.heap.get? a=some (QB "list" vs.toArray n)) (t:kf s.heap vs ks) (nd:ks.Nodup) (h2:2<=vs.length) (pI:vs.length < 64)
  (h:P (.done (.ret .none)) { s with heap:=sortedHeap s.heap a vs (U9 ((fZ ks).map λi=>vs.getD i Value.none)) }):W8 (model prog w) A (Builtin.«list.sort» ⟨[.ref a],[]⟩) P E s:=by
 have bu:a < s.heap.objs.size:=Ws ho;obtain⟨e1,ho1⟩:∃ e1,(s.heap.update a (Obj.mapSeq λ_=>(#[]:Array Value))).get? a=some (QB "list" #[] e1):=⟨_,get?_update_seq ho λ_=>#[]⟩
 rw[list_sort_plain];refine W0 (listItems_at ho rfl (W0 (listUpdate_at ho rfl (W0 (seqEpoch_at ho1 rfl (W0 (wpAny_newTuple (W0 (wpAny_newList (WL ?_) (Qq _))) (by show vs.length<=_; rw[QN]; lia))))) (by rw[Wx,QN]; lia) (Qq _))));show W8 (model prog w) A _ P E { s with heap:=((s.heap.update a (Obj.mapSeq λ_=>(#[]:Array Value))).push (QB "tuple" vs.toArray 0)).push (QB "list" #[] 0) };have h6:(((s.heap.update a (Obj.mapSeq λ_=>(#[]:Array Value))).push (QB "tuple" vs.toArray 0)).push (QB "list" #[] 0)).get? a=some (QB "list" #[] e1):=W7 _ (W7 _ ho1);have t6:kf (((s.heap.update a (Obj.mapSeq λ_=>(#[]:Array Value))).push (QB "tuple" vs.toArray 0)).push (QB "list" #[] 0)) vs ks:=t.keeps λb o e c=>by
  have nb:b≠a:=λz=>by
   rw[z,ho] at e
   cases e;exact absurd (Value.type.inj c) Z'
  refine W7 _ (W7 _ ?_);rw[JK _ _ (Ne.symm nb)];exact e
 dsimp only;have jO:¬ vs.toArray.size < 2:=by rw[Wx]; lia
 rw[if_neg jO,if_neg jO];obtain⟨fs,kt,fl,ft⟩:=EH t6;refine W0 (kat_kind (s:={ s with heap:=((s.heap.update a (Obj.mapSeq λ_=>(#[]:Array Value))).push (QB "tuple" vs.toArray 0)).push (QB "list" #[] 0) }) (T:=.type "str") kt Y' (λv hv=>by obtain⟨x,tk,rfl⟩:=ft v hv; exact .now) rfl ?_);refine W0 (Qw (kat_run (s:={ s with heap:=((s.heap.update a (Obj.mapSeq λ_=>(#[]:Array Value))).push (QB "tuple" vs.toArray 0)).push (QB "list" #[] 0) }) (κ:=tuples' true) (ks:=vs) (vs:=vs) (E:=E)
  (G:=λp s'=>p.toList=fZ ks/\s' = { s with heap:=((s.heap.update a (Obj.mapSeq λ_=>(#[]:Array Value))).push (QB "tuple" vs.toArray 0)).push (QB "list" #[] 0) })
  (Q:=λcF s'=>(arrOf cF).map (·.2)=U9 ((fZ ks).map λi=>vs.getD i Value.none)/\failedOf cF=none/\s' = { s with heap:=((s.heap.update a (Obj.mapSeq λ_=>(#[]:Array Value))).push (QB "tuple" vs.toArray 0)).push (QB "list" #[] 0) })
  rfl h2 pI (λp cF s' a1 a2 a3 a4=>⟨by rw[kat_snds rfl a2,a4.1],a3,a4.2⟩) ?_) ?_ λ_ _ e=>e)
 ·refine Good.wp (n:=vs.length) (lt:=λi j=>decide (ks.getD i [] < ks.getD j [])) (R:=λ_=>True) (λi j hi hj ne C hC=>Rm t6 nd hi hj ne hC) ((EG h2).mono λ_ _=>trivial) ⟨?_,rfl⟩;unfold fZ;rw[t.len]
 ·rintro ⟨⟨⟩,cF⟩ s' ⟨q1,q2,rfl⟩;dsimp only at q1 q2 ⊢;have hz:((fZ ks).map λi=>vs.getD i Value.none).length=vs.length:=by
   rw[Wn,(vd (ks:=ks) %[t.len|h2]).length_eq,JM,t.len]
  rw[q1];refine W0 (seqEpoch_at h6 rfl (W0 (listUpdate_at h6 rfl ?_ (Qq _) (by rw[Wx,hz,QN]; lia))));rw[q2];simp only[bne_self_eq_false,Qd,if_false];exact W3 h
theorem Rq(hl:s.heap.IsList l vs.toArray)(t:kf s.heap vs ks)(nd:ks.Nodup)(h2:2<=vs.length)(pI:vs.length < 64)
  (h:Q (.ref (s.heap.objs.size + 1)) { s with heap:=sortedAll s.heap vs (U9 ((fZ ks).map λi=>vs.getD i Value.none)) }):W8 (model prog w) A (call (.builtin "sorted") [.ref l]) Q E s:=by
 refine Calls.call_function_entry kind_sorted plain_sorted entry_sorted (args_sorted1 _) ?_;unfold Builtin.«sorted»;refine W0 (m:=checkCount "sorted" 1 1 _) (W3 (W0 (collect_list hl (W0 (wpAny_newList ?_ (by rw[QN]; lia))) (by rw[QN]; lia))));have hz:((s.heap.push (QB "list" #[] 0)).update s.heap.objs.size (Obj.mapSeq (· ++ vs.toArray))).objs.size=s.heap.objs.size + 1:=by rw[Heap.size_update,size_push']
 have tH:(((s.heap.push (QB "list" #[] 0)).update s.heap.objs.size (Obj.mapSeq (· ++ vs.toArray))).push (QB "list" vs.toArray 0)).get? (s.heap.objs.size + 1)=some (QB "list" vs.toArray 0):=by
  rw[<- hz]; exact Wh _ rfl
 have t2:kf (((s.heap.push (QB "list" #[] 0)).update s.heap.objs.size (Obj.mapSeq (· ++ vs.toArray))).push (QB "list" vs.toArray 0)) vs ks:=t.keeps λb o e _=>by
  have hb:b < s.heap.objs.size:=Ws e;refine W7 _ ?_;rw[JK _ _ (JQ hb)];exact W7 _ e
 show W8 _ _ _ _ _ { s with heap:=((s.heap.push (QB "list" #[] 0)).update s.heap.objs.size (Obj.mapSeq (· ++ vs.toArray))).push (QB "list" vs.toArray 0) };rw[hz];refine W0 (WL (Wz slot_list_sort ⟨_,tH,rfl⟩ entry_list_sort (Rp (s:={ s with heap:=((s.heap.push (QB "list" #[] 0)).update s.heap.objs.size (Obj.mapSeq (· ++ vs.toArray))).push (QB "list" vs.toArray 0) }) tH t2 nd h2 pI ⟨_,rfl,?_⟩) (args_list_sort _)));exact W3 ⟨_,rfl,h⟩
end
theorem Vals.at2{v}(r:Vals vs ak)(e1:vs[i]? = some v)(e2:ak[i]? = some u):RelV v u:=by
 obtain⟨u',e,q⟩:=Vals.get r e1;rw[e2] at e; cases e; exact q
theorem Vals.pick(r:Vals vs ak):∀ is:List Nat,(∀ i ∈ is,i < vs.length)->Vals (is.map λi=>vs.getD i .bp) (is.map λi=>ak.getD i Value.none)
 | [],_=>.nil
 | i :: is,h=>by
  refine .cons ?_ (Vals.pick r is λj hj=>h j (Wg _ hj));have hi:=h i Wp;have hl:=r.length;have e1:vs.getD i .bp=vs[i]:=#v[hi]
  have e2:ak.getD i Value.none=ak[i]' Y':=#v[show i < ak.length by lia]
  show RelV (vs.getD i .bp) (ak.getD i Value.none);rw[e1,e2];exact Vals.at2 (i:=i) r (Wb hi) (Wb Y')
theorem Rr:eO X (.builtin "sorted") (λxs H Q=>∃ (a:Addr) (vs:List V) (ks:List Tx),xs=[.ref a]/\cP X.K H a vs/\ks.length=vs.length/\(∀ (i:Nat) v,vs[i]? = some v->∃ b ws,v = .ref b/\H b=some (.tup ws)/\ws[0]? = some (.str (toS (ks.getD i []))))/\ks.Nodup/\2<=vs.length/\vs.length < 64 /\
  ∀ p,H p=none->Q (.ref p) (upd H p (.lst ((fZ ks).map λi=>vs.getD i .bp)))):=by
 intro pins s σ H xs us Q I r h;obtain⟨a,vs,ks,rfl,hq,hlen,ht,nd,h2,pI,q⟩:=h;obtain⟨u,rfl,ru⟩:=g7 r
 cases ru;obtain⟨ak,r',p,_⟩:=I.list hq;have hl:=r'.length;have t:kf s.heap ak ks:=⟨Y',λi v e=>by
  have hi:i < ak.length:=(W6.mp e).1;have hv:vs[i]? = some (vs[i]' Y'):=#v[show i < vs.length by lia]
  have rv:=Vals.at2 r' hv e;obtain⟨b,ws,eb,hb,h0⟩:=ht i _ hv;rw[eb] at rv;obtain rfl:v=Value.ref b:=rv;obtain⟨_,its',r2,n,eo⟩:=(show cp X.prog X.w H s.heap b (.tup ws) from I.aC b _ hb)
  have kR:=r2.length;have ZF:0 < ws.length:=(W6.mp h0).1;have r0:=Vals.at2 r2 h0 (show its'[0]? = some (its'[0]' Y') by simp[show 0 < its'.length by lia]);obtain⟨tk,e0⟩:=(show ∃ tk,its'[0]' Y'=Value.str (toS (ks.getD i [])) tk from r0)
  exact⟨b,_,its'.toArray,n,tk,rfl,eo,rfl,rfl,by rw[<- e0]; simp[show 0 < its'.length by lia]⟩⟩
 refine Rq p.isList t nd Y' Y' ?_;have hp:=vd (ks:=ks) Y';have Cd:((fZ ks).map λi=>vs.getD i V.bp).length=vs.length:=by rw[Wn,hp.length_eq,JM,hlen]
 obtain⟨e,he⟩:=sortedAll_at s.heap ak (U9 ((fZ ks).map λi=>ak.getD i Value.none));have I1:Inv X pins σ (upd H (s.heap.objs.size + 1) (.lst ((fZ ks).map λi=>vs.getD i .bp))) { s with heap:=sortedAll s.heap ak (U9 ((fZ ks).map λi=>ak.getD i Value.none)) } :=
  I.laid (t':=s.toks) (λb o z=>sortedAll_old z) (Ul _) (show cp X.prog X.w _ _ _ (.lst ((fZ ks).map λi=>vs.getD i .bp)) from⟨by rw[Cd,QN]; lia,(fZ ks).map λi=>ak.getD i Value.none,e,r'.pick _ λi hi=>by
   have:=hp.mem_iff.mp hi;simp at this;lia,he⟩)
 exact⟨.ref _,_,I1,rfl,q _ (I.aC.fresh (Ul _))⟩
end
noncomputable def my:List D->Option (List Tx)
 | []=>some []
 | .tup (.str x :: _) :: r=>(my r).map (x :: ·)
 | _ :: _=>none
theorem EI:∀ {ds:List D} {ks:List Tx},my ds=some ks->ks.length=ds.length/\∀ (i:Nat) d,ds[i]? = some d->∃ r,d = .tup (.str (ks.getD i []) :: r)
 | [],ks,h=>by cases h; exact⟨rfl,λi d e=>by simp at e⟩
 | d :: r,ks,h=>by
  unfold my at h;split at h
  ·rename_i e; cases e
  ·rename_i x q r' e
   cases e
   cases e:my r with
   | none=>rw[e] at h; cases h
   | some ks' =>
    rw[e] at h
    cases h;obtain⟨h1,h2⟩:=EI e;refine⟨#v[h1],λi d' e'=>?_⟩
    cases i with
    | zero=>simp at e'; subst e'; exact⟨q,Z5⟩
    | succ i=>simpa using h2 i d' (~~~e')
  ·cases h
def pJ:List Tx->Bool
 | []=>true
 | x :: r=>!r.contains x && pJ r
theorem EJ:∀ {ks:List Tx},pJ ks=true->ks.Nodup
 | [],_=>.nil
 | x :: r,h=>by
  simp only[pJ,WE,Bool.not_eq_true',List.contains_iff_mem,<- Bool.not_eq_true] at h;exact WN.mpr ⟨~~~h.1,EJ h.2⟩
noncomputable def k_:D->Option S
 | .lst ds=>match my ds with
  | some ks=>if 2<=ks.length/\ks.length < 64/\pJ ks=true then some (.own (.lst ((fZ ks).map λi=>ds.getD i .bp))) else none
  | none=>none
 | _=>none
theorem aK.pick(r:aK H O vs ds):∀ is:List Nat,(∀ i ∈ is,i < vs.length)->aK H O (is.map λi=>vs.getD i .bp) (is.map λi=>ds.getD i .bp)
 | [],_=>.nil
 | i :: is,h=>by
  have hi:=h i Wp;have hl:=r.1;refine .cons (r.2 i _ _ ?_ ?_) (aK.pick r is λj hj=>h j (Wg _ hj))
  ·simp[hi]
  ·simp[show i < ds.length by lia]
theorem Rt:j9 (λv H Q=>∃ (a:Addr) (vs:List V) (ks:List Tx),v = .ref a/\cP K H a vs/\ks.length=vs.length/\(∀ (i:Nat) v,vs[i]? = some v->∃ b ws,v = .ref b/\H b=some (.tup ws)/\ws[0]? = some (.str (toS (ks.getD i []))))/\ks.Nodup/\2<=vs.length/\vs.length < 64 /\
  ∀ p,H p=none->Q (.ref p) (upd H p (.lst ((fZ ks).map λi=>vs.getD i .bp)))) k_ :=
 λc σ δ H x d s Q k rx hp q=>by
  cases d with
  | lst ds =>
   simp only[k_] at hp
   cases e:my ds with
   | none=>rw[e] at hp; cases hp
   | some ks =>
    rw[e] at hp;simp only at hp;split at hp
    ·rename_i hh
     cases hp;obtain⟨h1,h2⟩:=EI e;obtain⟨a,vs,ea,ha,ra⟩:=rx.lst;have hl:=ra.1;refine⟨a,vs,ks,ea,.inl ha,Y',λi v ev=>?_,EJ hh.2.2,Y',Y',λp hp=>?_⟩
     ·have hi:i < vs.length:=(W6.mp ev).1;have hd:ds[i]? = some (ds[i]' Y'):=#v[show i < ds.length by lia]
      obtain⟨r,er⟩:=h2 i _ hd;have rv:=ra.2 i v _ ev hd;rw[er] at rv
      cases rv with
      | @tup b ws _ _ hb hlen hat =>
       have h0:0 < ws.length:=by rw[hlen]; simp
       have r0:=hat 0 (ws[0]'(h0)) (.str (ks.getD i [])) #v[h0] rfl;refine⟨b,ws,rfl,hb,?_⟩;generalize hz:ws[0]'(h0)=z at r0
       cases r0;rw[Wb h0,hz]
     ·refine q _ _ (.alloc k hp _) (bD.oQ k (aK.pick ra _ λi hi=>?_) hp);have:=(vd (ks:=ks) hh.1).mem_iff.mp hi;simp at this;lia
    ·cases hp
  | _=>simp[k_] at hp
theorem Rv (hg:Gl X "sorted") (hm:X.mg "sorted" = none) (he:SB X c e fb) (hs:Wd [e] X.env=(false,eval e X.env) :: Wd [] X.env:=by rfl):SE X c (.Call (.Name "sorted" pp) [e] [] pos) (aA k_ fb) :=
 oZ (r:=λv H Q=>∃ (a:Addr) (vs:List V) (ks:List Tx),v = .ref a/\cP X.K H a vs/\ks.length=vs.length/\(∀ (i:Nat) v,vs[i]? = some v->∃ b ws,v = .ref b/\H b=some (.tup ws)/\ws[0]? = some (.str (toS (ks.getD i []))))/\ks.Nodup/\2<=vs.length/\vs.length < 64 /\
  ∀ p,H p=none->Q (.ref p) (upd H p (.lst ((fZ ks).map λi=>vs.getD i .bp)))) Rr (λv H Q ⟨a,vs,ks,e,h⟩=>⟨a,vs,ks,by rw[e],h⟩) Rt hg hm PyProof.Rows.boot_sorted he Z' Z' hs
section
open PySem.W
section
variable {lt:Nat->Nat->Bool}{r:Nat->Nat}{α β:Type}
structure Lt(lt:Nat->Nat->Bool)(r:Nat->Nat)(n:Nat):Prop where
 lt:∀ i j,i < n->j < n->lt i j=decide (r i < r j)
 inj:∀ i j,i < n->j < n->i≠j->r i≠r j
end
end
section
variable {α β:Type}
@[simp] theorem eS (a:α) (δ:Dl) (f:α->Dl->Rs β):(Rs.ok a δ).bind f=f a δ:=id rfl
@[simp] theorem ZH (f:α->Dl->Rs β):(Rs.stuck:Rs α).bind f = .stuck:=id rfl
@[simp] theorem pK (d:D):(S.pure d).d=d:=id rfl
@[simp] theorem yz (d:D):(S.own d).d=d:=id rfl
end
section
variable (δ:Dl)(i:Nat)(d e:D)(f g:DE)(fb:BE)(t u:DT)(p:D->D->Option S)
@[simp] theorem Rw:eD d δ = .ok (.pure d) δ:=id rfl
@[simp] theorem yA:ar f δ=(f δ).bind λr δ'=>.ok r.d δ':=id rfl
@[simp] theorem Rx:aH p f fb δ=(f δ).bind λx δ1=>(fb δ1).bind λy δ2=>p2 p x.d y δ2:=id rfl
@[simp] theorem ZI:oV t u δ=(t δ).bind λb δ1=>if b then u δ1 else .ok false δ1:=id rfl
@[simp] theorem ZJ:nv t u δ=(t δ).bind λb δ1=>if b then .ok true δ1 else u δ1:=id rfl
@[simp] theorem ZK:gI t δ=(t δ).bind λb δ1=>.ok (!b) δ1:=id rfl
@[simp] theorem ZL:N1 t f g δ=(t δ).bind λb δ1=>if b then f δ1 else g δ1:=id rfl
@[simp] theorem ZM:cR δ = .ok .next δ:=id rfl
@[simp] theorem ZN:aZ δ = .ok true δ:=id rfl
@[simp] theorem ZO:kX f δ=(f δ).bind λ_ δ1=>.ok .next δ1:=id rfl
@[simp] theorem ZP:bU f δ=(f δ).bind λr δ1=>.ok (.ret r) δ1:=id rfl
@[simp] theorem yB (a b:DS):cN t a b δ=(t δ).bind λx δ1=>if x then a δ1 else b δ1:=id rfl
@[simp] theorem rL (it:DI) (gg:DG) (b:DS):bG it gg b δ=(it δ).bind λds δ1=>forL gg b ds δ1:=id rfl
@[simp] theorem ZQ (a:DA):ba a δ=(a δ).bind λds δ'=>.ok (.pure (.tup ds)) δ':=id rfl
@[simp] theorem ZR (a:DA):cG a δ=(a δ).bind λds δ'=>.ok (.own (.lst ds)) δ':=id rfl
@[simp] theorem ZS (ds:List D):uU ds δ = .ok (.own (.lst ds)) δ:=id rfl
@[simp] theorem ZT:aJ δ = .ok [] δ:=id rfl
@[simp] theorem ZU (a:DA):ax f a δ=(f δ).bind λx δ1=>(a δ1).bind λxs δ2=>.ok (x.d :: xs) δ2:=id rfl
@[simp] theorem ZV (q:D->Option S):aA q fb δ=(fb δ).bind λx δ1=>p1 q x δ1:=id rfl
@[simp] theorem ZX:qX f g δ=(f δ).bind λx δ1=>(g δ1).bind λy δ2=>p2 xO x.d y.d δ2:=id rfl
@[simp] theorem ZY (fl fh:l0):ph f fl fh δ=(f δ).bind λx δ1=>(fl δ1).bind λl δ2=>(fh δ2).bind λh δ3=>p1 (eY l h) x.d δ3:=id rfl
@[simp] theorem ZZ:l5 δ = .ok none δ:=id rfl
@[simp] theorem Ry (cs:List Nat) (it:DI) (gg:DG) (el:DE):bE cs it gg t el δ=(it δ).bind λds δ1=>if cs.any (bN δ1) then .stuck else
 (cT cs gg t el ds (bz cs δ1) []).bind λacc δ2=>.ok (.own (.lst acc)) (cS cs δ1 δ2):=id rfl
@[simp] theorem Rz (np:List Nat) (r:S):ae np i r δ=if np.contains i then none else some (δ.set i (some r)):=id rfl
@[simp] theorem Z0 (gg:DG) (b:DS):forL gg b [] δ = .ok .next δ:=id rfl
end
section
variable (δ:Dl)(i:Nat)(d e:D)(f g:DE)(fb:BE)(p:D->D->Option S)(s:S)
@[simp] theorem ve (x y:D):p2 p x y δ=match p x y with | some s=>.ok s δ | none=>.stuck:=id rfl
@[simp] theorem Z1 (q:D->Option S) (x:D):p1 q x δ=match q x with | some s=>.ok s δ | none=>.stuck:=id rfl
@[simp] theorem RA (a b:DS):aq a b δ=(a δ).bind λfl δ1=>match fl with | .next=>b δ1 | .ret r=>.ok (.ret r) δ1 | .brk=>.ok .brk δ1 | .cont=>.ok .cont δ1:=id rfl
@[simp] theorem Z2 {α β:Type} (c:Prop) [Decidable c] (x y:Rs α) (k:α->Dl->Rs β):(if c then x else y).bind k=if c then x.bind k else y.bind k:=by split <;> rfl
end
theorem cm:Wa=16777216:=rfl
theorem iA(xs:List α)(i:Nat):dE xs (i:Int)=xs[i]?:=by
 unfold dE fD;by_cases h:i < xs.length
 ·rw[if_pos Y',if_pos Y'];simp
 ·rw[if_pos Y',if_neg Y'];simp[Qy (Nat.le_of_not_lt h)]
theorem yC(xs:List α):dE xs 2=xs[2]?:=iA xs 2
theorem jm(xs:List α):dE xs 0=xs[0]?:=iA xs 0
theorem vf(xs:List α):dE xs 1=xs[1]?:=iA xs 1
theorem vg{el}(I:Dl->Prop)(R:D->D->Prop) :
  ∀ (ds:List D) (δ:Dl) (acc:List D),I δ->acc.length + ds.length<=Wa ->
   (∀ d ∈ ds,∀ δ,I δ->∃ δ1 δ2 x δ3,g (.pure d) δ=some δ1/\t δ1 = .ok true δ2/\el δ2 = .ok x δ3/\I (bz cs δ3)/\R d x.d) ->
   ∃ xs δ',cT cs g t el ds δ acc = .ok (acc ++ xs) δ'/\I δ'/\xs.length=ds.length/\∀ (i:Nat) d x,ds[i]? = some d->xs[i]? = some x->R d x
 | [],δ,acc,h,_,_=>⟨[],δ,#v[cT],h,rfl,λi d x e=>by simp at e⟩
 | d :: r,δ,acc,h,hl,hs=>by
  obtain⟨δ1,δ2,x,δ3,e1,e2,e3,h3,hr⟩:=hs d Wp δ h;have i7:acc.length < Wa:=by simp at hl; lia
  obtain⟨xs,δ',e4,h4,hn,hf⟩:=vg (g:=g) (t:=t) (el:=el) I R r (bz cs δ3) (acc ++ [x.d]) h3 U' (λd hd=>hs d (Wg _ hd));refine⟨x.d :: xs,δ',?_,h4,#v[hn],λi d' x' f1 f2=>?_⟩
  ·unfold cT;simp_all
  ·cases i with
   | zero=>simp at f1 f2; subst f1 f2; exact hr
   | succ i=>exact hf i d' x' (~~~f1) (~~~f2)
theorem RB(F:D->D)(δ) :
  ∀ (ds:List D) (acc:List D),acc.length + ds.length<=Wa ->
   (∀ d ∈ ds,∃ δ1 δ2 x δ3,g (.pure d) δ=some δ1/\t δ1 = .ok true δ2/\el δ2 = .ok x δ3/\bz cs δ3=δ/\x.d=F d) ->
   cT cs g t el ds δ acc = .ok (acc ++ ds.map F) δ:=by
 intro ds acc hl hs;obtain⟨xs,δ',e,h,hn,hf⟩:=vg (cs:=cs) (g:=g) (t:=t) (el:=el) (λδ'=>δ'=δ) (λd x=>x=F d) ds δ acc rfl hl (λd hd δ' h=>by
  subst h;obtain⟨δ1,δ2,x,δ3,a,b,c,d,e⟩:=hs d hd;exact⟨δ1,δ2,x,δ3,a,b,c,d,e⟩)
 subst h;rw[e];congr 2
 apply List.ext_getElem?;intro i;by_cases hi:i < ds.length
 ·have:=hf i ds[i] (xs[i]' Y') #v[hi] #v[hn,hi];simp[hn,hi,this]
 ·rw[Qy Y',Qy Z6]
theorem jn(I:Nat->Dl->Prop) :
  ∀ (ds:List D) n δ,I n δ ->
   (∀ i d δ,ds[i]? = some d->I (n + i) δ->∃ δ1 δ2,g (.pure d) δ=some δ1/\b δ1 = .ok .next δ2/\I (n + i + 1) δ2) ->
   ∃ δ',forL g b ds δ = .ok .next δ'/\I (n + ds.length) δ'
 | [],n,δ,h,_=>⟨δ,rfl,h⟩
 | d :: r,n,δ,h,hs=>by
  obtain⟨δ1,δ2,e1,e2,h2⟩:=hs 0 d δ rfl h;obtain⟨δ',e3,h3⟩:=jn (g:=g) (b:=b) I r (n + 1) δ2 h2 (λi d' δ' e hi=>by
   have:=hs (i + 1) d' δ' (~~~e) %[show n + (i + 1)=n + 1 + i by lia|hi];rw[show n + (i + 1) + 1=n + 1 + i + 1 by lia] at this;exact this)
  refine⟨δ',?_,%[WS,show n + (r.length + 1)=n + 1 + r.length by lia|h3]⟩;unfold forL;rw[e1];simp only[e2,eS,e3]
theorem pL(xs:List Tx):gr (xs.map .str)=some xs:=by
 induction xs with
 | nil=>rfl
 | cons x r ih=>simp[gr,ih]
theorem vh:∀ ts:List Tx,jI [] ts=ts.flatten
 | []=>rfl
 | [x]=>#v[jI]
 | x :: y :: r=>by rw[jI,vh (y :: r)]; simp
theorem RC(xs:List Nat):iq (xs.map λn=>[n])=xs.length:=by
 unfold iq;induction xs with
 | nil=>rfl
 | cons x r ih=>simp at ih ⊢; lia
theorem RD(xs:List Nat):(xs.map λn=>[n]).flatten=xs:=by
 induction xs with
 | nil=>rfl
 | cons x r ih=>simp[ih]
theorem EK(xs:List Nat)(h:xs.length<=16777216):cx [] (.lst (xs.map λn=>.str [n]))=some (.pure (.str xs)):=by
 have e:(xs.map λn=>D.str [n])=(xs.map λn=>[n]).map D.str:=by simp
 unfold cx;simp only[e,pL,RC,vh,RD];rw[if_pos (~~~h)]
theorem RE(r:Tx)(c:Nat)(h:c < r.length)(hl:r.length<=64):aw (.str r) (.int c)=some (.pure (.str [r.getD c 0])):=by
 unfold aw;have:Wa=16777216:=rfl;simp only;rw[if_pos Y',iA];simp[h]
abbrev bS(fl:List Tx):D:=.tup (fl.map .str)
def kH(r:S)(δ1:Dl):Rs (List D):=match r with
 | .pure (.int j)=>if pj j then .ok (dA 0 j.toNat) δ1 else .stuck
 | _=>.stuck
@[simp] theorem yD (f:DE) (δ:Dl):cY f δ=(f δ).bind λr δ1=>kH r δ1:=id rfl
theorem RF(w:Nat)(hw:w<=1000000):pj (w:Int)=true:=by
 have h1 : -(4611686018427387904:Int)<=(w:Int):=by lia
 have h2:(w:Int) < 4611686018427387904:=by lia
 unfold pj;rw[WE];exact⟨decide_eq_true h1,decide_eq_true h2⟩
theorem RG(j:Int)(hs:pj j=true)(δ):kH (.pure (.int j)) δ = .ok (dA 0 j.toNat) δ:=by unfold kH; grind
theorem nX(w:Nat)(hw:w<=1000000)(δ):kH (.pure (.int w)) δ = .ok (dA 0 w) δ:=by
 have:=RG (w:Int) (RF w hw) δ;rwa [Qr] at this
theorem rM(h:(dA 0 n)[i]? = some d):i < n/\d = .int (i:Int):=by
 unfold dA at h;rw[Wj] at h;by_cases hi:i < n
 ·rw[List.getElem?_range hi] at h;simp at h;exact⟨hi,h.symm⟩
 ·rw[Qy (~~~hi)] at h
  cases h
theorem EL(h:d ∈ dA 0 n):∃ i:Nat,i < n/\d = .int (i:Int):=by
 obtain⟨i,hi⟩:=List.getElem?_of_mem h;exact⟨i,rM hi⟩
@[simp] theorem EM (lo:Int) (n:Nat):(dA lo n).length=n:=#v[dA]
def jo(x:Nat):List Nat->List Nat
 | []=>[x]
 | y :: r=>if y < x then y :: jo x r else x :: y :: r
def iU:List Nat->List Nat
 | []=>[]
 | x :: r=>jo x (iU r)
theorem mz(a b):(([a]:Tx) < [b]) ↔ a < b:=by
 constructor
 ·intro h
  cases h<;>simp_all
 ·intro h; exact List.Lex.rel h
theorem EN(x):∀ xs:List Nat,kS [x] (xs.map λn=>[n])=(jo x xs).map λn=>[n]
 | []=>rfl
 | y :: r=>by
  simp only[Wf,kS,jo];by_cases h:y < x
  ·rw[if_pos ((mz y x).mpr h),if_pos h,EN x r]; rfl
  ·rw[if_neg λz=>h ((mz y x).mp z),if_neg h]; rfl
theorem EO:∀ xs:List Nat,iN (xs.map λn=>[n])=(iU xs).map λn=>[n]
 | []=>rfl
 | x :: r=>by rw[Wf,iN,EO r,EN]; rfl
theorem yE{x}:∀ {xs:List Nat},y ∈ jo x xs ↔ y=x\/y ∈ xs
 | []=>#v[jo]
 | z :: r=>by
  unfold jo;split
  ·simp[yE (xs:=r)]; all_goals grind
  ·simp
theorem yF:∀ {xs:List Nat},y ∈ iU xs ↔ y ∈ xs
 | []=>#v[iU]
 | x :: r=>by rw[iU,yE,yF (xs:=r)]; simp
theorem ER(x):∀ xs:List Nat,(jo x xs).length=xs.length + 1
 | []=>rfl
 | y :: r=>by unfold jo; split <;> simp[ER x r]
theorem ES:∀ xs:List Nat,(iU xs).length=xs.length
 | []=>rfl
 | x :: r=>by rw[iU,ER,ES r]; rfl
theorem ET{x}:∀ {xs:List Nat},xs.Pairwise (· < ·)->x ∉ xs->(jo x xs).Pairwise (· < ·)
 | [],_,_=>#v[jo]
 | y :: r,h,hx=>by
  rw[U8] at h;simp at hx;unfold jo;split
  ·rename_i hl;rw[U8];refine⟨λz hz=>?_,ET h.2 hx.2⟩;rcases yE.mp hz with rfl | hz
   ·exact hl
   ·exact h.1 z hz
  ·rename_i hl;rw[U8];refine⟨λz hz=>?_,List.pairwise_cons.mpr h⟩;rcases Wu.mp hz with rfl | hz
   ·lia
   ·have:=h.1 z hz; lia
theorem EU:∀ {xs:List Nat},xs.Nodup->(iU xs).Pairwise (· < ·)
 | [],_=>#v[iU]
 | x :: r,h=>by
  rw[WN] at h;exact ET (EU h.2) λz=>h.1 (yF.mp z)
theorem yG{P:Nat->Prop}:∀ {xs:List D},(∀ x ∈ xs,∃ n,P n/\x = .str [n])->∃ row:List Nat,xs=row.map (λn=>.str [n])/\∀ n ∈ row,P n
 | [],_=>⟨[],rfl,Z5⟩
 | x :: r,h=>by
  obtain⟨n,hn,rfl⟩:=h x Wp;obtain⟨row,rfl,hr⟩:=yG (xs:=r) λy hy=>h y (Wg _ hy)
  exact⟨n :: row,rfl,by simpa using ⟨hn,hr⟩⟩
theorem EV{R:D->D->Prop}{ds xs:List D}{Q:D->Prop}(hn:xs.length=ds.length)(hf:∀ (i:Nat) d x,ds[i]? = some d->xs[i]? = some x->R d x)(hq:∀ d x,d ∈ ds->R d x->Q x):∀ x ∈ xs,Q x:=λx hx=>by
 obtain⟨i,hi⟩:=List.getElem?_of_mem hx;have h1:=(W6.mp hi).1;have h2:ds[i]? = some (ds[i]' Y'):=#v[show i < ds.length by lia]
 exact hq _ x (QE _) (hf i _ x h2 hi)
theorem EW(w:Nat)(hw:w<=100000)(δ):kH (.pure (.int (1 + (w:Int)))) δ = .ok (dA 0 (1 + w)) δ:=by
 have:=nX (1 + w) Y' δ;rwa [show(((1 + w:Nat):Int))=1 + (w:Int) by lia] at this
abbrev aN(b:Nat×List Tx):D:=.tup [.str [b.1],bS b.2]
abbrev az(h w:Nat)(bs:List (Nat×List Tx)):D:=.tup [.int h,.int w,.tup (bs.map aN)]
structure EX(h w:Nat)(bs:List (Nat×List Tx)):Prop where
 h0:0 < h
 h1:h<=4
 w0:0 < w
 w1:w<=4
 hw:2 < h + w
 n0:0 < bs.length
 n1:bs.length<=26
 up:(bs.map (·.1)).Pairwise (· < ·)
 Z3:∀ b ∈ bs,97<=b.1/\b.1<=122
 cU:∀ b ∈ bs,b.2.length=h/\∀ r ∈ b.2,r.length=w/\∀ n ∈ r,n ∈ bs.map (·.1)
theorem jq{el cs A}(f F:A->D)(δ):∀ (as:List A) (acc:List D),acc.length + as.length<=Wa ->
  (∀ a ∈ as,∃ δ1 δ2 x δ3,g (.pure (f a)) δ=some δ1/\t δ1 = .ok true δ2/\el δ2 = .ok x δ3/\bz cs δ3=δ/\x.d=F a)->cT cs g t el (as.map f) δ acc = .ok (acc ++ as.map F) δ
 | [],acc,_,_=>#v[cT]
 | a :: r,acc,hl,hs=>by
  obtain⟨δ1,δ2,x,δ3,e1,e2,e3,e4,e5⟩:=hs a Wp;have i7:acc.length < Wa:=by simp at hl; lia
  have ih:=jq (cs:=cs) (g:=g) (t:=t) (el:=el) f F δ r (acc ++ [x.d]) U' (λa ha=>hs a (Wg _ ha));rw[Wf];unfold cT;simp_all
theorem RH:entryFor table "dict_itemiterator.__iter__" = some Builtin.«dict_keyiterator.__iter__» :=
 entryFor_alias (id':="dict_keyiterator.__iter__") (by kernel_rfl) rfl Zp (by kernel_rfl)
theorem RI(hit:IsItemIter s.heap it d i n ep ok ov)(h:Q (.ref it) s):W8 (model prog w) A (pyIter (.ref it)) Q E s:=by
 have hT:s.TypeIs (.ref it) "dict_itemiterator":=⟨_,hit,rfl⟩
 refine JO hT F.slot_dict_itemiterator_iter (Wz F.slot_dict_itemiterator_iter hT RH ?_ (F.args_dict_itemiterator_iter_1 _));show W8 _ _ (ret (.ref it)) _ _ s;exact W3 ⟨_,rfl,"dict_itemiterator",_,hT,F.slot_dict_itemiterator_next.lookup,h⟩
section
variable {x y:Nat}{d:D}
theorem Ok.move(k:Ok c σ δ H)(bj:Np c np)(hx:np.contains x=false)(xB:x≠y)(e:δ[y]? = some (some (.own d)))(ea:σ[y]? = some (some (.ref a)))(hl:x < δ.length) :
  aS c σ δ H (σ.set x (some (.ref a))) ((δ.set y none).set x (some (.own d))) H:=by
 have RJ:y < δ.length:=(W6.mp e).1;have RK:x < σ.length:=by rw[<- k.len]; exact hl
 have at_:∀ j r,((δ.set y none).set x (some (.own d)))[j]? = some (some r)->(j=x/\r = .own d)\/(j≠x/\j≠y/\δ[j]? = some (some r)):=λj r q=>by
  by_cases hj:x=j
  ·subst hj;rw[Wr %[Qe|hl]] at q
   cases q;exact .inl ⟨rfl,rfl⟩
  ·rw[W9 hj] at q;by_cases hy:y=j
   ·subst hy;rw[Wr RJ] at q
    cases q
   ·rw[W9 hy] at q;exact .inr ⟨Ne.symm hj,Ne.symm hy,q⟩
 have sx:(σ.set x (some (.ref a)))[x]? = some (some (.ref a)):=Wr RK;have so:∀ j,j≠x->(σ.set x (some (.ref a)))[j]? = σ[j]?:=λj hj=>W9 (Ne.symm hj)
 have own:∀ b,Own (σ.set x (some (.ref a))) ((δ.set y none).set x (some (.own d))) b->Own σ δ b:=λb ⟨j,r,q1,q2⟩=>by
  rcases at_ j _ q1 with ⟨z,z'⟩ | ⟨h1,h2,q⟩
  ·subst z
   cases z';rw[sx] at q2
   cases q2;exact⟨y,d,e,ea⟩
  ·rw[so j h1] at q2;exact⟨j,r,q,q2⟩
 have av:∀ b,Av c (σ.set x (some (.ref a))) ((δ.set y none).set x (some (.own d))) b->Av c σ δ b:=λb z=>z.elim .inl λz=>.inr (own b z)
 obtain⟨a',ea',oa,hI,nB⟩:=k.own y _ e;rw[ea] at ea'
 cases ea';refine⟨⟨k.keep,k.bd,k.dZ,by simp only[Qe]; exact k.len,λj r q=>?_,λj r q=>?_,λj l b d1 d2 q1 q2 s1 s2=>?_,λp hp=>?_⟩,λ_ _ h _=>h,λb z=>.inl (own b z),λ_ o h=>⟨o,h⟩⟩
 ·rcases at_ j _ q with ⟨_,z⟩ | ⟨h1,h2,q⟩
  ·cases z
  ·obtain⟨v,g1,g2⟩:=k.slot j r q;exact⟨v,%[so j h1|g1],g2.aM λb z=>.inl (av b z)⟩
 ·rcases at_ j _ q with ⟨z,z'⟩ | ⟨h1,h2,q⟩
  ·subst z
   cases z';exact⟨a,sx,oa.aM λb z=>.inl (av b z),hI,nB⟩
  ·obtain⟨b,g1,g2,g3⟩:=k.own j r q;exact⟨b,%[so j h1|g1],g2.aM λb z=>.inl (av b z),g3⟩
 ·rcases at_ j _ q1 with ⟨z,_⟩ | ⟨h1,h2,p1⟩ <;> rcases at_ l _ q2 with ⟨z',_⟩ | ⟨h1',ni,p2⟩
  ·rw[z,z']
  ·subst z;rw[sx] at s1
   cases s1;rw[so l h1'] at s2;exact absurd (k.inj y l a _ _ e p2 ea s2).symm ni
  ·subst z';rw[sx] at s2
   cases s2;rw[so j h1] at s1;exact absurd (k.inj y j a _ _ e p1 ea s1).symm h2
  ·rw[so j h1] at s1;rw[so l h1'] at s2;exact k.inj j l b _ _ p1 p2 s1 s2
 ·have h:=bj p hp;have cw:p.1≠x:=λz=>by rw[z,hx] at h; cases h
  rw[so p.1 cw];exact k.pinned p hp
def nY(np:List Nat)(x y:Nat):DS:=λδ=>if np.contains x || x == y || !decide (x < δ.length) then .stuck else match δ[y]? with
 | some (some (.own d))=>.ok .next ((δ.set y none).set x (some (.own d)))
 | _=>.stuck
theorem RL(bj:Np c np)(hN:X.N.Nodup)(hi:X.N[x]? = some nm)(hx:Loc X.env.scope nm)(he:PE X e (dD y))(hs:J8 e (some (.Name nm pos')) pos.line X.env=pure false:=by rfl)
  (hf:X.fn nm=true\/X.env.scope.names.lookup nm=some .local:=by first | exact .inl rfl | exact .inr rfl | assumption):SS X c (.Assign [.Name nm pos'] e pos) (nY np x y) :=
 PS.weak (Bq hN hi hx he hs hf) λD σ H ⟨δ,k,q⟩=>by
  unfold nY eC at q;split at q
  case isTrue=>exact q.elim
  rename_i hc;simp only[Bool.or_eq_true,not_or,Bool.not_eq_true,beq_eq_false_iff_ne,Bool.not_eq_false',decide_eq_true_eq] at hc;obtain⟨⟨h1,h2⟩,h3⟩:=hc;split at q
  case h_2=>exact q.elim
  rename_i d e';obtain⟨a,ea,_⟩:=k.own y _ e';exact⟨.ref a,ea,q _ H (k.move bj h1 h2 e' ea h3)⟩
end
structure yJ(P:Wo)(w:Wt)(K:W5)(mg:Str->Option Value)(base:Heap)(k:Nat)(f:Addr)(fd:Qh)(ps:List Str)(sp:List Env->W4->Sp):Prop where
 len:∀ outer s vs H Q E,sp outer s vs H Q E->vs.length=ps.length
 run:∀ (A:Wv) (outer:List Env) (s:W4) (H:Hp) (args:Args) (us:List Value) (vs:List V) (Q:VK) (E:XK),cQ k A->qB P w K mg base A outer s H->BindsTo s fd args (ps.zip us)->Vals vs us->sp outer s vs H Q E ->
  Ju (model P w) A (.call (.ref f) args) (CR dX outer P w H s Q E) s
theorem eB.RM{st f k}{sp:List Env->W4->Sp}(F:eB K x qual st f fd)(S:gj N ps (bM st))(len:∀ outer s vs H Q E,sp outer s vs H Q E->vs.length=ps.length)
  (dW:∀ aU (A:Wv) outer (s:W4) H (vs:List V) Q E,cQ k (A.deeper (Jo qual (bM st) s.heap.objs.size f aU))->A.frames=some outer->sp outer s vs H Q E ->
   ∃ t,dR (fU dX P w K mg base N qual (bM st) f aU A outer s H E).gF (eA st) t/\t { nx:=λ_ H'=>Q .bp H',rt:=Q } (gk N vs) H):yJ P w K mg base (k + 1) f fd ps sp:=by
 obtain⟨oc,od,kV,doc,pm,an,aU,ct,eW,rfl,lk,g6⟩:=F.ex;refine⟨len,λA outer s H args us vs Q E hr e0 hb r m3=>?_⟩;have hl:=len _ _ _ _ _ _ m3;have KX:K.In s.heap:=e0.mod.qo.keeps λb o e=>(e0.bs b o e).1
 have lim:s.heap.NoLimit:=e0.mod.nolimit.keeps λb o e=>(e0.bs b o e).1
 have wL:∀ y ∈ ps.zip us,(bM st).names.lookup y.1=some .local\/((bM st).names.lookup y.1=some .cell/\((QP (s.heap.objs.size + 1) (bM st).names []).lookup y.1).isSome=true):=λ⟨n,v⟩ hy=>by
  rcases S.par n (Ut hy).1 with q | q
  ·exact .inl q
  ·exact .inr ⟨q,JJ _ _ _ (.inl q)⟩
 refine codeAny_call_function hr.depth (KX _ _ lk) rfl S.co S.gen rfl (PySem.W.codeRec_of KX g6) (hb _ _ _ _ ?_);refine wpAny_newFunctionEnv_cells S.kind wL λenv he s1 x=>?_
 subst he;refine⟨lim.keeps x.toInCall.keep,codeAny_func ?_⟩;obtain⟨t,ht0,hq⟩:=dW aU A outer s H vs Q E (hr.deeper _) e0.frames m3;have ht:=ht0.gF;have I:Inv (fU dX P w K mg base N qual (bM st) f aU A outer s H E) [] (gk N vs) H s1:=BP S hr.hd e0 hl r x;refine Qw (ht [] s1 (gk N vs) H _ I hq) (λfl s' hs=>?_) λe s' hs=>hs
 have fin:∀ {σ':St} {H':Hp} {v:V} {u:Value},Inv (fU dX P w K mg base N qual (bM st) f aU A outer s H E) [] σ' H' s'->RelV v u->Q v H'->CE outer P w H s Q u s' :=
  λ{σ' H' v u} J rv q=>⟨v,H',J.os,J.bare,J.base,J.aC,rv,q⟩
 cases fl with
 | ret u =>
  obtain⟨v,σ',H',J,rv,q⟩:=hs;exact fin J rv q
 | next =>
  obtain⟨σ',H',J,q⟩:=hs;exact fin (v:=V.bp) (u:=Value.none) J rfl q
 | brk =>
  obtain⟨_,_,_,q⟩:=hs;exact False.elim q
 | cont =>
  obtain⟨_,_,_,q⟩:=hs;exact False.elim q
def pM(P:Wo)(w:Wt)(K:W5)(mg:Str->Option Value)(base:Heap)(N:List Str)(qual:Str)(scope:Scope)(f:Addr)(cd:Value)(cl:List (Str×Addr))(A:Wv)(outer:List Env)(s:W4)(H:Hp):Cx where
 prog:=P
 w:=w
 K:=K
 mg:=mg
 base:=base
 A:=A.deeper (Jz qual scope s.heap.objs.size f cd cl)
 N:=N
 s₀:=s
 H₀:=H
 env:=Jz qual scope s.heap.objs.size f cd cl
 outer:=outer
 stack:=Jz qual scope s.heap.objs.size f cd cl :: outer
 ex:=[]
 calm:=true
 fn:=λ_=>false
 pn:=[]
 xe:=λ_ _=>False
structure vi(p:Str)(fr:List Str)(sc:Scope):Prop where
 kind:sc.kind = .function
 co:sc.isCoroutine=false
 gen:sc.isGenerator=false
 loc:sc.names.lookup p=some .local
 EY:∀ y ∈ sc.names,y.2≠.cell
 free:∀ x,sc.names.lookup x=some .free->x ∈ fr
 RN:∀ x ∈ fr,sc.names.lookup x=some .free
theorem Ok.mono(k:Ok c σ δ H)(up:∀ a o,H a=some o->H' a=some o):Ok c σ δ H' :=
 ⟨λa o e n=>up _ _ (k.keep a o e n),λa z=>(k.bd a z).elim λw e=>⟨w,up _ _ e⟩,λa z=>(k.dZ a z).elim λw e=>⟨w,up _ _ e⟩,k.len,λi d e=>let ⟨v,e1,r⟩:=k.slot i d e; ⟨v,e1,r.keep λa o q _=>up a o q⟩,
  λi d e=>let ⟨a,e1,r,q⟩:=k.own i d e; ⟨a,e1,r.keep (λb o q _=>up b o q) (λo q=>up a o q),q⟩,k.inj,k.pinned⟩
theorem aS.mono(k:Ok c σ δ H)(up:∀ a o,H a=some o->H' a=some o):aS c σ δ H σ δ H':=⟨k.mono up,λa o e _=>up a o e,λa h=>.inl h,λa o e=>⟨o,up a o e⟩⟩
structure vj(X:Cx)(c:Fc)(fa:Addr)(F:D->Option D):Prop where
 there:∀ pins σ H s,Inv X pins σ H s->∃ fd,s.heap.get? fa=some { cls:=.type "function",data:=.func fd }
 run:∀ pins s σ δ H v u d d' Q,Inv X pins σ H s->Ok c σ δ H->Rep H (Av c σ δ) v d->RelV v u->F d=some d'->(∀ v' H',aS c σ δ H σ δ H'->Rep H' (Av c σ δ) v' d'->Q v' H')->W8 (model X.prog X.w) X.A (call (.ref fa) [u]) (EP X pins σ Q) X.xe s
noncomputable def jr(fa:Addr)(F:D->Option D)(i:Nat)(fe:DE):DE:=λδ=>match δ[i]? with
 | some (some (.pure (.fn a)))=>if a=fa then(fe δ).bind λr δ1=>match F r.d with
   | some d'=>.ok (.pure d') δ1
   | none=>.stuck
  else .stuck
 | _=>.stuck
theorem RO{E:Value->W4->Prop}{s first}{Q:Value->W4->Prop}{rest}
  (h:W8 M A (spliced (Qv pos (Wd (e :: rest) env))) (λvs s₁=>(∃ fd,s₁.heap.get? a=some { cls:=.type "function",data:=.func fd })/\W8 M A (call (.ref a) (first ++ vs)) Q E s₁) E s)
  (he:Wd (e :: rest) env=(false,eval e env) :: Wd rest env:=by rfl) (wY:(Qv pos (Wd rest env)).any (·.1)=false:=by rfl) :
  W8 M A (callWith pos (.ref a) first (Qv pos (Wd (e :: rest) env)) []) Q E s:=by
 rw[he] at h ⊢;exact PySem.W.callWith_of (P:=λh=>∃ fd,h.get? a=some { cls:=.type "function",data:=.func fd }) (by show((false || (Qv pos (Wd rest env)).any (·.1)) || false)=false; rw[wY]; rfl)
  (λh ⟨fd,hf⟩=>⟨.frame,.inl rfl,(PySem.W.Looks.ld (part:=none) hf).andThen .now⟩) (Calls.evalArgs_plain h)
theorem EZ{p pos}(hc:vj X c fa F)(hv:PE X (.Name x p) (dD i))(he:SE X c e fe)
  (hs:Wd [e] X.env=(false,eval e X.env) :: Wd [] X.env:=by rfl):SE X c (.Call (.Name x p) [e] [] pos) (jr fa F i fe):=by
 intro pins s σ H Q I ⟨δ,k,q⟩;unfold jr at q;split at q
 ·rename_i a e1;split at q
  ·rename_i ea;subst ea;obtain⟨v,e2,r⟩:=k.slot i (.fn a) e1
   cases r;refine JI (Qw (hv pins s σ H (λv' H'=>v' = .ref a/\H'=H) I ⟨.ref a,e2,rfl,rfl⟩) (λu s1 ⟨v',H',I1,ru,ev,eH⟩=>?_) λ_ _ z=>z);subst ev eH;obtain rfl:u=Value.ref a:=ru;have ha:=fc he g8 hs;refine RO (aY (ha pos pins s1 σ H' (λvs H2=>∃ r δ1 d',vs.length=1/\F r=some d'/\(∀ v ∈ vs,Rep H2 (Av c σ δ1) v r)/\aS c σ δ H' σ δ1 H2/\∀ v' H3,aS c σ δ H' σ δ1 H3->Rep H3 (Av c σ δ1) v' d'->Q v' H3) I1 ⟨δ,k,?_⟩) λus s2 ⟨vs,H2,I2,rr,r,δ1,d',hl,hF,hr,af,hq⟩=>⟨hc.there _ _ _ _ I2,?_⟩) hs rfl
   ·rw[bA] at q;refine aX q λr δ1 q1 v H1 a1 r1=>?_
    cases hF:F r.d with
    | none=>rw[hF] at q1; exact q1.elim
    | some d' =>
     rw[hF] at q1;exact⟨r.d,δ1,d',rfl,hF,λv' RP=>by
      have:v'=v:= ~~~RP
      subst this;exact r1.rep,a1,λv' H3 a3 r3=>q1 v' H3 a3 r3⟩
   ·obtain⟨v,rfl⟩:∃ v,vs=[v]:=by
     match vs,hl with
     | [v],_=>exact⟨v,rfl⟩
    obtain⟨u,rfl,ru⟩:=g7 rr;exact hc.run pins s2 σ δ1 H2 v u r d' Q I2 af.ok (hr v Z5) ru hF λv' H3 a3 r3=>hq v' H3 (af.trans a3) r3
  ·exact q.elim
 ·exact q.elim
theorem E3{a b:Value}{x y:Int}{t u}:∀ {l:List Value},TriplesOk l->TriplesOk (l ++ [.int x t,.int y u,b])
 | [],_=>trivial
 | .int _ _ :: .int _ _ :: _ :: r,h=>E3 (a:=a) (l:=r) h
theorem E4{x u}:∀ {l:List Value},TriplesOk l->codeAmong pos l=none->codeAmong pos (l ++ [.int x t,.int y u,b])=some cv->cv=b
 | [],_,_,h=>by
  simp only[WQ,codeAmong] at h;split at h
  ·exact(WZ h).symm
  ·cases h
 | .int i _ :: .int j _ :: c :: r,h,hn,e=>by
  simp only[codeAmong] at hn;split at hn
  ·cases hn
  ·rename_i q;simp only[JA,codeAmong] at e;rw[if_neg q] at e;exact E4 (l:=r) h hn e
section
variable {body:Expr}{c P:Addr}{fr:List Str}
theorem Inv.RQ(I:Inv X pins σ H s)(kJ:∀ x,X.fn x=true)(h:X.env.cells.lookup x=some c):c ∉ gZ X.stack:=λz=>by
 rcases Wu.mp (I.tE c z) with e | e
 ·exact I.lK x c h e
 ·obtain⟨_,o,ho,_⟩:=I.ok.iJ.mem e;exact absurd (WH (Ws ho) (I.ok.oG x c (kJ x) h)) (Qg _)
end
abbrev kg:=List (Addr×Pos×Str)
variable {ts:kg}
def TH(ts:kg)(H:Hp):Prop:=∀ t ∈ ts,H t.1=some (.ctab t.2.1 t.2.2)
structure FT(ts:kg)(c:Fc):Prop where
 h:TH ts c.H₀
 n:∀ t ∈ ts,¬ c.I t.1
theorem FT.now(f:FT ts c)(k:Ok c σ δ H):TH ts H:=λt ht=>k.keep _ _ (f.h t ht) (f.n t ht)
def nZ(ts:kg)(n:Nat)(G:DF):Sp:=λvs H Q E=>TH ts H/\rq n G vs H Q E
def vk(P:Wo)(w:Wt)(K:W5)(mg:Str->Option Value)(base:Heap)(ts:kg)(k:Nat)(x:Str)(n:Nat)(G:DF):Prop :=
 ∃ (f:Addr) (fd:Qh) (ps:List Str),mg x=some (.ref f)/\Jv K (.ref f)=true/\Binds K fd ps []/\i9 P w K mg base dX k f fd ps (nZ ts n G)
theorem E5{st f k fb}(F:eB K x qual st f fd)(S:gj N ps (bM st))
  (dW:∀ c aU (A:Wv) outer (s:W4) H E,cQ k (A.deeper (Jo qual (bM st) s.heap.objs.size f aU))->Np c np->FT ts c->(∃ oc od kV doc pm an ct eW,K.lookup f=some ⟨oc,od,.func (Qm x qual (il st) (eA st) (bM st) .none kV doc pm an aU ct),eW⟩)->eM (fU dX P w K mg base N qual (bM st) f aU A outer s H E).gF c (eA st) fb)
  (hG:∀ ss y,G ss=some y->cy np 0 ss=true/\eN fb N.length ss=some y):i9 P w K mg base dX (k + 1) f fd ps (nZ ts ps.length G):=by
 obtain⟨oc,od,kV,doc,pm,an,aU,ct,eW,rfl,lk,g6⟩:=F.ex;refine BR lk g6 S (λvs H Q E h=>?_) λA outer s H vs Q E hr h=>?_
 ·obtain⟨_,ss,B,hl,_⟩:=h;exact hl
 ·obtain⟨hT,ss,B,hl,ok,r,aT,hg,q⟩:=h;obtain⟨fH,hrun⟩:=hG ss _ hg;have jL:ss.length=vs.length:=by have:=ok.len; simpa using this
  have x9:Np ⟨H,B,c_ 0 ss vs,λ_ _=>False⟩ np:=λp hp=>by
   obtain⟨j,d,e,h1,_⟩:=nN (i:=p.1) (a:=p.2) hp;rw[e];exact x8 fH h1
  have ft:FT ts ⟨H,B,c_ 0 ss vs,λ_ _=>False⟩:=⟨hT,λt ht ⟨i,z⟩=>by
   obtain⟨j,d,_,h1,h2⟩:=nN z;obtain⟨a,e1,o,_⟩:=ok.own j d (fm.mpr h1);rw[fG.mpr h2] at e1
   cases e1;have:=hT t ht
   cases d with
   | lst ds=>obtain⟨_,e,_⟩:=o; grind
   | ay ds=>obtain⟨_,e,_⟩:=o; grind
   | dic ds=>obtain⟨_,_,e,_⟩:=o; grind
   | _=>exact o.elim⟩
  have hb:=dW ⟨H,B,c_ 0 ss vs,λ_ _=>False⟩ aU A outer s H E hr x9 ft ⟨oc,od,kV,doc,pm,an,ct,eW,lk⟩;refine⟨nD ⟨H,B,c_ 0 ss vs,λ_ _=>False⟩ fb,hb.gF,?_⟩;have c9:gk N vs=cD vs ++ Wm (N.length - ss.length) none:=by rw[jL]; rfl
  refine⟨bV N.length ss,%[c9|ok.ext _],?_⟩;unfold eN at hrun;unfold eC
  cases e:fb (bV N.length ss) with
  | exc x δx=>rw[e] at hrun; cases hrun
  | stuck=>rw[e] at hrun; cases hrun
  | ok fl δ' =>
   rw[e] at hrun;show ∀ σ' H',aS _ (gk N vs) (bV N.length ss) H σ' δ' H'->fin _ _ σ' δ' H' fl;intro σ' H' a;rw[c9] at a;simp only at hrun
   cases fl with
   | brk=>cases hrun
   | cont=>cases hrun
   | next =>
    simp only[cH,WT] at hrun
    cases eo:cf 0 ss δ' with
    | none=>rw[eo] at hrun; cases hrun
    | some os =>
     rw[eo] at hrun
     cases hrun;obtain⟨l1,l2⟩:=pw rfl ok a eo;exact q .bp H' l1 .bp
   | ret r' =>
    simp only[cH,WT] at hrun
    cases eo:cf 0 ss δ' with
    | none=>rw[eo] at hrun; cases hrun
    | some os =>
     rw[eo] at hrun
     cases hrun;obtain⟨l1,l2⟩:=pw rfl ok a eo;exactλv rv=>q v H' l1 (l2 v _ rv)
section
variable {k:Nat}
theorem RT (F:vk X.prog X.w X.K X.mg X.base ts k x n G) (ft:FT ts c) (hK:jh G) (hr:cQ k X.A) (hg:Gl X x) (ha:SX X c (e :: es) as) (hl:as.length=n) (gi:(x == ("__debug__" : Str))=false:=by decide)
  (he:Wd (e :: es) X.env=(false,eval e X.env) :: Wd es X.env:=by rfl) (cB:(Qv pos (Wd es X.env)).any (·.1)=false:=by rfl):SE X c (.Call (.Name x pp) (e :: es) [] pos) (aE G as):=by
 obtain⟨f,fd,ps,hm,hk,hb,ok⟩:=F;refine PE.weak (wJ ok hr hg hm hk hb .nil xg ha gi he cB) λσ H Q h=>?_
 obtain⟨δ,kk,fH,q⟩:=DO (ps:=ps) hK hl h;exact⟨δ,kk,fH,aX q λds δ1 q1 vs H1 a1 r1=>⟨ft.now a1.ok,q1 vs H1 a1 r1⟩⟩
end
theorem E6(h:∀ q ∈ cl,cells.lookup q.1=some q.2):∀ x a,cl.lookup x=some a->cells.lookup x=some a:=λx a e=>h (x,a) (WB e)
theorem E7(h1:sc.kind = .function:=by rfl)(h2:sc.isCoroutine=false:=by rfl)(h3:sc.isGenerator=false:=by rfl)(h4:sc.names.lookup p=some .local:=by rfl)(h5:∀ y ∈ sc.names,y.2≠.cell:=by decide +kernel)
  (h6:∀ y ∈ sc.names,y.2 = .free->y.1 ∈ fr:=by decide +kernel) (h7:∀ x ∈ fr,sc.names.lookup x=some .free:=by decide +kernel):vi p fr sc:=⟨h1,h2,h3,h4,h5,λx e=>h6 _ (WB e) rfl,h7⟩
theorem RU{P w}{k:Nat}{fa T c tpos tq fd G}{s₁:W4}{vs:List Value}{ns:List Int}
  (KX:K.In s₁.heap) (rN:s₁.heap.Ns Wy mg) (hb:s₁.heap.Ns builtinsNs mb) (RV:∀ x:Str,x≠"__name__"->mb x=QK x) (RW:s₁.heap.NoLimit) (hg:s₁.gens = #[])
  (ha:s₁.heap.get? a=some { cls:=.type "list",data:=.seq vs.toArray }) (hi:IntsAre vs ns) (hl:ns.length<=Wa) (hr:cQ k callerA)
  (hL:ye K=true) (hT:s₁.heap.get? T=some (PySem.W.tabObj #[])) (hC:PySem.W.CodeHd s₁.heap c T) (hB:∃ bm o,mg "__builtins__" = some (.ref bm)/\bm≠builtinsNs/\s₁.heap.get? bm=some o/\o.cls = .type "module"/\o.dict=some builtinsNs/\o.data = .plain) (E8:K.lookup T=none)
  (F:∀ base:Heap,K.In base->base.Ns Wy mg->base.BuiltinsAt mg T->i9 P w K mg base dX k fa fd [x] (nZ [(T,tpos,tq)] 1 G)) (RX:∀ s u,BindsTo s fd ⟨[u],[]⟩ [(x,u)])
  (hG:∃ aT,G [.pure (.lst (ns.map .int))]=some (.pure (.bl true),aT)) :
  Ju (model P w) callerA (.call (.ref fa) ⟨[.ref a],[]⟩) (λr s'=>r = .ok (.ret (.bool true))/\OldK s₁.heap s'.heap/\s'.os=s₁.os/\AllBare s'.gens) s₁:=by
 have rv:=L2.Ce hi;have Z8:=hi.length;have RY:T≠a:=λz=>by grind
 have Z9:K.lookup a=none:=by
  cases hk:K.lookup a with
  | none=>rfl
  | some o =>
   have e:=KX a o hk;rw[ha] at e
   cases e;exact(Pj hL hk rfl).elim
 let H:Hp:=λb=>if b=a then some (.frz { cls:=.type "list",data:=.seq vs.toArray } (.lst (ns.map V.int))) else if b=T then some (.ctab tpos tq) else none
 have Ha:H a=some (.frz { cls:=.type "list",data:=.seq vs.toArray } (.lst (ns.map V.int))):=if_pos rfl;have HT:H T=some (.ctab tpos tq):=by show(if T=a then _ else _)=_; rw[if_neg RY,if_pos rfl]
 have Hn:∀ b,b≠a->b≠T->H b=none:=λb h1 h2=>by show(if b=a then _ else _)=_; rw[if_neg h1,if_neg h2]
 have aC:cL P w H s₁.heap:=λb u z=>by
  by_cases h1:b=a
  ·subst h1;rw[Ha] at z; cases z
   exact⟨ha,%[Wn|hl],vs,_,rv,ha⟩
  ·by_cases h2:b=T
   ·subst h2;rw[HT] at z; cases z
    exact⟨#[],hT,trivial,λcv q=>by cases q⟩
   ·rw[Hn b h1 h2] at z; cases z
 have yK:∀ {b:Addr} {o:Obj},s₁.heap.get? b=some o->H b=none->(jX s₁.heap H).get? b=some o:=λe n=>K1 e n
 have kL:∀ {b:Addr} {o:Obj} {es:Array DictEntry} {ep:Nat},s₁.heap.get? b=some o->o.data = .dict es ep->H b=none:=λ{b o es ep} e d=>by grind
 have vm:∀ {b:Addr} {m:Str->Option Value},s₁.heap.Ns b m->(jX s₁.heap H).Ns b m:=λ{b m} ⟨o,es,ep,e,d,r⟩=>⟨o,es,ep,yK e (kL e d),d,r⟩
 have E9:K.In (jX s₁.heap H):=λb o e=>yK (KX b o e) (Hn b (λz=>by grind) λz=>by grind)
 have hM:Mod K mg (jX s₁.heap H):=⟨E9,vm rN,⟨mb,vm hb,RV⟩,let ⟨mc,h1,h2⟩:=RW; ⟨mc,vm h1,h2⟩⟩
 have e0:qB P w K mg (jX s₁.heap H) callerA [] s₁ H:=⟨rfl,hM,λb o e=>K2 e,Nat.le_of_eq (K0 _ _),trivial,λb hb=>absurd (show b ∈ ([]:List Addr) from hb) Z5,aC,.of_eq hg⟩
 have RZ:TH [(T,tpos,tq)] H:=λt ht=>by
  have:t=(T,tpos,tq):= ~~~ht
  subst this;exact HT
 have hR:Rd H a (.lst (ns.map V.int)):=.inr ⟨_,Ha⟩;have sp:nZ [(T,tpos,tq)] 1 G [.ref a] H (λv H'=>v = .bl true/\H' T=some (.ctab tpos tq)) E0:=by
  obtain⟨aT,hg⟩:=hG;have rep:∀ O:Addr->Prop,¬ O a->Rep H O (.ref a) (.lst (ns.map D.int)):=λO hO=>.lst hO hR Z5 λi v d e1 e2=>by
   rw[Wj] at e1 e2
   cases e:ns[i]? with
   | none=>rw[e] at e1; cases e1
   | some k=>rw[e] at e1 e2; cases e1; cases e2; exact .int k
  refine⟨RZ,[.pure (.lst (ns.map .int))],λ_=>False,rfl,⟨λb o e _=>e,λb z=>z.elim,λb ⟨i,z⟩=>?_,rfl,λi d e=>?_,λi d e=>?_,λi j b d d' e1 e2 e3 e4=>?_,λp z=>?_⟩,_,aT,hg,λv H' x r=>?_⟩
  ·simp[c_] at z
  ·cases i with
   | zero =>
    simp at e;subst e;refine⟨.ref a,rfl,rep _ λz=>?_⟩;rcases z with z | ⟨j,d',z1,z2⟩
    ·exact z
    ·cases j with
     | zero=>simp at z1
     | succ j=>simp at z1
   | succ i=>simp at e
  ·cases i with
   | zero=>simp at e
   | succ i=>simp at e
  ·cases i with
   | zero=>simp at e1
   | succ i=>simp at e1
  ·simp[c_] at z
  ·cases r;exact⟨rfl,x.ok.keep T _ HT λ⟨i,z⟩=>by simp[c_] at z⟩
 have R0:(jX s₁.heap H).BuiltinsAt mg T:=by
  obtain⟨bm,o,b1,b2,b3,b4,b5,b6⟩:=hB;refine⟨bm,o,b1,b2,λz=>?_,λz=>?_,yK b3 (Hn bm (λz=>?_) λz=>?_),b4,b5,b6⟩
  ·obtain⟨o2,es,ep,e,d,_⟩:=rN;grind
  all_goals grind
 refine codeAny_mono ((F _ E9 (vm rN) R0).run callerA [] s₁ H ⟨[.ref a],[]⟩ [.ref a] [.ref a] _ _ hr e0 (RX s₁ (.ref a)) (.cons rfl .nil) sp) λr s' h=>?_
 cases r with
 | error e=>exact h.elim
 | ok fl =>
  cases fl with
  | next=>exact False.elim h
  | brk=>exact False.elim h
  | cont=>exact False.elim h
  | ret u =>
   obtain⟨v,H',os,bare,un,hok',r',q⟩:=h;obtain⟨q1,q2⟩:=q;subst q1;obtain rfl:u=Value.bool true:=r';have old:∀ b o,s₁.heap.get? b=some o->asItWas s₁.heap s'.heap b o/\∃ o',s'.heap.get? b=some o':=λb o e=>by
    by_cases h1:b=a
    ·subst h1;have z2:=un.jW b _ _ Ha;obtain⟨e2,_⟩:=hok' b _ z2;rw[ha] at e; cases e
     exact⟨.inl e2,_,e2⟩
    ·by_cases h2:b=T
     ·subst h2;obtain⟨ps,e2,_⟩:=hok' b _ q2;rw[hT] at e; cases e
      exact⟨.inr (.inl ⟨(hC.tab hT).isCodeTable,rfl,#[],ps,rfl,by rw[e2]; simp⟩),_,e2⟩
     ·have:=un.keep b o e (Hn b h1 h2) (by intro z; exact absurd (show b ∈ ([]:List Addr) from z) Z5) Z5;exact⟨.inl this,_,this⟩
   exact⟨rfl,⟨λb o e=>(old b o e).1,λb o e=>(old b o e).2⟩,os,bare⟩
theorem R1{l:PySem.W.OpenLaw}{q}{d:DefRec}{K:Params->W5}{k T}(hn:l.most=some 63)(xa:d.params.defaults=[])(hr:cQ k callerA)
  (hY:∀ (w:Wt) (h:Heap),YP w h->(K w.params).In h/\h.get? T=some (PySem.W.tabObj #[])) (hL:∀ p:Params,ye (K p)=true) (E8:∀ p:Params,(K p).lookup T=none)
  (hG:∀ ns:List Int,ns.length<=63->∃ aT,G [.pure (.lst (ns.map .int))]=some (.pure (.bl true),aT))
  (F:∀ (w:Wt) mg fa (h:Heap),(K w.params).In h->h.Ns Wy mg->mg d.name=some (.ref fa) ->
   (∃ c,JB (K w.params) c T=true)/\∃ fd:Qh,(∀ s u,BindsTo s fd ⟨[u],[]⟩ [("script",u)])/\∀ base:Heap,(K w.params).In base->base.Ns Wy mg->base.BuiltinsAt mg T->i9 l.prog w (K w.params) mg base dX k fa fd ["script"] (nZ [(T,tpos,tq)] 1 G)) :
  PySem.W.WalkO q loose XP YP l.row.toRowW d [] (λf vs=>PySem.call f vs):=by
 refine M6 hn xa λw s₀ s₁ mg mb fa o pm cd doc a vs ns G' Y ho hd g6 m_ xf hints hlen hg=>?_
 obtain⟨KX,hT⟩:=hY w _ Y;obtain⟨⟨c,hC⟩,fd,hb,hF⟩:=F w mg fa _ KX G'.T.g m_;exact RU KX G'.T.g G'.T.b G'.T.builtins G'.T.nolimit hg xf hints (Qc hlen Z') hr (hL _) hT (PySem.W.codeHd_of_K KX hC) G'.T.bmain (E8 _) hF hb (hG ns hlen)
theorem R3{st f k fb}(F:eB K x qual st f fd)(hm:mg x=some (.ref f))(hb:Binds K fd ps [])(S:gj N ps (bM st))
  (dW:∀ c aU (A:Wv) outer (s:W4) H E,cQ k (A.deeper (Jo qual (bM st) s.heap.objs.size f aU))->Np c np->FT ts c->(∃ oc od kV doc pm an ct eW,K.lookup f=some ⟨oc,od,.func (Qm x qual (il st) (eA st) (bM st) .none kV doc pm an aU ct),eW⟩)->eM (fU dX P w K mg base N qual (bM st) f aU A outer s H E).gF c (eA st) fb)
  (hG:∀ ss y,G ss=some y->cy np 0 ss=true/\eN fb N.length ss=some y):vk P w K mg base ts (k + 1) x ps.length G:=⟨f,fd,ps,hm,F.kp,hb,E5 F S dW hG⟩
theorem R4{st f}(h1:∃ oc od kV doc pm an ct eW,K.lookup f=some ⟨oc,od,.func (Qm x qual (il st) (eA st) (bM st) .none kV doc pm an aU ct),eW⟩)
  (h2:∃ oc od kV doc pm an ct eW,K.lookup f=some ⟨oc,od,.func (Qm x qual (il st) (eA st) (bM st) .none kV doc pm an (.ref code) ct),eW⟩):aU = .ref code:=by
 obtain⟨_,_,_,_,_,_,_,_,e1⟩:=h1;obtain⟨_,_,_,_,_,_,_,_,e2⟩:=h2;rw[e1] at e2
 cases e2;rfl
section
open PySem.SeqAt
mutual
def gP:NK->Nat
 | .i _=>1
 | .s _=>1
 | .t ks=>jt ks + 1
def jt:List NK->Nat
 | []=>0
 | k :: ks=>gP k + jt ks
end
inductive dP (h:Heap):Nat->NK->Value->Prop
 | int {n:Nat} (z:Int) (t:Tok):dP h n (.i z) (.int z t)
 | bl {n:Nat} (b:Bool):dP h n (.i (if b then 1 else 0)) (.bool b)
 | str {n:Nat} (x:Str) (t:Tok):dP h n (.s x) (.str x t)
 | tup {n:Nat} {a:Addr} {ak:Array Value} {ks:List NK}:h.IsTuple a ak->ks.length=ak.toList.length->(∀ (i:Nat) k v,ks[i]? = some k->ak.toList[i]? = some v->dP h n k v)->dP h (n + 1) (.t ks) (.ref a)
theorem R5{α β:Type}{xs ys:List α}{vs:List β}(h1:xs.length=vs.length)(h2:ys.length=vs.length)(q:∀ (i:Nat) x y v,xs[i]? = some x->ys[i]? = some y->vs[i]? = some v->x=y):xs=ys:=by
 apply Us Y';intro i a b;exact q i _ _ vs[i] (Wb a) (Wb b) (Wb Y')
theorem dP.inj{x v}(r:dP h n x v):∀ {m:Nat} {y:NK},dP h m y v->x=y:=by
 induction r with
 | int z t=>intro m y k; cases k; rfl
 | bl b=>intro m y k; cases k; rfl
 | str x t=>intro m y k; cases k; rfl
 | @tup n a ak ks h1 h2 h3 ih =>
  intro m y k
  cases k with
  | @tup m _ its' ks' k1 k2 k3 =>
   obtain⟨o,e,c,q,d⟩:=h1;obtain⟨o',e',c',q',d'⟩:=k1;rw[e] at e'; cases e'
   rw[d] at d'; cases d'
   rw[R5 h2 k2 λi x y v e1 e2 e3=>ih i x v e1 e3 (k3 i y v e2 e3)]
theorem dP.kept{x}(r:dP h n x v)(k:∀ b ak,h.IsTuple b ak->h'.IsTuple b ak):dP h' n x v:=by
 induction r with
 | int z t=>exact .int z t
 | bl b=>exact .bl b
 | str x t=>exact .str x t
 | tup h1 h2 h3 ih=>exact .tup (k _ _ h1) h2 ih
theorem dP.up{x}(r:dP h n x v):∀ {m:Nat},n<=m->dP h m x v:=by
 induction r with
 | int z t=>intro m _; exact .int z t
 | bl b=>intro m _; exact .bl b
 | str x t=>intro m _; exact .str x t
 | tup h1 h2 h3 ih =>
  intro m l;obtain⟨m,rfl⟩:∃ m',m=m' + 1:=⟨m - 1,Y'⟩
  exact .tup h1 h2 λi k v e1 e2=>ih i k v e1 e2 Y'
theorem R6{Q}(h:Q (hashInt (if b then 1 else 0)) { s with toks:=s.toks + 1 }):W8 (model prog w) A (PySem.pyHash (.bool b)) Q E s:=by
 have z:reduceHash (if b then 1 else 0)=hashInt (if b then 1 else 0):=by cases b <;> decide +kernel
 refine PySem.W.pyHash_slot (id:="int.__hash__") (T:="bool") (hT:=rfl) (slot:=F.slot_bool_hash) (entry:=entry_int_hash) (args:=args_int_hash _) (hid:=beq_builtin_none _) (hu:=.inl rfl) (body:=?_)
 cases b
 ·exact(show W8 _ _ (mkInt 0 >>= λv=>ret v) _ _ _ from W0 (wpAny_mkInt (W3 ⟨_,_,rfl,z ▸ h⟩)))
 ·exact(show W8 _ _ (mkInt 1 >>= λv=>ret v) _ _ _ from W0 (wpAny_mkInt (W3 ⟨_,_,rfl,z ▸ h⟩)))
theorem E_(w):∀ ks:List NK,tf w ks=ks.map (fP w)
 | []=>rfl
 | k :: ks=>by simp only[tf,Wf,E_ w ks]
theorem Fb:∀ xs ys,jt (xs ++ ys)=jt xs + jt ys
 | [],ys=>#v[jt]
 | x :: xs,ys=>by simp only[JA,jt,Fb xs ys]; lia
theorem dP.pyHash(r:dP h n k v):∀ {A:Wv} {s:W4} {Q:Int->W4->Prop},s.heap=h->A.units + n < Qk->Q (fP w k) { s with toks:=s.toks + gP k }->W8 (model prog w) A (PySem.pyHash v) Q E s:=by
 induction r with
 | int z t=>intro A s Q _ _ q; exact wpAny_pyHash_int q
 | bl b=>intro A s Q _ _ q; exact R6 q
 | str x t=>intro A s Q _ _ q; exact wpAny_pyHash_str q
 | @tup n a ak ks h1 h2 h3 ih =>
  intro A s Q hs hu q;subst hs;obtain⟨o,ho,hc,m,hd⟩:=id h1;have hT:s.TypeIs (.ref a) "tuple":=⟨o,ho,hc⟩
  refine PySem.W.pyHash_slot (T:="tuple") hT F.slot_tuple_hash F.entry_tuple_hash (F.args_tuple_hash_1 _) (beq_builtin_none _) (.inr Y') ?_;show W8 _ _ (Builtin.Tuple.tupleItemsOf (.ref a) >>= _) _ _ s;refine W0 (wpAny_tupleItemsOf ho hd ?_);refine W0 ?_;rw[<- Array.forIn_toList];refine wpAny_forIn_list _ (λrest (b:Array Int) s'=>∃ i,i<=ks.length/\rest=ak.toList.drop i/\b.toList=(ks.take i).map (fP w)/\s' = { s with toks:=s.toks + jt (ks.take i) })
   _ ?_ ?_ _ _ ⟨0,Qq _,rfl,rfl,#v[jt]⟩
  ·rintro x rest b s' ⟨i,hi,hr,hb,rfl⟩;have bu:i < ak.toList.length:=by
    rcases Nat.lt_or_ge i ak.toList.length with z | z
    ·exact z
    ·rw[List.drop_eq_nil_of_le z] at hr; cases hr
   rw[QX bu] at hr;injection hr with hx hr
   have jk:i < ks.length:=by lia
   refine W0 (ih i ks[i] x (Wb jk) %[hx|Wb bu] rfl (show A.units + 1 + n < Qk by lia) ?_);have ht:ks.take (i + 1)=ks.take i ++ [ks[i]]:=by simp_all
   have fin:∃ j,j<=ks.length/\rest=ak.toList.drop j/\(b.push (fP w ks[i])).toList=(ks.take j).map (fP w)/\({ s with toks:=s.toks + jt (ks.take i) + gP ks[i] }:W4) = { s with toks:=s.toks + jt (ks.take j) }:=by
    refine⟨i + 1,jk,hr,by rw[ht,WR,Array.toList_push,hb]; rfl,?_⟩;rw[ht,Fb];simp only[jt];rw[Nat.add_zero,Nat.add_assoc]
   first
    | exact W3 fin
    | exact W0 (W3 (W3 fin))
  ·rintro b s' ⟨i,hi,hr,hb,rfl⟩;have hz:i=ks.length:=by
    have:=congrArg Qp hr;simp at this;simp at h2;lia
   subst hz;rw[QU] at hb ⊢;show W8 _ _ (retInt (Builtin.Tuple.tupleHashOf b.toList)) _ _ _;rw[hb];refine W0 (wpAny_mkInt (W3 ⟨_,_,rfl,?_⟩));simp only[fP,gP,E_] at q;simpa[Nat.add_assoc] using q
theorem dP.quiet(r:dP s.heap n k v):∀ {A:Wv} {m:Nat} {Q:Bool->W4->Prop},n<=m->Q true s->W8 (model prog w) A (eqIsQuiet m v) Q E s:=by
 induction r with
 | int z t=>intro A m Q _ q; rw[eqIsQuiet_byValue _ rfl]; exact W3 q
 | bl b=>intro A m Q _ q; rw[eqIsQuiet_byValue _ rfl]; exact W3 q
 | str x t=>intro A m Q _ q; rw[eqIsQuiet_byValue _ rfl]; exact W3 q
 | @tup n a ak ks h1 h2 h3 ih =>
  intro A m Q hm q;obtain⟨o,ho,hc,mm,hd⟩:=id h1;have hT:s.TypeIs (.ref a) "tuple":=⟨o,ho,hc⟩
  obtain⟨m,rfl⟩:∃ m',m=m' + 1:=⟨m - 1,Y'⟩
  unfold eqIsQuiet;refine W0 (wpAny_specialOf hT F.slot_tuple_eq.lookup ?_);show W8 _ _ (isInstance (.ref a) (.type "tuple") >>= _) _ _ s;refine W0 (JC hT isSubtype_tuple_tuple ?_);simp only[Bool.not_true,Qd,if_false];refine W0 (QG ho hd ?_);refine W0 ?_;show W8 _ _ (forIn ak _ _) _ _ s;rw[<- Array.forIn_toList];refine wpAny_forIn_list _ (λrest r s'=>r.1=none/\s'=s/\∃ i,rest=ak.toList.drop i) _ ?_ ?_ _ _ ⟨rfl,rfl,0,rfl⟩
  ·rintro x rest r s' ⟨hr,rfl,i,hi⟩;have bu:i < ak.toList.length:=by grind[List.drop_eq_nil_of_le]
   rw[QX bu] at hi;injection hi with hx hi
   have jk:i < ks.length:=by lia
   refine W0 (ih i ks[i] x (Wb jk) %[hx|Wb bu] Y' ?_);simp only[Bool.not_true,Qd,if_false];exact W3 ⟨rfl,rfl,i + 1,hi⟩
  grind[W3]
theorem mB(a b:Int):decide (NK.i a=NK.i b)=(a == b):=by grind
theorem yL(a b):decide (NK.s a=NK.s b)=(a == b):=by grind
theorem yM(a b:Bool):(a == b)=(((if a then 1 else 0:Int)) == (if b then 1 else 0:Int)):=by cases a <;> cases b <;> rfl
theorem R7{xs ys e}(he:∀ (j:Nat) x y,xs[j]? = some x->ys[j]? = some y->e j=decide (x=y)):((WY (min xs.length ys.length)).all e && xs.length == ys.length)=decide (NK.t xs=NK.t ys):=by
 by_cases hl:xs.length=ys.length
 ·rw[<- hl,Nat.min_self];simp only[beq_self_eq_true,Bool.and_true];by_cases hx:xs=ys
  ·simp_all
  ·rw[decide_eq_false λq=>hx (NK.t.inj q)];rw[List.all_eq_false];apply Classical.byContradiction;intro hn;apply hx;apply Us hl;intro j a b;apply Classical.byContradiction;intro cw;refine hn ⟨j,List.mem_range.mpr a,?_⟩;rw[he j _ _ (Wb a) (Wb b)];simpa using cw
 grind
theorem dP.R8{x}(r:dP s.heap n x u):∀ {A:Wv} {m:Nat} {y:NK} {v:Value},dP s.heap m y v->A.units + n < Qk->EqAt A s u v (decide (x=y)):=by
 induction r with
 | int z t =>
  intro A m y v k hu
  cases k with
  | int z' t'=>rw[mB]; exact EqAt.int_int _ _ _ _
  | bl b=>rw[mB]; exact EqAt.int_bool _ _ _
  | str x t'=>rw[decide_eq_false (λq=>nomatch q)]; exact EqAt.int_str _ _ _ _
  | tup k1 k2 k3=>rw[decide_eq_false (λq=>nomatch q)]; exact EqAt.int_tuple _ _ k1 Y'
 | bl b =>
  intro A m y v k hu
  cases k with
  | int z' t'=>rw[mB]; exact EqAt.bool_int _ _ _
  | bl b=>rw[mB,<- yM]; exact EqAt.bool_bool _ _
  | str x t'=>rw[decide_eq_false (λq=>nomatch q)]; exact EqAt.bool_str _ _ _
  | tup k1 k2 k3=>rw[decide_eq_false (λq=>nomatch q)]; exact EqAt.bool_tuple _ k1 Y'
 | str x t =>
  intro A m y v k hu
  cases k with
  | int z' t'=>rw[decide_eq_false (λq=>nomatch q)]; exact EqAt.str_int _ _ _ _
  | bl b=>rw[decide_eq_false (λq=>nomatch q)]; exact EqAt.str_bool _ _ _
  | str x t'=>rw[yL]; exact EqAt.str_str _ _ _ _
  | tup k1 k2 k3=>rw[decide_eq_false (λq=>nomatch q)]; exact EqAt.str_tuple _ _ k1 Y'
 | @tup n a ak ks h1 h2 h3 ih =>
  intro A m y v k hu
  cases k with
  | int z' t'=>rw[decide_eq_false (λq=>nomatch q)]; exact EqAt.tuple_int _ _ h1 Y'
  | bl b=>rw[decide_eq_false (λq=>nomatch q)]; exact EqAt.tuple_bool _ h1 Y'
  | str x t'=>rw[decide_eq_false (λq=>nomatch q)]; exact EqAt.tuple_str _ _ h1 Y'
  | @tup m' b its' ks' k1 k2 k3 =>
   by_cases hZ:a=b
   ·subst hZ;have e:NK.t ks=NK.t ks':=dP.inj (dP.tup h1 h2 h3) (dP.tup k1 k2 k3);rw[decide_eq_true e];exact EqAt.same _
   ·refine EqAt.of_refs hZ ?_;let e:Nat->Bool:=λj=>match ks[j]?,ks'[j]? with
     | some x,some y=>decide (x=y)
     | _,_=>false
    have z1:ak.size=ks.length:= ~~~h2.symm
    have z2:its'.size=ks'.length:= ~~~k2.symm
    have q:=RcAt.tuples (A:=A) (s:=s) (e:=e) h1 k1 Y' λj j1 j2=>by
     have l1:j < ks.length:=by lia
     have l2:j < ks'.length:=by lia
     have ee:e j=decide (ks[j]=ks'[j]):=by simp only[e,Wb l1,Wb l2]
     rw[ee];exact ih j ks[j] ak[j] (Wb l1) #v[j1] (k3 j ks'[j] its'[j] (Wb l2) #v[j2]) (show A.units + 1 + n < Qk by lia)
    rw[z1,z2,R7 λj x y e1 e2=>by simp only[e,e1,e2]] at q;exact q
theorem R9{es ep}(ho:h.get? d=some o)(hd:o.data = .dict es ep)(hs:Qt d h h'):∀ b ak,h.IsTuple b ak->h'.IsTuple b ak:=λb ak ⟨o',e,c,n,q⟩=>by
 have cw:b≠d:=by grind
 exact⟨o',(hs.2 b cw).trans e,c,n,q⟩
noncomputable def nkKind (prog:Wo) (w:Wt):HeapKind prog w NK where
 is:=λh k a=>dP h 6 k (.ref a)
 hash:=fP w
 draws:=gP
 room:=λA=>A.units + 6 < Qk
 inj:=λhx hy=>hx.inj hy
 keeps:=λx ho hd hs=>x.kept (R9 ho hd hs)
 pyHash:=λhu hk h=>hk.pyHash rfl hu h
 eqBool:=λhu hx hy h=>hx.R8 hy hu _ _ _ _ h
 quiet:=λhk h=>hk.quiet Y' h
def kN:Key->NK
 | .inl z=>.i z
 | .inr x=>.s x
theorem R_(h:kN p=kN q):p=q:=by
 cases p <;> cases q <;> first | (cases h; rfl) | cases h
def kh(h:Heap)(m:Bool)(k:NK)(u:Value):Prop:=match m with
 | true=>∃ a,u = .ref a/\dP h 6 k u
 | false=>∃ q:Key,i4 q u=true/\k=kN q
theorem Sa(h1:i4 p u=true)(h2:i4 q u=true):p=q:=by all_goals grind[lH]
def ent(w:Wt)(x:NK×Value×Value):DictEntry:=⟨fP w x.1,x.2.1,x.2.2⟩
theorem yN{Q}(hu:A.units + 6 < Qk)(hk:kh s.heap m k u)(h:Q (fP w k) { s with toks:=s.toks + gP k }):W8 (model prog w) A (PySem.pyHash u) Q E s:=by
 cases m with
 | true=>obtain⟨a,rfl,r⟩:=hk; exact r.pyHash rfl hu h
 | false =>
  obtain⟨q,h1,rfl⟩:=hk;refine(eV prog w).pyHash (k:=q) h1 ?_
  cases q <;> exact h
theorem Fe:∀ {xs:List (NK×Value×Value)},(∀ x ∈ xs,kh h true x.1 x.2.1)->∃ ys:List (NK×Addr×Value),xs=ys.map λy=>(y.1,Value.ref y.2.1,y.2.2)
 | [],_=>⟨[],rfl⟩
 | x :: xs,q=>by
  obtain⟨ys,e⟩:=Fe (xs:=xs) λy hy=>q y (Wg _ hy)
  obtain⟨a,e1,_⟩:=q x Wp;exact⟨(x.1,a,x.2.2) :: ys,by rw[Wf,<- e]; simp only[<- e1]⟩
theorem yO{k:NK}{d:Addr}{o:Obj}{es ep}{Q:Option Nat->W4->Prop}(hu:A.units + 6 < Qk)(hk:kh s.heap m k u)
  (ho:s.heap.get? d=some o) (hd:o.data = .dict es ep) (he:es.toList=xs.map (ent w)) (hx:∀ x ∈ xs,kh s.heap m x.1 x.2.1) (hn:(xs.map (·.1)).Nodup)
  (Ff:(∀ (j:Nat) p,xs[j]?≠some (k,p))->Q none s) (Sb:∀ (j:Nat) p,xs[j]? = some (k,p)->Q (some j) s):W8 (model prog w) A (dictFind d u (fP w k)) Q E s:=by
 cases m with
 | true =>
  obtain⟨a,rfl,r⟩:=hk;obtain⟨ys,rfl⟩:=Fe hx;refine wpAny_dictFind_heap (knd:=nkKind prog w) (xs:=ys) hu r ho hd (by rw[he,Ww]; rfl) (λy hy=>?_) (by rw[Ww] at hn; exact hn) (λfV=>Ff λj p e=>?_) λj p e=>?_
  ·obtain⟨b,e1,e2⟩:=hx _ (WD hy)
   cases e1;exact e2
  ·rw[Wj] at e
   cases q:ys[j]? with
   | none=>rw[q] at e; cases e
   | some y =>
    rw[q] at e;simp only[WI,We] at e;exact fV j y.2 (by rw[q,<- show y.1=k from congrArg Prod.fst e])
  ·exact Sb j (.ref p.1,p.2) (by rw[Wj,e]; rfl)
 | false =>
  obtain⟨q,h1,rfl⟩:=hk;have pD:∀ (j:Nat) e,es[j]? = some e->∃ x,xs[j]? = some x/\e=ent w x:=λj e z=>by
   rw[<- QJ,he,Wj] at z
   cases y:xs[j]? with
   | none=>rw[y] at z; cases z
   | some x=>rw[y] at z; simp only[WI,We] at z; exact⟨x,rfl,z.symm⟩
  have ks:KeysOf (eV prog w) es:=λe fY=>by
   obtain⟨j,hj⟩:=Q4.mp (Array.mem_toList_iff.mpr fY);obtain⟨x,e1,rfl⟩:=pD j e (by rw[<- QJ]; exact hj);obtain⟨q',e2,e3⟩:=hx x (Wq e1);refine⟨q',e2,?_⟩;show fP w x.1=_;rw[e3]
   cases q' <;> rfl
  have hh:fP w (kN q)=(eV prog w).hash q:=by cases q <;> rfl
  rw[hh];refine wpAny_dictFind_of (knd:=eV prog w) (k:=q) h1 ho hd ks ?_
  cases hf:es.findIdx? λe=>(eV prog w).is q e.key with
  | none =>
   refine Ff λj p e=>?_
   have hj:j < xs.length:=(W6.mp e).1;have hz:es.size=xs.length:=by rw[<- WW,he,Wn]
   obtain⟨x,e1,e2⟩:=pD j es[j] #v[hz,hj];rw[e] at e1; cases e1
   have:=Array.findIdx?_eq_none_iff.mp hf es[j] (Array.getElem_mem _);obtain⟨q',e3,e4⟩:=hx _ (Wq e);rw[R_ e4] at this;rw[e2] at this;have z:i4 q' p.1=false:=this;grind
  | some j =>
   obtain⟨bu,hp,_⟩:=Array.findIdx?_eq_some_iff_getElem.mp hf;obtain⟨x,e1,e2⟩:=pD j es[j] #v[bu];obtain⟨q',e3,e4⟩:=hx x (Wq e1);rw[e2] at hp;have:q=q':=Sa (show i4 q x.2.1=true from hp) e3;grind
noncomputable def atN (xs:List (NK×Value×Value)) (k:NK):Option (Value×Value):=(xs.find? λx=>decide (x.1=k)).map (·.2)
noncomputable def stN (xs:List (NK×Value×Value)) (k:NK) (u v:Value):List (NK×Value×Value):=if (xs.any λx=>decide (x.1=k))=true then xs.map λx=>if x.1=k then(x.1,x.2.1,v) else x else xs ++ [(k,u,v)]
theorem vn(h:∀ (j:Nat) p,xs[j]?≠some (k,p)):atN xs k=none/\(xs.any λx=>decide (x.1=k))=false:=by
 have z:∀ x ∈ xs,decide (x.1=k)=false:=λx hx=>by grind[List.mem_iff_getElem?]
 grind[atN]
theorem vo:∀ {xs:List (NK×Value×Value)} {k:NK} {j:Nat} {p:Value×Value},(xs.map (·.1)).Nodup->xs[j]? = some (k,p)->atN xs k=some p/\(xs.any λx=>decide (x.1=k))=true
 | [],k,j,p,_,e=>by simp at e
 | x :: xs,k,j,p,hn,e=>by
  rw[Wf,WN] at hn
  cases j with
  | zero=>simp at e; subst e; simp[atN]
  | succ j =>
   have e':xs[j]? = some (k,p):= ~~~e
   have cw:¬ x.1=k:=λz=>hn.1 (by rw[z]; exact WA.mpr ⟨_,Wq e',rfl⟩)
   obtain⟨h1,h2⟩:=vo hn.2 e';grind[atN]
theorem Se{k d}{o:Obj}{es ep}{Q:Option Value->W4->Prop}(hu:A.units + 6 < Qk)(hk:kh s.heap m k u)
  (ho:s.heap.get? d=some o) (hd:o.data = .dict es ep) (he:es.toList=xs.map (ent w)) (hx:∀ x ∈ xs,kh s.heap m x.1 x.2.1) (hn:(xs.map (·.1)).Nodup)
  (h:Q ((atN xs k).map (·.2)) { s with toks:=s.toks + gP k }):W8 (model prog w) A (dictGet d u) Q E s:=by
 unfold dictGet;try with_reducible refine WL ?_
 refine W0 (yN hu hk (W0 (yO (s:={ s with toks:=s.toks + gP k }) hu hk ho hd he hx hn ?_ ?_)))
 ·intro fV;rw[(vn fV).1] at h;exact W3 h
 ·intro j p hj;rw[(vo hn hj).1] at h;refine W0 (Qj (s:={ s with toks:=s.toks + gP k }) ho hd ?_);rw[<- QJ,he,Wj,hj];exact W3 h
theorem Fg(hn:(xs.map (·.1)).Nodup):((stN xs k u v).map (·.1)).Nodup:=by
 unfold stN;split
 ·rw[Ww];rw[show((λx:NK×Value×Value=>x.1) ∘ λx=>if x.1=k then(x.1,x.2.1,v) else x)=(·.1) from funext λx=>by simp only[Function.comp]; split <;> rfl];exact hn
 ·rename_i hh;rw[WR,List.nodup_append];refine⟨hn,Z5,λx hx y hy e=>?_⟩;simp only[Wf,U5,List.mem_singleton] at hy;subst hy e;obtain⟨z,hz,e⟩:=WA.mp hx;exact hh (JX.mpr ⟨z,hz,decide_eq_true e⟩)
theorem Fh:∀ {xs:List (NK×Value×Value)} {j:Nat} {p:Value×Value},(xs.map (·.1)).Nodup->xs[j]? = some (k,p) ->
  (xs.map (ent w)).modify j (λe=>{ e with val:=v })=(xs.map λx=>if x.1=k then(x.1,x.2.1,v) else x).map (ent w)
 | [],j,p,_,e=>by simp at e
 | x :: xs,j,p,hn,e=>by
  rw[Wf,WN] at hn
  cases j with
  | zero =>
   simp at e;subst e;have z:(xs.map λx=>if x.1=k then(x.1,x.2.1,v) else x)=xs:=by
    conv=>rhs; rw[<- List.map_id xs]
    refine Qf λy hy=>?_
    rw[if_neg λq=>hn.1 (WA.mpr ⟨y,hy,q⟩)];rfl
   rw[Wf,Wf,Wf,z,if_pos rfl];rfl
  | succ j =>
   have e':xs[j]? = some (k,p):= ~~~e
   have cw:¬ x.1=k:=λz=>hn.1 (by rw[z]; exact WA.mpr ⟨_,Wq e',rfl⟩)
   rw[Wf,Wf,Wf,if_neg cw];show ent w x :: (xs.map (ent w)).modify j _=_;rw[Fh hn.2 e']
theorem Sf{k v d}{o:Obj}{es ep}{Q:Unit->W4->Prop}(hu:A.units + 6 < Qk)(hk:kh s.heap m k u)
  (ho:s.heap.get? d=some o) (hc:o.ExactDict) (hd:o.data = .dict es ep) (he:es.toList=xs.map (ent w)) (hx:∀ x ∈ xs,kh s.heap m x.1 x.2.1) (hn:(xs.map (·.1)).Nodup) (hz:xs.length<=Wa)
  (hQ:∀ h' o' mW gf,h'.get? d=some o'->o'.ExactDict->o'.data = .dict mW gf->mW.toList=(stN xs k u v).map (ent w)->Qt d s.heap h'->Q () { s with heap:=h',toks:=s.toks + gP k }) :
  W8 (model prog w) A (dictSet d u v) Q E s:=by
 have hsz:es.size=xs.length:=by rw[<- WW,he,Wn]
 unfold dictSet;try with_reducible refine WL ?_
 refine W0 (yN hu hk ?_);unfold dictSetHashed;try with_reducible refine WL ?_
 refine W0 (yO (s:={ s with toks:=s.toks + gP k }) hu hk ho hd he hx hn ?_ ?_)
 ·intro fV;refine W0 (J0 (wpAny_updateDictKeys (hz:=by lia) (s:={ s with toks:=s.toks + gP k }) ho hd
   (hQ _ _ _ (ep + 1) (QH _ ho (Obj.isFreed_of_dict (Obj.data_mapDictKeys hd _))) (hc.mapDictKeys _) (Obj.data_mapDictKeys hd _) ?_ (Qo ..))))
  unfold stN;rw[if_neg (by rw[(vn fV).2]; simp)];simp[he,ent]
 ·intro j p hj;refine W0 (J0 (W0 (wpAny_updateDict (s:={ s with toks:=s.toks + gP k }) ho hd
   (wpAny_point (hQ _ _ _ ep (QH _ ho (Obj.isFreed_of_dict (Obj.data_mapDict hd _))) (hc.mapDict _) (Obj.data_mapDict hd _) ?_ (Qo ..))))))
  unfold stN;rw[if_pos (vo hn hj).2,<- Fh hn hj,<- he];grind
inductive lh (H:Hp):Nat->NK->V->Prop
 | int {n:Nat} (z:Int):lh H n (.i z) (.int z)
 | bl {n:Nat} (b:Bool):lh H n (.i (if b then 1 else 0)) (.bl b)
 | str {n:Nat} (x:Str):lh H n (.s x) (.str x)
 | tup {n:Nat} {a:Addr} {vs:List V} {ks:List NK}:H a=some (.tup vs)->ks.length=vs.length->(∀ (i:Nat) k v,ks[i]? = some k->vs[i]? = some v->lh H n k v)->lh H (n + 1) (.t ks) (.ref a)
def jP(H:Hp)(m:Bool)(k:NK)(v:V):Prop:=match m with
 | true=>(∃ a,v = .ref a)/\lh H 6 k v
 | false=>∃ q:Key,k=kN q/\v=kV q
theorem Vals.Sg{xs:List V}(r:Vals xs us)(e:us[i]? = some u):∃ x,xs[i]? = some x/\RelV x u:=by
 have h1:=r.length;have h2:i < xs.length:=by have:=(W6.mp e).1; lia
 obtain⟨u',e',rr⟩:=r.get (Wb h2);rw[e] at e'; cases e'
 exact⟨_,Wb h2,rr⟩
theorem lh.nk{k v}(ok:cL P w H h)(r:lh H n k v):∀ {u:Value},RelV v u->dP h n k u:=by
 induction r with
 | int z=>intro u q; obtain⟨t,rfl⟩:=q; exact .int z t
 | bl b=>intro u q; cases q; exact .bl b
 | str x=>intro u q; obtain⟨t,rfl⟩:=q; exact .str x t
 | @tup n a vs ks h1 h2 h3 ih =>
  intro u q
  cases q;obtain⟨_,ak,r,p⟩:=(show cp P w H h a (.tup vs) from ok a _ h1)
  have ht:h.IsTuple a ak.toArray:=p.tup;refine .tup ht (by rw[h2]; simpa using r.length) λi k u e1 e2=>?_
  obtain⟨x,e3,rx⟩:=r.Sg (u:=u) (i:=i) (~~~e2);exact ih i k x e1 e3 rx
theorem jP.key(ok:cL P w H h)(r:jP H m k v)(q:RelV v u):kh h m k u:=by
 cases m with
 | true=>obtain⟨⟨a,rfl⟩,r⟩:=r; cases q; exact⟨a,rfl,r.nk ok rfl⟩
 | false=>obtain⟨q',rfl,rfl⟩:=r; exact⟨q',by rw[<- KQ P w]; exact kP q,rfl⟩
abbrev NE:=NK×V×V
def dG:List NE->List (NK×Value×Value)->Prop:=Paired λ(p:NE) (x:NK×Value×Value)=>p.1=x.1/\RelV p.2.1 x.2.1/\RelV p.2.2 x.2.2
theorem Fi:∀ {aj:List NE} {es:List DictEntry},Paired (λ p (e:DictEntry)=>e.hash=fP w p.1/\RelV p.2.1 e.key/\RelV p.2.2 e.val) aj es->∃ xs,dG aj xs/\es=xs.map (ent w)
 | _,_,.nil=>⟨[],.nil,rfl⟩
 | p :: _,e :: _,.cons r t=>by
  obtain⟨xs,h1,h2⟩:=Fi t;refine⟨(p.1,e.key,e.val) :: xs,.cons ⟨rfl,r.2.1,r.2.2⟩ h1,?_⟩;rw[Wf,<- h2];unfold ent;rw[<- r.1]
theorem Fj:∀ {aj:List NE} {xs:List (NK×Value×Value)},dG aj xs->Paired (λ p (e:DictEntry)=>e.hash=fP w p.1/\RelV p.2.1 e.key/\RelV p.2.2 e.val) aj (xs.map (ent w))
 | _,_,.nil=>.nil
 | p :: _,x :: _,.cons r t=>.cons ⟨by show fP w x.1=_; rw[r.1],r.2.1,r.2.2⟩ (Fj t)
theorem dG.keys:∀ {aj:List NE} {xs:List (NK×Value×Value)},dG aj xs->aj.map (·.1)=xs.map (·.1)
 | _,_,.nil=>rfl
 | p :: _,x :: _,.cons r t=>by rw[Wf,Wf,r.1,dG.keys t]
noncomputable def valN (aj:List NE) (k:NK):Option V:=(aj.find? λp=>decide (p.1=k)).map (·.2.2)
noncomputable def putN (aj:List NE) (k:NK) (y v:V):List NE:=if (aj.any λp=>decide (p.1=k))=true then aj.map λp=>if p.1=k then(p.1,p.2.1,v) else p else aj ++ [(k,y,v)]
theorem dG.val(k):∀ {aj:List NE} {xs:List (NK×Value×Value)},dG aj xs->gc (valN aj k) ((atN xs k).map (·.2))/\(aj.any λp=>decide (p.1=k))=xs.any λx=>decide (x.1=k)
 | _,_,.nil=>⟨trivial,rfl⟩
 | p :: aj,x :: xs,.cons r t=>by
  obtain⟨i1,i2⟩:=dG.val k t;rw[Qb,Qb,i2,r.1];refine⟨?_,rfl⟩;unfold valN atN at i1 ⊢;rw[WP,WP,r.1];by_cases e:x.1=k
  ·rw[decide_eq_true e]; exact r.2.2
  ·rw[decide_eq_false e]; exact i1
theorem dG.st(rv:RelV v r):∀ {aj:List NE} {xs:List (NK×Value×Value)},dG aj xs->dG (aj.map λp=>if p.1=k then(p.1,p.2.1,v) else p) (xs.map λx=>if x.1=k then(x.1,x.2.1,r) else x)
 | _,_,.nil=>.nil
 | p :: _,x :: _,.cons q t=>by
  rw[Wf,Wf];refine .cons ?_ (dG.st rv t);rw[q.1];by_cases e:x.1=k
  ·rw[if_pos e,if_pos e]; exact⟨rfl,q.2.1,rv⟩
  ·rw[if_neg e,if_neg e]; exact q
theorem dG.app(ry:RelV y u)(rv:RelV v r):∀ {aj:List NE} {xs:List (NK×Value×Value)},dG aj xs->dG (aj ++ [(k,y,v)]) (xs ++ [(k,u,r)])
 | _,_,.nil=>.cons ⟨rfl,ry,rv⟩ .nil
 | p :: _,x :: _,.cons q t=>.cons q (dG.app ry rv t)
theorem dG.put(ry:RelV y u)(rv:RelV v r)(h:dG aj xs):dG (putN aj k y v) (stN xs k u r):=by
 unfold putN stN;rw[(dG.val k h).2];split
 ·exact h.st rv
 ·exact h.app ry rv
section
variable {aj:List NE}
structure ki(w:Wt)(h:Heap)(a:Addr)(ep:Nat)(xs:List (NK×Value×Value))(o:Obj)(es:Array DictEntry):Prop where
 get:h.get? a=some o
 ex:o.ExactDict
 data:o.data = .dict es ep
 ents:es.toList=xs.map (ent w)
 jQ:(xs.map (·.1)).Nodup
theorem ju(ok:cL P w H h)(e:H a=some (.dN ep aj)):aj.length<=Wa/\(a == Qn)=false/\∃ xs o es,dG aj xs/\ki w h a ep xs o es:=by
 obtain⟨z,hS,o,es,h1,h2,h3,h4,h5⟩:=(show cp P w H h a (.dN ep aj) from ok a _ e)
 obtain⟨xs,q1,q2⟩:=Fi h4;exact⟨z,hS,xs,o,es,q1,h1,h2,h3,q2,by rw[<- q1.keys]; exact h5⟩
theorem Fm{es}(z:aj.length<=Wa)(hS:(a == Qn)=false)(r:dG aj xs)(d:ki w h a ep xs o es):cp P w H h a (.dN ep aj) :=
 ⟨z,hS,o,es,d.get,d.ex,d.data,%[d.ents|Fj r],%[r.keys|d.jQ]⟩
theorem ki.typeIs   {o es} (d:ki w s.heap a ep xs o es):s.TypeIs (.ref a) "dict":=⟨o,d.get,d.ex.1⟩
theorem ki.noDict{es}(d:ki w h a ep xs o es):∀ b,Value.ref a = .ref b->∃ ob,h.get? b=some ob/\ob.dict=none:=λb e=>by cases e; exact⟨o,d.get,d.ex.2.1⟩
theorem yP(ok:cL P w H h)(r:dG aj xs)(hk:∀ p ∈ aj,jP H m p.1 p.2.1):∀ x ∈ xs,kh h m x.1 x.2.1:=by
 induction r with
 | nil=>intro x hx; simp at hx
 | cons q t ih =>
  intro x hx;rcases Wu.mp hx with rfl | hx
  ·rw[<- q.1]; exact(hk _ Wp).key ok q.2.1
  ·exact ih (λp hp=>hk p (Wg _ hp)) x hx
end
def rO(H:Hp)(a:Addr)(y:V)(r:Option V):Prop:=∃ m ep aj k,H a=some (.dN ep aj)/\(∀ p ∈ aj,jP H m p.1 p.2.1)/\jP H m k y/\r=valN aj k
section
variable {y v:V}{r:Value}{o:Option V}
theorem Sh{Q}(hu:A.units + 6 < Qk)(I:Inv X pins σ H s)(g:rO H a y o)(ry:RelV y u)(h:∀ w' s',Inv X pins σ H s'->gc o w'->Q w' s') :
  W8 (model X.prog X.w) A (dictGet a u) Q E s:=by
 obtain⟨m,ep,aj,k,e,hk,ky,rfl⟩:=g;obtain⟨z,hS,xs,ob,es,rx,d⟩:=ju I.aC e;exact Se hu (ky.key I.aC ry) d.get d.data d.ents (yP I.aC rx hk) d.jQ (h _ _ (I.tok _) (rx.val k).1)
theorem Fo (I:Inv X pins σ H s) (g:rO H a y o):s.TypeIs (.ref a) "dict"/\(∀ b,Value.ref a = .ref b->∃ ob,s.heap.get? b=some ob/\ob.dict=none)/\(a == Qn)=false:=by
 obtain⟨m,ep,aj,k,e,hk,ky,rfl⟩:=g;obtain⟨z,hS,xs,ob,es,rx,d⟩:=ju I.aC e;exact⟨d.typeIs,d.noDict,hS⟩
theorem Si(hu:A.units + 8 < Qk)(I:Inv X pins σ H s)(g:rO H a y (some v))(ry:RelV y u)(h:∀ w' s',Inv X pins σ H s'->RelV v w'->Q w' s') :
  W8 (model X.prog X.w) A (Ua (.ref a) u) Q E s:=by
 obtain⟨hT,_,_⟩:=Fo I g;unfold Ua;try with_reducible refine WL ?_
 refine W0 (Uh hT Z' ?_);refine W0 (WF (name:=Str.ofString "__getitem__") hT slot_dict_getitem (Wz slot_dict_getitem hT entry_dict_getitem ?_ (args_dict_getitem _ _)));show W8 _ _ (dictGet a u >>= _) _ _ s;refine W0 (Sh (show A.units + 1 + 6 < Qk by lia) I g ry λw' s' I' rr=>?_);obtain⟨w2,rfl,r2⟩:=gc.some_of rr;exact W3 ⟨w2,rfl,W3 (h w2 s' I' r2)⟩
def yQ(H:Hp)(a:Addr)(y v:V)(R:Hp->Prop):Prop:=∃ m ep aj k,H a=some (.dN ep aj)/\(∀ p ∈ aj,jP H m p.1 p.2.1)/\jP H m k y/\aj.length < Wa/\∀ gf,R (upd H a (.dN gf (putN aj k y v)))
theorem Fp(aj:List NE)(k y v):(putN aj k y v).length<=aj.length + 1:=by
 unfold putN;split
 ·simp
 ·simp
theorem Sj{R Q}(hu:A.units + 6 < Qk)(I:Inv X pins σ H s)(g:yQ H a y v R)(ry:RelV y u)(rv:RelV v r)(h:∀ H' s',Inv X pins σ H' s'->R H'->Q () s') :
  W8 (model X.prog X.w) A (dictSet a u r) Q E s:=by
 obtain⟨m,ep,aj,k,e,hk,ky,hz,hR⟩:=g;obtain⟨z,hS,xs,ob,es,rx,d⟩:=ju I.aC e;have hl:xs.length<=Wa:=by rw[<- Paired.length rx]; exact z
 refine Sf hu (ky.key I.aC ry) d.get d.ex d.data d.ents (yP I.aC rx hk) d.jQ hl λh' o' mW gf q1 q2 q3 q4 hs=>h _ _ ?_ (hR gf)
 have i7:(putN aj k y v).length<=Wa:=by have:=Fp aj k y v; lia
 exact m7 I %[e|True.intro] hs ⟨o',q1⟩ (Fm i7 hS (rx.put ry rv) ⟨q1,q2,q3,q4,Fg d.jQ⟩)
theorem Sk{R:Hp->Prop}{Q:Unit->W4->Prop}(hu:A.units + 8 < Qk)(I:Inv X pins σ H s)(g:yQ H a y v R)(ry:RelV y u)(rv:RelV v r)(h:∀ H' s',Inv X pins σ H' s'->R H'->Q () s') :
  W8 (model X.prog X.w) A (setItem (.ref a) u r) Q E s:=by
 have hT:s.TypeIs (.ref a) "dict":=by
  obtain⟨m,ep,aj,k,e,_⟩:=g;obtain⟨z,hS,xs,ob,es,rx,d⟩:=ju I.aC e;exact d.typeIs
 unfold setItem;try with_reducible refine WL ?_
 refine W0 (Uh hT Z' ?_);refine W0 (WF (name:=Str.ofString "__setitem__") hT slot_dict_setitem (Wz slot_dict_setitem hT entry_dict_setitem ?_ (args_dict_setitem _ _ _)));show W8 _ _ (Builtin.Dict.notOrdered "__setitem__" ⟨[.ref a,u,r],[]⟩ >>= _) _ _ s;refine W0 (QI hT ?_);show W8 _ _ (dictSet a u r >>= _) _ _ s;exact W0 (Sj (show A.units + 1 + 6 < Qk by lia) I g ry rv λH' s' I' hR=>W3 ⟨.none,rfl,W3 (h H' s' I' hR)⟩)
end
end
theorem Sl(n:Nat)(i:Int):cJ n (.int i)=some (.i i):=by cases n <;> rfl
theorem Sm(n b):cJ n (.bl b)=some (.i (if b then 1 else 0)):=by cases n <;> rfl
theorem Sn(n x):cJ n (.str x)=some (.s (toS x)):=by cases n <;> rfl
theorem So(n xs):cJ (n + 1) (.tup xs)=(gH n xs).map .t:=rfl
theorem vp{x}(h:cJ n d=some x):(∃ i,d = .int i/\x = .i i)\/(∃ b,d = .bl b/\x = .i (if b then 1 else 0))\/(∃ s,d = .str s/\x = .s (toS s))\/∃ m xs ks,n=m + 1/\d = .tup xs/\gH m xs=some ks/\x = .t ks:=by
 cases d with
 | int i=>rw[Sl] at h; exact .inl ⟨i,rfl,(WZ h).symm⟩
 | bl b=>rw[Sm] at h; exact .inr (.inl ⟨b,rfl,(WZ h).symm⟩)
 | str s=>rw[Sn] at h; exact .inr (.inr (.inl ⟨s,rfl,(WZ h).symm⟩))
 | tup xs =>
  cases n with
  | zero=>cases h
  | succ m =>
   rw[So,WG] at h;obtain⟨ks,hk,e⟩:=h;exact .inr (.inr (.inr ⟨m,xs,ks,rfl,rfl,hk,e.symm⟩))
 | _=>cases n <;> cases h
theorem Fq(ih:∀ d e x y,cJ n d=some x->cJ n e=some y->dI d e=decide (x=y)):∀ xs ys ks ls,gH n xs=some ks->gH n ys=some ls->jb xs ys=decide (ks=ls)
 | [],[],ks,ls,h1,h2=>by grind[jb]
 | [],y :: ys,ks,ls,h1,h2=>by
  simp only[gH,We,JG,WG] at h1 h2;subst h1;obtain⟨k,_,l,_,rfl⟩:=h2;simp[jb]
 | x :: xs,[],ks,ls,h1,h2=>by
  simp only[gH,We,JG,WG] at h1 h2;subst h2;obtain⟨k,_,l,_,rfl⟩:=h1;simp[jb]
 | x :: xs,y :: ys,ks,ls,h1,h2=>by
  simp only[gH,JG,WG] at h1 h2;obtain⟨k,hk,k',qI,rfl⟩:=h1;obtain⟨l,hl,l',i7,rfl⟩:=h2;simp only[jb];rw[ih x y k l hk hl,Fq ih xs ys k' l' qI i7];grind
theorem Fs:∀ (n:Nat) d e x y,cJ n d=some x->cJ n e=some y->dI d e=decide (x=y):=by
 intro n;induction n with
 | zero =>
  intro d e x y h1 h2;rcases vp h1 with ⟨i,rfl,rfl⟩ | ⟨b,rfl,rfl⟩ | ⟨s,rfl,rfl⟩ | ⟨m,xs,ks,e,_⟩ <;> rcases vp h2 with ⟨i,rfl,rfl⟩ | ⟨b,rfl,rfl⟩ | ⟨s,rfl,rfl⟩ | ⟨m,xs,ks,e,_⟩ <;>
   first | (cases e; done) | (simp only[dI]; first | (rw[decide_eq_false (λq=>nomatch q)]; done) | (rw[mB,<- yM]; done) | (rw[mB]; done) | (rw[yL,uo]; done))
 | succ n ih =>
  intro d e x y h1 h2;rcases vp h1 with ⟨i,rfl,rfl⟩ | ⟨b,rfl,rfl⟩ | ⟨s,rfl,rfl⟩ | ⟨m,xs,ks,e1,rfl,hk,rfl⟩ <;> rcases vp h2 with ⟨i,rfl,rfl⟩ | ⟨b,rfl,rfl⟩ | ⟨s,rfl,rfl⟩ | ⟨m,ys,ls,e2,rfl,hl,rfl⟩ <;>
   first | (simp only[dI]; first | (rw[decide_eq_false (λq=>nomatch q)]; done) | (rw[mB,<- yM]; done) | (rw[mB]; done) | (rw[yL,uo]; done)) | skip
  cases e1
  cases e2;simp only[dI];rw[Fq ih xs ys ks ls hk hl];grind
theorem Ft:∀ {xs:List D} {ks:List NK},gH n xs=some ks->ks.length=xs.length/\∀ (i:Nat) d k,xs[i]? = some d->ks[i]? = some k->cJ n d=some k
 | [],ks,h=>by simp[gH] at h; subst h; exact⟨rfl,λi d k e=>by simp at e⟩
 | x :: xs,ks,h=>by
  simp only[gH,JG,WG] at h;obtain⟨k,hk,k',qI,rfl⟩:=h;obtain⟨h1,h2⟩:=Ft qI;refine⟨#v[h1],λi d kk e1 e2=>?_⟩
  cases i with
  | zero=>simp at e1 e2; subst e1; subst e2; exact hk
  | succ i=>exact h2 i d kk (~~~e1) (~~~e2)
theorem Sq(r:Rep H O v d):∀ {n:Nat} {k:NK},cJ n d=some k->lh H n k v:=by
 induction r with
 | int i=>intro n k h; cases n <;> (simp[cJ] at h; subst h; exact .int i)
 | bl b=>intro n k h; cases n <;> (simp only[cJ,We] at h; subst h; exact .bl b)
 | str x=>intro n k h; cases n <;> (simp[cJ] at h; subst h; exact .str _)
 | @tup a vs ds h1 h2 h3 h4 ih =>
  intro n k h
  cases n with
  | zero=>simp[cJ] at h
  | succ n =>
   simp only[cJ,WG] at h;obtain⟨ks,hk,rfl⟩:=h;obtain⟨l,g⟩:=Ft hk;refine .tup h2 Y' λi k v e1 e2=>?_
   have hi:i < ds.length:=by have:=(W6.mp e1).1; lia
   exact ih i v ds[i] e2 (Wb hi) (g i ds[i] k (Wb hi) e1)
 | _=>intro n k h; cases n <;> simp[cJ] at h
def h9(m:Bool)(d:D):Bool:=match d with
 | .tup _=>m
 | .int _=>!m
 | .str _=>!m
 | _=>false
theorem vq(hm:h9 m d=true)(hk:cJ 6 d=some k)(r:Rep H O v d):jP H m k v:=by
 cases m with
 | true =>
  have r':=Sq r hk
  cases r <;> simp[h9] at hm
  exact⟨⟨_,rfl⟩,r'⟩
 | false =>
  cases r <;> simp[h9] at hm
  ·simp[cJ] at hk; subst hk; exact⟨.inl _,rfl,rfl⟩
  ·simp[cJ] at hk; subst hk; exact⟨.inr _,rfl,rfl⟩
def gv(m:Bool)(ds:List (D×D))(k:D):Bool:=h9 m k && (cJ 6 k).isSome && ds.all λq=>h9 m q.1
def gQ(k:D):Bool:=h9 true k
def fJ(ds:List (D×D))(k:D):Option D:=(ds.find? λq=>dI q.1 k).map (·.2)
def jv(ds:List (D×D))(k d:D):List (D×D):=if (ds.any λq=>dI q.1 k)=true then ds.map λq=>if dI q.1 k=true then(q.1,d) else q else ds ++ [(k,d)]
section
variable {ws:List NE}{ds:List (D×D)}{p:NE}{q:D×D}
theorem DN.nil:DN H O [] []:=⟨rfl,λi p q e=>by simp at e,λi p q e=>by simp at e,λi p q e=>by simp at e⟩
theorem DN.cons{H O ws ds p q}(h1:Rep H O p.2.1 q.1)(h2:Rep H O p.2.2 q.2)(h3:cJ 6 q.1=some p.1)(r:DN H O ws ds):DN H O (p :: ws) (q :: ds):=by
 refine⟨#v[r.len],λi a b e1 e2=>?_,λi a b e1 e2=>?_,λi a b e1 e2=>?_⟩ <;> cases i <;> simp at e1 e2
 ·subst e1; subst e2; exact h1
 ·exact r.key _ a b e1 e2
 ·subst e1; subst e2; exact h2
 ·exact r.val _ a b e1 e2
 ·subst e1; subst e2; exact h3
 ·exact r.nq _ a b e1 e2
theorem DN.un(r:DN H O (p :: ws) (q :: ds)):Rep H O p.2.1 q.1/\Rep H O p.2.2 q.2/\cJ 6 q.1=some p.1/\DN H O ws ds :=
 ⟨r.key 0 p q rfl rfl,r.val 0 p q rfl rfl,r.nq 0 p q rfl rfl,~~~r.len,λi a b e1 e2=>r.key (i + 1) a b (~~~e1) (~~~e2),λi a b e1 e2=>r.val (i + 1) a b (~~~e1) (~~~e2),λi a b e1 e2=>r.nq (i + 1) a b (~~~e1) (~~~e2)⟩
theorem DN.get(hk:cJ 6 k=some kk):∀ {ws:List NE} {ds:List (D×D)},DN H O ws ds->((fJ ds k=none/\valN ws kk=none)\/∃ v d,fJ ds k=some d/\valN ws kk=some v/\Rep H O v d)/\(ds.any λq=>dI q.1 k)=ws.any λp=>decide (p.1=kk)
 | [],[],_=>⟨.inl ⟨rfl,rfl⟩,rfl⟩
 | [],_ :: _,r=>by have:=r.len; simp at this
 | _ :: _,[],r=>by have:=r.len; simp at this
 | p :: ws,q :: ds,r=>by
  obtain⟨r1,r2,r3,r4⟩:=r.un;obtain⟨i1,i2⟩:=DN.get hk r4;have e:=Fs 6 q.1 k p.1 kk r3 hk;refine⟨?_,by rw[Qb,Qb,i2,e]⟩;unfold fJ valN at i1 ⊢;rw[WP,WP,e];by_cases z:p.1=kk
  ·rw[decide_eq_true z]; exact .inr ⟨_,_,rfl,rfl,r2⟩
  ·rw[decide_eq_false z]; exact i1
theorem DN.app(hk:cJ 6 k=some kk)(ry:Rep H O y k)(rv:Rep H O v d):∀ {ws:List NE} {ds:List (D×D)},DN H O ws ds->DN H O (ws ++ [(kk,y,v)]) (ds ++ [(k,d)])
 | [],[],_=>.cons ry rv hk .nil
 | [],_ :: _,r=>by have:=r.len; simp at this
 | _ :: _,[],r=>by have:=r.len; simp at this
 | p :: ws,q :: ds,r=>by
  obtain⟨r1,r2,r3,r4⟩:=r.un;exact .cons r1 r2 r3 (DN.app hk ry rv r4)
theorem DN.st(hk:cJ 6 k=some kk)(rv:Rep H O v d):∀ {ws:List NE} {ds:List (D×D)},DN H O ws ds->DN H O (ws.map λp=>if p.1=kk then(p.1,p.2.1,v) else p) (ds.map λq=>if dI q.1 k=true then(q.1,d) else q)
 | [],[],_=>.nil
 | [],_ :: _,r=>by have:=r.len; simp at this
 | _ :: _,[],r=>by have:=r.len; simp at this
 | p :: ws,q :: ds,r=>by
  obtain⟨r1,r2,r3,r4⟩:=r.un;have e:=Fs 6 q.1 k p.1 kk r3 hk;rw[Wf,Wf,e];by_cases z:p.1=kk
  ·rw[decide_eq_true z,if_pos z,if_pos rfl]; exact .cons r1 rv r3 (DN.st hk rv r4)
  ·rw[decide_eq_false z,if_neg z,if_neg Z5]; exact .cons r1 r2 r3 (DN.st hk rv r4)
theorem DN.put(hk:cJ 6 k=some kk)(ry:Rep H O y k)(rv:Rep H O v d)(r:DN H O ws ds):DN H O (putN ws kk y v) (jv ds k d):=by
 unfold putN jv;rw[(DN.get hk r).2];split
 ·exact r.st hk rv
 ·exact r.app hk ry rv
theorem DN.yR(hm:(ds.all λq=>h9 m q.1)=true)(r:DN H O ws ds):∀ p ∈ ws,jP H m p.1 p.2.1:=λp hp=>by
 obtain⟨i,e⟩:=Q4.mp hp;have hi:i < ds.length:=by have:=(W6.mp e).1; have:=r.len; lia
 exact vq (Jy.mp hm ds[i] (QE hi)) (r.nq i p ds[i] e (Wb hi)) (r.key i p ds[i] e (Wb hi))
end
theorem yS(r:cX c σ δ H v (.dic ds)):∃ a ep ws,v = .ref a/\H a=some (.dN ep ws)/\DN H (Av c σ δ) ws ds:=by
 rcases r with r | ⟨a,rfl,ep,ws,h1,h2⟩
 ·cases r with
  | dic h1 h2 h3 h4 h5 h6=>exact⟨_,_,_,rfl,h2,h3,h4,h5,h6⟩
 ·exact⟨a,ep,ws,rfl,h1,h2⟩
theorem Sr(h:h9 m d=true)(r:cX c σ δ H v d):Rep H (Av c σ δ) v d:=by
 rcases r with r | ⟨a,rfl,r⟩
 ·exact r
 ·cases d <;> first | exact r.elim | simp[h9] at h
theorem yT(h:gv m ds k=true):h9 m k=true/\(∃ kk,cJ 6 k=some kk)/\(ds.all λq=>h9 m q.1)=true:=by
 unfold gv at h;simp only[WE] at h;exact⟨h.1.1,QZ.mp h.1.2,h.2⟩
theorem Ss{x}(rx:cX c σ δ H x (.dic ds))(ry:cX c σ δ H y k)(h:gv m ds k=true) :
  ∃ a o,x = .ref a/\rO H a y o/\((fJ ds k=none/\o=none)\/∃ v d,fJ ds k=some d/\o=some v/\Rep H (Av c σ δ) v d):=by
 obtain⟨a,ep,ws,e,ha,dn⟩:=yS rx;obtain⟨h1,⟨kk,hk⟩,h2⟩:=yT h;exact⟨a,valN ws kk,e,⟨m,ep,ws,kk,ha,dn.yR h2,vq h1 hk (Sr h1 ry),rfl⟩,(dn.get hk).1⟩
noncomputable def Z_(neg:Bool)(x y:D):Option S:=match y with
 | .dic ds=>if gv (gQ x) ds x then some (.pure (.bl (if neg then !(fJ ds x).isSome else(fJ ds x).isSome))) else none
 | _=>none
def vt:R2:=λx y H Q=>∃ a v,x = .ref a/\rO H a y (some v)/\Q v H
noncomputable def gy(x y:D):Option S:=match x with
 | .dic ds=>if gv (gQ y) ds y then(fJ ds y).map .pure else none
 | _=>none
theorem Fu(hu:X.A.units + 64 < Qk):g9 X vt:=by
 intro value slice pins s σ H x y v u Q I rx ry h hs;obtain⟨a,w,rfl,g,q⟩:=h
 cases rx;exact tail_any (Fo I g).1 F.slot_dict_getitem.lookup (Si (v:=w) Y' I g ry λw' s' I' jF=>⟨w,H,I',jF,q⟩) hs
theorem Fv:dF vt gy:=by
 intro c σ δ H x y d e s Q k rx ry hp q
 cases d <;> first | (simp[gy] at hp; done) | skip
 rename_i ds;simp only[gy] at hp;split at hp
 ·rename_i hg;obtain⟨a,o,ea,g,r⟩:=Ss rx ry hg;rcases r with ⟨r1,rfl⟩ | ⟨v,d,r1,rfl,r2⟩
  ·rw[r1] at hp; cases hp
  ·rw[r1] at hp; cases hp
   exact⟨a,v,ea,g,q v H (.refl k) r2⟩
 ·cases hp
theorem Ok.Su{d'}(k:Ok c σ δ H)(e:δ[i]? = some (some (.own d0)))(ea:σ[i]? = some (some (.ref a)))(r:fg (upd H a o) (Av c σ δ) a d') :
  aS c σ δ H σ (δ.set i (some (.own d'))) (upd H a o):=by
 have hi:i < δ.length:=(W6.mp e).1;obtain⟨a',ea',oa,ia,nb⟩:=k.own i _ e;rw[ea] at ea'; cases ea'
 have rg:Own σ δ a:=⟨i,_,e,ea⟩
 have rh:Av c σ δ a:=.inr rg;have l6:∀ b,Own σ (δ.set i (some (.own d'))) b ↔ Own σ δ b:=λb=>by
  constructor
  ·rintro ⟨j,d,e1,e2⟩;by_cases hj:i=j
   ·subst hj;exact⟨i,_,e,e2⟩
   ·rw[W9 hj] at e1;exact⟨j,d,e1,e2⟩
  ·rintro ⟨j,d,e1,e2⟩;by_cases hj:i=j
   ·subst hj;exact⟨i,_,by rw[Wr hi],e2⟩
   ·exact⟨j,d,%[W9 hj|e1],e2⟩
 have jK:∀ b,Av c σ (δ.set i (some (.own d'))) b->Av c σ δ b:=λb z=>z.elim .inl λz=>.inr ((l6 b).mp z)
 have kp:∀ b w,H b=some w->¬ Av c σ δ b->upd H a o b=some w:=λb w h n=>%[aR λz=>n (by rw[z]; exact rh)|h]
 have ir:∀ b w,H b=some w->∃ o',upd H a o b=some o':=λb w h=>by
  by_cases hb:b=a
  ·exact⟨_,%[hb|cI]⟩
  ·exact⟨w,%[aR hb|h]⟩
 refine⟨⟨λb w h n=>?_,λb z=>?_,λb z=>?_,%[Qe|k.len],λj d h=>?_,λj d h=>?_,λj l b d d2 h1 h2 h3 h4=>?_,k.pinned⟩,λb w h n=>?_,λb z=>.inl ((l6 b).mp z),ir⟩
 ·have hb:b≠a:=λz=>by grind
  rw[aR hb];exact k.keep b w h n
 ·obtain⟨w,h⟩:=k.bd b z;exact ir b w h
 ·obtain⟨w,h⟩:=k.dZ b z;exact ir b w h
 ·have hj:i≠j:=λz=>by subst z; rw[Wr hi] at h; cases h
  rw[W9 hj] at h;obtain⟨v,h1,h2⟩:=k.slot j d h;exact⟨v,h1,(h2.keep kp).aM λb z=>.inl (jK b z)⟩
 ·by_cases hj:i=j
  ·subst hj;rw[Wr hi] at h
   cases h;exact⟨a,ea,r.aM λb z=>.inl (jK b z),ia,nb⟩
  ·rw[W9 hj] at h;obtain⟨b,h1,h2,h3,h4⟩:=k.own j d h;have hb:b≠a:=λz=>by subst z; exact hj (k.inj i j b _ d e h ea h1)
   exact⟨b,h1,(h2.keep kp λw q=>%[aR hb|q]).aM λb z=>.inl (jK b z),h3,h4⟩
 ·have f1:∃ d,δ[j]? = some (some (.own d)):=by grind
  have f2:∃ d,δ[l]? = some (some (.own d)):=by grind
  obtain⟨_,f1⟩:=f1;obtain⟨_,f2⟩:=f2;exact k.inj j l b _ _ f1 f2 h3 h4
 grind[aR]
theorem Ok.yU(k:Ok c σ δ H)(e:δ[i]? = some (some (.own (.dic ds))))(ea:σ[i]? = some (some (.ref a)))(r:DN H (Av c σ δ) ws dY) :
  aS c σ δ H σ (δ.set i (some (.own (.dic dY)))) (upd H a (.dN ep ws)) :=
 Ok.Su k e ea ⟨ep,ws,cI,r.keep λb w h n=>%[aR λz=>n (by rw[z]; exact .inr ⟨i,_,e,ea⟩)|h]⟩
def mD(δ:Dl)(i:Nat):Bool:=match δ[i]? with
 | some (some (.own (.dic _)))=>true
 | _=>false
theorem Fw(h:mD δ i=true):∃ ds,δ[i]? = some (some (.own (.dic ds))):=by
 unfold mD at h;split at h
 ·rename_i ds e; exact⟨ds,e⟩
 ·cases h
def iV(i:Nat)(fi fe:DE):DS:=λδ=>(fe δ).bind λr δ1=>if mD δ1 i then(fi δ1).bind λk δ2=>match δ2[i]? with
  | some (some (.own (.dic ds)))=>if gv (gQ k.d) ds k.d && decide (ds.length < Wa) then .ok .next (δ2.set i (some (.own (.dic (jv ds k.d r.d))))) else .stuck
  | _=>.stuck else .stuck
def Sv(td ty tv:TE):TS:=λD σ H=>tv σ H λv H1=>td σ H1 λx H2=>ty σ H2 λy H3=>∃ a,x = .ref a/\yQ H3 a y v λH4=>D.nx σ H4
theorem Sw{i}(hu:X.A.units + 8 < Qk)(ho:PE X o td)(hi:PE X i ty)(hv:PE X value tv)(hs:J8 value (some (.Subscript o i pos')) pos.line X.env=pure false) :
  PS X (.Assign [.Subscript o i pos'] value pos) (Sv td ty tv):=by
 intro pins s σ H D I h;refine wpAny_Assign_Subscript (aY (hv pins s σ H _ I h) λr s1 ⟨v,H1,I1,rv,q1⟩=>aY (ho pins s1 σ H1 _ I1 q1) λu s2 ⟨x,H2,I2,rx,q2⟩=>aY (hi pins s2 σ H2 _ I2 q2) λiv s3 ⟨y,H3,I3,ry,a,ex,g⟩=>?_) hs;subst ex;obtain rfl:u=Value.ref a:=rx;exact Sk hu I3 g ry rv λH4 s4 I4 q4=>⟨σ,H4,I4,q4⟩
theorem Sx{sp}(hu:X.A.units + 64 < Qk)(ho:PE X o (dD i))(hi:SE X c ix fi)(he:SE X c e fe)
  (hs:J8 e (some (.Subscript o ix sp)) pos.line X.env=pure false:=by rfl):SS X c (.Assign [.Subscript o ix sp] e pos) (iV i fi fe) :=
 PS.weak (Sw Y' ho hi he hs) λD σ H ⟨δ,k,q⟩=>by
  unfold iV eC at q;rw[bA] at q;refine⟨δ,k,aX q λr δ1 q1 v H1 a1 r1=>?_⟩;split at q1
  case isFalse=>exact q1.elim
  rename_i hown1;obtain⟨ds1,e1⟩:=Fw hown1;obtain⟨a,ea,_,_⟩:=a1.ok.own i _ e1;refine⟨.ref a,ea,δ1,a1.ok,?_⟩;rw[bA] at q1;refine aX q1 λkx δ2 q2 u H2 a2 r2=>?_
  split at q2
  ·rename_i ds e2;split at q2
   ·rename_i hz;simp only[WE,decide_eq_true_eq] at hz;obtain⟨hg,hz⟩:=hz;obtain⟨a',ea',oa,_⟩:=a2.ok.own i _ e2;rw[ea] at ea'; cases ea'
    obtain⟨ep,ws,ha,dn⟩:=id oa;obtain⟨h1,⟨kk,hk⟩,h2⟩:=yT hg;have ry:Rep H2 (Av c σ δ2) u kx.d:=r2.rep;have rv:Rep H2 (Av c σ δ2) v r.d:=Rep.d_ r1.rep a2;refine⟨a,rfl,gQ kx.d,ep,ws,kk,ha,dn.yR h2,vq h1 hk ry,%[dn.len|hz],λgf=>?_⟩;exact q2 σ _ (a1.trans (a2.trans (Ok.yU a2.ok e2 ea (dn.put hk ry rv))))
   ·exact q2.elim
  ·exact q2.elim
theorem Sy (hd:(d == Qn)=false) (hT:s.TypeIs (.ref d) "dict")
  (h:Q (.ref s.heap.objs.size) { s with heap:=s.heap.push { cls:=.type "dict_items",data:=.fields #[.ref d] } }):W8 (model prog w) A (call (.builtin "dict.items") [.ref d]) Q E s:=by
 refine Wz F.slot_dict_items hT F.entry_dict_items ?_ (F.args_dict_items_1 _);unfold Builtin.«dict.items» Builtin.Dict.noArgs;refine W0 (W0 (QI hT (show W8 _ _ (pure d) _ _ s from W3 ?_)));show W8 _ _ (QW d >>= _) _ _ s;unfold QW;rw[if_neg %[hd|WC]];exact W0 (W3 (W0 (WJ (W3 ⟨_,rfl,h⟩))))
theorem Sz{es}(hv:s.heap.IsItemsView v d)(ho:s.heap.get? d=some o)(iu:o.data = .dict es ep)
  (hQ:Q (.ref s.heap.objs.size) { s with heap:=s.heap.push { cls:=.type "dict_itemiterator",data:=.fields #[.none,.bool false,.ref d,.int 0 0,.int es.size 0,.int ep 0,.none,.none] } }):W8 (model prog w) A (pyIter (.ref v)) Q E s:=by
 obtain⟨ov,hov,hcv,hdv⟩:=id hv;refine JO hv.typeIs F.slot_dict_items_iter (Wz F.slot_dict_items_iter hv.typeIs F.entry_dict_items_iter ?_ (F.args_dict_items_iter_1 _));unfold Builtin.«dict_items.__iter__»;refine W0 (W3 (W0 ?_));unfold Builtin.Dict_items.dictOf;refine W0 (WM hov hdv (x:=.ref d) rfl (W3 (W0 ?_)));unfold Builtin.Dict_items.newIterator;refine W0 (Qj ho iu (W0 (QR ho iu ?_)));have fj:Q9 "dict_itemiterator" = true:=by decide
 simp only[fj,if_true];refine WJ (W3 ⟨_,rfl,"dict_itemiterator",_,⟨_,Wh _ rfl,rfl⟩,F.slot_dict_itemiterator_next.lookup,?_⟩)
  (by simp only[sizeOk,Builtin.Dict_items.ownedTupleFields,Wx,Qu,WS,Jk,QN]; lia)
 simpa[Qa,Builtin.Dict_items.ownedTupleFields] using hQ
theorem SD{es e Q}(hit:IsItemIter s.heap it d i es.size ep ok ov)
  (gz:s.heap.get? d=some od) (eQ:od.data = .dict es ep) (hx:es[i]? = some e)
  (hQ:∀ h',IsItemIterOut h' it d (i + 1) es.size ep e.key e.val s.heap.objs.size->h'.get? s.heap.objs.size=some { cls:=.type "tuple",data:=.seq #[e.key,e.val] }->h'.objs.size=s.heap.objs.size + 1 ->
   (∀ b o,b≠it->s.heap.get? b=some o->h'.get? b=some o)->Q (some (.ref s.heap.objs.size)) { s with heap:=h' }):W8 (model prog w) A (QA (.ref it)) Q E s:=by
 obtain⟨hp,g,dr,tk,os⟩:=s;have hT:Shared.TypeIs ⟨hp,g,dr,tk,os⟩ (.ref it) "dict_itemiterator":=⟨_,hit,rfl⟩
 have qaa:i < es.size:=by grind
 unfold QA;refine W0 (Jn (WF (name:=Str.ofString "__next__") hT Ja (Wz Ja hT F.entry_dict_itemiterator_next ?_ (F.args_dict_itemiterator_next_1 _))));refine W0 (W3 (W0 (W0 ?_)));first | refine W0 (J1 hT (W3 ?_)) | refine W0 (Js hT (W3 ?_))
 refine W0 (JU hit rfl ?_);have fj:Q9 "dict_itemiterator" = true:=by decide
 simp only[fj,if_true];show W8 _ _ (if (Value.ref d == Value.none)=true then _ else _) _ _ _;rw[if_neg (show ¬ ((Value.ref d == Value.none)=true) from WC)];refine W0 (W3 (W0 (Qj gz eQ ?_)));rw[if_neg Z5];refine W0 (W3 (W0 (QR gz eQ ?_)));rw[if_neg Z5];refine W3 ?_;simp only[show ¬ ((i:Int) < 0) from Y',if_false,Qr,hx];refine W0 ?_;first | refine W0 (J1 hT (W3 ?_)) | refine W0 (Js hT (W3 ?_))
 refine W0 (wpAny_isOneOf_itemiter hT ?_);show W8 _ _ (setField (.ref it) 3 (Qa ((i:Int) + 1)) >>= _) _ _ ⟨hp,g,dr,tk,os⟩;refine W0 (Q1 hit Z5 λh1 e1 s1=>?_);replace s1:Qt it hp h1:=s1;replace e1:IsItemIter h1 it d (i + 1) es.size ep ok ov:=by
  have z:((i + 1:Nat):Int)=(i:Int) + 1:=by lia
  unfold IsItemIter; rw[z]; simpa[Qa] using e1
 have yV:Shared.TypeIs ⟨h1,g,dr,tk,os⟩ (.ref it) "dict_itemiterator":=⟨_,e1,rfl⟩
 refine W0 (WL (W0 (wpAny_isOneOf_itemiter yV (W0 (wpAny_isOneOf_itemiter yV ?_)))));show W8 _ _ (Builtin.Dict_items.pairFromOwner (.ref it) 6 e.key e.val) _ _ ⟨h1,g,dr,tk,os⟩;unfold Builtin.Dict_items.pairFromOwner;refine W0 (wpAny_newTuple ?_);have e2:IsItemIter (h1.push { cls:=.type "tuple",data:=.seq #[e.key,e.val] }) it d (i + 1) es.size ep ok ov:=W7 _ e1;generalize hh2:h1.push { cls:=.type "tuple",data:=.seq #[e.key,e.val] } = h2 at e2;have z1:h1.objs.size=hp.objs.size:=s1.1;have l9:it < hp.objs.size:=Ws hit;have t2:h2.get? hp.objs.size=some { cls:=.type "tuple",data:=.seq #[e.key,e.val] }:=by rw[<- hh2,<- z1]; exact Wh _ rfl
 have z2:h2.objs.size=hp.objs.size + 1:=by rw[<- hh2,QF,z1]
 have k2:∀ b o,b≠it->hp.get? b=some o->h2.get? b=some o:=λb o hb q=>by rw[<- hh2]; exact W7 _ (s1.extBut b o hb q)
 show W8 _ _ (Builtin.Dict_items.ownedTupleIsFree (.ref it) >>= _) _ _ ⟨h2,g,dr,tk,os⟩;rw[z1];clear hh2 e1 s1 yV z1 h1;refine W0 ?_;unfold Builtin.Dict_items.ownedTupleIsFree;refine W0 (WM e2 rfl (x:=.none) rfl (W3 ?_));simp only[if_true];refine W0 (WM e2 rfl (x:=ok) rfl (W0 (WM e2 rfl (x:=ov) rfl ?_)));refine W0 (Q1 e2 Z5 λh3 e3 s3=>?_);replace s3:Qt it h2 h3:=s3;replace e3:IsItemIter h3 it d (i + 1) es.size ep e.key ov:=e3;refine W0 (Q1 e3 Z5 λh4 e4 s4=>?_);replace s4:Qt it h3 h4:=s4;replace e4:IsItemIter h4 it d (i + 1) es.size ep e.key e.val:=e4;refine W0 (Q1 e4 Z5 λh5 e5 s5=>?_);replace s5:Qt it h4 h5:=s5;replace e5:IsItemIterOut h5 it d (i + 1) es.size ep e.key e.val hp.objs.size:=e5;refine W0 (Q1 e5 Z5 λh6 e6 s6=>?_);replace s6:Qt it h5 h6:=s6;replace e6:IsItemIterOut h6 it d (i + 1) es.size ep e.key e.val hp.objs.size:=e6;have up:∀ b o,b≠it->h2.get? b=some o->h6.get? b=some o:=λb o hb q=>s6.extBut b o hb (s5.extBut b o hb (s4.extBut b o hb (s3.extBut b o hb q)))
 refine W0 (wpAny_letGo (W3 (W3 ⟨_,rfl,W3 (hQ h6 e6 (up _ _ (JQ l9) t2) ?_ λb o hb q=>up b o hb (k2 b o hb q))⟩)));show h6.objs.size=hp.objs.size + 1;rw[s6.1,s5.1,s4.1,s3.1,z2]
theorem SF{es Q}(hh:A.handled=none)(hit:IsItemIter s.heap it d i es.size ep ok ov)
  (gz:s.heap.get? d=some od) (eQ:od.data = .dict es ep) (hx:es.size<=i) (hQ:∀ h',Heap.ExtBut it s.heap h'->Q none { s with heap:=h' }):W8 (model prog w) A (QA (.ref it)) Q E s:=by
 have hT:s.TypeIs (.ref it) "dict_itemiterator":=⟨_,hit,rfl⟩
 unfold QA;refine W0 (Jn (WF (name:=Str.ofString "__next__") hT Ja (Wz Ja hT F.entry_dict_itemiterator_next ?_ (F.args_dict_itemiterator_next_1 _))));refine W0 (W3 (W0 (W0 ?_)));first | refine W0 (J1 hT (W3 ?_)) | refine W0 (Js hT (W3 ?_))
 refine W0 (JU hit rfl ?_);have fj:Q9 "dict_itemiterator" = true:=by decide
 simp only[fj,if_true];show W8 _ _ (if (Value.ref d == Value.none)=true then _ else _) _ _ s;rw[if_neg (show ¬ ((Value.ref d == Value.none)=true) from WC)];refine W0 (W3 (W0 (Qj gz eQ ?_)));rw[if_neg Z5];refine W0 (W3 (W0 (QR gz eQ ?_)));rw[if_neg Z5];refine W3 ?_;simp only[show ¬ ((i:Int) < 0) from Y',if_false,Qr,Array.getElem?_eq_none hx];refine W0 ?_;first | refine W0 (J1 hT (W3 ?_)) | refine W0 (Js hT (W3 ?_))
 show W8 _ _ (setField (.ref it) 2 .none >>= _) _ _ s;refine W0 (Jw hit rfl Z5 ?_);show W8 _ _ (newExc (.type "StopIteration") [] >>= _) _ _ _;refine W0 ?_;simp only[newExc,newTuple];refine W0 (WJ ?_ (by size_fits));refine W0 (m:=Je _ _) (wpAny_of_eq (a:=Value.none) (by first | rfl | (simp only[Je]; rfl)) ?_);refine WJ ?_ (by size_fits);simp only[raiseNew];refine W0 (wpAny_handled ?_);rw[show A.in1.handled=none from hh];refine W0 (W3 (wpAny_throw ?_));refine W0 (JC (T:="StopIteration") (b:=true) ⟨_,Wh _ rfl,rfl⟩ Ud ?_);exact W3 (hQ _ (((Qo ..).extBut.push _).push _))
def Fx(a:Addr)(ep:Nat)(aj:List NE):It :=
 ⟨λi H=>H a=some (.dN ep aj)/\i < aj.length,
  λi H v H'=>∃ p k y x,H p=none/\aj[i]? = some (k,y,x)/\H'=upd H p (.tup [y,x])/\v = .ref p,
  λi H=>H a=some (.dN ep aj)/\i=aj.length⟩
theorem dG.get(r:dG aj xs):∀ {i:Nat} {p:NE},aj[i]? = some p->∃ x,xs[i]? = some x/\RelV p.2.1 x.2.1/\RelV p.2.2 x.2.2:=by
 unfold dG at r;induction r with
 | nil=>intro i p e; simp at e
 | cons h t ih =>
  intro i p e
  cases i with
  | zero=>simp at e; subst e; exact⟨_,rfl,h.2⟩
  | succ i=>obtain⟨x,e1,e2⟩:=ih (i:=i) (~~~e); exact⟨x,~~~e1,e2⟩
theorem SH{ctx}(a it)(aj:List NE)(ep) :
  Turn P w K (.Tuple elts ctx pos) (Fx a ep aj) [it] it (λi h=>∃ ok ov,IsItemIter h it a i aj.length ep ok ov):=by
 have at_:∀ {X:Cx} {pins s σ H},X.prog=P->X.w=w->Inv X pins σ H s->H a=some (.dN ep aj)->∃ xs o es,dG aj xs/\ki w s.heap a ep xs o es/\es.size=aj.length:=by
  intro X pins s σ H hP hw I e;subst hP hw;obtain⟨_,_,xs,o,es,r,d⟩:=ju I.aC e;exact⟨xs,o,es,r,d,by rw[<- WW,d.ents,Wn]; exact(Paired.length r).symm⟩
 refine⟨Z5,?_,?_,?_,?_,?_⟩
 ·grind
 ·rintro i h h' ⟨ok,ov,q⟩ k;exact⟨ok,ov,k it Z5 _ q⟩
 ·intro X hP hw hK hc i pins s σ H E I hf ⟨ok,ov,st⟩ ⟨hg,hi⟩;obtain⟨xs,o,es,r,d,hz⟩:=at_ hP hw I hg;subst hP hw hK;have hx:aj[i]? = some (aj[i].1,aj[i].2.1,aj[i].2.2):=#v[hi]
  obtain⟨x,hu,ry,rv⟩:=r.get hx;have yW:es[i]? = some (ent X.w x):=by rw[<- QJ,d.ents,Wj,hu]; rfl
  have l9:it < s.heap.objs.size:=Ws st;rw[<- hz] at st;refine SD st d.get d.data yW λh' hit hT hsz kp=>⟨_,rfl,wpAny_letOwnedTupleGo_items hit λh2 SJ sb=>?_⟩
  have nz:s.heap.objs.size≠it:=JQ l9;have bu:∀ b ∈ [it],b < s.heap.objs.size:=λb hb=>by
   have e:b=it:= ~~~hb
   subst e;exact l9
  have I2:Inv X pins σ (upd H s.heap.objs.size (.tup [aj[i].2.1,aj[i].2.2])) { s with heap:=h2,toks:=s.toks } :=
   Inv.Ep (t':=s.toks) [it] I hf bu ry rv ((sb.2 _ nz).trans hT) λb o hb e=>by
    have g:b≠it:=λz=>hb #v[z]
    exact(sb.2 b g).trans (kp b o g e)
  refine⟨.ref s.heap.objs.size,_,I2,rfl,⟨s.heap.objs.size,_,_,_,I.aC.fresh (Wi _),hx,rfl,rfl⟩,⟨_,_,by rw[<- hz]; exact SJ⟩,λb hb=>?_⟩;have e:b=it:= ~~~hb
  subst e;rw[aR (Ne.symm nz)];exact(hf _ hb).1
 ·intro X hP hw hK hc i pins s σ H E I hf ⟨ok,ov,st⟩ ⟨hg,hi⟩;obtain⟨xs,o,es,r,d,hz⟩:=at_ hP hw I hg;subst hP hw hK;rw[<- hz] at st;refine SF (I.ok.hd hc) st d.get d.data Y' λh' eb=>⟨rfl,Inv.pG (t':=s.toks) [it] I (λb o hb e=>eb b o (by grind) e) hf⟩
 ·intro A i s Q E ⟨ok,ov,st⟩ h;exact RI st h
section
variable {o:Expr}
def SK(td:TE):TI:=λσ H R=>td σ H λv H1=>∃ a ep aj,v = .ref a/\H1 a=some (.dN ep aj)/\R (Fx a ep aj) H1
theorem SM (ho:PE X o td) (hb:J9 o "items" X.env (eval o X.env)=eval o X.env:=by rfl) (hl:(apos.endLine == bI.line)=true:=by rfl) :
  PI X (.Tuple elts ctx tp) (.Call (.Attribute o "items" apos) [] [] bI) (SK td):=by
 intro pins s σ H R I h;refine wpAny_Call_method (T:="dict") (id:="dict.items") hb rfl hl F.plainAttrs_dict F.slot_dict_items F.type_dict_items (aY (ho pins s σ H _ I h) λu s1 ⟨x,H1,I1,rx,a,ep,aj,ex,ea,q⟩=>?_);subst ex;obtain rfl:u=Value.ref a:=rx;obtain⟨z,hS,xs,ob,es,r,d⟩:=ju I1.aC ea;have hz:es.size=aj.length:=by rw[<- WW,d.ents,Wn]; exact(Paired.length r).symm
 refine⟨d.typeIs,d.noDict,?_⟩;refine Calls.callWith_builtin rfl (PySem.evalArgs_none (Sy hS d.typeIs ?_));have yX:∀ b u,s1.heap.get? b=some u->(s1.heap.push { cls:=.type "dict_items",data:=.fields #[.ref a] }).get? b=some u:=λb u e=>W7 _ e
 refine Sz (d:=a) ⟨_,Wh _ rfl,rfl,rfl⟩ (yX _ _ d.get) d.data ?_;generalize hh1:s1.heap.push { cls:=.type "dict_items",data:=.fields #[.ref a] } = h1;have up1:∀ b u,s1.heap.get? b=some u->h1.get? b=some u:=λb u e=>by rw[<- hh1]; exact W7 _ e
 have rP:s1.heap.objs.size<=h1.objs.size:=by rw[<- hh1,QF]; exact Ul _
 generalize hh2:h1.push { cls:=.type "dict_itemiterator",data:=.fields #[.none,.bool false,.ref a,.int 0 0,.int es.size 0,.int ep 0,.none,.none] } = h2;have mE:∀ b u,s1.heap.get? b=some u->h2.get? b=some u:=λb u e=>by rw[<- hh2]; exact W7 _ (up1 b u e)
 have hit:IsItemIter h2 h1.objs.size a 0 aj.length ep .none .none:=by rw[<- hz,<- hh2]; exact Wh _ rfl
 have I2:Inv X pins σ H1 { s1 with heap:=h2,toks:=s1.toks }:=I1.kept (t':=s1.toks) mE;refine⟨h1.objs.size,[h1.objs.size],_,_,_,rfl,I2,SH a h1.objs.size aj ep,⟨_,_,hit⟩,λb hb=>?_,q⟩;have e:b=h1.objs.size:= ~~~hb
 subst e;exact I1.jD rP (I1.aC.fresh rP)
end
theorem SN (h:Heap) (hb:Qn < h.objs.size):cp P w H (h.push { cls:=.type "dict",data:=.dict #[] }) h.objs.size (.dN 0 []) :=
 ⟨Qq _,beq_eq_false_iff_ne.mpr (Ne.symm (WX hb)),_,#[],Wh _ rfl,⟨rfl,rfl,rfl⟩,rfl,.nil,List.nodup_nil⟩
def SQ:TE:=λ_ H Q=>∀ p,H p=none->Q (.ref p) (upd H p (.dN 0 []))
theorem SR:PE X (.Dict [] [] pos) SQ:=by
 intro pins s σ H Q I h;exact wpAny_Dict_empty ⟨.ref s.heap.objs.size,_,I.laid (a:=s.heap.objs.size) (o:=.dN 0 []) (t':=s.toks) (λ_ _ q=>W7 _ q) (Wi _) (SN s.heap I.big),rfl,h _ (I.aC.fresh (Wi _))⟩
theorem bD.SV(k:Ok c σ δ H)(hp:H p=none)(r:DN H (Av c σ δ) ws ds):bD c σ δ H (upd H p (.dN ep ws)) (.ref p) (.own (.dic ds)):=by
 refine⟨p,rfl,⟨ep,ws,cI,?_⟩,λz=>k.ja hp (.inl z),k.nr hp,k.plus hp _,hp⟩;exact(r.aM λb z=>by
  rcases z with (z | z) | z
  ·exact .inl (.inl z)
  ·exact .inr %[z|hp]
  ·exact .inl (.inr z)).keep λb w e _=>%[aR (fA e hp)|e]
def gU:DE:=λδ=>.ok (.own (.dic [])) δ
theorem Fy:SE X c (.Dict [] [] pos) gU:=PE.weak SR λσ H Q ⟨δ,k,q⟩=>λp hp=>q _ _ (.alloc k hp _) (bD.SV k hp .nil)
section
variable {k v o f:Expr}{tk:TE}
def Fz(H:Hp)(a:Addr):Prop:=∃ ep aj,H a=some (.dN ep aj)
theorem SY (I:Inv X pins σ H s) (d:Fz H a):s.TypeIs (.ref a) "dict"/\(∀ b,Value.ref a = .ref b->∃ ob,s.heap.get? b=some ob/\ob.dict=none):=by
 obtain⟨ep,aj,e⟩:=d;obtain⟨_,_,xs,ob,es,_,d⟩:=ju I.aC e;exact⟨d.typeIs,d.noDict⟩
end
section
variable {aj:List NE}
theorem S3 (I:Inv X pins σ H s) (e:H a=some (.dN ep aj)) (h:∀ t s',Inv X pins σ H s'->Q (.int aj.length t) s'):W8 (model X.prog X.w) A (call (.builtin "len") [.ref a]) Q E s:=by
 obtain⟨z,hS,xs,o,es,r,d⟩:=ju I.aC e;have hz:es.size=aj.length:=by rw[<- WW,d.ents,Wn]; exact(Paired.length r).symm
 refine Calls.call_function_entry kind_len plain_len entry_len (args_len1 _) ?_;unfold Builtin.«len»;refine W0 (m:=oneArg "len" _) (W3 ?_);refine W0 (m:=callSpecial? (.ref a) (Str.ofString "__len__")) (WF (name:=Str.ofString "__len__") d.typeIs F.slot_dict_len
  (Wz F.slot_dict_len d.typeIs F.entry_dict_len ?_ (F.args_dict_len_1 _)))
 show W8 _ _ (dictSize a >>= _) _ _ s;unfold dictSize;refine W0 (W0 (Qj d.get d.data (W3 ?_)));show W8 _ _ (Builtin.Dict.pendingCount a >>= _) _ _ s;refine W0 (wpAny_pendingCount_other hS ?_);refine wpAny_ret_mkInt ?_;show W8 _ _ _ _ _ { s with toks:=s.toks + 1 };rw[hz];refine W0 (WL (W3 ?_));refine W0 (wpAny_letGo ?_);rw[QN] at z;show W8 _ _ (if ((aj.length:Nat):Int) < 0 then _ else _) _ _ _;rw[if_neg Y'];show W8 _ _ (if ((aj.length:Nat):Int) ≥ 2 ^ 63 then _ else _) _ _ _;rw[if_neg Y'];exact W0 (wpAny_mkInt (W3 ⟨_,rfl,h _ _ (I.tok _)⟩))
theorem S4:eO X (.builtin "len") (λxs H Q=>∃ a ep aj,xs=[V.ref a]/\H a=some (.dN ep aj)/\Q (.int aj.length) H):=by
 intro pins s σ H xs us Q I r h;obtain⟨a,ep,aj,rfl,ha,q⟩:=h;obtain⟨u,rfl,ru⟩:=g7 r
 cases ru;exact S3 I ha λt s' I'=>⟨.int aj.length,H,I',⟨t,rfl⟩,q⟩
end
section
variable {y v:V}{r:Value}
def FA(H:Hp)(a:Addr)(y v:V)(R:V->Hp->Prop):Prop:=∃ m ep aj k,H a=some (.dN ep aj)/\(∀ p ∈ aj,jP H m p.1 p.2.1)/\jP H m k y/\aj.length < Wa /\
 (∀ x,valN aj k=some x->R x H)/\(valN aj k=none->∀ gf,R v (upd H a (.dN gf (putN aj k y v))))
theorem S5{R}(hu:A.units + 8 < Qk)(I:Inv X pins σ H s)(g:FA H a y v R)(ry:RelV y u)(rv:RelV v r)(h:∀ x H' w' s',R x H'->Inv X pins σ H' s'->RelV x w'->Q w' s') :
  W8 (model X.prog X.w) A (call (.builtin "dict.setdefault") [.ref a,u,r]) Q E s:=by
 obtain⟨m,ep,aj,k,e,hk,ky,hz,h1,h2⟩:=g;obtain⟨z,hS,xs,o,es,rx,d⟩:=ju I.aC e;have hl:xs.length<=Wa:=by rw[<- Paired.length rx]; exact z
 have hsz:es.size=xs.length:=by rw[<- WW,d.ents,Wn]
 have rk:=(rx.val k).1;have tU:=ky.key I.aC ry;refine Wz PySem.F.slot_dict_setdefault d.typeIs PySem.F.entry_dict_setdefault ?_ (PySem.F.args_dict_setdefault_3 _ _ _);unfold Builtin.«dict.setdefault»;refine W0 ?_;unfold Builtin.Dict.keyAndDefault;refine W0 (QI d.typeIs ?_);show W8 _ _ (pure (a,u,some r)) _ _ s;refine W3 ?_;show W8 _ _ (if (a == Qn)=true then _ else(dictSetDefault a u r >>= _)) _ _ s;rw[if_neg %[hS|WC]];refine W0 ?_;unfold dictSetDefault;try with_reducible refine WL ?_
 refine W0 (yN (show A.units + 1 + 6 < Qk by lia) tU ?_);refine W0 (yO (s:={ s with toks:=s.toks + gP k }) (show A.units + 1 + 6 < Qk by lia) tU d.get d.data d.ents (yP I.aC rx hk) d.jQ ?_ ?_)
 ·intro fV;have l:valN aj k=none:=by
   rw[(vn fV).1] at rk
   cases l:valN aj k with
   | none=>rfl
   | some x=>rw[l] at rk; exact rk.elim
  refine W0 (J0 (W0 (wpAny_updateDictKeys (hz:=by lia) (s:={ s with toks:=s.toks + gP k }) d.get d.data (W3 (W3 ⟨_,rfl,?_⟩)))));have q1:=QH (Obj.mapDictKeys (λes=>es.push ⟨fP X.w k,u,r⟩)) d.get (Obj.isFreed_of_dict (Obj.data_mapDictKeys d.data _));have i7:(putN aj k y v).length<=Wa:=by have:=Fp aj k y v; lia
  refine h v _ _ _ (h2 l (ep + 1)) ?_ rv;refine m7 (I.tok _) %[e|True.intro] (Qo ..) ⟨_,q1⟩ (Fm i7 hS (rx.put ry rv) ⟨q1,d.ex.mapDictKeys _,Obj.data_mapDictKeys d.data _,?_,Fg d.jQ⟩);unfold stN;rw[if_neg (by rw[(vn fV).2]; simp)];simp[d.ents,ent]
 ·intro j p hj;rw[(vo d.jQ hj).1] at rk
  cases l:valN aj k with
  | none=>rw[l] at rk; exact rk.elim
  | some x =>
   rw[l] at rk;refine W0 (Qj (s:={ s with toks:=s.toks + gP k }) d.get d.data ?_);rw[<- QJ,d.ents,Wj,hj];exact W0 (J0 (W3 (W3 ⟨_,rfl,h x H _ _ (h1 x l) (I.tok _) rk⟩)))
end
section
variable {o f:Expr}
def yY(td ty tx:TE):TE:=λσ H Q=>td σ H λx H1=>∃ a,x = .ref a/\Fz H1 a/\ty σ H1 λy H2=>tx σ H2 λz H3=>FA H3 a y z Q
theorem FC (hu:X.A.units + 8 < Qk) (ho:PE X o td) (he:PE X e ty) (hf:PE X f tx) (m:M2 X o "setdefault" apos e f bI):PE X (.Call (.Attribute o "setdefault" apos) [e,f] [] bI) (yY td ty tx):=by
 intro pins s σ H Q I h;refine wpAny_Call_method m.base m.M0 m.line PySem.F.plainAttrs_dict PySem.F.slot_dict_setdefault PySem.F.type_dict_setdefault (aY (ho pins s σ H _ I h) λu s1 ⟨x,H1,I1,rx,a,ex,d,q1⟩=>?_);subst ex;obtain rfl:u=Value.ref a:=rx;obtain⟨t1,t2⟩:=SY I1 d;refine⟨t1,t2,?_⟩;rw[m.trees];refine Calls.callWith_builtin rfl (Calls.evalArgs_plain (Calls.spliced_cons (aY (he pins s1 σ H1 _ I1 q1) λiv s2 ⟨y,H2,I2,ry,q2⟩ =>
  Calls.spliced_cons (aY (hf pins s2 σ H2 _ I2 q2) λfv s3 ⟨z,H3,I3,rz,g⟩=>Calls.spliced_nil ?_))))
 exact S5 hu I3 g ry rz λx H4 w' s4 q4 I4 r4=>⟨x,H4,I4,r4,q4⟩
end
section
variable {o f:Expr}{ff:DE}
noncomputable def h_:D->Option S
 | .dic ds=>some (.pure (.int ds.length))
 | _=>none
theorem S6:j9 (λv H Q=>∃ a ep aj,v=V.ref a/\H a=some (.dN ep aj)/\Q (.int aj.length) H) h_:=by
 intro c σ δ H x d s Q k rx hp q
 cases d <;> first | (simp[h_] at hp; done) | skip
 rename_i ds
 cases hp;obtain⟨a,ep,ws,e,ha,dn⟩:=yS rx;exact⟨a,ep,ws,e,ha,%[dn.len|q _ H (.refl k) (.int _)]⟩
theorem S7 (hg:Gl X "len") (hm:X.mg "len" = none) (he:SB X c e fb) (hs:Wd [e] X.env=(false,eval e X.env) :: Wd [] X.env:=by rfl):SE X c (.Call (.Name "len" pp) [e] [] pos) (aA h_ fb) :=
 oZ S4 (λv H Q h=>by
  obtain⟨a,ep,aj,e,h⟩:=h;exact⟨a,ep,aj,by rw[e],h⟩) S6 hg hm PySem.boot_len he Z' Z' hs
def n4(i:Nat)(fe ff:DE):DE:=λδ=>if mD δ i then(fe δ).bind λk δ1=>(ff δ1).bind λz δ2=>match δ2[i]?,z with
  | some (some (.own (.dic ds))),.pure zd=>if gv (gQ k.d) ds k.d && decide (ds.length < Wa) then(match fJ ds k.d with
   | some d=>.ok (.pure d) δ2
   | none=>.ok (.pure zd) (δ2.set i (some (.own (.dic (jv ds k.d zd)))))) else .stuck
  | _,_=>.stuck else .stuck
theorem S8 (hu:X.A.units + 64 < Qk) (ho:PE X o (dD i)) (he:SE X c e fe) (hx:SE X c f ff) (m:M2 X o "setdefault" apos e f bI):SE X c (.Call (.Attribute o "setdefault" apos) [e,f] [] bI) (n4 i fe ff) :=
 PE.weak (FC Y' ho he hx m) λσ H Q ⟨δ,k,q⟩=>by
  unfold n4 at q;split at q
  case isFalse=>exact q.elim
  rename_i hd;obtain⟨ds0,e0⟩:=Fw hd;obtain⟨a,ea,oa0,_⟩:=k.own i _ e0;obtain⟨ep0,ws0,ha0,_⟩:=id oa0;rw[bA] at q;refine⟨.ref a,ea,a,rfl,⟨_,_,ha0⟩,δ,k,aX q λkx δ1 q1 y H1 a1 r1=>⟨δ1,a1.ok,?_⟩⟩;rw[bA] at q1;refine aX q1 λzx δ2 q2 z H2 a2 r2=>?_
  split at q2
  ·rename_i ds zd e2;split at q2
   ·rename_i hz;simp only[WE,decide_eq_true_eq] at hz;obtain⟨hg,hz⟩:=hz;obtain⟨a',ea',oa,_⟩:=a2.ok.own i _ e2;rw[ea] at ea'; cases ea'
    obtain⟨ep,ws,ha,dn⟩:=id oa;obtain⟨h1,⟨kk,hk⟩,h2⟩:=yT hg;have ry:Rep H2 (Av c σ δ2) y kx.d:=Rep.d_ r1.rep a2;have rz:Rep H2 (Av c σ δ2) z zd:=r2.rep;refine⟨gQ kx.d,ep,ws,kk,ha,dn.yR h2,vq h1 hk ry,%[dn.len|hz],λx hx=>?_,λhx gf=>?_⟩
    ·rcases (dn.get hk).1 with ⟨_,z2⟩ | ⟨v,d,z1,z2,z3⟩
     ·rw[z2] at hx; cases hx
     ·rw[z2] at hx; cases hx
      rw[z1] at q2;exact q2 _ H2 (a1.trans a2) z3
    ·rcases (dn.get hk).1 with ⟨z1,_⟩ | ⟨v,d,_,z2,_⟩
     ·rw[z1] at q2;have a3:=Ok.yU (ep:=gf) a2.ok e2 ea (dn.put hk ry rz);exact q2 _ _ (a1.trans (a2.trans a3)) (Rep.d_ rz a3)
     ·rw[z2] at hx; cases hx
   ·exact q2.elim
  ·exact q2.elim
end
theorem S9{es} (hd:(d == Qn)=false) (hT:s.TypeIs (.ref d) "dict") (ho:s.heap.get? d=some o) (iu:o.data = .dict es ep)
  (hQ:Q (.ref s.heap.objs.size) { s with heap:=s.heap.push { cls:=.type "dict_keyiterator",data:=.fields #[.ref d,.int 0 0,.int es.size 0,.int ep 0] } }):W8 (model prog w) A (pyIter (.ref d)) Q E s:=by
 refine JO hT F.slot_dict_iter (Wz F.slot_dict_iter hT F.entry_dict_iter ?_ (F.args_dict_iter_1 _));unfold Builtin.«dict.__iter__»;refine W0 ?_;unfold Builtin.Dict.dictSlotNone;refine W0 (QI hT ?_);show W8 _ _ (pure (Value.ref d)) _ _ s;refine W3 ?_;show W8 _ _ (QW d >>= _) _ _ s;unfold QW;rw[if_neg %[hd|WC]];refine W0 (W3 (W0 (Qj ho iu (W0 (QR ho iu ?_)))));refine W0 (WJ (W3 ⟨_,rfl,"dict_keyiterator",_,⟨_,Wh _ rfl,rfl⟩,F.slot_dict_keyiterator_next.lookup,?_⟩));simpa[Qa] using hQ
theorem nextK{es e Q}(hit:s.heap.IsKeyIter it d i es.size ep)(gz:s.heap.get? d=some od)(eQ:od.data = .dict es ep)(hx:es[i]? = some e)
  (hQ:∀ h',h'.IsKeyIter it d (i + 1) es.size ep->Qt it s.heap h'->Q (some e.key) { s with heap:=h' }):W8 (model prog w) A (QA (.ref it)) Q E s:=by
 obtain⟨o,ho,hc,hd⟩:=id hit;unfold QA;refine W0 (Jn (WF (name:=Str.ofString "__next__") hit.typeIs Jf
  (Wz Jf hit.typeIs F.entry_dict_keyiterator_next ?_ (F.args_dict_keyiterator_next_1 _))))
 refine W0 (W3 (W0 (W0 ?_)));first | refine W0 (Jb hit.typeIs (W3 ?_)) | refine W0 (JD hit.typeIs (W3 ?_))
 refine W0 (JU ho hd ?_);have fj:Q9 "dict_keyiterator" = false:=by decide
 simp only[fj,Qd,if_false];show W8 _ _ (if (Value.ref d == Value.none)=true then _ else _) _ _ s;rw[if_neg (show ¬ ((Value.ref d == Value.none)=true) from WC)];refine W0 (W3 (W0 (Qj gz eQ ?_)));rw[if_neg Z5];refine W0 (W3 (W0 (QR gz eQ ?_)));rw[if_neg Z5];refine W3 ?_;simp only[show ¬ ((i:Int) < 0) from Y',if_false,Qr,hx];refine W0 ?_;first | refine W0 (Jb hit.typeIs (W3 ?_)) | refine W0 (JD hit.typeIs (W3 ?_))
 refine W0 (wpAny_isOneOf_keyiter hit.typeIs ?_);show W8 _ _ (setField (.ref it) 1 (Qa ((i:Int) + 1)) >>= _) _ _ s;refine W0 (Jw ho hd Z5 ?_);have ka:(s.heap.update it (Obj.mapFields (·.setIfInBounds 1 (Qa ((i:Int) + 1))))).IsKeyIter it d (i + 1) es.size ep :=
  ⟨_,QH _ ho (Obj.isFreed_of_fields (Obj.data_mapFields hd _)),(Obj.cls_mapFields ..).trans hc,by rw[Obj.data_mapFields hd]; simp[Qa]⟩
 refine W0 (WL ?_);refine W0 (wpAny_isOneOf_keyiter (s:={ s with heap:=s.heap.update it (Obj.mapFields (·.setIfInBounds 1 (Qa ((i:Int) + 1)))) }) ka.typeIs ?_);show W8 _ _ (pure e.key) _ _ _;exact W3 (W3 ⟨_,rfl,W3 (hQ _ ka (Qo ..))⟩)
theorem S_{es Q}(hh:A.handled=none)(hit:s.heap.IsKeyIter it d i es.size ep)(gz:s.heap.get? d=some od)(eQ:od.data = .dict es ep)(hx:es.size<=i)
  (hQ:∀ h',Heap.ExtBut it s.heap h'->Q none { s with heap:=h' }):W8 (model prog w) A (QA (.ref it)) Q E s:=by
 obtain⟨o,ho,hc,hd⟩:=id hit;unfold QA;refine W0 (Jn (WF (name:=Str.ofString "__next__") hit.typeIs Jf
  (Wz Jf hit.typeIs F.entry_dict_keyiterator_next ?_ (F.args_dict_keyiterator_next_1 _))))
 refine W0 (W3 (W0 (W0 ?_)));first | refine W0 (Jb hit.typeIs (W3 ?_)) | refine W0 (JD hit.typeIs (W3 ?_))
 refine W0 (JU ho hd ?_);have fj:Q9 "dict_keyiterator" = false:=by decide
 simp only[fj,Qd,if_false];show W8 _ _ (if (Value.ref d == Value.none)=true then _ else _) _ _ s;rw[if_neg (show ¬ ((Value.ref d == Value.none)=true) from WC)];refine W0 (W3 (W0 (Qj gz eQ ?_)));rw[if_neg Z5];refine W0 (W3 (W0 (QR gz eQ ?_)));rw[if_neg Z5];refine W3 ?_;simp only[show ¬ ((i:Int) < 0) from Y',if_false,Qr,Array.getElem?_eq_none hx];refine W0 ?_;first | refine W0 (Jb hit.typeIs (W3 ?_)) | refine W0 (JD hit.typeIs (W3 ?_))
 show W8 _ _ (setField (.ref it) 0 .none >>= _) _ _ s;refine W0 (Jw ho hd Z5 ?_);show W8 _ _ (newExc (.type "StopIteration") [] >>= _) _ _ _;refine W0 ?_;simp only[newExc,newTuple];refine W0 (WJ ?_ (by size_fits));refine W0 (m:=Je _ _) (wpAny_of_eq (a:=Value.none) (by first | rfl | (simp only[Je]; rfl)) ?_);refine WJ ?_ (by size_fits);simp only[raiseNew];refine W0 (wpAny_handled ?_);rw[show A.in1.handled=none from hh];refine W0 (W3 (wpAny_throw ?_));refine W0 (JC (T:="StopIteration") (b:=true) ⟨_,Wh _ rfl,rfl⟩ Ud ?_);exact W3 (hQ _ (((Qo ..).extBut.push _).push _))
theorem Ta{es}(lo:(d == Qn)=false) :
  PySem.W.KdlSrc prog w "dict" d d es.size (λi v=>∃ e,es[i]? = some e/\e.key=v) (λh=>∃ o,ki w h d ep xs o es) where
 type:=λ_ ⟨_,hm⟩=>hm.typeIs
 there:=λ_ ⟨_,hm⟩=>⟨Ws hm.get,Ws hm.get⟩
 keep:=λ_ _ ⟨o,hm⟩ hk=>⟨o,hk d (.inl rfl) o hm.get,hm.ex,hm.data,hm.ents,hm.jQ⟩
 notList:=by decide
 notTuple:=by decide
 hint:=λ_ _ _ _ ⟨_,hm⟩ hq=>PySem.W.kdl_hint_dict hm.typeIs hq
 iter:=λA s hh ⟨o,hm⟩=>⟨_,(λi h=>h.IsKeyIter s.heap.objs.size d i es.size ep/\∃ o,ki w h d ep xs o es),(λ_ _ hq=>S9 lo hm.typeIs hm.get hm.data hq),{
   sub:=λb hb=>by simp at hb; simp[hb]
   frame:=λ_ _ _ st hk=>⟨st.1.at λo e=>hk _ Z5 o e,let ⟨o,m⟩:=st.2; ⟨o,hk d Z5 o m.get,m.ex,m.data,m.ents,m.jQ⟩⟩
   item:=λi s1 Q E hi st hQ=>by
    obtain⟨st1,o1,m1⟩:=st;have hx:es[i]? = some es[i]:=#v[hi]
    have cw:d≠s.heap.objs.size:=WX (Ws hm.get);exact nextK st1 m1.get m1.data hx λh' ka jG=>hQ _ h' s1.toks ⟨_,hx,rfl⟩ ⟨ka,o1,jG.extBut d o1 cw m1.get,m1.ex,m1.data,m1.ents,m1.jQ⟩ λb o hb e=>jG.extBut b o (λh=>hb #v[h]) e
   done:=λs1 Q E st hQ=>by
    obtain⟨st1,o1,m1⟩:=st;exact S_ hh st1 m1.get m1.data (Wi _) λh' uh=>hQ h' s1.toks λb o hb e=>uh b o (λh=>hb #v[h]) e
   self:=λ_ _ _ _ st hQ=>wpAny_pyIter_keyiter st.1 hQ },⟨⟨_,Wh _ rfl,rfl,rfl⟩,o,W7 _ hm.get,hm.ex,hm.data,hm.ents,hm.jQ⟩⟩
theorem FE{w:Wt}:∀ {aj:List NE} {xs:List (NK×Value×Value)} {us:List Value},dG aj xs->us.length=xs.length->(∀ (j:Nat) v,us[j]? = some v->∃ x,xs[j]? = some x/\x.2.1=v)->Vals (aj.map (·.2.1)) us
 | [],_,[],.nil,_,_=>.nil
 | [],_,_ :: _,.nil,h,_=>by simp at h
 | p :: r,_,[],.cons _ _,h,_=>by simp at h
 | p :: r,q :: vs,u :: us,.cons h1 h2,hl,hk=>by
  refine .cons ?_ (FE (w:=w) h2 (~~~hl) λj v e=>by simpa using hk (j + 1) v (~~~e));obtain⟨x,e,z⟩:=hk 0 u rfl;simp at e;subst e;rw[<- z];exact h1.2.1
theorem Tb  (hc:X.calm=true):eO X (.type "list") (λxs H Q=>∃ a ep aj,xs=[V.ref a]/\H a=some (.dN ep aj)/\∀ l,H l=none->Q (.ref l) (upd H l (.lst (aj.map (·.2.1))))):=by
 intro pins s σ H xs us Q I r h;obtain⟨a,ep,aj,rfl,ha,q⟩:=h;obtain⟨u,rfl,ru⟩:=g7 r
 cases ru;obtain⟨z,lo,ys,o,es,rx,d⟩:=ju I.aC ha;have hl:aj.length=ys.length:=Paired.length rx;have hz:es.size=ys.length:=by rw[<- WW,d.ents,Wn]
 refine PySem.W.kdl_call (Ta (prog:=X.prog) (w:=X.w) (d:=a) (ep:=ep) (xs:=ys) (es:=es) lo) (I.ok.hd hc) ⟨o,d⟩ Y' λh' tk acc c' kp e FG=>?_
 have hv:Vals (aj.map (·.2.1)) acc.toList:=FE (w:=X.w) rx (by rw[WW,FG.1,hz]) λj v ej=>by
  obtain⟨en,e1,e2⟩:=FG.2 j v (~~~ej);rw[<- QJ,d.ents,Wj] at e1
  cases hy:ys[j]? with
  | none=>rw[hy] at e1; cases e1
  | some x =>
   rw[hy] at e1
   cases e1;exact⟨x,rfl,e2⟩
 exact⟨.ref s.heap.objs.size,_,I.laid (t':=tk) kp (Wi _) (show cp X.prog X.w _ h' _ (.lst _) from⟨~~~z,acc.toList,c',hv,~~~e⟩),rfl,q _ (I.aC.fresh (Wi _))⟩
noncomputable def n5:D->Option S
 | .dic ds=>some (.own (.lst (ds.map (·.1))))
 | _=>none
theorem DN.FH:∀ {ws:List NE} {ds:List (D×D)},DN H O ws ds->aK H O (ws.map (·.2.1)) (ds.map (·.1))
 | [],[],_=>.nil
 | [],_ :: _,r=>by have:=r.len; simp at this
 | _ :: _,[],r=>by have:=r.len; simp at this
 | p :: ws,q :: ds,r=>by
  obtain⟨r1,_,_,r4⟩:=r.un;exact .cons r1 (DN.FH r4)
section
variable {p:Pos}
theorem Tc (hc:X.calm=true) (hg:Gl X "list") (hm:X.mg "list" = none) (he:SB X c e fb) (hs:nQ e=true:=by rfl):SE X c (.Call (.Name "list" pp) [e] [] pos) (aA n5 fb) :=
 uG (r:=λv H Q=>∃ a ep aj,v=V.ref a/\H a=some (.dN ep aj)/\∀ l,H l=none->Q (.ref l) (upd H l (.lst (aj.map (·.2.1))))) (Tb hc) (λv H Q ⟨a,ep,aj,e,h⟩=>⟨a,ep,aj,by rw[e],h⟩)
  (λc σ δ H x d s Q k rx hp q=>by
   cases d with
   | dic ds =>
    cases hp;obtain⟨a,ep,ws,e,ha,dn⟩:=yS rx;exact⟨a,ep,ws,e,ha,λl hl=>q _ _ (.alloc k hl _) (bD.oQ k dn.FH hl)⟩
   | _=>simp[n5] at hp) hg hm PyProof.Rows.boot_list he Z' Z' (pC hs)
end
theorem Td (hd:(d == Qn)=false) (hT:s.TypeIs (.ref d) "dict")
  (h:Q (.ref s.heap.objs.size) { s with heap:=s.heap.push { cls:=.type "dict_values",data:=.fields #[.ref d] } }):W8 (model prog w) A (call (.builtin "dict.values") [.ref d]) Q E s:=by
 refine Wz F.slot_dict_values hT F.entry_dict_values ?_ (F.args_dict_values_1 _);refine W0 ?_;unfold Builtin.Dict.noArgs;refine W0 (QI hT (show W8 _ _ (pure d) _ _ s from W3 ?_));show W8 _ _ (QW d >>= _) _ _ s;unfold QW;rw[if_neg %[hd|WC]];exact W0 (W3 (W0 (WJ (W3 ⟨_,rfl,h⟩))))
theorem Te{es}(hv:s.heap.IsValuesView v d)(ho:s.heap.get? d=some o)(iu:o.data = .dict es ep)
  (hQ:Q (.ref s.heap.objs.size) { s with heap:=s.heap.push { cls:=.type "dict_valueiterator",data:=.fields #[.ref d,.int 0 0,.int es.size 0,.int ep 0] } }):W8 (model prog w) A (pyIter (.ref v)) Q E s:=by
 obtain⟨ov,hov,hcv,hdv⟩:=id hv;refine JO hv.typeIs F.slot_dict_values_iter (Wz F.slot_dict_values_iter hv.typeIs F.entry_dict_values_iter ?_ (F.args_dict_values_iter_1 _));unfold Builtin.«dict_values.__iter__»;refine W0 (W3 (W0 ?_));unfold Builtin.Dict_items.dictOf;refine W0 (WM hov hdv (x:=.ref d) rfl (W3 (W0 ?_)));unfold Builtin.Dict_items.newIterator;refine W0 (Qj ho iu (W0 (QR ho iu ?_)));have fj:Q9 "dict_valueiterator" = false:=by decide
 simp only[fj,Qd,if_false];refine WJ (W3 ⟨_,rfl,"dict_valueiterator",_,⟨_,Wh _ rfl,rfl⟩,F.slot_dict_valueiterator_next.lookup,?_⟩);simpa[Qa] using hQ
theorem Tf{es e Q}(hit:s.heap.IsValIter it d i es.size ep)(gz:s.heap.get? d=some od)(eQ:od.data = .dict es ep)(hx:es[i]? = some e)
  (hQ:∀ h',h'.IsValIter it d (i + 1) es.size ep->Qt it s.heap h'->Q (some e.val) { s with heap:=h' }):W8 (model prog w) A (QA (.ref it)) Q E s:=by
 obtain⟨o,ho,hc,hd⟩:=id hit;unfold QA;refine W0 (Jn (WF (name:=Str.ofString "__next__") hit.typeIs J3
  (Wz J3 hit.typeIs F.entry_dict_valueiterator_next ?_ (F.args_dict_valueiterator_next_1 _))))
 refine W0 (W3 (W0 (W0 ?_)));first | refine W0 (Jc hit.typeIs (W3 ?_)) | refine W0 (JE hit.typeIs (W3 ?_))
 refine W0 (JU ho hd ?_);have fj:Q9 "dict_valueiterator" = false:=by decide
 simp only[fj,Qd,if_false];show W8 _ _ (if (Value.ref d == Value.none)=true then _ else _) _ _ s;rw[if_neg (show ¬ ((Value.ref d == Value.none)=true) from WC)];refine W0 (W3 (W0 (Qj gz eQ ?_)));rw[if_neg Z5];refine W0 (W3 (W0 (QR gz eQ ?_)));rw[if_neg Z5];refine W3 ?_;simp only[show ¬ ((i:Int) < 0) from Y',if_false,Qr,hx];refine W0 ?_;first | refine W0 (Jc hit.typeIs (W3 ?_)) | refine W0 (JE hit.typeIs (W3 ?_))
 refine W0 (wpAny_isOneOf_valiter hit.typeIs ?_);show W8 _ _ (setField (.ref it) 1 (Qa ((i:Int) + 1)) >>= _) _ _ s;refine W0 (Jw ho hd Z5 ?_);have ka:(s.heap.update it (Obj.mapFields (·.setIfInBounds 1 (Qa ((i:Int) + 1))))).IsValIter it d (i + 1) es.size ep :=
  ⟨_,QH _ ho (Obj.isFreed_of_fields (Obj.data_mapFields hd _)),(Obj.cls_mapFields ..).trans hc,by rw[Obj.data_mapFields hd]; simp[Qa]⟩
 refine W0 (WL ?_);refine W0 (wpAny_isOneOf_valiter (s:={ s with heap:=s.heap.update it (Obj.mapFields (·.setIfInBounds 1 (Qa ((i:Int) + 1)))) }) ka.typeIs ?_);refine W0 (wpAny_isOneOf_valiter (s:={ s with heap:=s.heap.update it (Obj.mapFields (·.setIfInBounds 1 (Qa ((i:Int) + 1)))) }) ka.typeIs ?_);show W8 _ _ (pure e.val) _ _ _;exact W3 (W3 ⟨_,rfl,W3 (hQ _ ka (Qo ..))⟩)
theorem Tg{es Q}(hh:A.handled=none)(hit:s.heap.IsValIter it d i es.size ep)(gz:s.heap.get? d=some od)(eQ:od.data = .dict es ep)(hx:es.size<=i)
  (hQ:∀ h',Heap.ExtBut it s.heap h'->Q none { s with heap:=h' }):W8 (model prog w) A (QA (.ref it)) Q E s:=by
 obtain⟨o,ho,hc,hd⟩:=id hit;unfold QA;refine W0 (Jn (WF (name:=Str.ofString "__next__") hit.typeIs J3
  (Wz J3 hit.typeIs F.entry_dict_valueiterator_next ?_ (F.args_dict_valueiterator_next_1 _))))
 refine W0 (W3 (W0 (W0 ?_)));first | refine W0 (Jc hit.typeIs (W3 ?_)) | refine W0 (JE hit.typeIs (W3 ?_))
 refine W0 (JU ho hd ?_);have fj:Q9 "dict_valueiterator" = false:=by decide
 simp only[fj,Qd,if_false];show W8 _ _ (if (Value.ref d == Value.none)=true then _ else _) _ _ s;rw[if_neg (show ¬ ((Value.ref d == Value.none)=true) from WC)];refine W0 (W3 (W0 (Qj gz eQ ?_)));rw[if_neg Z5];refine W0 (W3 (W0 (QR gz eQ ?_)));rw[if_neg Z5];refine W3 ?_;simp only[show ¬ ((i:Int) < 0) from Y',if_false,Qr,Array.getElem?_eq_none hx];refine W0 ?_;first | refine W0 (Jc hit.typeIs (W3 ?_)) | refine W0 (JE hit.typeIs (W3 ?_))
 show W8 _ _ (setField (.ref it) 0 .none >>= _) _ _ s;refine W0 (Jw ho hd Z5 ?_);show W8 _ _ (newExc (.type "StopIteration") [] >>= _) _ _ _;refine W0 ?_;simp only[newExc,newTuple];refine W0 (WJ ?_ (by size_fits));refine W0 (m:=Je _ _) (wpAny_of_eq (a:=Value.none) (by first | rfl | (simp only[Je]; rfl)) ?_);refine WJ ?_ (by size_fits);simp only[raiseNew];refine W0 (wpAny_handled ?_);rw[show A.in1.handled=none from hh];refine W0 (W3 (wpAny_throw ?_));refine W0 (JC (T:="StopIteration") (b:=true) ⟨_,Wh _ rfl,rfl⟩ Ud ?_);exact W3 (hQ _ (((Qo ..).extBut.push _).push _))
def yZ(a:Addr)(ep:Nat)(aj:List NE):It :=
 ⟨λi H=>H a=some (.dN ep aj)/\i < aj.length,
  λi H v H'=>H'=H/\∃ k y,aj[i]? = some (k,y,v),
  λi H=>H a=some (.dN ep aj)/\i=aj.length⟩
theorem Th(a it)(aj:List NE)(ep):Turn P w K tg (yZ a ep aj) [it] it (λi h=>h.IsValIter it a i aj.length ep):=by
 have at_:∀ {X:Cx} {pins s σ H},X.prog=P->X.w=w->Inv X pins σ H s->H a=some (.dN ep aj)->∃ xs o es,dG aj xs/\ki w s.heap a ep xs o es/\es.size=aj.length:=by
  intro X pins s σ H hP hw I e;subst hP hw;obtain⟨_,_,xs,o,es,r,d⟩:=ju I.aC e;exact⟨xs,o,es,r,d,by rw[<- WW,d.ents,Wn]; exact(Paired.length r).symm⟩
 refine⟨Z5,?_,?_,?_,?_,?_⟩
 ·rintro i h ⟨o,e,c,d⟩ b hb;have z:b=it:= ~~~hb
  subst z;exact⟨o,e,λv z=>by rw[d] at z; cases z⟩
 ·rintro i h h' q k;exact q.at λo e=>k it Z5 o e
 ·intro X hP hw hK hc i pins s σ H E I hf st ⟨hg,hi⟩;obtain⟨xs,o,es,r,d,hz⟩:=at_ hP hw I hg;subst hP hw hK;have hx:aj[i]? = some (aj[i].1,aj[i].2.1,aj[i].2.2):=#v[hi]
  obtain⟨x,hu,ry,rv⟩:=r.get hx;have yW:es[i]? = some (ent X.w x):=by rw[<- QJ,d.ents,Wj,hu]; rfl
  obtain⟨f0,f1,f2,f3,f4,f5⟩:=hf it Z5;rw[<- hz] at st;refine Tf st d.get d.data yW λh' cF sb=>?_
  have I1:Inv X pins σ H { s with heap:=h' }:=I.turned (t':=s.toks) (λb o hb e=>(sb.2 b hb).trans e) f0 f1 f3 f4 f5;obtain⟨o',e',c',d'⟩:=id cF;exact⟨_,rfl,qw (s:={ s with heap:=h' }) e' c' d' Z' ⟨aj[i].2.2,H,I1,rv,⟨rfl,_,_,hx⟩,by rw[<- hz]; exact cF,λb hb=>(hf b hb).1⟩⟩
 ·intro X hP hw hK hc i pins s σ H E I hf st ⟨hg,hi⟩;obtain⟨xs,o,es,r,d,hz⟩:=at_ hP hw I hg;subst hP hw hK;rw[<- hz] at st;exact Tg (I.ok.hd hc) st d.get d.data Y' λh' eb=>⟨rfl,Inv.pG (t':=s.toks) [it] I (λb o hb e=>eb b o (λz=>hb #v[z]) e) hf⟩
 ·intro A i s Q E st h;exact wpAny_pyIter_valiter st h
section
variable {o:Expr}
def Ti(td:TE):TI:=λσ H R=>td σ H λv H1=>∃ a ep aj,v = .ref a/\H1 a=some (.dN ep aj)/\R (yZ a ep aj) H1
theorem Tj (ho:PE X o td) (hb:J9 o "values" X.env (eval o X.env)=eval o X.env:=by rfl) (hl:(apos.endLine == bI.line)=true:=by rfl):PI X tg (.Call (.Attribute o "values" apos) [] [] bI) (Ti td):=by
 intro pins s σ H R I h;refine wpAny_Call_method (T:="dict") (id:="dict.values") hb rfl hl F.plainAttrs_dict F.slot_dict_values F.type_dict_values (aY (ho pins s σ H _ I h) λu s1 ⟨x,H1,I1,rx,a,ep,aj,ex,ea,q⟩=>?_);subst ex;obtain rfl:u=Value.ref a:=rx;obtain⟨z,hS,xs,ob,es,r,d⟩:=ju I1.aC ea;have hz:es.size=aj.length:=by rw[<- WW,d.ents,Wn]; exact(Paired.length r).symm
 refine⟨d.typeIs,d.noDict,?_⟩;refine Calls.callWith_builtin rfl (PySem.evalArgs_none (Td hS d.typeIs ?_));have yX:∀ b u,s1.heap.get? b=some u->(s1.heap.push { cls:=.type "dict_values",data:=.fields #[.ref a] }).get? b=some u:=λb u e=>W7 _ e
 refine Te (d:=a) ⟨_,Wh _ rfl,rfl,rfl⟩ (yX _ _ d.get) d.data ?_;generalize hh1:s1.heap.push { cls:=.type "dict_values",data:=.fields #[.ref a] } = h1;have up1:∀ b u,s1.heap.get? b=some u->h1.get? b=some u:=λb u e=>by rw[<- hh1]; exact W7 _ e
 have rP:s1.heap.objs.size<=h1.objs.size:=by rw[<- hh1,QF]; exact Ul _
 generalize hh2:h1.push { cls:=.type "dict_valueiterator",data:=.fields #[.ref a,.int 0 0,.int es.size 0,.int ep 0] } = h2;have mE:∀ b u,s1.heap.get? b=some u->h2.get? b=some u:=λb u e=>by rw[<- hh2]; exact W7 _ (up1 b u e)
 have hit:h2.IsValIter h1.objs.size a 0 aj.length ep:=by rw[<- hz,<- hh2]; exact⟨_,Wh _ rfl,rfl,rfl⟩
 have I2:Inv X pins σ H1 { s1 with heap:=h2,toks:=s1.toks }:=I1.kept (t':=s1.toks) mE;refine⟨h1.objs.size,[h1.objs.size],_,_,_,rfl,I2,Th a h1.objs.size aj ep,hit,λb hb=>?_,q⟩;have e:b=h1.objs.size:= ~~~hb
 subst e;exact I1.jD rP (I1.aC.fresh rP)
end
def rQ(fe:DE):DI:=λδ=>(fe δ).bind λr δ1=>match r.d with
 | .dic ds=>.ok (ds.map (·.2)) δ1
 | _=>.stuck
section
variable {o:Expr}
theorem Tn(h:H a=some (.dN ep ws))(n:¬ Own σ δ a)(r:DN H (Av c σ δ) ws ds):l8 c σ δ H (yZ a ep ws) (ds.map (·.2)):=by
 intro H2 kp;have h2:=kp a _ h n;refine⟨⟨h2,#v[r.len]⟩,λi d e=>?_⟩;rw[Wj] at e
 cases ej:ds[i]? with
 | none=>rw[ej] at e; cases e
 | some q =>
  rw[ej] at e
  cases e;have hi:i < ws.length:=by rw[r.len]; exact(W6.mp ej).1
  exact⟨⟨h2,hi⟩,λx H3 ⟨e3,kk,y,hkv⟩=>.inl ⟨e3,r.val i _ q hkv ej⟩⟩
theorem To (ho:SE X c o fe) (hb:J9 o "values" X.env (eval o X.env)=eval o X.env:=by rfl) (hl:(apos.endLine == bI.line)=true:=by rfl) :
  SI X c tg (.Call (.Attribute o "values" apos) [] [] bI) (rQ fe) :=
 PI.weak (Tj ho hb hl) λσ H R ⟨δ,k,q⟩=>by
  unfold rQ at q;rw[bA] at q;refine⟨δ,k,aX q λr δ1 q1 v H1 a1 r1=>?_⟩;have rp:=r1.rep;generalize r.d=d at q1 rp
  cases d <;> first | exact q1.elim | skip
  rename_i ds
  cases rp with
  | dic h1 h2 h3 h4 h5 h6 =>
   exact⟨_,_,_,rfl,h2,q1 _ _ a1 (Tn h2 (λz=>h1 (.inr z)) ⟨h3,h4,h5,h6⟩)⟩
end
abbrev pN(h:Heap)(z TI TO a:Addr)(f:Bool):Prop :=
 h.get? z=some { cls:=.type "zip",dict:=none,data:=.fields #[Qa a,.bool f,.bool false,.ref TI,.ref TO],slots:=#[] }
theorem Tp{Q}(ho:s.heap.get? a=some o)(h:Q (some o) s):W8 (model prog w) A (loadIfAlive a) Q E s:=by
 have h':Q (s.heap.get? a) s:=%[ho|h]
 exactλ_ _ _=>h'
theorem FI{TI TO f Q}(hz:pN s.heap z TI TO a f)(ha:s.heap.get? a=some oa)
  (h:∀ h',pN h' z TI TO a true->Qt z s.heap h'->Q false { s with heap:=h' }):W8 (model prog w) A (WO (.ref z)) Q E s:=by
 unfold WO;refine W0 (WM hz rfl (x:=Qa a) rfl ?_);show W8 _ _ (loadIfAlive ((a:Int).toNat) >>= _) _ _ _;rw[Qr];refine W0 (Tp ha ?_);simp only[Option.isNone_some,Qd,if_false];refine W0 (WM hz rfl (x:=.bool f) rfl ?_)
 cases f with
 | true =>
  rw[if_neg (show ¬ ((Value.bool true != Value.bool true)=true) from WC)];exact W3 (h s.heap hz (Heap.SameBut.refl _ _))
 | false =>
  rw[if_pos (show(Value.bool false != Value.bool true)=true from rfl)];exact W0 (Q1 hz Z5 λh₃ Tq Tr=>W3 (h h₃ Tq Tr))
theorem Ts{z TI TO f}(D1:Draws prog w A i1 f1 n1 P1 S1)(D2:Draws prog w A i2 f2 n2 P2 S2)(C:ZA z TI TO i1 i2 f1 f2)
  (hz:pN s.heap z TI TO a f) (ha:s.heap.get? a=some oa) (hI:IsPair s.heap TI (.ref i1) (.ref i2)) (g1:S1 i s.heap) (g2:S2 i s.heap) (l1:i < n1) (l2:i < n2)
  (q:∀ x y h' tk,P1 i x->P2 i y->pN h' z TI TO a true->S1 (i + 1) h'->S2 (i + 1) h'->IsPair h' s.heap.objs.size x y->h'.objs.size=s.heap.objs.size + 1 ->
   (∀ c o,c≠z->c≠i1->c≠i2->s.heap.get? c=some o->h'.get? c=some o)->Q (.ref s.heap.objs.size) { s with heap:=h',toks:=tk }) :
  W8 (model prog w) A (Builtin.«zip.__next__» ⟨[.ref z],[]⟩) (λfin s'=>∃ v,fin = .done (.ret v)/\Q v s') E s:=by
 have i1z:i1≠z:=λe=>C.z1 (e ▸ C.m1)
 have i2z:i2≠z:=λe=>C.z2 (e ▸ C.m2)
 have i12:i1≠i2:=λe=>C.k1 (e ▸ C.m2)
 show W8 _ _ (field (.ref z) 2 >>= _) _ _ _; refine W0 (WM hz rfl (x:=.bool false) rfl ?_)
 show W8 _ _ (field (.ref z) 3 >>= _) _ _ _; refine W0 (WM hz rfl (x:=.ref TI) rfl (W0 (QG hI rfl ?_)))
 show W8 _ _ (WO (.ref z) >>= _) _ _ _;refine W0 (FI hz ha λh1 jR s1=>?_);simp only[Qd,if_false];refine W0 ?_;simp only[List.forIn_toArray,U2,Uc];refine W0 (W0 (WL ?_)); show W8 _ _ (WK (.ref i1) >>= _) _ _ _
 have e1:S1 i h1:=D1.frame _ _ _ g1 λc hc o e=>s1.extBut _ _ (λx=>C.z1 (x ▸ hc)) e
 refine W0 (D1.item i _ _ _ l1 e1 λx h2 y3 p1 e2 s2=>W3 ?_);refine W3 (W0 (W0 (WL ?_))); show W8 _ _ (WK (.ref i2) >>= _) _ _ _
 have e3:S2 i h2:=D2.frame _ _ _ g2 λc hc o e=>s2.extBut _ _ (λx=>C.k1 (x ▸ hc)) (s1.extBut _ _ (λx=>C.z2 (x ▸ hc)) e)
 refine W0 (D2.item i _ _ _ l2 e3 λy h4 Tt p2 e4 s4=>W3 ?_);refine W3 (W3 (W0 (wpAny_newTuple ?_ (by show 2<=Wa; decide))));have hsz:h4.objs.size=s.heap.objs.size:=by rw[s4.1,s2.1,s1.1]
 have vw:pN h4 z TI TO a true:=s4.extBut _ _ i2z.symm (s2.extBut _ _ i1z.symm jR);have r1:S1 (i + 1) h4:=D1.frame _ _ _ e2 λc hc o e=>s4.extBut _ _ (λx=>C.k2 (x ▸ hc)) e
 refine W3 ⟨_,rfl,?_⟩;show Q (.ref h4.objs.size) _; rw[hsz]
 refine q x y _ _ p1 p2 (W7 _ vw) (D1.frame _ _ _ r1 λc _ o e=>W7 _ e) (D2.frame _ _ _ e4 λc _ o e=>W7 _ e) ?_ (by rw[QF,hsz]) λc o c1 c3 c4 e=>W7 _ (s4.extBut _ _ c4 (s2.extBut _ _ c3 (s1.extBut _ _ c1 e)))
 rw[<- hsz]; exact Wh _ rfl
theorem Tu{TI TO f Q}(D1:Draws prog w A i1 f1 n1 P1 S1)(D2:Draws prog w A i2 f2 n2 P2 S2)(C:ZA z TI TO i1 i2 f1 f2)
  (hz:pN s.heap z TI TO a f) (ha:s.heap.get? a=some oa) (hI:IsPair s.heap TI (.ref i1) (.ref i2)) (g1:S1 i s.heap) (g2:S2 i s.heap) (l:i=n1\/(i < n1/\i=n2))
  (q:∀ h' tk e,(∀ c o,c≠z->c≠i1->c≠i2->s.heap.get? c=some o->h'.get? c=some o)->(∃ o,h'.get? e=some o/\o.cls = .type "StopIteration")->E (.ref e) { s with heap:=h',toks:=tk }) :
  W8 (model prog w) A (Builtin.«zip.__next__» ⟨[.ref z],[]⟩) Q E s:=by
 have i1z:i1≠z:=λe=>C.z1 (e ▸ C.m1)
 have i2z:i2≠z:=λe=>C.z2 (e ▸ C.m2)
 show W8 _ _ (field (.ref z) 2 >>= _) _ _ _; refine W0 (WM hz rfl (x:=.bool false) rfl ?_)
 show W8 _ _ (field (.ref z) 3 >>= _) _ _ _; refine W0 (WM hz rfl (x:=.ref TI) rfl (W0 (QG hI rfl ?_)))
 show W8 _ _ (WO (.ref z) >>= _) _ _ _;refine W0 (FI hz ha λh1 jR s1=>?_);simp only[Qd,if_false];refine W0 ?_;simp only[List.forIn_toArray,U2,Uc];refine W0 (W0 (WL ?_)); show W8 _ _ (WK (.ref i1) >>= _) _ _ _
 have e1:S1 i h1:=D1.frame _ _ _ g1 λc hc o e=>s1.extBut _ _ (λx=>C.z1 (x ▸ hc)) e
 rcases l with l | ⟨l,l'⟩
 ·subst l;refine W0 (D1.done _ _ _ e1 λh2 e s2 ⟨oe,he,ce⟩=>?_);exact q h2 _ e (λc o c1 c3 _ x=>s2 _ _ c3 (s1.extBut _ _ c1 x)) ⟨oe,he,ce⟩
 ·refine W0 (D1.item i _ _ _ l e1 λx h2 y3 p1 e2 s2=>W3 ?_);refine W3 (W0 (W0 (WL ?_))); show W8 _ _ (WK (.ref i2) >>= _) _ _ _
  have e3:S2 i h2:=D2.frame _ _ _ g2 λc hc o e=>s2.extBut _ _ (λx=>C.k1 (x ▸ hc)) (s1.extBut _ _ (λx=>C.z2 (x ▸ hc)) e)
  subst l';refine W0 (D2.done _ _ _ e3 λh4 e s4 ⟨oe,he,ce⟩=>?_);exact q h4 _ e (λc o c1 c3 c4 x=>s4 _ _ c4 (s2.extBut _ _ c3 (s1.extBut _ _ c1 x))) ⟨oe,he,ce⟩
abbrev f6(h:Heap)(z TI TO:Addr)(v0:Value)(f:Bool):Prop :=
 h.get? z=some { cls:=.type "zip",dict:=none,data:=.fields #[v0,.bool f,.bool false,.ref TI,.ref TO],slots:=#[] }
theorem Tv{Q}(ho:s.heap.get? a=none)(h:Q none s):W8 (model prog w) A (loadIfAlive a) Q E s:=by
 have h':Q (s.heap.get? a) s:=%[ho|h]
 exactλ_ _ _=>h'
theorem FJ{TI TO f Q}(hz:f6 s.heap z TI TO v0 f)(hv:v0 = .none\/∃ p:Addr,v0=Qa p/\s.heap.get? p=none)(h:Q true s) :
  W8 (model prog w) A (WO (.ref z)) Q E s:=by
 unfold WO;rcases hv with rfl | ⟨p,rfl,hp⟩
 ·exact W0 (WM hz rfl (x:=.none) rfl (W3 h))
 ·refine W0 (WM hz rfl (x:=Qa p) rfl ?_);show W8 _ _ (loadIfAlive ((p:Int).toNat) >>= _) _ _ _;rw[Qr];exact W0 (Tv hp (W3 h))
theorem Tw{z TI TO:Addr}{a b:Value}{f:Bool}(D1:Draws prog w A i1 f1 n1 P1 S1)(D2:Draws prog w A i2 f2 n2 P2 S2)(C:ZA z TI TO i1 i2 f1 f2)
  (hz:f6 s.heap z TI TO v0 f) (hv:v0 = .none\/∃ p:Addr,v0=Qa p/\s.heap.get? p=none) (hI:IsPair s.heap TI (.ref i1) (.ref i2)) (hO:IsPair s.heap TO a b) (g1:S1 i s.heap) (g2:S2 i s.heap) (l1:i < n1) (l2:i < n2)
  (q:∀ x y h' tk,P1 i x->P2 i y->f6 h' z TI TO (Qa s.heap.objs.size) false->IsPair h' TO x y->S1 (i + 1) h'->S2 (i + 1) h'->IsPair h' s.heap.objs.size x y ->
   (∀ c o,c≠z->c≠TO->c≠i1->c≠i2->s.heap.get? c=some o->h'.get? c=some o)->Q (.ref s.heap.objs.size) { s with heap:=h',toks:=tk }) :
  W8 (model prog w) A (Builtin.«zip.__next__» ⟨[.ref z],[]⟩) (λfin s'=>∃ v,fin = .done (.ret v)/\Q v s') E s:=by
 have i1z:i1≠z:=λe=>C.z1 (e ▸ C.m1)
 have i2z:i2≠z:=λe=>C.z2 (e ▸ C.m2)
 have rR:TO≠i1:=λe=>C.t1 (e ▸ C.m1)
 have y4:TO≠i2:=λe=>C.t2 (e ▸ C.m2)
 have i12:i1≠i2:=λe=>C.k1 (e ▸ C.m2)
 show W8 _ _ (field (.ref z) 2 >>= _) _ _ _; refine W0 (WM hz rfl (x:=.bool false) rfl ?_)
 show W8 _ _ (field (.ref z) 3 >>= _) _ _ _; refine W0 (WM hz rfl (x:=.ref TI) rfl (W0 (QG hI rfl ?_)))
 show W8 _ _ (WO (.ref z) >>= _) _ _ _; refine W0 ?_
 refine FJ hz hv ?_;simp only[if_true]; refine W0 (J0 (W0 (WM hz rfl (x:=.ref TO) rfl (W0 (Q1 hz Z5 λh1 jR s1=>?_)))))
 replace jR:f6 h1 z TI TO .ellipsis f:=jR;refine W0 ?_; simp only[List.zipIdx_cons,List.zipIdx_nil,U2,Uc]
 refine W0 (W0 (wpAny_onRaise ?_)); show W8 _ _ (WK (.ref i1) >>= _) _ _ _
 have e1:S1 i h1:=D1.frame _ _ _ g1 λc hc o e=>s1.extBut _ _ (λx=>C.z1 (x ▸ hc)) e
 refine W0 (D1.item i _ _ _ l1 e1 λx h2 y3 p1 e2 s2=>W3 ?_);have rS:IsPair h2 TO a b:=s2.extBut _ _ rR (s1.extBut _ _ C.tz hO);refine W0 (QG rS rfl (W0 (wpAny_updateSeq_pair rS λh3 vx s3=>?_)));replace vx:IsPair h3 TO x b:=vx;refine W0 (wpAny_letGo (W3 (W0 (W0 (wpAny_onRaise ?_))))); show W8 _ _ (WK (.ref i2) >>= _) _ _ _
 have e3:S2 i h3:=D2.frame _ _ _ g2 λc hc o e=>s3.extBut _ _ (λx=>C.t2 (x ▸ hc)) (s2.extBut _ _ (λx=>C.k1 (x ▸ hc)) (s1.extBut _ _ (λx=>C.z2 (x ▸ hc)) e))
 refine W0 (D2.item i _ _ _ l2 e3 λy h4 Tt p2 e4 s4=>W3 ?_);have FK:IsPair h4 TO x b:=s4.extBut _ _ y4 vx;refine W0 (QG FK rfl (W0 (wpAny_updateSeq_pair FK λh5 vy s5=>?_)));replace vy:IsPair h5 TO x y:=vy;refine W0 (wpAny_letGo (W3 (W3 (W0 (QG vy rfl (W0 (wpAny_newTuple ?_)))))));have hsz:h5.objs.size=s.heap.objs.size:=by rw[s5.1,s4.1,s3.1,s2.1,s1.1]
 have FL:f6 h5 z TI TO .ellipsis f:=s5.extBut _ _ C.tz.symm (s4.extBut _ _ i2z.symm (s3.extBut _ _ C.tz.symm (s2.extBut _ _ i1z.symm jR)));have k5:∀ c o,c≠z->c≠TO->c≠i1->c≠i2->s.heap.get? c=some o->h5.get? c=some o:=λc o c1 c2 c3 c4 e=>s5.extBut _ _ c2 (s4.extBut _ _ c4 (s3.extBut _ _ c2 (s2.extBut _ _ c3 (s1.extBut _ _ c1 e))))
 have r1:S1 (i + 1) h5:=D1.frame _ _ _ e2 λc hc o e=>s5.extBut _ _ (λx=>C.t1 (x ▸ hc)) (s4.extBut _ _ (λx=>C.k2 (x ▸ hc)) (s3.extBut _ _ (λx=>C.t1 (x ▸ hc)) e))
 have r2:S2 (i + 1) h5:=D2.frame _ _ _ e4 λc hc o e=>s5.extBut _ _ (λx=>C.t2 (x ▸ hc)) e
 have zl:z < h5.objs.size:=Ws FL;show W8 _ _ (Builtin.SmallTypes.ownedTupleHandOut (.ref z) (.ref h5.objs.size) >>= _) _ _ _; refine W0 ?_
 unfold Builtin.SmallTypes.ownedTupleHandOut;have Tz:f6 (h5.push { cls:=.type "tuple",data:=.seq #[x,y] }) z TI TO .ellipsis f:=W7 _ FL;refine W0 (Q1 Tz Z5 λh7 y6 s7=>?_);replace y6:f6 h7 z TI TO (Qa h5.objs.size) f:=y6;refine Q1 y6 Z5 λh8 vz s8=>?_
 replace vz:f6 h8 z TI TO (Qa h5.objs.size) false:=vz;have up:∀ c o,c≠z->h5.get? c=some o->h8.get? c=some o:=λc o c1 e=>s8.extBut _ _ c1 (s7.extBut _ _ c1 (W7 _ e))
 have hT:IsPair h8 h5.objs.size x y:=s8.extBut _ _ (JQ zl) (s7.extBut _ _ (JQ zl) (Wh _ rfl));rw[hsz] at vz hT;refine W3 ⟨_,rfl,?_⟩; show Q (.ref h5.objs.size) _; rw[hsz]
 exact q x y h8 _ p1 p2 vz (up _ _ C.tz vy) (D1.frame _ _ _ r1 λc hc o e=>up c o (λx=>C.z1 (x ▸ hc)) e) (D2.frame _ _ _ r2 λc hc o e=>up c o (λx=>C.z2 (x ▸ hc)) e) hT λc o c1 c2 c3 c4 e=>up c o c1 (k5 c o c1 c2 c3 c4 e)
theorem TB{TI TO f a Q}(D1:Draws prog w A i1 f1 n1 P1 S1)(D2:Draws prog w A i2 f2 n2 P2 S2)(C:ZA z TI TO i1 i2 f1 f2)
  (hz:f6 s.heap z TI TO v0 f) (hv:v0 = .none\/∃ p:Addr,v0=Qa p/\s.heap.get? p=none) (hI:IsPair s.heap TI (.ref i1) (.ref i2)) (hO:IsPair s.heap TO a b) (g1:S1 i s.heap) (g2:S2 i s.heap) (l:i=n1\/(i < n1/\i=n2))
  (q:∀ h' tk e,(∀ c o,c≠z->c≠TO->c≠i1->c≠i2->s.heap.get? c=some o->h'.get? c=some o)->(∃ o,h'.get? e=some o/\o.cls = .type "StopIteration")->E (.ref e) { s with heap:=h',toks:=tk }) :
  W8 (model prog w) A (Builtin.«zip.__next__» ⟨[.ref z],[]⟩) Q E s:=by
 have i1z:i1≠z:=λe=>C.z1 (e ▸ C.m1)
 have i2z:i2≠z:=λe=>C.z2 (e ▸ C.m2)
 have rR:TO≠i1:=λe=>C.t1 (e ▸ C.m1)
 show W8 _ _ (field (.ref z) 2 >>= _) _ _ _; refine W0 (WM hz rfl (x:=.bool false) rfl ?_)
 show W8 _ _ (field (.ref z) 3 >>= _) _ _ _; refine W0 (WM hz rfl (x:=.ref TI) rfl (W0 (QG hI rfl ?_)))
 show W8 _ _ (WO (.ref z) >>= _) _ _ _; refine W0 ?_
 refine FJ hz hv ?_;simp only[if_true]; refine W0 (J0 (W0 (WM hz rfl (x:=.ref TO) rfl (W0 (Q1 hz Z5 λh1 jR s1=>?_)))))
 replace jR:f6 h1 z TI TO .ellipsis f:=jR;refine W0 ?_; simp only[List.zipIdx_cons,List.zipIdx_nil,U2,Uc]
 refine W0 (W0 (wpAny_onRaise ?_)); show W8 _ _ (WK (.ref i1) >>= _) _ _ _
 have e1:S1 i h1:=D1.frame _ _ _ g1 λc hc o e=>s1.extBut _ _ (λx=>C.z1 (x ▸ hc)) e
 rcases l with l | ⟨l,l'⟩
 ·subst l;refine W0 (D1.done _ _ _ e1 λh2 e s2 ⟨oe,he,ce⟩=>?_);have mF:f6 h2 z TI TO .ellipsis f:=s2 _ _ i1z.symm jR;have ez:e≠z:=λx=>by subst x; rw[mF] at he; cases he; simp at ce
  exact Q1 mF Z5 λh3 _ s3=>q h3 _ e (λc o c1 _ c3 _ x=>s3.extBut _ _ c1 (s2 _ _ c3 (s1.extBut _ _ c1 x))) ⟨oe,s3.extBut _ _ ez he,ce⟩
 ·refine W0 (D1.item i _ _ _ l e1 λx h2 y3 p1 e2 s2=>W3 ?_);have rS:IsPair h2 TO a b:=s2.extBut _ _ rR (s1.extBut _ _ C.tz hO);refine W0 (QG rS rfl (W0 (wpAny_updateSeq_pair rS λh3 vx s3=>?_)));refine W0 (wpAny_letGo (W3 (W0 (W0 (wpAny_onRaise ?_))))); show W8 _ _ (WK (.ref i2) >>= _) _ _ _
  have e3:S2 i h3:=D2.frame _ _ _ g2 λc hc o e=>s3.extBut _ _ (λx=>C.t2 (x ▸ hc)) (s2.extBut _ _ (λx=>C.k1 (x ▸ hc)) (s1.extBut _ _ (λx=>C.z2 (x ▸ hc)) e))
  subst l';refine W0 (D2.done _ _ _ e3 λh4 e s4 ⟨oe,he,ce⟩=>?_);have vw:f6 h4 z TI TO .ellipsis f:=s4 _ _ i2z.symm (s3.extBut _ _ C.tz.symm (s2.extBut _ _ i1z.symm jR));have ez:e≠z:=λx=>by subst x; rw[vw] at he; cases he; simp at ce
  exact Q1 vw Z5 λh5 _ s5=>q h5 _ e (λc o c1 c2 c3 c4 x=>s5.extBut _ _ c1 (s4 _ _ c4 (s3.extBut _ _ c2 (s2.extBut _ _ c3 (s1.extBut _ _ c1 x))))) ⟨oe,s5.extBut _ _ ez he,ce⟩
theorem TC{z TI TO:Addr}{a b:Value}{f:Bool}{Q:Option Value->W4->Prop}(D1:Draws prog w A.in1 i1 f1 n1 P1 S1)(D2:Draws prog w A.in1 i2 f2 n2 P2 S2)(C:ZA z TI TO i1 i2 f1 f2)
  (hz:f6 s.heap z TI TO v0 f) (hv:v0 = .none\/∃ p:Addr,v0=Qa p) (hI:IsPair s.heap TI (.ref i1) (.ref i2)) (hO:IsPair s.heap TO a b) (g1:S1 i s.heap) (g2:S2 i s.heap) (l1:i < n1) (l2:i < n2)
  (q:∀ x y h' tk (p':Addr) f',P1 i x->P2 i y->f6 h' z TI TO (Qa p') f'->(∃ a b,IsPair h' TO a b)->S1 (i + 1) h'->S2 (i + 1) h'->IsPair h' s.heap.objs.size x y ->
   (∀ c o,c≠z->c≠TO->c≠i1->c≠i2->s.heap.get? c=some o->h'.get? c=some o)->Q (some (.ref s.heap.objs.size)) { s with heap:=h',toks:=tk }) :
  W8 (model prog w) A (QA (.ref z)) Q E s:=by
 have ty:s.TypeIs (.ref z) "zip":=⟨_,hz,rfl⟩
 have rR:TO≠i1:=λe=>C.t1 (e ▸ C.m1)
 have y4:TO≠i2:=λe=>C.t2 (e ▸ C.m2)
 unfold QA;refine W0 (Jn (WF (name:=Str.ofString "__next__") ty F.slot_zip_next (Wz F.slot_zip_next ty F.entry_zip_next ?_ (F.args_zip_next_1 _))));have cs:(v0 = .none\/∃ p:Addr,v0=Qa p/\s.heap.get? p=none)\/∃ (p:Addr) (oa:Obj),v0=Qa p/\s.heap.get? p=some oa:=by
  rcases hv with e | ⟨p,e⟩
  ·exact .inl (.inl e)
  ·cases hp:s.heap.get? p with
   | none=>exact .inl (.inr ⟨p,e,hp⟩)
   | some oa=>exact .inr ⟨p,oa,e,hp⟩
 rcases cs with hf | ⟨p,oa,e,hp⟩
 ·exact Tw D1 D2 C hz hf hI hO g1 g2 l1 l2 λx y h' tk b1 b2 b3 b4 b5 b6 b7 b8=>W3 (q x y h' tk _ _ b1 b2 b3 ⟨_,_,b4⟩ b5 b6 b7 b8)
 ·subst e;exact Ts D1 D2 C hz hp hI g1 g2 l1 l2 λx y h' tk b1 b2 b3 b5 b6 b7 b8 b9=>W3 (q x y h' tk _ _ b1 b2 b3 ⟨_,_,b9 _ _ C.tz rR y4 hO⟩ b5 b6 b7 λc o c1 _ c3 c4 e=>b9 c o c1 c3 c4 e)
theorem TF{TI TO f a Q}(D1:Draws prog w A.in1 i1 f1 n1 P1 S1)(D2:Draws prog w A.in1 i2 f2 n2 P2 S2)(C:ZA z TI TO i1 i2 f1 f2)
  (hz:f6 s.heap z TI TO v0 f) (hv:v0 = .none\/∃ p:Addr,v0=Qa p) (hI:IsPair s.heap TI (.ref i1) (.ref i2)) (hO:IsPair s.heap TO a b) (g1:S1 i s.heap) (g2:S2 i s.heap) (l:i=n1\/(i < n1/\i=n2))
  (q:∀ h' tk,(∀ c o,c≠z->c≠TO->c≠i1->c≠i2->s.heap.get? c=some o->h'.get? c=some o)->Q none { s with heap:=h',toks:=tk }) :
  W8 (model prog w) A (QA (.ref z)) Q E s:=by
 have ty:s.TypeIs (.ref z) "zip":=⟨_,hz,rfl⟩
 unfold QA;refine W0 (Jn (WF (name:=Str.ofString "__next__") ty F.slot_zip_next (Wz F.slot_zip_next ty F.entry_zip_next ?_ (F.args_zip_next_1 _))));have cs:(v0 = .none\/∃ p:Addr,v0=Qa p/\s.heap.get? p=none)\/∃ (p:Addr) (oa:Obj),v0=Qa p/\s.heap.get? p=some oa:=by
  rcases hv with e | ⟨p,e⟩
  ·exact .inl (.inl e)
  ·cases hp:s.heap.get? p with
   | none=>exact .inl (.inr ⟨p,e,hp⟩)
   | some oa=>exact .inr ⟨p,oa,e,hp⟩
 rcases cs with hf | ⟨p,oa,e,hp⟩
 ·refine TB D1 D2 C hz hf hI hO g1 g2 l λh' tk e k ⟨o,ho,hc⟩=>?_
  exact W0 (JC (T:="StopIteration") (b:=true) ⟨o,ho,hc⟩ Ud (W3 (q _ _ k)))
 ·subst e;refine Tu D1 D2 C hz hp hI g1 g2 l λh' tk e k ⟨o,ho,hc⟩=>?_
  exact W0 (JC (T:="StopIteration") (b:=true) ⟨o,ho,hc⟩ Ud (W3 (q _ _ λc o c1 _ c3 c4 x=>k c o c1 c3 c4 x)))
abbrev GE:=Int×Addr×List Tx
variable {gs:List GE}
def f7(e:GE):NE:=(.i e.1,.int e.1,.ref e.2.1)
def iW(gs:List GE):List (Int×List Tx):=gs.map λe=>(e.1,e.2.2)
def kj(xs:List Tx):List V:=xs.map λx=>.str (toS x)
def km(gs:List (Int×List Tx))(x:Tx)(z:Int):List (Int×List Tx):=if (gs.any λe=>decide (e.1=z))=true then gs.map λe=>if e.1=z then(e.1,e.2 ++ [x]) else e else gs ++ [(z,[x])]
structure GI(H1:Hp)(g:Addr)(gs:List GE)(H:Hp):Prop where
 dict:∃ ep,H g=some (.dN ep (gs.map f7))
 lists:∀ e ∈ gs,H e.2.1=some (.lst (kj e.2.2))
 fresh:∀ e ∈ gs,H1 e.2.1=none
 nd:(gs.map (·.2.1)).Nodup
 kd:(gs.map (·.1)).Nodup
 old:∀ a o,H1 a=some o->a≠g->H a=some o
 there:∃ o,H1 g=some o
section
variable {g p:Addr}
theorem GI.y8(I:GI H1 g gs H):∀ e ∈ gs,e.2.1≠g:=λe he z=>by
 obtain⟨o,h⟩:=I.there;have:=I.fresh e he;rw[z,h] at this
 cases this
theorem GI.alloc(I:GI H1 g gs H)(hp:H p=none)(o):GI H1 g gs (upd H p o):=by
 have ne:∀ {a w},H a=some w->a≠p:=λe z=>by rw[z,hp] at e; cases e
 obtain⟨ep,hd⟩:=I.dict;refine⟨⟨ep,%[aR (ne hd)|hd]⟩,λe he=>%[aR (ne (I.lists e he))|I.lists e he],I.fresh,I.nd,I.kd,λa o e h=>%[aR (ne (I.old a o e h))|I.old a o e h],I.there⟩
theorem GI.hit{e}(I:GI H1 g gs H)(he:e ∈ gs)(x):GI H1 g (gs.map λq=>if q.1=e.1 then(q.1,q.2.1,q.2.2 ++ [x]) else q) (upd H e.2.1 (.lst (kj (e.2.2 ++ [x])))):=by
 obtain⟨ep,hd⟩:=I.dict;have one:∀ q ∈ gs,q.1=e.1->q=e:=λq hq h=>by
  have kd:=I.kd;obtain⟨i,hi⟩:=Q4.mp hq;obtain⟨j,hj⟩:=Q4.mp he;have:i=j:=(Ui (l:=gs.map (·.1)) (by simpa using (W6.mp hi).1) kd).mp (by rw[Wj,Wj,hi,hj]; simp[h]);subst this;rw[hi] at hj; cases hj; rfl
 have adr:∀ q ∈ gs,q.2.1=e.2.1->q=e:=λq hq h=>by
  have kd:=I.nd;obtain⟨i,hi⟩:=Q4.mp hq;obtain⟨j,hj⟩:=Q4.mp he;have:i=j:=(Ui (l:=gs.map (·.2.1)) (by simpa using (W6.mp hi).1) kd).mp (by rw[Wj,Wj,hi,hj]; simp[h]);subst this;rw[hi] at hj; cases hj; rfl
 have e1:(gs.map λq=>if q.1=e.1 then(q.1,q.2.1,q.2.2 ++ [x]) else q).map f7=gs.map f7:=by
  rw[Ww];refine Qf λq _=>?_
  simp only[Function.comp];split <;> rfl
 have e2:(gs.map λq=>if q.1=e.1 then(q.1,q.2.1,q.2.2 ++ [x]) else q).map (·.2.1)=gs.map (·.2.1):=by
  rw[Ww];refine Qf λq _=>?_
  simp only[Function.comp];split <;> rfl
 have e3:(gs.map λq=>if q.1=e.1 then(q.1,q.2.1,q.2.2 ++ [x]) else q).map (·.1)=gs.map (·.1):=by
  rw[Ww];refine Qf λq _=>?_
  simp only[Function.comp];split <;> rfl
 refine⟨⟨ep,%[aR (I.y8 e he).symm,e1|hd]⟩,λq' lj=>?_,λq' lj=>?_,%[e2|I.nd],%[e3|I.kd],λa o h n=>?_,I.there⟩
 ·obtain⟨q,hq,rfl⟩:=WA.mp lj;by_cases h:q.1=e.1
  ·have:=one q hq h;subst this;rw[if_pos rfl];exact cI
  ·rw[if_neg h];rw[aR λz=>h (by rw[adr q hq z])];exact I.lists q hq
 ·obtain⟨q,hq,rfl⟩:=WA.mp lj;split
  ·exact I.fresh q hq
  ·exact I.fresh q hq
 ·rw[aR λz=>by rw[z,I.fresh e he] at h; cases h];exact I.old a o h n
theorem GI.new(I:GI H1 g gs H)(hp:H p=none)(hz:z ∉ gs.map (·.1))(x ep):GI H1 g (gs ++ [(z,p,[x])]) (upd (upd (upd H p (.lst [])) g (.dN ep ((gs ++ [(z,p,[x])]).map f7))) p (.lst (kj [x]))):=by
 obtain⟨ep0,hd⟩:=I.dict;have ne:∀ {a w},H a=some w->a≠p:=λe z=>by rw[z,hp] at e; cases e
 have gp:g≠p:=ne hd;have TJ:H1 p=none:=by
  cases h:H1 p with
  | none=>rfl
  | some o =>
   have:=I.old p o h gp.symm;rw[hp] at this; cases this
 refine⟨⟨ep,%[aR gp|cI]⟩,λe he=>?_,λe he=>?_,?_,?_,λa o h n=>?_,I.there⟩
 ·rcases Qs.mp he with he | he
  ·rw[aR (ne (I.lists e he)),aR (I.y8 e he),aR (ne (I.lists e he))];exact I.lists e he
  ·have:e=(z,p,[x]):= ~~~he
   subst this;exact cI
 ·rcases Qs.mp he with he | he
  ·exact I.fresh e he
  ·have:e=(z,p,[x]):= ~~~he
   subst this;exact TJ
 ·rw[WR];refine Uj.mpr ⟨I.nd,Z5,λa ha b hb e=>?_⟩;obtain⟨q,hq,rfl⟩:=WA.mp ha;have rT:b=p:= ~~~hb
  exact ne (I.lists q hq) (e.trans rT)
 ·rw[WR];refine Uj.mpr ⟨I.kd,Z5,λa ha b hb e=>?_⟩;have rT:b=z:= ~~~hb
  rw[e,rT] at ha;exact hz ha
 ·have h':=I.old a o h n;rw[aR (ne h'),aR n,aR (ne h')];exact h'
end
theorem TK{g}{ia ib:Nat}{x}{z:Int}(I:GI H1 g gs H)(e1:σ[i]? = some (some (.ref g)))(e2:σ[ia]? = some (some (.str (toS x))))(e3:σ[ib]? = some (some (.int z)))(hl:gs.length < Wa)(kR:∀ e ∈ gs,e.2.2.length < Wa)
  (q:∀ vA H',GI H1 g vA H'->iW vA=km (iW gs) x z->Dn.nx σ H'):qu (t4 K "list" t7 (yY (dD i) (dD ib) (wD oJ)) (qA (dD ia) oJ)) Dn σ H:=by
 obtain⟨ep,hd⟩:=I.dict;refine⟨.ref g,e1,g,rfl,⟨_,_,hd⟩,.int z,e3,Z5,λp hp=>?_⟩;have gp:g≠p:=λh=>by rw[h,hp] at hd; cases hd
 have I3:=I.alloc hp (.lst []);have TM:upd H p (.lst []) g=some (.dN ep (gs.map f7)):=%[aR gp|hd]
 have pP:((iW gs).any λe=>decide (e.1=z))=gs.any λe=>decide (e.1=z):=by
  unfold iW;rw[JS];rfl
 have hv:valN (gs.map f7) (.i z)=(gs.find? λe=>decide (e.1=z)).map λe=>V.ref e.2.1:=by
  unfold valN;rw[Ue,Option.map_map];have:((λp:NE=>decide (p.1=NK.i z)) ∘ f7)=λe:GE=>decide (e.1=z):=by
   funext e
   simp only[Function.comp,f7,NK.i.injEq]
  rw[this];rfl
 refine⟨false,ep,gs.map f7,.i z,TM,λpe TN=>?_,⟨.inl z,rfl,rfl⟩,~~~hl,λv rU=>?_,λy9 gf=>?_⟩
 ·obtain⟨e,_,rfl⟩:=WA.mp TN;exact⟨.inl e.1,rfl,rfl⟩
 ·rw[hv] at rU
  cases hf:gs.find? λe=>decide (e.1=z) with
  | none=>rw[hf] at rU; cases rU
  | some e =>
   rw[hf] at rU
   cases rU;have hm:=List.mem_of_find?_eq_some hf;have hz:e.1=z:=by simpa using Uu hf
   have FN:=I3.lists e hm;refine⟨.inl ⟨rfl,_,.of FN⟩,_,e2,e.2.1,kj e.2.2,_,rfl,rfl,FN,by simpa[kj] using kR e hm,?_⟩;have I4:=I3.hit hm x;have et:kj e.2.2 ++ [V.str (toS x)]=kj (e.2.2 ++ [x]):=#v[kj]
   show Dn.nx σ _;rw[et];refine q _ _ I4 ?_;unfold km;rw[pP,JX.mpr ⟨e,hm,decide_eq_true hz⟩,if_pos rfl];unfold iW;rw[Ww,Ww];refine Qf λq _=>?_
   simp only[Function.comp,hz];split <;> rfl
 ·rw[hv] at y9;have fV:∀ e ∈ gs,e.1≠z:=λe he h=>by
   cases hf:gs.find? λe=>decide (e.1=z) with
   | some e=>rw[hf] at y9; cases y9
   | none=>exact absurd (decide_eq_true h) (List.find?_eq_none.mp hf e he)
  have FP:(gs.any λe=>decide (e.1=z))=false:=by
   rw[JL];intro e he h;exact fV e he (~~~h)
  have yt:putN (gs.map f7) (.i z) (.int z) (.ref p)=(gs ++ [(z,p,[x])]).map f7:=by
   unfold putN;have:((gs.map f7).any λp=>decide (p.1=NK.i z))=false:=by
    rw[JS,<- FP];congr 1
    funext e
    simp only[Function.comp,f7,NK.i.injEq]
   rw[this,if_neg Z5,WR];rfl
  rw[yt];have I4:=I.new hp (z:=z) (λh=>by
   obtain⟨e,he,h⟩:=WA.mp h;exact fV e he h) x gf
  have FQ:upd (upd H p (.lst [])) g (.dN gf ((gs ++ [(z,p,[x])]).map f7)) p=some (.lst []):=%[aR gp.symm|cI]
  refine⟨.inl ⟨rfl,_,.of FQ⟩,_,e2,p,[],_,rfl,rfl,FQ,by rw[PySem.sizeLine_eq]; decide,?_⟩;refine q _ _ I4 ?_;unfold km;rw[pP,FP,if_neg Z5];unfold iW;rw[WR];rfl
theorem aS.TQ(k:Ok c σ δ H)(ext:∀ a o,H a=some o->H2 a=some o):aS c σ δ H σ δ H2:=by
 refine⟨⟨λa o h n=>ext a o (k.keep a o h n),λa z=>(k.bd a z).elim λo h=>⟨o,ext a o h⟩,λa z=>(k.dZ a z).elim λo h=>⟨o,ext a o h⟩,k.len,λj d q=>?_,λj d q=>?_,k.inj,k.pinned⟩,λa o h _=>ext a o h,λa h=>.inl h,λa o h=>⟨o,ext a o h⟩⟩
 ·obtain⟨v,g1,g2⟩:=k.slot j d q;exact⟨v,g1,g2.keep λb w e _=>ext b w e⟩
 ·obtain⟨b,g1,g2,g3,g4⟩:=k.own j d q;exact⟨b,g1,g2.keep (λb w e _=>ext b w e) λw e=>ext b w e,g3,g4⟩
def mG:List (D×D)->Option (List (Tx×Int))
 | []=>some []
 | (.str x,.int z) :: r=>(mG r).map ((x,z) :: ·)
 | _=>none
theorem FR:∀ {ds:List (D×D)} {ps:List (Tx×Int)},mG ds=some ps->ds=ps.map λp=>(D.str p.1,D.int p.2)
 | [],ps,h=>by cases h; rfl
 | (a,b) :: r,ps,h=>by
  cases a <;> cases b <;> first | (simp[mG] at h; done) | skip
  rename_i x z;simp only[mG,WG] at h;obtain⟨q,hq,rfl⟩:=h;rw[FR hq];rfl
def eZ(ps:List (Tx×Int)):List (Int×List Tx):=ps.foldl (λgs p=>km gs p.1 p.2) []
def mH(gs:List (Int×List Tx)):List (D×D):=gs.map λe=>(.int e.1,.lst (e.2.map .str))
def vB(ia ib:Nat)(ps:List (Tx×Int))(δ:Dl):Dl:=match ps.getLast? with
 | none=>δ
 | some p=>(δ.set ia (some (.pure (.str p.1)))).set ib (some (.pure (.int p.2)))
def mI(ia ib:Nat)(ps:List (Tx×Int))(σ:St):St:=match ps.getLast? with
 | none=>σ
 | some p=>(σ.set ia (some (.str (toS p.1)))).set ib (some (.int p.2))
theorem TR(gs:List (Int×List Tx))(x)(z:Int)(n:Nat)(h:gs.length<=n/\∀ e ∈ gs,e.2.length<=n):(km gs x z).length<=n + 1/\∀ e ∈ km gs x z,e.2.length<=n + 1:=by
 unfold km;split
 ·refine⟨by rw[Wn]; lia,λe he=>?_⟩;obtain⟨q,hq,rfl⟩:=WA.mp he;have:=h.2 q hq;split
  ·simp;lia
  ·lia
 ·refine⟨by simp; lia,λe he=>?_⟩;rcases Qs.mp he with he | he
  ·have:=h.2 e he;lia
  ·have:e=(z,[x]):= ~~~he
   subst this;simp
theorem y_(ps:List (Tx×Int)):∀ k,k<=ps.length->(eZ (ps.take k)).length<=k/\∀ e ∈ eZ (ps.take k),e.2.length<=k
 | 0,_=>#v[eZ]
 | k + 1,h=>by
  have ih:=y_ ps k Y';have e:ps.take (k + 1)=ps.take k ++ [ps[k]]:=by rw[Qx]; simp[show k < ps.length by lia]
  rw[e];unfold eZ at ih ⊢;rw[List.foldl_append];exact TR _ _ _ k ih
def rV(np:List Nat)(i ia ib:Nat)(fe:DE):DS:=λδ=>(fe δ).bind λr δ1=>match r.d,δ1[i]? with
 | .dic ds,some (some (.own (.dic [])))=>match mG ds with
  | some ps=>if i≠ia/\i≠ib/\ia≠ib/\ia < δ1.length/\ib < δ1.length/\np.contains ia=false/\np.contains ib=false/\ps.length < Wa then .ok .next (vB ia ib ps (δ1.set i (some (.own (.dic (mH (eZ ps))))))) else .stuck
  | none=>.stuck
 | _,_=>.stuck
section
variable {o:Expr}
theorem TU{ps}(bj:Np c np)(k:Ok c σ δ H1)(e:δ[i]? = some (some (.own (.dic []))))(eg:σ[i]? = some (some (.ref g)))(I:GI H1 g gs H')(eG:iW gs=eZ ps)
  (na:np.contains ia=false) (nb:np.contains ib=false):aS c σ δ H1 (mI ia ib ps σ) (vB ia ib ps (δ.set i (some (.own (.dic (mH (eZ ps))))))) H':=by
 obtain⟨epg,hd⟩:=I.dict;let H2:Hp:=λa=>if a=g then H1 g else H' a
 have TV:H2 g=H1 g:=by show(if g=g then _ else _)=_; rw[if_pos rfl]
 have za:∀ a,a≠g->H2 a=H' a:=λa h=>by show(if a=g then _ else _)=_; rw[if_neg h]
 have A1:aS c σ δ H1 σ δ H2:=aS.TQ k λa w h=>by
  by_cases z:a=g
  ·subst z; rw[TV]; exact h
  ·rw[za a z]; exact I.old a w h z
 have dn:DN H2 (Av c σ δ) (gs.map f7) (mH (eZ ps)):=by
  rw[<- eG];unfold mH iW;rw[Ww];have gt:∀ {j:Nat} {p:NE} {q:D×D},(gs.map f7)[j]? = some p->(gs.map ((λe:Int×List Tx=>(D.int e.1,D.lst (e.2.map D.str))) ∘ λe:GE=>(e.1,e.2.2)))[j]? = some q->∃ e ∈ gs,p=f7 e/\q=(D.int e.1,D.lst (e.2.2.map D.str)):=λ{j p q} h1 h2=>by
   rw[Wj,WG] at h1 h2;obtain⟨e1,h1,rfl⟩:=h1;obtain⟨e2,h2,rfl⟩:=h2;rw[h1] at h2; cases h2
   exact⟨e1,Wq h1,rfl,rfl⟩
  refine⟨Z5,λj p q h1 h2=>?_,λj p q h1 h2=>?_,λj p q h1 h2=>?_⟩
  ·obtain⟨e,he,rfl,rfl⟩:=gt h1 h2;exact .int _
  ·obtain⟨e,he,rfl,rfl⟩:=gt h1 h2;refine .lst (k.ja (I.fresh e he)) (.inl %[za _ (I.y8 e he)|I.lists e he]) #v[kj] λm v d h3 h4=>?_
   unfold kj at h3;rw[Wj,WG] at h3 h4;obtain⟨x1,h3,rfl⟩:=h3;obtain⟨x2,h4,rfl⟩:=h4;rw[h3] at h4; cases h4
   exact .str _
  ·obtain⟨e,he,rfl,rfl⟩:=gt h1 h2;rfl
 have A2:=Ok.yU (ep:=epg) A1.ok e eg dn;have hH:upd H2 g (.dN epg (gs.map f7))=H':=by
  funext a
  by_cases z:a=g
  ·subst z; rw[cI]; exact hd.symm
  ·rw[aR z,za a z]
 rw[hH] at A2;have A3:=A1.trans A2;unfold mI vB
 cases ps.getLast? with
 | none=>exact A3
 | some p =>
  have jg:∀ m,np.contains m=false->∀ q ∈ c.pin,q.1≠m:=λm hm q hq z=>by
   have:=bj q hq;rw[z,hm] at this
   cases this
  have A4:=Ok.set (v:=.str (toS p.1)) (r:=.pure (.str p.1)) A3 (.str _) (jg ia na);exact Ok.set (v:=.int p.2) (r:=.pure (.int p.2)) A4 (.int _) (jg ib nb)
theorem TY(bj:Np c np)(hp:PassesOwn (model X.prog X.w) X.A X.env X.xe)(hc:X.calm=true)(ho:SE X c o fe)
  (hg:PG X (.Tuple elts ctx tp) (Bo X.K 2 (wm (oH ia) (wm (oH ib) Bn)))) (dW:dR X body (qu (t4 X.K "list" t7 (yY (dD i) (dD ib) (wD oJ)) (qA (dD ia) oJ))))
  (hb:J9 o "items" X.env (eval o X.env)=eval o X.env:=by rfl) (hl:(apos.endLine == bI.line)=true:=by rfl) (hs:∀ x,J5 (.Call (.Attribute o "items" apos) [] [] bI) X.env x=pure x:=by intro _; rfl) :
  SS X c (.For (.Tuple elts ctx tp) (.Call (.Attribute o "items" apos) [] [] bI) body [] pos) (rV np i ia ib fe) :=
 PS.weak (Bu hp hc (SM ho hb hl) hg dW hs) λDn σ H ⟨δ,k,q⟩=>by
  unfold rV eC at q;rw[bA] at q;refine⟨δ,k,aX q λr δ1 q1 v H1 a1 r1=>?_⟩;have rp:=r1.rep;generalize r.d=d at q1 rp;split at q1
  case h_2=>exact q1.elim
  rename_i ds es;split at q1
  case h_2=>exact q1.elim
  rename_i ps jN;split at q1
  case isFalse=>exact q1.elim
  rename_i hcond;obtain⟨nia,nib,nab,la,lb,na,nb,hz⟩:=hcond;have lR:=FR jN;subst lR
  cases rp with
  | @dic e ep ws _ h1 h2 h3 h4 h5 h6 =>
   have hlen:ws.length=ps.length:= ~~~h3
   have k1:=a1.ok;obtain⟨g,eg,oa,_⟩:=k1.own i _ es;obtain⟨epg,wg,hgg,dng⟩:=id oa;have TZ:wg=[]:=List.length_eq_zero_iff.mp (by rw[dng.len]; rfl);subst TZ;have neg:e≠g:=λz=>h1 (.inr ⟨i,_,es,%[z|eg]⟩)
   have hla:ia < σ.length:=by rw[<- k1.len]; exact la
   have T1:ib < σ.length:=by rw[<- k1.len]; exact lb
   have T2:∀ (j:Nat) (p:Tx×Int) kk y x,ps[j]? = some p->ws[j]? = some (kk,y,x)->y = .str (toS p.1)/\x = .int p.2:=λj p kk y x e1 e2=>by
    have ej:(ps.map λp:Tx×Int=>(D.str p.1,D.int p.2))[j]? = some (D.str p.1,D.int p.2):=by rw[Wj,e1]; rfl
    have r1:=h4 j _ _ e2 ej;have r2:=h5 j _ _ e2 ej;constructor
    ·cases r1; rfl
    ·cases r2; rfl
   refine⟨e,ep,ws,rfl,h2,λj m σ2 H2=>m=ws.length - j/\j<=ws.length/\σ2=mI ia ib (ps.take j) σ/\∃ gs,GI H1 g gs H2/\iW gs=eZ (ps.take j),⟨_,rfl,Qq _,#v[mI],[],⟨⟨_,hgg⟩,Z5,Z5,Z5,Z5,λa o h _=>h,⟨_,hgg⟩⟩,#v[iW,eZ]⟩,?_⟩;rintro j m σ2 H2 ⟨rfl,hj,hσ,gs,I,eG⟩;have FU:H2 e=some (.dN ep ws):=I.old e _ h2 neg;by_cases bu:j < ws.length
   ·right
    have FV:j < ps.length:=by lia
    have e1:ps[j]? = some ps[j]:=#v[FV]
    have tk:ps.take (j + 1)=ps.take j ++ [ps[j]]:=by rw[Qx]; simp[FV]
    refine⟨⟨FU,bu⟩,λσ3 H3=>σ3=mI ia ib (ps.take (j + 1)) σ/\∃ gs,GI H1 g gs H3/\iW gs=eZ (ps.take (j + 1)),λσ3 H3 ⟨z1,z2⟩=>⟨ws.length - (j + 1),Y',rfl,bu,z1,z2⟩,λx H3 ⟨p,kk,y,xv,hp,hkv,e3,ex⟩=>?_⟩;obtain⟨rfl,rfl⟩:=T2 j ps[j] kk y xv e1 hkv;subst ex e3;refine⟨p,_,rfl,.of cI,rfl,_,_,rfl,_,_,rfl,rfl,?_⟩;have T3:(σ2.set ia (some (.str (toS ps[j].1)))).set ib (some (.int ps[j].2))=mI ia ib (ps.take (j + 1)) σ:=by
     rw[hσ,tk];unfold mI;rw[List.getLast?_append];simp only[List.getLast?_singleton,Option.some_or]
     cases (ps.take j).getLast? with
     | none=>rfl
     | some q =>
      simp only;rw[List.set_comm _ _ nab.symm,List.set_set,List.set_set]
    have fY:(σ2.set ia (some (.str (toS ps[j].1)))).length=σ.length/\σ2[i]? = σ[i]?:=by
     rw[hσ,Qe];unfold mI
     cases (ps.take j).getLast? with
     | none=>exact⟨rfl,rfl⟩
     | some q =>
      simp only;refine⟨Z5,?_⟩;rw[W9 (Ne.symm nib),W9 (Ne.symm nia)]
    have bl:=y_ ps j Y';have T4:(iW gs).length=gs.length:=#v[iW]
    refine TK (i:=i) (ia:=ia) (ib:=ib) (x:=ps[j].1) (z:=ps[j].2) (I.alloc hp _) ?_ ?_ ?_ (by rw[<- T4,eG]; lia) (λq hq=>?_) λvA H' I' T5=>?_
    ·rw[W9 (Ne.symm nib),W9 (Ne.symm nia),fY.2];exact eg
    ·rw[W9 (Ne.symm nab)];exact Wr (by have:=fY.1; rw[Qe] at this; lia)
    ·exact Wr %[fY.1|T1]
    ·have:=bl.2 (q.1,q.2.2) (by rw[<- eG]; exact WA.mpr ⟨q,hq,rfl⟩);have:q.2.2.length<=j:=this;lia
    ·refine⟨T3,vA,I',?_⟩;rw[T5,eG,tk];unfold eZ;rw[List.foldl_append];rfl
   ·left
    have T6:j=ps.length:=by lia
    subst T6;refine⟨⟨FU,hlen.symm⟩,?_⟩;rw[QU] at hσ eG;rw[hσ];exact q1 _ _ (a1.trans (TU bj k1 es eg I eG na nb))
end
theorem T7{u}(h:u + 64 < Qk):u + 8 < Qk:=by lia
noncomputable def iC(x y:D):Option S:=match x with
 | .dic ds=>gy (.dic ds) y
 | x=>aL x y
theorem T8(hu:X.A.units + 64 < Qk):g9 X (λx y H Q=>vt x y H Q\/(rF x y H Q\/oK X.K x y H Q)):=(Fu hu).or (mv hu)
theorem T9:dF (λx y H Q=>vt x y H Q\/(rF x y H Q\/oK K x y H Q)) iC:=by
 intro c σ δ H x y d e s Q k rx ry hp q
 cases d with
 | dic ds=>exact .inl (Fv c σ δ H x y (.dic ds) e s Q k rx ry hp q)
 | _=>exact .inr (mr c σ δ H x y _ e s Q k rx ry hp q)
def cq:=cK (λi j=>i == j) λx y=>x == y
def lq:=cK (λi j=>!(i == j)) λx y=>!(x == y)
theorem FW(i j:Str):(i == j)=(i.cps.toList == j.cps.toList):=by
 rw[U3]
 cases i; cases j
 simp
theorem pQ:cj X (Q7 .Eq) (ny (λi j=>i == j) λx y=>x == y) :=
 (qy (g:=λi j=>(i == j)) λ_ _ _ _ _ _ _ q=>PyProof.Rows.eq_int q).or (uD λi j t u Q s q=>PyProof.Rows.eq_str %[FW|q])
theorem FX:cj X (Q7 .NotEq) (ny (λi j=>!(i == j)) λx y=>!(x == y)) :=
 (qy (g:=λi j=>!(i == j)) λ_ _ _ _ _ _ _ q=>PyProof.Rows.ne_int q).or (uD (g:=λx y=>!(x == y)) λi j t u Q s q=>PyProof.Rows.ne_str %[bne,FW|q])
def kn(H:Hp)(fa:Addr)(nm qual:Str)(params:Arguments)(body:List Stmt)(scope:Scope)(cl:List (Str×Addr)):Prop :=
 ∃ doc pm c' eU oc,H fa=some (.frz (Uf nm qual params body scope cl doc pm c' eU) (.ext λ_=>True))/\H c'=some (.frz oc (.ext λ_=>True))/\∃ vs tq,oc.data = .fields vs/\vs[1]? = some (.str qual tq)
section
variable {fs:List Addr}{nm:Str}{fr:List Str}
theorem kn.keep(C:kn H fa nm qual params body scope cl)(k:∀ b o u,H b=some (.frz o u)->H' b=some (.frz o u)):kn H' fa nm qual params body scope cl :=
 let ⟨doc,pm,c',eU,oc,h1,h2,h3⟩:=C; ⟨doc,pm,c',eU,oc,k _ _ _ h1,k _ _ _ h2,h3⟩
structure n8(H:Hp)(fs:List Addr)(h:Heap)(cl:List (Str×Addr))(fr:List Str)(fv:List V):Prop where
 cell:∀ x c,cl.lookup x=some c->(∃ v,h.IsCell c v)/\H c=none/\c ∉ fs
 inj:∀ x y c,cl.lookup x=some c->cl.lookup y=some c->x=y
 val:∀ (i:Nat) x v,fr[i]? = some x->fv[i]? = some v->∃ c u,cl.lookup x=some c/\h.IsCell c (some u)/\RelV v u
 rW:fv.length=fr.length
theorem n8.keep(C:n8 H fs h cl fr fv)(k:∀ b o,h.get? b=some o->H b=none->b ∉ fs->h'.get? b=some o/\H' b=none):n8 H' fs h' cl fr fv:=by
 have kc:∀ x c v,cl.lookup x=some c->h.IsCell c v->h'.IsCell c v:=λx c v e ⟨o,ho,hd⟩=>⟨o,(k c o ho (C.cell x c e).2.1 (C.cell x c e).2.2).1,hd⟩
 refine⟨λx c e=>?_,C.inj,λi x v e1 e2=>?_,C.rW⟩
 ·obtain⟨⟨v,o,ho,hd⟩,q1,q2⟩:=C.cell x c e;exact⟨⟨v,o,(k c o ho q1 q2).1,hd⟩,(k c o ho q1 q2).2,q2⟩
 ·obtain⟨c,u,q1,q2,q3⟩:=C.val i x v e1 e2;exact⟨c,u,q1,kc x c _ q1 q2,q3⟩
end
section
variable {nm:Str}{fr:List Str}{p:Str}{v:V}{k:Nat}{t:TS}{Q:VK}
theorem T_(I:Inv X pins σ H s)(C:kn H fa nm qual params body scope cl)(CC:n8 H X.fs s.heap cl fr fv)(L:vi p fr scope)(hr:cQ (k + 1) X.A)(rv:RelV v u)
  (hb:∀ doc pm aU eU u,bindArgs (PySem.W.fnX nm qual params body scope cl .none .none doc pm none aU eU) ⟨[u],[]⟩=pure [(p,u)])
  (dW:∀ cd,cQ k (X.A.deeper (Jz qual scope s.heap.objs.size fa cd cl))->dR (pM X.prog X.w X.K X.mg X.base (p :: (fr ++ ls)) qual scope fa cd cl X.A X.stack s H) body t)
  (q:t { nx:=λ_ H'=>Q .bp H',rt:=Q } (some v :: (fv.map some ++ ls.map λ_=>none)) H):W8 (model X.prog X.w) X.A (call (.ref fa) [u]) (EP X pins σ Q) X.xe s:=by
 obtain⟨doc,pm,c',eU,oc,h1',h4',vs,tq,h5,h6⟩:=C;have h1:=(I.aC fa _ h1').1;have h4:s.heap.get? c'=some oc:=(I.aC c' _ h4').1;have e0:=I.wF;have lim:s.heap.NoLimit:=e0.mod.nolimit.keeps λb o e=>(e0.bs b o e).1
 refine wpAny_call (codeAny_mono (R:=CR dX X.stack X.prog X.w H s Q E0) ?_ λr s' hq=>?_)
 ·refine codeAny_call_function hr.depth h1 rfl L.co L.gen rfl ⟨c',oc,vs,tq,rfl,h4,h5,h6⟩ ?_;rw[hb];refine W3 ?_;refine wpAny_newFunctionEnv L.EY (λy hy=>by
   have:y=(p,u):= ~~~hy
   subst this;exact L.loc) (λh' rN xq=>?_) L.kind
  have hk:∀ b o,s.heap.get? b=some o->h'.get? b=some o:=λb o e=>xq.extBut b o (WX (Ws e)) (W7 _ e)
  refine⟨lim.keeps hk,?_⟩;show Ju _ _ (.func body (Jz qual scope s.heap.objs.size fa (.ref c') cl)) _ _;refine codeAny_func ?_;have J:Inv (pM X.prog X.w X.K X.mg X.base (p :: (fr ++ ls)) qual scope fa (.ref c') cl X.A X.stack s H) [] (some v :: (fv.map some ++ ls.map λ_=>none)) H { s with heap:=h',toks:=s.toks + [(p,u)].length }:=by
   have kL:∀ b:Addr,b ∉ (pM X.prog X.w X.K X.mg X.base (p :: (fr ++ ls)) qual scope fa (.ref c') cl X.A X.stack s H).ex:=λb z=>absurd (show b ∈ ([]:List Addr) from z) Z5
   refine⟨⟨e0.mod,L.kind,rfl,rfl,Wi _,CC.inj,λy hy=>?_,λy c z _=>by (have z':false=true:=z; cases z'),λ_=>hr.hd,Around.frames_deeper e0.frames,.inr ⟨rfl,rfl⟩,λb z=>absurd z (kL b),e0.bs,e0.kI,λb _ _=>kL b,λb z=>absurd z (kL b),e0.iJ,e0.mV⟩,
    rfl,e0.bare,Un.kept hk,⟨_,rN,λi y w e1 e2 e3=>?_⟩,λy c e=>?_,e0.aC.fresh (Wi _),λy c e=>(CC.cell y c e).2.1,λz hz=>absurd (show z ∈ ([]:List (Addr×Obj)) from hz) Z5,e0.aC.kept hk,?_⟩
   ·have hy:scope.names.lookup y=some .cell\/scope.names.lookup y=some .free:=hy;rcases hy with hy | hy
    ·exact absurd rfl (L.EY _ (WB hy))
    ·obtain⟨i,hi,rfl⟩:=U1 (L.free y hy);have Ux:i < fv.length:=%[CC.rW|hi]
     obtain⟨c,u',q1,_⟩:=CC.val i fr[i] fv[i] #v[hi] #v[Ux];exact⟨c,q1⟩
   ·cases i with
    | zero =>
     simp at e2;have e1:some p=some y:=e1
     cases e1;subst e2;refine⟨u,rv,.inl ⟨L.loc,?_⟩⟩;simp
    | succ i =>
     have e1:(fr ++ ls)[i]? = some y:=e1;have e2:(fv.map some ++ ls.map λ_=>(none:Option V))[i]? = some (some w):=e2;have hi:i < fr.length:=by
      rcases Nat.lt_or_ge i fr.length with z | z
      ·exact z
      ·rw[Jl (by simpa[CC.rW] using z),Wj] at e2
       cases z:ls[i - (fv.map some).length]? with
       | none=>rw[z] at e2; cases e2
       | some _=>rw[z] at e2; cases e2
     rw[Q8 hi] at e1;rw[Q8 (by simpa[CC.rW] using hi),Wj] at e2;have e2:fv[i]? = some w:=by
      cases z:fv[i]? with
      | none=>rw[z] at e2; cases e2
      | some a=>rw[z] at e2; cases e2; rfl
     obtain⟨c,u',q1,⟨o,ho,hd⟩,q3⟩:=CC.val i y w e1 e2;exact⟨u',q3,.inr ⟨.inr (L.RN y (Wq e1)),c,q1,o,hk c o ho,hd⟩⟩
   ·obtain⟨⟨w,o,ho,hd⟩,_⟩:=CC.cell y c e;exact⟨w,o,hk c o ho,hd⟩
   ·show(some v :: (fv.map some ++ ls.map λ_=>none)).length=(p :: (fr ++ ls)).length;simp[CC.rW]
  refine Qw (dW (.ref c') (hr.deeper _) [] _ _ H _ J q) (λfl s' hs=>?_) λe s' z=>z.elim
  cases fl with
  | ret u' =>
   obtain⟨v',σ',H',J',r',q'⟩:=hs;exact⟨v',H',J'.os,J'.bare,J'.base,J'.aC,r',q'⟩
  | next =>
   obtain⟨σ',H',J',q'⟩:=hs;exact⟨.bp,H',J'.os,J'.bare,J'.base,J'.aC,rfl,q'⟩
  | brk =>
   obtain⟨_,_,_,q'⟩:=hs;exact False.elim q'
  | cont =>
   obtain⟨_,_,_,q'⟩:=hs;exact False.elim q'
 ·cases r with
  | error e=>exact hq.elim
  | ok fl =>
   cases fl with
   | ret u=>exact I.after hq
   | next=>exact False.elim hq
   | brk=>exact False.elim hq
   | cont=>exact False.elim hq
end
section
variable {nm q:Str}{c P:Addr}{Q:Flow->W4->Prop}
theorem Uy(I:Inv X pins σ H s)(hP:H P=some (.ctab pos q))(hq:Ug X.env nm nm=q)(pR:params.defaults=[])(zc:params.kw_defaults=[])(ze:annTrees params none X.env=[])(lr:closureFor scope X.env=pure cl)(vC:X.env.code = .ref c)
  (CH:JB X.K c P=true) (zf:Wy≠P) (hB:X.base.BuiltinsAt X.mg P) (hN:X.N.Nodup) (hj:X.N[j]? = some nm) (hl:X.env.scope.names.lookup nm=some .local)
  (h:∀ fa H' s',Inv X pins (σ.set j (some (.ref fa))) H' s'->(∀ a o,H a=some o->H' a=some o)->kn H' fa nm q params body scope cl->Q .next s') :
  W8 (model X.prog X.w) X.A (exec (.FunctionDef nm params body [] none [] scope none nm pos) X.env) Q E s:=by
 subst hq;obtain⟨ps,hp,ht,hr⟩:=I.aC P _ hP;have FY:=PySem.W.codeHd_of_K I.e_ CH;have hg:s.heap.Ns Wy X.mg:=I.mod.glob.keeps I.bk;have hb:=hB.keeps I.bk;have fin:∀ (H1:Hp) (h':Heap) (tk:Tok) (doc pm eU:Value) (c':Addr) (oc:Obj),Inv X pins σ H1 { s with heap:=h',toks:=tk }->(∀ a o,H a=some o->H1 a=some o)->H1 c'=some (.frz oc (.ext λ_=>True))->(∃ vs tq,oc.data = .fields vs/\vs[1]? = some (.str (Ug X.env nm nm) tq)) ->
   W8 (model X.prog X.w) X.A (storeName X.env nm (.ref h'.objs.size)) (λ_ mZ=>Q .next mZ) E { s with heap:=h'.push (Uf nm (Ug X.env nm nm) params body scope cl doc pm c' eU),toks:=tk }:=by
  intro H1 h' tk doc pm eU c' oc J up fQ hoc;have hn:H1 h'.objs.size=none:=J.aC.fresh (Wi _);have mE:∀ a o,H1 a=some o->upd H1 h'.objs.size (.frz (Uf nm (Ug X.env nm nm) params body scope cl doc pm c' eU) (.ext λ_=>True)) a=some o:=λa o e=>%[aR (fA e hn)|e]
  have J2:=J.laid (a:=h'.objs.size) (t':=tk) (o:=.frz (Uf nm (Ug X.env nm nm) params body scope cl doc pm c' eU) (.ext λ_=>True)) (h':=h'.push (Uf nm (Ug X.env nm nm) params body scope cl doc pm c' eU)) (λb o e=>W7 _ e) (Wi _)
   ⟨Wh _ rfl,trivial,⟨_,Wh _ rfl⟩,by grind⟩
  refine we J2 hN hj (.inl hl) (v:=.ref h'.objs.size) rfl (λs' I'=>h _ _ s' I' (λa o e=>mE a o (up a o e)) ⟨doc,pm,c',eU,oc,cI,mE _ _ fQ,hoc⟩) (.inr hl)
 refine PySem.W.nestDef_K pR zc ze ?_
 cases e:codeAmong pos ps.toList with
 | some cv =>
  obtain⟨c',oc,rfl,q1,q2⟩:=hr cv e;refine PySem.W.makeFunction_hit lr I.ok.glob hg vC FY hp ht e hb λeU doc h' tk hk hsz=>?_
  exact fin H h' tk doc _ eU c' oc (I.un (Un.kept hk) (I.aC.kept hk)) (λ_ _ z=>z) q1 q2
 | none =>
  refine PySem.W.makeFunction_K lr I.ok.glob hg vC FY hp ht e zf hb λc' eU doc h' tk hx FZ bu Uz F0=>?_
  obtain⟨c2,oc,vs,tq,ec,hoc,hd,hv⟩:=Uz
  cases ec;have hn:H c'=none:=I.aC.fresh FZ;have up:∀ a o,H a=some o->upd H c' (.frz oc (.ext λ_=>True)) a=some o:=λa o z=>%[aR (fA z hn)|z]
  have nP:∀ b,H b=none->b≠P:=λb n z=>by grind
  refine fin (upd H c' (.frz oc (.ext λ_=>True))) h' tk doc _ eU c' oc (I.un ⟨λb o e n _ _=>hx b o (nP b n) e,λb o e n _ _=>⟨o.slots,hx b o (nP b n) e⟩,λb o e n _=>%[aR (WX (WH (Ws e) FZ))|n],
   λb o e _=>?_,λb xs e=>up _ _ e,λb o u e=>up _ _ e,λb ps e=>⟨#[],by rw[up _ _ e]; simp⟩⟩ ?_) up cI ⟨vs,tq,hd,hv⟩
  ·by_cases z:b=P
   ·exact⟨_,%[z|F0]⟩
   ·exact⟨o,hx b o z e⟩
  ·intro a o ea;by_cases h1:a=c'
   ·subst h1;rw[cI] at ea; cases ea
    exact⟨hoc,trivial,⟨_,hoc⟩,by grind⟩
   ·rw[aR h1] at ea;by_cases h2:a=P
    ·subst h2;rw[hP] at ea; cases ea
     refine⟨_,F0,?_,λcv z=>?_⟩
     ·rw[Array.toList_append];exact E3 (a:=.none) ht
     ·rw[Array.toList_append] at z;have:=E4 ht e z;subst this;exact⟨c',oc,rfl,cI,vs,tq,hd,hv⟩
    ·refine(I.aC a o ea).gE (λb u hb q=>hx b u (λz=>?_) q) (λb q=>up _ _ q) (λb xs q=>up _ _ q) λb o u q=>up _ _ q
     grind
end
noncomputable def jS(m:Nat)(fb:DS)(dv:List D):D->Option D:=λd=>match fb (some (.pure d) :: (dv.map (λx=>some (.pure x)) ++ Wm m none)) with
 | .ok (.ret r) _=>some r.d
 | _=>none
theorem UA{l:List D}{m:Nat}(i:Nat)(x:D):((l.map λx=>some (S.pure x)) ++ Wm m none:Dl)[i]?≠some (some (.own x)):=λe=>by
 have:=Wq e;simp[List.mem_replicate] at this
section
variable {nm:Str}{fr:List Str}{p:Str}{k:Nat}{fb:DS}
theorem UB(hex:X.ex=[])(hH:c.H₀=X.H₀)(hp:c.pin=[])(C:kn X.H₀ fa nm qual params body scope cl)(CC:n8 X.H₀ X.fs X.s₀.heap cl fr fv)(L:vi p fr scope)(hr:cQ (k + 1) X.A)
  (hb:∀ doc pm aU eU u,bindArgs (PySem.W.fnX nm qual params body scope cl .none .none doc pm none aU eU) ⟨[u],[]⟩=pure [(p,u)]) (rv:aK X.H₀ c.B fv dv)
  (dW:∀ (c':Fc) cd (s:W4) H,cQ k (X.A.deeper (Jz qual scope s.heap.objs.size fa cd cl))->c'.pin=[]->eM (pM X.prog X.w X.K X.mg X.base (p :: (fr ++ ls)) qual scope fa cd cl X.A X.stack s H) c' body fb) :
  vj X c fa (jS ls.length fb dv):=by
 have lu:∀ a,¬ c.I a:=λa ⟨i,z⟩=>by rw[hp] at z; simp at z
 have C1:∀ pins σ H s,Inv X pins σ H s->kn H fa nm qual params body scope cl:=λpins σ H s I=>C.keep I.base.jW
 have C2:∀ pins σ H s,Inv X pins σ H s->n8 H X.fs s.heap cl fr fv:=λpins σ H s I =>
  CC.keep λb o e n hb=>⟨I.base.keep b o e n hb (by rw[hex]; simp),I.base.free b o e n (by rw[hex]; simp)⟩
 refine⟨λpins σ H s I=>?_,λpins s σ δ H v u d d' Q I ok rd ru hF q=>?_⟩
 ·obtain⟨doc,pm,c',eU,oc,h1,_⟩:=C1 pins σ H s I;exact⟨_,(I.aC fa _ h1).1⟩
 ·have key:∀ (i:Nat) w x,fv[i]? = some w->dv[i]? = some x->Rep H (Av c σ δ) w x:=λi w x e1 e2=>by
   have r0:=rv.2 i w x e1 e2;have r1:Rep X.H₀ (Av c σ δ) w x:=r0.aM λa z=>by
    rcases z with z | ⟨j,d,z1,z2⟩
    ·exact .inl z
    ·obtain⟨b,z3,_,z4,_⟩:=ok.own j d z1;rw[z2] at z3; cases z3
     rcases z4 with z4 | z4
     ·exact absurd z4 (lu _)
     ·exact .inr (by rw[<- hH]; exact z4)
   exact r1.keep λa o e _=>ok.keep a o %[hH|e] (lu a)
  refine T_ (ls:=ls) (t:=nD ⟨H,Av c σ δ,[],λ_ _=>False⟩ fb) I (C1 pins σ H s I) (C2 pins σ H s I) L hr ru hb (λcd ic=>dW _ cd s H ic rfl) ?_;have fB:∀ (i:Nat) x,(some (S.pure d) :: (dv.map (λx=>some (S.pure x)) ++ Wm ls.length none))[i]? = some (some (.own x))->False:=λi x e=>UA (l:=d :: dv) i x e
  have vD:∀ b,Av ⟨H,Av c σ δ,[],λ_ _=>False⟩ (some v :: (fv.map some ++ ls.map λ_=>none)) (some (S.pure d) :: (dv.map (λx=>some (S.pure x)) ++ Wm ls.length none)) b->Av c σ δ b:=λb z=>by
   rcases z with z | ⟨i,x,z1,_⟩
   ·exact z
   ·exact(fB i x z1).elim
  refine⟨_,⟨λa o e _=>e,λa z=>ok.uk z,λa ⟨i,z⟩=>by simp at z,?_,λi x e=>?_,λi x e=>(fB i x e).elim,λi j a x x' e=>(fB i x e).elim,λz hz=>by simp at hz⟩,?_⟩
  ·simp[rv.1]
  ·cases i with
   | zero =>
    simp at e;subst e;exact⟨v,rfl,rd.aM λb z=>.inl (vD b z)⟩
   | succ i =>
    rw[Q6] at e;have hi:i < dv.length:=by
     rcases Nat.lt_or_ge i dv.length with z | z
     ·exact z
     ·rw[Jl (~~~z)] at e;have:=Wq e;simp[List.mem_replicate] at this
    rw[Q8 (~~~hi),Wj] at e
    cases z:dv[i]? with
    | none=>rw[z] at e; cases e
    | some y =>
     rw[z] at e; cases e
     have gG:i < fv.length:=%[rv.1|hi]
     refine⟨fv[i],?_,(key i fv[i] x #v[gG] z).aM λb z=>.inl (vD b z)⟩;rw[Q6,Q8 (~~~gG),Wj];simp[gG]
  ·unfold jS at hF
   cases e:fb (some (.pure d) :: (dv.map (λx=>some (.pure x)) ++ Wm ls.length none)) with
   | exc x δx=>rw[e] at hF; cases hF
   | stuck=>rw[e] at hF; cases hF
   | ok fl δ' =>
    rw[e] at hF
    cases fl with
    | ret r =>
     cases hF;intro σ' H' a v' rs;have up:∀ b o,H b=some o->H' b=some o:=λb o eb=>a.ok.keep b o eb λ⟨i,z⟩=>by simp at z
     exact q v' H' (.mono ok up) (rs.rep.aM λb z=>.inl (.inl z))
    | next=>cases hF
    | brk=>cases hF
    | cont=>cases hF
end
def zg(P:Wo)(w:Wt)(K:W5)(mg:Str->Option Value)(base:Heap)(n:Nat)(N:List Str)(qual:Str)(scope:Scope)(f:Addr)(k:Nat)(iB:Addr->(D->Option D)->DS):List Env->W4->Sp:=λouter s vs H Q _ =>
 ∃ (l:List D) (fa:Addr) (F:D->Option D) (B:Addr->Prop),vs.length=n/\Ok ⟨H,B,[],λ_ _=>False⟩ (cD vs) (cE (l.map .pure)) H /\
  (∀ aU A E,cQ k (A.deeper (Jo qual scope s.heap.objs.size f aU))->A.frames=some outer->vj (fU dX P w K mg base N qual scope f aU A outer s H E).gF ⟨H,B,[],λ_ _=>False⟩ fa F) /\
  ∃ r aT,eN (iB fa F) N.length (l.map .pure)=some (r,aT) /\
   ∀ v' H',aS ⟨H,B,[],λ_ _=>False⟩ (cD vs) (cE (l.map .pure)) H (cD vs) (cE aT) H'->bD ⟨H,B,[],λ_ _=>False⟩ (cD vs) (cE aT) H H' v' r->Q v' H'
theorem F1:∀ (l:List D) i vs,c_ i (l.map .pure) vs=[]
 | [],_,[]=>rfl
 | [],_,_ :: _=>rfl
 | _ :: _,_,[]=>rfl
 | d :: l,i,v :: vs=>#v[c_,F1 l]
theorem F2{st f k}(F:eB K x qual st f fd)(S0:gj N ps (bM st))
  (dW:∀ c aU (A:Wv) outer (s:W4) H E fa Fn,cQ k (A.deeper (Jo qual (bM st) s.heap.objs.size f aU))->Np c []->vj (fU dX P w K mg base N qual (bM st) f aU A outer s H E).gF c fa Fn->eM (fU dX P w K mg base N qual (bM st) f aU A outer s H E).gF c (eA st) (iB fa Fn)) :
  yJ P w K mg base (k + 1) f fd ps (zg P w K mg base ps.length N qual (bM st) f k iB):=by
 refine F.RM S0 (λouter s vs H Q E h=>?_) λaU A outer s H vs Q E hr j4 h=>?_
 ·obtain⟨l,fa,Fn,B,h,_⟩:=h;exact h
 ·obtain⟨l,fa,Fn,B,hl,ok,rX,r,aT,hrun,q⟩:=h;refine⟨nD ⟨H,B,[],λ_ _=>False⟩ (iB fa Fn),dW ⟨H,B,[],λ_ _=>False⟩ aU A outer s H E fa Fn hr (λp hp=>by simp at hp) (rX aU A E hr j4),?_⟩;have jL:(l.map S.pure).length=vs.length:=by have:=ok.len; simpa using this
  have c9:gk N vs=cD vs ++ Wm (N.length - (l.map S.pure).length) none:=by rw[jL]; rfl
  refine⟨bV N.length (l.map .pure),%[c9|ok.ext _],?_⟩;unfold eN at hrun;unfold eC;have jg:c_ 0 (l.map .pure) vs=[]:=F1 l 0 vs
  cases e:iB fa Fn (bV N.length (l.map .pure)) with
  | exc x δx=>rw[e] at hrun; cases hrun
  | stuck=>rw[e] at hrun; cases hrun
  | ok fl δ' =>
   rw[e] at hrun;show ∀ σ' H',aS _ (gk N vs) (bV N.length (l.map .pure)) H σ' δ' H'->fin _ _ σ' δ' H' fl;intro σ' H' a;rw[c9] at a;simp only at hrun
   cases fl with
   | brk=>cases hrun
   | cont=>cases hrun
   | next =>
    simp only[cH,WT] at hrun
    cases eo:cf 0 (l.map .pure) δ' with
    | none=>rw[eo] at hrun; cases hrun
    | some os =>
     rw[eo] at hrun
     cases hrun;obtain⟨l1,l2⟩:=pw (vs:=vs) (by rw[jg]) ok a eo;exact q .bp H' l1 .bp
   | ret r' =>
    simp only[cH,WT] at hrun
    cases eo:cf 0 (l.map .pure) δ' with
    | none=>rw[eo] at hrun; cases hrun
    | some os =>
     rw[eo] at hrun
     cases hrun;obtain⟨l1,l2⟩:=pw (vs:=vs) (by rw[jg]) ok a eo;exactλv' rv=>q v' H' l1 (l2 v' _ rv)
def n9:List (Option D)->Option (List D)
 | []=>some []
 | some d :: r=>(n9 r).map (d :: ·)
 | none :: _=>none
def mJ:List Nat->Dl->Option (List D)
 | [],_=>some []
 | j :: js,δ=>match δ[j]? with
  | some (some (.pure d))=>(mJ js δ).map (d :: ·)
  | _=>none
def mK(m:Nat)(W:(D->Option D)->List D->Option D)(js:List Nat)(fb:DS)(as:List Ak):DE:=λδ=>(bY as δ).bind λds δ1=>match n9 ds,mJ js δ1 with
 | some l,some dv=>match W (jS m fb dv) l with
  | some d'=>.ok (.pure d') δ1
  | none=>.stuck
 | _,_=>.stuck
noncomputable def iD(b:Addr->(D->Option D)->DS)(m:Nat)(fa:Addr)(F:D->Option D)(l:List D):Option D:=(eN (b fa F) m (l.map .pure)).map λp=>p.1.d
def rY(P:Wo)(w:Wt)(K:W5)(mg:Str->Option Value)(base:Heap)(k:Nat)(x:Str)(n m:Nat)(iB:Addr->(D->Option D)->DS):Prop :=
 ∃ (f:Addr) (fd:Qh) (ps:List Str) (qual:Str) (scope:Scope) (N:List Str),N.length=m/\mg x=some (.ref f)/\Jv K (.ref f)=true/\Binds K fd ps []/\ps.length=n/\yJ P w K mg base (k + 1) f fd ps (zg P w K mg base n N qual scope f k iB)
theorem UC(h:iQ c σ δ H vs as ds):∀ {l:List D},n9 ds=some l->aK H (Av c σ δ) vs l/\vs.length=as.length:=by
 induction h with
 | nil=>intro l e; cases e; exact⟨.nil,rfl⟩
 | @val v d f vs as ds r _ ih =>
  intro l e;simp only[n9] at e
  cases z:n9 ds with
  | none=>rw[z] at e; cases e
  | some l' =>
   rw[z] at e; cases e
   exact⟨.cons r (ih z).1,#v[(ih z).2]⟩
 | io _ _ _=>intro l e; cases e
theorem F3(k:Ok c σ δ H):∀ {js:List Nat} {dv:List D},mJ js δ=some dv->∃ fv:List V,fv.length=js.length/\(∀ (i:Nat) j,js[i]? = some j->∃ v,fv[i]? = some v/\σ[j]? = some (some v))/\aK H (Av c σ δ) fv dv
 | [],dv,h=>by cases h; exact⟨[],rfl,λi j e=>by simp at e,.nil⟩
 | j :: js,dv,h=>by
  simp only[mJ] at h;split at h
  ·rename_i d e;obtain⟨v,e1,r⟩:=k.slot j d e
   cases z:mJ js δ with
   | none=>rw[z] at h; cases h
   | some l =>
    rw[z] at h; cases h
    obtain⟨fv,h1,h2,h3⟩:=F3 k z;refine⟨v :: fv,#v[h1],λi j' ej=>?_,.cons r h3⟩
    cases i with
    | zero=>simp at ej; subst ej; exact⟨v,rfl,e1⟩
    | succ i =>
     obtain⟨v',q1,q2⟩:=h2 i j' (~~~ej);exact⟨v',~~~q1,q2⟩
  ·cases h
section
variable {fb:DS}{nm q:Str}{fr:List Str}{p:Str}{kl kw m:Nat}
theorem F4(F:rY X.prog X.w X.K X.mg X.base kw x n m iB)
  (C:kn c.H₀ fa nm q params body scope cl) (jg:Np c []) (hr:cQ (kw + 1) X.A) (UD:kl + 1<=kw) (hg:Gl X x) (ha:SX X c (e :: es) as) (hn:as.length=n) (fH:∀ i,Ak.io i ∈ as->False) (kJ:∀ x,X.fn x=true)
  (iX:∀ x a,cl.lookup x=some a->X.env.cells.lookup x=some a) (L:vi p fr scope) (F5:js.length=fr.length)
  (hN:∀ (i:Nat) x j,fr[i]? = some x->js[i]? = some j->X.N[j]? = some x/\X.env.scope.names.lookup x=some .cell/\∃ a,cl.lookup x=some a)
  (hb:∀ doc pm aU eU u,bindArgs (PySem.W.fnX nm q params body scope cl .none .none doc pm none aU eU) ⟨[u],[]⟩=pure [(p,u)])
  (dW:∀ (c':Fc) cd (A:Wv) outer (s:W4) H,cQ kl (A.deeper (Jz q scope s.heap.objs.size fa cd cl))->c'.pin=[]->eM (pM X.prog X.w X.K X.mg X.base (p :: (fr ++ ls)) q scope fa cd cl A outer s H) c' body fb)
  (gi:(x == ("__debug__" : Str))=false:=by decide)
  (he:Wd (e :: es) X.env=(false,eval e X.env) :: Wd es X.env:=by rfl) (cB:(Qv pos (Wd es X.env)).any (·.1)=false:=by rfl):SE X c (.Call (.Name x pp) (e :: es) [] pos) (mK ls.length (iD iB m fa) js fb as):=by
 obtain⟨f,fd,ps,qual,sc,N,hNm,m_,hk,hbi,h2,ok⟩:=F;have rZ:c.pin=[]:=by
  cases z:c.pin with
  | nil=>rfl
  | cons a l=>have:=jg a %[z|.head _]; simp at this
 have lu:∀ a,¬ c.I a:=λa ⟨i,z⟩=>by rw[rZ] at z; simp at z
 intro pins s σ H Q I ⟨δ,k,qq⟩;refine JI (wj I hg m_ ?_ gi);refine PySem.W.callWith_K (h₀:=X.base) I.ok.mod.qo hk ?_ he cB;unfold mK at qq;rw[bA] at qq;refine aY (ha pos pins s σ H (λvs H1=>∃ l δ1 dv d',vs.length=n/\aS c σ δ H σ δ1 H1/\aK H1 (Av c σ δ1) vs l/\mJ js δ1=some dv/\iD iB m fa (jS ls.length fb dv) l=some d'/\∀ v' H3,aS c σ δ H σ δ1 H3->Rep H3 (Av c σ δ1) v' d'->Q v' H3) I ⟨δ,k,λi hi=>(fH i hi).elim,aX qq λds δ1 q1 vs H1 a1 r1=>?_⟩) λus s2 ⟨vs,H2,I2,rr,l,δ1,dv,d',hvl,a1,rl,ec,ew,hq⟩=>⟨I2.e_,?_⟩
 ·split at q1
  ·rename_i l dv e1 e2;split at q1
   ·rename_i d' ew;obtain⟨z1,z2⟩:=UC r1 e1;exact⟨l,δ1,dv,d',z2.trans hn,a1,z1,e2,ew,λv' H3 a3 r3=>q1 v' H3 a3 r3⟩
   ·exact q1.elim
  ·exact q1.elim
 ·have k2:=a1.ok;have C2:kn H2 fa nm q params body scope cl:=C.keep λb o u z=>k2.keep b _ z (lu b)
  obtain⟨fv,l1,l2,rf⟩:=F3 k2 ec;have CC:n8 H2 (gZ X.stack) s2.heap cl fr fv:=by
   refine⟨λx a e=>⟨I2.cell x a (iX x a e),I2.i6 x a (iX x a e),I2.RQ kJ (iX x a e)⟩,λx y a e1 e2=>I2.ok.inj x y a (iX x a e1) (iX y a e2),λi x v e1 e2=>?_,by rw[l1,F5]⟩;have hi:i < js.length:=by rw[F5]; exact(W6.mp e1).1
   obtain⟨w',q1,q2⟩:=l2 i js[i] #v[hi];rw[e2] at q1; cases q1
   obtain⟨z1,z2,a,z3⟩:=hN i x js[i] e1 #v[hi];obtain⟨m',_,hl⟩:=I2.loc;obtain⟨u,r1,r2⟩:=hl js[i] x v z1 q2 (.inr (.inl z2));rcases r2 with ⟨z,_⟩ | ⟨_,a',y1,y2⟩
   ·have z':X.env.scope.names.lookup x=some .local:=z;rw[z2] at z'; cases z'
   ·rw[iX x a z3] at y1; cases y1
    exact⟨a,u,z3,y2,r1⟩
  have sp:zg X.prog X.w X.K X.mg X.base n N qual sc f kw iB X.stack s2 vs H2 Q E0:=by
   obtain⟨⟨rs,aT⟩,hrun,rfl⟩:=Option.map_eq_some_iff.mp ew;have fB:∀ (i:Nat) z,(cE (l.map S.pure):Dl)[i]? = some (some (.own z))->False:=λi z e=>by
    have:=Wq e;simp[cE] at this
   have vD:∀ b,Av ⟨H2,Av c σ δ1,[],λ_ _=>False⟩ (cD vs) (cE (l.map S.pure)) b->Av c σ δ1 b:=λb z=>by
    rcases z with z | ⟨i,y,z1,_⟩
    ·exact z
    ·exact(fB i y z1).elim
   refine⟨l,fa,_,Av c σ δ1,hvl,⟨λa o e _=>e,λa z=>k2.uk z,λa ⟨i,z⟩=>by simp at z,#v[cE,cD,rl.1],λi z e=>?_,λi z e=>(fB i z e).elim,λi j a z z' e=>(fB i z e).elim,λz hz=>by simp at hz⟩,λaU A E ic j4=>?_,rs,aT,%[hNm|hrun],λv' H' a r'=>?_⟩
   ·rw[fm,Wj] at e
    cases y:l[i]? with
    | none=>rw[y] at e; cases e
    | some d =>
     rw[y] at e; cases e
     have hi:i < vs.length:=by rw[rl.1]; exact(W6.mp y).1
     exact⟨vs[i],fG.mpr #v[hi],(rl.2 i vs[i] z #v[hi] y).aM λb z=>.inl (vD b z)⟩
   ·exact UB (X:=(fU dX X.prog X.w X.K X.mg X.base N qual sc f aU A X.stack s2 H2 E).gF) (k:=kl) rfl rfl rfl C2 CC L (ic.mono UD) hb rf λc' cd s' H' zh hp=>dW c' cd _ _ s' H' zh hp
   ·have mE:∀ b o,H2 b=some o->H' b=some o:=λb o eb=>a.ok.keep b o eb λ⟨i,z⟩=>by simp at z
    exact hq v' H' (a1.trans (.mono k2 mE)) (Rep.aM r'.rep λb z=>.inl (.inl z))
  have F6:=hbi s2 us I2.e_ (by rw[Ql,h2,<- hvl]; exact rr.length.symm);rw[Ql] at F6;refine wpAny_call (codeAny_mono (ok.run X.A X.stack s2 H2 ⟨us,[]⟩ us vs Q E0 hr I2.wF F6 rr sp) λr s' lj=>?_)
  cases r with
  | error e=>exact lj.elim
  | ok fl =>
   cases fl with
   | ret u=>exact I2.after lj
   | next=>exact False.elim lj
   | brk=>exact False.elim lj
   | cont=>exact False.elim lj
end
theorem zi{i} (hg:Gl X x) (hm:∃ t,X.mg x=some (.str (toS i) t)) (hd:(x == ("__debug__" : Str))=false:=by decide):SE X c (.Name x pos) (eD (.str i)):=by
 obtain⟨t,h⟩:=hm;exact PE.weak (Bf (v:=.str (toS i)) hg h ⟨t,rfl⟩ hd) λσ H Q ⟨δ,k,p⟩=>p _ H (.refl k) (.str i)
def jw(δ:Dl):Dl:=δ.map λ| some (.own d)=>some (.pure d) | x=>x
open Classical in
noncomputable def dDefR (j:Nat) (g:Addr->DS):DS:=λδ=>match g 0 ((jw δ).set j (some (.pure (.fn 0)))) with
 | .ok (.ret (.pure r)) δ'=>if ∀ fa,g fa ((jw δ).set j (some (.pure (.fn fa)))) = .ok (.ret (.pure r)) (δ'.set j (some (.pure (.fn fa)))) then .ok (.ret (.pure r)) (δ'.set j none) else .stuck
 | _=>.stuck
theorem UE{g:Addr->DS}{r}(h:∀ fa,g fa ((jw δ).set j (some (.pure (.fn fa)))) = .ok (.ret (.pure r)) (δ'.set j (some (.pure (.fn fa))))):dDefR j g δ = .ok (.ret (.pure r)) (δ'.set j none):=by
 unfold dDefR;rw[h 0];simp only[List.set_set];exact if_pos λfa=>by rw[h fa,List.set_set]
theorem UG{d}:(jw δ)[i]?≠some (some (.own d)):=λe=>by
 have:=Wq e;simp only[jw,List.mem_map] at this;obtain⟨x,_,h⟩:=this;split at h
 ·cases h
 ·grind
theorem UH{d}(e:(jw δ)[i]? = some (some (.pure d))):δ[i]? = some (some (.pure d))\/δ[i]? = some (some (.own d)):=by
 rw[jw,Wj] at e
 cases z:δ[i]? with
 | none=>rw[z] at e; cases e
 | some x =>
  rw[z] at e;simp only[WI,We] at e;split at e
  ·cases e; exact .inr rfl
  ·rw[e]; exact .inl rfl
section
variable {nm q:Str}{rest:List Stmt}{P:Addr}{g:Addr->DS}
theorem UI(ft:FT ts c)(lx:(P,pos,q) ∈ ts)(jg:Np c [])(hq:Ug X.env nm nm=q)(pR:params.defaults=[])(zc:params.kw_defaults=[])(ze:annTrees params none X.env=[])(lr:closureFor scope X.env=pure cl)(vC:X.env.code = .ref code)
  (CH:JB X.K code P=true) (zf:Wy≠P) (hB:X.base.BuiltinsAt X.mg P) (hN:X.N.Nodup) (hj:X.N[j]? = some nm) (hl:X.env.scope.names.lookup nm=some .local)
  (UJ:∀ c' fa,FT ts c'->Np c' []->kn c'.H₀ fa nm q params body scope cl->eM X c' rest (g fa)):eM X c (.FunctionDef nm params body [] none [] scope none nm pos :: rest) (dDefR j g):=by
 have rZ:c.pin=[]:=by
  cases z:c.pin with
  | nil=>rfl
  | cons a l=>have:=jg a %[z|.head _]; simp at this
 have lu:∀ a,¬ c.I a:=λa ⟨i,z⟩=>by rw[rZ] at z; simp at z
 intro pins s σ H D I ⟨δ,k,qq⟩;unfold dDefR at qq;split at qq
 ·rename_i r δ' e0;split at qq
  ·rename_i gn;refine wpAny_execs_cons (Uy I (ft.now k _ lx) hq pR zc ze lr vC CH zf hB hN hj hl λfa H' s' I' up dO=>?_);have F7:j < δ.length:=by rw[k.len,I.len]; exact(W6.mp hj).1
   have fB:∀ (i:Nat) z,((jw δ).set j (some (S.pure (.fn fa))))[i]? = some (some (.own z))->False:=λi z e=>by
    rw[Q0] at e;split at e
    ·split at e <;> cases e
    ·exact UG e
   have UK:Ok { c with H₀:=H' } (σ.set j (some (.ref fa))) ((jw δ).set j (some (.pure (.fn fa)))) H':=by
    have sub:∀ b,Av { c with H₀:=H' } (σ.set j (some (.ref fa))) ((jw δ).set j (some (.pure (.fn fa)))) b->c.B b:=λb z=>z.elim id λ⟨i,d,z1,_⟩=>(fB i d z1).elim
    refine⟨λa o e _=>e,λa z=>(k.bd a z).elim λo e=>⟨o,up _ _ e⟩,λa z=>absurd z (lu a),#v[jw,k.len],λi d e=>?_,λi d e=>(fB i d e).elim,λi j a d d' e=>(fB i d e).elim,λp hp=>by rw[show({ c with H₀:=H' }:Fc).pin=[] from rZ] at hp; simp at hp⟩;by_cases hi:j=i
    ·subst hi;rw[Wr (by simpa[jw] using F7)] at e
     cases e;exact⟨.ref fa,Wr (by rw[<- k.len]; exact F7),.fn fa⟩
    ·rw[W9 hi] at e;rw[W9 hi];rcases UH e with e | e
     ·obtain⟨v,h1,h2⟩:=k.slot i d e;exact⟨v,h1,(h2.aM λb z=>.inl (.inl (sub b z))).keep λa o z _=>up a o z⟩
     ·obtain⟨a,h1,h2,_,h4⟩:=k.own i d e;exact⟨.ref a,h1,((h2.aM λb z=>.inl (.inl (sub b z))).rep λz=>h4 (sub a z)).keep λa o z _=>up a o z⟩
   refine UJ { c with H₀:=H' } fa ⟨λt ht=>up _ _ (ft.now k t ht),ft.n⟩ jg dO pins s' _ H' D I' ⟨_,UK,?_⟩;unfold eC;rw[gn fa];intro σ' H2 a v rv;have rv:Rep H2 (Av { c with H₀:=H' } σ' (δ'.set j (some (.pure (.fn fa))))) v r:=rv;have rC:∀ b,Own σ' (δ'.set j none) b->Own σ' (δ'.set j (some (.pure (.fn fa)))) b:=λb ⟨i,d,z1,z2⟩=>by
    refine⟨i,d,?_,z2⟩;rw[Q0] at z1 ⊢;split at z1
    ·split at z1 <;> cases z1
    ·rename_i hh; rw[if_neg hh]; exact z1
   have zj:∀ b,Av c σ' (δ'.set j none) b->Av { c with H₀:=H' } σ' (δ'.set j (some (.pure (.fn fa)))) b:=λb z=>z.elim .inl λz=>.inr (rC b z)
   have gt:∀ (i:Nat) y,(δ'.set j none:Dl)[i]? = some (some y)->(δ'.set j (some (.pure (.fn fa))))[i]? = some (some y):=λi y e=>by
    rw[Q0] at e ⊢;split at e
    ·split at e <;> cases e
    ·rename_i hh; rw[if_neg hh]; exact e
   refine qq σ' H2 ⟨⟨λb o e n=>a.keep b o (up _ _ (k.keep b o e n)) λ⟨i,d,z,_⟩=>fB i d z,λb z=>a.ok.bd b z,λb z=>absurd z (lu b),by have:=a.ok.len; simpa using this,λi d e=>?_,λi d e=>?_,λi l b d d' e1 e2=>a.ok.inj i l b d d' (gt i _ e1) (gt l _ e2),λp hp=>by rw[rZ] at hp; simp at hp⟩,
    λb o e _=>a.keep b o (up _ _ e) λ⟨i,d,z,_⟩=>fB i d z,λb z=>(a.own b (rC b z)).elim (λ⟨i,d,z,_⟩=>(fB i d z).elim) λn=>.inr ?_,λb o e=>a.there b o (up _ _ e)⟩ v (rv.aM λb z=>.inl (zj b z))
   ·obtain⟨v,h1,h2⟩:=a.ok.slot i d (gt i _ e);exact⟨v,h1,h2.aM λb z=>.inl (zj b z)⟩
   ·obtain⟨b,h1,h2,h3,h4⟩:=a.ok.own i d (gt i _ e);refine⟨b,h1,h2.aM λb z=>.inl (zj b z),.inr ?_,h4⟩;have h3:H' b=none:=h3.elim (λz=>absurd z (lu b)) id
    cases z:c.H₀ b with
    | none=>rfl
    | some o=>have:=up _ _ (k.keep b o z (lu b)); rw[h3] at this; cases this
   ·cases z:H b with
    | none=>rfl
    | some o=>have:=up _ _ z; rw[n] at this; cases this
  ·exact qq.elim
 ·exact qq.elim
end
inductive Sd where
 | sq (b:Bool) (a:Addr)
 | tx (x:Str) (t:Tok)
def Sd.val:Sd->Value
 | .sq _ a=>.ref a
 | .tx x t=>.str x t
def Sd.obj:Sd->Obj
 | .sq b a=>Eo b a
 | .tx x t=>{ cls:=.type (Jt x),data:=.fields #[.str x t,.int 0 0] }
def Sd.there(h:Heap):Sd->Prop
 | .sq b a=>∃ ak,k9 b h a ak
 | .tx _ _=>True
def Sd.at(h:Heap)(it:Addr)(i:Nat):Sd->Prop
 | .sq b a=>En b h it a i
 | .tx x t=>h.IsStrIter it (Jt x) x t i
def Sd.fp:Sd->List Addr
 | .sq _ a=>[a]
 | .tx _ _=>[]
theorem Sd.live{S:Sd}(q:S.at h it i):∃ o,h.get? it=some o/\∀ v,o.data≠.cell v:=by
 cases S with
 | sq b a =>
  cases b
  ·obtain⟨o,e,c,d⟩:=(q:h.IsTupleIter it a i)
   exact⟨o,e,λv z=>by rw[d] at z; cases z⟩
  ·obtain⟨o,e,c,d⟩:=(q:h.IsListIter it a i)
   exact⟨o,e,λv z=>by rw[d] at z; cases z⟩
 | tx x t =>
  obtain⟨o,e,c,d⟩:=(q:h.IsStrIter it _ x t i)
  exact⟨o,e,λv z=>by rw[d] at z; cases z⟩
theorem Sd.gE{S:Sd}(q:S.at h it i)(k:∀ o,h.get? it=some o->h'.get? it=some o):S.at h' it i:=by
 cases S with
 | sq b a =>
  cases b
  ·obtain⟨o,e,r⟩:=(q:h.IsTupleIter it a i)
   exact⟨o,k o e,r⟩
  ·obtain⟨o,e,r⟩:=(q:h.IsListIter it a i)
   exact⟨o,k o e,r⟩
 | tx x t =>
  obtain⟨o,e,r⟩:=(q:h.IsStrIter it _ x t i)
  exact⟨o,k o e,r⟩
theorem Sd.iter{prog w A}{E:Value->W4->Prop}{S:Sd}(h:S.there s.heap)(q:Q (.ref s.heap.objs.size) { s with heap:=s.heap.push S.obj }):W8 (model prog w) A (pyIter S.val) Q E s:=by
 cases S with
 | sq b a =>
  obtain⟨ak,h⟩:=h;exact P7 h q
 | tx x t=>exact wpAny_pyIter_strU q
theorem Sd.push{S:Sd}(q:S.there h)(o):S.there (h.push o):=by
 cases S with
 | sq b a =>
  obtain⟨ak,q⟩:=q;exact⟨ak,q.push o⟩
 | tx x t=>trivial
abbrev vE(h:Heap)(a:Obj):Heap:=h.push a
abbrev vF(h:Heap)(a b:Obj):Heap:=(vE h a).push b
abbrev vG (h:Heap) (a b:Obj):Heap:=(vF h a b).push { cls:=.type "tuple",data:=.seq #[.ref h.objs.size,.ref (vE h a).objs.size] }
abbrev vH (h:Heap) (a b:Obj):Heap:=(vG h a b).push { cls:=.type "tuple",data:=.seq #[.none,.none] }
abbrev pT (h:Heap) (a b:Obj):Heap:=(vH h a b).push { cls:=.type "zip",data:=.fields #[.none,.bool false,.bool false,.ref (vF h a b).objs.size,.ref (vG h a b).objs.size] }
theorem UL (S T:Sd):Meets (Builtin.«zip.__new__» ⟨[.type "zip",S.val,T.val],[]⟩) (λ_ R s=>S.there s.heap/\T.there s.heap/\R (.ok (.ret (.ref (vH s.heap S.obj T.obj).objs.size))) { s with heap:=pT s.heap S.obj T.obj }) :=
 .of_wp λprog w A R s h=>by
  obtain⟨hp,g,d,tk,os⟩:=s;obtain⟨h1,h2,h⟩:=h;have iX:=sub_zip;have p1:∀ {A:Wv} {E:Value->W4->Prop} {s:W4} {Q:Value->W4->Prop},S.there s.heap->Q (.ref s.heap.objs.size) { s with heap:=s.heap.push S.obj }->W8 (model prog w) A (pyIter S.val) Q E s:=λq h=>Sd.iter q h
  have p2:∀ {A:Wv} {E:Value->W4->Prop} {s:W4} {Q:Value->W4->Prop},T.there s.heap->Q (.ref s.heap.objs.size) { s with heap:=s.heap.push T.obj }->W8 (model prog w) A (pyIter T.val) Q E s:=λq h=>Sd.iter q h
  have h1:S.there (Shared.heap ⟨hp,g,d,tk,os⟩):=h1;have h2:T.there (Shared.heap ⟨hp.push S.obj,g,d,tk,os⟩):=Sd.push h2 _;generalize S.val=u1 at *;generalize T.val=u2 at *;generalize S.obj=o1 at *;generalize T.obj=o2 at *;wp_walk using p1 h1,p2 h2
  exact⟨_,rfl,h⟩
def pU(S T:Sd)(n i:Nat)(h:Heap):Prop:=(∃ v0 f,f6 h (n + 4) (n + 2) (n + 3) v0 f/\(v0 = .none\/∃ p:Addr,v0=Qa p))/\IsPair h (n + 2) (.ref n) (.ref (n + 1))/\(∃ a b,IsPair h (n + 3) a b)/\S.at h n i/\T.at h (n + 1) i
abbrev fK(n:Nat):List Addr:=[n + 4,n + 2,n + 3,n,n + 1]
theorem F8{S}(h1:S.there s.heap)(h2:T.there s.heap)
  (h:∀ h',pU S T s.heap.objs.size 0 h'->IsZip h' (s.heap.objs.size + 4) (s.heap.objs.size + 2) (s.heap.objs.size + 3) .none->(∀ c o,s.heap.get? c=some o->h'.get? c=some o)->Q (.ref (s.heap.objs.size + 4)) { s with heap:=h' }) :
  W8 (model prog w) A (call (.type "zip") [S.val,T.val]) Q E s:=by
 refine callType_new F.called_zip Z' (F.typeCall_zip_2 _ _) (F.newCall_zip_2 _ _) (λobj=>F.args_object_init_3 obj _ _) F.entry_zip_new (UL S T) ⟨h1,h2,?_⟩;have z1:(vE s.heap S.obj).objs.size=s.heap.objs.size + 1:=QF ..;have z2:(vF s.heap S.obj T.obj).objs.size=s.heap.objs.size + 2:=by rw[QF,z1]
 have z3:(vG s.heap S.obj T.obj).objs.size=s.heap.objs.size + 3:=by rw[QF,z2]
 have z4:(vH s.heap S.obj T.obj).objs.size=s.heap.objs.size + 4:=by rw[QF,z3]
 have up:∀ {h:Heap} {o:Obj} {c:Addr} {o':Obj},h.get? c=some o'->(h.push o).get? c=some o':=λe=>W7 _ e
 have g5:(pT s.heap S.obj T.obj).get? (vH s.heap S.obj T.obj).objs.size=some _:=Wh _ rfl;have g4:(pT s.heap S.obj T.obj).get? (vG s.heap S.obj T.obj).objs.size=some _:=up (Wh _ rfl);have g3:(pT s.heap S.obj T.obj).get? (vF s.heap S.obj T.obj).objs.size=some _:=up (up (Wh _ rfl));have g2:(pT s.heap S.obj T.obj).get? (vE s.heap S.obj).objs.size=some T.obj:=up (up (up (Wh _ (by cases T with | sq b a=>cases b <;> rfl | tx x t=>rfl))));have g1:(pT s.heap S.obj T.obj).get? s.heap.objs.size=some S.obj:=up (up (up (up (Wh _ (by cases S with | sq b a=>cases b <;> rfl | tx x t=>rfl)))));have mk:∀ {U:Sd} {h:Heap} {it:Addr},h.get? it=some U.obj->U.at h it 0:=λ{U h it} e=>by
  cases U with
  | sq b a=>cases b <;> exact⟨_,e,rfl,rfl⟩
  | tx x t=>exact⟨_,e,rfl,rfl⟩
 show _/\_;rw[z2,z3,z4] at g5;rw[z1,z2] at g3;rw[z3] at g4;rw[z1] at g2;rw[z4];exact⟨⟨_,g5,rfl⟩,h _ ⟨⟨_,_,g5,.inl rfl⟩,g3,⟨_,_,g4⟩,mk g1,mk g2⟩ g5 λc o x=>up (up (up (up (up x))))⟩
theorem UM{TI TO f Q}(hz:f6 s.heap z TI TO v0 f)(hv:v0 = .none\/∃ p:Addr,v0=Qa p)
  (hQ:∀ h' vI,f6 h' z TI TO vI f->(vI = .none\/∃ p:Addr,vI=Qa p)->Qt z s.heap h'->Q () { s with heap:=h' }):W8 (model prog w) A (JH tg (.ref z) (.ref T)) Q E s:=by
 have no:Q () s:=hQ s.heap v0 hz hv ⟨rfl,λ_ _=>rfl⟩;have yes:W8 (model prog w) A (do
   let o <- load z
   match o.cls,o.data with
   | .type n,.fields vs =>
    if ["enumerate","zip","dict_itemiterator","dict_reverseitemiterator","odict_iterator","itertools.zip_longest","itertools.pairwise"].contains n && vs[0]? == some (Qa T) then
     rule "for.unpacks-the-owned-tuple"
     updateField z 0 .none
   | _,_=>pure ()) Q E s:=by
  refine W0 (wpAny_load hz ?_);dsimp only;split
  ·refine W0 (J0 ?_);show W8 _ _ (setField (.ref z) 0 .none) Q E s;exact Q1 hz Z5 λh' n_ jG=>hQ h' _ n_ (.inl rfl) jG
  ·exact W3 no
 unfold JH
 cases tg <;> first
  | exact yes
  | exact W3 no
def mL(K:W5)(H:Hp)(xs:List V):Sd->Prop
 | .sq b a=>nU b K H a xs
 | .tx x _=>xs=x.cps.toList.map λc=>.str ⟨#[c]⟩
section
variable {S T:Sd}{xs:List V}
theorem Inv.side(I:Inv X pins σ H s)(hA:A.handled=none)(hv:mL X.K H xs S)(cw:it ∉ S.fp):∃ St:Nat->Heap->Prop,Draws X.prog X.w A.in1 it (it :: S.fp) xs.length (λi v=>∃ x,xs[i]? = some x/\RelV x v) St/\(∀ i h,St i h->S.at h it i)/\∀ i,S.at s.heap it i->St i s.heap:=by
 cases S with
 | sq b a =>
  obtain⟨is,rv,p⟩:=I.Er hv;have D:=P8 (prog:=X.prog) (w:=X.w) (A:=A.in1) b (show A.in1.handled=none from hA) it a (λz=>cw #v[Sd.fp,z]) is.toArray;have hl:is.toArray.size=xs.length:= ~~~rv.length.symm
  rw[hl] at D;refine⟨_,⟨D.live,D.frame,λi s Q E hi st hQ=>D.item i s Q E hi st λx h' tk e=>hQ x h' tk ?_,D.done⟩,λi h q=>q.1,λi q=>⟨q,p⟩⟩;obtain⟨u,hu,ru⟩:=rv.get (x:=xs[i]) (show xs[i]? = some xs[i] by simp[hi]);have e:is[i]? = some x:= ~~~e
  rw[hu] at e; cases e
  exact⟨xs[i],#v[hi],ru⟩
 | tx x t =>
  obtain rfl:xs=_:=hv;have hT:Jt x = "str_ascii_iterator"\/Jt x = "str_iterator":=by
   unfold Jt;split
   ·exact .inl rfl
   ·exact .inr rfl
  have D:Draws X.prog X.w A.in1 it [it] x.cps.size (λi v=>∃ c u,x.cps[i]? = some c/\v = .str ⟨#[c]⟩ u) (λi h=>h.IsStrIter it (Jt x) x t i):=by
   rcases hT with e | e
   ·rw[e]; exact Draws.strAscii (show A.in1.handled=none from hA) it x t
   ·rw[e]; exact Draws.strWide (show A.in1.handled=none from hA) it x t
  rw[show x.cps.size=(x.cps.toList.map λc=>V.str ⟨#[c]⟩).length by simp] at D;refine⟨_,⟨D.live,D.frame,λi s Q E hi st hQ=>D.item i s Q E hi st λy h' tk ⟨c,u,e1,e2⟩=>hQ y h' tk ⟨.str ⟨#[c]⟩,#v[e1],u,e2⟩,D.done⟩,λi h q=>q,λi q=>q⟩
theorem vJ(h:b ∈ fK n):b=n + 4\/b=n + 2\/b=n + 3\/b=n\/b=n + 1:= ~~~h
theorem iE(n)(h:i≠j):(n + i:Addr)≠n + j:=λe=>h (Nat.add_left_cancel e)
theorem F9(h1:∀ a ∈ S.fp,a < n)(h2:∀ a ∈ T.fp,a < n):ZA (n + 4) (n + 2) (n + 3) n (n + 1) (n :: S.fp) ((n + 1) :: T.fp):=by
 have k:∀ {l:List Addr} {j i:Nat},(∀ a ∈ l,a < n)->j≠i->(n + j:Addr) ∉ (n + i) :: l:=λ{l j i} h e z=>by
  rcases Wu.mp z with z | z
  ·exact iE n e z
  ·exact absurd (h _ z) (Nat.not_lt.mpr (JY n j))
 exact⟨Wp,Wp,k (i:=0) h1 Z',k h2 Z',k (i:=0) h1 Z',k h2 Z',k (j:=0) h2 Z',k (i:=0) h1 Z',iE n Z',iE n Z',iE n Z',iE n (j:=0) Z',iE n Z'⟩
theorem F_{x Q}(I:Inv X pins σ H s)(hA:A.handled=none)(h1:∀ a ∈ S.fp,a < n)(h2:∀ a ∈ T.fp,a < n)(v1:mL X.K H xs S)(v2:mL X.K H ys T)(st:pU S T n i s.heap)(hx:xs[i]? = some x)(hy:ys[i]? = some y)
  (q:∀ u v h' tk,RelV x u->RelV y v->pU S T n (i + 1) h'->IsPair h' s.heap.objs.size u v->(∀ c o,c ∉ fK n->s.heap.get? c=some o->h'.get? c=some o)->Q (some (.ref s.heap.objs.size)) { s with heap:=h',toks:=tk }) :
  W8 (model X.prog X.w) A (QA (.ref (n + 4))) Q E s:=by
 obtain⟨⟨v0,f,hz,hv⟩,hI,⟨a,b,hO⟩,q1,q2⟩:=st;obtain⟨St1,D1,a1,b1⟩:=I.side (it:=n) hA v1 λz=>absurd (h1 _ z) (Qg _)
 obtain⟨St2,D2,a2,b2⟩:=I.side (it:=n + 1) hA v2 λz=>absurd (h2 _ z) (Nat.not_lt.mpr (JY n 1))
 have l1:=(W6.mp hx).1;have l2:=(W6.mp hy).1;refine TC D1 D2 (F9 h1 h2) hz hv hI hO (b1 i q1) (b2 i q2) l1 l2 λu v h' tk p' f' e1 e2 n_ UN s1 s2 hT k=>?_
 obtain⟨x',g1,r1⟩:=e1;obtain⟨y',g2,r2⟩:=e2;rw[hx] at g1; cases g1
 rw[hy] at g2; cases g2
 have k2:∀ c o,c ∉ fK n->s.heap.get? c=some o->h'.get? c=some o:=λc o hc e=>k c o (λz=>hc #v[z]) (λz=>hc #v[z]) (λz=>hc #v[z]) (λz=>hc #v[z]) e
 exact q u v h' tk r1 r2 ⟨⟨_,_,n_,.inr ⟨p',rfl⟩⟩,k _ _ (iE n Z') (iE n Z') (iE n (j:=0) Z') (iE n Z') hI,UN,a1 _ _ s1,a2 _ _ s2⟩ hT k2
theorem Ga{Q}(I:Inv X pins σ H s)(hA:A.handled=none)(h1:∀ a ∈ S.fp,a < n)(h2:∀ a ∈ T.fp,a < n)(v1:mL X.K H xs S)(v2:mL X.K H ys T)(st:pU S T n i s.heap)(hl:i=xs.length\/(i < xs.length/\i=ys.length))
  (q:∀ h' tk,(∀ c o,c ∉ fK n->s.heap.get? c=some o->h'.get? c=some o)->Q none { s with heap:=h',toks:=tk }):W8 (model X.prog X.w) A (QA (.ref (n + 4))) Q E s:=by
 obtain⟨⟨v0,f,hz,hv⟩,hI,⟨a,b,hO⟩,q1,q2⟩:=st;obtain⟨St1,D1,a1,b1⟩:=I.side (it:=n) hA v1 λz=>absurd (h1 _ z) (Qg _)
 obtain⟨St2,D2,a2,b2⟩:=I.side (it:=n + 1) hA v2 λz=>absurd (h2 _ z) (Nat.not_lt.mpr (JY n 1))
 exact TF D1 D2 (F9 h1 h2) hz hv hI hO (b1 i q1) (b2 i q2) hl λh' tk k=>q h' tk λc o hc e=>k c o (λz=>hc #v[z]) (λz=>hc #v[z]) (λz=>hc #v[z]) (λz=>hc #v[z]) e
end
def fL(K:W5)(H:Hp)(xs:List V)(b:Bool):V->Prop
 | .ref a=>nU b K H a xs
 | .str x=>xs=x.cps.toList.map λc=>.str ⟨#[c]⟩
 | _=>False
def jx(b:Bool):V->Tok->Sd
 | .ref a,_=>.sq b a
 | .str x,t=>.tx x t
 | _,t=>.tx ⟨#[]⟩ t
section
variable {b:Bool}{v:V}{xs:List V}{t:Tok}
theorem fL.sd(h:fL K H xs b v):mL K H xs (jx b v t):=by
 cases v <;> first | exact h | exact h.elim
theorem Inv.vK(I:Inv X pins σ H s)(h:fL X.K H xs b v)(r:RelV v u):∃ t,(jx b v t).val=u/\(jx b v t).there s.heap/\∀ a ∈ (jx b v t).fp,a < s.heap.objs.size:=by
 cases v with
 | ref a =>
  obtain⟨ak,_,p⟩:=I.Er h
  cases r;exact⟨0,rfl,⟨_,p⟩,λc hc=>by
   have:c=a:=by simpa[jx,Sd.fp] using hc
   subst this;exact p.lt⟩
 | str x =>
  obtain⟨t,rfl⟩:=r;exact⟨t,rfl,trivial,λc hc=>by simp[jx,Sd.fp] at hc⟩
 | _=>exact h.elim
theorem Inv.Gb(I:Inv X pins σ H s)(h:fL X.K H xs b v)(h':fL X.K H ys b v):xs=ys:=by
 cases v with
 | ref a=>exact I.P9 h h'
 | str x=>exact h.trans h'.symm
 | _=>exact h.elim
end
def Gd(K:W5)(b1 b2:Bool)(v w:V):It :=
 ⟨λi H=>∃ xs ys x y,fL K H xs b1 v/\fL K H ys b2 w/\xs[i]? = some x/\ys[i]? = some y,
  λi H z H'=>∃ p x y,H p=none/\(∀ xs,fL K H xs b1 v->xs[i]? = some x)/\(∀ ys,fL K H ys b2 w->ys[i]? = some y)/\H'=upd H p (.tup [x,y])/\z = .ref p,
  λi H=>∃ xs ys,fL K H xs b1 v/\fL K H ys b2 w/\(i=xs.length\/(i < xs.length/\i=ys.length))⟩
theorem UO(b1 b2 x y t u n)(h1:∀ a ∈ (jx b1 x t).fp,a < n)(h2:∀ a ∈ (jx b2 y u).fp,a < n) :
  Turn P w K tg (Gd K b1 b2 x y) (fK n) (n + 4) (pU (jx b1 x t) (jx b2 y u) n):=by
 refine⟨Z5,?_,?_,?_,?_,?_⟩
 ·rintro i h ⟨⟨v0,f,hz,_⟩,hI,⟨a,b,hO⟩,q1,q2⟩ c hc;rcases vJ hc with e | e | e | e | e <;> subst e
  ·exact⟨_,hz,λv z=>by
    have z':Data.fields _=Data.cell v:=z
    cases z'⟩
  ·exact⟨_,hI,λv z=>by
    have z':Data.seq _ _=Data.cell v:=z
    cases z'⟩
  ·exact⟨_,hO,λv z=>by
    have z':Data.seq _ _=Data.cell v:=z
    cases z'⟩
  ·exact Sd.live q1
  ·exact Sd.live q2
 ·rintro i h h' ⟨⟨v0,f,hz,hv⟩,hI,⟨a,b,hO⟩,q1,q2⟩ k;exact⟨⟨v0,f,k _ Z5 _ hz,hv⟩,k _ Z5 _ hI,⟨a,b,k _ Z5 _ hO⟩,Sd.gE q1 λo e=>k _ Z5 o e,Sd.gE q2 λo e=>k _ Z5 o e⟩
 ·intro X hP hw hK hc i pins s σ H E I hf st hg;subst hP hw hK;obtain⟨xs,ys,x',y',c1,c2,hx,hy⟩:=hg;have bu:∀ c ∈ fK n,c < s.heap.objs.size:=λc hc=>by
   obtain⟨⟨v0,f,hz,hv⟩,_⟩:=st;have z:=Ws hz;have le:∀ k:Nat,k<=4->n + k < s.heap.objs.size:=λk hk=>Nat.lt_of_le_of_lt (Nat.add_le_add_left hk n) z
   rcases vJ hc with e | e | e | e | e <;> subst e
   ·exact z
   ·exact le 2 Z'
   ·exact le 3 Z'
   ·exact le 0 Z'
   ·exact le 1 Z'
  refine F_ I (I.ok.hd hc) h1 h2 c1.sd c2.sd st hx hy λu v h' tk ru rv ⟨⟨v0,f,hz,hv⟩,hI,⟨a,b,hO⟩,q1,q2⟩ hT k=>⟨_,rfl,UM hz hv λh2 vI mF UP sb=>?_⟩
  have nz:s.heap.objs.size≠n + 4:=JQ (bu (n + 4) Z5);have k2:∀ c o,c ∉ fK n->s.heap.get? c=some o->h2.get? c=some o:=λc o hc e=>(sb.2 c λz=>hc #v[z]).trans (k c o hc e)
  have I2:Inv X pins σ (upd H s.heap.objs.size (.tup [x',y'])) { s with heap:=h2,toks:=tk }:=Inv.Ep (t':=tk) _ I hf bu ru rv ((sb.2 _ nz).trans hT) k2;refine⟨.ref s.heap.objs.size,_,I2,rfl,⟨s.heap.objs.size,x',y',I.aC.fresh (Wi _),λzs zk=>%[I.Gb zk c1|hx],λzs zk=>%[I.Gb zk c2|hy],rfl,rfl⟩,⟨⟨_,_,mF,UP⟩,(sb.2 _ (iE n Z')).trans hI,⟨_,_,(sb.2 _ (iE n Z')).trans hO⟩,Sd.gE q1 λo e=>(sb.2 _ (iE n (i:=0) Z')).trans e,Sd.gE q2 λo e=>(sb.2 _ (iE n Z')).trans e⟩,λc hc=>?_⟩;rw[aR (WX (bu c hc))];exact(hf c hc).1
 ·intro X hP hw hK hc i pins s σ H E I hf st hg;subst hP hw hK;obtain⟨xs,ys,c1,c2,hl⟩:=hg;exact Ga I (I.ok.hd hc) h1 h2 c1.sd c2.sd st hl λh' tk k=>⟨rfl,Inv.pG (t':=tk) (fK n) I k hf⟩
 ·intro A i s Q E st h;obtain⟨v0,f,hz,_⟩:=st.1;have hT:s.TypeIs (.ref (n + 4)) "zip":=⟨_,hz,rfl⟩
  refine JO hT F.slot_zip_iter (Wz F.slot_zip_iter hT F.entry_zip_iter ?_ (F.args_zip_iter_1 _));show W8 _ _ (ret (.ref (n + 4))) _ _ s;exact W3 ⟨_,rfl,"zip",_,hT,F.slot_zip_next.lookup,h⟩
theorem zm(I:Inv X pins σ H s)(b)(hb:b ∈ fK s.heap.objs.size):s.heap.objs.size<=b:=by
 rcases vJ hb with z | z | z | z | z <;> subst z <;> first | exact Wi _ | exact JY _ _
section
variable {a b:Expr}{f g:DE}
def UQ(K:W5)(ta:TA):TI:=λσ H R=>ta σ H λvs H1=>∃ (b1 b2:Bool) (v w:V),vs=[v,w]/\(∃ xs,fL K H1 xs b1 v)/\(∃ ys,fL K H1 ys b2 w)/\R (Gd K b1 b2 v w) H1
theorem UR {ta} (hg:Gl X "zip") (hm:X.mg "zip" = none) (ha:PA X [a,b] ta) (hs:Wd [a,b] X.env=(false,eval a X.env) :: Wd [b] X.env:=by rfl) (cB:(Qv pos (Wd [b] X.env)).any (·.1)=false:=by rfl):PI X tg (.Call (.Name "zip" pp) [a,b] [] pos) (UQ X.K ta):=by
 intro pins s σ H R I h;refine Call_ (mX I hg hm boot_zip (QO (aY (ha pos pins s σ H _ I h) λus s1 ⟨vs,H1,I1,r1,q1⟩=>?_) hs cB));obtain⟨b1,b2,v,w,rfl,⟨xs,hx⟩,⟨ys,hy⟩,q⟩:=q1
 cases r1 with
 | cons r rr =>
  cases rr with
  | cons r' rr =>
   cases rr;obtain⟨t,rfl,p1,l1⟩:=I1.vK hx r;obtain⟨u,rfl,p2,l2⟩:=I1.vK hy r';refine F8 p1 p2 λh' st hz kp=>wpAny_pyIter_zip hz ?_
   exact⟨s1.heap.objs.size + 4,_,_,_,H1,rfl,I1.kept (t':=s1.toks) kp,UO b1 b2 v w t u s1.heap.objs.size l1 l2,st,λb hb=>I1.jD (zm I1 b hb) (I1.aC.fresh (zm I1 b hb)),q⟩
noncomputable def ly:D->Option (List D)
 | .lst ds=>some ds
 | .tup ds=>some ds
 | .str x=>some (x.map λn=>.str [n])
 | _=>none
def jy(f g:DE):DI:=λδ=>(f δ).bind λx δ1=>(g δ1).bind λy δ2=>match ly x.d,ly y.d with
 | some xs,some ys=>.ok (ke xs ys) δ2
 | _,_=>.stuck
theorem Rep.sd{v d ds}(r:Rep H O v d)(e:ly d=some ds) :
  ∃ b vs,fL K H vs b v/\aK H O vs ds/\∀ H2,(∀ p o,H p=some o->¬ O p->H2 p=some o)->fL K H2 vs b v:=by
 have sq:∀ {ds},rH d=some ds->∃ (b:Bool) (vs:List V),fL K H vs b v/\aK H O vs ds/\∀ H2,(∀ p o,H p=some o->¬ O p->H2 p=some o)->fL K H2 vs b v:=λe=>by
  obtain⟨b,a,vs,rfl,h1,h2,h3⟩:=r.sq (K:=K) e;exact⟨b,vs,h1,h2,h3⟩
 cases d <;> first | (simp[ly] at e; done) | exact sq e | skip
 rename_i x
 cases r
 cases e;refine⟨true,_,rfl,⟨#v[toS],λi v d e1 e2=>?_⟩,λ_ _=>rfl⟩;rw[Wj] at e1 e2
 cases z:x[i]? with
 | none=>rw[z] at e2; cases e2
 | some n =>
  rw[z] at e2; cases e2
  simp only[toS,z,WI] at e1
  cases e1;exact .str [n]
theorem Ge (hg:Gl X "zip") (hm:X.mg "zip" = none) (ha:SE X c a f) (hb:SE X c b g) (hs:Wd [a,b] X.env=(false,eval a X.env) :: Wd [b] X.env:=by rfl)
  (lZ:Wd [b] X.env=(false,eval b X.env) :: Wd [] X.env:=by rfl) (cB:(Qv pos (Wd [b] X.env)).any (·.1)=false:=by rfl):SI X c tg (.Call (.Name "zip" pp) [a,b] [] pos) (jy f g) :=
 PI.weak (UR hg hm (fc ha (fc hb g8 lZ) hs) hs cB) λσ H R ⟨δ,k,q⟩=>by
  unfold jy at q;rw[bA] at q;refine⟨δ,k,aX q λx δ1 q1 v H1 a1 r1=>⟨δ1,a1.ok,?_⟩⟩;rw[bA] at q1;refine aX q1 λy δ2 q2 u H2 a2 r2=>?_
  have hx:Rep H2 (Av c σ δ2) v x.d:=Rep.d_ r1.rep a2;have hy:Rep H2 (Av c σ δ2) u y.d:=r2.rep;split at q2
  ·rename_i xs ys e1 e2;obtain⟨b1,vs,s1,w1,k1⟩:=hx.sd (K:=X.K) e1;obtain⟨b2,us,s2,w2,k2⟩:=hy.sd (K:=X.K) e2;refine⟨b1,b2,v,u,rfl,⟨vs,s1⟩,⟨us,s2⟩,q2 _ H2 (a1.trans a2) λH3 kp=>?_⟩;have t1:=k1 H3 λp o e n=>kp p o e λz=>n (.inr z)
   have t2:=k2 H3 λp o e n=>kp p o e λz=>n (.inr z)
   refine⟨⟨vs,us,t1,t2,?_⟩,λi d e=>?_⟩
   ·rw[w1.1,w2.1];simp only[ke,List.length_zipWith];lia
   ·obtain⟨x,y,ex,ey,rfl⟩:=P_ e;obtain⟨v,ev,rv⟩:=w1.get ex;obtain⟨u,eu,ru⟩:=w2.get ey;refine⟨⟨vs,us,v,u,t1,t2,ev,eu⟩,λz H4 ⟨p,v',u',hp,hv,hu,e3,ez⟩=>.inr ⟨p,_,_,hp,e3,ez,rfl,?_⟩⟩;have h1:=hv vs t1;have h2:=hu us t2;rw[ev] at h1;rw[eu] at h2
    cases h1
    cases h2;exact aK.two rv ru
  ·exact q2.elim
end
theorem US:typeLookup (.type "zip") "__getattr__" = pure none:=by rw[typeLookup_type,JT]; kernel_rfl
theorem UT:typeLookup (.type "zip") "keys" = pure none:=by rw[typeLookup_type,JT]; kernel_rfl
theorem UW:entryFor table "zip.__getattribute__" = some Builtin.«object.__getattribute__» :=
 entryFor_alias (id':="object.__getattribute__") (by kernel_rfl) Zp Zp (by kernel_rfl)
theorem UX (a vs u):Meets (Builtin.«object.__getattribute__» ⟨[.ref a,.str "keys" u],[]⟩) (λA R s=>s.heap.get? a=some { cls:=.type "zip",dict:=none,data:=.fields vs,slots:=#[] }/\raisesAttr (.ref a) "keys" A R s) :=
 Meets.of_wp λprog w A R s hs=>by
  obtain⟨hp,g,d,tk,os⟩:=s;obtain⟨hx,hs⟩:=hs;have hT:(⟨hp,g,d,tk,os⟩:W4).TypeIs (.ref a) "zip":=⟨_,hx,rfl⟩
  have uX:=UT;have UY:(["__module__","__name__","__qualname__","__doc__","__annotations__"]:List Str).contains "keys" = false:=by decide +kernel
  unfold Builtin.«object.__getattribute__»;repeat (any_goals (first | assumption | wp_step))
  try simp only[UY,Qd,if_false]
  repeat (any_goals (first | assumption | wp_step))
  exact wpAny_raiseAttrError hs.1 hs.2 (attrMsg_fits Zp (by size_fits))
set_option maxRecDepth 8000 in
theorem UZ {prog w} {A:Wv} {E:Value->W4->Prop}   {vs} {Q:Option Value->W4->Prop} (hx:s.heap.get? a=some { cls:=.type "zip",dict:=none,data:=.fields vs,slots:=#[] }) (hA:A.handled=none)
  (h:∀ h' tk,(∀ b ob,s.heap.get? b=some ob->h'.get? b=some ob)->Q none { s with heap:=h',toks:=tk }):W8 (model prog w) A (getAttr? (.ref a) "keys") Q E s:=by
 obtain⟨hp,g,d,tk,os⟩:=s;have hT:∀ jM,(⟨hp,g,d,jM,os⟩:W4).TypeIs (.ref a) "zip":=λ_=>⟨_,hx,rfl⟩
 have f1:=sub_AttributeError;have f3:=F.slot_zip_getattribute.lookup;have f4:=F.slot_zip_getattribute.bind (.ref a);have f5:=US;unfold getAttr? getAttrBy? getAttrBy;repeat (any_goals (first | assumption | exact hT _ | ((with_reducible show W8 _ _ (call (Value.builtin "zip.__getattribute__") _ _) _ _ _); refine Ub F.slot_zip_getattribute (hT _) UW (F.args_zip_getattribute_2 _ _) (UX a vs _) ⟨hx,hA,λh' jM e mq=>?_⟩) | wp_step))
 obtain⟨t',u',he⟩:=mq.there;show W8 _ _ (Jh _ _ _ _ _ _ _) _ _ _;unfold Jh;repeat (any_goals (first | assumption | wp_step))
 exact h _ _ mq.keeps
section
variable {S T:Sd}{xs:List V}
theorem U_(hA:A.handled=none)(h1:∀ a ∈ S.fp,a < n)(h2:∀ a ∈ T.fp,a < n)(gu:H dl=none)(Va:dl ∉ fK n)(hz:kps.length<=Wa)(v1:∀ H',(∀ b o,H b=some o->H' b=some o)->mL X.K H' xs S)(v2:∀ H',(∀ b o,H b=some o->H' b=some o)->mL X.K H' ys T)
  (hk:∀ (i:Nat) kv,kps[i]? = some kv->xs[i]? = some (kV kv.1)/\ys[i]? = some kv.2) (hl:kps.length=xs.length\/(kps.length < xs.length/\kps.length=ys.length)) (fp:∀ b ∈ fK n,∀ H',H' b=none->gh X pins H' b) (fn:∀ b ∈ fK n,H b=none)
  (hR:∀ s',Inv X pins σ (upd H dl (.dK (eJ kps []))) s'->R (.ok (.ret .none)) s') :
  ∀ (k i:Nat) (s:W4) (j:Int) t0,kps.length - i=k->i<=kps.length->Inv X pins σ (upd H dl (.dK (eJ (kps.take i) []))) s->pU S T n i s.heap ->
   Ju (model X.prog X.w) A (.builtin "dict.update.loop" ⟨[.ref dl,.ref (n + 4),.int j t0,.none],[]⟩) R s:=by
 have up:∀ (acc:List (Key×V)) b o,H b=some o->upd H dl (.dK acc) b=some o:=λacc b o e=>%[aR (fA e gu)|e]
 have ne:∀ b ∈ fK n,b≠dl:=λb hb z=>Va (by rw[<- z]; exact hb)
 have fo:∀ (acc:List (Key×V)),∀ b ∈ fK n,gh X pins (upd H dl (.dK acc)) b:=λacc b hb=>fp b hb _ %[aR (ne b hb)|fn b hb]
 intro k;induction k with
 | zero =>
  intro i s j t0 hkk hi I st;have e:i=kps.length:=by lia
  subst e;rw[QT (Wi _)] at I;exact D_ (Ga (A:=A.in1) I hA h1 h2 (v1 _ (up _)) (v2 _ (up _)) st hl λh' tk k=>⟨rfl,hR _ (Inv.pG (t':=tk) (fK n) I k (fo _))⟩)
 | succ k ih =>
  intro i s j t0 hkk hi I st;have jk:i < kps.length:=by lia
  obtain⟨hx,hy⟩:=hk i kps[i] #v[jk];refine D9 (F_ (A:=A.in1) I hA h1 h2 (v1 _ (up _)) (v2 _ (up _)) st hx hy λu v h' tk r1 r2 cF hT k=>?_);have I':=Inv.pG (t':=tk) (fK n) I k (fo _);refine⟨s.heap.objs.size,u,v,0,rfl,hT,?_⟩;obtain⟨z,hd,vs,rel,dd⟩:=qE I'.aC cI;have jL:vs.length<=Wa:=by rw[<- rel.length]; exact z
  have hl:(putK (eJ (kps.take i) []) kps[i].1 kps[i].2).length<=Wa:=by
   have h1:=oM (eJ (kps.take i) []) kps[i].1 kps[i].2;have h2:=yh (kps.take i) [];simp at h2;lia
  refine wpAny_dictSet_pairs (hsz:=jL) (kP r1) dd λh2 iL hs=>?_
  have he:∃ q,h2.get? dl=some q:=let ⟨q,_,_,hq,_⟩:=iL; ⟨q,hq⟩
  have I2:=m7 (t':=tk + 1) I' %[cI|True.intro] hs he (ub hl hd (rel.put kps[i].1 r2) iL);rw[A7] at I2;have et:kps.take (i + 1)=kps.take i ++ [kps[i]]:=by simp_all
  rw[show putK (eJ (kps.take i) []) kps[i].1 kps[i].2=eJ (kps.take (i + 1)) [] by rw[et,Ea]] at I2;refine ih (i + 1) _ (j + 1) _ Y' jk I2 ?_;obtain⟨⟨v0,f,n_,hv⟩,hI,⟨a,b,hO⟩,q1,q2⟩:=cF;have kk:∀ b ∈ fK n,∀ o,h'.get? b=some o->h2.get? b=some o:=λb hb o eo=>(hs.2 b (ne b hb)).trans eo
  exact⟨⟨v0,f,kk _ Z5 _ n_,hv⟩,kk _ Z5 _ hI,⟨a,b,kk _ Z5 _ hO⟩,Sd.gE q1 λo e=>kk _ Z5 o e,Sd.gE q2 λo e=>kk _ Z5 o e⟩
end
section
variable {a b:Expr}
theorem Vb{ta} (hc:X.calm=true) (zo:Gl X "dict") (zq:X.mg "dict" = none) (hg:Gl X "zip") (hm:X.mg "zip" = none) (ha:PA X [a,b] ta) (hs:Wd [a,b] X.env=(false,eval a X.env) :: Wd [b] X.env:=by rfl) (cB:(Qv ko (Wd [b] X.env)).any (·.1)=false:=by rfl)
  (r8:Wd [.Call (.Name "zip" og) [a,b] [] ko] X.env=(false,eval (.Call (.Name "zip" og) [a,b] [] ko) X.env) :: Wd [] X.env:=by rfl) :
  PE X (.Call (.Name "dict" pp) [.Call (.Name "zip" og) [a,b] [] ko] [] pos) (λσ H Q=>ta σ H λvs H1=>∃ (b1 b2:Bool) (v w:V) (xs ys:List V) (kps:List (Key×V)),vs=[v,w]/\(∀ H',(∀ b o,H1 b=some o->H' b=some o)->fL X.K H' xs b1 v)/\(∀ H',(∀ b o,H1 b=some o->H' b=some o)->fL X.K H' ys b2 w)/\kps.length<=Wa /\
   (∀ (i:Nat) kv,kps[i]? = some kv->xs[i]? = some (kV kv.1)/\ys[i]? = some kv.2)/\(kps.length=xs.length\/(kps.length < xs.length/\kps.length=ys.length))/\∀ l,H1 l=none->Q (.ref l) (upd H1 l (.dK (eJ kps [])))):=by
 intro pins s0 σ H0 Q I0 h;refine Call_ (mX I0 zo zq boot_dict (QO ?_ r8 rfl));rw[r8];refine Calls.spliced_cons (Call_ (mX I0 hg hm boot_zip (QO (aY (ha ko pins s0 σ H0 _ I0 h) λus s1 ⟨vs,H,I1,r1,q1⟩=>?_) hs cB)));obtain⟨b1,b2,v,w,xs,ys,kps,rfl,hx,hy,hz,hk,hl,q⟩:=q1
 cases r1 with
 | cons r rr =>
  cases rr with
  | cons r' rr =>
   cases rr;obtain⟨t,rfl,p1,l1⟩:=I1.vK (hx H λ_ _ e=>e) r;obtain⟨u,rfl,p2,l2⟩:=I1.vK (hy H λ_ _ e=>e) r';refine F8 p1 p2 λh' st zr kp=>Calls.spliced_nil ?_
   have I:Inv X pins σ H { s1 with heap:=h' }:=I1.kept (t':=s1.toks) kp;generalize hn:s1.heap.objs.size=n at *;have oh:n + 4 < h'.objs.size:=Ws zr;have hA:X.A.handled=none:=I.ok.hd hc;refine callType_codes (Q₁:=λobj s₁=>obj = .ref h'.objs.size/\s₁ = { s1 with heap:=h'.push { cls:=.type "dict",data:=.dict #[] } }) F.kt_called_dict (F.kt_typeCall_dict_1 _) F.entry_dict_init (kt_code_dict_new _ ⟨rfl,rfl⟩) ?_;rintro obj s₁ ⟨rfl,rfl⟩;have gu:H h'.objs.size=none:=I.aC.fresh (Wi _);have I2:Inv X pins σ (upd H h'.objs.size (.dK [])) { s1 with heap:=h'.push { cls:=.type "dict",data:=.dict #[] } }:=I.laid (t':=s1.toks) (λ_ _ q=>W7 _ q) (Wi _) (uc h' I.big);have rE:({ s1 with heap:=h'.push { cls:=.type "dict",data:=.dict #[] } }:W4).TypeIs (.ref h'.objs.size) "dict":=⟨_,Wh _ rfl,rfl⟩
   refine⟨rE,F.args_dict_init_2 _ _,?_⟩;unfold Builtin.«dict.__init__»;refine W0 ?_;unfold Builtin.Dict.selfAndRest;refine W0 (QI rE ?_);show W8 _ _ (pure (h'.objs.size,[Value.ref (n + 4)])) _ _ _;refine W3 ?_;show W8 _ _ (JF "dict.__init__" h'.objs.size (.ref (n + 4)) [] .none) _ _ _;unfold JF;have e:=W7 { cls:=.type "dict",data:=.dict #[] } zr;refine W0 (JR ⟨_,e,rfl⟩ ?_);rw[if_pos Z'];refine W0 (UZ e hA λh3 tk ug=>?_);rw[if_pos (show(none:Option Value).isNone=true from rfl)];refine W0 (J0 ?_);have I3:Inv X pins σ (upd H h'.objs.size (.dK [])) { s1 with heap:=h3,toks:=tk }:=I2.kept ug;have kk:∀ b o,h'.get? b=some o->h3.get? b=some o:=λb o z=>ug b o (W7 _ z)
   refine W0 (wpAny_pyIter_zip (s:={ s1 with heap:=h3,toks:=tk }) (kk _ _ zr) ?_);refine W3 ⟨plainId_quiet pF _,?_⟩;have lt:∀ b ∈ fK n,b < h'.objs.size:=λb hb=>by
    have le:∀ k:Nat,k<=4->n + k < h'.objs.size:=λk hk=>Nat.lt_of_le_of_lt (Nat.add_le_add_left hk n) oh
    rcases vJ hb with e | e | e | e | e <;> subst e
    ·exact oh
    ·exact le 2 Z'
    ·exact le 3 Z'
    ·exact le 0 Z'
    ·exact le 1 Z'
   have ge:∀ b ∈ fK n,s1.heap.objs.size<=b:=λb hb=>by subst hn; exact zm I1 b hb
   refine U_ (A:=X.A.in1) (R:=wants (λr s₂=>r=Value.none/\EP X pins σ Q (Value.ref h'.objs.size) s₂) X.xe) (X:=X) (pins:=pins) (σ:=σ) (H:=H) (S:=jx b1 v t) (T:=jx b2 w u) (n:=n) (xs:=xs) (ys:=ys) (kps:=kps) hA l1 l2 gu (λz=>Qg _ (lt _ z)) hz (λH' up=>(hx H' up).sd) (λH' up=>(hy H' up).sd) hk hl (λb hb H' e=>I1.jD (ge b hb) e) (λb hb=>I1.aC.fresh (ge b hb)) (λs' I'=>⟨rfl,.ref _,_,I',rfl,q _ gu⟩) kps.length 0 _ 0 _ (Nat.sub_zero _) (Qq _) I3 ?_;obtain⟨⟨v0,f,n_,hv⟩,hI,⟨a,b,hO⟩,q1,q2⟩:=st;exact⟨⟨v0,f,kk _ _ n_,hv⟩,kk _ _ hI,⟨a,b,kk _ _ hO⟩,Sd.gE q1 (kk _),Sd.gE q2 (kk _)⟩
end
noncomputable def pz:List D->List D->Option (List (a7×D))
 | x :: xs,y :: ys=>match cA x,pz xs ys with
  | some k,some r=>some ((k,y) :: r)
  | _,_=>none
 | _,_=>some []
def r9(f g:DE):DE:=λδ=>(f δ).bind λx δ1=>(g δ1).bind λy δ2=>match ly x.d,ly y.d with
 | some xs,some ys=>match pz xs ys with
  | some ps=>if ps.length<=Wa then .ok (.own (.ay (k7 ps []))) δ2 else .stuck
  | none=>.stuck
 | _,_=>.stuck
theorem Gf:∀ {xs ys:List D} {vs us:List V} {ps:List (a7×D)},pz xs ys=some ps->aK H O vs xs->aK H O us ys->∃ kps,DR H O kps ps/\kps.length=ps.length/\(∀ (i:Nat) kv,kps[i]? = some kv->vs[i]? = some (kV kv.1)/\us[i]? = some kv.2)/\(kps.length=vs.length\/(kps.length < vs.length/\kps.length=us.length))
 | [],ys,vs,us,ps,h,r,_=>by
  simp only[pz] at h
  cases h;have:=r.1;exact⟨[],trivial,rfl,λi kv e=>by simp at e,.inl (~~~this.symm)⟩
 | _ :: _,[],vs,us,ps,h,r,r'=>by
  simp only[pz] at h
  cases h;have h1:=r.1;have h2:=r'.1;exact⟨[],trivial,rfl,λi kv e=>by simp at e,.inr ⟨by rw[h1]; simp,by rw[h2]; simp⟩⟩
 | x :: xs,y :: ys,[],us,ps,h,r,r'=>by have:=r.1; simp at this
 | x :: xs,y :: ys,v :: vs,[],ps,h,r,r'=>by have:=r'.1; simp at this
 | x :: xs,y :: ys,v :: vs,u :: us,ps,h,r,r'=>by
  simp only[pz] at h;split at h
  ·rename_i k r'' hk hr
   cases h;obtain⟨kps,h1,h2,h3,h4⟩:=Gf hr r.tail r'.tail;have ek:=yj hk r.head;subst ek;refine⟨(dw k,u) :: kps,⟨rfl,r'.head,h1⟩,#v[h2],λi kv e=>?_,by simp; lia⟩
   cases i with
   | zero=>simp at e; subst e; exact⟨rfl,rfl⟩
   | succ i=>exact h3 i kv (~~~e)
  ·cases h
section
variable {a b:Expr}{f g:DE}
theorem Vc (hc:X.calm=true) (zo:Gl X "dict") (zq:X.mg "dict" = none) (hg:Gl X "zip") (hm:X.mg "zip" = none) (ha:SE X c a f) (hb:SE X c b g) (hs:Wd [a,b] X.env=(false,eval a X.env) :: Wd [b] X.env:=by rfl)
  (lZ:Wd [b] X.env=(false,eval b X.env) :: Wd [] X.env:=by rfl) (cB:(Qv ko (Wd [b] X.env)).any (·.1)=false:=by rfl)
  (r8:Wd [.Call (.Name "zip" og) [a,b] [] ko] X.env=(false,eval (.Call (.Name "zip" og) [a,b] [] ko) X.env) :: Wd [] X.env:=by rfl) :
  SE X c (.Call (.Name "dict" pp) [.Call (.Name "zip" og) [a,b] [] ko] [] pos) (r9 f g) :=
 PE.weak (Vb hc zo zq hg hm (fc ha (fc hb g8 lZ) hs) hs cB r8) λσ H Q ⟨δ,k,q⟩=>by
  unfold r9 at q;rw[bA] at q;refine⟨δ,k,aX q λx δ1 q1 v H1 a1 r1=>⟨δ1,a1.ok,?_⟩⟩;rw[bA] at q1;refine aX q1 λy δ2 q2 u H2 a2 r2=>?_
  have hx:Rep H2 (Av c σ δ2) v x.d:=Rep.d_ r1.rep a2;have hy:Rep H2 (Av c σ δ2) u y.d:=r2.rep;split at q2
  ·rename_i xs ys e1 e2;obtain⟨b1,vs,s1,w1,k1⟩:=hx.sd (K:=X.K) e1;obtain⟨b2,us,s2,w2,k2⟩:=hy.sd (K:=X.K) e2;split at q2
   ·rename_i ps ep;split at q2
    ·rename_i hz;obtain⟨kps,h1,h2,h3,h4⟩:=Gf ep w1 w2;refine⟨b1,b2,v,u,vs,us,kps,rfl,λH' up=>k1 H' λp o e _=>up p o e,λH' up=>k2 H' λp o e _=>up p o e,%[h2|hz],h3,h4,λl hl=>?_⟩;have kk:=(a1.trans a2).ok;obtain⟨z1,z2,z3,z4,z5,z6,z7⟩:=bD.yl kk hl (DR.uZ h1 (ws:=[]) (ds:=[]) trivial)
     cases z2;refine q2 (.ref l) _ ((a1.trans a2).trans (.alloc kk hl _)) ⟨l,rfl,z3,z4,z5,z6,?_⟩
     cases z:H l with
     | none=>rfl
     | some o=>obtain⟨o',e⟩:=(a1.trans a2).there l o z; rw[hl] at e; cases e
    ·exact q2.elim
   ·exact q2.elim
  ·exact q2.elim
end
theorem gR(e:b (bV n ss) = .ok (.ret v) δ1)(h1:cy np 0 ss=true)(h2:cf 0 ss δ1=some aT):bR np n b ss=some (v,aT):=by
 unfold bR eN;rw[if_pos h1,e];simp[cH,h2]
theorem c7{x a}(h:b δ1=x)(e:a δ = .ok .next δ1):aq a b δ=x:=by unfold aq; rw[e]; exact h
theorem ai(i j:Int):bt (.int i) (.int j)=some (.pure (.int (i + j))):=rfl
theorem Vd(i j:Int):qR (.int i) (.int j)=some (.pure (.int (i - j))):=rfl
theorem Ve(xs):bT (.lst xs)=some (.pure (.tup xs)):=rfl
theorem vL(a b):aw (.tup [a,b]) (.int 0)=some (.pure a)/\aw (.tup [a,b]) (.int 1)=some (.pure b):=⟨rfl,rfl⟩
theorem Vf(a b c):aw (.tup [a,b,c]) (.int 0)=some (.pure a)/\aw (.tup [a,b,c]) (.int 1)=some (.pure b)/\aw (.tup [a,b,c]) (.int 2)=some (.pure c):=⟨rfl,rfl,rfl⟩
theorem Vg(f δ):aG f δ=(f δ).bind λr δ1=>match r.d with
 | .lst ds=>.ok ds δ1
 | .tup ds=>.ok ds δ1
 | .str x=>.ok (x.map λn=>.str [n]) δ1
 | _=>.stuck:=id rfl
theorem fM{p:Prop}(h:p:=by
  simp[*,bV,aF,au,aH,ah,aV,ph,l5,eX,aa,ag,bX,aW,ck,S.d,aE,bF,cz,bN,bY,bJ,bc,aA,gI,oV,nv,ai,Vd,Ve,cb,de,kb,cA,hJ,fX,putL,l7,bz,cS,iT,Vg,kT,vL,Vf,-Ww,-Uo,-Up] <;> first
  | rfl
  | (refine⟨?_,?_⟩ <;> rfl)
  | (refine⟨⟨?_,?_⟩,?_⟩ <;> rfl)):p:=h
theorem nm{b:DS}{δ0:Dl}{y:Rs Fl}(h:b δ0=y):∃ δ,δ0=δ/\b δ=y:=⟨_,rfl,h⟩
theorem cM{A:Type}(f F:A->D){as:List A}{it g t δ1}(e:it δ = .ok (as.map f) δ1)(hl:as.length<=1000)(hs:∀ a ∈ as,∃ δ1' δ2 x δ3,g (.pure (f a)) (bz cs δ1)=some δ1'/\t δ1' = .ok true δ2/\el δ2 = .ok x δ3/\bz cs δ3=bz cs δ1/\x.d=F a)(no:cs.any (bN δ1)=false:=by rfl):bE cs it g t el δ = .ok (.own (.lst (as.map F))) (cS cs δ1 (bz cs δ1)):=by
 have c:=jq (cs:=cs) (g:=g) (t:=t) (el:=el) f F (bz cs δ1) as [] (by have:PySem.sizeLine=16777216:=rfl; simp; lia) hs;unfold bE;rw[e];show(if _ then _ else _)=_;rw[if_neg (by rw[no]; decide),c];rfl
end L2
namespace K66
open PySem.W (nsIn keepIn codeIn findIn mroIn kitOne mg_of)
open PySem PySem.Spec PyProof.Rows L2
abbrev gD:Tx:=[97,98,99,100,101,102,103,104,105,106,107,108,109,110,111,112,113,114,115,116,117,118,119,120,121,122]
variable {GD:DF}{K:W5}{L cs l lf np ts:List Nat}{N:List Str}{P:Wo}{al:Nat->Prop}{base:Heap}{c hd sg:Nat->Nat}{cd:Value}{cl:List (Str×Addr)}{fa iG:Addr}{mg:Str->Option Value}{n t x0:Nat}{p:Nat×Nat}{ps:List (Nat×Nat)}{ru:D}
theorem bh{a b:Prop}(h:a\/b:=by first|exact Or.inl rfl|exact Or.inr rfl):a\/b:=h
def top(i:Nat):Stmt:=PySem.Challenge.pw_tilegrow_k66_least_floors.main.body.getD i (.Pass ⟨0,0,0,0⟩)
abbrev Gg:Stmt:=top 23
abbrev Gh:Stmt:=top 24
abbrev Gi:Stmt:=top 26
abbrev Gj:Stmt:=top 29
abbrev Gk:Stmt:=top 28
abbrev Gm:Stmt:=top 30
abbrev Gn:Stmt:=top 31
abbrev Gp:Stmt:=top 32
abbrev Gq:Stmt:=top 33
abbrev Gr:Stmt:=top 25
abbrev Gu:Stmt:=top 34
abbrev Gv:Stmt:=top 35
abbrev Gw:Stmt:=top 27
abbrev zt:Stmt:=top 36
abbrev Gx:Stmt:=top 11
abbrev Gy:Stmt:=top 6
abbrev Gz:Stmt:=top 7
abbrev GF:Stmt:=top 8
abbrev GH:Stmt:=top 9
abbrev GJ:Stmt:=top 10
abbrev GK:Stmt:=top 15
abbrev GQ:Stmt:=top 18
abbrev zu:Stmt:=top 19
abbrev zv:Stmt:=top 13
abbrev zw:Stmt:=top 20
abbrev kr:Stmt:=top 21
abbrev lz:Stmt:=top 37
abbrev vM:Stmt:=(eA kr).getD 4 (.Pass ⟨0,0,0,0⟩)
def pV:Pos:=match vM with | .FunctionDef _ _ _ _ _ _ _ _ _ p=>p | _=>⟨0,0,0,0⟩
def mM:Str:=("least_floor" : Str) ++ ".<locals>." ++ "parts_of"
structure Txt(K:W5)(mg:Str->Option Value):Prop where
 r_:mg "all" = none
 se:mg "any" = none
 sf:mg "bool" = none
 oi:mg "dict" = none
 pW:mg "int" = none
 ku:mg "isinstance" = none
 kz:mg "len" = none
 sh:mg "list" = none
 si:mg "max" = none
 oj:mg "range" = none
 pX:mg "sorted" = none
 pY:mg "str" = none
 jT:mg "tuple" = none
 om:mg "zip" = none
 ty_bool:jH K "bool"
 ty_int:jH K "int"
 ty_str:jH K "str"
 ty_tuple:jH K "tuple"
 sj:∃ t,mg "MOST_TILES" = some (.int 64 t)
 mN:∃ t,mg "NAMES" = some (.str (toS gD) t)
abbrev GV:DS:=(aq (cN (aF (ah gL 1 (ar (aA bw (ag 0))))) (bU (ah aw 0 (ag 1))) cR) (bU (eD (.int 0))))
def pZ:DF:=bR [] 2 GV
abbrev GY:DS:=(aq (au (aH fW (ah bt 0 (ar (eD (.int 7919)))) (ar (eD (.int 2147483647)))) (ae [] 0)) (bU (aH fW (aH bt (aH bt (ah eF 0 (ag 0)) (ar (aH eF (eD (.int 48271)) (ag 0)))) (ar (eD (.int 12345)))) (ar (eD (.int 2147483629))))))
def p_:DF:=bR [] 1 GY
abbrev GZ:DS:=(aq (cN (aF (aH cq (ah aw 0 (ar (eD (.int 1)))) (ar (eD (.int 1))))) (aq (au (aH fW (ah aw 0 (ar (eD (.int 0)))) (ag 1)) (ae [0] 2)) (aq (l7 0 (eD (.int 0)) (aH oX (ah aw 0 (ar (eD (.int 0)))) (ag 1))) (bU (aa 2)))) cR) (aq (l7 0 (eD (.int 2)) (aE p_ [.val (aH bt (aE p_ [.val (ah aw 0 (ar (eD (.int 2))))]) (ar (eD (.int 7))))])) (bU (aH fW (aH oX (ah aw 0 (ar (eD (.int 2)))) (ar (eD (.int 64)))) (ag 1)))))
def dS:DF:=bR [0] 3 GZ
abbrev G0:DS:=(aq (au (aH bt (eD (.int 1)) (ar (aE dS [.io 0,.val (eD (.int 3))]))) (ae [0] 1)) (aq (au (aH bt (eD (.int 1)) (ar (aE dS [.io 0,.val (eD (.int 3))]))) (ae [0] 2)) (aq (cN (aF (aH cq (aE dS [.io 0,.val (eD (.int 8))]) (ar (eD (.int 0))))) (au (aH aw (uU [.tup [.int 4,.int 1],.tup [.int 1,.int 4],.tup [.int 4,.int 4],.tup [.int 4,.int 3],.tup [.int 1,.int 2],.tup [.int 2,.int 1]]) (ar (aE dS [.io 0,.val (eD (.int 6))]))) (bX 2 (aW (ae [0] 1) (aW (ae [0] 2) ck)))) cR) (aq (cN (aF (aH cq (ah bt 1 (ag 2)) (ar (eD (.int 2))))) (au (eD (.int 2)) (ae [0] 2)) cR) (bU (ba (ax (aa 1) (ax (aa 2) aJ))))))))
def sk:DF:=bR [0] 3 G0
abbrev G1:DS:=(aq (cN (aF (ah cq 3 (ar (eD (.int 1))))) (bU (ah aw 1 (ar (aE dS [.io 0,.val (ah bt 2 (ar (eD (.int 1))))])))) cR) (aq (cN (aF (ah cq 3 (ar (eD (.int 2))))) (bU (ah aw 1 (ar (aH fW (ah bt 2 (ar (eD (.int 1)))) (ar (aA bw (ag 1))))))) cR) (aq (cN (oV (aF (ah cq 3 (ar (eD (.int 3))))) (aF (aH iO (aE dS [.io 0,.val (eD (.int 4))]) (ar (eD (.int 0)))))) (bU (ah aw 1 (ag 2))) cR) (bU (ah aw 1 (ar (aE dS [.io 0,.val (aA bw (ag 1))])))))))
def mO:DF:=bR [0] 4 G1
abbrev G2:DS:=(aq (au (aE sk [.io 0]) (bX 2 (aW (ae [0] 2) (aW (ae [0] 3) ck)))) (aq (au (aH bt (eD (.int 1)) (ar (aE dS [.io 0,.val (aa 1)]))) (ae [0] 4)) (aq (au (aE dS [.io 0,.val (eD (.int 26))]) (ae [0] 5)) (aq (au (eD (.str gD)) (ae [0] 6)) (aq (au (aA nC (ar (bE [13] (cY (aa 4)) (ae [0] 13) aZ (ah aw 6 (ar (aH fW (ah bt 5 (ar (aH eF (eD (.int 5)) (ag 13)))) (ar (eD (.int 26))))))))) (ae [0] 7)) (aq (au (aE dS [.io 0,.val (eD (.int 5))]) (ae [0] 8)) (aq (au (cG aJ) (ae [0] 9)) (aq (bG (cY (aa 4)) (ae [0] 10) (aq (au (cG aJ) (ae [0] 11)) (aq (bG (cY (aa 2)) (ae [0] 12) (cb 11 (aA (cx []) (ar (bE [14] (cY (aa 3)) (ae [0] 14) aZ (aE mO [.io 0,.val (aa 7),.val (aa 10),.val (aa 8)])))))) (cb 9 (ba (ax (ah aw 7 (ag 10)) (ax (aA bT (ag 11)) aJ))))))) (bU (ba (ax (aa 2) (ax (aa 3) (ax (aA bT (ag 9)) aJ)))))))))))))
def sm:DF:=bR [0] 15 G2
abbrev G3:DS:=(aq (au (aa 0) (bX 3 (aW (ae [] 2) (aW (ae [] 3) (aW (ae [] 4) ck))))) (aq (au (ah aw 4 (ag 1)) (bX 2 (aW (ae [] 5) (aW (ae [] 6) ck)))) (aq (au (aH bt (ba (ax (ah bt 5 (ar (ph (ah aw 6 (ar (eD (.int 0)))) (eX (eD (.int 1))) l5))) aJ)) (ar (hJ 6 (eX (eD (.int 1))) l5))) (ae [] 7)) (bU (ba (ax (aa 2) (ax (aa 3) (ax (aH bt (aH bt (hJ 4 l5 (eX (aa 1))) (ar (ba (ax (ba (ax (aa 5) (ax (aa 7) aJ))) aJ)))) (ar (hJ 4 (eX (ah bt 1 (ar (eD (.int 1))))) l5))) aJ))))))))
def qa:DF:=bR [] 8 G3
abbrev G4:DS:=(aq (au (eD (.str gD)) (ae [1] 2)) (aq (au (bE [13] (aG (ah aw 0 (ar (eD (.int 2))))) (ae [1] 13) aZ (ah aw 13 (ar (eD (.int 0))))) (ae [1] 3)) (aq (au (bE [14] (aG (aa 2)) (ae [1] 14) (aF (aH (eR true) (aa 14) (ag 3))) (aa 14)) (ae [1] 4)) (aq (au iT (ae [1] 5)) (aq (bG (cY (aA bw (ag 3))) (ae [1] 6) (de 5 (ah aw 3 (ag 6)) (ah aw 4 (ag 6)))) (aq (au (cG aJ) (ae [1] 7)) (aq (bG (aG (ah aw 0 (ar (eD (.int 2))))) (bX 2 (aW (ae [1] 8) (aW (ae [1] 9) ck))) (bG (aG (cG (ax (aa 8) (ax (ah aL 5 (ag 8)) aJ)))) (ae [1] 10) (aq (au (cG aJ) (ae [1] 11)) (aq (bG (aG (aa 9)) (ae [1] 12) (cb 11 (aA (cx []) (ar (bE [14] (aG (aa 12)) (ae [1] 14) aZ (aH aw (cG (ax (aa 14) (ax (ah aL 5 (ag 14)) aJ))) (ar (aE dS [.io 1,.val (eD (.int 2))])))))))) (cb 7 (ba (ax (aa 10) (ax (aA bT (ag 11)) aJ)))))))) (bU (ba (ax (ba (ax (ah aw 0 (ar (eD (.int 0)))) (ax (ah aw 0 (ar (eD (.int 1)))) (ax (aA bT (ar (aA k_ (ag 7)))) aJ)))) (ax (aa 5) aJ)))))))))))
def sr:DF:=bR [1] 15 G4
abbrev G5:DS:=(aq (au (aE sm [.io 0,.val (aa 1)]) (ae [0] 2)) (aq (au (bE [10] (aG (ah aw 2 (ar (eD (.int 2))))) (ae [0] 10) aZ (ah aw 10 (ar (eD (.int 0))))) (ae [0] 3)) (aq (au iT (ae [0] 4)) (aq (au (aH bt (eD (.int 1)) (ar (aE dS [.io 0,.val (eD (.int 3))]))) (ae [0] 5)) (aq (bG (aG (aa 3)) (ae [0] 6) (de 4 (aa 6) (aH aw (eD (.str [120,121,122])) (ar (aE dS [.io 0,.val (aa 5)]))))) (aq (au (aE dS [.io 0,.val (aA bw (ag 3))]) (ae [0] 7)) (aq (au (aE qa [.val (aa 2),.val (aa 7)]) (ae [0] 2)) (aq (au (ah aw 3 (ag 7)) (ae [0] 8)) (aq (cN (aF (aH cq (aE dS [.io 0,.val (eD (.int 2))]) (ar (eD (.int 0))))) (aq (au (aE sr [.val (aa 2),.io 0]) (bX 2 (aW (ae [0] 2) (aW (ae [0] 9) ck)))) (aq (bG (aG (aa 3)) (ae [0] 6) (de 4 (ah aL 9 (ag 6)) (ah aL 4 (ag 6)))) (aq (au (aH aw (cG (ax (aa 8) (ax (ah aL 9 (ag 8)) aJ))) (ar (aE dS [.io 0,.val (eD (.int 2))]))) (ae [0] 8)) (au (aE qa [.val (aa 2),.val (mx (bE [10] (aG (ah aw 2 (ar (eD (.int 2))))) (ae [0] 10) aZ (ah aw 10 (ar (eD (.int 0))))) (aa 8))]) (ae [0] 2))))) cR) (bU (ba (ax (aa 2) (ax (aa 8) (ax (aA bT (ar (bE [10] (aG (ah aw 2 (ar (eD (.int 2))))) (ae [0] 10) aZ (ba (ax (ah aw 10 (ar (eD (.int 0)))) (ax (ah aL 4 (ar (ah aw 10 (ar (eD (.int 0)))))) aJ)))))) aJ))))))))))))))
def oq:DF:=bR [0] 11 G5
abbrev G6:DS:=(aq (au (qX (aa 0) (aH qR (eD (.int 0)) (ag 0))) (ae [] 1)) (bU (cG (ax (aa 1) (ax (aA nA (ar (ah xJ 1 (ar (aH uC (eD (.int 10)) (ar (eD (.int 18)))))))) (ax (ah fW 1 (ar (eD (.int 1000003)))) aJ))))))
def ot:DF:=bR [] 2 G6
abbrev G7:DS:=(aq (au (aA cO (ag 1)) (ae [] 2)) (aq (au (aA cO (ar (bE [10,11] (aG (ah aw 0 (ar (eD (.int 2))))) (bX 2 (aW (ae [] 10) (aW (ae [] 11) ck))) aZ (ba (ax (aa 10) (ax (aA (cx []) (ag 11)) aJ)))))) (ae [] 3)) (aq (au (bE [9] (aG (ah aw 0 (ar (eD (.int 2))))) (ae [] 9) aZ (ah aw 9 (ar (eD (.int 0))))) (ae [] 4)) (aq (au gU (ae [] 5)) (aq (bG (aG (aa 4)) (ae [] 6) (bG (aG (aa 4)) (ae [] 7) (iV 5 (ba (ax (aa 6) (ax (aa 7) aJ))) (aH lq (ah aL 2 (ag 6)) (ar (ah aL 2 (ag 7))))))) (aq (au (eD (.bl true)) (ae [] 8)) (aq (dB (aF (aa 8)) (aq (au (eD (.bl false)) (ae [] 8)) (bG (aG (aA n5 (ag 5))) (bX 2 (aW (ae [] 6) (aW (ae [] 7) ck))) (cN (gI (aF (ah gy 5 (ar (ba (ax (aa 6) (ax (aa 7) aJ))))))) (cN (aF (aA kU (ar (bE [9] (jy (ah aL 3 (ag 6)) (ah aL 3 (ag 7))) (ae [] 9) aZ (ah gy 5 (ag 9)))))) (aq (iV 5 (ba (ax (aa 6) (ax (aa 7) aJ))) (eD (.bl true))) (au (eD (.bl true)) (ae [] 8))) cR) cR))) 1000000) (jl [] 5))))))))
def su:DF:=bR [] 12 G7
abbrev G8:DS:=(aq (au (aa 0) (bX 3 (aW (ae [] 1) (aW (ae [] 2) (aW (ae [] 3) ck))))) (aq (au (aE su [.val (aa 1),.val (aa 3)]) (ae [] 4)) (aq (au (bE [17] (aG (ah aw 1 (ar (eD (.int 2))))) (ae [] 17) aZ (ah aw 17 (ar (eD (.int 0))))) (ae [] 5)) (aq (au iT (ae [] 6)) (aq (bG (aG (aa 5)) (ae [] 7) (de 6 (aa 7) (aH aw (bE [18] (aG (aa 5)) (ae [] 18) (gI (aF (ah gy 4 (ar (ba (ax (aa 7) (ax (aa 18) aJ))))))) (aa 18)) (ar (eD (.int 0)))))) (aq (au (aA cO (ar (ah aw 1 (ar (eD (.int 2)))))) (ae [] 8)) (aq (au (cG (ax (ah aL 6 (ag 2)) aJ)) (ae [] 9)) (aq (au (mw (ah aL 6 (ag 2)) (eD (.str [97]))) (ae [] 10)) (aq (au (cG aJ) (ae [] 11)) (aq (dB (aF (aH gL (aA bw (ag 11)) (ar (aA bw (ag 9))))) (aq (au (cG aJ) (ae [] 12)) (aq (bG (aG (ah aL 8 (ar (ah aw 9 (ar (aA bw (ag 11))))))) (ae [] 13) (aq (au (eD (.str [])) (ae [] 14)) (aq (bG (aG (aa 13)) (ae [] 15) (aq (cN (aF (aH (eR true) (ah aL 6 (ag 15)) (ag 10))) (aq (de 10 (ah aL 6 (ag 15)) (aH aw (eD (.str gD)) (ar (aA bw (ag 9))))) (cb 9 (ah aL 6 (ag 15)))) cR) (au (ah bt 14 (ar (ah aL 10 (ar (ah aL 6 (ag 15)))))) (ae [] 14)))) (cb 12 (aa 14))))) (cb 11 (ba (ax (ah aL 10 (ar (ah aw 9 (ar (aA bw (ag 11)))))) (ax (aA bT (ag 12)) aJ)))))) 1000000) (aq (au (aA cO (ag 3)) (ae [] 16)) (bU (ba (ax (ba (ax (ah aw 1 (ar (eD (.int 0)))) (ax (ah aw 1 (ar (eD (.int 1)))) (ax (aA bT (ag 11)) aJ)))) (ax (eD (.str [97])) (ax (aA bT (ar (bE [19] (aG (aa 9)) (ae [] 19) aZ (ba (ax (ah aL 10 (ag 19)) (ax (ah aL 16 (ag 19)) aJ)))))) aJ))))))))))))))))
def ou:DF:=bR [] 20 G8
abbrev Vh:DS:=(bU (kT (g_ "int" (ag 0)) (uy (g_ "bool" (ag 0)))))
def qb:DF:=bR [] 1 Vh
theorem Vi:jh qb:=mh
def mP (Gs:DF):DS:=(aq (cN (aF (g_ "tuple" (ag 1))) (aq (cN (nv (gI (aF (g_ "tuple" (ag 0)))) (aF (aH lq (aA bw (ag 0)) (ar (aA bw (ag 1)))))) (bU (eD (.bl false))) cR) (bU (aA pb (ar (bE [2] (cY (aA bw (ag 1))) (ae [] 2) aZ (aE Gs [.val (ah aw 0 (ag 2)),.val (ah aw 1 (ag 2))])))))) cR) (aq (cN (aF (g_ "str" (ag 1))) (bU (kT (g_ "str" (ag 0)) (ah cq 0 (ag 1)))) cR) (bU (kT (aE qb [.val (aa 0)]) (ah cq 0 (ag 1))))))
def gW:Nat->DF
 | 0=>λ_=>none
 | n + 1=>bR [] 3 (mP (gW n))
theorem Vj:∀ n,jh (gW n)
 | 0=>λ_ _ _ h=>nomatch h
 | n + 1=>mh
theorem zy:gj ["found","due","k"] ["found","due"] (bM zt):=scc
abbrev G9:DS:=(bU (bE [1,2] (aG (ah aw 0 (ar (eD (.int 2))))) (bX 2 (aW (ae [] 1) (aW (ae [] 2) ck))) aZ (aa 1)))
def sv:DF:=bR [] 3 G9
abbrev G_:DS:=(bG (aG (aA (cx []) (ag 1))) (ae [] 2) (cN (aF (aH (eR true) (aa 2) (ag 0))) nE cR))
def sy:DF:=bR [] 3 G_
abbrev Hb:DS:=(aq (cN (aF (ah iO 0 (ag 2))) nE cR) (cN (aF (ah iO 1 (ag 2))) nE cR))
def sA:DF:=bR [] 3 Hb
abbrev Hc:DS:=(aq (bG (cY (aa 2)) (ae [] 3) (au (ah eF 0 (ag 1)) (ae [] 0))) (bU (aa 0)))
def qc:DF:=bR [] 4 Hc
abbrev Hd:DS:=(aq (au (cG aJ) (ae [] 3)) (aq (bG (aG (aa 2)) (ae [] 4) (bG (cY (aa 1)) (ae [] 5) (cb 3 (aA (cx []) (ar (bE [6] (aG (aa 4)) (ae [] 6) aZ (aH aw (ah aL 0 (ag 6)) (ag 5)))))))) (bU (aA bT (ag 3)))))
def sC:DF:=bR [] 7 Hd
abbrev He:DS:=(aq (au (aa 0) (bX 3 (aW (ae [] 3) (aW (ae [] 4) (aW (ae [] 5) ck))))) (aq (au (aA cO (ag 5)) (ae [] 6)) (aq (kX (aE sy [.val (aa 6),.val (aa 1)])) (aq (kX (aE sA [.val (aE qc [.val (aA bw (ag 1)),.val (aa 3),.val (aa 2)]),.val (aE qc [.val (aA bw (ar (ah aw 1 (ar (eD (.int 0)))))),.val (aa 4),.val (aa 2)]),.val (eD (.int 64))])) (aq (au (aa 1) (ae [] 7)) (aq (bG (cY (aa 2)) (ae [] 8) (au (aE sC [.val (aa 6),.val (aa 3),.val (aa 7)]) (ae [] 7))) (bU (aa 7))))))))
def qd:DF:=bR [] 9 He
abbrev Hf:DS:=(bU (aA cO (ar (bE [2] (aG (aE sv [.val (aa 0)])) (ae [] 2) aZ (ba (ax (aa 2) (ax (aA (cx []) (ar (aE qd [.val (aa 0),.val (ba (ax (aa 2) aJ)),.val (aa 1)]))) aJ)))))))
def qe:DF:=bR [] 3 Hf
theorem Vk:jh qe:=mh
abbrev Hg:DS:=(aq (au (aA cO (ag 1)) (ae [] 2)) (aq (au (eD (.int 0)) (ae [] 3)) (dB (aF (eD (.bl true))) (aq (au gU (ae [] 4)) (aq (au gU (ae [] 5)) (aq (bG (aG (ah aw 0 (ar (eD (.int 2))))) (bX 2 (aW (ae [] 6) (aW (ae [] 7) ck))) (aq (au (ba (ax (ah iC 2 (ag 6)) (ax (aA bT (ar (bE [9] (aG (aA (cx []) (ag 7))) (ae [] 9) aZ (ah iC 2 (ag 9))))) aJ))) (ae [] 8)) (iV 5 (aa 6) (n4 4 (aa 8) (aA h_ (ag 4)))))) (aq (cN (aF (aH cq (aA h_ (ag 4)) (ag 3))) (jl [] 5) cR) (aq (au (aA h_ (ag 4)) (ae [] 3)) (nY [] 2 5)))))) 1000000)))
def ow:DF:=bR [] 10 Hg
theorem Vl:jh ow:=mh
def zA:DS:=(aq (au gU (ae [] 2)) (aq (rV [] 2 3 4 (aE ow [.val (aa 0),.val (aa 1)])) (bU (bE [5] (rQ (aa 2)) (ae [] 5) aZ (aA bT (ag 5))))))
def qf:DF:=bR [] 6 zA
theorem Vm:jh qf:=mh
theorem sE:gj ["rule","paint","groups","tile","number","group"] ["rule","paint"] (bM zu):=scc
def lA(fa:Addr)(Fn:D->Option D):DS:=(aq (au (cG (ax (aa 0) aJ)) (ae [] 2)) (aq (au (mw (aa 0) (eD (.bl true))) (ae [] 3)) (aq (au (eD (.int 0)) (ae [] 4)) (aq (dB (aF (ah gL 4 (ar (aA bw (ag 2))))) (aq (au (ah aw 2 (ag 4)) (ae [] 5)) (aq (bG (aG (jr fa Fn 1 (aa 5))) (ae [] 6) (cN (aF (aH (eR true) (aa 6) (ag 3))) (aq (de 3 (aa 6) (eD (.bl true))) (cb 2 (aa 6))) cR)) (au (ah bt 4 (ar (eD (.int 1)))) (ae [] 4)))) 1000000) (jl [] 2)))))
theorem ox:gj ["first","step","found","seen","number","here","part"] ["first","step"] (bM zv):=scc
def lD(fa:Addr)(Fn:D->Option D):DS:=(aq (au (aa 0) (bX 3 (aW (ae [] 3) (aW (ae [] 4) (aW (ae [] 5) ck))))) (aq (au (r9 (aa 1) (eD (.str gD))) (ae [] 6)) (aq (au (cG aJ) (ae [] 7)) (aq (bG (aG (aa 1)) (ae [] 8) (aq (au (aA (cx []) (ar (bE [10] (aG (jr fa Fn 2 (aa 8))) (ae [] 10) aZ (ah aL 6 (ag 10))))) (ae [] 9)) (cb 7 (ba (ax (ah aL 6 (ag 8)) (ax (aA bT (ar (bE [11] (cY (aa 3)) (ae [] 11) aZ (hJ 9 (eX (ah eF 4 (ag 11))) (eX (aH bt (ah eF 4 (ag 11)) (ag 4))))))) aJ)))))) (bU (ba (ax (aa 3) (ax (aa 4) (ax (aA bT (ag 7)) aJ)))))))))
theorem kA:gj ["rule","things","parts_of","high","wide","blocks","name_of","named","thing","text","part","row"] ["rule","things","parts_of"] (bM zw):=scc
def jz:DS:=(bU (bE [3] (aG (ah aL 2 (ag 0))) (ae [] 3) aZ (ah aL 1 (ag 3))))
theorem Vn:(["own","least_of","text_of","part"]:List Str).Nodup:=by decide +kernel
theorem Hh  {w:Wt}       {A:Wv} {outer:List Env} {s:W4} {H:Hp} {c:Fc} (T:Txt K mg) (hq:(A.deeper (Jz mM (bM vM) s.heap.objs.size fa cd cl)).units + 64 < Qk) (hp:c.pin=[]):eM (pM P w K mg base ["own","least_of","text_of","part"] mM (bM vM) fa cd cl A outer s H) c (eA vM) jz:=by
 have bj:Np c []:=λp h=>by rw[hp] at h; cases h
 refine(gN ?_);refine(kY ?_);exact(@nM _ _ ([3]) _ _ _ _ _ _ _ _ _ _ rfl (mj rfl rfl) (nR (ip (mv hq) mr (pv 2) (dM (pv 0)) (λ_ _=>rfl))) (λl s0 H0 ex=>(@ma _ _ _ _ ([]) (3) _ bj Vn rfl bh bh Z')) (λl s0 H0 ex=>nK) (λl s0 H0 ex=>(ip (mv hq) mr (pv 1) (dM (pv 3)) (λ_ _=>rfl))) (mi bj rfl) Z7)
def b_least_floor:DS:=(aq (au (aa 0) (bX 3 (aW (ae [] 1) (aW (ae [] 2) (aW (ae [] 3) ck))))) (aq (au (aE qe [.val (aa 1),.val (eD (.int 1))]) (ae [] 4)) (aq (au iT (ae [] 5)) (aq (bG (aG (aE qf [.val (aa 1),.val (aa 3)])) (ae [] 6) (bG (aG (aa 6)) (ae [] 7) (de 5 (aa 7) (ah aw 6 (ar (eD (.int 0))))))) (dDefR 8 λfa=>(aq (au (mK 1 (iD lA 7 fa) [5,4] jz [.val (ah aL 5 (ag 2)),.val (aa 8)]) (ae [] 9)) (aq (au (aA cO (ag 3)) (ae [] 10)) (aq (au (aA bT (ar (bE [12,7] (jy (eD (.str gD)) (aa 9)) (bX 2 (aW (ae [] 12) (aW (ae [] 7) ck))) aZ (ba (ax (aa 12) (ax (ah aL 10 (ag 7)) aJ)))))) (ae [] 11)) (bU (ba (ax (mK 1 (iD lD 12 fa) [5,4] jz [.val (aa 1),.val (aa 9),.val (aa 8)]) (ax (aH aw (eD (.str gD)) (ar (eD (.int 0)))) (ax (aa 11) aJ)))))))))))))
noncomputable def G_least_floor:DF:=bR [] 13 b_least_floor
theorem iF:gj ["painted","rule","tile","paint","text_of","least_of","group","own","parts_of","things","sign_of","signs","name"] ["painted"] (bM kr):=scc
abbrev b_law:DS:=(aq (bG (aG (aH bt (cG (ax (aE pZ [.val (aa 0),.val (eD (.int 0))]) aJ)) (ar (hJ 0 (eX (eD (.int 1))) (eX (eD (.int 5))))))) (ae [] 1) (aq (au (nT oq (aE ot [.val (aa 1)]) [.val (eD (.int 5))]) (ae [] 2)) (aq (au (aE ou [.val (aa 2)]) (ae [] 3)) (bG (cY (eD (.int 2))) (ae [] 4) (cN (gI (aF (aE (gW 7) [.val (aE G_least_floor [.val (aa 2)]),.val (aa 3)]))) (bU (eD (.bl false))) cR))))) (bU (eD (.bl true))))
noncomputable def G_law:DF:=bR [] 5 b_law
theorem Hi:gj ["script","cell","painted","due","turn"] ["script"] (bM lz):=scc
set_option hygiene false in
local macro_rules | `(tactic| infer_instance)=>`(tactic| (
  repeat' first
   | ((with_reducible show SE _ _ _ _); first
     | ((with_reducible show SE _ _ _ (g_ "int" _)); refine @pf _ _ _ _ _ _ _ _ _ T.ty_int rfl T.ku rfl T.pW boot_int ?_ Z' Z' Z4 Z4)
     | ((with_reducible show SE _ _ _ (aH lq _ _)); refine @qQ _ _ _ _ _ _ _ _ _ _ FX gJ ?_ ?_ (fT _))
     | ((with_reducible show SE _ _ _ (ah cq _ _)); refine @oT _ _ _ _ _ _ _ _ _ _ pQ gJ (pv _) ?_ (fT _))
     | ((with_reducible show SE _ _ _ (aH cq _ _)); refine @qQ _ _ _ _ _ _ _ _ _ _ pQ gJ ?_ ?_ (fT _))
     | ((with_reducible show SE _ _ _ (aH (eR true) _ _)); refine @qQ _ _ _ _ _ _ _ _ _ _ (yn hq) (yo true) ?_ ?_ rfl)
     | ((with_reducible show SE _ _ _ (ah gy _ _)); refine @ip _ _ _ _ _ _ _ _ _ (Fu hq) Fv (pv _) ?_ (λ_ _=>rfl))
     | ((with_reducible show SE _ _ _ (ah iC _ _)); refine @ip _ _ _ _ _ _ _ _ _ (T8 hq) T9 (pv _) ?_ (λ_ _=>rfl))
     | ((with_reducible show SE _ _ _ (aA nC _)); refine @Oj _ _ _ _ _ _ rfl T.pX ?_ Z4)
     | ((with_reducible show SE _ _ _ (aA k_ _)); refine Rv rfl T.pX ?_)
     | ((with_reducible show SE _ _ _ (aA n5 _)); refine Tc rfl rfl T.sh ?_)
     | ((with_reducible show SE _ _ _ (aA h_ _)); refine S7 rfl T.kz ?_)
     | ((with_reducible show SE _ _ _ (aA kU _)); refine @Oi _ _ _ _ _ _ rfl rfl T.se ?_ Z4)
     | ((with_reducible show SE _ _ _ (n4 _ _ _)); refine S8 hq (pv _) ?_ ?_ ⟨rfl,rfl,rfl,rfl⟩)
     | ((with_reducible show SE _ _ _ (mx _ _)); refine Rj ?_ ?_)
     | ((with_reducible show SE _ _ _ (nT _ _ _)); refine P4 (by assumption) mh (hr.mono Z') rfl ?_ (λ_=>?_) rfl)
     | ((with_reducible show SE _ _ _ (uy _)); refine @N2 _ _ _ _ _ ?_)
     | ((with_reducible show SE _ _ _ gU); exact Fy)
     | ((with_reducible show SE _ _ _ (mw _ _)); refine @Et _ _ _ _ _ _ _ (λc=>?_) (λc=>?_))
     | ((with_reducible show SE _ _ _ (aa _)); exact @dj _ _ _ _ (pv _))
     | ((with_reducible show SE _ _ _ (eD (.int _))); first | exact @nt _ _ _ _ _ | exact @DY _ _ _ _ _ rfl T.sj Z' | exact @DY _ _ _ _ _ rfl T.mN Z')
     | ((with_reducible show SE _ _ _ (eD (.bl _))); exact @qN _ _ _ _ _)
     | ((with_reducible show SE _ _ _ (eD .bp)); exact @Cy _ _ _ _)
     | ((with_reducible show SE _ _ _ (eD (.str _))); exact @Cz _ _ _ _ _ _ Zp)
     | ((with_reducible show SE _ _ _ (eD _)); exact @se_const _ _ _ _ Z4)
     | ((with_reducible show SE _ _ _ (uU _)); exact @Pg _ _ _ _ _ Z4 Z')
     | ((with_reducible show SE _ _ _ (ba _)); refine @oY _ _ _ _ _ _ ?_ Z')
     | ((with_reducible show SE _ _ _ (cG _)); refine @uF _ _ _ _ _ ?_ Z')
     | ((with_reducible show SE _ _ _ iT); exact @D7 _ _ _)
     | ((with_reducible show SE _ _ _ (aH aw _ _)); refine @CP _ _ _ _ _ _ _ _ _ lT lX ?_ ?_ (λ_ _=>rfl))
     | ((with_reducible show SE _ _ _ (ah aw _ _)); refine @ip _ _ _ _ _ _ _ _ _ lT lX (pv _) ?_ (λ_ _=>rfl))
     | ((with_reducible show SE _ _ _ (ah aL _ _)); refine @ip _ _ _ _ _ _ _ _ _ (mv hq) mr (pv _) ?_ (λ_ _=>rfl))
     | ((with_reducible show SE _ _ _ (aH bt _ _)); refine @nu _ _ _ _ _ _ _ _ _ _ uz uA ?_ ?_)
     | ((with_reducible show SE _ _ _ (ah bt _ _)); refine @oS _ _ _ _ _ _ _ _ _ _ uz uA (pv _) ?_)
     | ((with_reducible show SE _ _ _ (aH qR _ _)); refine @nu _ _ _ _ _ _ _ _ _ _ LU N5 ?_ ?_)
     | ((with_reducible show SE _ _ _ (aH eF _ _)); refine @nu _ _ _ _ _ _ _ _ _ _ uV uW ?_ ?_)
     | ((with_reducible show SE _ _ _ (ah eF _ _)); refine @oS _ _ _ _ _ _ _ _ _ _ uV uW (pv _) ?_)
     | ((with_reducible show SE _ _ _ (aH fW _ _)); refine @nu _ _ _ _ _ _ _ _ _ _ Bz CW ?_ ?_)
     | ((with_reducible show SE _ _ _ (ah fW _ _)); refine @oS _ _ _ _ _ _ _ _ _ _ Bz CW (pv _) ?_)
     | ((with_reducible show SE _ _ _ (aH oX _ _)); refine @nu _ _ _ _ _ _ _ _ _ _ LW N7 ?_ ?_)
     | ((with_reducible show SE _ _ _ (aH uC _ _)); refine @nu _ _ _ _ _ _ _ _ _ _ LX N8 ?_ ?_)
     | ((with_reducible show SE _ _ _ (ah xJ _ _)); refine @oT _ _ _ _ _ _ _ _ _ _ N9 gJ (pv _) ?_ (fT _))
     | ((with_reducible show SE _ _ _ (aH gL _ _)); refine @qQ _ _ _ _ _ _ _ _ _ _ qT qU ?_ ?_ (fT _))
     | ((with_reducible show SE _ _ _ (ah gL _ _)); refine @oT _ _ _ _ _ _ _ _ _ _ qT qU (pv _) ?_ (fT _))
     | ((with_reducible show SE _ _ _ (aH iO _ _)); refine @qQ _ _ _ _ _ _ _ _ _ _ uE gJ ?_ ?_ (fT _))
     | ((with_reducible show SE _ _ _ (ah iO _ _)); refine @oT _ _ _ _ _ _ _ _ _ _ uE gJ (pv _) ?_ (fT _))
     | ((with_reducible show SE _ _ _ (aA bw _)); refine @qV _ _ _ _ _ _ rfl T.kz ?_ Z4)
     | ((with_reducible show SE _ _ _ (aA bT _)); refine @qW _ _ _ _ _ _ rfl T.jT ?_ Z4)
     | ((with_reducible show SE _ _ _ (aA cO _)); refine @Ed _ _ _ _ _ _ rfl rfl T.oi ?_ Z4)
     | ((with_reducible show SE _ _ _ (aA nA _)); refine @Oe _ _ _ _ _ _ rfl T.pW ?_ Z4)
     | ((with_reducible show SE _ _ _ (aA (cx _) _)); refine @C_ _ _ _ _ _ _ _ _ _ _ ?_ Zp Z4 Z4 Z4 Z4)
     | ((with_reducible show SE _ _ _ (qX _ _)); refine @Ol _ _ _ _ _ _ _ _ rfl rfl T.si ?_ ?_ Z4 Z4 Z4)
     | ((with_reducible show SE _ _ _ (ph _ _ _)); refine @Oz _ _ _ _ _ _ _ _ _ _ ?_ ?_ ?_)
     | ((with_reducible show SE _ _ _ (hJ _ _ _)); refine @C8 _ _ _ _ _ _ _ _ _ _ (pv _) ?_ ?_)
     | ((with_reducible show SE _ _ _ (bE _ _ _ _ _)); refine @nM _ _ _ _ _ _ _ _ _ _ _ _ _ rfl (mj rfl rfl) ?_ (λl s0 H0 ex=>?_) (λl s0 H0 ex=>?_) (λl s0 H0 ex=>?_) (mi bj rfl) Z7)
     | ((with_reducible show SE _ _ _ (aE _ _)); first | refine @pA _ _ _ _ _ _ _ _ _ _ _ (by assumption) mh (hr.mono Z') rfl ?_ rfl Z' Z4 Z4 | refine RT (by assumption) ft mh (hr.mono Z') rfl ?_ rfl)
     | ((with_reducible show SE _ _ _ (g_ "bool" _)); refine @pf _ _ _ _ _ _ _ _ _ T.ty_bool rfl T.ku rfl T.sf boot_bool ?_ Z' Z' Z4 Z4)
     | ((with_reducible show SE _ _ _ (kT _ _)); refine @xH _ _ _ _ _ _ _ _ ?_ ?_)
     | (refine @xG _ _ _ _ _ _ ?_))
   | ((with_reducible show ST _ _ _ _); first
     | ((with_reducible show ST _ _ _ (aF (ah cq _ _))); refine @uw _ _ _ _ _ _ _ _ _ _ pQ gJ (pv _) ?_ (fT _))
     | ((with_reducible show ST _ _ _ (aF (aH cq _ _))); refine @oU _ _ _ _ _ _ _ _ _ _ pQ gJ ?_ ?_ (fT _))
     | ((with_reducible show ST _ _ _ (aF (aH gL _ _))); refine @oU _ _ _ _ _ _ _ _ _ _ qT qU ?_ ?_ (fT _))
     | ((with_reducible show ST _ _ _ (aF (ah gL _ _))); refine @uw _ _ _ _ _ _ _ _ _ _ qT qU (pv _) ?_ (fT _))
     | ((with_reducible show ST _ _ _ (aF (aH iO _ _))); refine @oU _ _ _ _ _ _ _ _ _ _ uE gJ ?_ ?_ (fT _))
     | ((with_reducible show ST _ _ _ (aF (ah iO _ _))); refine @uw _ _ _ _ _ _ _ _ _ _ uE gJ (pv _) ?_ (fT _))
     | ((with_reducible show ST _ _ _ (aF (aH (eR true) _ _))); refine @oU _ _ _ _ _ _ _ _ _ _ (yn hq) (yo true) ?_ ?_ rfl)
     | ((with_reducible show ST _ _ _ (aF (eChain _ _ _ _ _))); refine @st_chain _ _ _ _ _ _ _ _ _ _ _ _ _ _ _ op_leD op_leD gJ gJ ?_ ?_ ?_ (by with_unfolding_all rfl))
     | ((with_reducible show ST _ _ _ (aF _)); refine @ux _ _ _ _ ?_ Z7)
     | ((with_reducible show ST _ _ _ (gI _)); refine @CT _ _ _ _ _ ?_)
     | (refine @CS _ _ _ _ ?_))
   | ((with_reducible show SI _ _ _ _ _); first
     | ((with_reducible show SI _ _ _ _ (jy _ _)); refine Ge rfl T.om ?_ ?_)
     | ((with_reducible show SI _ _ _ _ (aG _)); refine @nR _ _ _ _ _ ?_)
     | ((with_reducible show SI _ _ _ _ (cY _)); refine @xW _ _ _ _ _ _ _ rfl T.oj ?_ Z4))
   | ((with_reducible show SS _ _ _ _); first
     | ((with_reducible show SS _ _ _ (iV _ _ _)); refine Sx hq (pv _) ?_ ?_)
     | ((with_reducible show SS _ _ _ (de _ _ _)); refine @yv _ _ _ _ _ _ _ _ _ _ hq (pv _) ?_ ?_ Z4)
     | ((with_reducible show SS _ _ _ (jl _ _)); exact @Ei _ _ _ _ _ _ bj (pv _))
     | ((with_reducible show SS _ _ _ (nY _ _ _)); exact RL bj lE rfl bh (pv _) rfl bh)
     | ((with_reducible show SS _ _ _ (bU _)); refine @kY _ _ _ _ _ ?_)
     | ((with_reducible show SS _ _ _ (cN _ _ _)); refine @qZ _ _ _ _ _ _ _ _ _ ?_ ?_ ?_)
     | ((with_reducible show SS _ _ _ (au (bE _ _ _ _ _) (ae _ _))); refine @OZ _ _ _ _ _ _ _ _ _ _ _ _ _ _ _ _ _ _ bj rfl (mj rfl rfl) lE rfl rfl ?_ (λl s0 H0 ex=>?_) (λl s0 H0 ex=>?_) (λl s0 H0 ex=>?_) (mi bj rfl) Z4 Z7)
     | ((with_reducible show SS _ _ _ (au _ (ae _ _))); refine @hV _ _ _ _ _ _ _ _ _ bj lE rfl bh ?_ rfl bh)
     | ((with_reducible show SS _ _ _ (au _ _)); refine @xV _ _ _ _ _ _ _ ?_ ?_ Z4 Z4 Z4)
     | ((with_reducible show SS _ _ _ (bG _ _ _)); refine @rj _ _ _ _ _ _ _ _ _ PassesOwn.never rfl ?_ ?_ ?_ Z7)
     | ((with_reducible show SS _ _ _ (cb _ _)); refine @yd _ _ _ _ _ _ _ _ _ (pv _) ?_ Z4 Z4 Z4 Z4 Z4)
     | ((with_reducible show SS _ _ _ (l7 _ _ _)); refine @OK _ _ _ _ _ _ _ _ _ _ (pv _) ?_ ?_ Z7 Z4 Z4 Z4)
     | ((with_reducible show SS _ _ _ (dB _ _ _)); refine @Dg _ _ _ _ _ _ _ 1000000 (λh1 h2=>Bs PassesOwn.never h1 h2) ?_ ?_)
     | ((with_reducible show SS _ _ _ nE); exact @OE _ _ _)
     | ((with_reducible show SS _ _ _ (kX _)); refine @Ph _ _ _ _ _ ?_ Z4))
   | ((with_reducible show eM _ _ _ _); first
     | ((with_reducible show eM _ _ _ cR); exact qY)
     | ((with_reducible show eM _ _ _ (aq _ _)); refine @eh _ _ _ _ _ _ ?_ ?_)
     | (refine @gN _ _ _ _ ?_))
   | ((with_reducible show SB _ _ _ _); first
     | ((with_reducible show SB _ _ _ (ag _)); exact @dM _ _ _ _ (pv _))
     | ((with_reducible show SB _ _ _ (ar _)); refine @j8 _ _ _ _ ?_))
   | ((with_reducible show SA _ _ _ _); first
     | ((with_reducible show SA _ _ _ aJ); exact @lY _ _)
     | ((with_reducible show SA _ _ _ (ax _ _)); refine @ji _ _ _ _ _ _ ?_ ?_ Z4))
   | ((with_reducible show SX _ _ _ _); first
     | ((with_reducible show SX _ _ _ []); exact @me _ _)
     | ((with_reducible show SX _ _ _ (.io _ :: _)); refine @Pc _ _ _ _ _ _ (pv _) ?_ Z4)
     | ((with_reducible show SX _ _ _ (.val _ :: _)); refine @hW _ _ _ _ _ _ ?_ ?_ Z4))
   | ((with_reducible show SO _ _ _ _); first
     | ((with_reducible show SO _ _ _ l5); exact @Oy _ _)
     | ((with_reducible show SO _ _ _ (eX _)); refine @xP _ _ _ _ ?_))
   | ((with_reducible show SG _ _ _ _); first
     | ((with_reducible show SG _ _ _ (ae _ _)); exact @jJ _ _ _ _ _ _ bj lE rfl bh bh)
     | ((with_reducible show SG _ _ _ (bX _ _)); refine @xT _ _ _ _ _ _ _ rfl ?_ Z4 Z4))
   | ((with_reducible show nF _ _ _ _); first
     | ((with_reducible show nF _ _ _ ck); exact @xS _ _)
     | ((with_reducible show nF _ _ _ (aW _ _)); refine @nG _ _ _ _ _ _ ?_ ?_ Z4))
   | ((with_reducible show l_ _ _ _ _ _); first
     | ((with_reducible show l_ _ _ _ _ (ae _ _)); exact @ma _ _ _ _ _ _ _ bj lE rfl bh bh Z')
     | ((with_reducible show l_ _ _ _ _ (bX _ _)); refine @Dj _ _ _ _ _ _ _ _ rfl ?_ Z4 Z4))
   | ((with_reducible show nL _ _ _ _ _); first
     | ((with_reducible show nL _ _ _ _ ck); exact @Di _ _ _)
     | ((with_reducible show nL _ _ _ _ (aW _ _)); refine @xY _ _ _ _ _ _ _ ?_ ?_ Z4))
   | ((with_reducible show SW _ _ _ _); first
     | ((with_reducible show SW _ _ _ (oV _ _)); refine @NZ _ _ _ _ _ _ _ _ ?_ ?_)
     | (first | refine @CQ _ _ _ _ _ ?_ | refine @NY _ _ _ _ _ ?_))
   | ((with_reducible show pk _ _ _ _); first
     | ((with_reducible show pk _ _ _ aZ); exact @nK _ _)
     | (refine @OS _ _ _ _ ?_))
))
section
variable {w:Wt}{h:Heap}{x:Str}{st:Stmt}{k:Nat}{fb:DS}{G:DF}
theorem e7(Y:K.In h)(Z:h.Ns Wy mg)(d:bW K x st)(hG:G=bR np N.length fb:=by rfl)(hn:(N.take n).length=n:=by rfl)(S:gj N (N.take n) (bM st):=by exact⟨rfl,rfl,rfl,Zp,rfl,Zp,Zp⟩)
  (hb:∀ {f fd},eB K x x st f fd->Binds K fd (N.take n) []:=by intro f fd F; first | exact Ew F λ_ _ _ _ _ _ _=>rfl | exact vb F λ_ _ _ _ _ _ _ _=>rfl | exact Ex F λ_ _ _ _ _ _ _ _ _=>rfl | exact Rb F λ_ _ _ _ _ _ _ _ _ _=>rfl | exact bd5 F λ_ _ _ _ _ _ _ _ _ _ _=>rfl | exact bd6 F λ_ _ _ _ _ _ _ _ _ _ _ _=>rfl)
  (dW:∀ (f:Addr) (c:Fc) (aU:Value) (A:Wv) (outer:List Env) (s:W4) (H:Hp) (E:XK),cQ k (A.deeper (Jo x (bM st) s.heap.objs.size f aU))->Np c np->N.Nodup->eM (fU dX P w K mg base N x (bM st) f aU A outer s H E).gF c (eA st) fb:=by
  intro f c aU A outer s H E hr bj lE;have hq:=k6 hr;infer_instance):bK P w K mg base (k + 1) x n G:=by
 obtain⟨f,fd,F,m⟩:=rJ Y Z d;subst hG;have:=uN F m (hb F) S (λc aU A outer s H E hr bj=>dW f c aU A outer s H E hr bj S.nd) λss y h=>pB h
 rwa [hn] at this
end
section
variable {w:Wt}{h:Heap}(T:Txt K mg)(Y:K.In h)(Z:h.Ns Wy mg)
include T Y Z
theorem Vo (d:bW K "_law_cell_at" Gg):bK P w K mg base 1 "_law_cell_at" 2 pZ:=e7 (N:=["script","k"]) Y Z d
theorem Vp (d:bW K "_law_next" Gh):bK P w K mg base 1 "_law_next" 1 p_:=e7 (N:=["seed"]) Y Z d
theorem Vq (d:bW K "_law_draw" Gi) (Hj:bK P w K mg base 1 "_law_next" 1 p_):bK P w K mg base 2 "_law_draw" 2 dS:=e7 (N:=["pen","many","found"]) Y Z d
theorem Vr (d:bW K "_law_sizes_by" Gj) (kB:bK P w K mg base 2 "_law_draw" 2 dS):bK P w K mg base 3 "_law_sizes_by" 1 sk:=e7 (N:=["pen","high","wide"]) Y Z d
theorem Vs (d:bW K "_law_pick" Gk) (kB:bK P w K mg base 2 "_law_draw" 2 dS):bK P w K mg base 3 "_law_pick" 4 mO:=e7 (N:=["pen","tiles","place","way"]) Y Z d
theorem Vt (d:bW K "_law_rule_by" Gm) (kB:bK P w K mg base 2 "_law_draw" 2 dS) (Hk:bK P w K mg base 3 "_law_sizes_by" 1 sk) (Hl:bK P w K mg base 3 "_law_pick" 4 mO):bK P w K mg base 4 "_law_rule_by" 2 sm:=e7 (N:=["pen","most","high","wide","size","first","letters","tiles","way","blocks","place","block","row","k","column"]) Y Z d
theorem Vu (d:bW K "_law_stilled" Gn):bK P w K mg base 1 "_law_stilled" 2 qa:=e7 (N:=["rule","spot","high","wide","blocks","tile","block","first"]) Y Z d
theorem Vv (d:bW K "_law_doubled" Gp) (kB:bK P w K mg base 2 "_law_draw" 2 dS):bK P w K mg base 3 "_law_doubled" 2 sr:=e7 (N:=["rule","pen","letters","tiles","left","twin","place","blocks","tile","block","other","rows","row","pair","sign"]) Y Z d
theorem Vw (d:bW K "_law_painted_by" Gq) (kB:bK P w K mg base 2 "_law_draw" 2 dS) (Hm:bK P w K mg base 4 "_law_rule_by" 2 sm) (Ho:bK P w K mg base 1 "_law_stilled" 2 qa) (Hq:bK P w K mg base 3 "_law_doubled" 2 sr):bK P w K mg base 5 "_law_painted_by" 2 oq:=e7 (N:=["pen","most","rule","tiles","signs","kinds","tile","spot","start","twin","pair"]) Y Z d
theorem Vx (d:bW K "_law_pen_of" Gr):bK P w K mg base 1 "_law_pen_of" 1 ot:=e7 (N:=["cell","left"]) Y Z d
theorem Vy (d:bW K "_law_apart" Gu):bK P w K mg base 1 "_law_apart" 2 su:=e7 (N:=["rule","paint","signs","blocks","tiles","apart","one","other","more","pair","tile","block"]) Y Z d
theorem Vz (d:bW K "_law_least_of" Gv) (Hr:bK P w K mg base 1 "_law_apart" 2 su):bK P w K mg base 2 "_law_least_of" 1 ou:=e7 (N:=["painted","rule","start","paint","apart","tiles","head","tile","blocks","heads","names","found","rows","row","line","sign","signs","pair","other","one"]) Y Z d
theorem VA (d:bW K "_law_whole" Gw):bK P w K mg base 1 "_law_whole" 1 qb:=e7 (N:=["found"]) Y Z d
end
theorem Ht {K:W5} (F:eB K "_law_same" "_law_same" zt f fd) (hm:mg "_law_same" = some (.ref f)) (hb:Binds K fd ["found","due"] []) (T:Txt K mg) (vN:bK P w K mg base 1 "_law_whole" 1 qb):∀ n,bK P w K mg base (1 + n) "_law_same" 2 (gW n)
 | 0=>uN (np:=[]) (fb:=nE) F hm hb zy (λc aU A outer s H E hr bj=>OF) λss y h=>nomatch h
 | n + 1=>uN (np:=[]) (fb:=mP (gW n)) F hm hb zy (λc aU A outer s H E hr bj=>by
  have hq:=k6 hr;have ks:=Ht F hm hb T vN n;have kps:=Vj n;refine(eh ?_ ?_)
  ·refine(qZ ?_ ?_ ?_)
   ·exact(ux (pf T.ty_tuple rfl T.ku rfl T.jT boot_tuple (dM (pv 1)) Z' Z' Z4 Z4) Z7)
   ·refine(eh ?_ ?_)
    ·refine(qZ ?_ ?_ ?_)
     ·exact(CS (N0 (CT (ux (pf T.ty_tuple rfl T.ku rfl T.jT boot_tuple (dM (pv 0)) Z' Z' Z4 Z4) Z7)) (CQ (oU FX gJ (qV rfl T.kz (dM (pv 0)) Z4) (j8 (qV rfl T.kz (dM (pv 1)) Z4)) (fT _)))))
     ·refine(gN ?_);refine(kY ?_);exact qN
     ·exact qY
    refine(gN ?_);refine(kY ?_);exact(Oh rfl rfl T.r_ (j8 (@nM _ _ ([2]) _ _ _ _ _ _ _ _ _ _ rfl (mj rfl rfl) (xW rfl T.oj (qV rfl T.kz (dM (pv 1)) Z4) Z4) (λl s0 H0 ex=>(@ma _ _ _ _ ([]) (2) _ bj zy.nd rfl bh bh Z')) (λl s0 H0 ex=>nK) (λl s0 H0 ex=>(@pA _ _ _ _ _ (1 + n) _ _ _ _ _ ks kps hr rfl (hW (ip lT lX (pv 0) (dM (pv 2)) (λ_ _=>rfl)) (hW (ip lT lX (pv 1) (dM (pv 2)) (λ_ _=>rfl)) me Z4) Z4) rfl Z' Z4 Z4)) (mi bj rfl) Z7)) Z4)
   ·exact qY
  refine(eh ?_ ?_)
  ·refine(qZ ?_ ?_ ?_)
   ·exact(ux (pf T.ty_str rfl T.ku rfl T.pY boot_str (dM (pv 1)) Z' Z' Z4 Z4) Z7)
   ·refine(gN ?_);refine(kY ?_);exact(xH (pf T.ty_str rfl T.ku rfl T.pY boot_str (dM (pv 0)) Z' Z' Z4 Z4) (xG (oT pQ gJ (pv 0) (dM (pv 1)) (fT _))))
   ·exact qY
  refine(gN ?_);refine(kY ?_);exact(xH (@pA _ _ _ _ _ (1) _ _ _ _ _ vN Vi (hr.mono (JY 1 n)) rfl (hW (dj (pv 0)) me Z4) rfl Z' Z4 Z4) (xG (oT pQ gJ (pv 0) (dM (pv 1)) (fT _))))) λss y h=>pB h
section
variable {w:Wt}{h:Heap}(T:Txt K mg)(Y:K.In h)(Z:h.Ns Wy mg)
include T Y Z
theorem VB (d:bW K "rule_tiles" Gx):bK P w K mg base 1 "rule_tiles" 1 sv:=e7 (N:=["rule","tile","block"]) Y Z d
theorem VC (d:bW K "refuse_strange" Gy):bK P w K mg base 1 "refuse_strange" 2 sy:=e7 (N:=["block_of","floor","tile"]) Y Z d
theorem VD (d:bW K "refuse_beyond" Gz):bK P w K mg base 1 "refuse_beyond" 3 sA:=e7 (N:=["rows","columns","most"]) Y Z d
theorem VE (d:bW K "grown_size" GF):bK P w K mg base 1 "grown_size" 3 qc:=e7 (N:=["size","factor","often","growing"]) Y Z d
theorem VF (d:bW K "laid_floor" GH):bK P w K mg base 1 "laid_floor" 3 sC:=e7 (N:=["block_of","high","floor","rows","row","line","tile"]) Y Z d
theorem VG (d:bW K "grown_often" GJ) (Hu:bK P w K mg base 1 "refuse_strange" 2 sy) (Hv:bK P w K mg base 1 "refuse_beyond" 3 sA) (Hw:bK P w K mg base 1 "grown_size" 3 qc) (Hx:bK P w K mg base 1 "laid_floor" 3 sC):bK P w K mg base 2 "grown_often" 3 qd:=e7 (N:=["rule","floor","often","high","wide","blocks","block_of","grown","growing"]) Y Z d
theorem VH (d:bW K "floor_texts" GK) (Hy:bK P w K mg base 1 "rule_tiles" 1 sv) (Hz:bK P w K mg base 2 "grown_often" 3 qd):bK P w K mg base 3 "floor_texts" 2 qe:=e7 (N:=["rule","often","tile"]) Y Z d
theorem VI (d:bW K "group_numbers" GQ):bK P w K mg base 1 "group_numbers" 2 ow:=e7 (N:=["rule","paint","number_of","many","looks","finer","tile","block","look","part"]) Y Z d
end
theorem VJ  (F:eB K "alike_tiles" "alike_tiles" zu f fd) (hm:mg "alike_tiles" = some (.ref f)) (hb:Binds K fd ["rule","paint"] []) (T:Txt K mg) (zC:bK P w K mg base 1 "group_numbers" 2 ow):bK P w K mg base 2 "alike_tiles" 2 qf :=
 uN (np:=[]) (fb:=zA) F hm hb sE (λc aU A outer s H E hr bj=>by
  have hq:=k6 hr;refine(eh ?_ ?_)
  ·exact(@hV _ _ _ _ _ _ ([]) (2) _ bj sE.nd rfl bh Fy rfl bh)
  refine(eh ?_ ?_)
  ·exact(TY (np:=[]) (i:=2) (ia:=3) (ib:=4) bj PassesOwn.never rfl (pA (k:=1) zC Vl (hr.mono Z') rfl (hW (dj (pv 0)) (hW (dj (pv 1)) me)) rfl) (wq rfl (tM (tL (i:=3) sE.nd rfl bh bh) (tM (tL (i:=4) sE.nd rfl bh bh) wo))) (Bi (wk (t5 PySem.F.plainAttrs_list PySem.F.slot_list_append PySem.F.type_list_append wZ (FC (T7 hq) (pv 2) (pv 4) (BH g8) ⟨rfl,rfl,rfl,rfl⟩) (fc (pv 3) g8)))))
  refine(gN ?_);refine(kY ?_);exact(@nM _ _ ([5]) _ _ _ _ _ _ _ _ _ _ rfl (mj rfl rfl) (To (dj (pv 2))) (λl s0 H0 ex=>(@ma _ _ _ _ ([]) (5) _ bj sE.nd rfl bh bh Z')) (λl s0 H0 ex=>nK) (λl s0 H0 ex=>(qW rfl T.jT (dM (pv 5)) Z4)) (mi bj rfl) Z7)) λss y h=>pB h
theorem VL  (F:eB K "reached" "reached" zv f fd) (hm:mg "reached" = some (.ref f)) (hb:Binds K fd ["first","step"] []) (T:Txt K mg):rY P w K mg base 1 "reached" 2 7 lA :=
 ⟨f,fd,_,_,_,["first","step","found","seen","number","here","part"],rfl,hm,F.kp,hb,rfl,F2 F ox (λc aU A outer s H E fa Fn hr bj rX=>by
  have hq:=k6 hr;refine(eh ?_ ?_)
  ·exact(@hV _ _ _ _ _ _ ([]) (2) _ bj ox.nd rfl bh (uF (ji (dj (pv 0)) lY Z4) Z') rfl bh)
  refine(eh ?_ ?_)
  ·exact(@hV _ _ _ _ _ _ ([]) (3) _ bj ox.nd rfl bh (Et (λc=>(dj (pv 0))) (λc=>qN)) rfl bh)
  refine(eh ?_ ?_)
  ·exact(@hV _ _ _ _ _ _ ([]) (4) _ bj ox.nd rfl bh nt rfl bh)
  refine(eh ?_ ?_)
  ·refine(Dg 1000000 (λh1 h2=>Bs PassesOwn.never h1 h2) ?_ ?_)
   ·exact(uw qT qU (pv 4) (j8 (qV rfl T.kz (dM (pv 2)) Z4)) (fT _))
   ·refine(eh ?_ ?_)
    ·exact(@hV _ _ _ _ _ _ ([]) (5) _ bj ox.nd rfl bh (ip lT lX (pv 2) (dM (pv 4)) (λ_ _=>rfl)) rfl bh)
    refine(eh ?_ ?_)
    ·refine(rj PassesOwn.never rfl ?_ ?_ ?_ Z7)
     ·exact(nR (EZ rX (pv 1) (dj (pv 5))))
     ·exact(@jJ _ _ _ ([]) (6) _ bj ox.nd rfl bh bh)
     ·refine(gN ?_);refine(qZ ?_ ?_ ?_)
      ·exact(oU (yn hq) (yo true) (dj (pv 6)) (dM (pv 3)) rfl)
      ·refine(eh ?_ ?_)
       ·exact(yv hq (pv 3) (dj (pv 6)) qN Z4)
       refine(gN ?_);exact(yd (pv 2) (dj (pv 6)) Z4 Z4 Z4 Z4 Z4)
      ·exact qY
    refine(gN ?_);exact(@hV _ _ _ _ _ _ ([]) (4) _ bj ox.nd rfl bh (oS uz uA (pv 4) (j8 nt)) rfl bh)
  refine(gN ?_);exact(Ei bj (pv 2)))⟩
theorem VM  (F:eB K "named_rule" "named_rule" zw f fd) (hm:mg "named_rule" = some (.ref f)) (hb:Binds K fd ["rule","things","parts_of"] []) (T:Txt K mg):rY P w K mg base 1 "named_rule" 3 12 lD :=
 ⟨f,fd,_,_,_,["rule","things","parts_of","high","wide","blocks","name_of","named","thing","text","part","row"],rfl,hm,F.kp,hb,rfl,F2 F kA (λc aU A outer s H E fa Fn hr bj rX=>by
  have hq:=k6 hr;refine(eh ?_ ?_)
  ·refine(xV ?_ ?_ Z4 Z4 Z4)
   ·exact(dj (pv 0))
   ·exact(xT rfl (nG (@jJ _ _ _ ([]) (3) _ bj kA.nd rfl bh bh) (nG (@jJ _ _ _ ([]) (4) _ bj kA.nd rfl bh bh) (nG (@jJ _ _ _ ([]) (5) _ bj kA.nd rfl bh bh) xS Z4) Z4) Z4) Z4 Z4)
  refine(eh ?_ ?_)
  ·exact(@hV _ _ _ _ _ _ ([]) (6) _ bj kA.nd rfl bh (Vc rfl rfl T.oi rfl T.om (dj (pv 1)) (zi rfl T.mN)) rfl bh)
  refine(eh ?_ ?_)
  ·exact(@hV _ _ _ _ _ _ ([]) (7) _ bj kA.nd rfl bh (uF lY Z') rfl bh)
  refine(eh ?_ ?_)
  ·refine(rj PassesOwn.never rfl ?_ ?_ ?_ Z7)
   ·exact(nR (dj (pv 1)))
   ·exact(@jJ _ _ _ ([]) (8) _ bj kA.nd rfl bh bh)
   ·refine(eh ?_ ?_)
    ·exact(@hV _ _ _ _ _ _ ([]) (9) _ bj kA.nd rfl bh (C_ [] (j8 (@nM _ _ ([10]) _ _ _ _ _ _ _ _ _ _ rfl (mj rfl rfl) (nR (EZ rX (pv 2) (dj (pv 8)))) (λl s0 H0 ex=>(@ma _ _ _ _ ([]) (10) _ bj kA.nd rfl bh bh Z')) (λl s0 H0 ex=>nK) (λl s0 H0 ex=>(ip (mv hq) mr (pv 6) (dM (pv 10)) (λ_ _=>rfl))) (mi bj rfl) Z7)) Zp Z4 Z4 Z4 Z4) rfl bh)
    refine(gN ?_);exact(yd (pv 7) (oY (ji (ip (mv hq) mr (pv 6) (dM (pv 8)) (λ_ _=>rfl)) (ji (qW rfl T.jT (j8 (@nM _ _ ([11]) _ _ _ _ _ _ _ _ _ _ rfl (mj rfl rfl) (xW rfl T.oj (dj (pv 3)) Z4) (λl s0 H0 ex=>(@ma _ _ _ _ ([]) (11) _ bj kA.nd rfl bh bh Z')) (λl s0 H0 ex=>nK) (λl s0 H0 ex=>(C8 (pv 9) (xP (oS uV uW (pv 4) (dM (pv 11)))) (xP (nu uz uA (oS uV uW (pv 4) (dM (pv 11))) (dM (pv 4)))))) (mi bj rfl) Z7)) Z4) lY Z4) Z4) Z') Z4 Z4 Z4 Z4 Z4)
  refine(gN ?_);refine(kY ?_);exact(oY (ji (dj (pv 3)) (ji (dj (pv 4)) (ji (qW rfl T.jT (dM (pv 7)) Z4) lY Z4) Z4) Z4) Z'))⟩
theorem VN  {sG:Addr} (F:eB K "least_floor" "least_floor" kr f fd) (hm:mg "least_floor" = some (.ref f)) (hb:Binds K fd ["painted"] []) (T:Txt K mg) (VO:∃ oc od kV doc pm an ct eW,K.lookup f=some ⟨oc,od,.func (Qm "least_floor" "least_floor" (il kr) (eA kr) (bM kr) .none kV doc pm an (.ref sG) ct),eW⟩) (dT:JB K sG iG=true) (gT:Wy≠iG) (tT:base.BuiltinsAt mg iG) (zD:bK P w K mg base 3 "floor_texts" 2 qe) (zE:bK P w K mg base 2 "alike_tiles" 2 qf) (zF:rY P w K mg base 1 "reached" 2 7 lA) (zG:rY P w K mg base 1 "named_rule" 3 12 lD):vk P w K mg base [(iG,pV,mM)] 4 "least_floor" 1 G_least_floor :=
 R3 (np:=[]) (fb:=b_least_floor) F hm hb iF (λc aU A outer s H E hr bj ft jk=>by
  have hq:=k6 hr;refine(eh ?_ ?_)
  ·refine(xV ?_ ?_ Z4 Z4 Z4)
   ·exact(dj (pv 0))
   ·exact(xT rfl (nG (@jJ _ _ _ ([]) (1) _ bj iF.nd rfl bh bh) (nG (@jJ _ _ _ ([]) (2) _ bj iF.nd rfl bh bh) (nG (@jJ _ _ _ ([]) (3) _ bj iF.nd rfl bh bh) xS Z4) Z4) Z4) Z4 Z4)
  refine(eh ?_ ?_)
  ·exact(@hV _ _ _ _ _ _ ([]) (4) _ bj iF.nd rfl bh (@pA _ _ _ _ _ (3) _ _ _ _ _ zD Vk (hr.mono Z') rfl (hW (dj (pv 1)) (hW nt me Z4) Z4) rfl Z' Z4 Z4) rfl bh)
  refine(eh ?_ ?_)
  ·exact(@hV _ _ _ _ _ _ ([]) (5) _ bj iF.nd rfl bh D7 rfl bh)
  refine(eh ?_ ?_)
  ·refine(rj PassesOwn.never rfl ?_ ?_ ?_ Z7)
   ·exact(nR (@pA _ _ _ _ _ (2) _ _ _ _ _ zE Vm (hr.mono Z') rfl (hW (dj (pv 1)) (hW (dj (pv 3)) me Z4) Z4) rfl Z' Z4 Z4))
   ·exact(@jJ _ _ _ ([]) (6) _ bj iF.nd rfl bh bh)
   ·refine(gN ?_);refine(rj PassesOwn.never rfl ?_ ?_ ?_ Z7)
    ·exact(nR (dj (pv 6)))
    ·exact(@jJ _ _ _ ([]) (7) _ bj iF.nd rfl bh bh)
    ·refine(gN ?_);exact(yv hq (pv 5) (dj (pv 7)) (ip lT lX (pv 6) (j8 nt) (λ_ _=>rfl)) Z4)
  refine UI (P:=iG) (j:=8) (ts:=[(iG,pV,mM)]) ft Wp bj rfl rfl rfl rfl rfl (R4 jk VO) dT gT tT iF.nd rfl rfl (λc fa ft bj HA=>?_);refine(eh ?_ ?_)
  ·exact(@hV _ _ _ _ _ _ ([]) (9) _ bj iF.nd rfl bh (F4 (kl:=0) (kw:=1) (fr:=["least_of","text_of"]) (ls:=["part"]) (js:=[5,4]) (p:="own") zF HA bj (hr.mono Z') Z' rfl (hW (ip (mv hq) mr (pv 5) (dM (pv 2)) (λ_ _=>rfl)) (hW (dj (pv 8)) me Z4) Z4) rfl (λ_ h=>by simp at h) (λ_=>rfl) (E6 (Ey rfl rfl)) E7 rfl (λi x j e1 e2=>by rcases i with _ | i; (cases e1; cases e2; exact⟨rfl,rfl,_,rfl⟩); rcases i with _ | i; (cases e1; cases e2; exact⟨rfl,rfl,_,rfl⟩); cases e1) (λ_ _ _ _ _=>rfl) (λc cd A outer s H hr hp=>Hh T (k6 hr) hp)) rfl bh)
  refine(eh ?_ ?_)
  ·exact(@hV _ _ _ _ _ _ ([]) (10) _ bj iF.nd rfl bh (Ed rfl rfl T.oi (dM (pv 3)) Z4) rfl bh)
  refine(eh ?_ ?_)
  ·exact(@hV _ _ _ _ _ _ ([]) (11) _ bj iF.nd rfl bh (qW rfl T.jT (j8 (@nM _ _ ([12,7]) _ _ _ _ _ _ _ _ _ _ rfl (mj rfl rfl) (Ge rfl T.om (zi rfl T.mN) (dj (pv 9))) (λl s0 H0 ex=>(Dj rfl (xY (@ma _ _ _ _ ([]) (12) _ bj iF.nd rfl bh bh Z') (xY (@ma _ _ _ _ ([]) (7) _ bj iF.nd rfl bh bh Z') Di Z4) Z4) Z4 Z4)) (λl s0 H0 ex=>nK) (λl s0 H0 ex=>(oY (ji (dj (pv 12)) (ji (ip (mv hq) mr (pv 10) (dM (pv 7)) (λ_ _=>rfl)) lY Z4) Z4) Z')) (mi bj rfl) Z7)) Z4) rfl bh)
  refine(gN ?_);refine(kY ?_);exact(oY (ji (F4 (kl:=0) (kw:=1) (fr:=["least_of","text_of"]) (ls:=["part"]) (js:=[5,4]) (p:="own") zG HA bj (hr.mono Z') Z' rfl (hW (dj (pv 1)) (hW (dj (pv 9)) (hW (dj (pv 8)) me Z4) Z4) Z4) rfl (λ_ h=>by simp at h) (λ_=>rfl) (E6 (Ey rfl rfl)) E7 rfl (λi x j e1 e2=>by rcases i with _ | i; (cases e1; cases e2; exact⟨rfl,rfl,_,rfl⟩); rcases i with _ | i; (cases e1; cases e2; exact⟨rfl,rfl,_,rfl⟩); cases e1) (λ_ _ _ _ _=>rfl) (λc cd A outer s H hr hp=>Hh T (k6 hr) hp)) (ji (CP lT lX (zi rfl T.mN) (j8 nt) (λ_ _=>rfl)) (ji (dj (pv 11)) lY Z4) Z4) Z4) Z')) λss y h=>pB h
theorem VP   (F:eB K "law" "law" lz f fd) (T:Txt K mg) (HB:bK P w K mg base 1 "_law_cell_at" 2 pZ) (HC:bK P w K mg base 5 "_law_painted_by" 2 oq) (HE:bK P w K mg base 1 "_law_pen_of" 1 ot) (HF:bK P w K mg base 2 "_law_least_of" 1 ou) (HG:bK P w K mg base 8 "_law_same" 2 (gW 7)) (HH:vk P w K mg base [(iG,pV,mM)] 4 "least_floor" 1 G_least_floor):i9 P w K mg base dX 9 f fd ["script"] (nZ [(iG,pV,mM)] 1 G_law) :=
 E5 (np:=[]) (fb:=b_law) F Hi (λc aU A outer s H E hr bj ft jk=>by
  have hq:=k6 hr;have lE:=Hi.nd;infer_instance) λss y h=>pB h
theorem all_mk {l:PySem.W.OpenLaw} {w:Wt}  {h:Heap}   (X:K.In h) (G:h.Ns Wy mg) (VQ:mg "law" = some (.ref fa))
  (d0:bW K "_law_cell_at" Gg)
  (d1:bW K "_law_next" Gh)
  (d2:bW K "_law_draw" Gi)
  (d3:bW K "_law_sizes_by" Gj)
  (d4:bW K "_law_pick" Gk)
  (d5:bW K "_law_rule_by" Gm)
  (d6:bW K "_law_stilled" Gn)
  (d7:bW K "_law_doubled" Gp)
  (d8:bW K "_law_painted_by" Gq)
  (d9:bW K "_law_pen_of" Gr)
  (zH:bW K "_law_apart" Gu)
  (zI:bW K "_law_least_of" Gv)
  (zJ:bW K "_law_whole" Gw)
  (zK:bW K "_law_same" zt)
  (zL:bW K "rule_tiles" Gx)
  (zM:bW K "refuse_strange" Gy)
  (zN:bW K "refuse_beyond" Gz)
  (zO:bW K "grown_size" GF)
  (zP:bW K "laid_floor" GH)
  (zQ:bW K "grown_often" GJ)
  (zU:bW K "floor_texts" GK)
  (zV:bW K "group_numbers" GQ)
  (zY:bW K "alike_tiles" zu)
  (zZ:bW K "reached" zv)
  (z0:bW K "named_rule" zw)
  (pq:nsIn K Wy "least_floor" = some (some (.ref f25)))
  (vO:K.lookup f25=some ⟨oc25,od25,.func (Qm "least_floor" "least_floor" (il kr) (eA kr) (bM kr) .none kV25 dc25 pm25 an25 (.ref sG) ct25),sl25⟩)
  (z8:codeIn K (.ref sG) "least_floor" = true)
  (z9:keepIn K (.ref f25)=true)
  (dT:JB K sG iG=true)
  (gT:(Wy == iG)=false)
  (rm:nsIn K Wy "law" = some (some (.ref f26)))
  (z_:K.lookup f26=some ⟨oc26,od26,.func (Qm "law" "law" (il lz) (eA lz) (bM lz) .none kV26 dc26 pm26 an26 cd26 ct26),sl26⟩)
  (Aa:codeIn K cd26 "law" = true)
  (Ab:keepIn K (.ref f26)=true)
  (r_:nsIn K Wy "all" = some none)
  (se:nsIn K Wy "any" = some none)
  (sf:nsIn K Wy "bool" = some none)
  (oi:nsIn K Wy "dict" = some none)
  (pW:nsIn K Wy "int" = some none)
  (ku:nsIn K Wy "isinstance" = some none)
  (kz:nsIn K Wy "len" = some none)
  (sh:nsIn K Wy "list" = some none)
  (si:nsIn K Wy "max" = some none)
  (oj:nsIn K Wy "range" = some none)
  (pX:nsIn K Wy "sorted" = some none)
  (pY:nsIn K Wy "str" = some none)
  (jT:nsIn K Wy "tuple" = some none)
  (om:nsIn K Wy "zip" = some none)
  (sj:nsIn K Wy "MOST_TILES" = some (some (.int 64 t_MOST_TILES)))
  (mN:nsIn K Wy "NAMES" = some (some (.str (toS gD) t_NAMES)))
  : (∃ c,JB K c iG=true)/\∃ fd:Qh,(∀ (s:W4) (v:Value),BindsTo s fd ⟨[v],[]⟩ [("script",v)])/\∀ base:Heap,K.In base->base.Ns Wy mg->base.BuiltinsAt mg iG->i9 l.prog w K mg base dX 9 fa fd ["script"] (nZ [(iG,pV,mM)] 1 G_law):=by
 have e:=VQ.symm.trans (mg_of X G rm)
 cases e;have T:Txt K mg:=⟨WV X G r_,WV X G se,WV X G sf,WV X G oi,WV X G pW,WV X G ku,WV X G kz,WV X G sh,WV X G si,WV X G oj,WV X G pX,WV X G pY,WV X G jT,WV X G om,O_,O9,Pa,Pb,⟨_,mg_of X G sj⟩,⟨_,mg_of X G mN⟩⟩
 obtain⟨f13,fd13,F13,m13⟩:=rJ X G zK;obtain⟨f22,fd22,F22,m22⟩:=rJ X G zY;obtain⟨f23,fd23,F23,m23⟩:=rJ X G zZ;obtain⟨f24,fd24,F24,m24⟩:=rJ X G z0;have HI:=xh (st:=kr) vO z8 z9;have VR:=mg_of X G pq;have VS:=xh (st:=lz) z_ Aa Ab;refine⟨⟨_,dT⟩,Qm "law" "law" (il lz) (eA lz) (bM lz) .none kV26 dc26 pm26 an26 cd26 ct26,λs v=>.of_eq rfl,λbase _ _ tT=>?_⟩;have HB:=Vo (P:=l.prog) (w:=w) (base:=base) T X G d0;have Hj:=Vp (P:=l.prog) (w:=w) (base:=base) T X G d1;have kB:=Vq T X G d2 Hj;have Hk:=Vr T X G d3 kB;have Hl:=Vs T X G d4 kB;have Hm:=Vt T X G d5 kB Hk Hl;have Ho:=Vu (P:=l.prog) (w:=w) (base:=base) T X G d6;have Hq:=Vv T X G d7 kB;have HC:=Vw T X G d8 kB Hm Ho Hq;have HE:=Vx (P:=l.prog) (w:=w) (base:=base) T X G d9;have Hr:=Vy (P:=l.prog) (w:=w) (base:=base) T X G zH;have HF:=Vz T X G zI Hr;have vN:=VA (P:=l.prog) (w:=w) (base:=base) T X G zJ;have HG:=Ht F13 m13 (vb F13 λ_ _ _ _ _ _ _ _=>rfl) T vN 7;have Hy:=VB (P:=l.prog) (w:=w) (base:=base) T X G zL;have Hu:=VC (P:=l.prog) (w:=w) (base:=base) T X G zM;have Hv:=VD (P:=l.prog) (w:=w) (base:=base) T X G zN;have Hw:=VE (P:=l.prog) (w:=w) (base:=base) T X G zO;have Hx:=VF (P:=l.prog) (w:=w) (base:=base) T X G zP;have Hz:=VG T X G zQ Hu Hv Hw Hx;have zD:=VH T X G zU Hy Hz;have zC:=VI (P:=l.prog) (w:=w) (base:=base) T X G zV;have zE:=VJ F22 m22 (vb F22 λ_ _ _ _ _ _ _ _=>rfl) T zC;have zF:=VL (P:=l.prog) (w:=w) (base:=base) F23 m23 (vb F23 λ_ _ _ _ _ _ _ _=>rfl) T;have zG:=VM (P:=l.prog) (w:=w) (base:=base) F24 m24 (Ex F24 λ_ _ _ _ _ _ _ _ _=>rfl) T;have HH:=VN HI VR (Ew HI λ_ _ _ _ _ _ _=>rfl) T ⟨_,_,_,_,_,_,_,_,vO⟩ dT (λz=>by rw[z] at gT; simp at gT) tT zD zE zF zG;exact VP VS T HB HC HE HF HG HH
section
variable {α:Type}[DecidableEq α]
def aQ:List α->List α->List α
 | L,[]=>L
 | L,k :: r=>aQ (if k ∈ L then L else L ++ [k]) r
theorem oy:∀ (l L:List α),∃ s,aQ L l=L ++ s
 | [],L=>⟨[],#v[aQ]⟩
 | k :: r,L=>by
  unfold aQ;by_cases h:k ∈ L
  ·rw[if_pos h]; exact oy r L
  ·rw[if_neg h];obtain⟨s,e⟩:=oy r (L ++ [k]);exact⟨k :: s,by rw[e]; simp⟩
theorem kC:∀ (l L:List α),x ∈ aQ L l ↔ x ∈ L\/x ∈ l
 | [],L=>#v[aQ]
 | k :: r,L=>by
  unfold aQ;rw[kC r];by_cases h:k ∈ L
  ·rw[if_pos h];simp only[Wu];constructor
   ·rintro (a | a)
    ·exact .inl a
    ·exact .inr (.inr a)
   ·rintro (a | a | a)
    ·exact .inl a
    ·subst a; exact .inl h
    ·exact .inr a
  ·rw[if_neg h];simp only[List.mem_append,Wu,JZ,or_false];constructor
   ·rintro ((a | a) | a)
    ·exact .inl a
    ·exact .inr (.inl a)
    ·exact .inr (.inr a)
   ·rintro (a | a | a)
    ·exact .inl (.inl a)
    ·exact .inl (.inr a)
    ·exact .inr a
theorem Ac:∀ (l L:List α),L.Nodup->(aQ L l).Nodup
 | [],L,h=>h
 | k :: r,L,h=>by
  unfold aQ;refine Ac r _ ?_;split
  ·exact h
  ·rename_i q;exact Uj.mpr ⟨h,Z5,λa ha b hb e=>q (by rw[<- show b=k by simpa using hb,<- e]; exact ha)⟩
theorem sI:∀ (l L:List α),(aQ L l).length<=L.length + l.length
 | [],L=>#v[aQ]
 | k :: r,L=>by
  unfold aQ;have:=sI r (if k ∈ L then L else L ++ [k]);refine Qc this ?_;split <;> simp <;> lia
theorem sJ:∀ {l ts:List α},l.Nodup->(∀ x ∈ l,x ∈ ts)->l.length<=ts.length
 | [],_,_,_=>Qq _
 | a :: r,ts,nd,h=>by
  obtain⟨n1,n2⟩:=WN.mp nd;have ha:=h a Wp;have:=sJ (l:=r) (ts:=ts.erase a) n2 λx hx=>by
   have:x≠a:=λe=>n1 (by rw[<- e]; exact hx)
   exact(List.mem_erase_of_ne this).mpr (h x (Wg _ hx))
  rw[List.length_erase_of_mem ha] at this;have:=List.length_pos_of_mem ha;simp;lia
theorem HJ:∀ {S l:List α},S.Nodup->(∀ x ∈ S,x ∈ l)->l.length<=S.length->l.Nodup
 | [],l,_,_,h=>by
  have:l=[]:=List.length_eq_zero_iff.mp (~~~h);subst this;exact List.nodup_nil
 | a :: S,l,nd,hs,hl=>by
  obtain⟨n1,n2⟩:=WN.mp nd;have ha:=hs a Wp;have hle:(l.erase a).length<=S.length:=by
   rw[List.length_erase_of_mem ha];simp at hl;lia
  have iX:∀ x ∈ S,x ∈ l.erase a:=λx hx=>(List.mem_erase_of_ne λe=>n1 (by rw[<- e]; exact hx)).mpr (hs x (Wg _ hx))
  have ih:=HJ n2 iX hle;have VT:a ∉ l.erase a:=λh=>by
   have:=sJ (l:=a :: S) (ts:=l.erase a) nd λx hx=>by
    rcases Wu.mp hx with e | hx
    ·rw[e]; exact h
    ·exact iX x hx
   simp at this;lia
  exact((List.perm_cons_erase ha).nodup_iff).mpr (WN.mpr ⟨VT,ih⟩)
end
section
variable {β:Type}[BEq β][LawfulBEq β]
theorem VU{L:List β}{a b:β}(ha:a ∈ L)(hb:b ∈ L)(e:L.idxOf a=L.idxOf b):a=b:=by
 have h1:=List.getElem_idxOf (List.idxOf_lt_length_of_mem ha);have h2:=List.getElem_idxOf (List.idxOf_lt_length_of_mem hb);rw[<- h1,<- h2];congr 1
end
section
variable (ts:List Nat)(tx:Nat->List Nat)
def lk(v:Nat->Nat)(t:Nat):Nat×List Nat:=(v t,(tx t).map v)
def fN(v:Nat->Nat):List (Nat×List Nat):=aQ [] (ts.map (lk tx v))
def gX(v:Nat->Nat)(t:Nat):Nat:=(fN ts tx v).idxOf (lk tx v t)
def nums(sg:Nat->Nat):Nat->Nat->Nat
 | 0=>sg
 | k + 1=>gX ts tx (nums sg k)
def many(sg:Nat->Nat):Nat->Nat
 | 0=>0
 | k + 1=>(fN ts tx (nums ts tx sg k)).length
variable {ts tx}
theorem qg(h:t ∈ ts):lk tx v t ∈ fN ts tx v:=(kC _ _).mpr (.inr (WD h))
theorem sM{v:Nat->Nat}{u:Nat}(ht:t ∈ ts)(hu:u ∈ ts):gX ts tx v t=gX ts tx v u ↔ lk tx v t=lk tx v u :=
 ⟨λe=>VU (qg ht) (qg hu) e,λe=>by unfold gX; rw[e]⟩
theorem VW(sg:Nat->Nat):∀ k,many ts tx sg k<=ts.length
 | 0=>Qq _
 | k + 1=>by
  have:=sI (ts.map (lk tx (nums ts tx sg k))) [];simpa[many,fN] using this
theorem HK:∀ j ∈ WY (fN ts tx v).length,j ∈ (fN ts tx (gX ts tx v)).map (·.1):=λj hj=>by
 have hj:=List.mem_range.mp hj;have hm:(fN ts tx v)[j] ∈ fN ts tx v:=QE hj;have rK:=hm;unfold fN at rK;rw[kC] at rK;rcases rK with h | h
 ·simp at h
 ·obtain⟨t,ht,e⟩:=WA.mp h;have hs:gX ts tx v t=j:=by
   unfold gX;rw[e];exact(Ac _ _ List.nodup_nil).idxOf_getElem j hj
  exact WA.mpr ⟨lk tx (gX ts tx v) t,qg ht,hs⟩
theorem VX(sg:Nat->Nat):∀ k,many ts tx sg k<=many ts tx sg (k + 1)
 | 0=>Qq _
 | k + 1=>by
  have h:=sJ List.nodup_range (HK (ts:=ts) (tx:=tx) (v:=nums ts tx sg k));rw[JM,Wn] at h;exact h
structure Res(ts:List Nat)(tx:Nat->List Nat)(sg c:Nat->Nat):Prop where
 same:∀ t ∈ ts,∀ u ∈ ts,c t=c u->sg t=sg u
 VY:∀ t ∈ ts,∀ u ∈ ts,c t=c u->(tx t).map c=(tx u).map c
 max:∀ N:Nat->Nat->Prop,(∀ t ∈ ts,∀ u ∈ ts,N t u->sg t=sg u/\(tx t).length=(tx u).length/\∀ (k:Nat) p q,(tx t)[k]? = some p->(tx u)[k]? = some q->N p q)->∀ t ∈ ts,∀ u ∈ ts,N t u->c t=c u
theorem HL{v:Nat->Nat}{a b:List Nat}(hl:a.length=b.length)(h:∀ (k:Nat) p q,a[k]? = some p->b[k]? = some q->v p=v q):a.map v=b.map v:=by
 refine List.ext_getElem? λk=>?_
 rw[Wj,Wj];by_cases hk:k < a.length
 ·rw[Wb hk,Wb Y'];simp only[WI,We];exact h k _ _ (Wb hk) (Wb Y')
 ·rw[Qy Y',Qy Y']
theorem HM(sg:Nat->Nat):∀ k,∀ t ∈ ts,∀ u ∈ ts,nums ts tx sg k t=nums ts tx sg k u->sg t=sg u
 | 0,t,_,u,_,e=>e
 | k + 1,t,ht,u,hu,e=>HM sg k t ht u hu (congrArg Prod.fst ((sM ht hu).mp e))
theorem Ad(e8:∀ t ∈ ts,∀ p ∈ tx t,p ∈ ts)(sg:Nat->Nat)(N:Nat->Nat->Prop)(hN:∀ t ∈ ts,∀ u ∈ ts,N t u->sg t=sg u/\(tx t).length=(tx u).length/\∀ (k:Nat) p q,(tx t)[k]? = some p->(tx u)[k]? = some q->N p q):∀ k,∀ t ∈ ts,∀ u ∈ ts,N t u->nums ts tx sg k t=nums ts tx sg k u
 | 0,t,ht,u,hu,h=>(hN t ht u hu h).1
 | k + 1,t,ht,u,hu,h=>by
  refine(sM ht hu).mpr ?_;unfold lk;rw[Ad e8 sg N hN k t ht u hu h];congr 1
  refine HL (hN t ht u hu h).2.1 λj p q h1 h2=>?_
  exact Ad e8 sg N hN k p (e8 t ht p (Wq h1)) q (e8 u hu q (Wq h2)) ((hN t ht u hu h).2.2 j p q h1 h2)
theorem VZ(e8:∀ t ∈ ts,∀ p ∈ tx t,p ∈ ts)(h0:0 < ts.length)(sg:Nat->Nat)(k:Nat)(e:(fN ts tx (nums ts tx sg k)).length=many ts tx sg k):Res ts tx sg (gX ts tx (nums ts tx sg k)):=by
 cases k with
 | zero =>
  exfalso
  have:(fN ts tx sg).length=0:=e;obtain⟨t,ht⟩:=List.exists_mem_of_length_pos h0;have:=List.length_pos_of_mem (qg (tx:=tx) (v:=sg) ht);lia
 | succ k =>
  have nd:((fN ts tx (nums ts tx sg (k + 1))).map (·.1)).Nodup:=HJ List.nodup_range (HK (ts:=ts) (tx:=tx) (v:=nums ts tx sg k)) (by
   rw[Wn,JM];exact Nat.le_of_eq e)
  have st:∀ t ∈ ts,∀ u ∈ ts,nums ts tx sg (k + 1) t=nums ts tx sg (k + 1) u->lk tx (nums ts tx sg (k + 1)) t=lk tx (nums ts tx sg (k + 1)) u:=λt ht u hu h=>by
   obtain⟨i,hi⟩:=Q4.mp (qg (tx:=tx) (v:=nums ts tx sg (k + 1)) ht);obtain⟨j,hj⟩:=Q4.mp (qg (tx:=tx) (v:=nums ts tx sg (k + 1)) hu);have:i=j:=(Ui (by simpa using (W6.mp hi).1) nd).mp (by
    rw[Wj,Wj,hi,hj];simp only[WI,We];exact h)
   subst this;rw[hi] at hj;exact WZ hj
  refine⟨λt ht u hu h=>HM sg (k + 1) t ht u hu (congrArg Prod.fst ((sM ht hu).mp h)),λt ht u hu h=>?_,λN hN t ht u hu h=>?_⟩
  ·have e2:(tx t).map (nums ts tx sg (k + 1))=(tx u).map (nums ts tx sg (k + 1)):=congrArg Prod.snd ((sM ht hu).mp h);have hl:(tx t).length=(tx u).length:=by simpa using congrArg Qp e2
   refine HL hl λj p q h1 h2=>?_
   refine(sM (e8 t ht p (Wq h1)) (e8 u hu q (Wq h2))).mpr (st p (e8 t ht p (Wq h1)) q (e8 u hu q (Wq h2)) ?_);have:=congrArg (·[j]?) e2;simp only[Wj,h1,h2,WI,We] at this;exact this
  ·exact Ad e8 sg N hN (k + 1 + 1) t ht u hu h
end
abbrev RR:=Nat×Nat->Bool
variable {s:RR×Bool}
section
variable (tx:Nat->List Nat)
def iY(R:RR)(p:Nat×Nat):Bool:=((tx p.1).zip (tx p.2)).any R
def kE(R:RR)(p:Nat×Nat):RR:=λq=>if q=p then true else R q
def dm(s:RR×Bool)(p:Nat×Nat):RR×Bool:=if s.1 p=true then s else if iY tx s.1 p=true then(kE s.1 p,true) else s
def fq(P:List (Nat×Nat))(s:RR×Bool):RR×Bool:=P.foldl (dm tx) s
variable {tx}
theorem V0(h:R q=true):kE R p q=true:=by
 unfold kE;split
 ·rfl
 ·exact h
theorem V1(h:s.1 q=true):(dm tx s p).1 q=true:=by
 unfold dm;split
 ·exact h
 ·split
  ·exact V0 h
  ·exact h
theorem Ae:∀ (P:List (Nat×Nat)) (s:RR×Bool) {q:Nat×Nat},s.1 q=true->(fq tx P s).1 q=true
 | [],_,_,h=>h
 | p :: P,s,q,h=>Ae P (dm tx s p) (V1 h)
theorem HN:∀ (P:List (Nat×Nat)) (s:RR×Bool),s.2=true->(fq tx P s).2=true
 | [],_,h=>h
 | p :: P,s,h=>HN P (dm tx s p) (by
   unfold dm;split
   ·exact h
   ·split
    ·rfl
    ·exact h)
theorem HP:∀ (P:List (Nat×Nat)) (s:RR×Bool),(fq tx P s).2=false->(fq tx P s).1=s.1/\s.2=false/\∀ p ∈ P,s.1 p=false->iY tx s.1 p=false
 | [],s,h=>⟨rfl,h,λp hp=>by simp at hp⟩
 | p :: P,s,h=>by
  have ih:=HP P (dm tx s p) h;have hs:dm tx s p=s/\(s.1 p=false->iY tx s.1 p=false):=by
   unfold dm;by_cases h1:s.1 p=true
   ·rw[if_pos h1]; exact⟨rfl,λz=>by rw[h1] at z; cases z⟩
   ·rw[if_neg h1];by_cases h2:iY tx s.1 p=true
    ·exfalso
     have:=HN (tx:=tx) P (dm tx s p) (by unfold dm; rw[if_neg h1,if_pos h2]);have h':(fq tx P (dm tx s p)).2=false:=h;rw[this] at h'
     cases h'
    ·rw[if_neg h2]; exact⟨rfl,λ_=>Bool.eq_false_iff.mpr h2⟩
  rw[hs.1] at ih;have e:fq tx (p :: P) s=fq tx P s:=by
   show fq tx P (dm tx s p)=_;rw[hs.1]
  rw[e];refine⟨ih.1,ih.2.1,λq hq=>?_⟩;rcases Wu.mp hq with rfl | hq
  ·exact hs.2
  ·exact ih.2.2 q hq
theorem Af:∀ (P:List (Nat×Nat)) (s:RR×Bool),s.2=false->(fq tx P s).2=true->∃ p ∈ P,s.1 p=false/\(fq tx P s).1 p=true
 | [],s,h,h2=>by
  have:s.2=true:=h2;rw[h] at this
  cases this
 | p :: P,s,h,h2=>by
  by_cases h1:s.1 p=true
  ·have e:dm tx s p=s:=by unfold dm; rw[if_pos h1]
   have ni:(fq tx P (dm tx s p)).2=true:=h2;obtain⟨q,hq,a,b⟩:=Af P (dm tx s p) %[e|h] ni;rw[e] at a;exact⟨q,Wg _ hq,a,b⟩
  ·by_cases h3:iY tx s.1 p=true
   ·have e:dm tx s p=(kE s.1 p,true):=by unfold dm; rw[if_neg h1,if_pos h3]
    refine⟨p,Wp,Bool.eq_false_iff.mpr h1,Ae P (dm tx s p) ?_⟩;rw[e];unfold kE;simp
   ·have e:dm tx s p=s:=by unfold dm; rw[if_neg h1,if_neg h3]
    have ni:(fq tx P (dm tx s p)).2=true:=h2;obtain⟨q,hq,a,b⟩:=Af P (dm tx s p) %[e|h] ni;rw[e] at a;exact⟨q,Wg _ hq,a,b⟩
def nf(P:List (Nat×Nat))(R:RR):Nat:=(P.filter λp=>!R p).length
theorem HQ(h:∀ q,R q=true->R' q=true):∀ P:List (Nat×Nat),nf P R'<=nf P R
 | []=>Wi _
 | p :: P=>by
  have ih:=HQ h P;unfold nf at ih ⊢;rw[QV,QV]
  cases e:R p with
  | true=>rw[h p e]; simpa using ih
  | false =>
   cases R' p
   ·simpa using ih
   ·simp; lia
theorem HR(h:∀ q,R q=true->R' q=true):∀ P:List (Nat×Nat),(∃ p ∈ P,R p=false/\R' p=true)->nf P R' < nf P R
 | [],⟨p,hp,_⟩=>by simp at hp
 | p :: P,⟨q,hq,a,b⟩=>by
  have le:=HQ h P;rcases Wu.mp hq with rfl | hq
  ·unfold nf at le ⊢;rw[QV,QV,a,b];simp;lia
  ·have ih:=HR h P ⟨q,hq,a,b⟩;unfold nf at ih ⊢;rw[QV,QV]
   cases e:R p with
   | true=>rw[h p e]; simpa using ih
   | false =>
    cases R' p
    ·simpa using ih
    ·simp; lia
def oz(ts:List Nat)(tx:Nat->List Nat)(sg:Nat->Nat)(R:RR):Prop:=∀ N:Nat->Nat->Prop,(∀ t ∈ ts,∀ u ∈ ts,N t u->sg t=sg u/\(tx t).length=(tx u).length/\∀ (k:Nat) p q,(tx t)[k]? = some p->(tx u)[k]? = some q->N p q)->∀ t ∈ ts,∀ u ∈ ts,N t u->R (t,u)=false
theorem HS{a b:List Nat}(h:p ∈ a.zip b):∃ k:Nat,a[k]? = some p.1/\b[k]? = some p.2:=by
 obtain⟨k,hk⟩:=Q4.mp h;rw[List.getElem?_zip_eq_some] at hk;exact⟨k,hk.1,hk.2⟩
theorem V2(e8:∀ t ∈ ts,∀ p ∈ tx t,p ∈ ts)(h:oz ts tx sg s.1)(h1:p.1 ∈ ts)(h2:p.2 ∈ ts):oz ts tx sg (dm tx s p).1:=by
 unfold dm;split
 ·exact h
 ·split
  ·rename_i hz;intro N hN t ht u hu hn;show kE s.1 p (t,u)=false;unfold kE;split
   ·rename_i e;exfalso
    obtain⟨q,hq,hr⟩:=List.any_eq_true.mp hz;obtain⟨k,k1,k2⟩:=HS hq;have e1:p.1=t:=by rw[<- e]
    have e2:p.2=u:=by rw[<- e]
    rw[e1] at k1;rw[e2] at k2;have:=h N hN q.1 (e8 t ht _ (Wq k1)) q.2 (e8 u hu _ (Wq k2)) ((hN t ht u hu hn).2.2 k _ _ k1 k2);have ic:s.1 q=true:=hr;rw[show(q.1,q.2)=q from rfl,ic] at this
    cases this
   ·exact h N hN t ht u hu hn
  ·exact h
theorem HU(e8:∀ t ∈ ts,∀ p ∈ tx t,p ∈ ts):∀ (P:List (Nat×Nat)) (s:RR×Bool),(∀ p ∈ P,p.1 ∈ ts/\p.2 ∈ ts)->oz ts tx sg s.1->oz ts tx sg (fq tx P s).1
 | [],_,_,h=>h
 | p :: P,s,hp,h=>HU e8 P (dm tx s p) (λq hq=>hp q (Wg _ hq)) (V2 e8 h (hp p Wp).1 (hp p Wp).2)
theorem V3(e8:∀ t ∈ ts,∀ p ∈ tx t,p ∈ ts)(hlen:∀ t ∈ ts,∀ u ∈ ts,(tx t).length=(tx u).length)(rs:Res ts tx sg c)(base:∀ t ∈ ts,∀ u ∈ ts,sg t≠sg u->R (t,u)=true)(closed:∀ t ∈ ts,∀ u ∈ ts,R (t,u)=false->iY tx R (t,u)=false)(snd:oz ts tx sg R) :
  ∀ t ∈ ts,∀ u ∈ ts,R (t,u) = !decide (c t=c u):=λt ht u hu=>by
 by_cases h:c t=c u
 ·rw[decide_eq_true h];refine snd (λa b=>a ∈ ts/\b ∈ ts/\c a=c b) (λa ha b hb ⟨_,_,e⟩=>⟨rs.same a ha b hb e,hlen a ha b hb,λk p q h1 h2=>⟨e8 a ha p (Wq h1),e8 b hb q (Wq h2),?_⟩⟩) t ht u hu ⟨ht,hu,h⟩;have:=congrArg (·[k]?) (rs.VY a ha b hb e);simpa[Wj,h1,h2] using this
 ·rw[decide_eq_false h]
  cases e:R (t,u) with
  | true=>rfl
  | false =>
   exfalso
   refine h (rs.max (λa b=>a ∈ ts/\b ∈ ts/\R (a,b)=false) (λa ha b hb ⟨_,_,e⟩=>⟨?_,hlen a ha b hb,λk p q h1 h2=>⟨e8 a ha p (Wq h1),e8 b hb q (Wq h2),?_⟩⟩) t ht u hu ⟨ht,hu,e⟩)
   ·apply Classical.byContradiction;intro z;rw[base a ha b hb z] at e
    cases e
   ·have hz:=closed a ha b hb e;unfold iY at hz;rw[JL] at hz;have:=hz (p,q) (List.mem_iff_getElem?.mpr ⟨k,by rw[List.getElem?_zip_eq_some]; exact⟨h1,h2⟩⟩);simpa using this
end
theorem Ag[DecidableEq α](k:α):∀ (l L:List α),aQ L (l ++ [k])=if k ∈ aQ L l then aQ L l else aQ L l ++ [k]
 | [],L=>rfl
 | a :: l,L=>by
  show aQ _ (l ++ [k])=_;rw[Ag k l];rfl
theorem Ah[DecidableEq α][DecidableEq β](F:α->β):∀ (l L:List α),(∀ a,a ∈ L\/a ∈ l->∀ b,b ∈ L\/b ∈ l->F a=F b->a=b)->aQ (L.map F) (l.map F)=(aQ L l).map F
 | [],_,_=>rfl
 | k :: r,L,h=>by
  have e:(F k ∈ L.map F) ↔ k ∈ L:=⟨λz=>by
   obtain⟨a,ha,e⟩:=WA.mp z;have:=h a (.inl ha) k (.inr Wp) e;rw[<- this]; exact ha,λz=>WD z⟩
  rw[Wf];unfold aQ;by_cases hk:k ∈ L
  ·rw[if_pos hk,if_pos (e.mpr hk)];refine Ah F r L λa ha b hb=>h a (ha.imp id (Wg _)) b (hb.imp id (Wg _))
  ·rw[if_neg hk,if_neg (λz=>hk (e.mp z))];have:=Ah F r (L ++ [k]) λa ha b hb=>h a (by
    rcases ha with ha | ha
    ·rcases Qs.mp ha with ha | ha
     ·exact .inl ha
     ·exact .inr %[show a=k by simpa using ha|Wp]
    ·exact .inr (Wg _ ha)) b (by
    rcases hb with hb | hb
    ·rcases Qs.mp hb with hb | hb
     ·exact .inl hb
     ·exact .inr %[show b=k by simpa using hb|Wp]
    ·exact .inr (Wg _ hb))
   rw[<- this];simp
def fit(c:Nat->Nat)(l:List Nat)(z:Nat):List Nat:=l.filter λu=>decide (c u=z)
def kF(c:Nat->Nat)(l:List Nat):List (Int×List Tx):=(aQ [] (l.map c)).map λz:Nat=>(((z:Nat):Int),(fit c l z).map λt=>[t])
theorem V4(c:Nat->Nat)(l:List Nat)(t:Nat):km (kF c l) [t] (c t:Nat)=kF c (l ++ [t]):=by
 have pP:((kF c l).any λe=>decide (e.1=((c t:Nat):Int)))=decide (c t ∈ aQ [] (l.map c)):=by
  rw[U3];simp only[List.any_eq_true,decide_eq_true_eq,kF,List.mem_map];constructor
  ·rintro ⟨e,⟨z,hz,rfl⟩,h⟩;have h':((z:Nat):Int)=((c t:Nat):Int):=h;have:z=c t:=by lia
   rw[<- this]; exact hz
  ·intro h;exact⟨_,⟨c t,h,rfl⟩,rfl⟩
 have hf:∀ z,fit c (l ++ [t]) z=fit c l z ++ (if c t=z then[t] else[]):=λz=>by
  unfold fit;rw[List.filter_append];congr 1
  by_cases h:c t=z <;> simp[h]
 unfold km;rw[pP];unfold kF;rw[WR,Wf,U5,Ag];by_cases h:c t ∈ aQ [] (l.map c)
 ·rw[decide_eq_true h,if_pos rfl,if_pos h,Ww];refine Qf λz _=>?_
  simp only[Function.comp,hf];by_cases e:z=c t
  ·subst e; simp
  ·have e2:¬ ((z:Nat):Int)=((c t:Nat):Int):=λq=>e Y'
   rw[if_neg e2,if_neg (Ne.symm e)];simp
 ·rw[decide_eq_false h,if_neg Z5,if_neg h,WR];congr 1
  ·refine Qf λz hz=>?_
   have e:c t≠z:=λe=>h %[e|hz]
   rw[hf,if_neg e,Ql]
  ·have hn:fit c l (c t)=[]:=by
    unfold fit;rw[List.filter_eq_nil_iff];intro u hu z;have:c u=c t:= ~~~z
    exact h ((kC _ _).mpr (.inr (by rw[<- this]; exact WD hu)))
   rw[Wf,U5,hf,hn,if_pos rfl];rfl
theorem HV(c:Nat->Nat):∀ (r l:List Nat),(r.map λt=>(([t]:Tx),((c t:Nat):Int))).foldl (λgs p=>km gs p.1 p.2) (kF c l)=kF c (l ++ r)
 | [],l=>by simp
 | t :: r,l=>by
  rw[Wf,Jj,V4,HV c r];simp
theorem V5(c:Nat->Nat)(ts:List Nat):(eZ (ts.map λt=>(([t]:Tx),((c t:Nat):Int)))).map (·.2)=(aQ [] (ts.map λt=>fit c ts (c t))).map λg=>g.map λt=>[t]:=by
 have e:eZ (ts.map λt=>(([t]:Tx),((c t:Nat):Int)))=kF c ts:=by
  have:=HV c ts [];simpa[eZ,kF,aQ] using this
 rw[e];have em:(ts.map λt=>fit c ts (c t))=(ts.map c).map (fit c ts):=by rw[Ww]; rfl
 have:=Ah (fit c ts) (ts.map c) [] λa ha b hb h=>by
  have ha:a ∈ ts.map c:= ~~~ha
  obtain⟨t,ht,rfl⟩:=WA.mp ha;have m:t ∈ fit c ts (c t):=List.mem_filter.mpr ⟨ht,Z5⟩;rw[h] at m;have:=(List.mem_filter.mp m).2;simpa using this
 rw[em,show([]:List (List Nat))=([]:List Nat).map (fit c ts) from rfl,this];unfold kF;rw[Ww,Ww];rfl
section
variable (pt:Nat->List Nat)(x0:Nat)
def bf:Nat->List Nat
 | 0=>[x0]
 | k + 1=>aQ (bf k) (pt ((bf k).getD k 0))
variable {pt:Nat->List Nat}{x0:Nat}
theorem sQ(k j:Nat):∃ s,bf pt x0 (k + j)=bf pt x0 k ++ s:=by
 induction j with
 | zero=>exact⟨[],Z5⟩
 | succ j ih =>
  obtain⟨s,e⟩:=ih;obtain⟨s',e'⟩:=oy (pt ((bf pt x0 (k + j)).getD (k + j) 0)) (bf pt x0 (k + j));exact⟨s ++ s',(show bf pt x0 (k + (j + 1))=_ from e').trans (by rw[e,Jq])⟩
theorem vP:∀ k,(bf pt x0 k).Nodup
 | 0=>#v[bf]
 | k + 1=>Ac _ _ (vP k)
theorem sS(h0:x0 ∈ ts)(hp:∀ t ∈ ts,∀ p ∈ pt t,p ∈ ts):∀ k,(∀ j < k,j < (bf pt x0 j).length)->∀ x ∈ bf pt x0 k,x ∈ ts
 | 0,_,x,hx=>by
  have:x=x0:=by simpa[bf] using hx
  exact this ▸ h0
 | k + 1,hk,x,hx=>by
  rcases (kC _ _).mp hx with h | h
  ·exact sS h0 hp k (λj hj=>hk j Y') x h
  ·refine hp _ (sS h0 hp k (λj hj=>hk j Y') _ ?_) x h;have:=hk k Y';rw[Qi,Wb this];exact QE _
theorem V6(h0:x0 ∈ ts)(hp:∀ t ∈ ts,∀ p ∈ pt t,p ∈ ts):∃ n,(bf pt x0 n).length=n/\n<=ts.length/\∀ j < n,j < (bf pt x0 j).length:=by
 have go:∀ m k,m + k=ts.length + 1->(∀ j < k,j < (bf pt x0 j).length)->∃ n,(bf pt x0 n).length=n/\n<=ts.length/\∀ j < n,j < (bf pt x0 j).length:=by
  intro m;induction m with
  | zero =>
   intro k e hk;have h1:=hk ts.length Y';have h2:=sJ (vP (pt:=pt) (x0:=x0) ts.length) (sS h0 hp _ λj hj=>hk j Y');lia
  | succ m ih =>
   intro k e hk;by_cases h:k < (bf pt x0 k).length
   ·exact ih (k + 1) Y' λj hj=>by
     rcases Nat.lt_or_ge j k with z | z
     ·exact hk j z
     ·rw[show j=k by lia]; exact h
   ·refine⟨k,?_,Y',hk⟩
    cases k with
    | zero=>simp[bf] at h
    | succ k =>
     obtain⟨s,es⟩:=sQ (pt:=pt) (x0:=x0) k 1;have:=hk k Y';rw[es] at h ⊢;simp at h ⊢;lia
 exact go (ts.length + 1) 0 Y' λj hj=>by lia
end
noncomputable abbrev pS(d:D):Option S:=some (.pure d)
noncomputable abbrev pO(d:D):Option S:=some (.own d)
abbrev HW:DE:=(aE mO [.io 0,.val (aa 7),.val (aa 10),.val (aa 8)])
abbrev Ai:DE:=(bE [14] (cY (aa 3)) (ae [0] 14) aZ HW)
theorem cV(h:a δ = .ok .next δ1):aq a b δ=b δ1:=by unfold aq; rw[h]; rfl
theorem HX(h:a δ = .ok (.ret v) δ1):aq a b δ = .ok (.ret v) δ1:=by unfold aq; rw[h]; rfl
theorem f9(h:it δ = .ok ds δ1):bG it g b δ=forL g b ds δ1:=by unfold bG; rw[h]; rfl
theorem df(f:DE)(δ:Dl):aG f δ=(f δ).bind λr δ1=>match r.d with
 | .lst ds=>.ok ds δ1
 | .tup ds=>.ok ds δ1
 | .str x=>.ok (x.map λn=>.str [n]) δ1
 | _=>.stuck:=id rfl
theorem qab(neg:Bool)(fa f g:DE)(δ:Dl):Pw neg fa f g δ=(fa δ).bind λv δ1=>(f δ1).bind λlo δ2=>(g δ2).bind λhi δ3=>match v.d,lo.d,hi.d with
 | .int i,.int l,.int h=>.ok (.pure (.bl (if neg then !(decide (l<=i) && decide (i < h)) else(decide (l<=i) && decide (i < h))))) δ3
 | _,_,_=>.stuck:=id rfl
theorem vQ{t cs}(f F:A->D)(p:A->Bool)(δ:Dl):∀ (as:List A) (acc:List D),acc.length + as.length<=Wa ->
  (∀ a ∈ as,∃ δ1 δ2 x δ3,g (.pure (f a)) δ=some δ1/\t δ1 = .ok (p a) δ2/\bz cs δ2=δ/\el δ2 = .ok x δ3/\bz cs δ3=δ/\x.d=F a)->cT cs g t el (as.map f) δ acc = .ok (acc ++ (as.filter p).map F) δ
 | [],acc,_,_=>#v[cT]
 | a :: r,acc,hl,hs=>by
  obtain⟨δ1,δ2,x,δ3,e1,e2,e2',e3,e4,e5⟩:=hs a Wp;have i7:acc.length < Wa:=by simp at hl; lia
  rw[Wf];unfold cT;rw[e1]
  cases hp:p a with
  | true =>
   have ih:=vQ (cs:=cs) (g:=g) (t:=t) (el:=el) f F p δ r (acc ++ [x.d]) U' (λa ha=>hs a (Wg _ ha));rw[e5] at ih;rw[hp] at e2;simp only[e2,eS,if_true,e3,if_pos i7,e4,e5,ih,QV,hp];simp
  | false =>
   have ih:=vQ (cs:=cs) (g:=g) (t:=t) (el:=el) f F p δ r acc U' (λa ha=>hs a (Wg _ ha));rw[hp] at e2;simp only[e2,eS,e2',ih,QV,hp];simp
def nx(s:Int):Int:=(((s + 7919) % 2147483647) * ((s + 7919) % 2147483647) + 48271 * ((s + 7919) % 2147483647) + 12345) % 2147483629
theorem V7(s:Int):p_ [.pure (.int s)]=some (.pure (.int (nx s)),[.pure (.int s)]):=by
 unfold p_ bR GY eN;have h1:=Int.emod_nonneg (s + 7919) (b:=2147483647) Z';have h2:=Int.emod_lt_of_pos (s + 7919) (b:=2147483647) Z';have c1:jd ((s + 7919) % 2147483647) ((s + 7919) % 2147483647)=true:=by unfold jd; simp; lia
 have c2:jd 48271 ((s + 7919) % 2147483647)=true:=by unfold jd; simp
 simp[cy,bV,au,ah,aV,ag,bt,fW,fF,eF,oW,c1,c2,cH,cf];rfl
def bB(d:D):Prop:=∃ l f s:Int,d = .lst [.int l,.int f,.int s]/\0<=l
theorem qh(hp:bB d)(m:Nat)(h0:0 < m)(h1:m < 1073741824):∃ (r:Nat) (d':D),dS [.own d,.pure (.int m)]=some (.pure (.int r),[.own d',.pure (.int m)])/\r < m/\bB d':=by
 obtain⟨l,f,s,rfl,hl⟩:=hp;have hm:(0:Int) < (m:Int):=by lia
 have hd:qS l m=true:=by unfold qS; simp; lia
 unfold dS bR GZ eN;by_cases hf:f=1
 ·subst hf;have e1:=Int.emod_nonneg l (b:=(m:Int)) Y';have e2:=Int.emod_lt_of_pos l hm;refine⟨(l % (m:Int)).toNat,.lst [.int (l / m),.int 1,.int s],?_,Y',⟨_,_,_,rfl,Int.ediv_nonneg hl Y'⟩⟩;simp[cy,bV,au,ah,aV,ag,aa,aw,cq,cK,jm,vf,yC,aF,fW,oX,fF,h0,hd,l7,fX,putL,cH,cf,fD];lia
 ·have e1:=Int.emod_nonneg (nx (nx s + 7) / 64) (b:=(m:Int)) Y';have e2:=Int.emod_lt_of_pos (nx (nx s + 7) / 64) hm;refine⟨(nx (nx s + 7) / 64 % (m:Int)).toNat,.lst [.int l,.int f,.int (nx (nx s + 7))],?_,Y',⟨_,_,_,rfl,hl⟩⟩;simp[cy,bV,au,ah,aV,ag,aa,aw,cq,cK,jm,vf,yC,aF,fW,oX,fF,h0,hd,l7,fX,putL,cH,cf,fD,hf,aE,bF,bN,cz,bY,bJ,V7,bt,bc,qS];lia
theorem V8(c:Int):∃ d,ot [.pure (.int c)]=some (.own d,[.pure (.int c)])/\bB d:=by
 unfold ot bR G6 eN;refine⟨.lst [.int (if 0 - c > c then 0 - c else c),.int (if decide (1000000000000000000<=(if 0 - c > c then 0 - c else c)) then 1 else 0),.int ((if 0 - c > c then 0 - c else c) % 1000003)],?_,⟨_,_,_,rfl,by split <;> lia⟩⟩;simp[cy,bV,au,ah,aV,ag,aa,xO,qR,fF,nA,xJ,cK,uC,xI,fW,cH,cf]
theorem V9(ns:List Int):∃ c:Int,pZ [.pure (.lst (ns.map .int)),.pure (.int 0)]=some (.pure (.int c),[.pure (.lst (ns.map .int)),.pure (.int 0)]):=by
 unfold pZ bR GV eN
 cases ns with
 | nil=>exact⟨0,#v[cy,bV,ah,aV,ag,gL,cK,aF,bw,cH,cf]⟩
 | cons n r=>exact⟨n,by
   have:(0:Int) < (r.length:Int) + 1:=by lia
   simp[cy,bV,ah,aV,ag,gL,cK,aF,bw,cH,cf,aw,jm,this]⟩
theorem mQ(hp:bB d)(m:Nat)(i:Int)(hi:i=m)(h0:0 < m)(h1:m < 1073741824):∃ (r:Nat) (d':D),dS [.own d,.pure (.int i)]=some (.pure (.int r),[.own d',.pure (.int i)])/\r < m/\bB d':=by
 subst hi;exact qh hp m h0 h1
def bq:Tx:=gD
theorem V_(hp:bB d):∃ (h w:Nat) (d':D),sk [.own d]=some (.pure (.tup [.int h,.int w]),[.own d'])/\0 < h/\h<=4/\0 < w/\w<=4/\2 < h + w/\bB d':=by
 obtain⟨r1,d1,e1,l1,p1⟩:=mQ hp 3 3 rfl Z' Z';obtain⟨r2,d2,e2,l2,p2⟩:=mQ p1 3 3 rfl Z' Z';obtain⟨r3,d3,e3,l3,p3⟩:=mQ p2 8 8 rfl Z' Z';obtain⟨r4,d4,e4,l4,p4⟩:=mQ p3 6 6 rfl Z' Z';unfold sk bR G0 eN;by_cases h3:r3=0
 ·subst h3;have:r4=0\/r4=1\/r4=2\/r4=3\/r4=4\/r4=5:=by lia
  rcases this with rfl | rfl | rfl | rfl | rfl | rfl
  ·exact⟨4,1,d4,#v[cy,bV,au,aE,bF,cz,bN,bY,bJ,e1,e2,e3,e4,bc,bt,cq,cK,aF,aw,dE,fD,bX,aW,ck,ah,aV,ag,aa,cH,cf],Z',Z',Z',Z',Z',p4⟩
  ·exact⟨1,4,d4,#v[cy,bV,au,aE,bF,cz,bN,bY,bJ,e1,e2,e3,e4,bc,bt,cq,cK,aF,aw,dE,fD,bX,aW,ck,ah,aV,ag,aa,cH,cf],Z',Z',Z',Z',Z',p4⟩
  ·exact⟨4,4,d4,#v[cy,bV,au,aE,bF,cz,bN,bY,bJ,e1,e2,e3,e4,bc,bt,cq,cK,aF,aw,dE,fD,bX,aW,ck,ah,aV,ag,aa,cH,cf],Z',Z',Z',Z',Z',p4⟩
  ·exact⟨4,3,d4,#v[cy,bV,au,aE,bF,cz,bN,bY,bJ,e1,e2,e3,e4,bc,bt,cq,cK,aF,aw,dE,fD,bX,aW,ck,ah,aV,ag,aa,cH,cf],Z',Z',Z',Z',Z',p4⟩
  ·exact⟨1,2,d4,#v[cy,bV,au,aE,bF,cz,bN,bY,bJ,e1,e2,e3,e4,bc,bt,cq,cK,aF,aw,dE,fD,bX,aW,ck,ah,aV,ag,aa,cH,cf],Z',Z',Z',Z',Z',p4⟩
  ·exact⟨2,1,d4,#v[cy,bV,au,aE,bF,cz,bN,bY,bJ,e1,e2,e3,e4,bc,bt,cq,cK,aF,aw,dE,fD,bX,aW,ck,ah,aV,ag,aa,cH,cf],Z',Z',Z',Z',Z',p4⟩
 ·by_cases hs:r1=0/\r2=0
  ·obtain⟨rfl,rfl⟩:=hs;refine⟨1,2,d3,?_,Z',Z',Z',Z',Z',p3⟩;simp[cy,bV,au,aE,bF,cz,bN,bY,bJ,e1,e2,e3,bc,bt,cq,cK,aF,h3,ah,aV,ag,aa,cH,cf]
  ·have hn:¬ (1 + (r1:Int) + (1 + (r2:Int))=2):=by lia
   refine⟨1 + r1,1 + r2,d3,?_,Y',Y',Y',Y',Y',p3⟩;simp[cy,bV,au,aE,bF,cz,bN,bY,bJ,e1,e2,e3,bc,bt,cq,cK,aF,h3,hn,ah,aV,ag,aa,cH,cf]
theorem Aj(ts:List Nat)(r:Nat)(h:r < ts.length):aw (.lst (ts.map λn=>.str [n])) (.int r)=pS (.str [ts.getD r 0]):=by
 simp[aw,iA,h]
theorem W_(hp:bB d)(ts:List Nat)(place way:Nat)(h1:place < ts.length)(h2:ts.length<=64):∃ (n:Nat) (d':D),
  mO [.own d,.pure (.lst (ts.map λn=>.str [n])),.pure (.int place),.pure (.int way)]=some (.pure (.str [n]),[.own d',.pure (.lst (ts.map λn=>.str [n])),.pure (.int place),.pure (.int way)])/\n ∈ ts/\bB d':=by
 have mem:∀ r,r < ts.length->ts.getD r 0 ∈ ts:=λr h=>#v[h]
 unfold mO bR G1 eN;by_cases w1:way=1
 ·subst w1;obtain⟨r,d1,e1,l1,p1⟩:=mQ hp (place + 1) ((place:Int) + 1) Y' Y' Y';refine⟨ts.getD r 0,d1,?_,mem r Y',p1⟩;simp[cy,bV,ah,aV,ag,cq,cK,aF,aE,bF,cz,bN,bY,bt,bJ,e1,bc,aw,iA,cH,cf,show r < ts.length by lia]
 ·by_cases w2:way=2
  ·subst w2;have hr:(place + 1) % ts.length < ts.length:=Nat.mod_lt _ Y';refine⟨ts.getD ((place + 1) % ts.length) 0,d,?_,mem _ hr,hp⟩;have hm:fW (.int ((place:Int) + 1)) (.int ts.length)=pS (.int (((place + 1) % ts.length:Nat):Int)):=by
    simp only[fW,fF];rw[if_pos Z6];simp
   simp[cy,bV,ah,aV,ag,cq,cK,aF,bt,bw,hm,cH,cf];have hx:=Aj ts ((place + 1) % ts.length) hr;simp at hx;simp[hx]
  ·by_cases w3:way=3
   ·subst w3;obtain⟨r,d1,e1,l1,p1⟩:=mQ hp 4 4 rfl Z' Z';by_cases hr:0 < r
    ·refine⟨ts.getD place 0,d1,?_,mem place h1,p1⟩;simp[cy,bV,ah,aV,ag,cq,cK,aF,aE,bF,cz,bN,bY,bJ,e1,bc,iO,cK,hr,aw,iA,h1,cH,cf]
    ·obtain⟨r',d2,e2,l2,p2⟩:=qh p1 ts.length Y' Y';refine⟨ts.getD r' 0,d2,?_,mem r' l2,p2⟩;simp[cy,bV,ah,aV,ag,cq,cK,aF,aE,bF,cz,bN,bY,bJ,e1,bc,iO,cK,hr,bw,e2,aw,iA,l2,cH,cf]
   ·obtain⟨r',d2,e2,l2,p2⟩:=qh hp ts.length Y' Y';refine⟨ts.getD r' 0,d2,?_,mem r' l2,p2⟩;have c1:¬ (way:Int)=1:=by lia
    have c2:¬ (way:Int)=2:=by lia
    have c3:¬ (way:Int)=3:=by lia
    simp[cy,bV,ah,aV,ag,cq,cK,aF,aE,bF,cz,bN,bY,bJ,bc,c1,c2,c3,bw,e2,aw,iA,l2,cH,cf]
theorem Xa:∀ k,k < 26->bq.getD k 0=97 + k:=by decide
theorem Xb(xs:List Nat)(h:xs.length < 64):nC (.lst (xs.map λn=>.str [n]))=pO (.lst ((iU xs).map λn=>.str [n])):=by
 have e:(xs.map λn=>D.str [n])=(xs.map λn=>[n]).map D.str:=by simp
 unfold nC;simp only[e,pL];rw[if_pos (~~~h),EO];simp
def jU(f n:Nat):List Nat:=(WY n).map λk=>97 + (f + 5 * k) % 26
theorem Xd(f n:Nat)(hn:n<=26):(jU f n).Nodup:=by
 unfold jU;rw[Q2,J7];refine(List.pairwise_lt_range (n:=n)).imp_of_mem ?_;intro a b ha hb hZ e;simp at ha hb;lia
def rb(pd:D)(m h w n f:Nat)(s7:S)(wy:Nat)(blocks:List D)(a b c:Option S):Dl :=
 [pO pd,pS (.int m),pS (.int h),pS (.int w),pS (.int (1 + (n:Int))),pS (.int f),pS (.str bq),some s7,pS (.int wy),pO (.lst blocks),a,b,c,none,none]
def tD(ts:List Nat):D:=.lst (ts.map λn=>.str [n])
def sT(ts:List Nat)(s:S):Prop:=s = .own (tD ts)\/s = .pure (tD ts)
theorem Xe(cg:ts.length<=64)(hw:w<=4)(ie:bB pd)(h7:sT ts s7)(blocks:List D)(place:Nat)(cB:place < ts.length)(block:List D)(row:Nat) :
  ∃ (x:Tx) (bo:D) (ig:S),cT [14] (ae [0] 14) aZ HW (dA 0 w) (rb pd m h w n f s7 wy blocks (pS (.int place)) (pO (.lst block)) (pS (.int row))) []
   = .ok (x.map λn=>.str [n]) (rb bo m h w n f ig wy blocks (pS (.int place)) (pO (.lst block)) (pS (.int row)))/\x.length=w/\(∀ n ∈ x,n ∈ ts)/\bB bo/\sT ts ig:=by
 obtain⟨xs,δ',e,⟨bo,ig,hpd',h7',rfl⟩,hn,hf⟩:=vg (cs:=[14]) (g:=ae [0] 14) (t:=aZ) (el:=aE mO [.io 0,.val (aa 7),.val (aa 10),.val (aa 8)]) (λδ=>∃ pd s7,bB pd/\sT ts s7/\δ=rb pd m h w n f s7 wy blocks (pS (.int place)) (pO (.lst block)) (pS (.int row)))
  (λ_ x=>∃ n,n ∈ ts/\x = .str [n]) (dA 0 w) _ [] ⟨pd,s7,ie,h7,rfl⟩ (by rw[cm]; simp; lia) (λd hd δ ⟨pd,s7,ie,h7,e⟩=>by
   subst e;obtain⟨i,hi,rfl⟩:=EL hd;obtain⟨k,d',e,hk,p⟩:=W_ ie ts place wy cB cg;have e':mO [.own pd,.pure (tD ts),.pure (.int place),.pure (.int wy)]=some (.pure (.str [k]),[.own d',.pure (tD ts),.pure (.int place),.pure (.int wy)]):=e;refine⟨_,_,.pure (.str [k]),(rb d' m h w n f (.pure (tD ts)) wy blocks (pS (.int place)) (pO (.lst block)) (pS (.int row))).set 14 (pS (.int i)),rfl,rfl,?_,⟨d',_,p,.inr rfl,rfl⟩,⟨_,hk,rfl⟩⟩;rcases h7 with rfl | rfl
   ·simp[rb,aE,bF,cz,bN,bY,aa,bJ,e',bc]
   ·simp[rb,aE,bF,cz,bN,bY,aa,bJ,e',bc])
 obtain⟨x,rfl,hx⟩:=yG (P:=λn=>n ∈ ts) (EV hn hf λd x _ h=>h);exact⟨x,bo,ig,~~~e,~~~hn,hx,hpd',h7'⟩
theorem Xf(cg:ts.length<=64)(hw:w<=4)(hh:h<=4)(ie:bB pd)(h7:sT ts s7)(blocks:List D)(place:Nat)(cB:place < ts.length)(rs:Option S) :
  ∃ (fl:List Tx) (bo:D) (ig:S) (sU:Option S),forL (ae [0] 12) (cb 11 (aA (cx []) (ar Ai))) (dA 0 h) (rb pd m h w n f s7 wy blocks (pS (.int place)) (pO (.lst [])) rs)
   = .ok .next (rb bo m h w n f ig wy blocks (pS (.int place)) (pO (.lst (fl.map .str))) sU)/\fl.length=h/\(∀ r ∈ fl,r.length=w/\∀ n ∈ r,n ∈ ts)/\bB bo/\sT ts ig:=by
 obtain⟨δ',e3,bo,ig,fl,sU,hpd',h7',j5,gn,rfl⟩:=jn (g:=ae [0] 12) (b:=cb 11 (aA (cx []) (ar Ai))) (λk δ=>∃ (pd:D) (s7:S) (fl:List Tx) (rs:Option S),bB pd/\sT ts s7/\fl.length=k/\(∀ r ∈ fl,r.length=w/\∀ n ∈ r,n ∈ ts)/\δ=rb pd m h w n f s7 wy blocks (pS (.int place)) (pO (.lst (fl.map .str))) rs)
  (dA 0 h) 0 _ ⟨pd,s7,[],rs,ie,h7,rfl,Z5,rfl⟩ (λi d δ hd ⟨pd,s7,fl,rs,ie,h7,j5,gn,e⟩=>by
   subst e;obtain⟨hi,rfl⟩:=rM hd;obtain⟨x,bo,ig,e,hx,hxt,hpd',h7'⟩:=Xe (m:=m) (h:=h) (n:=n) (f:=f) (wy:=wy) cg hw ie h7 blocks place cB (fl.map .str) i;have hz:fl.length < Wa:=by rw[cm]; lia
   have ej:=EK x Y';refine⟨_,rb bo m h w n f ig wy blocks (pS (.int place)) (pO (.lst ((fl ++ [x]).map .str))) (pS (.int i)),rfl,?_,⟨bo,ig,fl ++ [x],_,hpd',h7',#v[j5],?_,rfl⟩⟩
   ·unfold rb at e ⊢;simp[cb,fX,aa,nX w Y',bN,bz];rw[e];simp[ej,cS,putL,hz]
   ·intro r hr;rcases Qs.mp hr with hr | hr
    ·exact gn r hr
    ·simp at hr; subst hr; exact⟨hx,hxt⟩)
 exact⟨fl,bo,ig,sU,e3,~~~j5,gn,hpd',h7'⟩
theorem Xg(hp:bB d)(m:Nat)(Xh:0 < m)(EB:m<=26):∃ (h w:Nat) (bs:List (Nat×List Tx)) (d':D),
  sm [.own d,.pure (.int m)]=some (.pure (az h w bs),[.own d',.pure (.int m)])/\EX h w bs/\bs.length<=m/\bB d':=by
 obtain⟨h,w,d1,e1,h0,h1,w0,w1,hw,p1⟩:=V_ hp;obtain⟨r,d2,e2,l2,p2⟩:=qh p1 m Xh Y';obtain⟨f,d3,e3,l3,p3⟩:=mQ p2 26 26 rfl Z' Z';obtain⟨wy,d4,e4,l4,p4⟩:=mQ p3 5 5 rfl Z' Z';-- the tiles
 have ec:=RB (cs:=[13]) (g:=ae [0] 13) (t:=aZ) (el:=ah aw 6 (ar (aH fW (ah bt 5 (ar (aH eF (eD (.int 5)) (ag 13)))) (ar (eD (.int 26)))))) (λd=>match d with | .int k=>.str [97 + (f + 5 * k.toNat) % 26] | _=>.bp)
  [pO d3,pS (.int m),pS (.int h),pS (.int w),pS (.int (1 + (r:Int))),pS (.int f),pS (.str bq),none,none,none,none,none,none,none,none] (dA 0 (1 + r)) [] (by rw[cm]; simp; lia) (λd hd=>by
   obtain⟨i,hi,rfl⟩:=EL hd;refine⟨_,_,.pure (.str [97 + (f + 5 * i) % 26]),[pO d3,pS (.int m),pS (.int h),pS (.int w),pS (.int (1 + (r:Int))),pS (.int f),pS (.str bq),none,none,none,none,none,none,pS (.int i),none],rfl,rfl,?_,rfl,rfl⟩;have hk:(f + 5 * i) % 26 < 26:=Nat.mod_lt _ Z';have hx:=RE bq ((f + 5 * i) % 26) hk Z';rw[Xa _ hk] at hx;have hc:((f:Int) + 5 * (i:Int)) % 26=(((f + 5 * i) % 26:Nat):Int):=by lia
   have hmul:eF (.int 5) (.int i)=pS (.int (5 * (i:Int))):=by
    unfold eF oW fF;have:jd 5 i=true:=by unfold jd; simp
    simp only[this,if_true]
   have Xi:fW (.int ((f:Int) + 5 * (i:Int))) (.int 26)=pS (.int (((f + 5 * i) % 26:Nat):Int)):=by
    rw[<- hc]; rfl
   generalize bq=lt at hx ⊢;simp only[ah,aV,ag,yA,Rx,Rw,eS,ve,List.set_cons_succ,List.set_cons_zero,Q6,Q5,pK,hmul,bt,Xi,hx])
 have Xj:List.map (λ(d:D)=>match d with | .int k=>D.str [97 + (f + 5 * k.toNat) % 26] | _=>.bp) (dA 0 (1 + r))=(jU f (1 + r)).map λn=>.str [n]:=by
  simp[dA,jU]
 rw[Xj] at ec;simp only[WQ] at ec;have HY:(jU f (1 + r)).length=1 + r:=#v[jU]
 have es:=Xb (jU f (1 + r)) (by rw[HY]; lia);have cg:(iU (jU f (1 + r))).length=1 + r:=by rw[ES,HY]
 have bu:=EU (Xd f (1 + r) Y');have hle:∀ t ∈ iU (jU f (1 + r)),97<=t/\t<=122:=λt ht=>by
  rw[yF] at ht;simp[jU] at ht;obtain⟨k,_,rfl⟩:=ht;lia
 generalize iU (jU f (1 + r))=ts at es cg bu hle;-- the blocks
 obtain⟨δ',e5,pd,s7,bs,a,b,c,ie,h7,kG,hbt,gn,rfl⟩:=jn (g:=ae [0] 10) (b:=(aq (au (cG aJ) (ae [0] 11)) (aq (bG (cY (aa 2)) (ae [0] 12) (cb 11 (aA (cx []) (ar Ai)))) (cb 9 (ba (ax (ah aw 7 (ag 10)) (ax (aA bT (ag 11)) aJ)))))))
  (λk δ=>∃ (pd:D) (s7:S) (bs:List (Nat×List Tx)) (a b c:Option S),bB pd/\sT ts s7/\bs.length=k/\bs.map (·.1)=ts.take k/\(∀ b ∈ bs,b.2.length=h/\∀ r ∈ b.2,r.length=w/\∀ n ∈ r,n ∈ ts)/\δ=rb pd m h w r f s7 wy (bs.map aN) a b c)
  (dA 0 (1 + r)) 0 (rb d4 m h w r f (.own (tD ts)) wy [] none none none) ⟨d4,_,[],none,none,none,p4,.inl rfl,rfl,rfl,Z5,rfl⟩ (λi d δ hd ⟨pd,s7,bs,a,b,c,ie,h7,kG,hbt,gn,e⟩=>by
   subst e;obtain⟨hi,rfl⟩:=rM hd;rw[WU] at kG hbt;obtain⟨fl,bo,ig,sU,e,j5,hflt,hpd',h7'⟩:=Xf (m:=m) (n:=r) (f:=f) (wy:=wy) (ts:=ts) Y' w1 h1 ie h7 (bs.map aN) i Y' c;have hz:bs.length < Wa:=by rw[cm]; lia
   have hx:=Aj ts i Y';refine⟨_,rb bo m h w r f ig wy ((bs ++ [(ts.getD i 0,fl)]).map aN) (pS (.int i)) (pO (.lst (fl.map .str))) sU,rfl,?_,⟨bo,ig,bs ++ [(ts.getD i 0,fl)],_,_,_,hpd',h7',#v[kG],?_,?_,rfl⟩⟩
   ·unfold rb at e ⊢;simp[au,aa,nX h Y'];rw[e];rcases h7' with rfl | rfl
    ·simp[cb,fX,ah,aV,ag,tD,hx,bT,putL,hz,aN]
    ·simp[cb,fX,ah,aV,ag,tD,hx,bT,putL,hz,aN]
   ·rw[WU,WR,hbt,Qx];simp[show i < ts.length by lia]
   ·intro b hb;rcases Qs.mp hb with hb | hb
    ·exact gn b hb
    ·simp at hb; subst hb; exact⟨j5,hflt⟩)
 have qac:bs.length=1 + r:= ~~~kG
 have Al:bs.map (·.1)=ts:=by
  rw[hbt,QT];simp[cg]
 refine⟨h,w,bs,pd,?_,⟨h0,h1,w0,w1,hw,Y',Y',%[Al|bu],λb hb=>hle _ (by rw[<- Al]; exact WD hb),λb hb=>%[Al|gn b hb]⟩,Y',ie⟩;unfold sm bR G2 eN;unfold bq at ec;simp[cy,bV,au,aE,bF,cz,bN,bY,bJ,e1,bc,bX,aW,ck,aa,e2,bt,e3,EW r Y',bz];rw[ec];simp[cS,es,e4,bc,aa,EW r Y'];unfold rb bq tD at e5;rw[e5];simp[ag,bT,cH,cf,aa]
theorem eq_int(i j:Int):cq (.int i) (.int j)=pS (.bl (i == j)):=rfl
theorem ne_int(i j:Int):lq (.int i) (.int j)=pS (.bl (!(i == j))):=rfl
theorem add_int(i j:Int):bt (.int i) (.int j)=pS (.int (i + j)):=rfl
theorem mR(np:List Nat)(n:Nat)(b:DS)(ss:List S):bR np n b ss=if cy np 0 ss then(match b (bV n ss) with
 | .ok fl δ=>(cH fl).bind λr=>(cf 0 ss δ).map λaT=>(r,aT)
 | _=>none) else none:=rfl
theorem oA(h w:Nat)(bs:List (Nat×List Tx)):aw (az h w bs) (.int 0)=pS (.int h)/\aw (az h w bs) (.int 1)=pS (.int w)/\aw (az h w bs) (.int 2)=pS (.tup (bs.map aN)):=by
 refine⟨?_,?_,?_⟩
 ·simp[aw,jm]
 ·simp[aw,vf]
 ·simp[aw,yC]
theorem sV:∀ (kps acc:List (a7×D)),((acc ++ kps).map (·.1)).Nodup->k7 kps acc=acc ++ kps
 | [],acc,_=>#v[k7]
 | p :: r,acc,h=>by
  have hn:(acc.any λkv=>decide (kv.1=p.1))=false:=by
   rw[JL];intro kv hkv;simp only[decide_eq_true_eq];intro e;rw[WR,List.nodup_append] at h;exact h.2.2 kv.1 (WD hkv) p.1 (WD Wp) e
  have hp:putD acc p.1 p.2=acc ++ [p]:=by
   unfold putD;rw[hn];simp
  show k7 r (putD acc p.1 p.2)=_;rw[hp,sV r (acc ++ [p]) (~~~h)];simp
theorem Xk(x:Tx)(h:x.length<=1000):eY (some 1) none (.str x)=pS (.str x.tail):=by
 unfold eY;have hz:Wa=16777216:=rfl;simp only;rw[if_pos Y'];have:cC x (some 1) none=x.tail:=by
  unfold cC L2.a0;simp
  cases x with
  | nil=>simp
  | cons a r=>simp
 rw[this]
theorem zev(ds:List D):eY (some 1) none (.tup ds)=pS (.tup ds.tail):=by
 have:cC ds (some 1) none=ds.tail:=by
  unfold cC L2.a0;simp
  cases ds with
  | nil=>simp
  | cons a r=>simp
 show some (S.pure (.tup (cC ds (some 1) none)))=_;rw[this]
theorem add_str(x y:Tx)(h:x.length + y.length<=1000):bt (.str x) (.str y)=pS (.str (x ++ y)):=by
 have hz:Wa=16777216:=rfl;simp only[bt];rw[if_pos Y']
theorem Am(x y:List D)(h:x.length + y.length<=1000):bt (.tup x) (.tup y)=pS (.tup (x ++ y)):=by
 have hz:Wa=16777216:=rfl;simp only[bt];rw[if_pos Y']
@[simp] theorem zfr {α β:Type} (x:Xc) (δ:Dl) (f:α->Dl->Rs β):(Rs.exc x δ:Rs α).bind f = .exc x δ:=id rfl
theorem jA(h:a δ = .ok .next δ1)(h2:b δ1=x):aq a b δ=x:=by
 rw[RA,h];simpa using h2
theorem Xl(xs:List α)(k:Nat)(h:k<=xs.length):cC xs none (some (k:Int))=xs.take k:=by
 have:¬ (k:Int) < 0:=by lia
 unfold cC L2.a0;simp[this]
theorem Xm(xs:List α)(k:Nat)(h:k<=xs.length):cC xs (some ((k:Int))) none=xs.drop k:=by
 have:¬ (k:Int) < 0:=by lia
 unfold cC L2.a0;simp[this,Uv h];exact QT Z5
theorem tW(ds:List D)(lo hi:Option Int):eY lo hi (.tup ds)=pS (.tup (cC ds lo hi)):=rfl
theorem xt(x:Tx)(h:x.length<=1000)(lo hi:Option Int):eY lo hi (.str x)=pS (.str (cC x lo hi)):=by
 unfold eY;simp only;rw[if_pos (by rw[cm]; lia)]
theorem HZ(ts:List Nat):bw (tD ts)=pS (.int ts.length):=#v[tD,bw]
theorem An(ts:List Nat)(r:Nat)(h:r < ts.length):aw (tD ts) (.int r)=pS (.str [ts.getD r 0]):=Aj ts r h
theorem Xn(ts:List Nat)(n:Nat):eR true (.str [n]) (.lst (ts.map λn=>.str [n]))=pS (.bl (!ts.contains n)):=by
 have e:(ts.map λn=>D.str [n])=(ts.map λn=>[n]).map D.str:=by simp
 have c:(ts.map λn=>([n]:Tx)).contains [n]=ts.contains n:=by
  induction ts with
  | nil=>rfl
  | cons a r ih=>simp only[Wf,List.contains_cons,ih Z5]; congr 1; simp
 unfold eR;simp only[e,pL,c];rfl
structure bZ(h w:Nat)(bs:List (Nat×List Tx)):Prop where
 h0:0 < h
 h1:h<=4
 w0:0 < w
 w1:w<=4
 n0:0 < bs.length
 n1:bs.length<=26
 nd:(bs.map (·.1)).Nodup
 cU:∀ b ∈ bs,b.2.length=h/\∀ r ∈ b.2,r.length=w/\∀ n ∈ r,n ∈ bs.map (·.1)
theorem Xo(R:EX h w bs):bZ h w bs:=⟨R.h0,R.h1,R.w0,R.w1,R.n0,by have:=R.n1; lia,R.up.imp (λh=>WX h),R.cU⟩
def mS(b:Nat×List Tx):Nat×List Tx:=(b.1,(b.1 :: (b.2.headD []).tail) :: b.2.tail)
def iH(bs:List (Nat×List Tx))(k:Nat):List (Nat×List Tx):=match bs[k]? with
 | some b=>bs.take k ++ mS b :: bs.drop (k + 1)
 | none=>bs
theorem oB(bs:List (Nat×List Tx))(k:Nat):(iH bs k).map (·.1)=bs.map (·.1):=by
 unfold iH
 cases e:bs[k]? with
 | none=>rfl
 | some b =>
  obtain⟨hk,eb⟩:=W6.mp e;have:bs=bs.take k ++ b :: bs.drop (k + 1):=by rw[<- eb,<- QX hk,List.take_append_drop]
  conv=>rhs; rw[this]
  simp[mS]
theorem Xp(h:b ∈ iH bs k):b ∈ bs\/∃ c ∈ bs,b=mS c:=by
 unfold iH at h
 cases e:bs[k]? with
 | none=>rw[e] at h; exact .inl h
 | some c =>
  rw[e] at h;rcases Qs.mp h with h | h
  ·exact .inl (List.mem_of_mem_take h)
  ·rcases Wu.mp h with h | h
   ·exact .inr ⟨c,Wq e,h⟩
   ·exact .inl (List.mem_of_mem_drop h)
theorem H_(R:bZ h w bs)(k:Nat):bZ h w (iH bs k):=by
 have e:=oB bs k;have el:(iH bs k).length=bs.length:=by have:=congrArg Qp e; simpa using this
 refine⟨R.h0,R.h1,R.w0,R.w1,%[el|R.n0],%[el|R.n1],%[e|R.nd],λb hb=>?_⟩;rw[e];rcases Xp hb with hb | ⟨c,hc,rfl⟩
 ·exact R.cU b hb
 ·obtain⟨h1,h2⟩:=R.cU c hc;have Ej:c.1 ∈ bs.map (·.1):=WD hc;have w0:=R.w0;have h0:=R.h0
  cases hq:c.2 with
  | nil=>rw[hq] at h1; simp at h1; lia
  | cons r q =>
   rw[hq] at h1 h2;have hr:=h2 r Wp;unfold mS;rw[hq];refine⟨~~~h1,λx hx=>?_⟩;rcases Wu.mp hx with rfl | hx
   ·refine⟨by simp[List.headD]; lia,λn hn=>?_⟩;rcases Wu.mp hn with rfl | hn
    ·exact Ej
    ·exact hr.2 n (List.mem_of_mem_tail (by simpa[List.headD] using hn))
   ·exact h2 x (Wg _ (~~~hx))
theorem Xq(R:bZ h w bs)(hk:k < bs.length):qa [.pure (az h w bs),.pure (.int k)]=some (.pure (az h w (iH bs k)),[.pure (az h w bs),.pure (.int k)]):=by
 have hb:bs[k]? = some bs[k]:=#v[hk]
 obtain⟨b1,b2⟩:=R.cU bs[k] (QE hk);have es:iH bs k=bs.take k ++ mS bs[k] :: bs.drop (k + 1):=by unfold iH; rw[hb]
 rw[es];have n1:=R.n1;have h0:=R.h0;have w0:=R.w0;have w1:=R.w1;have h1:=R.h1;generalize bs[k]=b at *;obtain⟨tl,bl⟩:=b;simp only at b1 b2
 cases bl with
 | nil=>simp at b1; lia
 | cons r q =>
  have hr:=b2 r Wp;have x1:aw (.tup (bs.map aN)) (.int (k:Int))=pS (.tup [.str [tl],bS (r :: q)]):=by
   simp[aw,iA,hb]
  have x2:aw (bS (r :: q)) (.int 0)=pS (.str r):=#v[aw,jm]
  have s1:=Xk r Y';have a1:bt (.str [tl]) (.str r.tail)=pS (.str (tl :: r.tail)):=by rw[add_str _ _ Z6]; rfl
  have s2:eY (some 1) none (bS (r :: q))=pS (bS q):=by rw[zev]; rfl
  have a2:bt (.tup [.str (tl :: r.tail)]) (bS q)=pS (bS ((tl :: r.tail) :: q)):=by rw[Am _ _ (by simp at b1 ⊢; lia)]; rfl
  have s3:eY none (some (k:Int)) (.tup (bs.map aN))=pS (.tup ((bs.take k).map aN)):=by rw[tW,Xl _ _ Z6,<- Uo]
  have s4:eY (some ((k:Int) + 1)) none (.tup (bs.map aN))=pS (.tup ((bs.drop (k + 1)).map aN)):=by rw[tW,show((k:Int) + 1)=((k + 1:Nat):Int) by lia,Xm _ _ Z6,<- Up]
  have a3:bt (.tup ((bs.take k).map aN)) (.tup [.tup [.str [tl],bS ((tl :: r.tail) :: q)]])=pS (.tup ((bs.take k).map aN ++ [.tup [.str [tl],bS ((tl :: r.tail) :: q)]])):=Am _ _ Z6;have a4:bt (.tup ((bs.take k).map aN ++ [.tup [.str [tl],bS ((tl :: r.tail) :: q)]])) (.tup ((bs.drop (k + 1)).map aN))=pS (.tup ((bs.take k ++ mS (tl,r :: q) :: bs.drop (k + 1)).map aN)):=by
   rw[Am _ _ Z6];simp[mS]
  rw[qa,mR,G3];generalize kG:D.tup (bs.map aN)=bl at *;generalize hnb:D.tup ((bs.take k ++ mS (tl,r :: q) :: bs.drop (k + 1)).map aN)=nb at *;generalize D.tup ((bs.take k).map aN ++ [.tup [.str [tl],bS ((tl :: r.tail) :: q)]])=nc at *;generalize D.tup ((bs.take k).map aN)=nd at *;generalize D.tup ((bs.drop (k + 1)).map aN)=ne at *;generalize bS ((tl :: r.tail) :: q)=f1 at *;generalize bS (r :: q)=f2 at *;generalize bS q=f3 at *;simp[cy,bV,au,aa,bX,aW,ck,ah,aV,ag,kG,hnb,x1,x2,eX,hJ,s1,s2,s3,s4,a1,a2,a3,a4,add_int,cH,cf];rw[<- hnb];simp[Uo,Up]
abbrev jV(ps:List (Nat×Nat)):List (a7×D):=ps.map λp=>((Sum.inr [p.1]:a7),D.str [p.2])
abbrev aD(ps:List (Nat×Nat)):D:=.ay (jV ps)
def dq(ps:List (Nat×Nat))(a:Nat):Option Nat:=(ps.find? λp=>decide (p.1=a)).map (·.2)
def ij(ps:List (Nat×Nat))(a b:Nat):List (Nat×Nat):=if (ps.any λp=>decide (p.1=a))=true then ps.map (λp=>if p.1=a then(p.1,b) else p) else ps ++ [(a,b)]
theorem Xr(ps:List (Nat×Nat))(a b:Nat):putD (jV ps) (.inr [a]) (.str [b])=jV (ij ps a b):=by
 have hk:∀ p:Nat×Nat,((Sum.inr [p.1]:a7) = .inr [a]) ↔ p.1=a:=λp=>by simp
 have ha:((jV ps).any λkv=>decide (kv.1 = .inr [a]))=(ps.any λp=>decide (p.1=a)):=by
  simp only[jV,JS];congr 1
  funext p
  simp
 unfold putD ij;rw[ha];split
 ·simp only[jV,Ww];congr 1
  funext p
  simp only[Function.comp,hk p];split <;> rfl
 ·simp[jV]
theorem Xs(ps:List (Nat×Nat))(a:Nat):da (jV ps) (.inr [a])=(dq ps a).map λv=>D.str [v]:=by
 unfold da dq jV;induction ps with
 | nil=>rfl
 | cons p r ih =>
  simp only[Wf,WP];by_cases h:p.1=a
  ·simp[h]
  ·have:decide ((Sum.inr [p.1]:a7) = .inr [a])=false:=#v[h]
   simp only[this,decide_eq_false h];exact ih
theorem qi(h:dq ps a=some v):aL (aD ps) (.str [a])=pS (.str [v]):=by
 show((cA (.str [a])).bind λk=>(da (jV ps) k).map S.pure)=_;simp only[cA,WT,Xs,h,WI]
theorem vR(ps:List (Nat×Nat))(a b c:Nat):dq (ij ps a b) c=if c=a then some b else dq ps c:=by
 unfold ij;by_cases h:(ps.any λp=>decide (p.1=a))=true
 ·rw[if_pos h];unfold dq;induction ps with
  | nil=>simp at h
  | cons p r ih =>
   simp only[Wf,WP];by_cases hp:p.1=a
   ·simp only[hp,if_true];by_cases hc:c=a
    ·simp[hc]
    ·have fQ:decide (a=c)=false:=by simp; lia
     simp only[fQ,if_neg hc];by_cases hr:(r.any λp=>decide (p.1=a))=true
     ·have:=ih hr;rw[if_neg hc] at this;exact this
     ·have hm:(r.map λp=>if p.1=a then(p.1,b) else p)=r:=by
       conv=>rhs; rw[<- List.map_id r]
       refine Qf λq hq=>?_
       have:¬ q.1=a:=λz=>hr (JX.mpr ⟨q,hq,#v[z]⟩)
       simp[this]
      rw[hm]
   ·simp only[if_neg hp];have hr:(r.any λp=>decide (p.1=a))=true:=by
     rw[Qb] at h;simpa[hp] using h
    by_cases hc:p.1=c
    ·have:¬ c=a:=λz=>hp (hc.trans z)
     simp[hc,this]
    ·simp only[decide_eq_false hc];exact ih hr
 ·rw[if_neg h];unfold dq;rw[List.find?_append];by_cases hc:c=a
  ·subst hc;have:ps.find? (λp=>decide (p.1=c))=none:=by
    rw[List.find?_eq_none];intro p hp z;exact h (JX.mpr ⟨p,hp,z⟩)
   simp[this]
  ·have fQ:¬ a=c:=λz=>hc z.symm
   simp[hc,fQ]
theorem Ao(ps:List (Nat×Nat))(a b:Nat):(ij ps a b).length<=ps.length + 1:=by
 unfold ij;split <;> simp
theorem Ap(h0:∃ qs,δ[i]? = some (pO (aD qs)))(e1:fe δ = .ok (.pure (.str [b])) δ1)(h1:∃ qs,δ1[i]? = some (pO (aD qs)))(e2:fi δ1 = .ok (.pure (.str [a])) δ2)(h2:δ2[i]? = some (pO (aD ps)))(hl:ps.length<=1000) :
  de i fi fe δ = .ok .next (δ2.set i (pO (aD (ij ps a b)))):=by
 obtain⟨q0,h0⟩:=h0;obtain⟨q1,h1⟩:=h1;have hz:(jV ps).length < Wa:=by rw[cm]; simp; lia
 unfold de;simp only[kb,h0,if_true,e1,eS,h1,e2,h2,cA,pK,hz,Xr]
abbrev Aq:DE:=(cG (ax (aa 14) (ax (ah aL 5 (ag 14)) aJ)))
abbrev Ar(GD:DF):DE:=(bE [14] (aG (aa 12)) (ae [1] 14) aZ (aH aw Aq (ar (aE GD [.io 1,.val (eD (.int 2))]))))
theorem As(hD:∀ (d:D) (m:Nat),bB d->0 < m->m < 1073741824->∃ (r:Nat) (d':D),GD [.own d,.pure (.int m)]=some (.pure (.int r),[.own d',.pure (.int m)])/\r < m/\bB d'){d:D}(hp:bB d):∃ (r:Nat) (d':D),GD [.own d,.pure (.int 2)]=some (.pure (.int r),[.own d',.pure (.int 2)])/\(r=0\/r=1)/\bB d':=by
 obtain⟨r,d',e,l,p⟩:∃ (r:Nat) (d':D),GD [.own d,.pure (.int 2)]=some (.pure (.int r),[.own d',.pure (.int 2)])/\r < 2/\bB d':=hD d 2 hp Z' Z';exact⟨r,d',e,Y',p⟩
section
variable (hD:∀ (d:D) (m:Nat),bB d->0 < m->m < 1073741824->∃ (r:Nat) (d':D),GD [.own d,.pure (.int m)]=some (.pure (.int r),[.own d',.pure (.int m)])/\r < m/\bB d')
include hD
theorem Xt(gO:∀ n ∈ ts,al n/\∃ v,dq ps n=some v/\al v){pd:D}(hp:bB pd)(row:Tx)(hr:∀ n ∈ row,n ∈ ts)(hl:row.length<=64)(o6:Option S)(bl:List D)(o8 o9 dg dQ a_:Option S) :
  ∃ (x:Tx) (bo:D),cT [14] (ae [1] 14) aZ (aH aw Aq (ar (aE GD [.io 1,.val (eD (.int 2))]))) (row.map λn=>.str [n]) [pS ru,pO pd,pS (.str bq),pO (tD ts),pO (tD lf),pO (aD ps),o6,pO (.lst bl),o8,o9,dg,dQ,a_,none,none] [] = .ok (x.map λn=>.str [n]) [pS ru,pO bo,pS (.str bq),pO (tD ts),pO (tD lf),pO (aD ps),o6,pO (.lst bl),o8,o9,dg,dQ,a_,none,none]/\x.length=row.length/\(∀ n ∈ x,al n)/\bB bo:=by
 obtain⟨xs,δ',e,⟨bo,hpd',rfl⟩,hn,hf⟩:=vg (cs:=[14]) (g:=ae [1] 14) (t:=aZ) (el:=(aH aw Aq (ar (aE GD [.io 1,.val (eD (.int 2))])))) (λδ=>∃ pd,bB pd/\δ=[pS ru,pO pd,pS (.str bq),pO (tD ts),pO (tD lf),pO (aD ps),o6,pO (.lst bl),o8,o9,dg,dQ,a_,none,none])
  (λ_ x=>∃ n,al n/\x = .str [n]) (row.map λn=>.str [n]) _ [] ⟨pd,hp,rfl⟩ (by rw[cm]; simp; lia) (λd hd δ ⟨pd,ie,e⟩=>by
   subst e;obtain⟨n,hn,rfl⟩:=WA.mp hd;obtain⟨a1,v,a2,a3⟩:=gO n (hr n hn);have x5:=qi a2;obtain⟨r,d',e,ic,p⟩:=As hD ie;refine⟨_,_,.pure (.str [if r=0 then n else v]),[pS ru,pO d',pS (.str bq),pO (tD ts),pO (tD lf),pO (aD ps),o6,pO (.lst bl),o8,o9,dg,dQ,a_,none,pS (.str [n])],rfl,rfl,?_,⟨d',p,rfl⟩,⟨_,?_,rfl⟩⟩
   ·generalize aD ps=dd,tD ts=td,tD lf=tl at *;rcases ic with rfl | rfl
    ·simp[aa,ah,aV,ag,x5,aE,bF,cz,bN,bY,bJ,e,bc,aw,jm]
    ·simp[aa,ah,aV,ag,x5,aE,bF,cz,bN,bY,bJ,e,bc,aw,vf]
   ·rcases ic with rfl | rfl
    ·exact a1
    ·exact a3)
 obtain⟨x,rfl,hx⟩:=yG (P:=al) (EV hn hf λd x _ h=>h);exact⟨x,bo,~~~e,~~~hn,hx,hpd'⟩
theorem Xu(gO:∀ n ∈ ts,al n/\∃ v,dq ps n=some v/\al v)(hp:bB pd)(fl:List Tx)(w:Nat)(hw:w<=64)(j5:fl.length<=64)(hf:∀ r ∈ fl,r.length=w/\∀ n ∈ r,n ∈ ts)(o6:Option S)(bl:List D)(o8 o9 dg a_:Option S) :
  ∃ (gl:List Tx) (bo:D) (mT:Option S),forL (ae [1] 12) (cb 11 (aA (cx []) (ar (Ar GD)))) (fl.map .str) [pS ru,pO pd,pS (.str bq),pO (tD ts),pO (tD lf),pO (aD ps),o6,pO (.lst bl),o8,o9,dg,pO (.lst []),a_,none,none] = .ok .next [pS ru,pO bo,pS (.str bq),pO (tD ts),pO (tD lf),pO (aD ps),o6,pO (.lst bl),o8,o9,dg,pO (.lst (gl.map .str)),mT,none,none]/\gl.length=fl.length/\(∀ r ∈ gl,r.length=w/\∀ n ∈ r,al n)/\bB bo:=by
 obtain⟨δ',e,gl,bo,mT,hg,gn,hpd',rfl⟩:=jn (g:=ae [1] 12) (b:=(cb 11 (aA (cx []) (ar (Ar GD))))) (λk δ=>∃ (gl:List Tx) (pd:D) (a_:Option S),gl.length=k/\(∀ r ∈ gl,r.length=w/\∀ n ∈ r,al n)/\bB pd/\δ=[pS ru,pO pd,pS (.str bq),pO (tD ts),pO (tD lf),pO (aD ps),o6,pO (.lst bl),o8,o9,dg,pO (.lst (gl.map .str)),a_,none,none]) (fl.map .str) 0 [pS ru,pO pd,pS (.str bq),pO (tD ts),pO (tD lf),pO (aD ps),o6,pO (.lst bl),o8,o9,dg,pO (.lst []),a_,none,none] ⟨[],pd,a_,rfl,Z5,hp,rfl⟩ (λi d δ hd ⟨gl,pd,a_,hg,gn,ie,e⟩=>by
  subst e;rw[Wj,WG] at hd;obtain⟨row,hrow,rfl⟩:=hd;have hi:=(W6.mp hrow).1;have hr:=hf row (Wq hrow);obtain⟨x,bo,e,hx,hxa,hpd'⟩:=Xt (ru:=ru) (lf:=lf) hD gO ie row hr.2 Y' o6 bl o8 o9 dg (pO (.lst (gl.map .str))) (pS (.str row));have hz:(gl.map D.str).length < Wa:=by rw[cm]; simp; lia
  have ej:=EK x Y';refine⟨_,[pS ru,pO bo,pS (.str bq),pO (tD ts),pO (tD lf),pO (aD ps),o6,pO (.lst bl),o8,o9,dg,pO (.lst ((gl ++ [x]).map .str)),pS (.str row),none,none],rfl,?_,⟨gl ++ [x],bo,_,#v[hg],?_,hpd',rfl⟩⟩
  ·rw[WR,List.map_singleton];generalize gl.map D.str=gd at e hz ⊢;generalize aD ps=dd at e ⊢;generalize tD ts=td at e ⊢;generalize tD lf=tl at e ⊢;simp[cb,fX,df,aa,bN,bz];rw[e];simp[ej,cS,putL,hz]
  ·intro r ic;rcases Qs.mp ic with ic | ic
   ·exact gn r ic
   ·simp at ic; subst ic; exact⟨Y',hxa⟩)
 exact⟨gl,bo,mT,e,~~~hg,gn,hpd'⟩
theorem Ia(gO:∀ n ∈ ts,al n/\∃ v,dq ps n=some v/\al v)(hp:bB pd)(fl:List Tx)(w:Nat)(hw:w<=64)(j5:fl.length<=64)(hf:∀ r ∈ fl,r.length=w/\∀ n ∈ r,n ∈ ts)(t:Nat)(o6:Option S)(bl:List D)(kG:bl.length<=1000)(o8:Option S)(dg a_:Option S)(dQ:Option S) :
  ∃ (gl:List Tx) (bo:D) (mT Xv:Option S),(aq (au (cG aJ) (ae [1] 11)) (aq (bG (aG (aa 9)) (ae [1] 12) (cb 11 (aA (cx []) (ar (Ar GD))))) (cb 7 (ba (ax (aa 10) (ax (aA bT (ag 11)) aJ)))))) [pS ru,pO pd,pS (.str bq),pO (tD ts),pO (tD lf),pO (aD ps),o6,pO (.lst bl),o8,pS (bS fl),pS (.str [t]),dQ,a_,none,none] = .ok .next [pS ru,pO bo,pS (.str bq),pO (tD ts),pO (tD lf),pO (aD ps),o6,pO (.lst (bl ++ [aN (t,gl)])),o8,pS (bS fl),pS (.str [t]),Xv,mT,none,none]/\gl.length=fl.length/\(∀ r ∈ gl,r.length=w/\∀ n ∈ r,al n)/\bB bo:=by
 obtain⟨gl,bo,mT,e,h1,h2,h3⟩:=Xu (ru:=ru) (lf:=lf) hD gO hp fl w hw j5 hf o6 bl o8 (pS (bS fl)) (pS (.str [t])) a_;have hz:bl.length < Wa:=by rw[cm]; lia
 refine⟨gl,bo,mT,pO (.lst (gl.map .str)),?_,h1,h2,h3⟩;refine jA (δ1:=[pS ru,pO pd,pS (.str bq),pO (tD ts),pO (tD lf),pO (aD ps),o6,pO (.lst bl),o8,pS (bS fl),pS (.str [t]),pO (.lst []),a_,none,none]) #v[au] ?_;refine jA (δ1:=[pS ru,pO bo,pS (.str bq),pO (tD ts),pO (tD lf),pO (aD ps),o6,pO (.lst bl),o8,pS (bS fl),pS (.str [t]),pO (.lst (gl.map .str)),mT,none,none]) (by
  rw[rL];simp only[df,aa,Q6,Q5,eS,pK];exact e) ?_
 generalize hg:gl.map D.str=gd,aD ps=dd,tD ts=td,tD lf=tl at *;simp[cb,fX,aa,ag,bT,putL,hz,hg]
end
abbrev Au:DE:=(cG (ax (aa 8) (ax (ah aL 5 (ag 8)) aJ)))
abbrev Ib:DS:=(cb 7 (ba (ax (aa 10) (ax (aA bT (ag 11)) aJ))))
theorem Ic:∀ bl:List (Nat×List Tx),my (bl.map aN)=some (bl.map λb=>[b.1])
 | []=>rfl
 | b :: r=>#v[my,Ic r]
theorem Ie:∀ {ks:List Tx},ks.Nodup->pJ ks=true
 | [],_=>rfl
 | x :: r,h=>by
  rw[WN] at h;simp[pJ,h.1,Ie h.2]
theorem Xw(bl:List (Nat×List Tx))(nd:(bl.map (·.1)).Nodup)(h2:2<=bl.length)(pI:bl.length < 64):∃ bl':List (Nat×List Tx),bl'.Perm bl/\k_ (.lst (bl.map aN))=pO (.lst (bl'.map aN)):=by
 have nk:(bl.map λb=>([b.1]:Tx)).Nodup:=by
  have e:(bl.map λb=>([b.1]:Tx))=(bl.map (·.1)).map λn=>[n]:=by simp
  rw[e];exact List.Pairwise.map _ (λa b h z=>h (~~~z)) nd
 have hp:=vd (ks:=bl.map λb=>([b.1]:Tx)) (~~~h2);rw[Wn] at hp;refine⟨(fZ (bl.map λb=>([b.1]:Tx))).map λi=>bl.getD i (0,[]),?_,?_⟩
 ·refine(hp.map _).trans (List.Perm.of_eq ?_);apply Us
  ·simp
  ·intro i h1 h2;simp at h1;simp[h1]
 ·unfold k_;simp only[Ic];rw[if_pos ⟨~~~h2,~~~pI,Ie nk⟩];congr 3
  rw[Ww];refine Qf λi hi=>?_
  have:=hp.mem_iff.mp hi;simp at this;simp[this]
def gY(ps:List (Nat×Nat))(t:Nat):Nat:=(dq ps t).getD 0
section
variable (hD:∀ (d:D) (m:Nat),bB d->0 < m->m < 1073741824->∃ (r:Nat) (d':D),GD [.own d,.pure (.int m)]=some (.pure (.int r),[.own d',.pure (.int m)])/\r < m/\bB d')
include hD
theorem Xx(h1:h<=64)(w1:w<=64)(bs:List (Nat×List Tx))(cg:∀ b ∈ bs,b.1 ∈ ts)(hn:bs.length<=100)(hb:∀ b ∈ bs,b.2.length=h/\∀ r ∈ b.2,r.length=w/\∀ n ∈ r,n ∈ ts)
  (gO:∀ n ∈ ts,al n/\∃ v,dq ps n=some v/\al v) (hp:bB pd) (o6:Option S) :
  ∃ (bl:List (Nat×List Tx)) (bo:D) (o8 o9 dg dQ a_:Option S),forL (bX 2 (aW (ae [1] 8) (aW (ae [1] 9) ck))) (bG (aG Au) (ae [1] 10) (aq (au (cG aJ) (ae [1] 11)) (aq (bG (aG (aa 9)) (ae [1] 12) (cb 11 (aA (cx []) (ar (bE [14] (aG (aa 12)) (ae [1] 14) aZ (aH aw (cG (ax (aa 14) (ax (ah aL 5 (ag 14)) aJ))) (ar (aE GD [.io 1,.val (eD (.int 2))])))))))) Ib))) (bs.map aN) [pS ru,pO pd,pS (.str bq),pO (tD ts),pO (tD lf),pO (aD ps),o6,pO (.lst []),none,none,none,none,none,none,none] = .ok .next [pS ru,pO bo,pS (.str bq),pO (tD ts),pO (tD lf),pO (aD ps),o6,pO (.lst (bl.map aN)),o8,o9,dg,dQ,a_,none,none] /\
   bl.map (·.1)=(bs.map (·.1)).flatMap (λt=>[t,gY ps t])/\(∀ b ∈ bl,b.2.length=h/\∀ r ∈ b.2,r.length=w/\∀ n ∈ r,al n)/\bB bo:=by
 obtain⟨δ',e,bl,bo,o8,o9,dg,dQ,a_,q1,q2,q3,q4,rfl⟩:=jn (g:=(bX 2 (aW (ae [1] 8) (aW (ae [1] 9) ck)))) (b:=(bG (aG Au) (ae [1] 10) (aq (au (cG aJ) (ae [1] 11)) (aq (bG (aG (aa 9)) (ae [1] 12) (cb 11 (aA (cx []) (ar (bE [14] (aG (aa 12)) (ae [1] 14) aZ (aH aw (cG (ax (aa 14) (ax (ah aL 5 (ag 14)) aJ))) (ar (aE GD [.io 1,.val (eD (.int 2))])))))))) Ib))))
  (λk δ=>∃ (bl:List (Nat×List Tx)) (pd:D) (o8 o9 dg dQ a_:Option S),bl.map (·.1)=((bs.take k).map (·.1)).flatMap (λt=>[t,gY ps t])/\(∀ b ∈ bl,b.2.length=h/\∀ r ∈ b.2,r.length=w/\∀ n ∈ r,al n)/\bB pd/\bl.length=2 * k/\δ=[pS ru,pO pd,pS (.str bq),pO (tD ts),pO (tD lf),pO (aD ps),o6,pO (.lst (bl.map aN)),o8,o9,dg,dQ,a_,none,none])
  (bs.map aN) 0 [pS ru,pO pd,pS (.str bq),pO (tD ts),pO (tD lf),pO (aD ps),o6,pO (.lst []),none,none,none,none,none,none,none] ⟨[],pd,none,none,none,none,none,rfl,Z5,hp,rfl,rfl⟩ (λi d δ hd ⟨bl,pd,o8,o9,dg,dQ,a_,q1,q2,q3,q4,e⟩=>by
   subst e;rw[Wj,WG] at hd;obtain⟨b,hbi,rfl⟩:=hd;rw[WU] at q1 q4 ⊢;have hi:=(W6.mp hbi).1;have hm:=Wq hbi;obtain⟨hb1,hb2⟩:=hb b hm;obtain⟨_,v,hv,_⟩:=gO b.1 (cg b hm);have x5:=qi hv;have kG:bl.length<=200:=by lia
   obtain⟨g1,pd1,bO,p11,e1,a1,a2,a3⟩:=Ia (ru:=ru) (lf:=lf) hD gO q3 b.2 w w1 Y' hb2 b.1 o6 (bl.map aN) Z6 (pS (.str [b.1])) dg a_ dQ;obtain⟨g2,pd2,r12,r11,e2,c1,c2,c3⟩:=Ia (ru:=ru) (lf:=lf) hD gO a3 b.2 w w1 Y' hb2 v o6 (bl.map aN ++ [aN (b.1,g1)]) Z6 (pS (.str [b.1])) (pS (.str [b.1])) bO p11;refine⟨[pS ru,pO pd,pS (.str bq),pO (tD ts),pO (tD lf),pO (aD ps),o6,pO (.lst (bl.map aN)),pS (.str [b.1]),pS (bS b.2),dg,dQ,a_,none,none],[pS ru,pO pd2,pS (.str bq),pO (tD ts),pO (tD lf),pO (aD ps),o6,pO (.lst ((bl ++ [(b.1,g1),(v,g2)]).map aN)),pS (.str [b.1]),pS (bS b.2),pS (.str [v]),r11,r12,none,none],rfl,?_,⟨bl ++ [(b.1,g1),(v,g2)],pd2,_,_,_,_,_,?_,?_,c3,by simp; lia,rfl⟩⟩
   ·have eE:(bl ++ [(b.1,g1),(v,g2)]).map aN=bl.map aN ++ [aN (b.1,g1)] ++ [aN (v,g2)]:=by simp
    rw[eE];rw[rL];have hit:aG Au [pS ru,pO pd,pS (.str bq),pO (tD ts),pO (tD lf),pO (aD ps),o6,pO (.lst (bl.map aN)),pS (.str [b.1]),pS (bS b.2),dg,dQ,a_,none,none] = .ok [.str [b.1],.str [v]] [pS ru,pO pd,pS (.str bq),pO (tD ts),pO (tD lf),pO (aD ps),o6,pO (.lst (bl.map aN)),pS (.str [b.1]),pS (bS b.2),dg,dQ,a_,none,none]:=by
     generalize aD ps=dd at x5 ⊢;generalize tD ts=td;generalize tD lf=tl;simp[df,aa,ah,aV,ag,x5]
    rw[hit];simp only[eS];conv=>lhs; unfold forL
    have Xy:ae [1] 10 (.pure (.str [b.1])) [pS ru,pO pd,pS (.str bq),pO (tD ts),pO (tD lf),pO (aD ps),o6,pO (.lst (bl.map aN)),pS (.str [b.1]),pS (bS b.2),dg,dQ,a_,none,none]=some [pS ru,pO pd,pS (.str bq),pO (tD ts),pO (tD lf),pO (aD ps),o6,pO (.lst (bl.map aN)),pS (.str [b.1]),pS (bS b.2),pS (.str [b.1]),dQ,a_,none,none]:=rfl;rw[Xy];simp only[e1,eS];conv=>lhs; unfold forL
    have Xz:ae [1] 10 (.pure (.str [v])) [pS ru,pO pd1,pS (.str bq),pO (tD ts),pO (tD lf),pO (aD ps),o6,pO (.lst (bl.map aN ++ [aN (b.1,g1)])),pS (.str [b.1]),pS (bS b.2),pS (.str [b.1]),p11,bO,none,none]=some [pS ru,pO pd1,pS (.str bq),pO (tD ts),pO (tD lf),pO (aD ps),o6,pO (.lst (bl.map aN ++ [aN (b.1,g1)])),pS (.str [b.1]),pS (bS b.2),pS (.str [v]),p11,bO,none,none]:=rfl;rw[Xz];simp only[e2,eS];rfl
   ·rw[Qx,hbi];simp[q1,gY,hv]
   ·intro c hc;rcases Qs.mp hc with hc | hc
    ·exact q2 c hc
    ·simp at hc;rcases hc with rfl | rfl
     ·exact⟨#v[a1,hb1],a2⟩
     ·exact⟨#v[c1,hb1],c2⟩)
 rw[WU,Wn,QU] at q1;exact⟨bl,bo,o8,o9,dg,dQ,a_,e,q1,q2,q3⟩
end
theorem XA(ru pd:D)(ts lf:List Nat)(nd:ts.Nodup)(hn:ts.length<=100)(hl:ts.length<=lf.length):∃ (ps:List (Nat×Nat)) (o6:Option S),forL (ae [1] 6) (de 5 (ah aw 3 (ag 6)) (ah aw 4 (ag 6))) (dA 0 ts.length) [pS ru,pO pd,pS (.str bq),pO (tD ts),pO (tD lf),pO (aD []),none,none,none,none,none,none,none,none,none] = .ok .next [pS ru,pO pd,pS (.str bq),pO (tD ts),pO (tD lf),pO (aD ps),o6,none,none,none,none,none,none,none,none]/\∀ j,j < ts.length->dq ps (ts.getD j 0)=some (lf.getD j 0):=by
 obtain⟨δ',e,ps,o6,q1,q2,rfl⟩:=jn (g:=ae [1] 6) (b:=(de 5 (ah aw 3 (ag 6)) (ah aw 4 (ag 6)))) (λk δ=>∃ (ps:List (Nat×Nat)) (o6:Option S),ps.length<=k/\(∀ j,j < k->dq ps (ts.getD j 0)=some (lf.getD j 0))/\δ=[pS ru,pO pd,pS (.str bq),pO (tD ts),pO (tD lf),pO (aD ps),o6,none,none,none,none,none,none,none,none]) (dA 0 ts.length) 0 [pS ru,pO pd,pS (.str bq),pO (tD ts),pO (tD lf),pO (aD []),none,none,none,none,none,none,none,none,none] ⟨[],none,Z5,λj hj=>absurd hj (Nat.not_lt_zero _),rfl⟩ (λi d δ hd ⟨ps,o6,q1,q2,e⟩=>by
  subst e;obtain⟨hi,rfl⟩:=rM hd;rw[WU] at q1 q2 ⊢;have x3:=An ts i hi;have x4:=An lf i Y';refine⟨_,[pS ru,pO pd,pS (.str bq),pO (tD ts),pO (tD lf),pO (aD (ij ps (ts.getD i 0) (lf.getD i 0))),pS (.int i),none,none,none,none,none,none,none,none],rfl,?_,⟨ij ps (ts.getD i 0) (lf.getD i 0),_,by have:=Ao ps (ts.getD i 0) (lf.getD i 0); lia,λj hj=>?_,rfl⟩⟩
  ·refine(Ap (ps:=ps) (a:=ts.getD i 0) (b:=lf.getD i 0) (δ1:=[pS ru,pO pd,pS (.str bq),pO (tD ts),pO (tD lf),pO (aD ps),pS (.int i),none,none,none,none,none,none,none,none]) (δ2:=[pS ru,pO pd,pS (.str bq),pO (tD ts),pO (tD lf),pO (aD ps),pS (.int i),none,none,none,none,none,none,none,none]) ⟨ps,rfl⟩ ?_ ⟨ps,rfl⟩ ?_ rfl Y').trans rfl
   ·generalize aD ps=dd;generalize tD ts=td,tD lf=tl at *;simp only[Rz,ah,aV,ag,yA,List.set_cons_succ,List.set_cons_zero,Q6,Q5,eS,pK,yz,ve,x4]
   ·generalize aD ps=dd;generalize tD ts=td,tD lf=tl at *;simp only[ah,aV,ag,yA,List.set_cons_succ,List.set_cons_zero,Q6,Q5,eS,pK,yz,ve,x3]
  ·rw[vR];by_cases hji:j=i
   ·rw[hji,if_pos rfl]
   ·rw[if_neg ?_]
    ·exact q2 j Y'
    ·intro z;have h1:ts.getD j 0=ts[j]' Y':=#v[show j < ts.length by lia]
     have h2:ts.getD i 0=ts[i]'(hi):=#v[hi]
     rw[h1,h2] at z;exact hji ((Uq nd).mp z))
 rw[WU,EM] at q2;exact⟨ps,o6,e,q2⟩
abbrev Aw:DT:=(aF (aH (eR true) (aa 14) (ag 3)))
abbrev Ig(GD:DF):DS:=(aq (au (eD (.str gD)) (ae [1] 2)) (aq (au (bE [13] (aG (ah aw 0 (ar (eD (.int 2))))) (ae [1] 13) aZ (ah aw 13 (ar (eD (.int 0))))) (ae [1] 3)) (aq (au (bE [14] (aG (aa 2)) (ae [1] 14) Aw (aa 14)) (ae [1] 4)) (aq (au iT (ae [1] 5)) (aq (bG (cY (aA bw (ag 3))) (ae [1] 6) (de 5 (ah aw 3 (ag 6)) (ah aw 4 (ag 6)))) (aq (au (cG aJ) (ae [1] 7)) (aq (bG (aG (ah aw 0 (ar (eD (.int 2))))) (bX 2 (aW (ae [1] 8) (aW (ae [1] 9) ck))) (bG (aG (cG (ax (aa 8) (ax (ah aL 5 (ag 8)) aJ)))) (ae [1] 10) (aq (au (cG aJ) (ae [1] 11)) (aq (bG (aG (aa 9)) (ae [1] 12) (cb 11 (aA (cx []) (ar (bE [14] (aG (aa 12)) (ae [1] 14) aZ (aH aw (cG (ax (aa 14) (ax (ah aL 5 (ag 14)) aJ))) (ar (aE GD [.io 1,.val (eD (.int 2))])))))))) (cb 7 (ba (ax (aa 10) (ax (aA bT (ag 11)) aJ)))))))) (bU (ba (ax (ba (ax (ah aw 0 (ar (eD (.int 0)))) (ax (ah aw 0 (ar (eD (.int 1)))) (ax (aA bT (ar (aA k_ (ag 7)))) aJ)))) (ax (aa 5) aJ)))))))))))
def cW(ts:List Nat):List Nat:=bq.filter λn=>!ts.contains n
theorem Ih:∀ (ts:List Nat) (l:List Nat),l.Nodup->l.length<=(l.filter λn=>!ts.contains n).length + ts.length
 | [],l,_=>by rw[List.filter_eq_self.mpr (λa _=>by simp)]; simp
 | t :: r,l,h=>by
  have ih:=Ih r l h;have e:(l.filter λn=>!(t :: r).contains n)=(l.filter λn=>!r.contains n).filter λn=>n != t:=by
   rw[List.filter_filter];congr 1
   funext n
   rw[List.contains_cons]
   cases h1:n == t <;> cases h2:r.contains n <;> simp_all
  have nd:(l.filter λn=>!r.contains n).Nodup:=h.filter _;rw[e,<- nd.erase_eq_filter,List.length_erase,WS];split <;> lia
theorem Ii:bq.Nodup:=by decide
theorem XB(ts:List Nat):(cW ts).Nodup:=Ii.filter _
theorem Ax(h:n ∈ cW ts):n ∉ ts:=by
 unfold cW at h;rw[List.mem_filter] at h;simpa using h.2
theorem Ij(f:Nat->Nat):∀ ts:List Nat,(ts.flatMap λt=>[t,f t]).length=2 * ts.length
 | []=>rfl
 | t :: r=>by rw[JP,Qu,Ij f r]; simp; lia
theorem XD(GD:DF)(hD:∀ (d:D) (m:Nat),bB d->0 < m->m < 1073741824->∃ (r:Nat) (d':D),GD [.own d,.pure (.int m)]=some (.pure (.int r),[.own d',.pure (.int m)])/\r < m/\bB d')(R:bZ h w bs)(hn:bs.length<=5)(hp:bB pd):∃ (bH:List (Nat×List Tx)) (ps:List (Nat×Nat)) (bo:D),
  bR [1] 15 (Ig GD) [.pure (az h w bs),.own pd]=some (.pure (.tup [az h w bH,aD ps]),[.pure (az h w bs),.own bo])/\bZ h w bH/\bB bo /\
  (∀ t ∈ bs.map (·.1),t ∈ bH.map (·.1)/\∃ v,dq ps t=some v/\v ∈ bH.map (·.1))/\(∀ t ∈ bH.map (·.1),t ∈ bs.map (·.1)\/∃ u ∈ bs.map (·.1),dq ps u=some t):=by
 obtain⟨x0,x1,x2⟩:=oA h w bs;have h1:=R.h1;have w1:=R.w1;have n0:=R.n0;generalize cg:bs.map (·.1)=ts;have Ik:ts.length=bs.length:=by rw[<- cg]; simp
 have nd:ts.Nodup:=by rw[<- cg]; exact R.nd
 have XE:ts.length<=(cW ts).length:=by
  have:=Ih ts bq Ii;have e:bq.length=26:=by decide
  unfold cW;lia
 obtain⟨ps,o6,et,Ay⟩:=XA (az h w bs) pd ts (cW ts) nd Y' XE;have hv:∀ t ∈ ts,∃ j,j < ts.length/\t=ts.getD j 0/\dq ps t=some ((cW ts).getD j 0)/\(cW ts).getD j 0 ∈ cW ts:=λt ht=>by
  obtain⟨j,hj,e⟩:=U1 ht;have e':t=ts.getD j 0:=#v[hj,e]
  refine⟨j,hj,e',%[e'|Ay j hj],?_⟩;have:j < (cW ts).length:=by lia
  simp[this]
 have gO:∀ n ∈ ts,(n ∈ ts\/n ∈ ts.map (gY ps))/\∃ v,dq ps n=some v/\(v ∈ ts\/v ∈ ts.map (gY ps)):=λn hn=>by
  obtain⟨j,hj,e,l,m⟩:=hv n hn;refine⟨.inl hn,_,l,.inr (WA.mpr ⟨n,hn,?_⟩)⟩;unfold gY;rw[l];rfl
 obtain⟨bl,bo,o8,o9,dg,dQ,a_,eb,q1,q2,q3⟩:=Xx (ru:=az h w bs) (lf:=cW ts) (al:=λn=>n ∈ ts\/n ∈ ts.map (gY ps)) hD (h:=h) (w:=w) Y' Y' bs (λb hb=>by rw[<- cg]; exact WD hb) Y' (λb hb=>by rw[<- cg]; exact R.cU b hb) gO hp o6;rw[cg] at q1;have hlen:bl.length=2 * ts.length:=by
  have:=congrArg Qp q1;rw[Wn,Ij] at this;exact this
 have lE:(bl.map (·.1)).Nodup:=by
  rw[q1];refine List.pairwise_flatMap.mpr ⟨λt ht=>?_,?_⟩
  ·obtain⟨j,hj,e,l,m⟩:=hv t ht;have:t≠gY ps t:=λz=>by
    have et:gY ps t=(cW ts).getD j 0:=by unfold gY; rw[l]; rfl
    rw[et] at z;exact Ax m (by rw[<- z]; exact ht)
   simp[this]
  ·refine nd.imp_of_mem λ{t u} ht hu cw=>?_
   obtain⟨j,hj,e,l,m⟩:=hv t ht;obtain⟨k,hk,e',l',m'⟩:=hv u hu;have et:gY ps t=(cW ts).getD j 0:=by unfold gY; rw[l]; rfl
   have eu:gY ps u=(cW ts).getD k 0:=by unfold gY; rw[l']; rfl
   intro x hx y hy;simp at hx hy;rcases hx with rfl | rfl <;> rcases hy with rfl | rfl
   ·exact cw
   ·rw[eu]; exactλz=>Ax m' (by rw[<- z]; exact ht)
   ·rw[et]; exactλz=>Ax m %[z|hu]
   ·rw[et,eu];intro z;have XF:j≠k:=λw=>cw (by rw[e,e',w])
    have z1:(cW ts).getD j 0=(cW ts)[j]' Y':=#v[show j < (cW ts).length by lia]
    have z2:(cW ts).getD k 0=(cW ts)[k]' Y':=#v[show k < (cW ts).length by lia]
    rw[z1,z2] at z;exact XF ((Uq (XB ts)).mp z)
 obtain⟨bH,hperm,es⟩:=Xw bl lE Y' Y';have lx:∀ n,n ∈ bH.map (·.1) ↔ n ∈ ts\/n ∈ ts.map (gY ps):=λn=>by
  rw[(hperm.map (·.1)).mem_iff,q1,List.mem_flatMap];constructor
  ·rintro ⟨t,ht,hx⟩;simp at hx;rcases hx with rfl | rfl
   ·exact .inl ht
   ·exact .inr (WD ht)
  ·rintro (hh | hh)
   ·exact⟨n,hh,Z5⟩
   ·obtain⟨t,ht,rfl⟩:=WA.mp hh;exact⟨t,ht,Z5⟩
 have kG:=hperm.length_eq;refine⟨bH,ps,bo,?_,⟨R.h0,R.h1,R.w0,R.w1,Y',Y',(hperm.map (·.1)).nodup_iff.mpr lE,λb hb=>?_⟩,q3,λt ht=>?_,λt ht=>?_⟩
 ·have e3:=jq (cs:=[13]) (g:=ae [1] 13) (t:=aZ) (el:=(ah aw 13 (ar (eD (.int 0))))) aN (λb:Nat×List Tx=>D.str [b.1]) [pS (az h w bs),pO pd,pS (.str bq),none,none,none,none,none,none,none,none,none,none,none,none] bs [] (by rw[cm]; simp; lia) (λb hb=>⟨_,_,.pure (.str [b.1]),[pS (az h w bs),pO pd,pS (.str bq),none,none,none,none,none,none,none,none,none,none,pS (aN b),none],rfl,rfl,by
   generalize az h w bs=ru at *;simp[ah,aV,ag,aw,jm],rfl,rfl⟩)
  have eT:(bs.map λb:Nat×List Tx=>D.str [b.1])=ts.map λn=>D.str [n]:=by rw[<- cg]; simp
  rw[WQ,eT] at e3;have e4:=vQ (cs:=[14]) (g:=ae [1] 14) (t:=Aw) (el:=aa 14) (λn:Nat=>D.str [n]) (λn:Nat=>D.str [n]) (λn=>!ts.contains n) [pS (az h w bs),pO pd,pS (.str bq),pO (tD ts),none,none,none,none,none,none,none,none,none,none,none] bq [] (by rw[cm]; decide) (λn _=>⟨_,[pS (az h w bs),pO pd,pS (.str bq),pO (tD ts),none,none,none,none,none,none,none,none,none,none,pS (.str [n])],.pure (.str [n]),[pS (az h w bs),pO pd,pS (.str bq),pO (tD ts),none,none,none,none,none,none,none,none,none,none,pS (.str [n])],rfl,by
   have hi:eR true (.str [n]) (tD ts)=pS (.bl (!ts.contains n)):=Xn ts n;generalize az h w bs=ru,tD ts=tl,bq=lt at *;simp[aF,aa,ag,hi],rfl,#v[aa],rfl,rfl⟩)
  rw[WQ] at e4;have e4:cT [14] (ae [1] 14) Aw (aa 14) (bq.map λn=>D.str [n]) [pS (az h w bs),pO pd,pS (.str bq),pO (tD ts),none,none,none,none,none,none,none,none,none,none,none] [] = .ok ((cW ts).map λn=>D.str [n]) [pS (az h w bs),pO pd,pS (.str bq),pO (tD ts),none,none,none,none,none,none,none,none,none,none,none]:=e4;have bu:=HZ ts;rw[mR];have XG:bV 15 [S.pure (az h w bs),.own pd]=[pS (az h w bs),pO pd,none,none,none,none,none,none,none,none,none,none,none,none,none]:=rfl;have run:(Ig GD) [pS (az h w bs),pO pd,none,none,none,none,none,none,none,none,none,none,none,none,none] = .ok (.ret (.pure (.tup [az h w bH,aD ps]))) [pS (az h w bs),pO bo,pS (.str bq),pO (tD ts),pO (tD (cW ts)),pS (aD ps),o6,pO (.lst (bl.map aN)),o8,o9,dg,dQ,a_,none,none]:=by
   refine jA (δ1:=[pS (az h w bs),pO pd,pS (.str bq),none,none,none,none,none,none,none,none,none,none,none,none]) rfl ?_;refine jA (δ1:=[pS (az h w bs),pO pd,pS (.str bq),pO (tD ts),none,none,none,none,none,none,none,none,none,none,none]) (by
    generalize hru:az h w bs=ru,bq=lt at *;simp[au,df,ah,aV,ag,x2,bN,bz];rw[e3];simp[cS,tD]) ?_
   refine jA (δ1:=[pS (az h w bs),pO pd,pS (.str bq),pO (tD ts),pO (tD (cW ts)),none,none,none,none,none,none,none,none,none,none]) (by
    generalize hru:az h w bs=ru,htd:tD ts=td,bq=lt at *;simp[au,df,aa,bN,bz];rw[e4];simp[cS,tD]) ?_
   refine jA (δ1:=[pS (az h w bs),pO pd,pS (.str bq),pO (tD ts),pO (tD (cW ts)),pO (aD []),none,none,none,none,none,none,none,none,none]) #v[au,iT] ?_;refine jA (δ1:=[pS (az h w bs),pO pd,pS (.str bq),pO (tD ts),pO (tD (cW ts)),pO (aD ps),o6,none,none,none,none,none,none,none,none]) (by
    have hit:cY (aA bw (ag 3)) [pS (az h w bs),pO pd,pS (.str bq),pO (tD ts),pO (tD (cW ts)),pO (aD []),none,none,none,none,none,none,none,none,none] = .ok (dA 0 ts.length) [pS (az h w bs),pO pd,pS (.str bq),pO (tD ts),pO (tD (cW ts)),pO (aD []),none,none,none,none,none,none,none,none,none]:=by
     generalize hru:az h w bs=ru,tD ts=td,tD (cW ts)=tl,bq=lt at *;simp[ag,bu,nX ts.length (by lia:ts.length<=1000000)]
    rw[rL,hit];exact et) ?_
   refine jA (δ1:=[pS (az h w bs),pO pd,pS (.str bq),pO (tD ts),pO (tD (cW ts)),pO (aD ps),o6,pO (.lst []),none,none,none,none,none,none,none]) #v[au] ?_;refine jA (δ1:=[pS (az h w bs),pO bo,pS (.str bq),pO (tD ts),pO (tD (cW ts)),pO (aD ps),o6,pO (.lst (bl.map aN)),o8,o9,dg,dQ,a_,none,none]) (by
    have hit:aG (ah aw 0 (ar (eD (.int 2)))) [pS (az h w bs),pO pd,pS (.str bq),pO (tD ts),pO (tD (cW ts)),pO (aD ps),o6,pO (.lst []),none,none,none,none,none,none,none] = .ok (bs.map aN) [pS (az h w bs),pO pd,pS (.str bq),pO (tD ts),pO (tD (cW ts)),pO (aD ps),o6,pO (.lst []),none,none,none,none,none,none,none]:=by
     generalize hru:az h w bs=ru,tD ts=td,tD (cW ts)=tl,bq=lt,aD ps=dd at *;simp[df,ah,aV,ag,x2]
    rw[rL,hit];exact eb) ?_
   generalize hb2:bH.map aN=bx,bl.map aN=by',hru:az h w bs=ru,tD ts=td,tD (cW ts)=tl,bq=lt,lR:aD ps=dd at *;simp[ah,aV,ag,x0,x1,es,bT,aa,hb2]
  rw[XG,run];simp[cy,cH,cf]
 ·have:=q2 b (hperm.mem_iff.mp hb);exact⟨this.1,λr hr=>⟨(this.2 r hr).1,λn hn=>(lx n).mpr ((this.2 r hr).2 n hn)⟩⟩
 ·obtain⟨_,v,l,m⟩:=gO t ht;exact⟨(lx t).mpr (.inl ht),v,l,(lx v).mpr m⟩
 ·rcases (lx t).mp ht with hh | hh
  ·exact .inl hh
  ·obtain⟨u,hu,rfl⟩:=WA.mp hh;obtain⟨j,hj,e,l,m⟩:=hv u hu;exact .inr ⟨u,hu,by unfold gY; rw[l]; rfl⟩
theorem XH(R:bZ h w bs)(hn:bs.length<=5)(hp:bB pd):∃ (bH:List (Nat×List Tx)) (ps:List (Nat×Nat)) (bo:D),
  sr [.pure (az h w bs),.own pd]=some (.pure (.tup [az h w bH,aD ps]),[.pure (az h w bs),.own bo])/\bZ h w bH/\bB bo /\
  (∀ t ∈ bs.map (·.1),t ∈ bH.map (·.1)/\∃ v,dq ps t=some v/\v ∈ bH.map (·.1))/\(∀ t ∈ bH.map (·.1),t ∈ bs.map (·.1)\/∃ u ∈ bs.map (·.1),dq ps u=some t):=by
 rw[sr,G4];exact XD dS (λd m hp a b=>qh hp m a b) R hn hp
abbrev du(ps:List (Nat×Nat)):D:=.tup (ps.map λp=>.tup [.str [p.1],.str [p.2]])
def iZ(ps:List (Nat×Nat))(ts:List Nat):Prop:=∀ t ∈ ts,∃ v,dq ps t=some v
theorem Il(h:iZ ps ts)(a b:Nat):iZ (ij ps a b) ts:=λt ht=>by
 rw[vR];split
 ·exact⟨_,rfl⟩
 ·exact h t ht
theorem XI(ps:List (Nat×Nat))(a b:Nat):∃ v,dq (ij ps a b) a=some v:=⟨b,by rw[vR,if_pos rfl]⟩
theorem XJ:∀ r:Nat,r < 3->∃ v:Nat,aw (.str [120,121,122]) (.int r)=pS (.str [v]):=by
 intro r hr;have:r=0\/r=1\/r=2:=by lia
 rcases this with rfl | rfl | rfl
 ·exact⟨120,rfl⟩
 ·exact⟨121,rfl⟩
 ·exact⟨122,rfl⟩
section
variable (hD:∀ (d:D) (m:Nat),bB d->0 < m->m < 1073741824->∃ (r:Nat) (d':D),GD [.own d,.pure (.int m)]=some (.pure (.int r),[.own d',.pure (.int m)])/\r < m/\bB d')
include hD
theorem signs(ru:D)(ts:List Nat)(hn:ts.length<=100)(k:Nat)(hk:k < 3)(hp:bB pd):∃ (ps:List (Nat×Nat)) (bo:D) (o6:Option S),forL (ae [0] 6) (de 4 (aa 6) (aH aw (eD (.str [120,121,122])) (ar (aE GD [.io 0,.val (aa 5)])))) (ts.map λn=>D.str [n]) [pO pd,pS (.int 5),pS ru,pS (tD ts),pO (aD []),pS (.int (1 + (k:Int))),none,none,none,none,none] = .ok .next [pO bo,pS (.int 5),pS ru,pS (tD ts),pO (aD ps),pS (.int (1 + (k:Int))),o6,none,none,none,none]/\iZ ps ts/\ps.length<=ts.length/\bB bo:=by
 obtain⟨δ',e,ps,bo,o6,q1,q2,q3,rfl⟩:=jn (g:=ae [0] 6) (b:=(de 4 (aa 6) (aH aw (eD (.str [120,121,122])) (ar (aE GD [.io 0,.val (aa 5)]))))) (λk' δ=>∃ (ps:List (Nat×Nat)) (pd:D) (o6:Option S),ps.length<=k'/\iZ ps (ts.take k')/\bB pd/\δ=[pO pd,pS (.int 5),pS ru,pS (tD ts),pO (aD ps),pS (.int (1 + (k:Int))),o6,none,none,none,none]) (ts.map λn=>D.str [n]) 0 [pO pd,pS (.int 5),pS ru,pS (tD ts),pO (aD []),pS (.int (1 + (k:Int))),none,none,none,none,none] ⟨[],pd,none,Z5,λt ht=>by simp at ht,hp,rfl⟩ (λi d δ hd ⟨ps,pd,o6,q1,q2,q3,e⟩=>by
  subst e;rw[Wj,WG] at hd;obtain⟨n,jZ,rfl⟩:=hd;rw[WU] at q1 q2 ⊢;have hi:=(W6.mp jZ).1;obtain⟨r,d',e,l,p⟩:∃ (r:Nat) (d':D),GD [.own pd,.pure (.int (1 + (k:Int)))]=some (.pure (.int r),[.own d',.pure (.int (1 + (k:Int)))])/\r < 1 + k/\bB d':=by
   have:=hD pd (1 + k) q3 Y' Y';rwa [show(((1 + k:Nat):Int))=1 + (k:Int) by lia] at this
  obtain⟨v,hv⟩:=XJ r Y';refine⟨_,[pO d',pS (.int 5),pS ru,pS (tD ts),pO (aD (ij ps n v)),pS (.int (1 + (k:Int))),pS (.str [n]),none,none,none,none],rfl,?_,⟨ij ps n v,d',_,by have:=Ao ps n v; lia,λt ht=>?_,p,rfl⟩⟩
  ·refine(Ap (ps:=ps) (a:=n) (b:=v) (δ1:=[pO d',pS (.int 5),pS ru,pS (tD ts),pO (aD ps),pS (.int (1 + (k:Int))),pS (.str [n]),none,none,none,none]) (δ2:=[pO d',pS (.int 5),pS ru,pS (tD ts),pO (aD ps),pS (.int (1 + (k:Int))),pS (.str [n]),none,none,none,none]) ⟨ps,rfl⟩ ?_ ⟨ps,rfl⟩ ?_ rfl Y').trans rfl
   ·generalize aD ps=dd;generalize tD ts=td;simp[aE,bF,cz,bN,bY,aa,bJ,e,bc,hv]
   ·rfl
  ·rw[Qx,jZ] at ht;simp at ht;rcases ht with ht | rfl
   ·exact Il q2 n v t ht
   ·exact XI ps t v)
 rw[WU,Wn] at q1 q2;rw[QU] at q2;exact⟨ps,bo,o6,e,q2,q1,q3⟩
end
theorem XM(ru pd:D)(ts:List Nat)(hn:ts.length<=100)(tw:List (Nat×Nat))(Ay:iZ tw ts)(ps:List (Nat×Nat))(jN:iZ ps ts)(cB:ps.length<=100)(o5 o6 o7 o8:Option S):∃ (qs:List (Nat×Nat)) (cu:Option S),forL (ae [0] 6) (de 4 (ah aL 9 (ag 6)) (ah aL 4 (ag 6))) (ts.map λn=>D.str [n]) [pO pd,pS (.int 5),pS ru,pS (tD ts),pO (aD ps),o5,o6,o7,o8,pS (aD tw),none] = .ok .next [pO pd,pS (.int 5),pS ru,pS (tD ts),pO (aD qs),o5,cu,o7,o8,pS (aD tw),none]/\iZ qs ts/\(∀ t ∈ ts,∀ u,dq tw t=some u->∃ v,dq qs u=some v)/\qs.length<=200:=by
 obtain⟨δ',e,qs,cu,q1,q2,q3,rfl⟩:=jn (g:=ae [0] 6) (b:=(de 4 (ah aL 9 (ag 6)) (ah aL 4 (ag 6)))) (λk' δ=>∃ (qs:List (Nat×Nat)) (o6:Option S),qs.length<=100 + k'/\iZ qs ts/\(∀ t ∈ ts.take k',∀ u,dq tw t=some u->∃ v,dq qs u=some v)/\δ=[pO pd,pS (.int 5),pS ru,pS (tD ts),pO (aD qs),o5,o6,o7,o8,pS (aD tw),none]) (ts.map λn=>D.str [n]) 0 [pO pd,pS (.int 5),pS ru,pS (tD ts),pO (aD ps),o5,o6,o7,o8,pS (aD tw),none] ⟨ps,o6,Y',jN,λt ht=>by simp at ht,rfl⟩ (λi d δ hd ⟨qs,o6,q1,q2,q3,e⟩=>by
  subst e;rw[Wj,WG] at hd;obtain⟨n,jZ,rfl⟩:=hd;rw[WU] at q1 q3 ⊢;have hi:=(W6.mp jZ).1;have hm:=Wq jZ;obtain⟨u,hu⟩:=Ay n hm;obtain⟨v,hv⟩:=q2 n hm;have g1:=qi hu;have g2:=qi hv;refine⟨_,[pO pd,pS (.int 5),pS ru,pS (tD ts),pO (aD (ij qs u v)),o5,pS (.str [n]),o7,o8,pS (aD tw),none],rfl,?_,⟨ij qs u v,_,by have:=Ao qs u v; lia,Il q2 u v,λt ht x hx=>?_,rfl⟩⟩
  ·refine(Ap (ps:=qs) (a:=u) (b:=v) (δ1:=[pO pd,pS (.int 5),pS ru,pS (tD ts),pO (aD qs),o5,pS (.str [n]),o7,o8,pS (aD tw),none]) (δ2:=[pO pd,pS (.int 5),pS ru,pS (tD ts),pO (aD qs),o5,pS (.str [n]),o7,o8,pS (aD tw),none]) ⟨qs,rfl⟩ ?_ ⟨qs,rfl⟩ ?_ rfl Y').trans rfl
   ·generalize aD qs=dd at g2 ⊢;generalize aD tw=dt at g1 ⊢;generalize tD ts=td;simp[ah,aV,ag,g2]
   ·generalize aD qs=dd at g2 ⊢;generalize aD tw=dt at g1 ⊢;generalize tD ts=td;simp[ah,aV,ag,g1]
  ·rw[Qx,jZ] at ht;simp at ht;rw[vR];rcases ht with ht | rfl
   ·split
    ·exact⟨_,rfl⟩
    ·exact q3 t ht x hx
   ·rw[hu] at hx; cases hx; exact⟨v,by rw[if_pos rfl]⟩)
 rw[WU,Wn] at q1 q3;rw[QU] at q3;exact⟨qs,cu,e,q2,q3,Y'⟩
abbrev vU:DE:=(bE [10] (aG (ah aw 2 (ar (eD (.int 2))))) (ae [0] 10) aZ (ah aw 10 (ar (eD (.int 0)))))
theorem Im(hn:bs.length<=52)(pd:D)(o3:Option S)(s4:Option S)(o5 o6 o7 o8 o9:Option S):vU [pO pd,pS (.int 5),pS (az h w bs),o3,s4,o5,o6,o7,o8,o9,none] = .ok (.own (tD (bs.map (·.1)))) [pO pd,pS (.int 5),pS (az h w bs),o3,s4,o5,o6,o7,o8,o9,none]:=by
 have x2:=(oA h w bs).2.2;have e:=jq (cs:=[10]) (g:=ae [0] 10) (t:=aZ) (el:=(ah aw 10 (ar (eD (.int 0))))) aN (λb:Nat×List Tx=>D.str [b.1]) [pO pd,pS (.int 5),pS (az h w bs),o3,s4,o5,o6,o7,o8,o9,none] bs [] (by rw[cm]; simp; lia) (λb hb=>⟨_,_,.pure (.str [b.1]),[pO pd,pS (.int 5),pS (az h w bs),o3,s4,o5,o6,o7,o8,o9,pS (aN b)],rfl,rfl,by
  generalize az h w bs=ru at *;simp[ah,aV,ag,aw,jm],rfl,rfl⟩)
 have eT:(bs.map λb:Nat×List Tx=>D.str [b.1])=(bs.map (·.1)).map λn=>D.str [n]:=by simp
 rw[WQ,eT] at e;generalize hru:az h w bs=ru at *;simp[df,ah,aV,ag,x2,bN,bz];rw[e];simp[cS,tD]
theorem XN(ts:List Nat)(n:Nat)(h:n ∈ ts)(hl:ts.length<=1000):nW (tD ts) (.str [n])=pS (.int ((ts.map λn=>([n]:Tx)).idxOf [n]:Nat)):=by
 have e:(ts.map λn=>D.str [n])=(ts.map λn=>[n]).map D.str:=by simp
 unfold nW tD;simp only[e,pL];rw[if_pos ⟨WD (f:=λn=>([n]:Tx)) h,~~~hl⟩]
theorem mid(hD:∀ (d:D) (m:Nat),bB d->0 < m->m < 1073741824->∃ (r:Nat) (d':D),GD [.own d,.pure (.int m)]=some (.pure (.int r),[.own d',.pure (.int m)])/\r < m/\bB d')
  (hS:∀ {h w:Nat} {bs:List (Nat×List Tx)},bZ h w bs->∀ {k:Nat},k < bs.length->GS [.pure (az h w bs),.pure (.int k)]=some (.pure (az h w (iH bs k)),[.pure (az h w bs),.pure (.int k)]))
  (hU:∀ {h w:Nat} {bs:List (Nat×List Tx)},bZ h w bs->bs.length<=5->∀ {pd:D},bB pd->∃ (bH:List (Nat×List Tx)) (ps:List (Nat×Nat)) (bo:D),GU [.pure (az h w bs),.own pd]=some (.pure (.tup [az h w bH,aD ps]),[.pure (az h w bs),.own bo])/\bZ h w bH/\bB bo /\
   (∀ t ∈ bs.map (·.1),t ∈ bH.map (·.1)/\∃ v,dq ps t=some v/\v ∈ bH.map (·.1))/\(∀ t ∈ bH.map (·.1),t ∈ bs.map (·.1)\/∃ u ∈ bs.map (·.1),dq ps u=some t))
  (R:bZ h w bs) (hn:bs.length<=5) (hp:bB pd) (ps:List (Nat×Nat)) (hc:iZ ps (bs.map (·.1))) (cB:ps.length<=100) (st:Nat) (c9:st ∈ bs.map (·.1)) (o5 o6 o7:Option S) :
  ∃ (bH:List (Nat×List Tx)) (qs:List (Nat×Nat)) (bo:D) (cF:Nat) (cu oC:Option S),(cN (aF (aH cq (aE GD [.io 0,.val (eD (.int 2))]) (ar (eD (.int 0))))) (aq (au (aE GU [.val (aa 2),.io 0]) (bX 2 (aW (ae [0] 2) (aW (ae [0] 9) ck)))) (aq (bG (aG (aa 3)) (ae [0] 6) (de 4 (ah aL 9 (ag 6)) (ah aL 4 (ag 6)))) (aq (au (aH aw (cG (ax (aa 8) (ax (ah aL 9 (ag 8)) aJ))) (ar (aE GD [.io 0,.val (eD (.int 2))]))) (ae [0] 8)) (au (aE GS [.val (aa 2),.val (mx vU (aa 8))]) (ae [0] 2))))) cR) [pO pd,pS (.int 5),pS (az h w bs),pS (tD (bs.map (·.1))),pO (aD ps),o5,o6,o7,pS (.str [st]),none,none] = .ok .next [pO bo,pS (.int 5),pS (az h w bH),pS (tD (bs.map (·.1))),pO (aD qs),o5,cu,o7,pS (.str [cF]),oC,none]/\bZ h w bH/\iZ qs (bH.map (·.1))/\bB bo/\cF ∈ bH.map (·.1):=by
 obtain⟨r,d1,e1,hr,p1⟩:=As hD hp;generalize cg:bs.map (·.1)=ts at *;have Ik:ts.length=bs.length:=by rw[<- cg]; simp
 rcases hr with rfl | rfl
 ·obtain⟨bH,tw,d2,e2,R',p2,h1,h2⟩:=hU R hn p1;rw[cg] at h1 h2;have XO:iZ tw ts:=λt ht=>let ⟨_,v,hv,_⟩:=h1 t ht; ⟨v,hv⟩
  obtain⟨qs,cu,e3,c1,c2,ql⟩:=XM (az h w bH) d2 ts Y' tw XO ps hc cB o5 o6 o7 (pS (.str [st]));obtain⟨r2,d3,e4,zh,p3⟩:=As hD p2;obtain⟨r8,v,hv,lZ⟩:=h1 st c9;have Az:iZ qs (bH.map (·.1)):=λt ht=>by
   rcases h2 t ht with h3 | ⟨u,hu,hx⟩
   ·exact c1 t h3
   ·exact c2 u hu t hx
  have g1:=qi hv;have AB:(if r2=0 then st else v) ∈ bH.map (·.1):=by split <;> assumption
  have XQ:=R'.n1;have ei:=XN (bH.map (·.1)) (if r2=0 then st else v) AB Z6;have hi:((bH.map (·.1)).map λn=>([n]:Tx)).idxOf [if r2=0 then st else v] < bH.length:=by
   have:=List.idxOf_lt_length_iff.mpr (WD (f:=λn=>([n]:Tx)) AB);simpa using this
  have e5:=hS R' hi;have x4:aw (.lst [.str [st],.str [v]]) (.int r2)=pS (.str [if r2=0 then st else v]):=by
   rcases zh with rfl | rfl
   ·rfl
   ·rfl
  generalize (if r2=0 then st else v)=cF at *;generalize hix:((bH.map (·.1)).map λn=>([n]:Tx)).idxOf [cF]=ix at *;refine⟨iH bH ix,qs,d3,cF,cu,pS (aD tw),?_,H_ R' ix,%[oB|Az],p3,%[oB|AB]⟩;have q1:cq (.int 0) (.int 0)=pS (.bl true):=by rfl
  have et:aF (aH cq (aE GD [.io 0,.val (eD (.int 2))]) (ar (eD (.int 0)))) [pO pd,pS (.int 5),pS (az h w bs),pS (tD ts),pO (aD ps),o5,o6,o7,pS (.str [st]),none,none] = .ok true [pO d1,pS (.int 5),pS (az h w bs),pS (tD ts),pO (aD ps),o5,o6,o7,pS (.str [st]),none,none]:=by
   generalize az h w bs=ru;generalize tD ts=td;generalize aD ps=dd;simp[aF,aE,bF,cz,bN,bY,bJ,e1,bc,q1]
  rw[yB,et];simp only[eS,if_true];refine jA (δ1:=[pO d2,pS (.int 5),pS (az h w bH),pS (tD ts),pO (aD ps),o5,o6,o7,pS (.str [st]),pS (aD tw),none]) (by
   generalize az h w bs=ru at e2 ⊢;generalize az h w bH=ru' at e2 ⊢;generalize aD tw=dt at e2 ⊢;generalize tD ts=td;generalize aD ps=dd;simp[au,aE,bF,cz,bN,bY,aa,bJ,bc,e2,bX,aW,ck]) ?_
  refine jA (δ1:=[pO d2,pS (.int 5),pS (az h w bH),pS (tD ts),pO (aD qs),o5,cu,o7,pS (.str [st]),pS (aD tw),none]) (by
   rw[rL];have hit:aG (aa 3) [pO d2,pS (.int 5),pS (az h w bH),pS (tD ts),pO (aD ps),o5,o6,o7,pS (.str [st]),pS (aD tw),none] = .ok (ts.map λn=>D.str [n]) [pO d2,pS (.int 5),pS (az h w bH),pS (tD ts),pO (aD ps),o5,o6,o7,pS (.str [st]),pS (aD tw),none]:=by
    unfold tD;generalize az h w bH=ru';generalize aD tw=dt;generalize aD ps=dd;simp[df,aa]
   rw[hit];exact e3) ?_
  refine jA (δ1:=[pO d3,pS (.int 5),pS (az h w bH),pS (tD ts),pO (aD qs),o5,cu,o7,pS (.str [cF]),pS (aD tw),none]) (by
   generalize az h w bH=ru';generalize aD tw=dt at g1 ⊢;generalize aD qs=dd;generalize tD ts=td;simp[au,aE,bF,cz,bN,bY,aa,bJ,bc,ah,aV,ag,g1,e4,x4]) ?_
  have qj:=Im (h:=h) (w:=w) (Qc XQ Z') d3 (pS (tD ts)) (pO (aD qs)) o5 cu o7 (pS (.str [cF])) (pS (aD tw));have Io:mx vU (aa 8) [pO d3,pS (.int 5),pS (az h w bH),pS (tD ts),pO (aD qs),o5,cu,o7,pS (.str [cF]),pS (aD tw),none] = .ok (.pure (.int ix)) [pO d3,pS (.int 5),pS (az h w bH),pS (tD ts),pO (aD qs),o5,cu,o7,pS (.str [cF]),pS (aD tw),none]:=by
   unfold mx;rw[qj];have hL:EC (S.own (tD (bH.map (·.1)))).d=true:=rfl;simp only[eS,hL,if_true];generalize az h w bH=ru';generalize aD tw=dt;generalize aD qs=dd;generalize tD ts=td;simp only[aa,Q6,Q5,eS,pK,yz,ve,ei]
  clear qj;generalize az h w (iH bH ix)=rn,az h w bH=ru',aD tw=dt,aD qs=dd,tD ts=td at *;simp[au,aE,bF,cz,bN,bY,Io,bJ,bc];simp[aa,Io,bJ,e5,bc]
 ·have q1:cq (.int 1) (.int 0)=pS (.bl false):=by rfl
  refine⟨bs,ps,d1,st,o6,none,?_,R,%[cg|hc],p1,%[cg|c9]⟩;generalize az h w bs=ru;generalize tD ts=td;generalize aD ps=dd;simp[aF,aE,bF,cz,bN,bY,bJ,e1,bc,q1]
abbrev XR(GD GR GS GU:DF):DS:=(aq (au (aE GR [.io 0,.val (aa 1)]) (ae [0] 2)) (aq (au (bE [10] (aG (ah aw 2 (ar (eD (.int 2))))) (ae [0] 10) aZ (ah aw 10 (ar (eD (.int 0))))) (ae [0] 3)) (aq (au iT (ae [0] 4)) (aq (au (aH bt (eD (.int 1)) (ar (aE GD [.io 0,.val (eD (.int 3))]))) (ae [0] 5)) (aq (bG (aG (aa 3)) (ae [0] 6) (de 4 (aa 6) (aH aw (eD (.str [120,121,122])) (ar (aE GD [.io 0,.val (aa 5)]))))) (aq (au (aE GD [.io 0,.val (aA bw (ag 3))]) (ae [0] 7)) (aq (au (aE GS [.val (aa 2),.val (aa 7)]) (ae [0] 2)) (aq (au (ah aw 3 (ag 7)) (ae [0] 8)) (aq (cN (aF (aH cq (aE GD [.io 0,.val (eD (.int 2))]) (ar (eD (.int 0))))) (aq (au (aE GU [.val (aa 2),.io 0]) (bX 2 (aW (ae [0] 2) (aW (ae [0] 9) ck)))) (aq (bG (aG (aa 3)) (ae [0] 6) (de 4 (ah aL 9 (ag 6)) (ah aL 4 (ag 6)))) (aq (au (aH aw (cG (ax (aa 8) (ax (ah aL 9 (ag 8)) aJ))) (ar (aE GD [.io 0,.val (eD (.int 2))]))) (ae [0] 8)) (au (aE GS [.val (aa 2),.val (mx (bE [10] (aG (ah aw 2 (ar (eD (.int 2))))) (ae [0] 10) aZ (ah aw 10 (ar (eD (.int 0))))) (aa 8))]) (ae [0] 2))))) cR) (bU (ba (ax (aa 2) (ax (aa 8) (ax (aA bT (ar (bE [10] (aG (ah aw 2 (ar (eD (.int 2))))) (ae [0] 10) aZ (ba (ax (ah aw 10 (ar (eD (.int 0)))) (ax (ah aL 4 (ar (ah aw 10 (ar (eD (.int 0)))))) aJ)))))) aJ))))))))))))))
def oD(ps:List (Nat×Nat))(t:Nat):Nat:=(dq ps t).getD 0
theorem XS(R:bZ h w bs)(pd:D)(ps:List (Nat×Nat))(hc:iZ ps (bs.map (·.1)))(o3:Option S)(o5 o6 o7 o9:Option S)(st:Nat):(bU (ba (ax (aa 2) (ax (aa 8) (ax (aA bT (ar (bE [10] (aG (ah aw 2 (ar (eD (.int 2))))) (ae [0] 10) aZ (ba (ax (ah aw 10 (ar (eD (.int 0)))) (ax (ah aL 4 (ar (ah aw 10 (ar (eD (.int 0)))))) aJ)))))) aJ))))) [pO pd,pS (.int 5),pS (az h w bs),o3,pO (aD ps),o5,o6,o7,pS (.str [st]),o9,none] = .ok (.ret (.pure (.tup [az h w bs,.str [st],du (bs.map λb=>(b.1,oD ps b.1))]))) [pO pd,pS (.int 5),pS (az h w bs),o3,pO (aD ps),o5,o6,o7,pS (.str [st]),o9,none]:=by
 have x2:=(oA h w bs).2.2;have n1:=R.n1;have e:=jq (cs:=[10]) (g:=ae [0] 10) (t:=aZ) (el:=(ba (ax (ah aw 10 (ar (eD (.int 0)))) (ax (ah aL 4 (ar (ah aw 10 (ar (eD (.int 0)))))) aJ)))) aN (λb:Nat×List Tx=>D.tup [.str [b.1],.str [oD ps b.1]]) [pO pd,pS (.int 5),pS (az h w bs),o3,pO (aD ps),o5,o6,o7,pS (.str [st]),o9,none] bs [] (by rw[cm]; simp; lia) (λb hb=>by
  obtain⟨v,hv⟩:=hc b.1 (WD hb);have g:=qi hv;refine⟨_,_,.pure (.tup [.str [b.1],.str [v]]),[pO pd,pS (.int 5),pS (az h w bs),o3,pO (aD ps),o5,o6,o7,pS (.str [st]),o9,pS (aN b)],rfl,rfl,?_,rfl,#v[oD,hv]⟩;have xb:aw (aN b) (.int 0)=pS (.str [b.1]):=#v[aw,jm]
  generalize az h w bs=ru,aD ps=dd,aN b=db at *;simp[ah,aV,ag,xb,g])
 have eT:(bs.map λb:Nat×List Tx=>D.tup [.str [b.1],.str [oD ps b.1]])=(bs.map λb=>(b.1,oD ps b.1)).map λp=>D.tup [.str [p.1],.str [p.2]]:=by simp
 rw[WQ,eT] at e;generalize qP:(bs.map λb=>(b.1,oD ps b.1)).map (λp=>D.tup [.str [p.1],.str [p.2]])=pp,hru:az h w bs=ru,aD ps=dd at *;simp[aa,df,ah,aV,ag,x2,bN,bz];rw[e];simp[cS,bT];rw[<- qP,Ww]
theorem XT(hD:∀ (d:D) (m:Nat),bB d->0 < m->m < 1073741824->∃ (r:Nat) (d':D),GD [.own d,.pure (.int m)]=some (.pure (.int r),[.own d',.pure (.int m)])/\r < m/\bB d')
  (hS:∀ {h w:Nat} {bs:List (Nat×List Tx)},bZ h w bs->∀ {k:Nat},k < bs.length->GS [.pure (az h w bs),.pure (.int k)]=some (.pure (az h w (iH bs k)),[.pure (az h w bs),.pure (.int k)]))
  (hU:∀ {h w:Nat} {bs:List (Nat×List Tx)},bZ h w bs->bs.length<=5->∀ {pd:D},bB pd->∃ (bH:List (Nat×List Tx)) (ps:List (Nat×Nat)) (bo:D),GU [.pure (az h w bs),.own pd]=some (.pure (.tup [az h w bH,aD ps]),[.pure (az h w bs),.own bo])/\bZ h w bH/\bB bo /\
   (∀ t ∈ bs.map (·.1),t ∈ bH.map (·.1)/\∃ v,dq ps t=some v/\v ∈ bH.map (·.1))/\(∀ t ∈ bH.map (·.1),t ∈ bs.map (·.1)\/∃ u ∈ bs.map (·.1),dq ps u=some t))
  (hR:∀ d,bB d->∃ (h w:Nat) (bs:List (Nat×List Tx)) (d':D),GR [.own d,.pure (.int 5)]=some (.pure (az h w bs),[.own d',.pure (.int 5)])/\bZ h w bs/\bs.length<=5/\bB d') (hp:bB pd) :
  ∃ (h w:Nat) (bs:List (Nat×List Tx)) (st:Nat) (ps:List (Nat×Nat)) (bo:D),bR [0] 11 (XR GD GR GS GU) [.own pd,.pure (.int 5)]=some (.pure (.tup [az h w bs,.str [st],du ps]),[.own bo,.pure (.int 5)])/\bZ h w bs/\ps.map (·.1)=bs.map (·.1)/\bB bo/\st ∈ bs.map (·.1):=by
 obtain⟨h,w,bs,d1,e1,R,hn,p1⟩:=hR pd hp;obtain⟨k,d2,e2,l2,p2⟩:∃ (r:Nat) (d':D),GD [.own d1,.pure (.int 3)]=some (.pure (.int r),[.own d',.pure (.int 3)])/\r < 3/\bB d':=hD d1 3 p1 Z' Z';generalize cg:bs.map (·.1)=ts;have Ik:ts.length=bs.length:=by rw[<- cg]; simp
 have n0:=R.n0;obtain⟨ps,d3,o6,e3,hc,cB,p3⟩:=signs hD (az h w bs) ts Y' k l2 p2;obtain⟨sp,d4,e4,l4,p4⟩:=hD d3 ts.length p3 Y' Y';have e5:=hS R (k:=sp) Y';have R2:=H_ R sp;have c9:ts.getD sp 0 ∈ ts:=#v[l4]
 obtain⟨bH,qs,d5,cF,cu,oC,e6,R',fQ,p5,hm⟩:=mid hD hS hU R2 (by have:=congrArg Qp (oB bs sp); simp at this; lia) p4 ps %[oB,cg|hc] Y' (ts.getD sp 0) %[oB,cg|c9] (pS (.int (1 + (k:Int)))) o6 (pS (.int sp));rw[oB,cg] at e6;have bu:=HZ ts;have x3:=An ts sp l4;have qj:=Im (h:=h) (w:=w) (bs:=bs) (Qc R.n1 Z') d1 none none none none none none none;rw[cg] at qj;refine⟨h,w,bH,cF,bH.map λb=>(b.1,oD qs b.1),d5,?_,R',Z5,p5,by grind⟩;have er:=XS R' d5 qs fQ (pS (tD ts)) (pS (.int (1 + (k:Int)))) cu (pS (.int sp)) oC cF;clear hR hD hS hU;unfold vU at qj;have hit:aG (aa 3) [pO d2,pS (.int 5),pS (az h w bs),pO (tD ts),pO (aD []),pS (.int (1 + (k:Int))),none,none,none,none,none] = .ok (ts.map λn=>D.str [n]) [pO d2,pS (.int 5),pS (az h w bs),pS (tD ts),pO (aD []),pS (.int (1 + (k:Int))),none,none,none,none,none]:=by
  unfold tD;generalize az h w bs=ru at *;simp[df,aa]
 have dn:iT=λδ=>.ok (.own (aD [])) δ:=rfl
 generalize az h w (iH bs sp)=rn,az h w bs=ru,tD ts=td,aD ps=dp,aD []=d0,(ts.length:Int)=zl,ts.getD sp 0=s0 at *;apply gR
 ·refine c7 ?_ fM;refine c7 ?_ (by unfold au; rw[qj]; rfl);refine c7 ?_ (by rw[dn]; rfl);refine c7 ?_ fM;refine c7 ?_ ((f9 hit).trans e3);refine c7 ?_ fM;refine c7 ?_ fM;refine c7 ?_ fM;exact c7 er e6
 ·rfl
 ·rfl
theorem XU(hp:bB pd):∃ (h w:Nat) (bs:List (Nat×List Tx)) (st:Nat) (ps:List (Nat×Nat)) (bo:D),oq [.own pd,.pure (.int 5)]=some (.pure (.tup [az h w bs,.str [st],du ps]),[.own bo,.pure (.int 5)])/\bZ h w bs/\ps.map (·.1)=bs.map (·.1)/\bB bo/\st ∈ bs.map (·.1):=by
 rw[oq,G5];exact XT (λd m hp a b=>qh hp m a b) (λR _ hk=>Xq R hk) (λR hn _ hp=>XH R hn hp) (λd hp=>by
  obtain⟨h,w,bs,d',e,R,hn,p⟩:=Xg hp 5 Z' Z';exact⟨h,w,bs,d',e,Xo R,hn,p⟩) hp
def cU(bs:List (Nat×List Tx))(n:Nat):List Tx:=((bs.find? λb=>decide (b.1=n)).map (·.2)).getD []
theorem oE(h:n ∈ bs.map (·.1)):∃ b ∈ bs,b.1=n/\(bs.find? λb=>decide (b.1=n))=some b/\cU bs n=b.2:=by
 cases e:bs.find? λb=>decide (b.1=n) with
 | none =>
  obtain⟨b,hb,rfl⟩:=WA.mp h;have:=List.find?_eq_none.mp e b hb;simp at this
 | some b =>
  have h1:=List.mem_of_find?_eq_some e;have h2:=Uu e;refine⟨b,h1,~~~h2,rfl,?_⟩;unfold cU;rw[e];rfl
theorem Ip(xs:List Tx)(m:Nat)(h:∀ x ∈ xs,x.length<=m):iq xs<=xs.length * m:=by
 induction xs with
 | nil=>simp[iq]
 | cons x r ih =>
  have h1:=h x Wp;have h2:=ih λy hy=>h y (Wg _ hy)
  have e:iq (x :: r)=x.length + iq r:=#v[iq]
  rw[e,WS,Uw];lia
theorem AD(e:b (bV n [.pure x]) = .ok (.ret v) δ1):bR [] n b [.pure x]=some (v,[.pure x]):=by
 rw[mR,e]; rfl
theorem vV(e:b (bV n [.pure x,.pure y]) = .ok (.ret v) δ1):bR [] n b [.pure x,.pure y]=some (v,[.pure x,.pure y]):=by
 rw[mR,e]; rfl
theorem Iq(xs:List Tx)(h:iq xs<=16777216):cx [] (bS xs)=pS (.str xs.flatten):=by
 unfold cx;simp only[pL,vh];rw[if_pos (~~~h)]
theorem jB(h1:g (.pure d) δ=some δ1)(h2:b δ1 = .ok .next δ2):forL g b (d :: r) δ=forL g b r δ2:=by
 conv=>lhs; unfold forL
 rw[h1];simp only[h2,eS]
theorem vW{t}(h1:t δ = .ok true δ1)(h2:b δ1 = .ok .next δ2):dB t b (n + 1) δ=dB t b n δ2:=by
 simp only[dB,h1,eS,if_true,h2]
theorem Ir{t}(h1:t δ = .ok false δ1):dB t b (n + 1) δ = .ok .next δ1:=by
 simp[dB,h1]
def fS(s:Nat):D:=.str [s]
def fI(k:Nat):D:=.int (k:Nat)
abbrev LK:=Nat×List Nat
def fw(f:Nat->D)(k:LK):D:=.tup [f k.1,.tup (k.2.map f)]
def dh(f:Nat->D):Nat->List LK->List (D×D)
 | _,[]=>[]
 | n,k :: r=>(fw f k,.int (n:Nat)) :: dh f (n + 1) r
section
variable {f:Nat->D}
theorem Iu(hf:f=fS\/f=fI)(a b:Nat):dI (f a) (f b)=decide (a=b):=by
 rcases hf with rfl | rfl
 ·unfold fS;simp only[dI];by_cases h:a=b <;> simp[h]
 ·unfold fI;simp only[dI];by_cases h:a=b
  ·simp[h]
  ·have:¬ (a:Int)=(b:Int):=by lia
   simp[h,this]
theorem Iv(hf:f=fS\/f=fI):∀ a b:List Nat,jb (a.map f) (b.map f)=decide (a=b)
 | [],[]=>rfl
 | [],_ :: _=>rfl
 | _ :: _,[]=>rfl
 | x :: a,y :: b=>by
  rw[Wf,Wf];simp only[jb,Iu hf x y,Iv hf a b];all_goals grind
theorem Iw(hf:f=fS\/f=fI)(a b:LK):dI (fw f a) (fw f b)=decide (a=b):=by
 obtain⟨a1,a2⟩:=a;obtain⟨b1,b2⟩:=b;unfold fw;simp only[dI,jb,Iu hf,Iv hf];all_goals grind
theorem Iy(hf:f=fS\/f=fI)(n:Nat)(a:Nat):(cJ (n + 1) (f a)).isSome=true:=by
 rcases hf with rfl | rfl <;> rfl
theorem Iz(hf:f=fS\/f=fI)(n:Nat):∀ l:List Nat,(gH (n + 1) (l.map f)).isSome=true
 | []=>rfl
 | a :: l=>by
  have h1:=Iy hf n a;have h2:=Iz hf n l;grind[Option.isSome_iff_exists,gH]
theorem XW(hf:f=fS\/f=fI)(k:LK):(cJ 6 (fw f k)).isSome=true:=by
 obtain⟨x,hx⟩:=QZ.mp (Iy hf 4 k.1);obtain⟨y,hy⟩:=QZ.mp (Iz hf 3 k.2);unfold fw;simp[cJ,gH,hx,hy]
theorem XY(k:LK):h9 true (fw f k)=true:=rfl
theorem IA:∀ (L:List LK) (n:Nat),((dh f n L).all λq=>h9 true q.1)=true
 | [],_=>rfl
 | k :: r,n=>by
  unfold dh;rw[Um,IA r];rfl
theorem XZ(hf:f=fS\/f=fI)(k:LK)(L:List LK)(n:Nat):gv (gQ (fw f k)) (dh f n L) (fw f k)=true:=by
 have h1:gQ (fw f k)=true:=rfl;unfold gv;rw[h1,XY k,XW hf k,IA L n];rfl
theorem IB(hf:f=fS\/f=fI)(k:LK):∀ (L:List LK) (n:Nat),fJ (dh f n L) (fw f k)=if k ∈ L then some (.int ((n + L.idxOf k:Nat):Int)) else none
 | [],_=>rfl
 | a :: r,n=>by
  have ih:=IB hf k r (n + 1);unfold fJ at ih ⊢;unfold dh;rw[WP];simp only[Iw hf];by_cases h:a=k
  ·subst h;simp
  ·rw[decide_eq_false h];rw[ih,List.idxOf_cons];have hb:(a == k)=false:= ~~~h
   rw[hb];by_cases h2:k ∈ r
   ·rw[if_pos h2,if_pos (Wg _ h2)];simp;lia
   ·rw[if_neg h2,if_neg (λz=>(Wu.mp z).elim (λe=>h e.symm) h2)]
theorem AE:∀ (L:List LK) (n:Nat),(dh f n L).length=L.length
 | [],_=>rfl
 | _ :: r,n=>by unfold dh; rw[WS,AE r,WS]
theorem IC(k:LK):∀ (L:List LK) (n:Nat),dh f n (L ++ [k])=dh f n L ++ [(fw f k,.int ((n + L.length:Nat):Int))]
 | [],n=>#v[dh]
 | a :: r,n=>by
  rw[JA];unfold dh;rw[IC k r (n + 1),JA,WS,show n + 1 + r.length=n + (r.length + 1) by lia]
theorem ID(hf:f=fS\/f=fI)(k:LK):∀ (L:List LK) (n:Nat),((dh f n L).any λq=>dI q.1 (fw f k))=decide (k ∈ L)
 | [],_=>rfl
 | a :: r,n=>by
  unfold dh;rw[Qb,ID hf k r];simp only[Iw hf];grind
theorem X1(hf:f=fS\/f=fI)(k:LK)(L:List LK)(h:k ∉ L):jv (dh f 0 L) (fw f k) (.int (L.length:Nat))=dh f 0 (L ++ [k]):=by
 unfold jv;rw[ID hf k L 0,decide_eq_false h,if_neg Z5,IC];simp
end
def FD(n:Nat->Nat)(l:List Nat):List (D×D):=l.map λt=>(.str [t],.int ((n t:Nat):Int))
theorem IE(n:Nat->Nat)(l:List Nat)(t:Nat):gv (gQ (.str [t])) (FD n l) (.str [t])=true:=by
 unfold gv gQ FD;simp[h9,cJ]
theorem IF(n:Nat->Nat)(t:Nat):∀ l:List Nat,fJ (FD n l) (.str [t])=if t ∈ l then some (.int ((n t:Nat):Int)) else none
 | []=>rfl
 | a :: r=>by
  have ih:=IF n t r;unfold fJ FD at ih ⊢;rw[Wf,WP];have e:dI (D.str [a]) (D.str [t])=decide (a=t):=by
   simp only[dI];by_cases h:a=t <;> simp[h]
  grind
theorem IG(n:Nat->Nat)(l:List Nat)(t:Nat)(h:t ∉ l):jv (FD n l) (.str [t]) (.int ((n t:Nat):Int))=FD n (l ++ [t]):=by
 unfold jv;have:((FD n l).any λq=>dI q.1 (D.str [t]))=false:=by
  rw[JL];intro q hq;unfold FD at hq;obtain⟨a,ha,rfl⟩:=WA.mp hq;simp only[dI];have:a≠t:=λe=>h (by rw[<- e]; exact ha)
  simp[this]
 rw[this,if_neg Z5];unfold FD;simp
abbrev gA(ru pa nd mn:D)(lo fi:List (D×D))(o6 o7 o8:Option S):Dl:=[pS ru,pS pa,pO nd,pS mn,pO (.dic lo),pO (.dic fi),o6,o7,o8,none]
abbrev gC:DE:=(bE [9] (aG (aA (cx []) (ag 7))) (ae [] 9) aZ (ah iC 2 (ag 9)))
abbrev gK:DE:=(ba (ax (ah iC 2 (ag 6)) (ax (aA bT (ar gC)) aJ)))
abbrev gS:DS:=(iV 5 (aa 6) (n4 4 (aa 8) (aA h_ (ag 4))))
theorem X2(ru pa nd mn B:D)(lo fi:List (D×D))(t:Nat)(o8:Option S)(f:Nat->D)(v:Nat->Nat)(x:List Nat)(hx:x.length<=1000)(hn:∀ p ∈ x,iC nd (.str [p])=pS (f (v p))) :
  cT [9] (ae [] 9) aZ (ah iC 2 (ag 9)) (x.map λp=>D.str [p]) (gA ru pa nd mn lo fi (pS (.str [t])) (pS B) o8) [] = .ok (x.map λp=>f (v p)) (gA ru pa nd mn lo fi (pS (.str [t])) (pS B) o8):=by
 have:=jq (cs:=[9]) (g:=ae [] 9) (t:=aZ) (el:=ah iC 2 (ag 9)) (λp:Nat=>D.str [p]) (λp=>f (v p)) (gA ru pa nd mn lo fi (pS (.str [t])) (pS B) o8) x [] (by rw[cm]; simp; lia) (λp hp=>by
  have q:=hn p hp;refine⟨_,_,.pure (f (v p)),[pS ru,pS pa,pO nd,pS mn,pO (.dic lo),pO (.dic fi),pS (.str [t]),pS B,o8,pS (.str [p])],rfl,rfl,?_,rfl,rfl⟩;simp[ah,aV,ag,q,S.d])
 rw[this];rfl
theorem X3(ru pa nd mn B:D)(x:List Nat)(t:Nat)(f:Nat->D)(hf:f=fS\/f=fI)(v n:Nat->Nat)(L:List LK)(l:List Nat)(o8:Option S)(hj:cx [] B=pS (.str x))(hx:x.length<=1000)(hL:L.length<=1000)(hl:l.length<=1000)(hn:∀ p ∈ x,iC nd (.str [p])=pS (f (v p)))(ht:iC nd (.str [t])=pS (f (v t)))(oh:t ∉ l)
  (oF:n t=(if (v t,x.map v) ∈ L then L else L ++ [(v t,x.map v)]).idxOf (v t,x.map v)) :
  (aq (au gK (ae [] 8)) gS) (gA ru pa nd mn (dh f 0 L) (FD n l) (pS (.str [t])) (pS B) o8) = .ok .next (gA ru pa nd mn (dh f 0 (if (v t,x.map v) ∈ L then L else L ++ [(v t,x.map v)])) (FD n (l ++ [t])) (pS (.str [t])) (pS B) (pS (fw f (v t,x.map v)))):=by
 have c:=X2 ru pa nd mn B (dh f 0 L) (FD n l) t o8 f v x hx hn;have em:(x.map λp=>f (v p))=(x.map v).map f:=by rw[Ww]; rfl
 rw[em] at c;have eK:fw f (v t,x.map v) = .tup [f (v t),.tup ((x.map v).map f)]:=rfl;have k1:au gK (ae [] 8) (gA ru pa nd mn (dh f 0 L) (FD n l) (pS (.str [t])) (pS B) o8) = .ok .next (gA ru pa nd mn (dh f 0 L) (FD n l) (pS (.str [t])) (pS B) (pS (fw f (v t,x.map v)))):=by
  rw[eK];generalize (x.map v).map f=Y,dh f 0 L=LL,FD n l=FF,f (v t)=ft at *;unfold gA at c ⊢;simp[au,ba,ax,aJ,ah,aV,ag,ht,S.d,df,hj,bN,bz];rw[c];simp[cS,bT]
 rw[cV k1];have g1:=XZ hf (v t,x.map v) L 0;have v1:=IB hf (v t,x.map v) L 0;have AF:(dh f 0 L).length=L.length:=AE L 0;have g2:=IE n l t;have z1:(dh f 0 L).length < Wa:=by rw[AF,cm]; lia
 have z2:(FD n l).length < Wa:=by unfold FD; rw[Wn,cm]; lia
 by_cases h:(v t,x.map v) ∈ L
 ·rw[if_pos h] at v1 oF ⊢;rw[WU,<- oF] at v1;have p2:=IG n l t oh;rw[<- p2];generalize fw f (v t,x.map v)=key,dh f 0 L=LL,FD n l=FF at *;simp[gS,iV,n4,mD,aa,ag,h_,S.d,g1,z1,v1,g2,z2]
 ·rw[if_neg h] at v1 oF ⊢;have jO:n t=L.length:=by
   rw[oF,List.idxOf_append,if_neg h];simp
  have p1:=X1 hf (v t,x.map v) L h;have p2:=IG n l t oh;have k8:h_ (.dic (dh f 0 L))=pS (.int (L.length:Nat)):=by
   show some (S.pure (.int ((dh f 0 L).length:Nat)))=_;rw[AF]
  rw[<- p2,<- p1,jO];clear p1 p2 jO oF AF hn ht c;generalize fw f (v t,x.map v)=key,dh f 0 L=LL,FD n l=FF,D.int (L.length:Nat)=LN at *;simp[gS,iV,n4,mD,aa,ag,k8,S.d,g1,z1,v1,g2,z2]
def aB(bs:List (Nat×List Tx))(t:Nat):List Nat:=(cU bs t).flatten
theorem AG(nd:(bs.map (·.1)).Nodup)(hb:b ∈ bs):cU bs b.1=b.2:=by
 obtain⟨b',rT,e1,_,e2⟩:=oE (WD (f:=(·.1)) hb);obtain⟨i,hi⟩:=Q4.mp hb;obtain⟨j,hj⟩:=Q4.mp rT;have:i=j:=(Ui (l:=bs.map (·.1)) (by simpa using (W6.mp hi).1) nd).mp (by grind);grind
theorem IH(C:Nat):∀ l:List Tx,(∀ r ∈ l,r.length=C)->l.flatten.length=l.length * C
 | [],_=>by simp
 | r :: l,h=>by
  rw[Jp,Qu,IH C l λx hx=>h x (Wg _ hx),h r Wp,WS,Uw];lia
theorem jC(R:bZ h w bs)(ht:t ∈ bs.map (·.1)):(aB bs t).length=h * w/\h * w<=16/\∀ p ∈ aB bs t,p ∈ bs.map (·.1):=by
 obtain⟨b,hb,rfl⟩:=WA.mp ht;unfold aB;rw[AG R.nd hb];have hB:=R.cU b hb;refine⟨by rw[IH w b.2 λr hr=>(hB.2 r hr).1,hB.1],Nat.mul_le_mul R.h1 R.w1,λp hp=>?_⟩;obtain⟨r,hr,hpr⟩:=List.mem_flatten.mp hp;exact(hB.2 r hr).2 p hpr
theorem AH(R:bZ h w bs)(hb:b ∈ bs):cx [] (bS b.2)=pS (.str (aB bs b.1)):=by
 have hB:=R.cU b hb;unfold aB;rw[AG R.nd hb];refine Iq _ ?_;have:=Ip b.2 w λx hx=>Nat.le_of_eq (hB.2 x hx).1
 rw[hB.1] at this;have h2:h * w<=4 * 4:=Nat.mul_le_mul R.h1 R.w1;lia
abbrev gB:DS:=(aq (au gK (ae [] 8)) gS)
abbrev gT:DG:=(bX 2 (aW (ae [] 6) (aW (ae [] 7) ck)))
theorem II(R:bZ h w bs)(ru pa nd mn:D)(f:Nat->D)(hf:f=fS\/f=fI)(v:Nat->Nat)(hn:∀ p ∈ bs.map (·.1),iC nd (.str [p])=pS (f (v p))):∀ (br bl:List (Nat×List Tx)) (o6 o7 o8:Option S),bl ++ br=bs ->
  ∃ cu o7' o8',forL gT gB (br.map aN) (gA ru pa nd mn (dh f 0 (aQ [] ((bl.map (·.1)).map (lk (aB bs) v)))) (FD (gX (bs.map (·.1)) (aB bs) v) (bl.map (·.1))) o6 o7 o8) = .ok .next (gA ru pa nd mn (dh f 0 (fN (bs.map (·.1)) (aB bs) v)) (FD (gX (bs.map (·.1)) (aB bs) v) (bs.map (·.1))) cu o7' o8')
 | [],bl,o6,o7,o8,e=>by
  rw[Ql] at e;subst e;exact⟨o6,o7,o8,rfl⟩
 | b :: br,bl,o6,o7,o8,e=>by
  have hb:b ∈ bs:=by rw[<- e]; simp
  have ht:b.1 ∈ bs.map (·.1):=WD hb;obtain⟨l1,l2,l3⟩:=jC R ht;have n1:=R.n1;have kG:bl.length<=52:=by
   have:=congrArg Qp e;simp at this;lia
  have hL:(aQ [] ((bl.map (·.1)).map (lk (aB bs) v))).length<=1000:=by
   have:=sI ((bl.map (·.1)).map (lk (aB bs) v)) [];rw[Wn,Wn,Jk] at this;lia
  have oh:b.1 ∉ bl.map (·.1):=λz=>by
   have nd:=R.nd;rw[<- e,WR,Wf] at nd;exact(List.nodup_append.mp nd).2.2 b.1 z b.1 Wp rfl
  have ek:lk (aB bs) v b.1=(v b.1,(aB bs b.1).map v):=rfl;have es:aQ [] (((bl ++ [b]).map (·.1)).map (lk (aB bs) v))=if (v b.1,(aB bs b.1).map v) ∈ aQ [] ((bl.map (·.1)).map (lk (aB bs) v)) then aQ [] ((bl.map (·.1)).map (lk (aB bs) v)) else aQ [] ((bl.map (·.1)).map (lk (aB bs) v)) ++ [(v b.1,(aB bs b.1).map v)]:=by
   rw[WR,WR];refine(Ag (lk (aB bs) v b.1) ((bl.map (·.1)).map (lk (aB bs) v)) []).trans ?_;grind
  have lx:lk (aB bs) v b.1 ∈ aQ [] (((bl ++ [b]).map (·.1)).map (lk (aB bs) v)):=(kC _ _).mpr (.inr (WD Z5));have qH:∃ s,fN (bs.map (·.1)) (aB bs) v=aQ [] (((bl ++ [b]).map (·.1)).map (lk (aB bs) v)) ++ s:=by
   have app:∀ (x y L:List LK),aQ L (x ++ y)=aQ (aQ L x) y:=λx=>by
    induction x with
    | nil=>intro y L; rfl
    | cons a x ih=>intro y L; exact ih y _
   have e2:∀ F:Nat->LK,(bs.map (·.1)).map F=((bl ++ [b]).map (·.1)).map F ++ (br.map (·.1)).map F:=λF=>by rw[<- e]; simp
   unfold fN;rw[e2,app];exact oy _ _
  have oF:gX (bs.map (·.1)) (aB bs) v b.1=(if (v b.1,(aB bs b.1).map v) ∈ aQ [] ((bl.map (·.1)).map (lk (aB bs) v)) then aQ [] ((bl.map (·.1)).map (lk (aB bs) v)) else aQ [] ((bl.map (·.1)).map (lk (aB bs) v)) ++ [(v b.1,(aB bs b.1).map v)]).idxOf (v b.1,(aB bs b.1).map v):=by grind[gX]
  have st:=X3 ru pa nd mn (bS b.2) (aB bs b.1) b.1 f hf v (gX (bs.map (·.1)) (aB bs) v) _ (bl.map (·.1)) o8 (AH R hb) Y' hL Z6 (λp hp=>hn p (l3 p hp)) (hn b.1 ht) oh oF;rw[<- es] at st;obtain⟨cu,o7',o8',ih⟩:=II R ru pa nd mn f hf v hn br (bl ++ [b]) (pS (.str [b.1])) (pS (bS b.2)) (pS (fw f (v b.1,(aB bs b.1).map v))) (by rw[<- e]; simp);refine⟨cu,o7',o8',?_⟩;rw[Wf,jB (δ1:=gA ru pa nd mn (dh f 0 (aQ [] ((bl.map (·.1)).map (lk (aB bs) v)))) (FD (gX (bs.map (·.1)) (aB bs) v) (bl.map (·.1))) (pS (.str [b.1])) (pS (bS b.2)) o8) rfl st];have em:(bl ++ [b]).map (·.1)=bl.map (·.1) ++ [b.1]:=by simp
  rw[em] at ih ⊢;exact ih
abbrev i_(ru pa:D)(s2 s3 o4 o5 o6 o7 o8:Option S):Dl:=[pS ru,pS pa,s2,s3,o4,o5,o6,o7,o8,none]
abbrev wG:DS:=(aq (au gU (ae [] 4)) (aq (au gU (ae [] 5)) (aq (bG (aG (ah aw 0 (ar (eD (.int 2))))) gT gB) (aq (cN (aF (aH cq (aA h_ (ag 4)) (ag 3))) (jl [] 5) cR) (aq (au (aA h_ (ag 4)) (ae [] 3)) (nY [] 2 5))))))
theorem X4{t}(h1:t δ = .ok true δ1)(h2:b δ1 = .ok (.ret v) δ2):dB t b (n + 1) δ = .ok (.ret v) δ2:=by
 simp only[dB,h1,eS,if_true,h2]
theorem X5(ru pa nd:D)(mn ln:Nat)(B:List D)(LL FF:List (D×D))(gb:DS)(o4 o5 o6 o7 o8 p6 p7 p8:Option S)(x2:aw ru (.int 2)=pS (.tup B))(hl:LL.length=ln)
  (e:forL gT gb B (gA ru pa nd (.int (mn:Nat)) [] [] o6 o7 o8) = .ok .next (gA ru pa nd (.int (mn:Nat)) LL FF p6 p7 p8)) :
  (aq (au gU (ae [] 4)) (aq (au gU (ae [] 5)) (aq (bG (aG (ah aw 0 (ar (eD (.int 2))))) gT gb) (aq (cN (aF (aH cq (aA h_ (ag 4)) (ag 3))) (jl [] 5) cR) (aq (au (aA h_ (ag 4)) (ae [] 3)) (nY [] 2 5)))))) (i_ ru pa (pO nd) (pS (.int (mn:Nat))) o4 o5 o6 o7 o8) =
   if ln=mn then .ok (.ret (.own (.dic FF))) (i_ ru pa (pO nd) (pS (.int (mn:Nat))) (pO (.dic LL)) none p6 p7 p8) else .ok .next (i_ ru pa (pO (.dic FF)) (pS (.int (ln:Nat))) (pO (.dic LL)) none p6 p7 p8):=by
 rw[cV (δ1:=i_ ru pa (pO nd) (pS (.int (mn:Nat))) (pO (.dic [])) o5 o6 o7 o8) #v[au,gU]];rw[cV (δ1:=gA ru pa nd (.int (mn:Nat)) [] [] o6 o7 o8) #v[au,gU]];have i:aG (ah aw 0 (ar (eD (.int 2)))) (gA ru pa nd (.int (mn:Nat)) [] [] o6 o7 o8) = .ok B (gA ru pa nd (.int (mn:Nat)) [] [] o6 o7 o8):=by
  simp[df,ah,aV,ag,x2]
 rw[cV ((f9 i).trans e)];have l2:h_ (.dic LL)=pS (.int (ln:Nat)):=by
  show some (S.pure (.int (LL.length:Nat)))=_;rw[hl]
 have eq:cq (.int (ln:Nat)) (.int (mn:Nat))=pS (.bl (decide (ln=mn))):=by
  show some (S.pure (.bl ((ln:Int) == (mn:Int))))=_;have:((ln:Int) == (mn:Int))=decide (ln=mn):=by
   rw[U3];simp only[beq_iff_eq,decide_eq_true_eq];lia
  rw[this]
 generalize hA:D.int (ln:Nat)=A,hM:D.int (mn:Nat)=M at *;by_cases h:ln=mn
 ·rw[decide_eq_true h] at eq;rw[if_pos h,HX (δ1:=i_ ru pa (pO nd) (pS M) (pO (.dic LL)) none p6 p7 p8) (v:=.own (.dic FF)) #v[aF,ag,l2,eq,S.d,jl]]
 ·rw[decide_eq_false h] at eq;rw[if_neg h,cV (δ1:=gA ru pa nd M LL FF p6 p7 p8) #v[aF,ag,l2,eq,S.d]];simp[au,ag,l2,S.d,nY]
theorem IJ(R:bZ h w bs)(pa:D)(sg:Nat->Nat):∀ (fu k:Nat) (nd:D) (f:Nat->D) (o4 o5 o6 o7 o8:Option S),(f=fS\/f=fI)->(∀ p ∈ bs.map (·.1),iC nd (.str [p])=pS (f (nums (bs.map (·.1)) (aB bs) sg k p)))->bs.length + 1<=many (bs.map (·.1)) (aB bs) sg k + fu ->
  ∃ c δ',Res (bs.map (·.1)) (aB bs) sg c/\dB (aF (eD (.bl true))) wG (fu + 999000) (i_ (az h w bs) pa (pO nd) (pS (.int (many (bs.map (·.1)) (aB bs) sg k:Nat))) o4 o5 o6 o7 o8) = .ok (.ret (.own (.dic (FD c (bs.map (·.1)))))) ([pS (az h w bs),pS pa] ++ δ')
 | 0,k,nd,f,o4,o5,o6,o7,o8,hf,hn,hm=>by
  exfalso
  have:=VW (ts:=bs.map (·.1)) (tx:=aB bs) sg k;simp at this;lia
 | fu + 1,k,nd,f,o4,o5,o6,o7,o8,hf,hn,hm=>by
  obtain⟨p6,p7,p8,e⟩:=II R (az h w bs) pa nd (.int (many (bs.map (·.1)) (aB bs) sg k:Nat)) f hf (nums (bs.map (·.1)) (aB bs) sg k) hn bs [] o6 o7 o8 rfl;have st:=X5 (az h w bs) pa nd (many (bs.map (·.1)) (aB bs) sg k) (fN (bs.map (·.1)) (aB bs) (nums (bs.map (·.1)) (aB bs) sg k)).length (bs.map aN) _ _ gB o4 o5 o6 o7 o8 p6 p7 p8 (oA h w bs).2.2 (AE _ 0) e;have t1:∀ δ:Dl,aF (eD (.bl true)) δ = .ok true δ:=λδ=>#v[aF]
  rw[show fu + 1 + 999000=fu + 999000 + 1 by lia];by_cases hq:(fN (bs.map (·.1)) (aB bs) (nums (bs.map (·.1)) (aB bs) sg k)).length=many (bs.map (·.1)) (aB bs) sg k
  ·rw[if_pos hq] at st;exact⟨_,_,VZ (λt ht=>(jC R ht).2.2) (~~~R.n0) sg k hq,X4 (t1 _) st⟩
  ·rw[if_neg hq] at st;have up:=VX (ts:=bs.map (·.1)) (tx:=aB bs) sg k;have hu:many (bs.map (·.1)) (aB bs) sg k < many (bs.map (·.1)) (aB bs) sg (k + 1):=by
    have:many (bs.map (·.1)) (aB bs) sg (k + 1)=(fN (bs.map (·.1)) (aB bs) (nums (bs.map (·.1)) (aB bs) sg k)).length:=rfl;lia
   obtain⟨c,δ',rs,ih⟩:=IJ R pa sg fu (k + 1) (.dic (FD (gX (bs.map (·.1)) (aB bs) (nums (bs.map (·.1)) (aB bs) sg k)) (bs.map (·.1)))) fI (pO (.dic (dh f 0 (fN (bs.map (·.1)) (aB bs) (nums (bs.map (·.1)) (aB bs) sg k))))) none p6 p7 p8 (.inr rfl) (λp hp=>by
    have ea:∀ X Y,iC (.dic X) Y=if gv (gQ Y) X Y then(fJ X Y).map S.pure else none:=λX Y=>rfl
    rw[ea,IE,if_pos rfl,IF,if_pos hp];rfl) Y'
   exact⟨c,δ',rs,(vW (t1 _) st).trans ih⟩
def dU(ps:List (Nat×Nat))(t:Nat):Nat:=((ps.find? λp=>decide (p.1=t)).map (·.2)).getD 0
def f_(ps:List (Nat×Nat)):D:=.ay (ps.map λp=>((Sum.inr [p.1]:a7),D.str [p.2]))
theorem IK:∀ ps:List (Nat×Nat),iw (ps.map λp=>D.tup [.str [p.1],.str [p.2]])=some (ps.map λp=>((Sum.inr [p.1]:a7),D.str [p.2]))
 | []=>rfl
 | p :: r=>by
  have:=IK r;simp only[Wf];simp[iw,cA,this]
theorem vX(nd:(ps.map (·.1)).Nodup)(hl:ps.length<=1000):cO (du ps)=pO (f_ ps):=by
 unfold cO;simp only[IK,WT,Wn];rw[if_pos (by rw[cm]; lia),sV]
 ·rfl
 ·simp only[WQ,Ww];rw[Q2,J7];rw[Q2,J7] at nd;exact nd.imp λ{a b} hZ=> ~~~hZ
theorem sX(h:t ∈ ps.map (·.1)):aL (f_ ps) (.str [t])=pS (.str [dU ps t]):=by
 have hv:da (ps.map λp=>((Sum.inr [p.1]:a7),D.str [p.2])) (.inr [t])=(ps.find? λp=>decide (p.1=t)).map λp=>D.str [p.2]:=by
  unfold da;rw[Ue];simp[Function.comp_def]
 show((cA (.str [t])).bind λk=>(da (ps.map λp=>((Sum.inr [p.1]:a7),D.str [p.2])) k).map S.pure)=_;simp only[cA,WT,hv];unfold dU
 cases e:ps.find? λp=>decide (p.1=t)<;>grind
theorem X6(pa ru DP:D)(FF:List (D×D))(wg:DS)(δ':Dl)(hd:cO pa=pO DP)(e:dB (aF (eD (.bl true))) wg 1000000 (i_ ru pa (pO DP) (pS (.int 0)) none none none none none) = .ok (.ret (.own (.dic FF))) ([pS ru,pS pa] ++ δ')) :
  (aq (au (aA cO (ag 1)) (ae [] 2)) (aq (au (eD (.int 0)) (ae [] 3)) (dB (aF (eD (.bl true))) wg 1000000))) (i_ ru pa none none none none none none none) = .ok (.ret (.own (.dic FF))) ([pS ru,pS pa] ++ δ'):=by
 rw[cV (δ1:=i_ ru pa (pO DP) none none none none none none) #v[au,ag,hd,S.d]];rw[cV (δ1:=i_ ru pa (pO DP) (pS (.int 0)) none none none none none) #v[au]];exact e
theorem IL(e:b (bV n [.pure x,.pure y]) = .ok (.ret v) ([pS x,pS y] ++ δ')):bR [] n b [.pure x,.pure y]=some (v,[.pure x,.pure y]):=by
 rw[mR,e]; rfl
theorem X7(R:bZ h w bs)(hp:ps.map (·.1)=bs.map (·.1)):∃ c,Res (bs.map (·.1)) (aB bs) (dU ps) c/\ow [.pure (az h w bs),.pure (du ps)]=some (.own (.dic (FD c (bs.map (·.1)))),[.pure (az h w bs),.pure (du ps)]):=by
 have n1:=R.n1;have hl:ps.length=bs.length:=by simpa using congrArg Qp hp
 obtain⟨c,δ',rs,e⟩:=IJ R (du ps) (dU ps) 1000 0 (f_ ps) fS none none none none none (.inl rfl) (λp qP=>sX %[hp|qP]) Y';refine⟨c,rs,?_⟩;rw[ow,Hg];exact IL (X6 (du ps) (az h w bs) (f_ ps) _ wG δ' (vX %[hp|R.nd] Y') e)
theorem IM(c:Nat->Nat):∀ ts:List Nat,mG (FD c ts)=some (ts.map λt=>(([t]:Tx),((c t:Nat):Int)))
 | []=>rfl
 | t :: r=>by
  have:=IM c r;unfold FD at this ⊢;rw[Wf];simp[mG,this]
def AI(gs:List (List Nat)):List D:=gs.map λg=>D.tup (g.map λt=>.str [t])
theorem X8(GN:DF)(ru pa:D)(FF:List (D×D))(ps:List (Tx×Int))(hg:GN [.pure ru,.pure pa]=some (.own (.dic FF),[.pure ru,.pure pa]))(hp:mG FF=some ps)(hz:ps.length < Wa)(p:Tx×Int)(AJ:ps.getLast? = some p)(GG:List (D×D))(hG:mH (eZ ps)=GG)(YY:List D)
  (hc:cT [5] (ae [] 5) aZ (aA bT (ag 5)) (GG.map (·.2)) [pS ru,pS pa,pS (.dic GG),pS (.str p.1),pS (.int p.2),none] [] = .ok YY [pS ru,pS pa,pS (.dic GG),pS (.str p.1),pS (.int p.2),none]) :
  (aq (au gU (ae [] 2)) (aq (rV [] 2 3 4 (aE GN [.val (aa 0),.val (aa 1)])) (bU (bE [5] (rQ (aa 2)) (ae [] 5) aZ (aA bT (ag 5)))))) [pS ru,pS pa,none,none,none,none] = .ok (.ret (.own (.lst YY))) [pS ru,pS pa,pS (.dic GG),pS (.str p.1),pS (.int p.2),none]:=by
 rw[cV (δ1:=[pS ru,pS pa,pO (.dic []),none,none,none]) #v[au,gU]];rw[cV (δ1:=[pS ru,pS pa,pO (.dic GG),pS (.str p.1),pS (.int p.2),none]) (by
  simp[rV,aE,bF,cz,bY,aa,bJ,hg,bc,S.d,hp,hz,hG,vB,AJ])]
 simp[rQ,aa,S.d,bN,bz];rw[hc];simp[cS]
theorem X9(R:bZ h w bs)(hp:ps.map (·.1)=bs.map (·.1)):∃ c,Res (bs.map (·.1)) (aB bs) (dU ps) c/\qf [.pure (az h w bs),.pure (du ps)]=some (.own (.lst (AI (aQ [] ((bs.map (·.1)).map λt=>fit c (bs.map (·.1)) (c t))))),[.pure (az h w bs),.pure (du ps)]):=by
 have n1:=R.n1;obtain⟨c,rs,e⟩:=X7 R hp;refine⟨c,rs,?_⟩;have n0:0 < ((bs.map (·.1)).map λt=>(([t]:Tx),((c t:Nat):Int))).length:= ~~~R.n0
 obtain⟨p,AJ⟩:∃ p,((bs.map (·.1)).map λt=>(([t]:Tx),((c t:Nat):Int))).getLast? = some p:=by
  rw[List.getLast?_eq_getElem?];exact⟨_,Wb Y'⟩
 have gd:=V5 c (bs.map (·.1));have hlen:(eZ ((bs.map (·.1)).map λt=>(([t]:Tx),((c t:Nat):Int)))).length<=52:=by
  have:=(y_ ((bs.map (·.1)).map λt=>(([t]:Tx),((c t:Nat):Int))) _ (Wi _)).1;rw[QU] at this;simp only[Wn] at this;lia
 rw[qf,zA];refine vV (X8 ow (az h w bs) (du ps) _ _ e (IM c (bs.map (·.1))) (by simp only[Wn]; rw[cm]; lia) p AJ _ rfl _ ?_);have ev:(mH (eZ ((bs.map (·.1)).map λt=>(([t]:Tx),((c t:Nat):Int))))).map (·.2)=((eZ ((bs.map (·.1)).map λt=>(([t]:Tx),((c t:Nat):Int)))).map (·.2)).map λxs=>D.lst (xs.map .str):=by
  generalize eZ ((bs.map (·.1)).map λt=>(([t]:Tx),((c t:Nat):Int)))=GR;unfold mH;rw[Ww,Ww];rfl
 rw[ev];generalize hGG:mH (eZ ((bs.map (·.1)).map λt=>(([t]:Tx),((c t:Nat):Int))))=GG at *;rw[gd,Ww];have gu:(aQ [] ((bs.map (·.1)).map λt=>fit c (bs.map (·.1)) (c t))).length<=52:=by
  have:=congrArg Qp gd;rw[Wn,Wn] at this;lia
 generalize az h w bs=ru,du ps=pa at *;have:=jq (cs:=[5]) (g:=ae [] 5) (t:=aZ) (el:=aA bT (ag 5)) (λg:List Nat=>D.lst ((g.map λt=>([t]:Tx)).map .str)) (λg=>D.tup (g.map λt=>.str [t])) [pS ru,pS pa,pS (.dic GG),pS (.str p.1),pS (.int p.2),none] (aQ [] ((bs.map (·.1)).map λt=>fit c (bs.map (·.1)) (c t))) [] (by rw[cm,Jk]; lia) (λg hg=>by
  refine⟨_,_,.pure (.tup (g.map λt=>.str [t])),[pS ru,pS pa,pS (.dic GG),pS (.str p.1),pS (.int p.2),pS (.lst ((g.map λt=>([t]:Tx)).map .str))],rfl,rfl,?_,rfl,rfl⟩;have et:(g.map λt=>([t]:Tx)).map D.str=g.map λt=>D.str [t]:=by rw[Ww]; rfl
  rw[et];simp[ag,S.d,bT])
 exact this
abbrev vY:DE:=(ba (ax (aa 6) (ax (aa 7) aJ)))
abbrev IP:DS:=(aq (iV 5 vY (eD (.bl true))) (au (eD (.bl true)) (ae [] 8)))
abbrev PP:=List (Nat×Nat)
def kD(p:Nat×Nat):D:=.tup [.str [p.1],.str [p.2]]
def aP(P:PP)(R:RR):List (D×D):=P.map λp=>(kD p,.bl (R p))
theorem AK(a b:Nat×Nat):dI (kD a) (kD b)=decide (a=b):=by
 obtain⟨a1,a2⟩:=a;obtain⟨b1,b2⟩:=b;unfold kD;simp only[dI,jb];by_cases h1:a1=b1 <;> by_cases h2:a2=b2 <;> simp[h1,h2]
theorem vZ(P:PP)(R:RR)(p:Nat×Nat):gv (gQ (kD p)) (aP P R) (kD p)=true:=by
 unfold gv gQ aP kD;simp[h9,cJ,gH]
theorem v3(R:RR)(p:Nat×Nat):∀ P:PP,fJ (aP P R) (kD p)=if p ∈ P then some (.bl (R p)) else none
 | []=>rfl
 | a :: r=>by
  have ih:=v3 R p r;unfold fJ aP at ih ⊢;rw[Wf,WP];simp only[AK];grind
theorem IQ(R:RR)(p:Nat×Nat)(P:PP):((aP P R).any λq=>dI q.1 (kD p))=decide (p ∈ P):=by
 unfold aP;rw[JS,U3];simp only[List.any_eq_true,Function.comp,AK,decide_eq_true_eq];constructor
 ·rintro ⟨x,hx,rfl⟩; exact hx
 ·intro h; exact⟨p,h,rfl⟩
theorem X_(R:RR)(p:Nat×Nat)(P:PP)(h:p ∉ P):jv (aP P R) (kD p) (.bl (R p))=aP (P ++ [p]) R:=by
 unfold jv;rw[IQ,decide_eq_false h,if_neg Z5];unfold aP;simp
theorem Ya(R:RR)(p:Nat×Nat)(P:PP)(h:p ∈ P):jv (aP P R) (kD p) (.bl true)=aP P (kE R p):=by
 unfold jv;rw[IQ,decide_eq_true h,if_pos rfl];unfold aP;rw[Ww];refine Qf λq _=>?_
 simp only[Function.comp,AK];unfold kE;grind
theorem ne_str(a b:Nat):lq (.str [a]) (.str [b])=pS (.bl (!decide (a=b))):=by
 show some (S.pure (.bl (!(dI (.str [a]) (.str [b])))))=_;have:dI (.str [a]) (.str [b])=decide (a=b):=by
  simp only[dI];by_cases h:a=b <;> simp[h]
 rw[this]
abbrev bO(ru pa DP DX:D)(s4:S)(ap:List (D×D))(o6 o7 o8:Option S):Dl:=[pS ru,pS pa,pO DP,pO DX,some s4,pO (.dic ap),o6,o7,o8,none,none,none]
abbrev aI:DS:=(iV 5 vY (aH lq (ah aL 2 (ag 6)) (ar (ah aL 2 (ag 7)))))
def fO(ps:List (Nat×Nat)):RR:=λp=>!decide (dU ps p.1=dU ps p.2)
theorem Yb(ru pa DX:D)(ps:List (Nat×Nat))(s4:S)(P:PP)(t u:Nat)(ht:t ∈ ps.map (·.1))(hu:u ∈ ps.map (·.1))(hn:(t,u) ∉ P)(hz:P.length<=10000)(o8:Option S) :
  aI (bO ru pa (f_ ps) DX s4 (aP P (fO ps)) (pS (.str [t])) (pS (.str [u])) o8) = .ok .next (bO ru pa (f_ ps) DX s4 (aP (P ++ [(t,u)]) (fO ps)) (pS (.str [t])) (pS (.str [u])) o8):=by
 have x1:=sX ht;have x2:=sX hu;have ne:=ne_str (dU ps t) (dU ps u);have g:=vZ P (fO ps) (t,u);have pu:=X_ (fO ps) (t,u) P hn;have eb:fO ps (t,u) = !decide (dU ps t=dU ps u):=rfl;have z:(aP P (fO ps)).length < Wa:=by unfold aP; rw[Wn,cm]; lia
 rw[eb] at pu;rw[<- pu];have ek:kD (t,u) = .tup [.str [t],.str [u]]:=rfl;rw[ek] at g ⊢;generalize f_ ps=DP,aP P (fO ps)=AA,(!decide (dU ps t=dU ps u))=bb at *;simp[aI,iV,mD,ba,ax,aJ,aa,ah,aV,ag,x1,x2,ne,S.d,g,z]
theorem v5(ru pa DX:D)(ps:List (Nat×Nat))(s4:S)(t:Nat)(ht:t ∈ ps.map (·.1))(o8:Option S):∀ (r:List Nat) (P:PP) (o7:Option S),(∀ u ∈ r,u ∈ ps.map (·.1))->(P ++ r.map λu=>(t,u)).Nodup->P.length + r.length<=10000 ->
  ∃ o7',forL (ae [] 7) aI (r.map λu=>D.str [u]) (bO ru pa (f_ ps) DX s4 (aP P (fO ps)) (pS (.str [t])) o7 o8) = .ok .next (bO ru pa (f_ ps) DX s4 (aP (P ++ r.map λu=>(t,u)) (fO ps)) (pS (.str [t])) o7' o8)
 | [],P,o7,_,_,_=>⟨o7,Z5⟩
 | u :: r,P,o7,hr,nd,hz=>by
  have hn:(t,u) ∉ P:=λz=>(List.nodup_append.mp nd).2.2 (t,u) z (t,u) Wp rfl
  have st:=Yb ru pa DX ps s4 P t u ht (hr u Wp) hn (by simp at hz; lia) o8;obtain⟨o7',ih⟩:=v5 ru pa DX ps s4 t ht o8 r (P ++ [(t,u)]) (pS (.str [u])) (λx hx=>hr x (Wg _ hx)) (~~~nd) (by simp at hz ⊢; lia);refine⟨o7',?_⟩;rw[Wf,jB (δ1:=bO ru pa (f_ ps) DX s4 (aP P (fO ps)) (pS (.str [t])) (pS (.str [u])) o8) rfl st,ih];simp
abbrev aO:DS:=(bG (aG (aa 4)) (ae [] 7) aI)
theorem outer(ru pa DX:D)(ps:List (Nat×Nat))(us:List Nat)(IS:∀ u ∈ us,u ∈ ps.map (·.1))(o8:Option S):∀ (r:List Nat) (P:PP) (o6 o7:Option S),(∀ u ∈ r,u ∈ ps.map (·.1))->(P ++ r.flatMap λt=>us.map λu=>(t,u)).Nodup->P.length + r.length * us.length<=10000 ->
  ∃ cu o7',forL (ae [] 6) aO (r.map λu=>D.str [u]) (bO ru pa (f_ ps) DX (.pure (.lst (us.map λu=>.str [u]))) (aP P (fO ps)) o6 o7 o8) = .ok .next (bO ru pa (f_ ps) DX (.pure (.lst (us.map λu=>.str [u]))) (aP (P ++ r.flatMap λt=>us.map λu=>(t,u)) (fO ps)) cu o7' o8)
 | [],P,o6,o7,_,_,_=>⟨o6,o7,Z5⟩
 | t :: r,P,o6,o7,hr,nd,hz=>by
  rw[JP,<- Jq] at nd;rw[WS,Uw] at hz;obtain⟨o7a,e1⟩:=v5 ru pa DX ps (.pure (.lst (us.map λu=>.str [u]))) t (hr t Wp) o8 us P o7 IS (List.nodup_append.mp nd).1 Y';obtain⟨cu,o7',ih⟩:=outer ru pa DX ps us IS o8 r (P ++ us.map λu=>(t,u)) (pS (.str [t])) o7a (λx hx=>hr x (Wg _ hx)) nd (by rw[Qu,Wn]; lia);refine⟨cu,o7',?_⟩;have i:aG (aa 4) (bO ru pa (f_ ps) DX (.pure (.lst (us.map λu=>.str [u]))) (aP P (fO ps)) (pS (.str [t])) o7 o8) = .ok (us.map λu=>D.str [u]) (bO ru pa (f_ ps) DX (.pure (.lst (us.map λu=>.str [u]))) (aP P (fO ps)) (pS (.str [t])) o7 o8):=by
   generalize (us.map λu=>D.str [u])=UU;generalize aP P (fO ps)=AA;simp[df,aa]
  rw[Wf,jB (δ1:=bO ru pa (f_ ps) DX (.pure (.lst (us.map λu=>.str [u]))) (aP P (fO ps)) (pS (.str [t])) o7 o8) rfl ((f9 i).trans e1),ih,JP,Jq]
theorem IT:∀ l:List Bool,gM (l.map D.bl)=some l
 | []=>rfl
 | b :: r=>by
  rw[Wf];simp[gM,IT r]
def b_(bs:List (Nat×List Tx)):D:=.ay (bs.map λb=>((Sum.inr [b.1]:a7),D.str (aB bs b.1)))
theorem AL(h:t ∈ bs.map (·.1)):aL (b_ bs) (.str [t])=pS (.str (aB bs t)):=by
 have hv:da (bs.map λb=>((Sum.inr [b.1]:a7),D.str (aB bs b.1))) (.inr [t])=(bs.find? λp=>decide (p.1=t)).map λp=>D.str (aB bs p.1):=by
  unfold da;rw[Ue];simp[Function.comp_def]
 show((cA (.str [t])).bind λk=>(da (bs.map λb=>((Sum.inr [b.1]:a7),D.str (aB bs b.1))) k).map S.pure)=_;simp only[cA,WT,hv];obtain⟨b,hb,rfl,e,_⟩:=oE h;rw[e];rfl
def zX(x y:List Nat):List D:=ke (x.map λn=>D.str [n]) (y.map λn=>D.str [n])
abbrev cZ:DE:=(bE [9] (jy (ah aL 3 (ag 6)) (ah aL 3 (ag 7))) (ae [] 9) aZ (ah gy 5 (ag 9)))
abbrev zB:DS:=(cN (gI (aF (ah gy 5 (ar vY)))) (cN (aF (aA kU (ar cZ))) IP cR) cR)
theorem Yc(ru pa DP DX:D)(s4:S)(P:PP)(R:RR)(t u:Nat)(m:Bool)(x y:List Nat)(hx:x.length<=1000)(fY:∀ p ∈ x.zip y,p ∈ P) :
  cT [9] (ae [] 9) aZ (ah gy 5 (ag 9)) (zX x y) (bO ru pa DP DX s4 (aP P R) (pS (.str [t])) (pS (.str [u])) (pS (.bl m))) [] = .ok (((x.zip y).map R).map .bl) (bO ru pa DP DX s4 (aP P R) (pS (.str [t])) (pS (.str [u])) (pS (.bl m))):=by
 have ez:zX x y=(x.zip y).map kD:=by
  unfold zX ke;rw[List.zip_eq_zipWith,List.map_zipWith,List.zipWith_map];rfl
 rw[ez];have:=jq (cs:=[9]) (g:=ae [] 9) (t:=aZ) (el:=ah gy 5 (ag 9)) kD (λp=>D.bl (R p)) (bO ru pa DP DX s4 (aP P R) (pS (.str [t])) (pS (.str [u])) (pS (.bl m))) (x.zip y) [] (by rw[cm,List.length_zip]; simp; lia) (λp hp=>by
  have g:=vZ P R p;have v:=v3 R p P;rw[if_pos (fY p hp)] at v;have q:gy (.dic (aP P R)) (kD p)=pS (.bl (R p)):=by
   show(if gv (gQ (kD p)) (aP P R) (kD p) then(fJ (aP P R) (kD p)).map S.pure else none)=_;rw[g,if_pos rfl,v];rfl
  refine⟨_,_,.pure (.bl (R p)),[pS ru,pS pa,pO DP,pO DX,some s4,pO (.dic (aP P R)),pS (.str [t]),pS (.str [u]),pS (.bl m),pS (kD p),none,none],rfl,rfl,?_,rfl,rfl⟩;generalize aP P R=AA,kD p=kk at *;simp[ah,aV,ag,q,S.d])
 rw[this,Ww];rfl
theorem Yd(Ru:bZ h w bs)(ru pa DP:D)(s4:S)(P:PP)(hP:∀ t ∈ bs.map (·.1),∀ u ∈ bs.map (·.1),(t,u) ∈ P)(hz:P.length<=10000)(R:RR)(t u:Nat)(ht:t ∈ bs.map (·.1))(hu:u ∈ bs.map (·.1))(m:Bool) :
  zB (bO ru pa DP (b_ bs) s4 (aP P R) (pS (.str [t])) (pS (.str [u])) (pS (.bl m))) = .ok .next (bO ru pa DP (b_ bs) s4 (aP P (dm (aB bs) (R,m) (t,u)).1) (pS (.str [t])) (pS (.str [u])) (pS (.bl (dm (aB bs) (R,m) (t,u)).2))):=by
 obtain⟨l1,l2,l3⟩:=jC Ru ht;obtain⟨_,_,l4⟩:=jC Ru hu;have x1:=AL ht;have x2:=AL hu;have fY:∀ p ∈ (aB bs t).zip (aB bs u),p ∈ P:=λp hp=>by
  obtain⟨k,h1,h2⟩:=HS hp;exact hP p.1 (l3 _ (Wq h1)) p.2 (l4 _ (Wq h2))
 have hc:=Yc ru pa DP (b_ bs) s4 P R t u m (aB bs t) (aB bs u) Y' fY;have pP:kU (.lst ((((aB bs t).zip (aB bs u)).map R).map .bl))=pS (.bl (iY (aB bs) R (t,u))):=by
  show(gM _).map _=_;rw[IT];show some (S.pure (.bl ((((aB bs t).zip (aB bs u)).map R).any id)))=_;unfold iY;rw[JS];rfl
 have g:=vZ P R (t,u);have v:=v3 R (t,u) P;rw[if_pos (hP t ht u hu)] at v;have q:gy (.dic (aP P R)) (.tup [.str [t],.str [u]])=pS (.bl (R (t,u))):=by
  show(if gv (gQ (kD (t,u))) (aP P R) (kD (t,u)) then(fJ (aP P R) (kD (t,u))).map S.pure else none)=_;rw[g,if_pos rfl,v];rfl
 have pu:=Ya R (t,u) P (hP t ht u hu);have z:(aP P R).length < Wa:=by unfold aP; rw[Wn,cm]; lia
 have ek:kD (t,u) = .tup [.str [t],.str [u]]:=rfl;rw[ek] at g pu;have e1:(aF (ah gy 5 (ar vY))) (bO ru pa DP (b_ bs) s4 (aP P R) (pS (.str [t])) (pS (.str [u])) (pS (.bl m))) = .ok (R (t,u)) (bO ru pa DP (b_ bs) s4 (aP P R) (pS (.str [t])) (pS (.str [u])) (pS (.bl m))):=by
  generalize aP P R=AA,b_ bs=DX,R (t,u)=bb at *;simp[aF,ah,aV,ag,ba,ax,aJ,aa,q,S.d]
 have e2:(aF (aA kU (ar cZ))) (bO ru pa DP (b_ bs) s4 (aP P R) (pS (.str [t])) (pS (.str [u])) (pS (.bl m))) = .ok (iY (aB bs) R (t,u)) (bO ru pa DP (b_ bs) s4 (aP P R) (pS (.str [t])) (pS (.str [u])) (pS (.bl m))):=by
  have ci:jy (ah aL 3 (ag 6)) (ah aL 3 (ag 7)) (bO ru pa DP (b_ bs) s4 (aP P R) (pS (.str [t])) (pS (.str [u])) (pS (.bl m))) = .ok (zX (aB bs t) (aB bs u)) (bO ru pa DP (b_ bs) s4 (aP P R) (pS (.str [t])) (pS (.str [u])) (pS (.bl m))):=by
   generalize aP P R=AA,b_ bs=DX at *;simp[jy,ah,aV,ag,x1,x2,S.d,ly,zX]
  have cc:cZ (bO ru pa DP (b_ bs) s4 (aP P R) (pS (.str [t])) (pS (.str [u])) (pS (.bl m))) = .ok (.own (.lst ((((aB bs t).zip (aB bs u)).map R).map .bl))) (bO ru pa DP (b_ bs) s4 (aP P R) (pS (.str [t])) (pS (.str [u])) (pS (.bl m))):=by
   unfold cZ;rw[Ry,ci];simp only[eS];have fV:([9]:List Nat).any (bN (bO ru pa DP (b_ bs) s4 (aP P R) (pS (.str [t])) (pS (.str [u])) (pS (.bl m))))=false:=rfl;have lr:bz [9] (bO ru pa DP (b_ bs) s4 (aP P R) (pS (.str [t])) (pS (.str [u])) (pS (.bl m)))=bO ru pa DP (b_ bs) s4 (aP P R) (pS (.str [t])) (pS (.str [u])) (pS (.bl m)):=rfl;rw[fV,lr,hc];rfl
  have c':aA kU (ar cZ) (bO ru pa DP (b_ bs) s4 (aP P R) (pS (.str [t])) (pS (.str [u])) (pS (.bl m))) = .ok (.pure (.bl (iY (aB bs) R (t,u)))) (bO ru pa DP (b_ bs) s4 (aP P R) (pS (.str [t])) (pS (.str [u])) (pS (.bl m))):=by
   generalize ((((aB bs t).zip (aB bs u)).map R).map D.bl)=YY at *;unfold aA ar;rw[cc];simp[S.d,pP]
  unfold aF;rw[c'];simp
 unfold dm;by_cases h1:R (t,u)=true
 ·simp_all
 ·rw[if_neg h1];rw[Bool.eq_false_iff.mpr h1] at e1;by_cases h2:iY (aB bs) R (t,u)=true
  ·rw[if_pos h2];rw[h2] at e2;have e3:IP (bO ru pa DP (b_ bs) s4 (aP P R) (pS (.str [t])) (pS (.str [u])) (pS (.bl m))) = .ok .next (bO ru pa DP (b_ bs) s4 (aP P (kE R (t,u))) (pS (.str [t])) (pS (.str [u])) (pS (.bl true))):=by
    rw[<- pu];generalize aP P R=AA,b_ bs=DX at *;simp[aq,iV,mD,ba,ax,aJ,aa,S.d,g,z,au]
   simp_all
  simp_all
abbrev AM:DE:=(ba (ax (aa 10) (ax (aA (cx []) (ag 11)) aJ)))
abbrev AN:DG:=(bX 2 (aW (ae [] 10) (aW (ae [] 11) ck)))
abbrev IU:DG:=(bX 2 (aW (ae [] 6) (aW (ae [] 7) ck)))
theorem IV(Ru:bZ h w bs)(ru pa DP:D)(s4:S)(P:PP)(hP:∀ t ∈ bs.map (·.1),∀ u ∈ bs.map (·.1),(t,u) ∈ P)(hz:P.length<=10000):∀ (Q:PP) (s:RR×Bool) (o6 o7:Option S),(∀ p ∈ Q,p.1 ∈ bs.map (·.1)/\p.2 ∈ bs.map (·.1)) ->
  ∃ cu o7',forL IU zB (Q.map kD) (bO ru pa DP (b_ bs) s4 (aP P s.1) o6 o7 (pS (.bl s.2))) = .ok .next (bO ru pa DP (b_ bs) s4 (aP P (fq (aB bs) Q s).1) cu o7' (pS (.bl (fq (aB bs) Q s).2)))
 | [],s,o6,o7,_=>⟨o6,o7,rfl⟩
 | p :: Q,s,o6,o7,hQ=>by
  have st:=Yd Ru ru pa DP s4 P hP hz s.1 p.1 p.2 (hQ p Wp).1 (hQ p Wp).2 s.2;obtain⟨cu,o7',ih⟩:=IV Ru ru pa DP s4 P hP hz Q (dm (aB bs) s p) (pS (.str [p.1])) (pS (.str [p.2])) λq hq=>hQ q (Wg _ hq)
  refine⟨cu,o7',?_⟩;rw[Wf,jB (δ1:=bO ru pa DP (b_ bs) s4 (aP P s.1) (pS (.str [p.1])) (pS (.str [p.2])) (pS (.bl s.2))) rfl st];exact ih
abbrev wA:DS:=(aq (au (eD (.bl false)) (ae [] 8)) (bG (aG (aA n5 (ag 5))) IU zB))
theorem IW(Ru:bZ h w bs)(ru pa DP:D)(s4:S)(sg:Nat->Nat)(P:PP)(hP:∀ t ∈ bs.map (·.1),∀ u ∈ bs.map (·.1),(t,u) ∈ P)(hQ:∀ p ∈ P,p.1 ∈ bs.map (·.1)/\p.2 ∈ bs.map (·.1))(hz:P.length<=10000):∀ (fu:Nat) (R:RR) (o6 o7:Option S),nf P R < fu->oz (bs.map (·.1)) (aB bs) sg R->(∀ t ∈ bs.map (·.1),∀ u ∈ bs.map (·.1),sg t≠sg u->R (t,u)=true) ->
  ∃ R' cu o7',oz (bs.map (·.1)) (aB bs) sg R'/\(∀ t ∈ bs.map (·.1),∀ u ∈ bs.map (·.1),sg t≠sg u->R' (t,u)=true)/\(∀ t ∈ bs.map (·.1),∀ u ∈ bs.map (·.1),R' (t,u)=false->iY (aB bs) R' (t,u)=false) /\
   dB (aF (aa 8)) wA (fu + 980000) (bO ru pa DP (b_ bs) s4 (aP P R) o6 o7 (pS (.bl true))) = .ok .next (bO ru pa DP (b_ bs) s4 (aP P R') cu o7' (pS (.bl false)))
 | 0,R,o6,o7,hn,_,_=>by lia
 | fu + 1,R,o6,o7,hn,snd,base=>by
  obtain⟨p6,p7,e⟩:=IV Ru ru pa DP s4 P hP hz P (R,false) o6 o7 hQ;have t1:∀ (b:Bool) (A:List (D×D)) (o6 o7:Option S),aF (aa 8) (bO ru pa DP (b_ bs) s4 A o6 o7 (pS (.bl b))) = .ok b (bO ru pa DP (b_ bs) s4 A o6 o7 (pS (.bl b))):=λb A o6 o7=>by
   generalize b_ bs=DX;simp[aF,aa]
  have bd:wA (bO ru pa DP (b_ bs) s4 (aP P R) o6 o7 (pS (.bl true))) = .ok .next (bO ru pa DP (b_ bs) s4 (aP P (fq (aB bs) P (R,false)).1) p6 p7 (pS (.bl (fq (aB bs) P (R,false)).2))):=by
   rw[wA,cV (δ1:=bO ru pa DP (b_ bs) s4 (aP P R) o6 o7 (pS (.bl false))) (by
    generalize b_ bs=DX;generalize aP P R=AA;simp[au])]
   refine(f9 (ds:=P.map kD) ?_).trans e;have hl:n5 (.dic (aP P R))=pO (.lst (P.map kD)):=by
    show some (S.own (.lst ((aP P R).map (·.1))))=_;unfold aP;rw[Ww];rfl
   show aG (aA n5 (ag 5)) (bO ru pa DP (b_ bs) s4 (aP P R) o6 o7 (pS (.bl false))) = .ok (P.map kD) (bO ru pa DP (b_ bs) s4 (aP P R) o6 o7 (pS (.bl false)));generalize P.map kD=KK,aP P R=AA,b_ bs=DX at *;simp[df,ag,hl,S.d]
  have mono:∀ q,R q=true->(fq (aB bs) P (R,false)).1 q=true:=λq hq=>Ae P (R,false) hq
  rw[show fu + 1 + 980000=fu + 980000 + 1 by lia]
  cases hm:(fq (aB bs) P (R,false)).2 with
  | true =>
   rw[hm] at bd;have lt:=HR mono P (Af P (R,false) rfl hm);obtain⟨R',cu,o7',a,b,c,ih⟩:=IW Ru ru pa DP s4 sg P hP hQ hz fu (fq (aB bs) P (R,false)).1 p6 p7 Y' (HU (λt ht=>(jC Ru ht).2.2) P (R,false) hQ snd) λt ht u hu cw=>mono _ (base t ht u hu cw)
   exact⟨R',cu,o7',a,b,c,(vW (t1 true _ _ _) bd).trans ih⟩
  | false =>
   rw[hm] at bd;have IX:=HP P (R,false) hm;rw[IX.1] at bd;refine⟨R,p6,p7,snd,base,λt ht u hu hr=>IX.2.2 (t,u) (hP t ht u hu) hr,(vW (t1 true _ _ _) bd).trans ?_⟩;rw[show fu + 980000=fu + 979999 + 1 by lia];exact Ir (t1 false _ _ _)
def dC(ts:List Nat):PP:=ts.flatMap λt=>ts.map λu=>(t,u)
theorem AO:p ∈ dC ts ↔ p.1 ∈ ts/\p.2 ∈ ts:=by
 unfold dC;rw[List.mem_flatMap];constructor
 ·rintro ⟨t,ht,h⟩;obtain⟨u,hu,rfl⟩:=WA.mp h;exact⟨ht,hu⟩
 ·rintro ⟨h1,h2⟩;exact⟨p.1,h1,WA.mpr ⟨p.2,h2,rfl⟩⟩
theorem IY(us:List Nat)(hu:us.Nodup):∀ ts:List Nat,ts.Nodup->(ts.flatMap λt=>us.map λu=>(t,u)).Nodup
 | [],_=>List.nodup_nil
 | t :: r,h=>by
  obtain⟨n1,n2⟩:=WN.mp h;rw[JP];refine Uj.mpr ⟨?_,IY us hu r n2,λa ha b hb e=>?_⟩
  ·rw[Q2,J7];rw[Q2] at hu;exact hu.imp λ{a b} hZ z=>hZ (congrArg Prod.snd z)
  ·obtain⟨u,_,rfl⟩:=WA.mp ha;obtain⟨t',nj,h'⟩:=List.mem_flatMap.mp hb;obtain⟨u',_,rfl⟩:=WA.mp h';have:t=t':=congrArg Prod.fst e;exact n1 %[this|nj]
theorem IZ(us:List Nat):∀ ts:List Nat,(ts.flatMap λt=>us.map λu=>(t,u)).length=ts.length * us.length
 | []=>by simp
 | t :: r=>by
  rw[JP,Qu,IZ us r,Wn,WS,Uw];lia
theorem I_(F:Nat->Tx):∀ bs:List (Nat×List Tx),iw (bs.map λb=>D.tup [.str [b.1],.str (F b.1)])=some (bs.map λb=>((Sum.inr [b.1]:a7),D.str (F b.1)))
 | []=>rfl
 | b :: r=>by
  have:=I_ F r;simp only[Wf];simp[iw,cA,this]
theorem J_(R:bZ h w bs):cO (.lst (bs.map λb=>D.tup [.str [b.1],.str (aB bs b.1)]))=pO (b_ bs):=by
 have n1:=R.n1;unfold cO;simp only[I_ (aB bs),WT,Wn];rw[if_pos (by rw[cm]; lia),sV]
 ·rfl
 ·simp only[WQ,Ww];have nd:=R.nd;rw[Q2,J7] at nd ⊢;exact nd.imp λ{a b} hZ=> ~~~hZ
theorem Ye(R:bZ h w bs)(ru pa DP:D):cT [10,11] AN aZ AM (bs.map aN) [pS ru,pS pa,pO DP,none,none,none,none,none,none,none,none,none] [] = .ok (bs.map λb=>D.tup [.str [b.1],.str (aB bs b.1)]) [pS ru,pS pa,pO DP,none,none,none,none,none,none,none,none,none]:=by
 have n1:=R.n1;have:=jq (cs:=[10,11]) (g:=bX 2 (aW (ae [] 10) (aW (ae [] 11) ck))) (t:=aZ) (el:=ba (ax (aa 10) (ax (aA (cx []) (ag 11)) aJ))) aN (λb=>D.tup [.str [b.1],.str (aB bs b.1)]) [pS ru,pS pa,pO DP,none,none,none,none,none,none,none,none,none] bs [] (by rw[cm]; simp; lia) (λb hb=>by
  have j:=AH R hb;refine⟨[pS ru,pS pa,pO DP,none,none,none,none,none,none,none,pS (.str [b.1]),pS (bS b.2)],_,.pure (.tup [.str [b.1],.str (aB bs b.1)]),[pS ru,pS pa,pO DP,none,none,none,none,none,none,none,pS (.str [b.1]),pS (bS b.2)],rfl,rfl,?_,rfl,rfl⟩;generalize bS b.2=FB at *;simp[ba,ax,aJ,aa,ag,j,S.d])
 rw[this];rfl
theorem Yf{bs:List (Nat×List Tx)}(hn:bs.length<=52)(ru pa DP DX:D):cT [9] (ae [] 9) aZ (ah aw 9 (ar (eD (.int 0)))) (bs.map aN) [pS ru,pS pa,pO DP,pO DX,none,none,none,none,none,none,none,none] [] = .ok ((bs.map (·.1)).map λt=>D.str [t]) [pS ru,pS pa,pO DP,pO DX,none,none,none,none,none,none,none,none]:=by
 have:=jq (cs:=[9]) (g:=ae [] 9) (t:=aZ) (el:=ah aw 9 (ar (eD (.int 0)))) aN (λb=>D.str [b.1]) [pS ru,pS pa,pO DP,pO DX,none,none,none,none,none,none,none,none] bs [] (by rw[cm]; simp; lia) (λb hb=>by
  have q:aw (aN b) (.int 0)=pS (.str [b.1]):=#v[aw,dE,fD]
  refine⟨_,_,.pure (.str [b.1]),[pS ru,pS pa,pO DP,pO DX,none,none,none,none,none,pS (aN b),none,none],rfl,rfl,?_,rfl,rfl⟩;generalize aN b=B at *;simp[ah,aV,ag,q])
 rw[this,Ww];rfl
abbrev iI(ru pa:D)(s2 s3 s4 s5 s6 s7 s8:Option S):Dl:=[pS ru,pS pa,s2,s3,s4,s5,s6,s7,s8,none,none,none]
theorem Yg(ru pa DP DX:D)(B XX TT:List D)(A1 A2:List (D×D))(ao zb:DS)(o6 o7 p6 p7:Option S)(x2:aw ru (.int 2)=pS (.tup B))(hd:cO pa=pO DP)(hx:cO (.lst XX)=pO DX)
  (c1:cT [10,11] AN aZ AM B (iI ru pa (pO DP) none none none none none none) [] = .ok XX (iI ru pa (pO DP) none none none none none none))
  (c2:cT [9] (ae [] 9) aZ (ah aw 9 (ar (eD (.int 0)))) B (iI ru pa (pO DP) (pO DX) none none none none none) [] = .ok TT (iI ru pa (pO DP) (pO DX) none none none none none))
  (e1:forL (ae [] 6) ao TT (bO ru pa DP DX (.pure (.lst TT)) [] none none none) = .ok .next (bO ru pa DP DX (.pure (.lst TT)) A1 o6 o7 none))
  (e2:dB (aF (aa 8)) zb 1000000 (bO ru pa DP DX (.pure (.lst TT)) A1 o6 o7 (pS (.bl true))) = .ok .next (bO ru pa DP DX (.pure (.lst TT)) A2 p6 p7 (pS (.bl false)))) :
  (aq (au (aA cO (ag 1)) (ae [] 2)) (aq (au (aA cO (ar (bE [10,11] (aG (ah aw 0 (ar (eD (.int 2))))) AN aZ AM))) (ae [] 3)) (aq (au (bE [9] (aG (ah aw 0 (ar (eD (.int 2))))) (ae [] 9) aZ (ah aw 9 (ar (eD (.int 0))))) (ae [] 4)) (aq (au gU (ae [] 5)) (aq (bG (aG (aa 4)) (ae [] 6) ao) (aq (au (eD (.bl true)) (ae [] 8)) (aq (dB (aF (aa 8)) zb 1000000) (jl [] 5)))))))) (iI ru pa none none none none none none none) = .ok (.ret (.own (.dic A2))) ([pS ru,pS pa] ++ [pO DP,pO DX,pS (.lst TT),none,p6,p7,pS (.bl false),none,none,none]):=by
 have i2:∀ a b c d e f g,aG (ah aw 0 (ar (eD (.int 2)))) (iI ru pa a b c d e f g) = .ok B (iI ru pa a b c d e f g):=λa b c d e f g=>#v[df,ah,aV,ag,x2]
 rw[cV (δ1:=iI ru pa (pO DP) none none none none none none) #v[au,ag,hd,S.d]];rw[cV (δ1:=iI ru pa (pO DP) (pO DX) none none none none none) (by
  have j:=i2 (pO DP) none none none none none none;unfold iI at j c1 ⊢;simp[au,j,bN,bz];rw[c1];simp[cS,hx,S.d])]
 rw[cV (δ1:=iI ru pa (pO DP) (pO DX) (pO (.lst TT)) none none none none) (by
  have j:=i2 (pO DP) (pO DX) none none none none none;unfold iI at j c2 ⊢;simp[au,j,bN,bz];rw[c2];simp[cS])]
 rw[cV (δ1:=iI ru pa (pO DP) (pO DX) (pO (.lst TT)) (pO (.dic [])) none none none) #v[au,gU]];have i:aG (aa 4) (iI ru pa (pO DP) (pO DX) (pO (.lst TT)) (pO (.dic [])) none none none) = .ok TT (bO ru pa DP DX (.pure (.lst TT)) [] none none none):=#v[df,aa]
 rw[cV ((f9 i).trans e1)];rw[cV (δ1:=bO ru pa DP DX (.pure (.lst TT)) A1 o6 o7 (pS (.bl true))) #v[au]];rw[cV e2];simp[jl]
theorem Yh(R:bZ h w bs)(hp:ps.map (·.1)=bs.map (·.1)):∃ A,(∀ c,Res (bs.map (·.1)) (aB bs) (dU ps) c->∀ t ∈ bs.map (·.1),∀ u ∈ bs.map (·.1),A (t,u) = !decide (c t=c u)) /\
  su [.pure (az h w bs),.pure (du ps)]=some (.own (.dic (aP (dC (bs.map (·.1))) A)),[.pure (az h w bs),.pure (du ps)]):=by
 have n1:bs.length<=52:=Qc R.n1 Z';have hl:ps.length=bs.length:=by simpa using congrArg Qp hp
 have cg:(bs.map (·.1)).length=bs.length:=by simp
 have hsq:bs.length * bs.length<=52 * 52:=Nat.mul_le_mul n1 n1;have hlen:(dC (bs.map (·.1))).length<=2704:=by
  unfold dC;rw[IZ,cg];lia
 have iX:∀ u ∈ bs.map (·.1),u ∈ ps.map (·.1):=λu hu=>%[hp|hu]
 obtain⟨o6,o7,e1⟩:=outer (az h w bs) (du ps) (b_ bs) ps (bs.map (·.1)) iX none (bs.map (·.1)) [] none none iX %[WQ|IY _ R.nd _ R.nd] (by rw[cg,Jk]; lia);rw[WQ] at e1;have hP:∀ t ∈ bs.map (·.1),∀ u ∈ bs.map (·.1),(t,u) ∈ dC (bs.map (·.1)):=λt ht u hu=>AO.mpr ⟨ht,hu⟩
 have Yi:nf (dC (bs.map (·.1))) (fO ps) < 20000:=by
  have:=List.length_filter_le (λp=>!fO ps p) (dC (bs.map (·.1)));unfold nf;lia
 obtain⟨A,p6,p7,snd,base,closed,e2⟩:=IW R (az h w bs) (du ps) (f_ ps) (.pure (.lst ((bs.map (·.1)).map λu=>.str [u]))) (dU ps) (dC (bs.map (·.1))) hP (λp hp=>AO.mp hp) Y' 20000 (fO ps) o6 o7 Yi (λN hN t ht u hu hn=>by
   show(!decide (dU ps t=dU ps u))=false;rw[decide_eq_true (hN t ht u hu hn).1];rfl) (λt ht u hu cw=>by
   show(!decide (dU ps t=dU ps u))=true;rw[decide_eq_false cw];rfl)
 refine⟨A,λc rs t ht u hu=>V3 (λt ht=>(jC R ht).2.2) (λt ht u hu=>by rw[(jC R ht).1,(jC R hu).1]) rs base closed snd t ht u hu,?_⟩;rw[su,G7];exact IL (Yg (az h w bs) (du ps) (f_ ps) (b_ bs) (bs.map aN) _ _ _ _ aO wA o6 o7 p6 p7 (oA h w bs).2.2 (vX %[hp|R.nd] Y') (J_ R) (Ye R _ _ _) (Yf n1 _ _ _ _) e1 e2)
abbrev AQ:DE:=(aH aw (ah aL 0 (ag 6)) (ag 5))
theorem Yj(xs:List Tx)(i:Nat)(h:i < xs.length):aw (bS xs) (.int i)=pS (.str xs[i]):=by
 show(dE (xs.map D.str) (i:Int)).map S.pure=_;rw[iA];simp[h]
theorem Ka(xs:List Tx)(h:iq xs<=16777216):cx [] (.lst (xs.map .str))=pS (.str xs.flatten):=by
 unfold cx;simp only[pL,vh];rw[if_pos (~~~h)]
def fz(bs:List (Nat×List Tx)):D:=.ay (bs.map λb=>((Sum.inr [b.1]:a7),bS b.2))
theorem Kb:∀ bs:List (Nat×List Tx),iw (bs.map aN)=some (bs.map λb=>((Sum.inr [b.1]:a7),bS b.2))
 | []=>rfl
 | b :: r=>by
  have:=Kb r;simp only[Wf];simp[aN,iw,cA,this]
theorem Kc(R:bZ h w bs):cO (.tup (bs.map aN))=pO (fz bs):=by
 have n1:=R.n1;unfold cO;simp only[Kb,WT,Wn];rw[if_pos (by rw[cm]; lia),sV]
 ·rfl
 ·simp only[WQ,Ww];have nd:=R.nd;rw[Q2,J7] at nd ⊢;exact nd.imp λ{a b} hZ=> ~~~hZ
theorem Kd(h:t ∈ bs.map (·.1)):da (bs.map λb=>((Sum.inr [b.1]:a7),bS b.2)) (.inr [t])=some (bS (cU bs t)):=by
 unfold da;rw[Ue];obtain⟨b,hb,rfl,e,e2⟩:=oE h;simp[Function.comp_def,e,e2]
theorem Ke(h:t ∈ bs.map (·.1)):aL (fz bs) (.str [t])=pS (bS (cU bs t)):=by
 show((cA (.str [t])).bind λk=>(da (bs.map λb=>((Sum.inr [b.1]:a7),bS b.2)) k).map S.pure)=_;simp[cA,Kd h]
theorem Yk(h:t ∈ bs.map (·.1)):eR true (.str [t]) (fz bs)=pS (.bl false):=by
 show((cA (.str [t])).map λk=>S.pure (.bl (if true then !(da (bs.map λb=>((Sum.inr [b.1]:a7),bS b.2)) k).isSome else _)))=_;simp[cA,Kd h]
theorem Yl(R:bZ h w bs):sv [.pure (az h w bs)]=some (.own (.lst ((bs.map (·.1)).map λt=>D.str [t])),[.pure (az h w bs)]):=by
 have x2:=(oA h w bs).2.2;have hn:=R.n1;generalize az h w bs=ru at *;have e:=jq (cs:=[1,2]) (g:=(bX 2 (aW (ae [] 1) (aW (ae [] 2) ck)))) (t:=aZ) (el:=aa 1) aN (λb:Nat×List Tx=>D.str [b.1]) [pS ru,none,none] bs [] (by rw[cm]; simp; lia) (λb hb=>⟨_,_,.pure (D.str [b.1]),[pS ru,pS (.str [b.1]),pS (bS b.2)],rfl,rfl,rfl,rfl,rfl⟩);rw[sv,mR,G9];simp[cy,bV,ah,aV,ag,x2,df,bN,bz];rw[e];simp[cS,cH,cf,Function.comp_def]
theorem Kf(δ:Dl)(e:DE)(h:e δ = .ok (.pure (.int 1)) δ):cY e δ = .ok [.int 0] δ:=by
 unfold cY;rw[h];rfl
theorem AR(h1:g (.pure d) δ=some δ1)(h2:b δ1 = .ok .next δ2):forL g b [d] δ = .ok .next δ2:=by
 rw[jB h1 h2];rfl
theorem Kg(f:Nat)(hf:f<=100):qc [.pure (.int 1),.pure (.int f),.pure (.int 1)]=some (.pure (.int f),[.pure (.int 1),.pure (.int f),.pure (.int 1)]):=by
 have m:eF (.int 1) (.int f)=pS (.int f):=by
  have c:jd 1 f=true:=#v[jd]
  simp[eF,oW,fF,c]
 rw[qc,Hc];generalize (f:Int)=z at *;refine gR (δ1:=[pS (.int z),pS (.int z),pS (.int 1),pS (.int 0)]) (c7 (δ1:=[pS (.int z),pS (.int z),pS (.int 1),pS (.int 0)]) rfl ?_) rfl rfl;rw[f9 (Kf _ (aa 2) rfl)];refine AR rfl ?_;simp[bV,au,ah,aV,ag,m]
theorem Ym(a b:Nat)(ha:a<=64)(hb:b<=64):sA [.pure (.int a),.pure (.int b),.pure (.int 64)]=some (.pure .bp,[.pure (.int a),.pure (.int b),.pure (.int 64)]):=by
 have h1:iO (.int a) (.int 64)=pS (.bl false):=by simp[iO,cK]; lia
 have h2:iO (.int b) (.int 64)=pS (.bl false):=by simp[iO,cK]; lia
 rw[sA,mR,Hb];simp[cy,bV,aF,ah,aV,ag,h1,h2,cH,cf]
theorem Yn(h:t ∈ bs.map (·.1)):sy [.pure (fz bs),.pure (.tup [.str [t]])]=some (.pure .bp,[.pure (fz bs),.pure (.tup [.str [t]])]):=by
 have j:cx [] (.tup [.str [t]])=pS (.str [t]):=Iq [[t]] #v[iq];have q:=Yk h;rw[sy,mR,G_];generalize fz bs=DB,D.tup [.str [t]]=F at *;simp[cy,bV,bG,df,ag,j,forL,aF,aa,q,cH,cf]
abbrev lB:DS:=(cb 3 (aA (cx []) (ar (bE [6] (aG (aa 4)) (ae [] 6) aZ AQ))))
theorem Yo(R:bZ h w bs)(ht:t ∈ bs.map (·.1)):sC [.pure (fz bs),.pure (.int h),.pure (.tup [.str [t]])]=some (.pure (bS (cU bs t)),[.pure (fz bs),.pure (.int h),.pure (.tup [.str [t]])]):=by
 have q:=Ke ht;obtain⟨b,hb,rfl,_,eb⟩:=oE ht;obtain⟨b1,b2⟩:=R.cU b hb;have h1:=R.h1;have w1:=R.w1;rw[eb] at q ⊢;generalize fz bs=DB,hz:D.str [b.1]=z at *;rw[sC,Hd];have v5:=jn (g:=ae [] 5) (b:=lB) (λi δ=>∃ o5,δ=[pS DB,pS (.int h),pS (.tup [z]),pO (.lst ((b.2.take i).map .str)),pS z,o5,none]) (dA 0 h) 0 [pS DB,pS (.int h),pS (.tup [z]),pO (.lst []),pS z,none,none] ⟨none,rfl⟩ (λi d δ hd ⟨o5,e⟩=>by
  subst e;obtain⟨hi,rfl⟩:=rM hd;rw[WU];have nH:i < b.2.length:=by lia
  have hx:aw (bS b.2) (.int i)=pS (.str b.2[i]):=Yj b.2 i nH;have hj:cx [] (.lst [.str b.2[i]])=pS (.str b.2[i]):=by
   have:=Ka [b.2[i]] (by have:=(b2 _ (QE nH)).1; simp[iq]; lia);simpa using this
  have et:(b.2.take (i + 1)).map D.str=(b.2.take i).map D.str ++ [.str b.2[i]]:=by rw[Qx,WR]; simp[nH]
  have ec:bE [6] (aG (aa 4)) (ae [] 6) aZ AQ [pS DB,pS (.int h),pS (.tup [z]),pO (.lst ((b.2.take i).map .str)),pS z,pS (.int i),none] = .ok (.own (.lst [.str b.2[i]])) [pS DB,pS (.int h),pS (.tup [z]),pO (.lst ((b.2.take i).map .str)),pS z,pS (.int i),none]:=by
   have eq:aG (aa 4) [pS DB,pS (.int h),pS (.tup [z]),pO (.lst ((b.2.take i).map .str)),pS z,pS (.int i),none] = .ok ([z].map λx=>x) [pS DB,pS (.int h),pS (.tup [z]),pO (.lst ((b.2.take i).map .str)),pS z,pS (.int i),none]:=by
    rw[<- hz];simp[df,aa,S.d]
   refine(cM (λx=>x) (λ_=>D.str b.2[i]) eq Z5 (λa ha=>?_)).trans rfl;have:a=z:= ~~~ha
   subst this;refine⟨[pS DB,pS (.int h),pS (.tup [a]),pO (.lst ((b.2.take i).map .str)),pS a,pS (.int i),pS a],_,.pure (.str b.2[i]),[pS DB,pS (.int h),pS (.tup [a]),pO (.lst ((b.2.take i).map .str)),pS a,pS (.int i),pS a],rfl,rfl,?_,rfl,rfl⟩;generalize (b.2.take i).map D.str=TT,bS b.2=FB at *;simp[aH,ah,aV,ag,q,hx,S.d]
  have hl:((b.2.take i).map D.str).length < Wa:=by rw[cm]; simp; lia
  refine⟨_,_,rfl,?_,pS (.int i),rfl⟩;rw[et];generalize (b.2.take i).map D.str=TT at *;unfold lB;generalize bE [6] (aG (aa 4)) (ae [] 6) aZ AQ=E at *;simp[cb,ec,hj,fX,putL,hl,S.d])
 obtain⟨δ',e1,o5,e2⟩:=v5;rw[WU,EM,QT Y'] at e2;subst e2;have hr:cY (aa 1) [pS DB,pS (.int h),pS (.tup [z]),pO (.lst []),pS z,none,none] = .ok (dA 0 h) [pS DB,pS (.int h),pS (.tup [z]),pO (.lst []),pS z,none,none]:=by
  rw[yD];simp only[aa,Q6,Q5,eS];exact nX h Y' _
 have k1:bG (aG (aa 2)) (ae [] 4) (bG (cY (aa 1)) (ae [] 5) lB) [pS DB,pS (.int h),pS (.tup [z]),pO (.lst []),none,none,none] = .ok .next [pS DB,pS (.int h),pS (.tup [z]),pO (.lst (b.2.map .str)),pS z,o5,none]:=by
  rw[f9 (ds:=[z]) (δ1:=[pS DB,pS (.int h),pS (.tup [z]),pO (.lst []),none,none,none]) #v[df,aa,S.d]];refine AR (δ1:=[pS DB,pS (.int h),pS (.tup [z]),pO (.lst []),pS z,none,none]) rfl ?_;rw[f9 hr];exact e1
 refine gR (δ1:=[pS DB,pS (.int h),pS (.tup [z]),pO (.lst (b.2.map .str)),pS z,o5,none]) (c7 (c7 (δ1:=[pS DB,pS (.int h),pS (.tup [z]),pO (.lst (b.2.map .str)),pS z,o5,none]) ?_ k1) ?_) rfl rfl
 ·generalize hT:b.2.map D.str=TT;simp[ag,bT,S.d,bS,hT]
 ·simp[au,bV]
abbrev sO(H W B F:D)(o6 o7 o8:Option S):Dl:=[pS (.tup [H,W,B]),pS F,pS (.int 1),pS H,pS W,pS B,o6,o7,o8]
theorem Yp(GL:DF)(H W B F DB FB:D)(l1:GL [.pure DB,.pure H,.pure F]=some (.pure FB,[.pure DB,.pure H,.pure F])):bG (cY (aa 2)) (ae [] 8) (au (aE GL [.val (aa 6),.val (aa 3),.val (aa 7)]) (ae [] 7)) (sO H W B F (pS DB) (pS F) none) = .ok .next (sO H W B F (pS DB) (pS FB) (pS (.int 0))):=by
 rw[f9 (Kf (sO H W B F (pS DB) (pS F) none) (aa 2) rfl)];refine AR (δ1:=sO H W B F (pS DB) (pS F) (pS (.int 0))) rfl ?_;simp[au,aE,bF,cz,bY,aa,bJ,l1,bc,S.d]
theorem Yq(GS GG GB GL:DF)(H W B F z DB FB:D)(s1:GS [.pure DB,.pure F]=some (.pure .bp,[.pure DB,.pure F]))(g1:GG [.pure (.int 1),.pure H,.pure (.int 1)]=some (.pure H,[.pure (.int 1),.pure H,.pure (.int 1)]))(g2:GG [.pure (.int 1),.pure W,.pure (.int 1)]=some (.pure W,[.pure (.int 1),.pure W,.pure (.int 1)]))(b1:GB [.pure H,.pure W,.pure (.int 64)]=some (.pure .bp,[.pure H,.pure W,.pure (.int 64)]))
  (l1:GL [.pure DB,.pure H,.pure F]=some (.pure FB,[.pure DB,.pure H,.pure F])) (d1:cO B=pO DB) (t0:aw F (.int 0)=pS z) (n0:bw F=pS (.int 1)) (n1:bw z=pS (.int 1)) :
  bR [] 9 (aq (au (aa 0) (bX 3 (aW (ae [] 3) (aW (ae [] 4) (aW (ae [] 5) ck))))) (aq (au (aA cO (ag 5)) (ae [] 6)) (aq (kX (aE GS [.val (aa 6),.val (aa 1)])) (aq (kX (aE GB [.val (aE GG [.val (aA bw (ag 1)),.val (aa 3),.val (aa 2)]),.val (aE GG [.val (aA bw (ar (ah aw 1 (ar (eD (.int 0)))))),.val (aa 4),.val (aa 2)]),.val (eD (.int 64))])) (aq (au (aa 1) (ae [] 7)) (aq (bG (cY (aa 2)) (ae [] 8) (au (aE GL [.val (aa 6),.val (aa 3),.val (aa 7)]) (ae [] 7))) (bU (aa 7)))))))) [.pure (.tup [H,W,B]),.pure F,.pure (.int 1)]=some (.pure FB,[.pure (.tup [H,W,B]),.pure F,.pure (.int 1)]):=by
 apply gR
 ·iterate 5 refine c7 ?_ fM
  exact c7 rfl (Yp GL H W B F DB FB l1)
 ·rfl
 ·rfl
theorem Yr(R:bZ h w bs)(ht:t ∈ bs.map (·.1)):qd [.pure (az h w bs),.pure (.tup [.str [t]]),.pure (.int 1)]=some (.pure (bS (cU bs t)),[.pure (az h w bs),.pure (.tup [.str [t]]),.pure (.int 1)]):=by
 have h1:=R.h1;have w1:=R.w1;have s1:=Yn ht;have g1:=Kg h Y';have g2:=Kg w Y';have b1:=Ym h w Y' Y';have l1:=Yo R ht;have d1:=Kc R;have t0:aw (.tup [.str [t]]) (.int 0)=pS (.str [t]):=rfl;have n0:bw (.tup [.str [t]])=pS (.int 1):=#v[bw,cm]
 have n1:bw (.str [t])=pS (.int 1):=#v[bw,cm]
 rw[qd,He];exact Yq _ _ _ _ _ _ _ _ _ _ _ s1 g1 g2 b1 l1 d1 t0 n0 n1
abbrev sD(t:Nat):D:=.str [t]
theorem Ys(g:GO [.pure ru,.pure (.tup [z]),.pure (.int 1)]=some (.pure fl,[.pure ru,.pure (.tup [z]),.pure (.int 1)]))(j:cx [] fl=pS (.str x)) :
  (ba (ax (aa 2) (ax (aA (cx []) (ar (aE GO [.val (aa 0),.val (ba (ax (aa 2) aJ)),.val (aa 1)]))) aJ))) [pS ru,pS (.int 1),pS z] = .ok (.pure (.tup [z,.str x])) [pS ru,pS (.int 1),pS z]:=by
 simp[aE,bF,cz,bY,aa,ag,bJ,g,bc,S.d,j]
theorem Yt(gt:GT [.pure ru]=some (.own (.lst ls),[.pure ru]))(c:cT [2] (ae [] 2) aZ el ls [pS ru,pS (.int 1),none] [] = .ok acc [pS ru,pS (.int 1),none])(d:cO (.lst acc)=pO ds) :
  bU (aA cO (ar (bE [2] (aG (aE GT [.val (aa 0)])) (ae [] 2) aZ el))) [pS ru,pS (.int 1),none] = .ok (.ret (.own ds)) [pS ru,pS (.int 1),none]:=by
 simp[df,aE,bF,cz,bY,aa,bJ,gt,bc,S.d,bN,bz];rw[c];simp[cS,d,S.d]
theorem Yu(R:bZ h w bs):qe [.pure (az h w bs),.pure (.int 1)]=some (.own (b_ bs),[.pure (az h w bs),.pure (.int 1)]):=by
 have hn1:=R.n1;have gt:=Yl R;have db:=J_ R;have c:=jq (cs:=[2]) (g:=ae [] 2) (t:=aZ) (el:=ba (ax (aa 2) (ax (aA (cx []) (ar (aE qd [.val (aa 0),.val (ba (ax (aa 2) aJ)),.val (aa 1)]))) aJ))) (λb:Nat×List Tx=>D.str [b.1]) (λb=>D.tup [.str [b.1],.str (aB bs b.1)]) [pS (az h w bs),pS (.int 1),none] bs [] (by rw[cm]; simp; lia) (λb hb=>by
  have e:=Yr R (WD (f:=(·.1)) hb);have j:=AH R hb;rw[AG R.nd hb] at e;exact⟨_,_,_,_,rfl,rfl,Ys e j,rfl,rfl⟩)
 rw[Ww] at gt;rw[qe,Hf];exact gR (Yt gt c db) rfl rfl
def Fd(d:List (a7×D))(l:List Nat)(f:Nat->D):Prop:=(∀ x,da d (.inr [x])=if x ∈ l then some (f x) else none)/\d.length<=l.length
theorem Yv(d:List (a7×D))(k:a7)(v:D)(k':a7):da (putD d k v) k'=if k'=k then some v else da d k':=by
 unfold putD da;split
 ·rename_i h;rw[Ue];have:((λkv:a7×D=>decide (kv.1=k')) ∘ λkv=>if kv.1=k then(kv.1,v) else kv)=λkv=>decide (kv.1=k'):=by
   funext kv
   simp only[Function.comp];split <;> rfl
  rw[this];split
  ·rename_i e;subst e;rw[List.any_eq_true] at h;obtain⟨kv,h1,h2⟩:=h
   cases e:d.find? λkv=>decide (kv.1=k') with
   | none=>exact absurd h2 (List.find?_eq_none.mp e kv h1)
   | some y =>
    have:=Uu e;simp at this;simp[this]
  ·rename_i ne
   cases e:d.find? λkv=>decide (kv.1=k') with
   | none=>rfl
   | some y =>
    have:=Uu e;simp at this;simp[this,ne]
 ·rename_i h;rw[List.find?_append];split
  ·rename_i e;subst e;have:d.find? (λkv=>decide (kv.1=k'))=none:=by
    rw[List.find?_eq_none];intro x hx hk;exact h (JX.mpr ⟨x,hx,hk⟩)
   simp[this]
  ·rename_i ne;have ne':¬ k=k':=λe=>ne e.symm
   cases e:d.find? λkv=>decide (kv.1=k') with
   | none=>simp[ne']
   | some y=>simp
theorem Yw(d:List (a7×D))(k:a7)(v:D):(putD d k v).length<=d.length + 1:=by
 unfold putD;split <;> simp
section
variable {d:List (a7×D)}{f:Nat->D}{x:Nat}
theorem Fd.nil:Fd [] [] f:=⟨λx=>#v[da],Z5⟩
theorem Fd.put(h:Fd d l f)(t:Nat):Fd (putD d (.inr [t]) (f t)) (l ++ [t]) f:=by
 refine⟨λx=>?_,by have:=Yw d (.inr [t]) (f t); have:=h.2; simp; lia⟩;rw[Yv];by_cases e:x=t
 ·subst e; simp
 ·have:¬ (Sum.inr [x]:a7) = .inr [t]:= ~~~e
  simp[this,h.1,e]
theorem Fd.ix(h:Fd d l f)(hx:x ∈ l):aL (.ay d) (sD x)=pS (f x):=by
 show((cA (.str [x])).bind λk=>(da d k).map S.pure)=_;simp[cA,h.1,hx]
theorem Fd.Kh(h:Fd d l f):eR true (sD x) (.ay d)=pS (.bl (!decide (x ∈ l))):=by
 show((cA (.str [x])).map λk=>S.pure (.bl (if true then !(da d k).isSome else _)))=_;by_cases e:x ∈ l <;> simp[cA,h.1,e]
end
def bC(c:Nat->Nat)(ts:List Nat)(t:Nat):Nat:=(fit c ts (c t)).headD 0
theorem sY(ht:t ∈ ts):∃ r,fit c ts (c t)=bC c ts t :: r/\bC c ts t ∈ ts/\c (bC c ts t)=c t:=by
 have hm:t ∈ fit c ts (c t):=#v[fit,ht]
 unfold bC
 cases e:fit c ts (c t) with
 | nil=>rw[e] at hm; cases hm
 | cons a r =>
  have:a ∈ fit c ts (c t):=%[e|.head _]
  simp only[fit,List.mem_filter,decide_eq_true_eq] at this;exact⟨r,rfl,this.1,this.2⟩
abbrev sP(pa ru st pt tx ds g o:Option S):Dl:=[pa,ru,st,pt,tx,ds,g,o,none,none,none,none,none]
abbrev lI:DS:=(de 5 (aa 7) (ah aw 6 (ar (eD (.int 0)))))
theorem Yx(pa ru st pt tx:Option S)(d:List (a7×D))(g0:Nat)(r:List D)(t:Nat)(hz:d.length < Wa):lI (sP pa ru st pt tx (pO (.ay d)) (pS (.tup (sD g0 :: r))) (pS (sD t))) = .ok .next (sP pa ru st pt tx (pO (.ay (putD d (.inr [t]) (sD g0)))) (pS (.tup (sD g0 :: r))) (pS (sD t))):=by
 have x0:aw (.tup (sD g0 :: r)) (.int 0)=pS (sD g0):=#v[aw,jm]
 have kt:cA (sD t)=some (.inr [t]):=rfl;generalize D.tup (sD g0 :: r)=G,sD t=z,sD g0=y at *;simp[lI,de,kb,aa,ag,ah,aV,x0,kt,hz,S.d]
theorem Yy(pa ru st pt tx:Option S)(f:Nat->D)(g0:Nat)(r:List D)(us:List Nat)(hf:∀ u ∈ us,f u=sD g0)(d:List (a7×D))(l:List Nat)(h:Fd d l f)(hl:l.length + us.length<=10000)(o:Option S) :
  ∃ d' o',Fd d' (l ++ us) f/\forL (ae [] 7) lI (us.map sD) (sP pa ru st pt tx (pO (.ay d)) (pS (.tup (sD g0 :: r))) o) = .ok .next (sP pa ru st pt tx (pO (.ay d')) (pS (.tup (sD g0 :: r))) o'):=by
 obtain⟨δ',e,d',o',e2,h2⟩:=jn (g:=ae [] 7) (b:=lI) (λi δ=>∃ d' o',δ=sP pa ru st pt tx (pO (.ay d')) (pS (.tup (sD g0 :: r))) o'/\Fd d' (l ++ us.take i) f) (us.map sD) 0 _ ⟨d,o,rfl,~~~h⟩ (λi x δ hx ⟨d',o',e,h'⟩=>by
  subst e;rw[Wj] at hx
  cases hu:us[i]? with
  | none=>rw[hu] at hx; cases hx
  | some u =>
   rw[hu] at hx; cases hx
   have hi:=(W6.mp hu).1;rw[WU] at h' ⊢;have hz:d'.length < Wa:=by
    have:=h'.2;simp at this;rw[cm];lia
   refine⟨sP pa ru st pt tx (pO (.ay d')) (pS (.tup (sD g0 :: r))) (pS (sD u)),_,rfl,Yx pa ru st pt tx d' g0 r u hz,_,_,rfl,?_⟩;have:=h'.put u;rw[hf u (Wq hu)] at this;rw[Qx,hu];simpa[Jq] using this)
 subst e2;rw[WU,Wn,QU] at h2;exact⟨d',o',h2,e⟩
abbrev lF:DS:=(bG (aG (aa 6)) (ae [] 7) lI)
theorem Ki(pa ru st pt tx:Option S)(cg:ts.length<=26):∀ (gs:List (List Nat)),(∀ g ∈ gs,∃ t ∈ ts,g=fit c ts (c t))->∀ (d:List (a7×D)) (l:List Nat) (o6 o7:Option S),Fd d l (λt=>sD (bC c ts t))->l.length + gs.length * 26<=10000 ->
  ∃ d' l' cu o7',Fd d' l' (λt=>sD (bC c ts t))/\(∀ g ∈ gs,∀ t ∈ g,t ∈ l')/\(∀ t ∈ l,t ∈ l')/\forL (ae [] 6) lF (AI gs) (sP pa ru st pt tx (pO (.ay d)) o6 o7) = .ok .next (sP pa ru st pt tx (pO (.ay d')) cu o7')
 | [],_,d,l,o6,o7,h,_=>⟨d,l,o6,o7,h,(λ_ hg=>nomatch hg),λ_ ht=>ht,rfl⟩
 | g :: gs,hg,d,l,o6,o7,h,hl=>by
  obtain⟨t,ht,rfl⟩:=hg g (.head _);obtain⟨r,e1,e2,e3⟩:=sY (c:=c) ht;have lf:(fit c ts (c t)).length<=26:=Qc (List.length_filter_le ..) cg;have hu:∀ u ∈ fit c ts (c t),sD (bC c ts u)=sD (bC c ts t):=λu hu=>by
   simp only[fit,List.mem_filter,decide_eq_true_eq] at hu;unfold bC;rw[hu.2]
  obtain⟨d1,o1,h1,k1⟩:=Yy pa ru st pt tx _ (bC c ts t) (r.map sD) (fit c ts (c t)) hu d l h (by simp at hl; lia) o7;have eg:D.tup ((fit c ts (c t)).map sD) = .tup (sD (bC c ts t) :: r.map sD):=by rw[e1]; rfl
  obtain⟨d2,l2,cu,o7',h2,h3,h4,k2⟩:=Ki pa ru st pt tx cg gs (λg j6=>hg g (.tail _ j6)) d1 (l ++ fit c ts (c t)) (pS (.tup (sD (bC c ts t) :: r.map sD))) o1 h1 U';refine⟨d2,l2,cu,o7',h2,λg' j6 u pH=>?_,λu pH=>h4 u (JV _ pH),?_⟩
  ·rcases Wu.mp j6 with rfl | j6
   ·exact h4 u (Q3 _ pH)
   ·exact h3 g' j6 u pH
  ·show forL _ _ (D.tup ((fit c ts (c t)).map sD) :: AI gs) _=_;rw[eg];rw[jB (δ1:=sP pa ru st pt tx (pO (.ay d)) (pS (.tup (sD (bC c ts t) :: r.map sD))) o7) rfl ?_]
   ·exact k2
   ·rw[lF,f9 (ds:=(fit c ts (c t)).map sD) (δ1:=sP pa ru st pt tx (pO (.ay d)) (pS (.tup (sD (bC c ts t) :: r.map sD))) o7) ?_]
    ·exact k1
    ·rw[e1];simp only[Wf];generalize sD (bC c ts t) :: r.map sD=G;simp[df,aa,S.d]
theorem Yz{bs:List (Nat×List Tx)}{d:List (a7×D)}{f:Nat->Nat}(h:Fd d l (λt=>sD (f t)))(ht:t ∈ bs.map (·.1))(hp:∀ p ∈ aB bs t,p ∈ l)(hl:(aB bs t).length<=1000):jS 1 jz [.ay d,b_ bs] (sD t)=some (.lst ((aB bs t).map λp=>sD (f p))):=by
 have x:aL (b_ bs) (sD t)=pS (.str (aB bs t)):=AL ht;generalize b_ bs=DX at *;have ei:aG (ah aL 2 (ag 0)) [pS (sD t),pS (.ay d),pS DX,none] = .ok ((aB bs t).map sD) [pS (sD t),pS (.ay d),pS DX,none]:=by
  generalize aB bs t=X,sD t=z,D.ay d=DD at *;simp[df,ah,aV,ag,x,S.d]
 have ec:=cM (cs:=[3]) (it:=aG (ah aL 2 (ag 0))) (g:=ae [] 3) (t:=aZ) (el:=ah aL 1 (ag 3)) sD (λp=>sD (f p)) ei hl (λp pE=>by
  have q:=h.ix (hp p pE);refine⟨[pS (sD t),pS (.ay d),pS DX,pS (sD p)],_,.pure (sD (f p)),[pS (sD t),pS (.ay d),pS DX,pS (sD p)],rfl,rfl,?_,rfl,rfl⟩;generalize D.ay d=DD,sD p=z,sD (f p)=y at *;simp[ah,aV,ag,q])
 unfold jS jz;show(match bU _ [pS (sD t),pS (.ay d),pS DX,none] with | .ok (.ret r) _=>some r.d | _=>none)=_;unfold bU;rw[ec];rfl
abbrev sR(x0 fn:D)(L sn:D)(k:Int)(o5 o6:Option S):Dl:=[pS x0,pS fn,pO L,pO sn,pS (.int k),o5,o6]
abbrev rB:DS:=(cN (aF (aH (eR true) (aa 6) (ag 3))) (aq (de 3 (aa 6) (eD (.bl true))) (cb 2 (aa 6))) cR)
theorem YA(x0 fn:D)(k:Int)(L:List Nat)(d:List (a7×D))(h:Fd d L (λ_=>.bl true))(hl:L.length<=1000)(p:Nat)(o5:Option S) :
  ∃ d',Fd d' (aQ L [p]) (λ_=>.bl true)/\rB (sR x0 fn (.lst (L.map sD)) (.ay d) k o5 (pS (sD p))) = .ok .next (sR x0 fn (.lst ((aQ L [p]).map sD)) (.ay d') k o5 (pS (sD p))):=by
 have q:=h.Kh (x:=p);have hz:d.length < Wa:=by have:=h.2; rw[cm]; lia
 have mF:(L.map sD).length < Wa:=by rw[cm]; simp; lia
 have kt:cA (sD p)=some (.inr [p]):=rfl;by_cases hp:p ∈ L
 ·have ed:aQ L [p]=L:=#v[aQ,hp]
  rw[ed];refine⟨d,h,?_⟩;simp only[hp,decide_true,Bool.not_true] at q;generalize D.ay d=DD,L.map sD=LL,sD p=z at *;simp[aF,aa,ag,q,S.d]
 ·have ed:aQ L [p]=L ++ [p]:=#v[aQ,hp]
  rw[ed];refine⟨_,h.put p,?_⟩;simp only[hp,decide_false,Bool.not_false] at q;rw[WR];generalize L.map sD=LL at *;have e1:aF (aH (eR true) (aa 6) (ag 3)) (sR x0 fn (.lst LL) (.ay d) k o5 (pS (sD p))) = .ok true (sR x0 fn (.lst LL) (.ay d) k o5 (pS (sD p))):=by
   generalize D.ay d=DD,sD p=z at *;simp[aF,aa,ag,q,S.d]
  rw[rB,yB,e1];show(aq (de 3 (aa 6) (eD (.bl true))) (cb 2 (aa 6))) (sR x0 fn (.lst LL) (.ay d) k o5 (pS (sD p)))=_;show _=Rs.ok Fl.next (sR x0 fn (.lst (LL ++ [sD p])) _ k o5 _);generalize sD p=z at *;simp[de,kb,aa,kt,hz,cb,fX,putL,mF,S.d]
theorem sZ(L:List Nat)(p:Nat)(r:List Nat):aQ L (p :: r)=aQ (aQ L [p]) r:=by
 simp only[aQ]
theorem Kj(x0 fn:D)(k:Int)(o5:Option S):∀ (ps L:List Nat) (d:List (a7×D)) (o6:Option S),Fd d L (λ_=>.bl true)->L.length + ps.length<=1000 ->
  ∃ d' cu,Fd d' (aQ L ps) (λ_=>.bl true)/\forL (ae [] 6) rB (ps.map sD) (sR x0 fn (.lst (L.map sD)) (.ay d) k o5 o6) = .ok .next (sR x0 fn (.lst ((aQ L ps).map sD)) (.ay d') k o5 cu)
 | [],L,d,o6,h,_=>⟨d,o6,h,rfl⟩
 | p :: ps,L,d,o6,h,hl=>by
  obtain⟨d1,h1,e1⟩:=YA x0 fn k L d h (by simp at hl; lia) p o5;obtain⟨d2,cu,h2,e2⟩:=Kj x0 fn k o5 ps (aQ L [p]) d1 (pS (sD p)) h1 (by have:=sI [p] L; simp at this hl ⊢; lia);rw[sZ];refine⟨d2,cu,h2,?_⟩;show forL _ _ (sD p :: ps.map sD) _=_;rw[jB (δ1:=sR x0 fn (.lst (L.map sD)) (.ay d) k o5 (pS (sD p))) rfl e1];exact e2
theorem AS{t}(I:Nat->Dl->Prop)(hs:∀ k < n,∀ δ,I k δ->∃ δ2,t δ = .ok true δ/\b δ = .ok .next δ2/\I (k + 1) δ2)(he:∀ δ,I n δ->t δ = .ok false δ):∀ (m k:Nat) (δ:Dl) (fu:Nat),k + m=n->m < fu->I k δ->∃ δ',I n δ'/\dB t b fu δ = .ok .next δ'
 | 0,k,δ,fu,e,hf,h=>by
  obtain rfl:k=n:=by lia
  obtain⟨fu,rfl⟩:∃ x,fu=x + 1:=⟨fu - 1,Y'⟩
  exact⟨δ,h,Ir (he δ h)⟩
 | m + 1,k,δ,fu,e,hf,h=>by
  obtain⟨fu,rfl⟩:∃ x,fu=x + 1:=⟨fu - 1,Y'⟩
  obtain⟨δ2,e1,e2,h2⟩:=hs k Y' δ h;obtain⟨δ',h3,e3⟩:=AS I hs he m (k + 1) δ2 fu Y' Y' h2;exact⟨δ',h3,%[vW e1 e2|e3]⟩
theorem v7(a b:Nat):gL (.int a) (.int b)=pS (.bl (decide (a < b))):=by
 by_cases h:a < b
 ·simp[gL,cK,h]
 ·simp[gL,cK,h]
theorem AU(L:List Nat)(k:Nat)(h:k < L.length):aw (.lst (L.map sD)) (.int k)=pS (sD (L.getD k 0)):=by
 show(dE (L.map sD) (k:Int)).map S.pure=_;rw[iA];simp[h]
section
variable {pt:Nat->List Nat}
theorem YB(fa:Jg)(F:D->Option D)(cg:ts.length<=26)(h0:x0 ∈ ts)(hp:∀ t ∈ ts,∀ p ∈ pt t,p ∈ ts)(hlen:∀ t ∈ ts,(pt t).length<=16)(hF:∀ t ∈ ts,F (sD t)=some (.lst ((pt t).map sD)))(hn:(bf pt x0 n).length=n)(jO:n<=ts.length)(hj:∀ j < n,j < (bf pt x0 j).length)(d0:List (a7×D))(hd:Fd d0 [x0] (λ_=>.bl true)) :
  ∃ d' o5 o6,dB (aF (ah gL 4 (ar (aA bw (ag 2))))) (aq (au (ah aw 2 (ag 4)) (ae [] 5)) (aq (bG (aG (jr fa F 1 (aa 5))) (ae [] 6) rB) (au (ah bt 4 (ar (eD (.int 1)))) (ae [] 4)))) 1000000 (sR (sD x0) (.fn fa) (.lst ([x0].map sD)) (.ay d0) 0 none none) = .ok .next (sR (sD x0) (.fn fa) (.lst ((bf pt x0 n).map sD)) (.ay d') n o5 o6):=by
 obtain⟨δ',⟨d',o5,o6,e,_⟩,h⟩:=AS (t:=aF (ah gL 4 (ar (aA bw (ag 2))))) (b:=aq (au (ah aw 2 (ag 4)) (ae [] 5)) (aq (bG (aG (jr fa F 1 (aa 5))) (ae [] 6) rB) (au (ah bt 4 (ar (eD (.int 1)))) (ae [] 4)))) (n:=n) (λk δ=>∃ d o5 o6,δ=sR (sD x0) (.fn fa) (.lst ((bf pt x0 k).map sD)) (.ay d) k o5 o6/\Fd d (bf pt x0 k) (λ_=>.bl true)) (λk hk δ ⟨d,o5,o6,e,h⟩=>by
  subst e;have kl:=hj k hk;have fY:∀ x ∈ bf pt x0 k,x ∈ ts:=sS h0 hp k λj h=>hj j Y'
  have ll:=sJ (vP (pt:=pt) (x0:=x0) k) fY;have hx:=AU (bf pt x0 k) k kl;have ht:(bf pt x0 k).getD k 0 ∈ ts:=fY _ %[Qi,Wb kl|QE _];have hf:=hF _ ht;have hl:=hlen _ ht;obtain⟨d2,cu,h2,e2⟩:=Kj (sD x0) (.fn fa) k (pS (sD ((bf pt x0 k).getD k 0))) (pt ((bf pt x0 k).getD k 0)) (bf pt x0 k) d o6 h Y';have bu:=v7 k (bf pt x0 k).length;rw[decide_eq_true kl] at bu;have AV:bw (.lst ((bf pt x0 k).map sD))=pS (.int (bf pt x0 k).length):=#v[bw]
  have YC:bt (.int k) (.int 1)=pS (.int ((k + 1:Nat):Int)):=#v[bt]
  have eb:bf pt x0 (k + 1)=aQ (bf pt x0 k) (pt ((bf pt x0 k).getD k 0)):=rfl;refine⟨sR (sD x0) (.fn fa) (.lst ((bf pt x0 (k + 1)).map sD)) (.ay d2) ((k + 1:Nat):Int) (pS (sD ((bf pt x0 k).getD k 0))) cu,?_,?_,d2,_,cu,rfl,%[eb|h2]⟩
  ·generalize D.ay d=DD,D.lst ((bf pt x0 k).map sD)=LL,((bf pt x0 k).length:Int)=zl at *;simp[aF,ah,aV,ag,AV,bu,S.d]
  ·rw[eb];generalize hP:(pt ((bf pt x0 k).getD k 0)).map sD=PP,(aQ (bf pt x0 k) (pt ((bf pt x0 k).getD k 0))).map sD=L2,hz:sD ((bf pt x0 k).getD k 0)=z,(bf pt x0 k).map sD=L1 at *;have ei:aG (jr fa F 1 (aa 5)) (sR (sD x0) (.fn fa) (.lst L1) (.ay d) k (pS z) o6) = .ok PP (sR (sD x0) (.fn fa) (.lst L1) (.ay d) k (pS z) o6):=by
    generalize D.ay d=DD,sD x0=y at *;simp[df,jr,aa,hf,S.d]
   refine(cV (δ1:=sR (sD x0) (.fn fa) (.lst L1) (.ay d) k (pS z) o6) ?_).trans ((cV (δ1:=sR (sD x0) (.fn fa) (.lst L2) (.ay d2) k (pS z) cu) ((f9 ei).trans e2)).trans ?_)
   ·generalize D.ay d=DD,sD x0=y at *;simp[au,ah,aV,ag,hx,S.d]
   ·generalize D.ay d2=DD,sD x0=y,((k + 1:Nat):Int)=k1 at *;simp[au,ah,aV,ag,YC,S.d]) (λδ ⟨d,o5,o6,e,h⟩=>by
  subst e;have bu:=v7 n (bf pt x0 n).length;rw[hn,decide_eq_false (Qg n)] at bu;have AV:bw (.lst ((bf pt x0 n).map sD))=pS (.int n):=#v[bw,hn]
  generalize D.ay d=DD,D.lst ((bf pt x0 n).map sD)=LL at *;simp[aF,ah,aV,ag,AV,bu,S.d]) n 0 (sR (sD x0) (.fn fa) (.lst ([x0].map sD)) (.ay d0) 0 none none) 1000000 Y' Y' ⟨d0,none,none,rfl,hd⟩
 subst e;exact⟨d',o5,o6,h⟩
theorem YD(fa:Jg)(F:D->Option D)(cg:ts.length<=26)(h0:x0 ∈ ts)(hp:∀ t ∈ ts,∀ p ∈ pt t,p ∈ ts)(hlen:∀ t ∈ ts,(pt t).length<=16)(hF:∀ t ∈ ts,F (sD t)=some (.lst ((pt t).map sD)))(hn:(bf pt x0 n).length=n)(jO:n<=ts.length)(hj:∀ j < n,j < (bf pt x0 j).length) :
  iD lA 7 fa F [sD x0,.fn fa]=some (.lst ((bf pt x0 n).map sD)):=by
 have hd:Fd (putD [] (.inr [x0]) (.bl true)) [x0] (λ_=>.bl true):=Fd.put (f:=λ_=>D.bl true) Fd.nil x0;obtain⟨d',o5,o6,e⟩:=YB fa F cg h0 hp hlen hF hn jO hj _ hd;have kt:cA (sD x0)=some (.inr [x0]):=rfl;unfold iD;refine Option.map_eq_some_iff.mpr ⟨(.own (.lst ((bf pt x0 n).map sD)),[.pure (sD x0),.pure (.fn fa)]),?_,rfl⟩;have run:lA fa F (bV 7 [.pure (sD x0),.pure (.fn fa)]) = .ok (.ret (.own (.lst ((bf pt x0 n).map sD)))) [pS (sD x0),pS (.fn fa),none,pO (.ay d'),pS (.int n),o5,o6]:=by
  unfold lA;refine c7 ?_ fM;refine c7 ?_ (by simp[au,mw,aa,kt,S.d]; rfl);refine c7 ?_ fM;refine c7 ?_ e;generalize (bf pt x0 n).map sD=LL;simp[jl]
 unfold eN;rw[show([sD x0,D.fn fa].map S.pure)=[.pure (sD x0),.pure (.fn fa)] from rfl,run];simp[cH,cf]
end
theorem Kk:∀ k,k < 26->gD.drop k=(97 + k) :: gD.drop (k + 1):=by decide
def nd:Nat->List Nat->List (a7×D)
 | _,[]=>[]
 | k,x :: r=>(.inr [x],sD (97 + k)) :: nd (k + 1) r
theorem Kl:∀ (L:List Nat) (k:Nat),k + L.length<=26->pz (L.map sD) ((gD.drop k).map λn=>D.str [n])=some (nd k L)
 | [],k,_=>#v[pz,nd]
 | x :: r,k,h=>by
  rw[Kk k (by simp at h; lia)];have:=Kl r (k + 1) (by simp at h ⊢; lia);simp only[Wf,pz,this,cA,nd]
theorem AW:∀ (L:List Nat) (k:Nat),(nd k L).map (·.1)=L.map λx=>(Sum.inr [x]:a7)
 | [],_=>rfl
 | x :: r,k=>#v[nd,AW r]
theorem Km(x:Nat):∀ (L:List Nat) (k:Nat),da (nd k L) (.inr [x])=if x ∈ L then some (sD (97 + (k + L.idxOf x))) else none
 | [],_=>rfl
 | y :: r,k=>by
  have ih:=Km x r (k + 1);unfold da at ih ⊢;simp only[nd,WP];by_cases h:y=x
  ·subst h;simp
  ·have h':¬ x=y:=λe=>h e.symm
   have e:decide ((Sum.inr [y]:a7) = .inr [x])=false:=#v[h]
   have hb:(y == x)=false:=#v[h]
   simp only[e,ih,List.idxOf_cons,hb,Wu,h',false_or,cond_false];split
   ·congr 2
    lia
   ·rfl
theorem Kn(L:List Nat):Fd (nd 0 L) L (λx=>sD (97 + L.idxOf x)):=⟨λx=>by rw[Km,WU],by have:=congrArg Qp (AW L 0); simp at this; lia⟩
theorem YE(L:List Nat)(iR:L.Nodup)(hl:L.length<=26)(δ:Dl)(e1:aa 1 δ = .ok (.pure (.lst (L.map sD))) δ):r9 (aa 1) (eD (.str gD)) δ = .ok (.own (.ay (nd 0 L))) δ:=by
 have p:=Kl L 0 Y';have hz:(nd 0 L).length<=Wa:=by have:=(Kn L).2; rw[cm]; lia
 have hp:k7 (nd 0 L) []=nd 0 L:=by
  rw[sV]
  ·rfl
  ·rw[WQ,AW,Q2,J7];rw[Q2] at iR;exact iR.imp λ{a b} hZ=> ~~~hZ
 unfold r9;rw[e1];rw[List.drop_zero] at p;simp only[eS,eD,S.d,ly,p,if_pos hz,hp]
theorem Ko:∀ xs:List Nat,(xs.map λn=>[n]).flatten=xs
 | []=>rfl
 | x :: r=>#v[Ko r]
theorem YF(xs:List Nat)(h:xs.length<=1000):cx [] (.lst (xs.map sD))=pS (.str xs):=by
 have:=Ka (xs.map λn=>[n]) (by
  have:=Ip (xs.map λn=>[n]) 1 Z5;simp at this;lia)
 rw[Ww] at this;rw[Ko] at this;exact this
theorem Kp:∀ (rs:List Tx),(∀ r ∈ rs,r.length=w)->∀ (i:Nat) (h:i < rs.length),(rs.flatten.drop (w * i)).take w=rs[i]
 | r :: rs,hr,0,_=>by
  have:=hr r (.head _);simp[<- this]
 | r :: rs,hr,i + 1,h=>by
  have e:=hr r (.head _);have:=Kp rs (λr' h'=>hr r' (.tail _ h')) i (~~~h);rw[Jp,Nat.mul_succ,Nat.add_comm,<- List.drop_drop];rw[show(r ++ rs.flatten).drop w=rs.flatten by rw[<- e]; simp];simpa using this
theorem YG(xs:List α)(a b:Nat)(h:b<=xs.length)(hZ:a<=b):cC xs (some (a:Int)) (some (b:Int))=(xs.drop a).take (b - a):=by
 have h1:¬ (a:Int) < 0:=by lia
 have h2:¬ (b:Int) < 0:=by lia
 unfold cC L2.a0;simp[h1,h2,Uv h,Uv (Qc hZ h)]
theorem YH(hl:X.length<=1000)(h:w * i + w<=X.length):eY (some ((w * i:Nat):Int)) (some ((w * i + w:Nat):Int)) (.str X)=pS (.str ((X.drop (w * i)).take w)):=by
 rw[xt X hl,YG X _ _ h Y',Nat.add_sub_cancel_left]
abbrev sN(ru th fn H W B:D)(nm:D)(nl:D)(o8 o9:Option S):Dl:=[pS ru,pS th,pS fn,pS H,pS W,pS B,pO nm,pO nl,o8,o9,none,none]
noncomputable abbrev v8(fa:Jg)(F:D->Option D):DE:=(bE [10] (aG (jr fa F 2 (aa 8))) (ae [] 10) aZ (ah aL 6 (ag 10)))
abbrev v9:DE:=(bE [11] (cY (aa 3)) (ae [] 11) aZ (hJ 9 (eX (ah eF 4 (ag 11))) (eX (aH bt (ah eF 4 (ag 11)) (ag 4)))))
abbrev nB(fa:Jg)(F:D->Option D):DS:=(aq (au (aA (cx []) (ar (v8 fa F))) (ae [] 9)) (cb 7 (ba (ax (ah aL 6 (ag 8)) (ax (aA bT (ar v9)) aJ)))))
theorem YI(fa:Jg)(F:D->Option D)(ru th H W B nl:D){ps:List Nat}{d:List (a7×D)}{f:Nat->Nat}(h:Fd d L (λx=>sD (f x)))(hF:F (sD t)=some (.lst (ps.map sD)))(hp:∀ p ∈ ps,p ∈ L)(hl:ps.length<=16)(o9:Option S) :
  v8 fa F (sN ru th (.fn fa) H W B (.ay d) nl (pS (sD t)) o9) = .ok (.own (.lst ((ps.map f).map sD))) (sN ru th (.fn fa) H W B (.ay d) nl (pS (sD t)) o9):=by
 have ei:aG (jr fa F 2 (aa 8)) (sN ru th (.fn fa) H W B (.ay d) nl (pS (sD t)) o9) = .ok (ps.map sD) (sN ru th (.fn fa) H W B (.ay d) nl (pS (sD t)) o9):=by
  generalize ps.map sD=PP,D.ay d=DD,sD t=z at *;simp[df,jr,aa,hF,S.d]
 have ec:=cM (cs:=[10]) (it:=aG (jr fa F 2 (aa 8))) (g:=ae [] 10) (t:=aZ) (el:=ah aL 6 (ag 10)) sD (λp=>sD (f p)) ei Y' (λp pE=>by
  have q:=h.ix (hp p pE);refine⟨[pS ru,pS th,pS (.fn fa),pS H,pS W,pS B,pO (.ay d),pO nl,pS (sD t),o9,pS (sD p),none],_,.pure (sD (f p)),[pS ru,pS th,pS (.fn fa),pS H,pS W,pS B,pO (.ay d),pO nl,pS (sD t),o9,pS (sD p),none],rfl,rfl,?_,rfl,rfl⟩;generalize D.ay d=DD,sD p=z,sD (f p)=y at *;simp[ah,aV,ag,q,S.d])
 rw[v8,ec,Ww];rfl
theorem YJ(fa:D)(ru th B nm nl z:D)(hh:h<=4)(hw:w<=4)(X:Tx)(hX:X.length=h * w) :
  v9 (sN ru th fa (.int h) (.int w) B nm nl (pS z) (pS (.str X))) = .ok (.own (.lst ((WY h).map λi=>D.str ((X.drop (w * i)).take w)))) (sN ru th fa (.int h) (.int w) B nm nl (pS z) (pS (.str X))):=by
 have hm:h * w<=16:=Nat.mul_le_mul hh hw;have ei:cY (aa 3) (sN ru th fa (.int h) (.int w) B nm nl (pS z) (pS (.str X))) = .ok ((WY h).map λi:Nat=>D.int (i:Nat)) (sN ru th fa (.int h) (.int w) B nm nl (pS z) (pS (.str X))):=by
  rw[yD];simp only[aa,Q6,Q5,eS];rw[nX h Y'];simp[dA]
 have ec:=cM (cs:=[11]) (it:=cY (aa 3)) (g:=ae [] 11) (t:=aZ) (el:=hJ 9 (eX (ah eF 4 (ag 11))) (eX (aH bt (ah eF 4 (ag 11)) (ag 4)))) (λi:Nat=>D.int (i:Nat)) (λi=>D.str ((X.drop (w * i)).take w)) ei Z6 (λi hi=>by
  have hi:i < h:= ~~~hi
  have Dm:w * i + w<=h * w:=by
   have:=Nat.mul_le_mul_right w hi;rw[Uw] at this;rw[Nat.mul_comm w i];exact this
  have cr:=YH (X:=X) (w:=w) (i:=i) Y' Y';have m1:eF (.int w) (.int i)=pS (.int ((w * i:Nat):Int)):=by
   have c:jd w i=true:=by simp[jd]; lia
   simp[eF,oW,fF,c]
  have a1:bt (.int ((w * i:Nat):Int)) (.int w)=pS (.int ((w * i + w:Nat):Int)):=#v[bt]
  refine⟨[pS ru,pS th,pS fa,pS (.int h),pS (.int w),pS B,pO nm,pO nl,pS z,pS (.str X),none,pS (.int (i:Nat))],_,.pure (.str ((X.drop (w * i)).take w)),[pS ru,pS th,pS fa,pS (.int h),pS (.int w),pS B,pO nm,pO nl,pS z,pS (.str X),none,pS (.int (i:Nat))],rfl,rfl,?_,rfl,rfl⟩;generalize D.str ((X.drop (w * i)).take w)=y,D.str X=xx,((w * i + w:Nat):Int)=j2,((w * i:Nat):Int)=j1,D.int (w:Int)=ww,D.int (i:Int)=ii at *;simp[hJ,eX,aH,ah,aV,ag,m1,a1,cr,S.d])
 rw[v9,ec];rfl
def e9(bs:List (Nat×List Tx))(g:Nat->Nat)(f:Nat->Nat)(t:Nat):D:=.tup [sD (f t),.tup ((cU bs t).map λr=>.str (r.map g))]
theorem YK(R:bZ h w bs)(ht:t ∈ bs.map (·.1))(g:Nat->Nat):((WY h).map λi=>D.str ((((aB bs t).map g).drop (w * i)).take w))=(cU bs t).map λr=>D.str (r.map g):=by
 obtain⟨b,hb,rfl,_,eb⟩:=oE ht;obtain⟨b1,b2⟩:=R.cU b hb;unfold aB;rw[eb];refine Us #v[b1] λi h1 h2=>?_
 simp only[List.getElem_map,List.getElem_range];rw[<- Up,<- Uo,Kp b.2 (λr hr=>(b2 r hr).1) i (~~~h2)]
section
variable {h w:Nat}{bs:List (Nat×List Tx)}
theorem YL(R:bZ h w bs)(fa:Jg)(F:D->Option D)(ru th B:D)(hf:Fd d L (λx=>sD (f x)))(hL:∀ t ∈ L,t ∈ bs.map (·.1))(hc:∀ t ∈ L,∀ p ∈ aB bs t,hd p ∈ L)(hF:∀ t ∈ L,F (sD t)=some (.lst ((aB bs t).map λp=>sD (hd p))))(ht:t ∈ L)(nl:List D)(hn:nl.length<=1000)(o9:Option S) :
  ∃ oC,nB fa F (sN ru th (.fn fa) (.int h) (.int w) B (.ay d) (.lst nl) (pS (sD t)) o9) = .ok .next (sN ru th (.fn fa) (.int h) (.int w) B (.ay d) (.lst (nl ++ [e9 bs (λp=>f (hd p)) f t])) (pS (sD t)) oC):=by
 obtain⟨l1,l2,l3⟩:=jC R (hL t ht);have YM:F (sD t)=some (.lst (((aB bs t).map hd).map sD)):=by rw[hF t ht,Ww]; rfl
 have c1:=YI fa F ru th (.int h) (.int w) B (.lst nl) hf YM (λp hp=>by
  obtain⟨q,hq,rfl⟩:=WA.mp hp;exact hc t ht q hq) Z6 o9
 rw[Ww (g:=f)] at c1;have jj:=YF ((aB bs t).map (f ∘ hd)) Z6;have c2:=YJ (.fn fa) ru th B (.ay d) (.lst nl) (sD t) R.h1 R.w1 ((aB bs t).map (f ∘ hd)) #v[l1];rw[YK R (hL t ht)] at c2;have q:=hf.ix ht;have hz:nl.length < Wa:=by rw[cm]; lia
 refine⟨pS (.str ((aB bs t).map (f ∘ hd))),?_⟩;show _=Rs.ok Fl.next (sN ru th (.fn fa) (.int h) (.int w) B (.ay d) (.lst (nl ++ [.tup [sD (f t),.tup ((cU bs t).map λr=>.str (r.map (f ∘ hd)))]])) (pS (sD t)) _);generalize ((cU bs t).map λr=>D.str (r.map (f ∘ hd)))=BB at *;unfold nB;generalize v8 fa F=E1,v9=E2,D.str ((aB bs t).map (f ∘ hd))=X,((aB bs t).map (f ∘ hd)).map sD=XX,D.int (h:Int)=H,D.int (w:Int)=W,sD (f t)=y,sD t=z,D.ay d=DD at *;refine(cV (δ1:=sN ru th (.fn fa) H W B DD (.lst nl) (pS z) (pS X)) ?_).trans ?_
 ·simp[au,c1,jj,S.d]
 ·simp[cb,ba,ax,aJ,ah,aV,ag,q,c2,bT,fX,putL,hz,S.d]
theorem Kq(R:bZ h w bs)(fa:Jg)(F:D->Option D)(ru th B:D)(hf:Fd d L (λx=>sD (f x)))(hL:∀ t ∈ L,t ∈ bs.map (·.1))(hc:∀ t ∈ L,∀ p ∈ aB bs t,hd p ∈ L)(hF:∀ t ∈ L,F (sD t)=some (.lst ((aB bs t).map λp=>sD (hd p)))):∀ (r:List Nat) (nl:List D) (o8 o9:Option S),(∀ t ∈ r,t ∈ L)->nl.length + r.length<=1000 ->
  ∃ o8' oC,forL (ae [] 8) (nB fa F) (r.map sD) (sN ru th (.fn fa) (.int h) (.int w) B (.ay d) (.lst nl) o8 o9) = .ok .next (sN ru th (.fn fa) (.int h) (.int w) B (.ay d) (.lst (nl ++ r.map (e9 bs (λp=>f (hd p)) f))) o8' oC)
 | [],nl,o8,o9,_,_=>⟨o8,o9,#v[forL]⟩
 | t :: r,nl,o8,o9,hr,hn=>by
  obtain⟨p9,e1⟩:=YL R fa F ru th B hf hL hc hF (hr t (.head _)) nl (by simp at hn; lia) o9;obtain⟨q8,q9,e2⟩:=Kq R fa F ru th B hf hL hc hF r (nl ++ [e9 bs (λp=>f (hd p)) f t]) (pS (sD t)) p9 (λu hu=>hr u (.tail _ hu)) (by simp at hn ⊢; lia);refine⟨q8,q9,?_⟩;show forL _ _ (sD t :: r.map sD) _=_;rw[jB (δ1:=sN ru th (.fn fa) (.int h) (.int w) B (.ay d) (.lst nl) (pS (sD t)) o9) rfl e1,e2];simp
theorem YN(R:bZ h w bs)(fa:Jg)(F:D->Option D)(iR:L.Nodup)(hl:L.length<=26)(hL:∀ t ∈ L,t ∈ bs.map (·.1))(hc:∀ t ∈ L,∀ p ∈ aB bs t,hd p ∈ L)(hF:∀ t ∈ L,F (sD t)=some (.lst ((aB bs t).map λp=>sD (hd p)))) :
  iD lD 12 fa F [az h w bs,.lst (L.map sD),.fn fa]=some (.tup [.int h,.int w,.tup (L.map (e9 bs (λp=>97 + L.idxOf (hd p)) λx=>97 + L.idxOf x))]):=by
 obtain⟨o8,o9,e⟩:=Kq R fa F (az h w bs) (.lst (L.map sD)) (.tup (bs.map aN)) (Kn L) hL hc hF L [] none none (λ_ h=>h) Z6;unfold iD;refine Option.map_eq_some_iff.mpr ⟨(.pure (.tup [.int h,.int w,.tup (L.map (e9 bs (λp=>97 + L.idxOf (hd p)) λx=>97 + L.idxOf x))]),[.pure (az h w bs),.pure (.lst (L.map sD)),.pure (.fn fa)]),?_,rfl⟩;have dz:=YE L iR hl [pS (az h w bs),pS (.lst (L.map sD)),pS (.fn fa),pS (.int h),pS (.int w),pS (.tup (bs.map aN)),none,none,none,none,none,none] rfl;have ei:aG (aa 1) (sN (az h w bs) (.lst (L.map sD)) (.fn fa) (.int h) (.int w) (.tup (bs.map aN)) (.ay (nd 0 L)) (.lst []) none none) = .ok (L.map sD) (sN (az h w bs) (.lst (L.map sD)) (.fn fa) (.int h) (.int w) (.tup (bs.map aN)) (.ay (nd 0 L)) (.lst []) none none):=by
  generalize L.map sD=LL;generalize az h w bs=ru;generalize D.tup (bs.map aN)=B;generalize D.ay (nd 0 L)=ND;simp[df,aa,S.d]
 rw[WQ] at e;generalize L.map (e9 bs (λp=>97 + L.idxOf (hd p)) λx=>97 + L.idxOf x)=RR at *;have run:lD fa F (bV 12 [.pure (az h w bs),.pure (.lst (L.map sD)),.pure (.fn fa)]) = .ok (.ret (.pure (.tup [.int h,.int w,.tup RR]))) (sN (az h w bs) (.lst (L.map sD)) (.fn fa) (.int h) (.int w) (.tup (bs.map aN)) (.ay (nd 0 L)) (.lst RR) o8 o9):=by
  unfold lD;refine(cV (δ1:=[pS (az h w bs),pS (.lst (L.map sD)),pS (.fn fa),pS (.int h),pS (.int w),pS (.tup (bs.map aN)),none,none,none,none,none,none]) ?_).trans ((cV (δ1:=[pS (az h w bs),pS (.lst (L.map sD)),pS (.fn fa),pS (.int h),pS (.int w),pS (.tup (bs.map aN)),pO (.ay (nd 0 L)),none,none,none,none,none]) ?_).trans ((cV (δ1:=sN (az h w bs) (.lst (L.map sD)) (.fn fa) (.int h) (.int w) (.tup (bs.map aN)) (.ay (nd 0 L)) (.lst []) none none) ?_).trans ((cV ((f9 ei).trans e)).trans ?_)))
  ·unfold az;generalize L.map sD=LL;generalize D.tup (bs.map aN)=B;generalize D.int (h:Int)=H;generalize D.int (w:Int)=W;simp[bV,au,aa,bX,aW,ck,S.d]
  ·unfold au;rw[dz];rfl
  ·generalize L.map sD=LL;generalize az h w bs=ru;generalize D.tup (bs.map aN)=B;generalize D.ay (nd 0 L)=ND;simp[au]
  ·generalize L.map sD=LL;generalize az h w bs=ru;generalize D.tup (bs.map aN)=B;generalize D.ay (nd 0 L)=ND;simp[ba,ax,aJ,aa,ag,bT,S.d]
 unfold eN;rw[show([az h w bs,.lst (L.map sD),D.fn fa].map S.pure)=[.pure (az h w bs),.pure (.lst (L.map sD)),.pure (.fn fa)] from rfl,run];simp[cH,cf]
end
def zz:Nat->List Nat->List (Nat×Nat)
 | _,[]=>[]
 | k,x :: r=>(97 + k,x) :: zz (k + 1) r
theorem Kr:∀ (L:List Nat) (k:Nat),k + L.length<=26->ke ((gD.drop k).map λn=>D.str [n]) (L.map sD)=(zz k L).map λp=>D.tup [sD p.1,sD p.2]
 | [],k,_=>#v[ke,zz]
 | x :: r,k,h=>by
  rw[Kk k (by simp at h; lia)];have:=Kr r (k + 1) (by simp at h ⊢; lia);unfold ke at this ⊢;simp only[Wf,List.zipWith_cons_cons,this,zz]
theorem Ks(f:Nat->Nat):∀ (r:List Nat) (k:Nat),(∀ (i:Nat) x,r[i]? = some x->f x=k + i)->zz k r=r.map λx=>(97 + f x,x)
 | [],_,_=>rfl
 | x :: r,k,h=>by
  have h0:=h 0 x rfl;rw[zz,Ks f r (k + 1) λi y e=>by have:=h (i + 1) y (~~~e); lia,Wf,h0];rfl
theorem Kt:∀ (L:List Nat),L.Nodup->∀ (i:Nat) x,L[i]? = some x->L.idxOf x=i
 | y :: r,hn,0,x,e=>by simp at e; subst e; simp
 | y :: r,hn,i + 1,x,e=>by
  have hn:=WN.mp hn;have hx:r[i]? = some x:= ~~~e
  have ne:y≠x:=λz=>hn.1 (z ▸ Wq hx)
  have hb:(y == x)=false:=#v[ne]
  rw[List.idxOf_cons,hb,Kt r hn.2 i x hx];rfl
theorem YO(L:List Nat)(iR:L.Nodup):zz 0 L=L.map λx=>(97 + L.idxOf x,x):=Ks _ L 0 λi x e=>by rw[Kt L iR i x e]; lia
noncomputable def i3:Option S->Option S
 | some (.own d)=>pS d
 | x=>x
theorem YQ(o:Option S)(δ:Dl)(h:δ[7]? = some (i3 o)):bN δ 7=false:=by
 unfold bN;rw[h];unfold i3
 cases o with
 | none=>rfl
 | some s=>cases s <;> rfl
abbrev sL(pd ru st pt tx dl:D)(z6 z7:Option S)(fn:D)(o9 dg dQ:Option S):Dl:=[pS pd,pS ru,pS st,pS pt,pS tx,pS dl,z6,z7,pS fn,o9,dg,dQ,none]
abbrev lC:DE:=(bE [12,7] (jy (eD (.str gD)) (aa 9)) (bX 2 (aW (ae [] 12) (aW (ae [] 7) ck))) aZ (ba (ax (aa 12) (ax (ah aL 10 (ag 7)) aJ))))
theorem YR(pd ru st pt tx dl:D)(o6 o7:Option S)(fn:D)(SG:D)(sg:Nat->Nat)(iR:L.Nodup)(hl:L.length<=26)(hs:∀ x ∈ L,aL SG (sD x)=pS (sD (sg x))) :
  lC (sL pd ru st pt tx dl o6 (i3 o7) fn (pS (.lst (L.map sD))) (pO SG) none) = .ok (.own (.lst (L.map λx=>D.tup [sD (97 + L.idxOf x),sD (sg x)]))) (sL pd ru st pt tx dl o6 (i3 o7) fn (pS (.lst (L.map sD))) (pO SG) none):=by
 have z:=Kr L 0 Y';rw[List.drop_zero,YO L iR,Ww] at z;have ei:jy (eD (.str gD)) (aa 9) (sL pd ru st pt tx dl o6 (i3 o7) fn (pS (.lst (L.map sD))) (pO SG) none) = .ok (L.map λx=>D.tup [sD (97 + L.idxOf x),sD x]) (sL pd ru st pt tx dl o6 (i3 o7) fn (pS (.lst (L.map sD))) (pO SG) none):=by
  have z':ke (gD.map λn=>D.str [n]) (L.map sD)=L.map λx=>D.tup [sD (97 + L.idxOf x),sD x]:=z
  unfold jy;simp only[eD,eS,aa,Q6,Q5,S.d,ly,z']
 have ec:=cM (cs:=[12,7]) (it:=jy (eD (.str gD)) (aa 9)) (g:=bX 2 (aW (ae [] 12) (aW (ae [] 7) ck))) (t:=aZ) (el:=ba (ax (aa 12) (ax (ah aL 10 (ag 7)) aJ))) (λx:Nat=>D.tup [sD (97 + L.idxOf x),sD x]) (λx=>D.tup [sD (97 + L.idxOf x),sD (sg x)]) ei Y' (λx hx=>by
  have q:=hs x hx;refine⟨[pS pd,pS ru,pS st,pS pt,pS tx,pS dl,o6,pS (sD x),pS fn,pS (.lst (L.map sD)),pO SG,none,pS (sD (97 + L.idxOf x))],_,.pure (.tup [sD (97 + L.idxOf x),sD (sg x)]),[pS pd,pS ru,pS st,pS pt,pS tx,pS dl,o6,pS (sD x),pS fn,pS (.lst (L.map sD)),pO SG,none,pS (sD (97 + L.idxOf x))],rfl,rfl,?_,rfl,rfl⟩;generalize sD (97 + L.idxOf x)=a,sD (sg x)=b,sD x=y,L.map sD=LL at *;simp[ba,ax,aJ,aa,ah,aV,ag,q,S.d]) (by
  have:=YQ o7 (sL pd ru st pt tx dl o6 (i3 o7) fn (pS (.lst (L.map sD))) (pO SG) none) rfl;simp only[Qb,List.any_nil,this];rfl)
 rw[lC,ec];rfl
abbrev lG(fa:Jg):DS:=(aq (au (mK 1 (iD lA 7 fa) [5,4] jz [.val (ah aL 5 (ag 2)),.val (aa 8)]) (ae [] 9)) (aq (au (aA cO (ag 3)) (ae [] 10)) (aq (au (aA bT (ar lC)) (ae [] 11)) (bU (ba (ax (mK 1 (iD lD 12 fa) [5,4] jz [.val (aa 1),.val (aa 9),.val (aa 8)]) (ax (aH aw (eD (.str gD)) (ar (eD (.int 0)))) (ax (aa 11) aJ))))))))
theorem YS(fa:Jg)(pd ru st pt TX DL X0 LL SG NR:D)(SS:List D)(z6 z7:Option S)(x1:aL DL st=pS X0)(r1:iD lA 7 fa (jS 1 jz [DL,TX]) [X0,.fn fa]=some LL)(d1:cO pt=pO SG)
  (c1:lC (sL pd ru st pt TX DL z6 z7 (.fn fa) (pS LL) (pO SG) none) = .ok (.own (.lst SS)) (sL pd ru st pt TX DL z6 z7 (.fn fa) (pS LL) (pO SG) none)) (r2:iD lD 12 fa (jS 1 jz [DL,TX]) [ru,LL,.fn fa]=some NR) :
  lG fa (sL pd ru st pt TX DL z6 z7 (.fn fa) none none none) = .ok (.ret (.pure (.tup [NR,sD 97,.tup SS]))) (sL pd ru st pt TX DL z6 z7 (.fn fa) (pS LL) (pO SG) (pS (.tup SS))):=by
 have i0:aw (.str gD) (.int 0)=pS (sD 97):=#v[aw,jm,cm]
 unfold lG;generalize lC=C,D.str gD=NN,iD lA 7 fa=W1,iD lD 12 fa=W2,hc:jS 1 jz [DL,TX]=K,D.fn fa=fn at *;refine c7 ?_ (by simp[au,mK,bY,aa,ag,ah,aV,x1,n9,mJ,hc,r1,S.d]; rfl);refine c7 ?_ fM;refine c7 ?_ fM;simp[ba,ax,aJ,mK,bY,aa,n9,mJ,hc,r2,i0,S.d]
theorem YT(GT GA:DF)(lg:Jg->DS)(ru st pt TX:D)(GS:List D)(d:List (a7×D))(o6 o7:Option S)(r:D)(o9 dg dQ:Option S)
  (gt:GT [.pure ru,.pure (.int 1)]=some (.own TX,[.pure ru,.pure (.int 1)])) (ga:GA [.pure ru,.pure pt]=some (.own (.lst GS),[.pure ru,.pure pt]))
  (lp:forL (ae [] 6) lF GS (sP (pS (.tup [ru,st,pt])) (pS ru) (pS st) (pS pt) (pO TX) (pO (.ay [])) none none) = .ok .next (sP (pS (.tup [ru,st,pt])) (pS ru) (pS st) (pS pt) (pO TX) (pO (.ay d)) o6 o7))
  (hg:∀ fa,lg fa (sL (.tup [ru,st,pt]) ru st pt TX (.ay d) (i3 o6) (i3 o7) (.fn fa) none none none) = .ok (.ret (.pure r)) (sL (.tup [ru,st,pt]) ru st pt TX (.ay d) (i3 o6) (i3 o7) (.fn fa) o9 dg dQ)) :
  bR [] 13 (aq (au (aa 0) (bX 3 (aW (ae [] 1) (aW (ae [] 2) (aW (ae [] 3) ck))))) (aq (au (aE GT [.val (aa 1),.val (eD (.int 1))]) (ae [] 4)) (aq (au iT (ae [] 5)) (aq (bG (aG (aE GA [.val (aa 1),.val (aa 3)])) (ae [] 6) lF) (dDefR 8 lg))))) [.pure (.tup [ru,st,pt])]=some (.pure r,[.pure (.tup [ru,st,pt])]):=by
 have hd:=UE (j:=8) (g:=lg) (δ:=sP (pS (.tup [ru,st,pt])) (pS ru) (pS st) (pS pt) (pO TX) (pO (.ay d)) o6 o7) (δ':=[pS (.tup [ru,st,pt]),pS ru,pS st,pS pt,pS TX,pS (.ay d),i3 o6,i3 o7,none,o9,dg,dQ,none]) (r:=r) (λfa=>hg fa);apply AD;iterate 3 refine c7 ?_ fM
 refine c7 ?_ ((f9 fM).trans lp);exact hd
def AX(h w:Nat)(bs:List (Nat×List Tx))(L:List Nat)(hd sg:Nat->Nat):D:=.tup [.tup [.int h,.int w,.tup (L.map (e9 bs (λp=>97 + L.idxOf (hd p)) λx=>97 + L.idxOf x))],sD 97,.tup (L.map λx=>D.tup [sD (97 + L.idxOf x),sD (sg x)])]
structure Wk(bs:List (Nat×List Tx))(hd:Nat->Nat)(st n:Nat):Prop where
 len:(bf (λt=>(aB bs t).map hd) (hd st) n).length=n
 le:n<=bs.length
 lt:∀ j < n,j < (bf (λt=>(aB bs t).map hd) (hd st) j).length
abbrev c8(bs:List (Nat×List Tx))(hd:Nat->Nat)(st n:Nat):List Nat:=bf (λt=>(aB bs t).map hd) (hd st) n
section
variable {h w:Nat}{bs:List (Nat×List Tx)}{st:Nat}
theorem Ku(R:bZ h w bs):(∀ t ∈ bs.map (·.1),∀ p ∈ (aB bs t).map (bC c (bs.map (·.1))),p ∈ bs.map (·.1))/\∀ t ∈ bs.map (·.1),((aB bs t).map (bC c (bs.map (·.1)))).length<=16:=by
 refine⟨λt ht p hp=>?_,λt ht=>?_⟩
 ·obtain⟨q,hq,rfl⟩:=WA.mp hp;exact(sY ((jC R ht).2.2 q hq)).choose_spec.2.1
 ·obtain⟨l1,l2,_⟩:=jC R ht;simp;lia
theorem AY(R:bZ h w bs)(c9:st ∈ bs.map (·.1))(W:Wk bs (bC c (bs.map (·.1))) st n):(∀ t ∈ c8 bs (bC c (bs.map (·.1))) st n,t ∈ bs.map (·.1))/\∀ t ∈ c8 bs (bC c (bs.map (·.1))) st n,∀ p ∈ aB bs t,bC c (bs.map (·.1)) p ∈ c8 bs (bC c (bs.map (·.1))) st n:=by
 have h0:=(sY (c:=c) c9).choose_spec.2.1;refine⟨sS h0 (Ku R).1 n W.lt,λt ht p hp=>?_⟩;obtain⟨k,hk,e⟩:=U1 ht;have YU:k < n:=by rw[<- W.len]; exact hk
 obtain⟨s1,e1⟩:=sQ (pt:=λt=>(aB bs t).map (bC c (bs.map (·.1)))) (x0:=bC c (bs.map (·.1)) st) k (n - k);obtain⟨s2,e2⟩:=sQ (pt:=λt=>(aB bs t).map (bC c (bs.map (·.1)))) (x0:=bC c (bs.map (·.1)) st) (k + 1) (n - (k + 1));rw[show k + (n - k)=n by lia] at e1;rw[show k + 1 + (n - (k + 1))=n by lia] at e2;have bu:=W.lt k YU;have et:(c8 bs (bC c (bs.map (·.1))) st k).getD k 0=t:=by
  rw[Qi,Wb bu];have:(c8 bs (bC c (bs.map (·.1))) st n)[k]? = some t:=by rw[Wb hk,e]
  rw[c8,e1,Q8 bu,Wb bu] at this;simpa using this
 show _ ∈ bf _ _ n;rw[e2];refine JV _ ((kC _ _).mpr (.inr ?_));show _ ∈ (λt=>(aB bs t).map (bC c (bs.map (·.1)))) ((c8 bs (bC c (bs.map (·.1))) st k).getD k 0);rw[et];exact WD hp
end
theorem YV{h w:Nat}{bs:List (Nat×List Tx)}{st:Nat}(R:bZ h w bs)(hp:ps.map (·.1)=bs.map (·.1))(c9:st ∈ bs.map (·.1)):∃ c n,Res (bs.map (·.1)) (aB bs) (dU ps) c/\Wk bs (bC c (bs.map (·.1))) st n /\
  G_least_floor [.pure (.tup [az h w bs,sD st,du ps])]=some (.pure (AX h w bs (c8 bs (bC c (bs.map (·.1))) st n) (bC c (bs.map (·.1))) (dU ps)),[.pure (.tup [az h w bs,sD st,du ps])]):=by
 obtain⟨c,rs,ga⟩:=X9 R hp;have gt:=Yu R;have n1:=R.n1;have h0:=(sY (c:=c) c9).choose_spec.2.1;obtain⟨p1,p2⟩:=Ku (c:=c) R;obtain⟨n,hn,jO,hj⟩:=V6 h0 p1;have W:Wk bs (bC c (bs.map (·.1))) st n:=⟨hn,~~~jO,hj⟩
 refine⟨c,n,rs,W,?_⟩;obtain⟨w1,w2⟩:=AY R c9 W;generalize cg:bs.map (·.1)=ts at *;have tl:ts.length<=26:=by rw[<- cg]; simpa using n1
 obtain⟨d,l,o6,o7,hF,Az,_,lp⟩:=Ki (pS (.tup [az h w bs,sD st,du ps])) (pS (az h w bs)) (pS (sD st)) (pS (du ps)) (pO (b_ bs)) (c:=c) tl (aQ [] (ts.map λt=>fit c ts (c t))) (λg hg=>by
  rcases (kC _ _).mp hg with z | z
  ·cases z
  ·obtain⟨t,ht,rfl⟩:=WA.mp z;exact⟨t,ht,rfl⟩) [] [] none none Fd.nil (by have:=sI (ts.map λt=>fit c ts (c t)) []; simp at this ⊢; lia)
 have Kv:∀ t ∈ ts,t ∈ l:=λt ht=>Az (fit c ts (c t)) ((kC _ _).mpr (.inr (WD (f:=λt=>fit c ts (c t)) ht))) t #v[fit,ht]
 have lr:∀ t ∈ ts,jS 1 jz [.ay d,b_ bs] (sD t)=some (.lst ((aB bs t).map λp=>sD (bC c ts p))):=λt ht=>by
  have nj:t ∈ bs.map (·.1):=%[cg|ht]
  obtain⟨l1,l2,l3⟩:=jC R nj;exact Yz hF nj (λp hp=>Kv p (by rw[<- cg]; exact l3 p hp)) Y'
 have YW:∀ t ∈ ts,jS 1 jz [.ay d,b_ bs] (sD t)=some (.lst (((aB bs t).map (bC c ts)).map sD)):=λt ht=>by rw[lr t ht,Ww]; rfl
 have nl:=vP (pt:=λt=>(aB bs t).map (bC c ts)) (x0:=bC c ts st) n;have AZ:(ps.map (·.1)).Nodup:=by rw[hp,<- cg]; exact R.nd
 have pl:ps.length<=26:=by have:=congrArg Qp hp; simp at this; lia
 rw[G_least_floor,b_least_floor];refine YT _ _ lG _ _ _ _ _ d o6 o7 _ _ _ _ gt ga lp λfa=>YS fa _ _ _ _ _ _ _ _ _ _ _ _ _ (hF.ix (Kv st c9)) (YD fa _ tl h0 p1 p2 YW hn jO hj) (vX AZ Y') (YR _ _ _ _ _ _ _ _ _ _ (dU ps) nl (by rw[hn]; lia) λx hx=>sX %[hp|w1 x hx]) (YN (hd:=bC c ts) R fa _ nl (by rw[hn]; lia) (λt ht=>%[cg|w1 t ht]) w2 λt ht=>lr t (w1 t ht))
theorem Kw(a b:List Nat):∀ (H:List Nat),aQ H (a ++ b)=aQ (aQ H a) b:=by
 induction a with
 | nil=>intro H; rfl
 | cons x r ih=>intro H; rw[JA,sZ,ih,sZ H x r]
theorem YX(k:Nat)(h:k < 26):aw (.str gD) (.int k)=pS (sD (97 + k)):=by
 have:∀ k < 26,gD[k]? = some (97 + k):=by decide
 simp[aw,iA,this k h,cm]
theorem YZ(a:Tx)(n:Nat)(h:a.length<=100):bt (.str a) (sD n)=pS (.str (a ++ [n])):=by
 simp[bt,cm];lia
abbrev sW(u0 u1 u2 u3 u4 u5 u7:Option S)(HD BL H nm fo:D)(a_ bL cn bP:Option S):Dl:=[u0,u1,u2,u3,u4,u5,pO HD,u7,pO BL,pO H,pO nm,pO fo,a_,bL,cn,bP,none,none,none,none]
abbrev zS:DS:=(aq (cN (aF (aH (eR true) (ah aL 6 (ag 15)) (ag 10))) (aq (de 10 (ah aL 6 (ag 15)) (aH aw (eD (.str gD)) (ar (aA bw (ag 9))))) (cb 9 (ah aL 6 (ag 15)))) cR) (au (ah bt 14 (ar (ah aL 10 (ar (ah aL 6 (ag 15)))))) (ae [] 14)))
section
variable (u0 u1 u2 u3 u4 u5 u7:Option S)(HD BL fo:D)(a_ bL:Option S)
theorem Y0(hd:Nat->Nat)(p:Nat)(hx:aL HD (sD p)=pS (sD (hd p)))(H:List Nat)(d:List (a7×D))(hf:Fd d H (λx=>sD (97 + L.idxOf x)))(hL:∃ s,L=aQ H [hd p] ++ s)(hl:L.length<=26)(a:Tx)(ha:a.length<=100) :
  ∃ d',Fd d' (aQ H [hd p]) (λx=>sD (97 + L.idxOf x))/\zS (sW u0 u1 u2 u3 u4 u5 u7 HD BL (.lst (H.map sD)) (.ay d) fo a_ bL (pS (.str a)) (pS (sD p))) = .ok .next (sW u0 u1 u2 u3 u4 u5 u7 HD BL (.lst ((aQ H [hd p]).map sD)) (.ay d') fo a_ bL (pS (.str (a ++ [97 + L.idxOf (hd p)]))) (pS (sD p))):=by
 obtain⟨s,eL⟩:=hL;have q:=hf.Kh (x:=hd p);have hz:d.length < Wa:=by
  have:=hf.2;have e:=congrArg Qp eL;obtain⟨s',es⟩:=oy [hd p] H;rw[es] at e;simp at e;rw[cm];lia
 have ad:=YZ a (97 + L.idxOf (hd p)) ha;have kt:cA (sD (hd p))=some (.inr [hd p]):=rfl;by_cases hp:hd p ∈ H
 ·have ed:aQ H [hd p]=H:=#v[aQ,hp]
  rw[ed];refine⟨d,hf,?_⟩;have x2:=hf.ix hp;simp only[hp,decide_true,Bool.not_true] at q;generalize D.str (a ++ [97 + L.idxOf (hd p)])=y1 at *;generalize D.str a=y0 at *;generalize sD (97 + L.idxOf (hd p))=y2 at *;generalize D.ay d=DD at *;generalize H.map sD=LL at *;generalize sD (hd p)=z2 at *;generalize sD p=z at *;generalize D.str gD=NN at *;refine(cV (δ1:=sW u0 u1 u2 u3 u4 u5 u7 HD BL (.lst LL) DD fo a_ bL (pS y0) (pS z)) ?_).trans ?_
  ·simp[aF,aH,ah,aV,ag,hx,q,S.d]
  ·simp[au,ah,aV,ag,hx,x2,ad,S.d]
 ·have ed:aQ H [hd p]=H ++ [hd p]:=#v[aQ,hp]
  rw[ed] at eL ⊢;have ix:L.idxOf (hd p)=H.length:=by
   rw[eL,Jq,List.idxOf_append,if_neg hp];simp
  have hH:H.length < 26:=by
   have e:=congrArg Qp eL;simp at e;lia
  have i1:=YX H.length hH;rw[<- ix] at i1;have ln:bw (.lst (H.map sD))=pS (.int (L.idxOf (hd p):Nat)):=#v[bw,ix]
  have mF:(H.map sD).length < Wa:=by rw[cm]; simp; lia
  have Kx:=hf.put (hd p);have x2:=Kx.ix (x:=hd p) Z5;refine⟨_,Kx,?_⟩;simp only[hp,decide_false,Bool.not_false] at q;rw[WR];show _=Rs.ok Fl.next (sW u0 u1 u2 u3 u4 u5 u7 HD BL (.lst (H.map sD ++ [sD (hd p)])) _ fo a_ bL _ _);unfold zS;generalize D.str (a ++ [97 + L.idxOf (hd p)])=y1 at *;generalize D.str a=y0 at *;generalize hy2:sD (97 + L.idxOf (hd p))=y2 at *;generalize D.int ((L.idxOf (hd p):Nat):Int)=ii at *;generalize hP:putD d (.inr [hd p]) y2=d2 at *;generalize hLL:H.map sD=LL at *;generalize sD (hd p)=z2 at *;generalize sD p=z at *;generalize D.str gD=NN at *;have s1:aF (aH (eR true) (ah aL 6 (ag 15)) (ag 10)) (sW u0 u1 u2 u3 u4 u5 u7 HD BL (.lst LL) (.ay d) fo a_ bL (pS y0) (pS z)) = .ok true (sW u0 u1 u2 u3 u4 u5 u7 HD BL (.lst LL) (.ay d) fo a_ bL (pS y0) (pS z)):=by
   generalize D.ay d=DD at *;simp[aF,aH,ah,aV,ag,hx,q,S.d]
  refine(cV (δ1:=sW u0 u1 u2 u3 u4 u5 u7 HD BL (.lst (LL ++ [z2])) (.ay d2) fo a_ bL (pS y0) (pS z)) ?_).trans ?_
  ·rw[yB,s1];refine(cV (δ1:=sW u0 u1 u2 u3 u4 u5 u7 HD BL (.lst LL) (.ay d2) fo a_ bL (pS y0) (pS z)) ?_).trans ?_
   ·simp[de,kb,ah,aV,ag,hx,kt,ln,i1,hz,hP,S.d]
   ·generalize D.ay d2=DD at *;simp[cb,fX,putL,ah,aV,ag,hx,mF,S.d]
  ·generalize D.ay d2=DD at *;simp[au,ah,aV,ag,hx,x2,ad,S.d]
end
abbrev zR:DS:=(aq (au (eD (.str [])) (ae [] 14)) (aq (bG (aG (aa 13)) (ae [] 15) zS) (cb 12 (aa 14))))
section
variable (u0 u1 u2 u3 u4 u5 u7:Option S)(HD BL fo:D)(hl:L.length<=26)(hd:Nat->Nat)
include hl
theorem Ky(a_ bL:Option S):∀ (r Q H:List Nat) (d:List (a7×D)) (a:Tx) (bP:Option S),(∀ p ∈ r,aL HD (sD p)=pS (sD (hd p)))->Fd d H (λx=>sD (97 + L.idxOf x))->(∃ s,L=aQ H (r.map hd ++ Q) ++ s)->a.length + r.length<=100 ->
  ∃ d' o15',Fd d' (aQ H (r.map hd)) (λx=>sD (97 + L.idxOf x))/\forL (ae [] 15) zS (r.map sD) (sW u0 u1 u2 u3 u4 u5 u7 HD BL (.lst (H.map sD)) (.ay d) fo a_ bL (pS (.str a)) bP) = .ok .next (sW u0 u1 u2 u3 u4 u5 u7 HD BL (.lst ((aQ H (r.map hd)).map sD)) (.ay d') fo a_ bL (pS (.str (a ++ r.map λp=>97 + L.idxOf (hd p)))) o15')
 | [],Q,H,d,a,bP,_,hf,_,_=>⟨d,bP,hf,#v[forL,aQ]⟩
 | p :: r,Q,H,d,a,bP,hx,hf,⟨s,e⟩,ha=>by
  rw[Wf,JA,sZ] at e;obtain⟨s1,e1⟩:=oy (r.map hd ++ Q) (aQ H [hd p]);obtain⟨d1,h1,k1⟩:=Y0 u0 u1 u2 u3 u4 u5 u7 HD BL fo a_ bL hd p (hx p (.head _)) H d hf ⟨s1 ++ s,by rw[e,e1,Jq]⟩ hl a (by simp at ha; lia);obtain⟨d2,o2,h2,k2⟩:=Ky a_ bL r Q (aQ H [hd p]) d1 (a ++ [97 + L.idxOf (hd p)]) (pS (sD p)) (λq hq=>hx q (.tail _ hq)) h1 ⟨s,e⟩ (by simp at ha ⊢; lia);rw[Wf,sZ];refine⟨d2,o2,h2,?_⟩;show forL _ _ (sD p :: r.map sD) _=_;rw[jB (δ1:=sW u0 u1 u2 u3 u4 u5 u7 HD BL (.lst (H.map sD)) (.ay d) fo a_ bL (pS (.str a)) (pS (sD p))) rfl k1,k2];simp
theorem Y1(r Q H:List Nat)(d:List (a7×D))(rl:List D)(hr:rl.length<=100)(cn bP:Option S)(hx:∀ p ∈ r,aL HD (sD p)=pS (sD (hd p)))(hf:Fd d H (λx=>sD (97 + L.idxOf x)))(hs:∃ s,L=aQ H (r.map hd ++ Q) ++ s)(ha:r.length<=100) :
  ∃ d' o14' o15',Fd d' (aQ H (r.map hd)) (λx=>sD (97 + L.idxOf x))/\zR (sW u0 u1 u2 u3 u4 u5 u7 HD BL (.lst (H.map sD)) (.ay d) fo (pO (.lst rl)) (pS (.str r)) cn bP) = .ok .next (sW u0 u1 u2 u3 u4 u5 u7 HD BL (.lst ((aQ H (r.map hd)).map sD)) (.ay d') fo (pO (.lst (rl ++ [.str (r.map λp=>97 + L.idxOf (hd p))]))) (pS (.str r)) o14' o15'):=by
 obtain⟨d1,o1,h1,k1⟩:=Ky u0 u1 u2 u3 u4 u5 u7 HD BL fo hl hd (pO (.lst rl)) (pS (.str r)) r Q H d [] bP hx hf hs (~~~ha);refine⟨d1,pS (.str (r.map λp=>97 + L.idxOf (hd p))),o1,h1,?_⟩;have hz:rl.length < Wa:=by rw[cm]; lia
 rw[WQ] at k1;generalize (aQ H (r.map hd)).map sD=L2,H.map sD=L1,D.ay d1=D1,D.ay d=D0,hRS:r.map sD=RS,D.str (r.map λp=>97 + L.idxOf (hd p))=Y at *;have ei:aG (aa 13) (sW u0 u1 u2 u3 u4 u5 u7 HD BL (.lst L1) D0 fo (pO (.lst rl)) (pS (.str r)) (pS (.str [])) bP) = .ok RS (sW u0 u1 u2 u3 u4 u5 u7 HD BL (.lst L1) D0 fo (pO (.lst rl)) (pS (.str r)) (pS (.str [])) bP):=by
  rw[<- hRS];simp[df,aa,S.d]
 generalize D.str r=R at *;unfold zR;generalize D.str []=E,zS=Z at *;refine(cV (δ1:=sW u0 u1 u2 u3 u4 u5 u7 HD BL (.lst L1) D0 fo (pO (.lst rl)) (pS R) (pS E) bP) ?_).trans ((cV ((f9 ei).trans k1)).trans ?_)
 ·simp[au]
 ·simp[cb,fX,putL,aa,hz,S.d]
theorem Kz:∀ (rs:List Tx) (Q H:List Nat) (d:List (a7×D)) (rl:List D) (bL cn bP:Option S),(∀ r ∈ rs,r.length<=100/\∀ p ∈ r,aL HD (sD p)=pS (sD (hd p)))->Fd d H (λx=>sD (97 + L.idxOf x))->(∃ s,L=aQ H (rs.flatten.map hd ++ Q) ++ s)->rl.length + rs.length<=100 ->
  ∃ d' o13' o14' o15',Fd d' (aQ H (rs.flatten.map hd)) (λx=>sD (97 + L.idxOf x))/\forL (ae [] 13) zR (rs.map .str) (sW u0 u1 u2 u3 u4 u5 u7 HD BL (.lst (H.map sD)) (.ay d) fo (pO (.lst rl)) bL cn bP) = .ok .next (sW u0 u1 u2 u3 u4 u5 u7 HD BL (.lst ((aQ H (rs.flatten.map hd)).map sD)) (.ay d') fo (pO (.lst (rl ++ rs.map λr=>D.str (r.map λp=>97 + L.idxOf (hd p))))) o13' o14' o15')
 | [],Q,H,d,rl,bL,cn,bP,_,hf,_,_=>⟨d,bL,cn,bP,hf,#v[forL,aQ]⟩
 | r :: rs,Q,H,d,rl,bL,cn,bP,hx,hf,hs,hn=>by
  have ef:(r :: rs).flatten.map hd ++ Q=r.map hd ++ (rs.flatten.map hd ++ Q):=by simp
  rw[ef] at hs;obtain⟨d1,p14,p15,h1,k1⟩:=Y1 u0 u1 u2 u3 u4 u5 u7 HD BL fo hl hd r (rs.flatten.map hd ++ Q) H d rl (by simp at hn; lia) cn bP (hx r (.head _)).2 hf hs (hx r (.head _)).1;obtain⟨s,e⟩:=hs;rw[Kw] at e;obtain⟨d2,q13,q14,q15,h2,k2⟩:=Kz rs Q (aQ H (r.map hd)) d1 (rl ++ [.str (r.map λp=>97 + L.idxOf (hd p))]) (pS (.str r)) p14 p15 (λr' h'=>hx r' (.tail _ h')) h1 ⟨s,e⟩ (by simp at hn ⊢; lia);have Y2:aQ H ((r :: rs).flatten.map hd)=aQ (aQ H (r.map hd)) (rs.flatten.map hd):=by rw[<- Kw]; simp
  rw[Y2];refine⟨d2,q13,q14,q15,h2,?_⟩;show forL _ _ (.str r :: rs.map .str) _=_;rw[jB (δ1:=sW u0 u1 u2 u3 u4 u5 u7 HD BL (.lst (H.map sD)) (.ay d) fo (pO (.lst rl)) (pS (.str r)) cn bP) rfl k1,k2];simp
end
abbrev A0:DE:=(ah aw 9 (ar (aA bw (ag 11))))
abbrev zW:DS:=(aq (au (cG aJ) (ae [] 12)) (aq (bG (aG (ah aL 8 (ar A0))) (ae [] 13) zR) (cb 11 (ba (ax (ah aL 10 (ar A0)) (ax (aA bT (ag 12)) aJ))))))
abbrev zT:DT:=(aF (aH gL (aA bw (ag 11)) (ar (aA bw (ag 9)))))
theorem KA{A s:List Nat}{k:Nat}(e:L=A ++ s)(h:k < A.length)(h2:k < L.length):A.getD k 0=L[k]:=by
 subst e;simp[List.getElem_append,h]
section
variable {h w:Nat}{bs:List (Nat×List Tx)}{st:Nat}
theorem Y3(R:bZ h w bs)(u0 u1 u2 u3 u4 u5 u7:Option S)(HD:D)(hx:∀ p ∈ bs.map (·.1),aL HD (sD p)=pS (sD (hd p)))(W:Wk bs hd st n)(fY:∀ t ∈ c8 bs hd st n,t ∈ bs.map (·.1))(d0:List (a7×D))(Y4:Fd d0 [hd st] (λx=>sD (97 + (c8 bs hd st n).idxOf x))) :
  ∃ d' a_ bL cn bP,Fd d' (c8 bs hd st n) (λx=>sD (97 + (c8 bs hd st n).idxOf x))/\dB zT zW 1000000 (sW u0 u1 u2 u3 u4 u5 u7 HD (fz bs) (.lst ([hd st].map sD)) (.ay d0) (.lst []) none none none none) = .ok .next (sW u0 u1 u2 u3 u4 u5 u7 HD (fz bs) (.lst ((c8 bs hd st n).map sD)) (.ay d') (.lst ((c8 bs hd st n).map (e9 bs (λp=>97 + (c8 bs hd st n).idxOf (hd p)) λx=>97 + (c8 bs hd st n).idxOf x))) a_ bL cn bP):=by
 have n1:=R.n1;have Wl:=W.len;have Wle:=W.le;have pre:∀ k,k<=n->∃ s,c8 bs hd st n=bf (λt=>(aB bs t).map hd) (hd st) k ++ s:=λk hk=>by
  obtain⟨s,e⟩:=sQ (pt:=λt=>(aB bs t).map hd) (x0:=hd st) k (n - k);rw[show k + (n - k)=n by lia] at e;exact⟨s,e⟩
 have bk:∀ k,bf (λt=>(aB bs t).map hd) (hd st) (k + 1)=aQ (bf (λt=>(aB bs t).map hd) (hd st) k) ((aB bs ((bf (λt=>(aB bs t).map hd) (hd st) k).getD k 0)).map hd):=λk=>rfl
 have bu:=W.lt;have b0:bf (λt=>(aB bs t).map hd) (hd st) 0=[hd st]:=rfl;generalize hB:bf (λt=>(aB bs t).map hd) (hd st)=B,hL:c8 bs hd st n=L at *;have eL:B n=L:=by rw[<- hL,c8,hB]
 have ll:L.length<=26:=by rw[<- eL,Wl]; lia
 obtain⟨δ',⟨d',a_,bL,cn,bP,e,hf⟩,hw⟩:=AS (t:=zT) (b:=zW) (n:=n) (λk δ=>∃ d a_ bL cn bP,δ=sW u0 u1 u2 u3 u4 u5 u7 HD (fz bs) (.lst ((B k).map sD)) (.ay d) (.lst ((L.take k).map (e9 bs (λp=>97 + L.idxOf (hd p)) λx=>97 + L.idxOf x))) a_ bL cn bP/\Fd d (B k) (λx=>sD (97 + L.idxOf x))) (λk hk δ ⟨d,a_,bL,cn,bP,e,hf⟩=>by
  subst e;have kl:=bu k hk;obtain⟨s,es⟩:=pre k Y';obtain⟨s2,es2⟩:=pre (k + 1) Y';have v_:k < L.length:=by rw[<- eL,Wl]; exact hk
  have et:(B k).getD k 0=L[k]:=KA es kl v_;have ht:L[k] ∈ bs.map (·.1):=fY _ (QE _);have lx:L[k] ∈ B k:=by rw[<- et,Qi,Wb kl]; exact QE _
  obtain⟨b,hb,eb1,_,eb⟩:=oE ht;obtain⟨b1,b2⟩:=R.cU b hb;rw[<- eb] at b1 b2;have h1:=R.h1;have w1:=R.w1;have wa:B (k + 1)=aQ (B k) ((cU bs L[k]).flatten.map hd):=by rw[bk,et]; rfl
  obtain⟨d1,q13,q14,q15,hf1,k1⟩:=Kz u0 u1 u2 u3 u4 u5 u7 HD (fz bs) (.lst ((L.take k).map (e9 bs (λp=>97 + L.idxOf (hd p)) λx=>97 + L.idxOf x))) ll hd (cU bs L[k]) [] (B k) d [] bL cn bP (λr hr=>⟨by rw[(b2 r hr).1]; lia,λp hp=>hx p ((b2 r hr).2 p hp)⟩) hf ⟨s2,by rw[Ql,<- wa]; exact es2⟩ Z6;rw[<- wa] at hf1 k1;have KC:=AU (B k) k kl;rw[et] at KC;have KD:k < (B (k + 1)).length:=by
   obtain⟨s3,e3⟩:=oy ((cU bs L[k]).flatten.map hd) (B k);rw[wa,e3];simp;lia
  have Y5:(B (k + 1)).getD k 0=L[k]:=KA es2 KD v_;have vL:=AU (B (k + 1)) k KD;rw[Y5] at vL;have xb:aL (fz bs) (sD L[k])=pS (bS (cU bs L[k])):=Ke ht;have xn:=hf1.ix (x:=L[k]) (by rw[wa]; exact(kC _ _).mpr (.inl lx));have s_:bw (.lst ((L.take k).map (e9 bs (λp=>97 + L.idxOf (hd p)) λx=>97 + L.idxOf x)))=pS (.int k):=by
   simp[bw,Uv (U4 v_)]
  have A5:bw (.lst ((B k).map sD))=pS (.int (B k).length):=#v[bw]
  have mz:=v7 k (B k).length;rw[decide_eq_true kl] at mz;have hz:((L.take k).map (e9 bs (λp=>97 + L.idxOf (hd p)) λx=>97 + L.idxOf x)).length < Wa:=by rw[cm]; simp; lia
  have tk:(L.take (k + 1)).map (e9 bs (λp=>97 + L.idxOf (hd p)) λx=>97 + L.idxOf x)=(L.take k).map (e9 bs (λp=>97 + L.idxOf (hd p)) λx=>97 + L.idxOf x) ++ [.tup [sD (97 + L.idxOf L[k]),.tup ((cU bs L[k]).map λr=>.str (r.map λp=>97 + L.idxOf (hd p)))]]:=by
   rw[Qx,WR];simp[v_,e9]
  rw[WQ] at k1;refine⟨sW u0 u1 u2 u3 u4 u5 u7 HD (fz bs) (.lst ((B (k + 1)).map sD)) (.ay d1) (.lst ((L.take (k + 1)).map (e9 bs (λp=>97 + L.idxOf (hd p)) λx=>97 + L.idxOf x))) (pO (.lst ((cU bs L[k]).map λr=>D.str (r.map λp=>97 + L.idxOf (hd p))))) q13 q14 q15,?_,?_,d1,_,_,_,_,rfl,hf1⟩
  ·generalize D.ay d=DD,D.lst ((B k).map sD)=LL,D.lst ((L.take k).map (e9 bs (λp=>97 + L.idxOf (hd p)) λx=>97 + L.idxOf x))=FF,fz bs=DB,((B k).length:Int)=zl at *;simp[zT,aF,aH,ag,s_,A5,mz,S.d]
  ·rw[tk];generalize ((cU bs L[k]).map λr=>D.str (r.map λp=>97 + L.idxOf (hd p)))=RR,(L.take k).map (e9 bs (λp=>97 + L.idxOf (hd p)) λx=>97 + L.idxOf x)=FF,(B (k + 1)).map sD=LL2,(B k).map sD=LL,fz bs=DB,D.ay d1=DD1,D.ay d=DD,sD (97 + L.idxOf L[k])=y,sD L[k]=z at *;have ei:aG (ah aL 8 (ar A0)) (sW u0 u1 u2 u3 u4 u5 u7 HD DB (.lst LL) DD (.lst FF) (pO (.lst [])) bL cn bP) = .ok ((cU bs L[k]).map .str) (sW u0 u1 u2 u3 u4 u5 u7 HD DB (.lst LL) DD (.lst FF) (pO (.lst [])) bL cn bP):=by
    unfold bS at xb;generalize (cU bs L[k]).map D.str=BB at *;simp[df,ah,aV,ag,s_,KC,xb,S.d]
   unfold zW;generalize zR=Z at *;refine(cV (δ1:=sW u0 u1 u2 u3 u4 u5 u7 HD DB (.lst LL) DD (.lst FF) (pO (.lst [])) bL cn bP) ?_).trans ((cV ((f9 ei).trans k1)).trans ?_)
   ·simp[au]
   ·simp[cb,fX,putL,ba,ax,aJ,ah,aV,ag,s_,vL,xn,bT,hz,S.d]) (λδ ⟨d,a_,bL,cn,bP,e,hf⟩=>by
  subst e;have mz:=v7 n n;rw[decide_eq_false (Qg n)] at mz;have s_:bw (.lst ((L.take n).map (e9 bs (λp=>97 + L.idxOf (hd p)) λx=>97 + L.idxOf x)))=pS (.int n):=by
   have:L.length=n:=by rw[<- eL]; exact Wl
   simp[bw,this]
  have A5:bw (.lst ((B n).map sD))=pS (.int n):=#v[bw,Wl]
  generalize D.ay d=DD,D.lst ((B n).map sD)=LL,D.lst ((L.take n).map (e9 bs (λp=>97 + L.idxOf (hd p)) λx=>97 + L.idxOf x))=FF,fz bs=DB at *;simp[zT,aF,aH,ag,s_,A5,mz,S.d]) n 0 (sW u0 u1 u2 u3 u4 u5 u7 HD (fz bs) (.lst ([hd st].map sD)) (.ay d0) (.lst []) none none none none) 1000000 Y' Y' ⟨d0,none,none,none,none,by rw[b0]; rfl,%[b0|Y4]⟩
 subst e;rw[eL,QT (by rw[<- eL,Wl]; lia)] at hw;exact⟨d',a_,bL,cn,bP,by rw[<- eL]; rw[eL] at hf ⊢; exact hf,hw⟩
end
abbrev KG:DT:=(aF (ah gy 4 (ar (ba (ax (aa 7) (ax (aa 18) aJ))))))
theorem Y6{A:Type}(f F:A->D)(q:A->Bool){as:List A}{it:DI}{g:DG}{t:DT}{el:DE}{δ δ1:Dl}(e:it δ = .ok (as.map f) δ1)(hl:as.length<=1000)(hs:∀ a ∈ as,∃ δ1' δ2 x δ3,g (.pure (f a)) (bz cs δ1)=some δ1'/\t δ1' = .ok (q a) δ2/\bz cs δ2=bz cs δ1/\el δ2 = .ok x δ3/\bz cs δ3=bz cs δ1/\x.d=F a)(no:cs.any (bN δ1)=false:=by rfl):bE cs it g t el δ = .ok (.own (.lst ((as.filter q).map F))) (cS cs δ1 (bz cs δ1)):=by
 have c:=vQ (cs:=cs) (g:=g) (t:=t) (el:=el) f F q (bz cs δ1) as [] (by have:PySem.sizeLine=16777216:=rfl; simp; lia) hs;unfold bE;rw[e];show(if _ then _ else _)=_;rw[if_neg (by rw[no]; decide),c];rfl
abbrev sH(pd ru st pt:D)(AA:List (D×D))(TL:D)(dd:D)(o7:Option S):Dl:=[pS pd,pS ru,pS st,pS pt,pO (.dic AA),pS TL,pO dd,o7,none,none,none,none,none,none,none,none,none,none,none,none]
abbrev hC:DE:=(bE [18] (aG (aa 5)) (ae [] 18) (gI KG) (aa 18))
abbrev hB:DS:=(de 6 (aa 7) (aH aw hC (ar (eD (.int 0)))))
theorem Y7(pd ru st pt dd:D)(cg:ts.length<=26)(A:RR)(ht:t ∈ ts):hC (sH pd ru st pt (aP (dC ts) A) (.lst (ts.map sD)) dd (pS (sD t))) = .ok (.own (.lst ((ts.filter λu=>!A (t,u)).map sD))) (sH pd ru st pt (aP (dC ts) A) (.lst (ts.map sD)) dd (pS (sD t))):=by
 have ei:aG (aa 5) (sH pd ru st pt (aP (dC ts) A) (.lst (ts.map sD)) dd (pS (sD t))) = .ok (ts.map sD) (sH pd ru st pt (aP (dC ts) A) (.lst (ts.map sD)) dd (pS (sD t))):=by
  generalize ts.map sD=LL;generalize aP (dC ts) A=AA;generalize sD t=z;simp[df,aa,S.d]
 have ec:=Y6 (cs:=[18]) (it:=aG (aa 5)) (g:=ae [] 18) (t:=gI KG) (el:=aa 18) sD sD (λu=>!A (t,u)) ei Y' (λu hu=>by
  have g:=vZ (dC ts) A (t,u);have v:=v3 A (t,u) (dC ts);rw[if_pos (AO.mpr ⟨ht,hu⟩)] at v;have q:gy (.dic (aP (dC ts) A)) (.tup [sD t,sD u])=pS (.bl (A (t,u))):=by
   show(if gv (gQ (kD (t,u))) (aP (dC ts) A) (kD (t,u)) then(fJ (aP (dC ts) A) (kD (t,u))).map S.pure else none)=_;rw[g,if_pos rfl,v];rfl
  generalize ts.map sD=LL,aP (dC ts) A=AA,A (t,u)=bb,sD t=z,sD u=y at *;refine⟨[pS pd,pS ru,pS st,pS pt,pO (.dic AA),pS (.lst LL),pO dd,pS z,none,none,none,none,none,none,none,none,none,none,pS y,none],[pS pd,pS ru,pS st,pS pt,pO (.dic AA),pS (.lst LL),pO dd,pS z,none,none,none,none,none,none,none,none,none,none,pS y,none],.pure y,[pS pd,pS ru,pS st,pS pt,pO (.dic AA),pS (.lst LL),pO dd,pS z,none,none,none,none,none,none,none,none,none,none,pS y,none],rfl,?_,rfl,?_,rfl,rfl⟩
  ·simp[aF,ah,aV,ag,ba,ax,aJ,aa,q,S.d]
  ·simp[aa])
 rw[hC,ec];rfl
theorem Y8(pd ru st pt:D)(cg:ts.length<=26)(hA:∀ t ∈ ts,∀ u ∈ ts,A (t,u) = !decide (c t=c u))(ht:t ∈ ts)(d:List (a7×D))(hz:d.length < Wa) :
  hB (sH pd ru st pt (aP (dC ts) A) (.lst (ts.map sD)) (.ay d) (pS (sD t))) = .ok .next (sH pd ru st pt (aP (dC ts) A) (.lst (ts.map sD)) (.ay (putD d (.inr [t]) (sD (bC c ts t)))) (pS (sD t))):=by
 have e:=Y7 pd ru st pt (.ay d) cg A ht;have ef:(ts.filter λu=>!A (t,u))=fit c ts (c t):=by
  unfold fit;refine List.filter_congr λu hu=>?_
  rw[hA t ht u hu];simp[eq_comm]
 obtain⟨r,e1,_⟩:=sY (c:=c) ht;rw[ef,e1] at e;have x0:aw (.lst ((bC c ts t :: r).map sD)) (.int 0)=pS (sD (bC c ts t)):=#v[aw,jm]
 have kt:cA (sD t)=some (.inr [t]):=rfl;unfold hB;generalize hC=C,D.lst ((bC c ts t :: r).map sD)=GG,sD (bC c ts t)=y,sD t=z,ts.map sD=LL,aP (dC ts) A=AA at *;simp[de,kb,aa,aH,ar,e,x0,kt,hz,S.d]
theorem Y9(pd ru st pt:D)(cg:ts.length<=26)(hA:∀ t ∈ ts,∀ u ∈ ts,A (t,u) = !decide (c t=c u)) :
  ∃ d o7,Fd d ts (λt=>sD (bC c ts t))/\forL (ae [] 7) hB (ts.map sD) (sH pd ru st pt (aP (dC ts) A) (.lst (ts.map sD)) (.ay []) none) = .ok .next (sH pd ru st pt (aP (dC ts) A) (.lst (ts.map sD)) (.ay d) o7):=by
 obtain⟨δ',e,d,o,e2,h2⟩:=jn (g:=ae [] 7) (b:=hB) (λi δ=>∃ d o,δ=sH pd ru st pt (aP (dC ts) A) (.lst (ts.map sD)) (.ay d) o/\Fd d (ts.take i) (λt=>sD (bC c ts t))) (ts.map sD) 0 _ ⟨[],none,rfl,~~~Fd.nil⟩ (λi x δ hx ⟨d,o,e,h'⟩=>by
  subst e;rw[Wj] at hx
  cases hu:ts[i]? with
  | none=>rw[hu] at hx; cases hx
  | some u =>
   rw[hu] at hx; cases hx
   have hi:=(W6.mp hu).1;rw[WU] at h' ⊢;have hz:d.length < Wa:=by
    have:=h'.2;simp at this;rw[cm];lia
   refine⟨sH pd ru st pt (aP (dC ts) A) (.lst (ts.map sD)) (.ay d) (pS (sD u)),_,rfl,Y8 pd ru st pt cg hA (Wq hu) d hz,_,_,rfl,?_⟩;rw[Qx,hu];exact h'.put u)
 subst e2;rw[WU,Wn,QU] at h2;exact⟨d,o,h2,e⟩
abbrev sF(ru:D)(u0 u2 u3 u4 u5 u7:Option S)(HD BL:D)(s9:S)(nm fo SG:D)(a_ bL cn bP:Option S):Dl:=[u0,pS ru,u2,u3,u4,u5,pO HD,u7,pO BL,some s9,pO nm,pO fo,a_,bL,cn,bP,pO SG,none,none,none]
abbrev fC:DE:=(bE [19] (aG (aa 9)) (ae [] 19) aZ (ba (ax (ah aL 10 (ag 19)) (ax (ah aL 16 (ag 19)) aJ))))
theorem Y_(ru:D)(u0 u2 u3 u4 u5 u7:Option S)(HD BL nm fo SG:D)(a_ bL cn bP:Option S)(hl:L.length<=26)(f sg:Nat->Nat)(h1:∀ x ∈ L,aL nm (sD x)=pS (sD (f x)))(h2:∀ x ∈ L,aL SG (sD x)=pS (sD (sg x))) :
  fC (sF ru u0 u2 u3 u4 u5 u7 HD BL (.own (.lst (L.map sD))) nm fo SG a_ bL cn bP) = .ok (.own (.lst (L.map λx=>D.tup [sD (f x),sD (sg x)]))) (sF ru u0 u2 u3 u4 u5 u7 HD BL (.pure (.lst (L.map sD))) nm fo SG a_ bL cn bP):=by
 have ei:aG (aa 9) (sF ru u0 u2 u3 u4 u5 u7 HD BL (.own (.lst (L.map sD))) nm fo SG a_ bL cn bP) = .ok (L.map sD) (sF ru u0 u2 u3 u4 u5 u7 HD BL (.pure (.lst (L.map sD))) nm fo SG a_ bL cn bP):=by
  generalize L.map sD=LL;simp[df,aa,S.d]
 have ec:=cM (cs:=[19]) (it:=aG (aa 9)) (g:=ae [] 19) (t:=aZ) (el:=ba (ax (ah aL 10 (ag 19)) (ax (ah aL 16 (ag 19)) aJ))) sD (λx=>D.tup [sD (f x),sD (sg x)]) ei Y' (λx hx=>by
  have q1:=h1 x hx;have q2:=h2 x hx;refine⟨[u0,pS ru,u2,u3,u4,u5,pO HD,u7,pO BL,pS (.lst (L.map sD)),pO nm,pO fo,a_,bL,cn,bP,pO SG,none,none,pS (sD x)],_,.pure (.tup [sD (f x),sD (sg x)]),[u0,pS ru,u2,u3,u4,u5,pO HD,u7,pO BL,pS (.lst (L.map sD)),pO nm,pO fo,a_,bL,cn,bP,pO SG,none,none,pS (sD x)],rfl,rfl,?_,rfl,rfl⟩;generalize sD (f x)=a,sD (sg x)=b,sD x=y,L.map sD=LL at *;simp[ba,ax,aJ,ah,aV,ag,q1,q2,S.d])
 rw[fC,ec];rfl
abbrev fR:DS:=(bU (ba (ax (ba (ax (ah aw 1 (ar (eD (.int 0)))) (ax (ah aw 1 (ar (eD (.int 1)))) (ax (aA bT (ag 11)) aJ)))) (ax (eD (.str [97])) (ax (aA bT (ar fC)) aJ)))))
theorem Za(ru H W:D)(u0 u2 u3 u4 u5 u7:Option S)(HD BL nm SG:D)(fo SS:List D)(a_ bL cn bP:Option S)(s9 t9:S)(i0:aw ru (.int 0)=pS H)(i1:aw ru (.int 1)=pS W)(c:fC (sF ru u0 u2 u3 u4 u5 u7 HD BL s9 nm (.lst fo) SG a_ bL cn bP) = .ok (.own (.lst SS)) (sF ru u0 u2 u3 u4 u5 u7 HD BL t9 nm (.lst fo) SG a_ bL cn bP)) :
  fR (sF ru u0 u2 u3 u4 u5 u7 HD BL s9 nm (.lst fo) SG a_ bL cn bP) = .ok (.ret (.pure (.tup [.tup [H,W,.tup fo],sD 97,.tup SS]))) (sF ru u0 u2 u3 u4 u5 u7 HD BL t9 nm (.lst fo) SG a_ bL cn bP):=by
 unfold fR;generalize fC=C at *;simp[ba,ax,aJ,ah,aV,ag,i0,i1,bT,c,S.d]
theorem Zb(GX:DF)(ru st pt X0 H W:D)(AA:List (D×D))(B TL FO SS:List D)(hb:DS)(wl:DS)(HD BL nm SG:D)(d0:List (a7×D))(LL:D)(o7 a_ bL cn bP:Option S)(t9:S)(kk:a7)
  (gx:GX [.pure ru,.pure pt]=some (.own (.dic AA),[.pure ru,.pure pt])) (x2:aw ru (.int 2)=pS (.tup B)) (ct:bE [17] (aG (ah aw 1 (ar (eD (.int 2))))) (ae [] 17) aZ (ah aw 17 (ar (eD (.int 0)))) [pS (.tup [ru,st,pt]),pS ru,pS st,pS pt,pO (.dic AA),none,none,none,none,none,none,none,none,none,none,none,none,none,none,none] = .ok (.own (.lst TL)) [pS (.tup [ru,st,pt]),pS ru,pS st,pS pt,pO (.dic AA),none,none,none,none,none,none,none,none,none,none,none,none,none,none,none])
  (hl:forL (ae [] 7) hb TL (sH (.tup [ru,st,pt]) ru st pt AA (.lst TL) (.ay []) none) = .ok .next (sH (.tup [ru,st,pt]) ru st pt AA (.lst TL) HD o7)) (db:cO (.tup B)=pO BL) (hx:aL HD st=pS X0) (kx:cA X0=some kk)
  (hw:wl (sW (pS (.tup [ru,st,pt])) (pS ru) (pS st) (pS pt) (pO (.dic AA)) (pS (.lst TL)) o7 HD BL (.lst [X0]) (.ay [(kk,sD 97)]) (.lst []) none none none none) = .ok .next (sW (pS (.tup [ru,st,pt])) (pS ru) (pS st) (pS pt) (pO (.dic AA)) (pS (.lst TL)) o7 HD BL LL nm (.lst FO) a_ bL cn bP))
  (ds:cO pt=pO SG) (i0:aw ru (.int 0)=pS H) (i1:aw ru (.int 1)=pS W)
  (c:fC (sF ru (pS (.tup [ru,st,pt])) (pS st) (pS pt) (pO (.dic AA)) (pS (.lst TL)) o7 HD BL (.own LL) nm (.lst FO) SG a_ bL cn bP) = .ok (.own (.lst SS)) (sF ru (pS (.tup [ru,st,pt])) (pS st) (pS pt) (pO (.dic AA)) (pS (.lst TL)) o7 HD BL t9 nm (.lst FO) SG a_ bL cn bP)) :
  bR [] 20 (aq (au (aa 0) (bX 3 (aW (ae [] 1) (aW (ae [] 2) (aW (ae [] 3) ck))))) (aq (au (aE GX [.val (aa 1),.val (aa 3)]) (ae [] 4)) (aq (au (bE [17] (aG (ah aw 1 (ar (eD (.int 2))))) (ae [] 17) aZ (ah aw 17 (ar (eD (.int 0))))) (ae [] 5)) (aq (au iT (ae [] 6)) (aq (bG (aG (aa 5)) (ae [] 7) hb) (aq (au (aA cO (ar (ah aw 1 (ar (eD (.int 2)))))) (ae [] 8)) (aq (au (cG (ax (ah aL 6 (ag 2)) aJ)) (ae [] 9)) (aq (au (mw (ah aL 6 (ag 2)) (eD (.str [97]))) (ae [] 10)) (aq (au (cG aJ) (ae [] 11)) (aq wl (aq (au (aA cO (ag 3)) (ae [] 16)) fR))))))))))) [.pure (.tup [ru,st,pt])]=some (.pure (.tup [.tup [H,W,.tup FO],sD 97,.tup SS]),[.pure (.tup [ru,st,pt])]):=by
 apply AD;refine c7 ?_ fM;refine c7 ?_ fM;refine c7 ?_ (by unfold au; rw[ct]; rfl);refine c7 ?_ fM;refine c7 ?_ ((f9 fM).trans hl);iterate 2 refine c7 ?_ fM
 refine c7 ?_ (by simp[au,mw,ah,aV,ag,hx,kx,S.d]; rfl);refine c7 ?_ fM;refine c7 ?_ hw;refine c7 ?_ fM;exact Za ru H W _ _ _ _ _ _ _ _ _ _ _ _ _ _ _ _ _ _ i0 i1 c
theorem Zc{bs:List (Nat×List Tx)}(hn:bs.length<=26)(pd ru st pt:D)(AA:List (D×D))(x2:aw ru (.int 2)=pS (.tup (bs.map aN))):bE [17] (aG (ah aw 1 (ar (eD (.int 2))))) (ae [] 17) aZ (ah aw 17 (ar (eD (.int 0)))) [pS pd,pS ru,pS st,pS pt,pO (.dic AA),none,none,none,none,none,none,none,none,none,none,none,none,none,none,none] = .ok (.own (.lst ((bs.map (·.1)).map sD))) [pS pd,pS ru,pS st,pS pt,pO (.dic AA),none,none,none,none,none,none,none,none,none,none,none,none,none,none,none]:=by
 have ei:aG (ah aw 1 (ar (eD (.int 2)))) [pS pd,pS ru,pS st,pS pt,pO (.dic AA),none,none,none,none,none,none,none,none,none,none,none,none,none,none,none] = .ok (bs.map aN) [pS pd,pS ru,pS st,pS pt,pO (.dic AA),none,none,none,none,none,none,none,none,none,none,none,none,none,none,none]:=by
  generalize bs.map aN=BB at *;simp[df,ah,aV,ag,x2,S.d]
 have ec:=cM (cs:=[17]) (it:=aG (ah aw 1 (ar (eD (.int 2))))) (g:=ae [] 17) (t:=aZ) (el:=ah aw 17 (ar (eD (.int 0)))) aN (λb=>sD b.1) ei Y' (λb hb=>by
  have q:aw (aN b) (.int 0)=pS (sD b.1):=#v[aw,dE,fD]
  refine⟨[pS pd,pS ru,pS st,pS pt,pO (.dic AA),none,none,none,none,none,none,none,none,none,none,none,none,pS (aN b),none,none],_,.pure (sD b.1),[pS pd,pS ru,pS st,pS pt,pO (.dic AA),none,none,none,none,none,none,none,none,none,none,none,none,pS (aN b),none,none],rfl,rfl,?_,rfl,rfl⟩;generalize aN b=B at *;simp[ah,aV,ag,q])
 rw[ec,Ww];rfl
theorem Zd{h w:Nat}{bs:List (Nat×List Tx)}{st:Nat}(R:bZ h w bs)(hp:ps.map (·.1)=bs.map (·.1))(c9:st ∈ bs.map (·.1))(rs:Res (bs.map (·.1)) (aB bs) (dU ps) c)(W:Wk bs (bC c (bs.map (·.1))) st n) :
  ou [.pure (.tup [az h w bs,sD st,du ps])]=some (.pure (AX h w bs (c8 bs (bC c (bs.map (·.1))) st n) (bC c (bs.map (·.1))) (dU ps)),[.pure (.tup [az h w bs,sD st,du ps])]):=by
 obtain⟨A,hA,gx⟩:=Yh R hp;replace hA:=hA c rs;have n1:=R.n1;obtain⟨i0,i1,x2⟩:=oA h w bs;obtain⟨w1,w2⟩:=AY R c9 W;have ct:=Zc (bs:=bs) n1 (.tup [az h w bs,sD st,du ps]) (az h w bs) (sD st) (du ps) (aP (dC (bs.map (·.1))) A) x2;have db:=Kc R;have AZ:(ps.map (·.1)).Nodup:=%[hp|R.nd]
 have pl:ps.length<=26:=by have:=congrArg Qp hp; simp at this; lia
 obtain⟨d,o7,hF,hl⟩:=Y9 (.tup [az h w bs,sD st,du ps]) (az h w bs) (sD st) (du ps) (ts:=bs.map (·.1)) (~~~n1) hA;have wl:(c8 bs (bC c (bs.map (·.1))) st n).length<=26:=by rw[c8,W.len]; have:=W.le; lia
 have Ze:(c8 bs (bC c (bs.map (·.1))) st n).idxOf (bC c (bs.map (·.1)) st)=0:=by
  obtain⟨s,e⟩:=sQ (pt:=λt=>(aB bs t).map (bC c (bs.map (·.1)))) (x0:=bC c (bs.map (·.1)) st) 0 n;rw[WU] at e;rw[c8,e];simp[bf]
 have pR:Fd (putD [] (.inr [bC c (bs.map (·.1)) st]) (sD (97 + (c8 bs (bC c (bs.map (·.1))) st n).idxOf (bC c (bs.map (·.1)) st)))) [bC c (bs.map (·.1)) st] (λx=>sD (97 + (c8 bs (bC c (bs.map (·.1))) st n).idxOf x)):=Fd.put (f:=λx=>sD (97 + (c8 bs (bC c (bs.map (·.1))) st n).idxOf x)) Fd.nil _;rw[Ze] at pR;obtain⟨d',a_,bL,cn,bP,hf',hw⟩:=Y3 R (pS (.tup [az h w bs,sD st,du ps])) (pS (az h w bs)) (pS (sD st)) (pS (du ps)) (pO (.dic (aP (dC (bs.map (·.1))) A))) (pS (.lst ((bs.map (·.1)).map sD))) o7 (.ay d) (λp hp=>hF.ix hp) W w1 _ pR;have cc:=Y_ (az h w bs) (pS (.tup [az h w bs,sD st,du ps])) (pS (sD st)) (pS (du ps)) (pO (.dic (aP (dC (bs.map (·.1))) A))) (pS (.lst ((bs.map (·.1)).map sD))) o7 (.ay d) (fz bs) (.ay d') (.lst ((c8 bs (bC c (bs.map (·.1))) st n).map (e9 bs (λp=>97 + (c8 bs (bC c (bs.map (·.1))) st n).idxOf (bC c (bs.map (·.1)) p)) λx=>97 + (c8 bs (bC c (bs.map (·.1))) st n).idxOf x))) (f_ ps) a_ bL cn bP wl (λx=>97 + (c8 bs (bC c (bs.map (·.1))) st n).idxOf x) (dU ps) (λx hx=>hf'.ix hx) (λx hx=>sX %[hp|w1 x hx]);rw[ou,G8];exact Zb _ _ _ _ _ _ _ _ _ _ _ _ hB (dB zT zW 1000000) _ _ _ _ [] _ o7 a_ bL cn bP _ _ gx x2 ct hl db (hF.ix c9) rfl hw (vX AZ Y') i0 i1 cc
def A6:Nat->D->Prop
 | n + 1,.tup ds=>ds.length<=1000/\∀ x ∈ ds,A6 n x
 | _ + 1,.str _=>True
 | _ + 1,.int _=>True
 | _,_=>False
theorem Zf(l:List A):pb (.lst (l.map λ_=>D.bl true))=pS (.bl true):=by
 have e:gM (l.map λ_=>D.bl true)=some (l.map λ_=>true):=by
  induction l with
  | nil=>rfl
  | cons a r ih=>simp[gM,ih]
 show(gM (l.map λ_=>D.bl true)).map _=_;rw[e];simp
abbrev mC(Gs:DF):DE:=(bE [2] (cY (aA bw (ag 1))) (ae [] 2) aZ (aE Gs [.val (ah aw 0 (ag 2)),.val (ah aw 1 (ag 2))]))
theorem Zg(Gs:DF)(ds:List D)(hl:ds.length<=1000)(hg:∀ x ∈ ds,Gs [.pure x,.pure x]=some (.pure (.bl true),[.pure x,.pure x])):mC Gs [pS (.tup ds),pS (.tup ds),none] = .ok (.own (.lst ((WY ds.length).map λ_=>D.bl true))) [pS (.tup ds),pS (.tup ds),none]:=by
 have ei:cY (aA bw (ag 1)) [pS (.tup ds),pS (.tup ds),none] = .ok ((WY ds.length).map λi:Nat=>D.int (i:Nat)) [pS (.tup ds),pS (.tup ds),none]:=by
  have ln:bw (.tup ds)=pS (.int ds.length):=rfl;have r:=nX ds.length Y' [pS (.tup ds),pS (.tup ds),none];rw[yD];generalize D.tup ds=T at *;simp[ag,ln,r,dA,S.d]
 have ec:=cM (cs:=[2]) (it:=cY (aA bw (ag 1))) (g:=ae [] 2) (t:=aZ) (el:=aE Gs [.val (ah aw 0 (ag 2)),.val (ah aw 1 (ag 2))]) (λi:Nat=>D.int (i:Nat)) (λ_=>D.bl true) ei (~~~hl) (λi hi=>by
  have hi:i < ds.length:= ~~~hi
  have q:aw (.tup ds) (.int (i:Nat))=pS (ds[i]):=#v[aw,iA,hi]
  have g:=hg ds[i] (QE _);refine⟨[pS (.tup ds),pS (.tup ds),pS (.int (i:Nat))],_,.pure (.bl true),[pS (.tup ds),pS (.tup ds),pS (.int (i:Nat))],rfl,rfl,?_,rfl,rfl⟩;generalize ds[i]=x,D.tup ds=T,D.int (i:Int)=I at *;simp[aE,bF,cz,bY,ah,aV,ag,q,bJ,g,bc,S.d])
 rw[mC,ec];rfl
theorem KH:∀ (n:Nat) (d:D),A6 n d->gW n [.pure d,.pure d]=some (.pure (.bl true),[.pure d,.pure d])
 | n + 1,.tup ds,h=>by
  obtain⟨hl,hs⟩:=h;have c:=Zg (gW n) ds hl λx hx=>KH n x (hs x hx)
  have a:=Zf (WY ds.length);have ln:bw (.tup ds)=pS (.int ds.length):=rfl;have ne:lq (.int ds.length) (.int ds.length)=pS (.bl false):=#v[lq,cK]
  have ty:kW "tuple" (.tup ds)=some true:=rfl;show bR [] 3 (mP (gW n)) _=_;unfold mP;generalize gW n=Gs at *;show bR [] 3 (aq (cN (aF (g_ "tuple" (ag 1))) (aq (cN (nv (gI (aF (g_ "tuple" (ag 0)))) (aF (aH lq (aA bw (ag 0)) (ar (aA bw (ag 1)))))) (bU (eD (.bl false))) cR) (bU (aA pb (ar (mC Gs))))) cR) _) _=_;generalize mC Gs=C,(WY ds.length).map (λ_=>D.bl true)=BB,D.int (ds.length:Int)=N,D.tup ds=T at *;refine vV (HX (δ1:=[pS T,pS T,none]) ?_);simp[bV,aF,g_,ag,ty,nv,gI,aH,ln,ne,c,a,S.d]
 | n + 1,.str x,_=>by
  have eq:cq (.str x) (.str x)=pS (.bl true):=#v[cq,cK]
  have t1:kW "tuple" (.str x)=some false:=rfl;have t2:kW "str" (.str x)=some true:=rfl;show bR [] 3 (mP (gW n)) _=_;unfold mP;generalize gW n=Gs,D.str x=T at *;refine vV (δ1:=[pS T,pS T,none]) ?_;simp[bV,aF,g_,ag,t1,t2,kT,ah,aV,eq,S.d]
 | n + 1,.int i,_=>by
  have eq:cq (.int i) (.int i)=pS (.bl true):=#v[cq,cK]
  have t1:kW "tuple" (.int i)=some false:=rfl;have t2:kW "str" (.int i)=some false:=rfl;have gw:qb [.pure (.int i)]=some (.pure (.bl true),[.pure (.int i)]):=rfl;show bR [] 3 (mP (gW n)) _=_;unfold mP;generalize gW n=Gs,qb=GW,D.int i=T at *;refine vV (δ1:=[pS T,pS T,none]) ?_;simp[bV,aF,g_,ag,t1,t2,kT,ah,aV,eq,aE,bF,cz,bY,aa,bJ,gw,bc,S.d]
theorem Zh(R:bZ h w bs)(hl:L.length<=26)(hL:∀ t ∈ L,t ∈ bs.map (·.1))(hd sg:Nat->Nat):A6 7 (AX h w bs L hd sg):=by
 have h1:=R.h1;refine⟨Z5,λx hx=>?_⟩;simp only[Wu,JZ,or_false] at hx;rcases hx with rfl | rfl | rfl
 ·refine⟨Z5,λx hx=>?_⟩;simp only[Wu,JZ,or_false] at hx;rcases hx with rfl | rfl | rfl
  ·trivial
  ·trivial
  ·refine⟨by simp; lia,λx hx=>?_⟩;obtain⟨t,ht,rfl⟩:=WA.mp hx;refine⟨Z5,λx hx=>?_⟩;simp only[Wu,JZ,or_false] at hx;rcases hx with rfl | rfl
   ·trivial
   ·obtain⟨b,hb,_,_,eb⟩:=oE (hL t ht);refine⟨by rw[Wn,eb,(R.cU b hb).1]; lia,λx hx=>?_⟩;obtain⟨r,_,rfl⟩:=WA.mp hx;trivial
 ·trivial
 ·refine⟨by simp; lia,λx hx=>?_⟩;obtain⟨t,ht,rfl⟩:=WA.mp hx;refine⟨Z5,λx hx=>?_⟩;simp only[Wu,JZ,or_false] at hx;rcases hx with rfl | rfl <;> trivial
abbrev vS(GL GS:DF):DS:=(cN (gI (aF (aE GS [.val (aE GL [.val (aa 2)]),.val (aa 3)]))) (bU (eD (.bl false))) cR)
abbrev vT(GB GP GO GL GS:DF):DS:=(aq (au (nT GB (aE GP [.val (aa 1)]) [.val (eD (.int 5))]) (ae [] 2)) (aq (au (aE GO [.val (aa 2)]) (ae [] 3)) (bG (cY (eD (.int 2))) (ae [] 4) (vS GL GS))))
theorem Zi(GB GP GO GL GS:DF)(dH c pd bo T r:D)(o2 o3 o4:Option S)(gp:GP [.pure c]=some (.own pd,[.pure c]))(gb:GB [.own pd,.pure (.int 5)]=some (.pure T,[.own bo,.pure (.int 5)]))(go:GO [.pure T]=some (.pure r,[.pure T]))(gl:GL [.pure T]=some (.pure r,[.pure T]))(gs:GS [.pure r,.pure r]=some (.pure (.bl true),[.pure r,.pure r])) :
  vT GB GP GO GL GS [pS dH,pS c,o2,o3,o4] = .ok .next [pS dH,pS c,pS T,pS r,pS (.int 1)]:=by
 have er:cY (eD (.int 2)) [pS dH,pS c,pS T,pS r,o4] = .ok [.int 0,.int 1] [pS dH,pS c,pS T,pS r,o4]:=rfl;have st:∀ o:Option S,vS GL GS [pS dH,pS c,pS T,pS r,o] = .ok .next [pS dH,pS c,pS T,pS r,o]:=λo=>by
  simp[vS,aF,gI,aE,bF,cz,bY,aa,bJ,gl,gs,bc,S.d]
 refine(cV (δ1:=[pS dH,pS c,pS T,o3,o4]) ?_).trans ((cV (δ1:=[pS dH,pS c,pS T,pS r,o4]) ?_).trans ?_)
 ·simp[au,nT,aE,bF,cz,bY,aa,bJ,gp,gb,bc,S.d]
 ·simp[au,aE,bF,cz,bY,aa,bJ,go,bc,S.d]
 ·rw[f9 er,jB (δ1:=[pS dH,pS c,pS T,pS r,pS (.int 0)]) rfl (st _),jB (δ1:=[pS dH,pS c,pS T,pS r,pS (.int 1)]) rfl (st _)];rfl
theorem Zj(dH:D)(k:Int)(o2 o3 o4:Option S):∃ q2 q3 q4,vT oq ot ou G_least_floor (gW 7) [pS dH,pS (.int k),o2,o3,o4] = .ok .next [pS dH,pS (.int k),q2,q3,q4]:=by
 obtain⟨pd,e1,p1⟩:=V8 k;obtain⟨h,w,bs,st,ps,bo,e2,R,hp,p2,c9⟩:=XU p1;obtain⟨c,n,rs,W,e3⟩:=YV R hp c9;have e4:=Zd R hp c9 rs W;have e5:=KH 7 _ (Zh R (L:=c8 bs (bC c (bs.map (·.1))) st n) (by rw[c8,W.len]; have:=W.le; have:=R.n1; lia) (AY R c9 W).1 (bC c (bs.map (·.1))) (dU ps));exact⟨_,_,_,Zi _ _ _ _ _ dH _ pd bo _ _ o2 o3 o4 e1 e2 e4 e3 e5⟩
theorem Zk(GC:DF)(B:DS)(dH:D)(cs:List D)(cl c0:D)(e0:GC [.pure dH,.pure (.int 0)]=some (.pure c0,[.pure dH,.pure (.int 0)]))(hs:eY (some 1) (some 5) dH=pO cl)(ha:bt (.lst [c0]) cl=pO (.lst cs))(o1 o2 o3 o4:Option S)(e:forL (ae [] 1) B cs [pS dH,none,none,none,none] = .ok .next [pS dH,o1,o2,o3,o4]) :
  (aq (bG (aG (aH bt (cG (ax (aE GC [.val (aa 0),.val (eD (.int 0))]) aJ)) (ar (hJ 0 (eX (eD (.int 1))) (eX (eD (.int 5))))))) (ae [] 1) B) (bU (eD (.bl true)))) [pS dH,none,none,none,none] = .ok (.ret (.pure (.bl true))) [pS dH,o1,o2,o3,o4]:=by
 refine(cV ((f9 (δ1:=[pS dH,none,none,none,none]) (ds:=cs) ?_).trans e)).trans ?_
 ·simp[df,aH,aE,bF,cz,bY,aa,ag,bJ,e0,bc,hJ,eX,hs,ha,S.d]
 ·rfl
theorem Zl(ns:List Int)(hn:ns.length<=63):∃ aT,G_law [.pure (.lst (ns.map .int))]=some (.pure (.bl true),aT):=by
 obtain⟨c0,e0⟩:=V9 ns;have Zm:∀ (ns:List Int) (lo hi:Option Int),cC (ns.map D.int) lo hi=(cC ns lo hi).map D.int:=λns lo hi=>by
  unfold cC;simp[Uo,Up]
 have ha:bt (.lst [.int c0]) (.lst (cC (ns.map .int) (some 1) (some 5)))=pO (.lst ((c0 :: cC ns (some 1) (some 5)).map .int)):=by
  rw[Zm];have hl:(cC ns (some 1) (some 5)).length<=63:=by
   unfold cC;simp;lia
  simp only[bt];rw[if_pos (by rw[cm]; simp; lia)];simp
 have hs:eY (some 1) (some 5) (.lst (ns.map .int))=pO (.lst (cC (ns.map .int) (some 1) (some 5))):=rfl;generalize D.lst (ns.map .int)=dH at *;obtain⟨δ',e,o1,o2,o3,o4,rfl⟩:=jn (g:=ae [] 1) (b:=vT oq ot ou G_least_floor (gW 7))
  (λ_ δ=>∃ o1 o2 o3 o4,δ=[pS dH,o1,o2,o3,o4]) ((c0 :: cC ns (some 1) (some 5)).map .int) 0 [pS dH,none,none,none,none] ⟨_,_,_,_,rfl⟩ (λi d δ hd ⟨o1,o2,o3,o4,e⟩=>by
   subst e;simp only[Wj,WG] at hd;obtain⟨k,_,rfl⟩:=hd;obtain⟨q2,q3,q4,e⟩:=Zj dH k o2 o3 o4;exact⟨_,_,rfl,e,_,_,_,_,rfl⟩)
 refine⟨[.pure dH],?_⟩;rw[G_law,b_law];exact AD (Zk pZ _ dH _ _ _ e0 hs ha o1 o2 o3 o4 e)
end K66
open PySem PySem.W PyProof.Rows
namespace PySem.W.Fast
def tw2079311907463402143:=0
def tw2382797639262816519:=0
def tw12879671036431437476:=0
def tw2739810693569885268:=0
def tw7276080057295688238:=0
def tw4716741665202048759:=0
def tw13050673771829937801:=0
def tw9725130837057522105:=0
def tw17999285827953644747:=0
def tw11538395891450303397:=0
def tw12090880737390084731:=0
def tw6442965693703344786:=0
def tw1317175935621012567:=0
def tw8627674869928094250:=0
def tw1630908662290032014:=0
def tw3724286336662894876:=0
def tw7051431163836850734:=0
def tw16288160465188471405:=0
def tw18294588936947352503:=0
def tw4176438542702165248:=0
def tw13673299917384858787:=0
def tw9553453492043735490:=0
def tw7037227374169805568:=0
def tw18222423021280685687:=0
def tw14796900668652851464:=0
def tw3908908393961378056:=0
def tw10617657012940607831:=0
def tw10825984652350214705:=0
def tw7447933810649474616:=0
def tw2026249151937804476:=0
def tw13908520866036358880:=0
def tw1295269006409553558:=0
def tw3899746971806165174:=0
def tw14345561933169331701:=0
def tw12012562455899095815:=0
def tw15407764982429097844:=0
def tw14725385147993892454:=0
def tw15889270230567303858:=0
def tw5144670946889922828:=0
def tw4010557379594430678:=0
def tw12808567669124466331:=0
def tw18446033280873974771:=0
def tw248660830645836035:=0
def tw6626606155035914312:=0
def tw4258438980581007830:=0
def tw16784882956807079745:=0
def tw7348203994539089983:=0
def tw18098101713243060747:=0
def tw14233757093384599011:=0
def tw8985605457510604766:=0
def tw340955685159960538:=0
def tw13532955130348665339:=0
def tw365410490011012182:=0
def tw5571218317655143653:=0
def tw13117418671736042757:=0
def tw15824287133044043705:=0
def tw9499268060285025889:=0
def tw6976179273444445490:=0
def tw4301966561261229140:=0
def tw5944701534615158780:=0
def tw9785140140597813503:=0
def tw9208410527076597363:=0
def tw7095278554406684531:=0
def tw17872219913545305178:=0
def tw8338274068300532596:=0
def tw6045648036431098809:=0
def tw9864482190848622784:=0
def tw5086031584801748372:=0
def tw3521969179351532733:=0
def tw3780686456322741186:=0
def tw1769484985785880203:=0
end PySem.W.Fast
set_option maxRecDepth 100000 in
set_option maxHeartbeats 0 in
theorem PySem.Challenge.cw_tilegrow_k66_least_floors_holds : PySem.Challenge.rw_tilegrow_k66_least_floors.Holds := by
 w_on; o_law; k_head; (case hw=>w_witness2)
 k_fill
 refine L2.R1 (l:=PySem.Challenge.rw_tilegrow_k66_least_floors) (k:=9) (G:=K66.G_law) (tpos:=K66.pV) (tq:=K66.mM) rfl rfl ⟨rfl,Z',Z'⟩ (λw h Y=>⟨PySem.W.km_in_of Y,PySem.W.km_tabs_of Y _ Wp⟩) ?L ?KT K66.Zl ?F
 case L=>intro p; exact Eq.refl true
 case KT=>intro p; exact Eq.refl none
 case F =>
  intro w mg fa h KX G m_;refine' K66.all_mk KX G m_ ?d0 ?d1 ?d2 ?d3 ?d4 ?d5 ?d6 ?d7 ?d8 ?d9 ?zH ?zI ?zJ ?zK ?zL ?zM ?zN ?zO ?zP ?zQ ?zU ?zV ?zY ?zZ ?z0 ?pq ?vO ?z8 ?z9 ?dT ?gT ?rm ?z_ ?Aa ?Ab ?r_ ?se ?sf ?oi ?pW ?ku ?kz ?sh ?si ?oj ?pX ?pY ?jT ?om ?sj ?mN
  (case d0|d1|d2|d3|d4|d5|d6|d7|d8|d9|zH|zI|zJ|zK|zL|zM|zN|zO|zP|zQ|zU|zV|zY|zZ|z0=>exact⟨_,_,_,_,_,_,_,_,_,_,by k_is,by k_is,by k_is,by k_is⟩)
  (case pq|vO|z8|z9|rm|z_|Aa|Ab|r_|se|sf|oi|pW|ku|kz|sh|si|oj|pX|pY|jT|om|sj|mN=>k_is)
  (case dT|gT=>kernel_rfl)
