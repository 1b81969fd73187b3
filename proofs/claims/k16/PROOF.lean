import PyProof.Rows.All
import Wide.All
import OpenK.AllK
import Lean
import PySem.Challenge.RW_tilegrow_k16_whole_first_places_and_coun
noncomputable section
set_option compiler.extract_closed false
open PySem renaming wpAny_bind→W0,wpAny_pure→W1,Shared→W2,wpAny→W5,sizeLine→Wb,Spec→Wf,starEach→Wh,Program→Wk,World→Wn,Around→Wr,mainGlobals→Wv,mem_of_lookup→WB,wpAny_newObj_type→WC,wpAny_call_entry→WJ,wpAny_callSpecial?_slot→WM,wpAny_holding→WN,compareOp→WQ,wpAny_mono→WV,cLine→WZ,FuncData→Q7,codeAny_builtin→Qd,backTo→Qi,pyNext→Ql,attributeBase→Qr,plainId_quiet→Qs,wpAny_loadPart'→Qv,sysModules→Qy,assignEach→Qz,wpAny_field→QD,binaryOp→QH,codeAny→QK,behindInMarks→QO,rawInt→QQ,wpAny_truthy_bool→QR,cellsFrom→QT,bootBuiltins→QW,swapsWith→QZ,argBest→J0,wpAny_rule→Jb,wpAny_updateSeq→Jc,wpAny_typeNameOfWhole_itemiter→Je,wpAny_seqItems→Jj,wpAny_setField→Jk,sizeLine_eq→Jn,keywordEach→Jo,wpAny_typeOf→Jt,tupleKind_room_in1→Ju,wpAny_passesOwn→Jv,foldedSetIterable→Jz,wpAny_Call_method→JB,wpAny_pyIter_enum→JD,wpAny_setState_of→JF,wpAny_typeNameOf_itemiter→JH,codeAny_mono→JJ,wpAny_askSetting→JL,wpAny_setEntries_of→JT,getItem→JZ,wpAny_Call_Name_kw→U0,wpAny_pyIter_tuple→U2,wpAny_setField_rec→U3,wpAny_sequenceKey→U7,builtinLookup_eq_fast→Ua,firstArgMember→Ub,wpAny_fieldsOf→Uc,backToKw→Uf,wpAny_attempt→Ul,sliceBounds→Uo,pushCells→Us,getattributeRaised→Ut,scanBound→Uu,typeIs_int→Uv,wpAny_tryCatch→Uw,wpAny_pyIter_list→UA,wpAny_dictEntries→UD,strIterType→UF
open PySem.Heap renaming get?_push_of_some→W3,get?_push_size→Wi,lt_size→Wj,get?_update_other→WF,get?_update_self→WG,SameBut→Qk,size_push→QE
open PySem.W renaming Frag→W4,mg_none_of→WU,fnOf→Qf,kia_one→Qu,kitOne→Ji,keepIn→JI,codeHdIn→JN,cellsFrom_some→U5,envX→Ud,kla_obj→Uq
open List renaming getElem?_eq_some_iff→W6,mem_cons_self→W7,getElem?_set_ne→W8,mem_cons_of_mem→W9,getElem?_eq_getElem→Wc,range→Wd,map_cons→We,getElem?_set_self→Wl,replicate→Wm,getElem?_map→Wp,mem_cons→Wq,size_toArray→Ws,map_map→Wu,length_map→Wx,length_cons→WA,mem_map→WD,nodup_cons→WI,mem_map_of_mem→WK,map_congr_left→WO,mem_range→WP,getElem?_eq_none→WR,length_append→WT,find?_cons→WW,mem_append_right→Q1,mem_of_getElem?→Q4,map_append→Q6,getD_eq_getElem?_getD→Q8,pairwise_cons→Qa,append_nil→Qb,length_set→Qc,getElem?_set→Qh,nil_append→Qm,foldl_cons→Qw,lookup_cons→QA,any_cons→QC,pairwise_map→QF,count_append→QG,drop_eq_getElem_cons→QJ,mem_singleton→QM,length→QP,range_succ→QU,replicate_succ→QV,nodup_iff_pairwise_ne→QX,getElem_mem→QY,mem_append→Ja,flatten_cons→Jg,take_of_length_le→Jq,length_pos_of_mem→Jr,length_range→JC,nodup_append→JE,all_eq_true→JK,cons_append→JM,length_erase_of_mem→JP,zipWith→JQ,filterMap_cons→JR,getElem?_range→JS,flatten_append→JU,getElem?_cons_succ→JX,length_nil→U1,ext_getElem?→U8,map_nil→U9,find?_map→Ue,length_take→Ug,ext_getElem→Uh,flatMap_def→Ui,mem_flatMap→Uj,mem_erase_of_ne→Uk,mem_filterMap→Ur,nodup_nil→Ux,any_eq_false→Uz,flatMap_cons→UE,all_cons→UH,range'_succ→UI,of_mem_zip→UK
open Nat renaming le_refl→Wa,ne_of_lt→Wo,lt_of_lt_of_le→WE,pow_succ→WL,mul_comm→WY,zero_add→Q3,le_trans→Qe,zero_le→Qn,lt_succ_of_lt→Qp,ne_of_gt→QB,lt_irrefl→QN,div_lt_iff_lt_mul→J5,one_mul→J8,le_of_lt→J9,mod_lt→Jd,mul_le_mul_right→Jf,mod_eq_of_lt→Jm,succ_mul→JO,add_mul→U6,mul_assoc→Um,le_succ→Up,mul_le_mul→Uy,pow_pos→UG,div_eq_of_lt→UJ,add_zero→UL,add_comm→UM,zero_mul→UN,pow_zero→UO
open Option.some renaming injEq→Wg,inj→WS
open Option renaming map_eq_some_iff→Ww,map_some→Wz,bind_some→WH,bind_eq_some_iff→JY
open Bool renaming and_eq_true→Wy,eq_false_iff→WX,false_ne_true→Q0,false_eq_true→J4
open Array renaming length_toList→Q2,getElem?_toList→QL,toList_push→UB
open PySem.Builtin.Str renaming strSliceIndices→Q5,occurrences→JV
open PySem.Builtin.Slice renaming slicePlaces→Q9,sliceAdjust→QI,sliceApplied→Jw
open PySem.Builtin.Tuple renaming tupleExact→Qg,tupleItemsOf→Jx
open PyProof.Rows renaming slot_tuple_getitem→Qj,callWith_type1→Js,envOfC→JA
open PySem.Heap.SameBut renaming update→Qo
open Int renaming toNat_natCast→Qq,natCast_mul→Qx,natCast_add→U4
open PySem.F renaming slot_dict_get→Qt,plain_extend_loop→J7,slot_dict_itemiterator_next→Jh,plain_min_loop→Jl,entry_dict_get→Jp,slot_tuple_iterator_next→Jy,plainAttrs_dict→JW,slot_dict_items→UC
open PySem.Builtin.SmallTypes renaming nextOf→JG
set_option Elab.async false
set_option linter.all false
set_option maxRecDepth 100000
theorem Y'{p:Prop}(h:p:=by lia):p:=h
theorem Z'{p:Prop}(h:p:=by decide):p:=h
theorem U'{p:Prop}(h:p:=by simp):p:=h
theorem V'{p:Prop}(h:p:=by rfl):p:=h
theorem R'{p:Prop}(h:p:=by simp; lia):p:=h
theorem Re{p:Prop}(h:p:=by decide +kernel):p:=h
theorem P'{p:Prop}(h:p:=by intro _; rfl):p:=h
theorem P3{p:Prop}(h:p:=by simp at hl ⊢; lia):p:=h
theorem Pi{p:Prop}(h:p:=by with_unfolding_all rfl):p:=h
namespace L2
open PySem PySem.Spec PyProof.Rows
abbrev Key:=Sum Int Str
def iH:Key->Value->Bool
 | .inl k,v=>Value.isInt k v
 | .inr x,v=>Value.isStrOf x v
def vD(w:Wn):Key->Int
 | .inl k=>hashInt k
 | .inr x=>hashStr w x
theorem jG:∀ {k:Key} {v:Value},iH k v=true->(∃ i t,k=Sum.inl i/\v=Value.int i t)\/(∃ x t,k=Sum.inr x/\v=Value.str x t)
 | .inl i,v,h=>by
  obtain⟨t,e⟩:=Value.isInt_shape (k:=i) (v:=v) h;exact .inl ⟨i,t,rfl,e⟩
 | .inr x,v,h=>by
  obtain⟨t,e⟩:=Value.isStrOf_shape (x:=x) (v:=v) h;exact .inr ⟨x,t,rfl,e⟩
theorem K7(i:Int)(t:Tok):iH (.inl i) (.int i t)=true:=by simp[iH,Value.isInt]
theorem K8(x:Str)(t:Tok):iH (.inr x) (.str x t)=true:=by simp[iH,Value.isStrOf]
theorem K9(a b:Int):decide ((Sum.inl a:Key)=Sum.inl b)=(a == b):=by grind
theorem K_(a b:Str):decide ((Sum.inr a:Key)=Sum.inr b)=decide (a=b):=by grind
theorem La(a:Int)(b:Str):decide ((Sum.inl a:Key)=Sum.inr b)=false:=by grind
theorem Lb(a:Str)(b:Int):decide ((Sum.inr a:Key)=Sum.inl b)=false:=by grind
def bX(prog:Wk)(w:Wn):PySem.KeyKind prog w Key where
 is:=iH
 hash:=vD w
 inj:=λv a b ha hb=>by grind[jG]
 byValue:=λk v h=>by
  rcases jG h with ⟨i,t,rfl,rfl⟩ | ⟨x,t,rfl,rfl⟩ <;> rfl
 pyHash:=λhv h=>by
  rcases jG hv with ⟨i,t,rfl,rfl⟩ | ⟨x,t,rfl,rfl⟩
  ·exact wpAny_pyHash_int h
  ·exact wpAny_pyHash_str h
 eqBool:=λhu hv h=>by
  rcases jG hu with ⟨i,t,rfl,rfl⟩ | ⟨x,t,rfl,rfl⟩
  ·rcases jG hv with ⟨j,u,rfl,rfl⟩ | ⟨y,u,rfl,rfl⟩
   ·rw[K9] at h; exact wpAny_eqBool_int h
   ·rw[La] at h; exact SeqAt.EqAt.int_str i t y u _ _ _ _ h
  ·rcases jG hv with ⟨j,u,rfl,rfl⟩ | ⟨y,u,rfl,rfl⟩
   ·rw[Lb] at h; exact SeqAt.EqAt.str_int x t j u _ _ _ _ h
   ·rw[K_] at h; exact wpAny_eqBool_str h
 «strs»:=λk x t v h=>by
  rcases jG h with ⟨i,u,rfl,e⟩ | ⟨y,u,rfl,e⟩
  ·exact nomatch e
  ·injection e with e1 _
   subst e1
   cases v <;> rfl
theorem vE(prog:Wk)(w:Wn)(k:Key)(v:Value):(bX prog w).is k v=iH k v:=rfl
theorem Lc(prog:Wk)(w:Wn)(i:Int)(t:Tok):(bX prog w).is (.inl i) (.int i t)=true:=K7 i t
theorem Ld(prog:Wk)(w:Wn)(x:Str)(t:Tok):(bX prog w).is (.inr x) (.str x t)=true:=K8 x t
inductive V where
 | ay | bl (b:Bool) | int (i:Int) | str (x:Str) | byt (b:Array UInt8) | flt (b:UInt64) | ref (a:Addr) | ty (n:String)
 deriving DecidableEq
def RelV:V->Value->Prop
 | .ay,u=>u=Value.none
 | .bl b,u=>u=Value.bool b
 | .int i,u=>∃ t,u=Value.int i t
 | .str x,u=>∃ t,u=Value.str x t
 | .byt b,u=>∃ t,u=Value.bytes b t
 | .flt b,u=>∃ t,u=Value.float b t
 | .ref a,u=>u=Value.ref a
 | .ty n,u=>u=Value.type n
abbrev Vals:List V->List Value->Prop:=Paired RelV
theorem Vals.length(r:Vals xs us):xs.length=us.length:=Paired.length r
theorem Vals.get:∀ {xs:List V} {us:List Value} {i:Nat} {x:V},Vals xs us->xs[i]? = some x->∃ u,us[i]? = some u/\RelV x u
 | _,_,_,_,.nil,e=>by simp at e
 | _,_,0,_,.cons r _,e=>by simp at e; subst e; exact⟨_,rfl,r⟩
 | _,_,i + 1,x,.cons _ t,e=>by
  obtain⟨u,h1,h2⟩:=Vals.get (i:=i) (x:=x) t (by simpa using e);exact⟨u,by simpa using h1,h2⟩
theorem Vals.set(r:RelV x u):∀ {xs:List V} {us:List Value} (i:Nat),Vals xs us->Vals (xs.set i x) (us.set i u)
 | _,_,_,.nil=>.nil
 | _,_,0,.cons _ t=>.cons r t
 | _,_,i + 1,.cons q t=>.cons q (Vals.set r i t)
theorem Vals.append:∀ {xs ys:List V} {us ws:List Value},Vals xs us->Vals ys ws->Vals (xs ++ ys) (us ++ ws)
 | _,_,_,_,.nil,s=>s
 | _,_,_,_,.cons r t,s=>.cons r (Vals.append t s)
theorem Vals.take:∀ {xs:List V} {us:List Value} (n:Nat),Vals xs us->Vals (xs.take n) (us.take n)
 | _,_,0,_=>.nil
 | _,_,_ + 1,.nil=>.nil
 | _,_,n + 1,.cons r t=>.cons r (Vals.take n t)
theorem Vals.drop:∀ {xs:List V} {us:List Value} (n:Nat),Vals xs us->Vals (xs.drop n) (us.drop n)
 | _,_,0,r=>r
 | _,_,_ + 1,.nil=>.nil
 | _,_,n + 1,.cons _ t=>Vals.drop n t
def dG:Option V->Option Value->Prop
 | some v,some u=>RelV v u
 | none,none=>True
 | _,_=>False
def KV{κ:Type}:List (κ×V)->List (κ×Value)->Prop:=Paired λ(p:κ×V) (q:κ×Value)=>p.1=q.1/\RelV p.2 q.2
def kV:Key->V
 | .inl i=>.int i
 | .inr x=>.str x
inductive NK where
 | i (z:Int) | s (x:Str) | t (ks:List NK)
noncomputable instance nkDec:DecidableEq NK:=λa b=>Classical.propDecidable (a=b)
mutual
def fN(w:Wn):NK->Int
 | .i z=>vD w (.inl z)
 | .s x=>vD w (.inr x)
 | .t ks=>reduceHash (Builtin.Tuple.tupleHashOf (sf w ks))
def sf(w:Wn):List NK->List Int
 | []=>[]
 | k :: ks=>fN w k :: sf w ks
end
inductive HO where
  | lst (xs:List V)
  | tup (xs:List V)
  | dK (kvs:List (Key×V)) | dT (kvs:List (List Key×V))
  | set (S:Int->Bool) (n:Nat)
  | ins (C dx:Addr) (fs:List (Str×V))
  | own (x:Addr)
  | xd (fs:List (Str×V))
  | met (f x:Addr)
  | k8 (lo hi:Int)
  | frz (o:Obj) (u:HO)
  | tbl (ps:Array Value)
  | ctab (pos:Pos) (q:Str)
  | dN (ep:Nat) (kvs:List (NK×V×V))
  | ext (φ:Heap->Prop)
abbrev Hp:=Addr->Option HO
def upd(H:Hp)(a:Addr)(o:HO):Hp:=λb=>if b=a then some o else H b
theorem cf:upd H a o a=some o:=by unfold upd; rw[if_pos rfl]
theorem aH(h:b≠a):upd H a o b=H b:=by unfold upd; rw[if_neg h]
theorem Lf:upd (upd H a o) a u=upd H a u:=by
 funext b; unfold upd; split <;> rfl
theorem Lg{H:Hp}{a b:Addr}{o u:HO}(h:H a=some o)(h':H b=some u)(d:o≠u):a≠b:=by grind
theorem fO{H:Hp}{a b:Addr}{o:HO}(h:H a=some o)(h':H b=none):a≠b:=by grind
def gP (h:Heap) (a:Addr) (ag:Array Value):Prop:=∃ n,h.get? a=some { cls:=.type "tuple",dict:=none,data:=.seq ag n,slots:=#[] }
theorem gP.tup(x:gP h a ag):IsTup h a ag:=let ⟨n,e⟩:=x; ⟨_,e,rfl,n,rfl⟩
theorem gP.new (h:Heap) (ag:Array Value):gP (h.push { cls:=.type "tuple",data:=.seq ag }) h.objs.size ag:=⟨_,Wi _ rfl⟩
theorem gP.lt(x:gP h a ag):a < h.objs.size:=let ⟨_,e⟩:=x; Wj e
section
variable (P:Wk) (w:Wn)
def bF(H:Hp)(h:Heap)(a:Addr):HO->Prop
 | .lst xs=>xs.length<=Wb/\∃ (ag:List Value) (n:Nat),Vals xs ag/\h.get? a=some { cls:=.type "list",data:=.seq ag.toArray n }
 | .tup xs=>xs.length<=Wb/\∃ ag:List Value,Vals xs ag/\gP h a ag.toArray
 | .dK kvs=>kvs.length<=Wb/\(a == Qy)=false/\∃ vs,KV kvs vs/\h.DictOf (bX P w) a vs
 | .dT kvs=>kvs.length<=Wb/\(a == Qy)=false/\∃ xs:List (List Key×Addr×Value),
   Paired (λ(p:List Key×V) (q:List Key×Addr×Value)=>p.1=q.1/\H q.2.1=some (.tup (p.1.map kV))/\RelV p.2 q.2.2) kvs xs /\
   ∃ o es ep,h.get? a=some o/\o.ExactDict/\o.data = .dict es ep/\es.toList=xs.map (entryOfKey (tupleKind (bX P w)))/\(xs.map (·.1)).Nodup
 | .set S n=>h.SetOf (intKind P w) a S n
 | .ins C dx fs=>H dx=some (.own a)/\fs.length<=1000/\dx≠a/\h.get? a=some (PySem.W.instObj C dx) /\
   ∃ mA,h.Ns1 dx mA/\(∀ f,dG (fs.lookup f) (mA f))/\PySem.Within mA (fs.map (·.1))
 | .own _=>∃ o,h.get? a=some o
 | .xd fs=>∃ mA,h.Ns1 a mA/\∀ f,dG (fs.lookup f) (mA f)
 | .k8 lo hi=>∃ t u v,h.get? a=some { cls:=.type "range",data:=.fields #[.int lo t,.int hi u,.int 1 v] }
 | .frz o u=>h.get? a=some o/\bF H h a u
 | .tbl ps=>h.get? a=some { cls:=.none,data:=.fields ps }
 | .dN ep kvs=>kvs.length<=Wb/\(a == Qy)=false/\∃ o es,h.get? a=some o/\o.ExactDict/\o.data = .dict es ep/\Paired (λ(p:NK×V×V) (e:DictEntry)=>e.hash=fN w p.1/\RelV p.2.1 e.key/\RelV p.2.2 e.val) kvs es.toList/\(kvs.map (·.1)).Nodup
 | .ctab pos q=>∃ ps,h.get? a=some { cls:=.none,data:=.fields ps }/\TriplesOk ps.toList/\∀ cv,codeAmong pos ps.toList=some cv->∃ c' oc,cv = .ref c'/\H c'=some (.frz oc (.ext λ_=>True))/\∃ vs tq,oc.data = .fields vs/\vs[1]? = some (.str q tq)
 | .met f x=>h.get? a=some (PySem.W.methodObj (.ref f) (.ref x))
 | .ext φ=>φ h/\(∃ o,h.get? a=some o)/\∀ h1 h2:Heap,φ h1->(∀ o,h1.get? a=some o->h2.get? a=some o)->φ h2
def bN(H:Hp)(h:Heap):Prop:=∀ a o,H a=some o->bF P w H h a o
end
section
variable {P:Wk} {w:Wn} {H H':Hp} {h h':Heap} {a:Addr} {o:HO}
theorem bF.lt(x:bF P w H h a o):a < h.objs.size:=by
 cases o with
 | lst xs=>obtain⟨_,_,_,_,e⟩:=x; exact Wj e
 | tup xs=>obtain⟨_,_,_,p⟩:=x; exact p.lt
 | dK kvs=>obtain⟨_,_,_,_,o,_,_,e,_⟩:=x; exact Wj e
 | dT kvs=>obtain⟨_,_,_,_,o,_,_,e,_⟩:=x; exact Wj e
 | set S n=>obtain⟨o,_,_,_,e,_⟩:=x; exact Wj e
 | ins C dx fs=>obtain⟨_,_,_,e,_⟩:=x; exact Wj e
 | own y=>obtain⟨_,e⟩:=x; exact Wj e
 | xd fs=>obtain⟨_,⟨_,_,_,e,_⟩,_⟩:=x; exact Wj e
 | k8 lo hi=>obtain⟨_,_,_,e⟩:=x; exact Wj e
 | frz ob u=>obtain⟨e,_⟩:=x; exact Wj e
 | tbl ps=>exact Wj (show h.get? a=some _ from x)
 | ctab pos q=>obtain⟨_,e,_⟩:=x; exact Wj e
 | dN ep kvs=>obtain⟨_,_,_,_,e,_⟩:=x; exact Wj e
 | met f y=>exact Wj (show h.get? a=some _ from x)
 | ext φ=>obtain⟨_,⟨_,e⟩,_⟩:=x; exact Wj e
theorem Paired.vF:∀ {l₁:List α} {l₂:List β},Paired F l₁ l₂->(∀ a b,F a b->G a b)->Paired G l₁ l₂
 | _,_,.nil,_=>.nil
 | _,_,.cons r t,f=>.cons (f _ _ r) (Paired.vF t f)
theorem bF.mh(x:bF P w H h a o)(k:∀ b u,(b=a\/H b=some (.own a))->h.get? b=some u->h'.get? b=some u)
  (ho:∀ b,H b=some (.own a)->H' b=some (.own a)) (ht:∀ b xs,H b=some (.tup xs)->H' b=some (.tup xs)) (hf:∀ b o u,H b=some (.frz o u)->H' b=some (.frz o u)):bF P w H' h' a o:=by
 induction o with
 | lst xs=>obtain⟨z,ag,n,r,e⟩:=x; exact⟨z,ag,n,r,k _ _ (.inl rfl) e⟩
 | tup xs=>obtain⟨z,ag,r,n,e⟩:=x; exact⟨z,ag,r,n,k _ _ (.inl rfl) e⟩
 | dK kvs=>obtain⟨z,y,vs,r,ob,es,ep,e,c⟩:=x; exact⟨z,y,vs,r,ob,es,ep,k _ _ (.inl rfl) e,c⟩
 | dT kvs =>
  obtain⟨z,y,xs,r,ob,es,ep,e,c⟩:=x;exact⟨z,y,xs,Paired.vF r λp q z=>⟨z.1,ht _ _ z.2.1,z.2.2⟩,ob,es,ep,k _ _ (.inl rfl) e,c⟩
 | set S n=>obtain⟨ob,es,ep,t,e,c⟩:=x; exact⟨ob,es,ep,t,k _ _ (.inl rfl) e,c⟩
 | ins C dx fs =>
  obtain⟨d,z,ne,e,mA,⟨od,es,ep,e2,c⟩,r⟩:=x;exact⟨ho _ d,z,ne,k _ _ (.inl rfl) e,mA,⟨od,es,ep,k _ _ (.inr d) e2,c⟩,r⟩
 | own y=>obtain⟨ob,e⟩:=x; exact⟨ob,k _ _ (.inl rfl) e⟩
 | xd fs=>obtain⟨mA,⟨od,es,ep,e,c⟩,r⟩:=x; exact⟨mA,⟨od,es,ep,k _ _ (.inl rfl) e,c⟩,r⟩
 | k8 lo hi=>obtain⟨t,u,v,e⟩:=x; exact⟨t,u,v,k _ _ (.inl rfl) e⟩
 | frz ob u ih=>obtain⟨e,q⟩:=x; exact⟨k _ _ (.inl rfl) e,ih q⟩
 | dN ep kvs=>obtain⟨z,y,ob,es,e,c⟩:=x; exact⟨z,y,ob,es,k _ _ (.inl rfl) e,c⟩
 | ctab pos q=>obtain⟨ps,e,t,r⟩:=x; exact⟨ps,k _ _ (.inl rfl) e,t,λcv z=>let ⟨c',oc,z1,z2,z3⟩:=r cv z; ⟨c',oc,z1,hf _ _ _ z2,z3⟩⟩
 | tbl ps =>
  have e:h.get? a=some { cls:=.none,data:=.fields ps }:=x;show h'.get? a=some { cls:=.none,data:=.fields ps };exact k a _ (.inl rfl) e
 | met f y =>
  have e:h.get? a=some (PySem.W.methodObj (.ref f) (.ref y)):=x;show h'.get? a=some (PySem.W.methodObj (.ref f) (.ref y));exact k a _ (.inl rfl) e
 | ext φ=>obtain⟨p,⟨o,e⟩,st⟩:=x; exact⟨st _ _ p λo q=>k _ _ (.inl rfl) q,⟨o,k _ _ (.inl rfl) e⟩,st⟩
theorem bN.lt(x:bN P w H h)(e:H a=some o):a < h.objs.size:=(x a o e).lt
theorem bN.fresh(x:bN P w H h)(e:h.objs.size<=a):H a=none:=by
 cases q:H a with
 | none=>rfl
 | some u=>exact absurd (WE (x.lt q) e) (QN _)
theorem bN.kept(x:bN P w H h)(k:∀ b u,h.get? b=some u->h'.get? b=some u):bN P w H h':=λa o e =>
 (x a o e).mh (λb u _ q=>k b u q) (λ_ q=>q) (λ_ _ q=>q) λ_ _ _ q=>q
theorem bN.laid(x:bN P w H h)(k:∀ b u,h.get? b=some u->h'.get? b=some u)(hp:h.objs.size<=a)(new:bF P w (upd H a o) h' a o):bN P w (upd H a o) h':=λb u e=>by
 have hn:=x.fresh hp;by_cases hb:b=a
 ·grind[cf]
 ·rw[aH hb] at e;exact(x b u e).mh (λc v _ q=>k c v q) (λc q=>by rw[aH (fO q hn)]; exact q) (λc xs q=>by rw[aH (fO q hn)]; exact q) λc o u q=>by rw[aH (fO q hn)]; exact q
end
def Rd(H:Hp)(a:Addr)(u:HO):Prop:=H a=some u\/∃ o,H a=some (.frz o u)
theorem Rd.of(h:H a=some u):Rd H a u:=.inl h
theorem Rd.ok(r:Rd H a u)(x:bN P w H h):bF P w H h a u:=by
 rcases r with r | ⟨o,r⟩
 ·exact x a u r
 ·obtain⟨_,q⟩:=x a _ r;exact q
def pF:Option HO->Prop
 | some (.lst _)=>True
 | some (.dK _)=>True
 | some (.dT _)=>True
 | some (.dN _ _)=>True
 | some (.set _ _)=>True
 | some (.ins _ _ _)=>True
 | some (.ext _)=>True
 | _=>False
section
variable {P:Wk} {w:Wn} {H:Hp} {h h':Heap} {x e:Addr} {o':HO}
theorem bN.write(ok:bN P w H h)(mu:pF (H x))(he:e=x\/H e=some (.own x))(k:∀ b u,b≠e->h.get? b=some u->h'.get? b=some u)(pG:∃ u,h'.get? e=some u)
  (new:bF P w (upd H x o') h' x o'):bN P w (upd H x o') h':=λb u q=>by
 have iI:∀ c y,H c=some (.own y)->c≠x:=λc y r z=>by subst z; rw[r] at mu; exact mu
 have Lh:∀ c xs,H c=some (.tup xs)->c≠x:=λc xs r z=>by subst z; rw[r] at mu; exact mu
 have Li:∀ c o u,H c=some (.frz o u)->c≠x:=λc o u r z=>by subst z; rw[r] at mu; exact mu
 by_cases hb:b=x
 ·grind[cf]
 ·rw[aH hb] at q;by_cases hbe:b=e
  ·have q':H b=some (.own x):=by grind
   rw[q] at q'; cases q'
   obtain⟨v,hv⟩:=pG;exact⟨v,by rw[hbe]; exact hv⟩
  ·refine(ok b u q).mh (λc v hc r=>k c v ?_ r) (λc r=>by rw[aH (iI c b r)]; exact r) (λc xs r=>by rw[aH (Lh c xs r)]; exact r) λc o u r=>by rw[aH (Li c o u r)]; exact r
   grind
end
structure Un(fs ex:List Addr)(H H':Hp)(h h':Heap):Prop where
 keep:∀ b o,h.get? b=some o->H b=none->b ∉ fs->b ∉ ex->h'.get? b=some o
 slot:∀ b o,h.get? b=some o->H b=none->b ∈ fs->b ∉ ex->∃ sl,h'.get? b=some { o with slots:=sl }
 free:∀ b o,h.get? b=some o->H b=none->b ∉ ex->H' b=none
 there:∀ b o,h.get? b=some o->b ∉ ex->∃ o',h'.get? b=some o'
 k_:∀ b xs,H b=some (.tup xs)->H' b=some (.tup xs)
 jH:∀ b o u,H b=some (.frz o u)->H' b=some (.frz o u)
 mj:∀ b ps,H b=some (.tbl ps)->∃ more,H' b=some (.tbl (ps ++ more))
section
variable {fs Lj ex ex':List Addr} {H H1 H2:Hp} {h h1 h2 h':Heap} {a x e:Addr} {o:HO}
theorem Un.any(u:Un fs ex H H1 h h1)(q:h.get? b=some ob)(n:H b=none)(hx:b ∉ ex):∃ sl,h1.get? b=some { ob with slots:=sl }:=by
 by_cases hb:b ∈ fs
 ·exact u.slot b ob q n hb hx
 ·exact⟨ob.slots,u.keep b ob q n hb hx⟩
theorem Un.kept(k:∀ b u,h.get? b=some u->h'.get? b=some u):Un fs ex H H h h' :=
 ⟨λb ob q _ _ _=>k b ob q,λb ob q _ _ _=>⟨ob.slots,k b ob q⟩,λ_ _ _ n _=>n,λb ob q _=>⟨ob,k b ob q⟩,λ_ _ q=>q,λ_ _ _ q=>q,λ_ ps q=>⟨#[],by rw[q]; simp⟩⟩
theorem Un.refl:Un fs ex H H h h:=Un.kept λ_ _ q=>q
theorem Un.laid(k:∀ b u,h.get? b=some u->h'.get? b=some u)(hp:h.objs.size<=a)(hn:H a=none):Un fs ex H (upd H a o) h h' where
 keep:=λb u q _ _ _=>k b u q
 slot:=λb u q _ _ _=>⟨u.slots,k b u q⟩
 free:=λb u q n _=>by rw[aH (Wo (WE (Wj q) hp))]; exact n
 there:=λb u q _=>⟨u,k b u q⟩
 k_:=λb xs q=>by rw[aH (fO q hn)]; exact q
 jH:=λb u xs q=>by rw[aH (fO q hn)]; exact q
 mj:=λb ps q=>⟨#[],by rw[aH (fO q hn),q]; simp⟩
theorem Un.write(mu:pF (H x))(he:e=x\/H e=some (.own x))(k:∀ b u,b≠e->h.get? b=some u->h'.get? b=some u)(pG:∃ u,h'.get? e=some u):Un fs ex H (upd H x o) h h':=by
 have hx:∀ b,H b=none->b≠x:=λb n z=>by subst z; rw[n] at mu; exact mu
 have hb:∀ b,H b=none->b≠e:=λb n z=>by grind
 have hm:∀ b u,H b=some u->¬ pF (some u)->b≠x:=λb u q nm z=>by grind
 refine⟨λb u q n _ _=>k b u (hb b n) q,λb u q n _ _=>⟨u.slots,k b u (hb b n) q⟩,λb u q n _=>by rw[aH (hx b n)]; exact n,λb u q _=>?_,
  λb xs q=>by rw[aH (hm b _ q λz=>z)]; exact q,λb u xs q=>by rw[aH (hm b _ q λz=>z)]; exact q,λb ps q=>⟨#[],by rw[aH (hm b _ q λz=>z),q]; simp⟩⟩
 grind
end
def vG(h:Heap)(H:Hp):List Addr:=(Wd h.objs.size).filter λa=>(H a).isSome
def jI(h:Heap)(H:Hp):Heap:=PySem.W.hideAll h (vG h H)
theorem Lk(h:Heap)(H:Hp):(jI h H).objs.size=h.objs.size:=PySem.W.hideAll_size _ _
theorem Ll(e:h.get? b=some o)(n:H b=none):(jI h H).get? b=some o :=
 PySem.W.hideAll_get _ e λhm=>by
  have q:(H b).isSome=true:=(List.mem_filter.mp hm).2;rw[n] at q; simp at q
theorem Lm(e:(jI h H).get? b=some o):h.get? b=some o/\H b=none:=by
 have e':h.get? b=some o:=PySem.W.of_hideAll (vG h H) e;refine⟨e',?_⟩
 cases q:H b with
 | none=>rfl
 | some x =>
  have hm:b ∈ vG h H:=List.mem_filter.mpr ⟨WP.mpr (Wj e'),by simp[q]⟩;grind[jI,W.hideAll_none]
def Ln(g h:Heap)(L:Addr):List (Addr×Obj):=(Wd h.objs.size).filterMap λa=>if a=L\/(g.get? a).isSome=true then none else(h.get? a).map λo=>(a,o)
def rest(g h:Heap)(L d:Addr):List (Addr×Obj):=(Ln g h L).filter λp=>decide (p.1≠d)
structure Mod(K:W4)(mg:Str->Option Value)(base:Heap):Prop where
 pH:K.In base
 glob:base.Ns Wv mg
 blt:∃ mb,base.Ns builtinsNs mb/\∀ x:Str,x≠"__name__"->mb x=QW x
 nolimit:base.NoLimit
structure Cx where
 prog:Wk
 w:Wn
 K:W4
 mg:Str->Option Value
 base:Heap
 A:Wr
 N:List Str
 s₀:W2
 H₀:Hp
 env:Env
 outer:List Env
 stack:List Env
 ex:List Addr
 fn:Str->Bool
 calm:Bool
 pn:List (Addr×Obj)
 xe:Value->W2->Prop
def fY(l:List Env):List Addr:=l.filterMap (·.frame)
abbrev Cx.fs(X:Cx):List Addr:=fY X.outer
def sg(sc:Scope)(x:Str):Prop:=sc.names.lookup x=some .local\/sc.names.lookup x=some .cell\/sc.names.lookup x=some .free
def Loc(sc:Scope)(x:Str):Prop:=sc.names.lookup x=some .local\/sc.names.lookup x=some .cell
def Look(env:Env)(h:Heap)(m:Str->Option Value)(x:Str)(u:Value):Prop :=
 (env.kindOf x=some .local/\m x=some u)\/((env.kindOf x=some .cell\/env.kindOf x=some .free)/\∃ c,env.cells.lookup x=some c/\h.IsCell c (some u))
structure Cx.Ok(X:Cx):Prop where
 mod:Mod X.K X.mg X.base
 kind:X.env.scope.kind = .function
 glob:X.env.globals=Wv
 blt:X.env.builtins=builtinsNs
 above:X.s₀.heap.objs.size<=X.env.locals
 inj:∀ x y c,X.env.cells.lookup x=some c->X.env.cells.lookup y=some c->x=y
 has:∀ x,(X.env.kindOf x=some .cell\/X.env.kindOf x=some .free)->∃ c,X.env.cells.lookup x=some c
 nU:∀ x c,X.fn x=true->X.env.cells.lookup x=some c->X.s₀.heap.objs.size<=c
 hd:X.calm=true->X.A.handled=none
 frames:X.A.frames=some X.stack
 si:X.stack=X.outer\/(X.stack=X.env :: X.outer/\X.env.frame=some X.env.locals)
 sj:∀ b ∈ X.ex,b≠X.env.locals/\∀ x c,X.env.cells.lookup x=some c->c≠b
 bs:∀ b o,X.base.get? b=some o->X.s₀.heap.get? b=some o/\X.H₀ b=none
 kh:X.base.objs.size<=X.s₀.heap.objs.size
 pI:∀ b o,X.base.get? b=some o->b ∉ X.ex
 pJ:∀ b ∈ X.ex,b ∉ X.fs
 hU:X.s₀.heap.FunFrames X.base X.outer
 ml:∀ b ∈ X.fs,X.H₀ b=none
structure Inv(X:Cx)(pins:List (Addr×Obj))(σ:List (Option V))(H:Hp)(s:W2):Prop where
 ok:X.Ok
 os:s.os=X.s₀.os
 bare:AllBare s.gens
 base:Un X.fs X.ex X.H₀ H X.s₀.heap s.heap
 loc:∃ m,s.heap.Ns X.env.locals m/\∀ (i:Nat) (x:Str) (v:V),X.N[i]? = some x->σ[i]? = some (some v)->sg X.env.scope x->∃ u,RelV v u/\Look X.env s.heap m x u
 cell:∀ x c,X.env.cells.lookup x=some c->∃ v,s.heap.IsCell c v
 free:H X.env.locals=none
 hV:∀ x c,X.env.cells.lookup x=some c->H c=none
 pin:∀ p ∈ X.pn ++ pins,s.heap.get? p.1=some p.2/\H p.1=none/\p.1≠X.env.locals/\p.1 ∉ X.fs/\∀ v,p.2.data≠.cell v
 ax:bN X.prog X.w H s.heap
 len:σ.length=X.N.length
section
variable {X:Cx} {pins:List (Addr×Obj)} {σ:List (Option V)} {H H':Hp} {s:W2} {h':Heap}
theorem Cx.Ok.Lo(ok:X.Ok)(e:X.base.get? b=some o):b ∉ X.fs:=λhb=>by
 have:=(ok.hU.mem hb).1;grind
theorem Inv.bs(I:Inv X pins σ H s):∀ b o,X.base.get? b=some o->s.heap.get? b=some o/\H b=none:=λb o e =>
 ⟨I.base.keep b o (I.ok.bs b o e).1 (I.ok.bs b o e).2 (I.ok.Lo e) (I.ok.pI b o e),I.base.free b o (I.ok.bs b o e).1 (I.ok.bs b o e).2 (I.ok.pI b o e)⟩
theorem Inv.bk(I:Inv X pins σ H s):∀ b o,X.base.get? b=some o->s.heap.get? b=some o:=λb o e=>(I.bs b o e).1
theorem Inv.mod(I:Inv X pins σ H s):Mod X.K X.mg X.base:=I.ok.mod
theorem Inv.eJ(I:Inv X pins σ H s):X.K.In s.heap:=I.ok.mod.pH.keeps I.bk
theorem Inv.fr(I:Inv X pins σ H s):∃ m,Fr X.base X.env.locals s.heap m :=
 let ⟨m,hn,_⟩:=I.loc
 ⟨m,hn,I.bk,Qe I.ok.kh I.ok.above⟩
theorem Inv.lt(I:Inv X pins σ H s):X.env.locals < s.heap.objs.size:=let ⟨_,hn,_⟩:=I.loc; hn.lt
theorem Inv.sz(I:Inv X pins σ H s):X.s₀.heap.objs.size<=s.heap.objs.size:=Qe I.ok.above (J9 I.lt)
theorem Inv.Af(I:Inv X pins σ H s)(h:s.heap.objs.size<=a):a ∉ X.fs:=λhb=>by
 obtain⟨_,o,ho,_⟩:=I.ok.hU.mem hb;exact absurd (WE (Wj ho) (Qe I.sz h)) (QN _)
theorem Inv.la(I:Inv X pins σ H s):∀ x c,X.env.cells.lookup x=some c->c≠X.env.locals:=λx c e z=>by
 obtain⟨v,o,ho,hd⟩:=I.cell x c e;obtain⟨m,⟨o',es,ep,ho',hd',_⟩,_⟩:=I.loc;grind
theorem Inv.hU(I:Inv X pins σ H s):s.heap.FunFrames X.base X.outer:=by
 have all:∀ (l:List Env),(∀ b ∈ fY l,b ∈ X.fs)->X.s₀.heap.FunFrames X.base l->s.heap.FunFrames X.base l:=by
  intro l;induction l with
  | nil=>intro _ _; trivial
  | cons env r ih =>
   intro hs hl;obtain⟨hk,⟨L,o,hf,hn,ho,hd⟩,hr⟩:=hl;have hL:L ∈ X.fs:=hs L (by unfold fY; rw[JR,hf]; exact W7);obtain⟨sl,e⟩:=I.base.slot L o ho (I.ok.ml L hL) hL λz=>I.ok.pJ L z hL
   exact⟨hk,⟨L,_,hf,hn,e,hd⟩,ih (λb hb=>hs b (by unfold fY; rw[JR,hf]; exact W9 _ hb)) hr⟩
 exact all X.outer (λ_ hb=>hb) I.ok.hU
theorem Inv.stack(I:Inv X pins σ H s):s.heap.FunFrames X.base X.stack:=by
 rcases I.ok.si with e | ⟨e,hf⟩
 ·rw[e]; exact I.hU
 ·rw[e];obtain⟨m,hn,_⟩:=I.loc;refine .cons (by rw[I.ok.kind]; decide) hf hn ?_ I.hU;exact Heap.get?_none_of_le (Qe I.ok.kh I.ok.above)
theorem Inv.pK(I:Inv X pins σ H s):∀ b ∈ fY X.stack,b ∈ X.env.locals :: X.fs:=λb hb=>by
 rcases I.ok.si with e | ⟨e,hf⟩
 ·rw[e] at hb; exact W9 _ hb
 ·rw[e] at hb;unfold fY at hb;rw[JR,hf] at hb;exact hb
theorem Inv.Ag(I:Inv X pins σ H s):∀ b ∈ fY X.stack,H b=none:=λb hb=>by
 rcases Wq.mp (I.pK b hb) with e | hb
 ·rw[e]; exact I.free
 ·obtain⟨_,o,ho,_⟩:=I.ok.hU.mem hb;exact I.base.free b o ho (I.ok.ml b hb) λz=>I.ok.pJ b z hb
theorem Inv.step{g':Array GenState}{t':Nat}{d':Drawn}{ch:List Addr}(I:Inv X pins σ H s)
  (jJ:∀ b ∈ ch,(b ∈ X.ex\/X.s₀.heap.objs.size<=b)/\b≠X.env.locals/\(∀ x c,X.env.cells.lookup x=some c->c≠b)/\∀ p ∈ X.pn ++ pins,p.1≠b)
  (keep:∀ b o,b≠X.env.locals->b ∉ X.fs->b ∉ ch->s.heap.get? b=some o->H b=none->h'.get? b=some o)
  (slot:∀ b o,b≠X.env.locals->b ∈ X.fs->b ∉ ch->s.heap.get? b=some o->H b=none->∃ sl,h'.get? b=some { o with slots:=sl }) (free:∀ b o,b ∉ ch->s.heap.get? b=some o->H b=none->H' b=none)
  (there:∀ b o,b ∉ ch->s.heap.get? b=some o->∃ o',h'.get? b=some o')
  (k_:∀ b xs,H b=some (.tup xs)->H' b=some (.tup xs)) (jH:∀ b o u,H b=some (.frz o u)->H' b=some (.frz o u)) (mj:∀ b ps,H b=some (.tbl ps)->∃ more,H' b=some (.tbl (ps ++ more)))
  (ns:∀ m,s.heap.Ns X.env.locals m->h'.Ns X.env.locals m) (ax:bN X.prog X.w H' h') (hg:AllBare g') :
  Inv X pins σ H' { s with heap:=h',gens:=g',drawn:=d',toks:=t' }:=by
 have Ah:∀ b o,X.s₀.heap.get? b=some o->b≠X.env.locals:=λb o e=>Wo (WE (Wj e) I.ok.above)
 have sk:∀ b o,X.s₀.heap.get? b=some o->b ∉ X.ex->b ∉ ch:=λb o e hx hb=>by
  rcases (jJ b hb).1 with z | z
  ·exact hx z
  ·exact absurd (WE (Wj e) z) (QN _)
 have cellK:∀ x c,X.env.cells.lookup x=some c->∀ v,s.heap.IsCell c v->h'.IsCell c v:=λx c e v ⟨o,ho,hd⟩=>by
  have pL:c ∉ ch:=λz=>(jJ c z).2.2.1 x c e rfl
  by_cases hc:c ∈ X.fs
  ·obtain⟨sl,q⟩:=slot c o (I.la x c e) hc pL ho (I.hV x c e);exact⟨_,q,hd⟩
  ·exact⟨o,keep c o (I.la x c e) hc pL ho (I.hV x c e),hd⟩
 refine⟨I.ok,I.os,hg,⟨λb o e n hb hx=>?_,λb o e n hb hx=>?_,λb o e n hx=>?_,λb o e hx=>?_,λb xs e=>k_ b xs (I.base.k_ b xs e),λb o xs e=>jH b o xs (I.base.jH b o xs e),λb ps e=>?_⟩,?_,λx c e=>?_,?_,λx c e=>?_,λp hp=>?_,ax,I.len⟩
 ·exact keep b o (Ah b o e) hb (sk b o e hx) (I.base.keep b o e n hb hx) (I.base.free b o e n hx)
 ·obtain⟨sl,e1⟩:=I.base.slot b o e n hb hx;obtain⟨sl',e2⟩:=slot b _ (Ah b o e) hb (sk b o e hx) e1 (I.base.free b o e n hx);exact⟨sl',e2⟩
 ·obtain⟨o',e1⟩:=I.base.there b o e hx;exact free b o' (sk b o e hx) e1 (I.base.free b o e n hx)
 ·obtain⟨o',e1⟩:=I.base.there b o e hx;exact there b o' (sk b o e hx) e1
 ·obtain⟨m1,e1⟩:=I.base.mj b ps e;grind
 ·obtain⟨m,hn,hl⟩:=I.loc;refine⟨m,ns m hn,λi x v e1 e2 e3=>?_⟩;obtain⟨u,r,l⟩:=hl i x v e1 e2 e3;refine⟨u,r,?_⟩;rcases l with l | ⟨k,c,e,z⟩
  ·exact .inl l
  ·exact .inr ⟨k,c,e,cellK x c e _ z⟩
 ·obtain⟨v,z⟩:=I.cell x c e;exact⟨v,cellK x c e v z⟩
 ·obtain⟨m,⟨o,_,_,ho,_⟩,_⟩:=I.loc;exact free _ o (λz=>(jJ _ z).2.1 rfl) ho I.free
 ·obtain⟨v,o,ho,hd⟩:=I.cell x c e;exact free c o (λz=>(jJ c z).2.2.1 x c e rfl) ho (I.hV x c e)
 ·obtain⟨e,n,ne,nf,d⟩:=I.pin p hp;have pL:p.1 ∉ ch:=λz=>(jJ p.1 z).2.2.2 p hp rfl
  exact⟨keep p.1 p.2 ne nf pL e n,free p.1 p.2 pL e n,ne,nf,d⟩
theorem Inv.un{t':Nat}(I:Inv X pins σ H s)(u:Un X.fs [] H H' s.heap h')(ax:bN X.prog X.w H' h'):Inv X pins σ H' { s with heap:=h',toks:=t' }:=by
 obtain⟨m,⟨o,es,ep,ho,r⟩,_⟩:=id I.loc;obtain⟨sl,hL⟩:=u.any ho I.free U';exact I.step (g':=s.gens) (d':=s.drawn) (ch:=[]) (λ_ z=>nomatch z) (λb o _ hb _ e n=>u.keep b o e n hb U') (λb o _ hb _ e n=>u.slot b o e n hb U') (λb o _ e n=>u.free b o e n U') (λb o _ e=>u.there b o e U') u.k_ u.jH u.mj (λm' hm=>by
  obtain⟨o',gv,gx,ho',r'⟩:=hm;rw[ho] at ho'; cases ho'
  exact⟨_,gv,gx,hL,r'⟩) ax I.bare
theorem Inv.call{g':Array GenState}{t':Nat}{d':Drawn}{ch:List Addr}(I:Inv X pins σ H s)(u:Un (fY X.stack) ch H H' s.heap h')(ax:bN X.prog X.w H' h')(hg:AllBare g')
  (jJ:∀ b ∈ ch,(b ∈ X.ex\/X.s₀.heap.objs.size<=b)/\b≠X.env.locals/\(∀ x c,X.env.cells.lookup x=some c->c≠b)/\∀ p ∈ X.pn ++ pins,p.1≠b) :
  Inv X pins σ H' { s with heap:=h',gens:=g',drawn:=d',toks:=t' }:=by
 obtain⟨m,⟨o,es,ep,ho,r⟩,_⟩:=id I.loc;obtain⟨sl,hL⟩:=u.any ho I.free λz=>(jJ _ z).2.1 rfl
 exact I.step (ch:=ch) jJ (λb o hL hb hc e n=>u.keep b o e n (λz=>(Wq.mp (I.pK b z)).elim hL hb) hc) (λb o _ _ hc e n=>u.any e n hc) (λb o hc e n=>u.free b o e n hc) (λb o hc e=>u.there b o e hc) u.k_ u.jH u.mj (λm' hm=>by
  obtain⟨o',gv,gx,ho',r'⟩:=hm;rw[ho] at ho'; cases ho'
  exact⟨_,gv,gx,hL,r'⟩) ax hg
theorem Inv.turned{t':Nat}{it:Addr}(I:Inv X pins σ H s)(k:∀ b o,b≠it->s.heap.get? b=some o->h'.get? b=some o)(hn:H it=none)(hL:it≠X.env.locals)
  (h1:it ∈ X.ex\/X.s₀.heap.objs.size<=it) (h2:∀ x c,X.env.cells.lookup x=some c->c≠it) (h3:∀ p ∈ X.pn ++ pins,p.1≠it):Inv X pins σ H { s with heap:=h',toks:=t' }:=by
 have lg:∀ b u,H b=some u->b≠it:=λb u e z=>by grind
 refine I.step (g':=s.gens) (d':=s.drawn) (ch:=[it]) (λb hb=>?_) (by grind) (λb o _ _ hc e _=>⟨o.slots,k b o (λz=>hc (by simp[z])) e⟩) (λ_ _ _ _ n=>n)
  (by grind) (λ_ _ e=>e) (λ_ _ _ e=>e) (λb ps e=>⟨#[],by rw[e]; simp⟩) (λm hm=>?_) (λb u e=>?_) I.bare
 ·have e:b=it:=by simpa using hb
  subst e;exact⟨h1,hL,h2,h3⟩
 ·obtain⟨o,es,ep,ho,r⟩:=hm;exact⟨o,es,ep,k _ o (Ne.symm hL) ho,r⟩
 ·refine(I.ax b u e).mh (λc v hc q=>k c v ?_ q) (λ_ q=>q) (λ_ _ q=>q) λ_ _ _ q=>q
  rcases hc with z | z
  ·rw[z]; exact lg b u e
  ·exact lg c _ z
theorem Inv.tok(I:Inv X pins σ H s)(t:Nat):Inv X pins σ H { s with toks:=t }:=I.un (h':=s.heap) (t':=t) Un.refl I.ax
theorem Inv.kept(I:Inv X pins σ H s)(k:∀ b u,s.heap.get? b=some u->h'.get? b=some u):Inv X pins σ H { s with heap:=h',toks:=t' }:=I.un (Un.kept k) (I.ax.kept k)
theorem Inv.laid(I:Inv X pins σ H s)(k:∀ b u,s.heap.get? b=some u->h'.get? b=some u)(hp:s.heap.objs.size<=a)(new:bF X.prog X.w (upd H a o) h' a o) :
  Inv X pins σ (upd H a o) { s with heap:=h',toks:=t' }:=I.un (Un.laid k hp (I.ax.fresh hp)) (I.ax.laid k hp new)
theorem Inv.write(I:Inv X pins σ H s)(mu:pF (H x))(he:e=x\/H e=some (.own x))(k:∀ b u,b≠e->s.heap.get? b=some u->h'.get? b=some u)(pG:∃ u,h'.get? e=some u)
  (new:bF X.prog X.w (upd H x o) h' x o):Inv X pins σ (upd H x o) { s with heap:=h',toks:=t' }:=I.un (Un.write mu he k pG) (I.ax.write mu he k pG new)
theorem Inv.weak(I:Inv X pins σ H s)(hl:σ'.length=σ.length)(w:∀ (i:Nat) v,σ'[i]? = some (some v)->σ[i]? = some (some v)):Inv X pins σ' H s :=
 ⟨I.ok,I.os,I.bare,I.base,let ⟨m,hn,jK⟩:=I.loc; ⟨m,hn,λi x v e1 e2 e3=>jK i x v e1 (w i v e2) e3⟩,I.cell,I.free,I.hV,I.pin,I.ax,hl.trans I.len⟩
theorem Inv.Ai(I:Inv X pins σ H s)(h:∀ p ∈ pins',s.heap.get? p.1=some p.2/\H p.1=none/\p.1≠X.env.locals/\p.1 ∉ X.fs/\∀ v,p.2.data≠.cell v):Inv X pins' σ H s :=
 ⟨I.ok,I.os,I.bare,I.base,I.loc,I.cell,I.free,I.hV,λp hp=>(Ja.mp hp).elim (λz=>I.pin p (List.mem_append_left _ z)) (h p),I.ax,I.len⟩
theorem Aj{N:List Str}(hN:N.Nodup){i j:Nat}{x:Str}(a:N[i]? = some x)(b:N[j]? = some x):i=j:=by
 obtain⟨h1,e1⟩:=W6.mp a;obtain⟨h2,e2⟩:=W6.mp b;exact(List.getElem_inj hN).mp (e1.trans e2.symm)
theorem Al{M:Model}{A:Wr}{E:Value->W2->Prop}{i:Nat}{x:Str}{v:V}{u:Value}{Q:Unit->W2->Prop}(I:Inv X pins σ H s)(hN:X.N.Nodup)(hi:X.N[i]? = some x)(hx:Loc X.env.scope x)(r:RelV v u)
  (h:∀ s',Inv X pins (σ.set i (some v)) H s'->(∃ a,Qk a s.heap s'.heap/\(a=X.env.locals\/X.env.cells.lookup x=some a))->Q () s') (hf:X.fn x=true\/X.env.scope.names.lookup x=some .local:=by first | exact .inl rfl | exact .inr rfl | assumption):W5 M A (storeName X.env x u) Q E s:=by
 obtain⟨m,hn,hl⟩:=id I.loc;have Lp:(X.env.scope.kind == .class || (X.env.scope.kind == .module && X.env.locals != X.env.globals))=false:=by rw[I.ok.kind]; rfl
 have Am:i < σ.length:=by rw[I.len]; exact(W6.mp hi).1
 have la:=I.la;have tracked:∀ {a:Addr} {h':Heap},(∃ o,s.heap.get? a=some o/\H a=none)->Qk a s.heap h'->bN X.prog X.w H h':=λ{a h'} ha hs b ob e=>by
  obtain⟨_,_,sr⟩:=ha;refine(I.ax b ob e).mh (λc w' hc q=>(hs.2 c ?_).trans q) (λ_ q=>q) (λ_ _ q=>q) λ_ _ _ q=>q
  grind
 rcases hx with hk | hk
 ·refine wpAny_storeName_local hk hn (λh' vH hs=>?_) Lp;obtain⟨oL,_,_,hoL,_⟩:=id hn;refine h _ ⟨I.ok,I.os,I.bare,⟨λb o e n hb hx=>?_,λb o e n hb hx=>?_,I.base.free,λb o e hx=>?_,I.base.k_,I.base.jH,I.base.mj⟩,⟨_,vH,λj y v' e1 e2 e3=>?_⟩,λy c e=>?_,I.free,I.hV,λp hp=>?_,tracked ⟨oL,hoL,I.free⟩ hs,by simpa using I.len⟩ ⟨_,hs,.inl rfl⟩
  ·exact(hs.2 b (Wo (WE (Wj e) I.ok.above))).trans (I.base.keep b o e n hb hx)
  ·obtain⟨sl,e1⟩:=I.base.slot b o e n hb hx;exact⟨sl,(hs.2 b (Wo (WE (Wj e) I.ok.above))).trans e1⟩
  ·obtain⟨o',e1⟩:=I.base.there b o e hx;exact⟨o',(hs.2 b (Wo (WE (Wj e) I.ok.above))).trans e1⟩
  ·by_cases hj:j=i
   ·subst hj;rw[hi] at e1; cases e1
    rw[Wl Am] at e2
    cases e2;exact⟨u,r,.inl ⟨hk,U'⟩⟩
   ·rw[W8 (Ne.symm hj)] at e2;obtain⟨u',r',q⟩:=hl j y v' e1 e2 e3;refine⟨u',r',?_⟩;rcases q with ⟨k,e⟩ | ⟨k,c,e,z⟩
    ·refine .inl ⟨k,?_⟩;have:y≠x:=λe=>hj (Aj hN e1 (e ▸ hi))
     simp[this,e]
    ·exact .inr ⟨k,c,e,z.sameBut hs (la y c e)⟩
  ·obtain⟨w',z⟩:=I.cell y c e;exact⟨w',z.sameBut hs (la y c e)⟩
  ·obtain⟨e,n,ne,nf,d⟩:=I.pin p hp;exact⟨(hs.2 p.1 ne).trans e,n,ne,nf,d⟩
 ·have jd:X.fn x=true:=by grind
  obtain⟨c,hc⟩:=I.ok.has x (.inl hk);obtain⟨w',z⟩:=I.cell x c hc;refine wpAny_storeName_cell I.ok.kind hk hc z (λh' fZ hs=>?_);obtain⟨oc,hoc,hocd⟩:=id z;refine h { s with heap:=h' } ⟨I.ok,I.os,I.bare,⟨λb o e n hb hx=>?_,λb o e n hb hx=>?_,I.base.free,λb o e hx=>?_,I.base.k_,I.base.jH,I.base.mj⟩,⟨m,hn.sameBut hs (Ne.symm (la x c hc)),λj y v' e1 e2 e3=>?_⟩,λy c' e=>?_,I.free,I.hV,λp hp=>?_,tracked ⟨oc,hoc,I.hV x c hc⟩ hs,by simpa using I.len⟩ ⟨c,hs,.inr hc⟩
  ·exact(hs.2 b (Wo (WE (Wj e) (I.ok.nU x c jd hc)))).trans (I.base.keep b o e n hb hx)
  ·obtain⟨sl,e1⟩:=I.base.slot b o e n hb hx;exact⟨sl,(hs.2 b (Wo (WE (Wj e) (I.ok.nU x c jd hc)))).trans e1⟩
  ·obtain⟨o',e1⟩:=I.base.there b o e hx;exact⟨o',(hs.2 b (Wo (WE (Wj e) (I.ok.nU x c jd hc)))).trans e1⟩
  ·by_cases hj:j=i
   ·subst hj;rw[hi] at e1; cases e1
    rw[Wl Am] at e2
    cases e2;exact⟨u,r,.inr ⟨.inl hk,c,hc,fZ⟩⟩
   ·rw[W8 (Ne.symm hj)] at e2;obtain⟨u',r',q⟩:=hl j y v' e1 e2 e3;refine⟨u',r',?_⟩;rcases q with q | ⟨k,c',e,z'⟩
    ·exact .inl q
    ·refine .inr ⟨k,c',e,z'.sameBut hs ?_⟩;rintro rfl;exact hj (Aj hN e1 (I.ok.inj _ _ _ e hc ▸ hi))
  ·by_cases hcc:c'=c
   ·grind
   ·obtain⟨w2,z2⟩:=I.cell y c' e;exact⟨w2,z2.sameBut hs hcc⟩
  ·obtain⟨e,n,ne,nf,d⟩:=I.pin p hp;refine⟨(hs.2 p.1 ?_).trans e,n,ne,nf,d⟩;grind
theorem An(I:Inv X pins σ H s)(hN:X.N.Nodup)(hi:X.N[i]? = some x)(hx:Loc X.env.scope x)(r:RelV v u)
  (h:∀ s',Inv X pins (σ.set i (some v)) H s'->Q () s') (hf:X.fn x=true\/X.env.scope.names.lookup x=some .local:=by first | exact .inl rfl | exact .inr rfl | assumption):W5 M A (storeName X.env x u) Q E s :=
 Al I hN hi hx r (λs' I' _=>h s' I') hf
theorem Inv.Lq(I:Inv X pins σ H s)(ho:s'.os=s.os)(u:Un (fY X.stack) ch H H' s.heap s'.heap)(ax:bN X.prog X.w H' s'.heap)(hg:AllBare s'.gens)
  (jJ:∀ b ∈ ch,(b ∈ X.ex\/X.s₀.heap.objs.size<=b)/\b≠X.env.locals/\(∀ x c,X.env.cells.lookup x=some c->c≠b)/\∀ p ∈ X.pn ++ pins,p.1≠b):Inv X pins σ H' s':=by
 obtain⟨h',g',d',t',o'⟩:=s';have e:o'=s.os:=ho;subst e;exact I.call (g':=g') (t':=t') (d':=d') u ax hg jJ
end
abbrev XK:=Value->Option Addr->Hp->Prop
abbrev St:=List (Option V)
abbrev VK:=V->Hp->Prop
abbrev TE:=St->Hp->VK->Prop
abbrev TT:=St->Hp->(Bool->Hp->Prop)->Prop
abbrev TA:=St->Hp->(List V->Hp->Prop)->Prop
structure Ends where
 nx:St->Hp->Prop
 rt:VK
 bk:St->Hp->Prop:=λ_ _=>False
 ct:St->Hp->Prop:=λ_ _=>False
abbrev TS:=Ends->St->Hp->Prop
def EP(X:Cx)(pins:List (Addr×Obj))(σ:St)(Q:VK)(u:Value)(s':W2):Prop:=∃ v H',Inv X pins σ H' s'/\RelV v u/\Q v H'
def TP(X:Cx)(pins:List (Addr×Obj))(σ:St)(Q:Bool->Hp->Prop)(b:Bool)(s':W2):Prop:=∃ H',Inv X pins σ H' s'/\Q b H'
def AP(X:Cx)(pins:List (Addr×Obj))(σ:St)(Q:List V->Hp->Prop)(us:List Value)(s':W2):Prop:=∃ vs H',Inv X pins σ H' s'/\Vals vs us/\Q vs H'
def SP(X:Cx)(pins:List (Addr×Obj))(D:Ends)(f:Flow)(s':W2):Prop :=
 match f with
 | .next=>∃ σ' H',Inv X pins σ' H' s'/\D.nx σ' H'
 | .brk=>∃ σ' H',Inv X pins σ' H' s'/\D.bk σ' H'
 | .cont=>∃ σ' H',Inv X pins σ' H' s'/\D.ct σ' H'
 | .ret u=>∃ v σ' H',Inv X pins σ' H' s'/\RelV v u/\D.rt v H'
def PE(X:Cx)(e:Expr)(t:TE):Prop :=
 ∀ (pins:List (Addr×Obj)) (s:W2) (σ:St) (H:Hp) (Q:VK),Inv X pins σ H s->t σ H Q->W5 (model X.prog X.w) X.A (eval e X.env) (EP X pins σ Q) X.xe s
def PT(X:Cx)(e:Expr)(t:TT):Prop :=
 ∀ (pins:List (Addr×Obj)) (s:W2) (σ:St) (H:Hp) (Q:Bool->Hp->Prop),Inv X pins σ H s->t σ H Q->W5 (model X.prog X.w) X.A (isTrue e X.env (eval e X.env)) (TP X pins σ Q) X.xe s
def PW(X:Cx)(e:Expr)(t:TT):Prop :=
 ∀ (whole:Sem Value) (pins:List (Addr×Obj)) (s:W2) (σ:St) (H:Hp) (Q:Bool->Hp->Prop),Inv X pins σ H s->t σ H Q->W5 (model X.prog X.w) X.A (isTrue e X.env whole) (TP X pins σ Q) X.xe s
theorem PW.pt(h:PW X e t):PT X e t:=h _
def PA(X:Cx)(es:List Expr)(t:TA):Prop :=
 ∀ (pos:Pos) (pins:List (Addr×Obj)) (s:W2) (σ:St) (H:Hp) (Q:List V->Hp->Prop),Inv X pins σ H s->t σ H Q->W5 (model X.prog X.w) X.A (spliced (Qi pos (Wh es X.env))) (AP X pins σ Q) X.xe s
def PS(X:Cx)(st:Stmt)(t:TS):Prop :=
 ∀ (pins:List (Addr×Obj)) (s:W2) (σ:St) (H:Hp) (D:Ends),Inv X pins σ H s->t D σ H->W5 (model X.prog X.w) X.A (exec st X.env) (SP X pins D) X.xe s
def dX(X:Cx)(st:List Stmt)(t:TS):Prop :=
 ∀ (pins:List (Addr×Obj)) (s:W2) (σ:St) (H:Hp) (D:Ends),Inv X pins σ H s->t D σ H->W5 (model X.prog X.w) X.A (execs st X.env) (SP X pins D) X.xe s
theorem aF(h:W5 M A t Q E s)(hQ:∀ a s,Q a s->Q' a s):W5 M A t Q' E s:=WV h hQ λ_ _ x=>x
section
variable {X:Cx}
theorem bin{a b:Expr}{ta tb:TE}(ha:PE X a ta)(hb:PE X b tb){pins:List (Addr×Obj)}{s:W2}{σ:St}{H:Hp}{R:V->V->Hp->Prop}(I:Inv X pins σ H s)(h:ta σ H λx H1=>tb σ H1 λy H2=>R x y H2)
  {α:Type} {Q:α->W2->Prop} {f:Value->Value->Sem α}
  (hf:∀ v u s2 x y H2,Inv X pins σ H2 s2->RelV x v->RelV y u->R x y H2->W5 (model X.prog X.w) X.A (f v u) Q X.xe s2) :
  W5 (model X.prog X.w) X.A (eval a X.env) (λv s₁=>W5 (model X.prog X.w) X.A (eval b X.env) (λu s₂=>W5 (model X.prog X.w) X.A (f v u) Q X.xe s₂) X.xe s₁) X.xe s:=by
 refine aF (ha pins s σ H _ I h) λv s1 ⟨x,H1,I1,r1,q1⟩=>?_
 refine aF (hb pins s1 σ H1 _ I1 q1) λu s2 ⟨y,H2,I2,r2,q2⟩=>?_
 exact hf v u s2 x y H2 I2 r1 r2 q2
def cM(i:Nat):TE:=λσ H Q=>∃ v,σ[i]? = some (some v)/\Q v H
def tC(v:V):TE:=λ_ H Q=>Q v H
theorem Lr (hN:X.N[i]? = some x) (hv:sg X.env.scope x) (hd:(x == ("__debug__" : Str))=false:=by decide) (gy:(x == ("__classdict__" : Str))=false:=by decide):PE X (.Name x pos) (cM i):=by
 intro pins s σ H Q I h;obtain⟨v,e,h⟩:=h;obtain⟨m,hn,hl⟩:=I.loc;obtain⟨u,r,l⟩:=hl i x v hN e hv;have fin:EP X pins σ Q u s:=⟨v,H,I,r,h⟩
 rcases l with ⟨hk,hm⟩ | ⟨hk,c,hc,hcell⟩
 ·exact wpAny_Name (wpAny_loadName_local I.ok.kind hk hn hm fin) hd
 ·rcases hk with hk | hk
  ·exact wpAny_Name (wpAny_loadName_cell I.ok.kind hk hc hcell fin) hd
  ·exact wpAny_Name (wpAny_loadName_free I.ok.kind hk hc hcell fin gy) hd
theorem Ao{i j pos}:PE X (.Constant (.int i) j pos) (tC (.int i)):=λ_ _ _ H _ I h=>wpAny_Constant_int ⟨.int i,H,I.tok _,⟨_,rfl⟩,h⟩
theorem Ls{b j pos}:PE X (.Constant (.bool b) j pos) (tC (.bl b)):=λ_ _ _ H _ I h=>Constant_bool ⟨.bl b,H,I,rfl,h⟩
theorem Lu{j pos}:PE X (.Constant .none j pos) (tC .ay):=λ_ _ _ H _ I h=>Constant_none ⟨.ay,H,I,rfl,h⟩
theorem Ap{x j pos}:PE X (.Constant (.str x) j pos) (tC (.str x)):=λ_ _ _ H _ I h=>Calls.Constant_str ⟨.str x,H,I.tok _,⟨_,rfl⟩,h⟩
def Gl(X:Cx)(x:Str):Prop:=X.env.kindOf x=some .globalImplicit
theorem vI(I:Inv X pins σ H s)(hg:Gl X x)(hm:X.mg x=some u)(h:Q u s)
  (hd:(x == ("__debug__" : Str))=false:=by decide):W5 (model X.prog X.w) X.A (eval (.Name x pos) X.env) Q E s :=
 Calls.Name_function_global I.ok.kind hg (Calls.loadGlobal_global (by rw[I.ok.glob]; exact I.mod.glob.keeps I.bk) hm h) hd
theorem nV(I:Inv X pins σ H s)(hg:Gl X x)(hm:X.mg x=none)(hv:QW x=some u)(h:Q u s)
  (hn:x≠"__name__":=by decide) (hd:(x == ("__debug__" : Str))=false:=by decide):W5 (model X.prog X.w) X.A (eval (.Name x pos) X.env) Q E s:=by
 obtain⟨mb,h1,h2⟩:=I.mod.blt;exact Calls.Name_function_global I.ok.kind hg (Calls.loadGlobal_builtin (by rw[I.ok.glob]; exact I.mod.glob.keeps I.bk) hm (by rw[I.ok.blt]; exact h1.keeps I.bk) ((h2 x hn).trans hv) h) hd
theorem Lv (hg:Gl X x) (hm:X.mg x=some u) (r:RelV v u) (hd:(x == ("__debug__" : Str))=false:=by decide):PE X (.Name x pos) (tC v) :=
 λ_ _ _ H _ I h=>vI I hg hm ⟨v,H,I,r,h⟩ hd
theorem Lw (hg:Gl X x) (hm:X.mg x=none) (hv:QW x=some u) (r:RelV v u) (hn:x≠"__name__":=by decide) (hd:(x == ("__debug__" : Str))=false:=by decide):PE X (.Name x pos) (tC v) :=
 λ_ _ _ H _ I h=>nV I hg hm hv ⟨v,H,I,r,h⟩ hn hd
variable {a b:Expr} {ta tb:TE} {pos:Pos}
def PC(X:Cx)(op:CmpOp)(a b:Expr)(t:TE):Prop :=
 ∀ (pins:List (Addr×Obj)) (s:W2) (σ:St) (H:Hp) (Q:VK),Inv X pins σ H s->t σ H Q ->
  W5 (model X.prog X.w) X.A (eval a X.env) (λv s₁=>W5 (model X.prog X.w) X.A (eval b X.env) (λu s₂=>W5 (model X.prog X.w) X.A (WQ op v u) (EP X pins σ Q) X.xe s₂) X.xe s₁) X.xe s
theorem Lx(b:Expr)(h:op≠.In)(h2:op≠.NotIn):QO op b=false:=by
 have e1:(op == CmpOp.In)=false:=by cases op <;> first | rfl | exact absurd rfl h
 have e2:(op == CmpOp.NotIn)=false:=by cases op <;> first | rfl | exact absurd rfl h2
 cases b <;> simp[QO,e1,e2]
def tB(t:TE):TT:=λσ H Q=>t σ H λx H1=>∃ c,x = .bl c/\Q c H1
theorem qas(h:PC X op a b t)(h1:QO op b=false:=by first | exact Lx _ Z' Z' | rfl):PT X (.Compare a [op] [b] pos) (tB t):=by
 intro pins s σ H Q I hw;refine wpAny_isTrue_Compare1 (aF (h pins s σ H _ I hw) λv s1 h1=>aF h1 λu s2 h2=>aF h2 λc s3 ⟨x,H1,I1,r1,q1⟩=>?_) h1;obtain⟨d,rfl,q⟩:=q1
 cases r1;exact QR ⟨H1,I1,q⟩
theorem Ly(h:PE X e t)(he:∀ whole,isTrue e X.env whole=(do let v <- whole; standAt e.pos; holding [v] (truthy v)):=by intro _; rfl):PT X e (tB t):=by
 intro pins s σ H Q I hw;refine isTrue_plain (aF (h pins s σ H _ I hw) λv s1 ⟨x,H1,I1,r1,q1⟩=>?_) (he _);obtain⟨d,rfl,q⟩:=q1
 cases r1;exact QR ⟨H1,I1,q⟩
variable {tA su:TT} {rest:List Expr}
def Lz(t u:TT):TT:=λσ H Q=>t σ H λc H1=>if c=true then u σ H1 Q else Q false H1
def LA(t u:TT):TT:=λσ H Q=>t σ H λc H1=>if c=true then Q true H1 else u σ H1 Q
def LB(t:TT):TT:=λσ H Q=>t σ H λc H1=>Q (!c) H1
theorem LF(ha:PT X a tA):PW X (.BoolOp .And [a] pos) tA:=by
 intro wh pins s σ H Q I h;refine isTrue_and (aF (ha pins s σ H Q I h) λc s1 e=>?_)
 cases c with
 | true=>exact isTrue_and_nil e
 | false=>exact e
theorem LG(ha:PT X a tA):PW X (.BoolOp .Or [a] pos) tA:=by
 intro wh pins s σ H Q I h;refine isTrue_or (aF (ha pins s σ H Q I h) λc s1 e=>?_)
 cases c with
 | false=>exact isTrue_or_nil e
 | true=>exact e
theorem LH(ha:PT X a tA)(hb:PW X (.BoolOp .And (b :: rest) pos) su):PW X (.BoolOp .And (a :: b :: rest) pos) (Lz tA su):=by
 intro wh pins s σ H Q I h;refine isTrue_and (aF (ha pins s σ H _ I h) λc s1 ⟨H1,I1,q1⟩=>?_)
 cases c with
 | true=>exact hb wh pins s1 σ H1 Q I1 q1
 | false=>exact⟨H1,I1,q1⟩
theorem pw_or(ha:PT X a tA)(hb:PW X (.BoolOp .Or (b :: rest) pos) su):PW X (.BoolOp .Or (a :: b :: rest) pos) (LA tA su):=by
 intro wh pins s σ H Q I h;refine isTrue_or (aF (ha pins s σ H _ I h) λc s1 ⟨H1,I1,q1⟩=>?_)
 cases c with
 | true=>exact⟨H1,I1,q1⟩
 | false=>exact hb wh pins s1 σ H1 Q I1 q1
theorem LI(ha:PT X a tA):PT X (.UnaryOp .Not a pos) (LB tA):=by
 intro pins s σ H Q I h;exact isTrue_not (ha pins s σ H (λc H1=>Q (!c) H1) I h)
def LJ(ta tb:TE):TE:=λσ H Q=>ta σ H λx H1=>∃ c,x = .bl c/\if c=true then tb σ H1 Q else Q (.bl false) H1
def LK(ta tb:TE):TE:=λσ H Q=>ta σ H λx H1=>∃ c,x = .bl c/\if c=true then Q (.bl true) H1 else tb σ H1 Q
def LM(ta:TE):TE:=λσ H Q=>ta σ H λx H1=>∃ c,x = .bl c/\Q (.bl (!c)) H1
theorem LN(ha:PE X a ta)(hb:PE X (.BoolOp .And (b :: rest) pos) tb):PE X (.BoolOp .And (a :: b :: rest) pos) (LJ ta tb):=by
 intro pins s σ H Q I h;refine BoolOp_and (aF (ha pins s σ H _ I h) λv s1 ⟨x,H1,I1,r1,q1⟩=>?_);obtain⟨c,rfl,q1⟩:=q1
 cases r1;refine QR ?_
 cases c with
 | true=>exact hb pins s1 σ H1 Q I1 q1
 | false=>exact⟨.bl false,H1,I1,rfl,q1⟩
theorem LO(ha:PE X a ta)(hb:PE X (.BoolOp .Or (b :: rest) pos) tb):PE X (.BoolOp .Or (a :: b :: rest) pos) (LK ta tb):=by
 intro pins s σ H Q I h;refine BoolOp_or (aF (ha pins s σ H _ I h) λv s1 ⟨x,H1,I1,r1,q1⟩=>?_);obtain⟨c,rfl,q1⟩:=q1
 cases r1;refine QR ?_
 cases c with
 | false=>exact hb pins s1 σ H1 Q I1 q1
 | true=>exact⟨.bl true,H1,I1,rfl,q1⟩
theorem LQ(ha:PE X a ta):PE X (.UnaryOp .Not a pos) (LM ta):=by
 intro pins s σ H Q I h;refine UnaryOp_ (aF (ha pins s σ H _ I h) λv s1 ⟨x,H1,I1,r1,q1⟩=>?_);obtain⟨c,rfl,q1⟩:=q1
 cases r1;exact not_of (QR ⟨.bl (!c),H1,I1,rfl,q1⟩)
end
def cA(K:W4)(H:Hp)(a:Addr)(xs:List V):Prop :=
 Rd H a (.lst xs) \/
  ∃ (o:Obj) (ag:Array Value) (n:Nat),K.lookup a=some o/\o.cls = .type "list"/\o.dict=none/\o.data = .seq ag n/\ag.size<=Wb/\Vals xs ag.toList
def bT(K:W4)(H:Hp)(a:Addr)(xs:List V):Prop :=
 Rd H a (.tup xs) \/
  ∃ (o:Obj) (ag:Array Value) (n:Nat),K.lookup a=some o/\o.cls = .type "tuple"/\o.data = .seq ag n/\ag.size<=Wb/\Vals xs ag.toList
def LR:Value->Option V
 | .none=>some .ay
 | .bool b=>some (.bl b)
 | .int i _=>some (.int i)
 | .str x _=>some (.str x)
 | .bytes b _=>some (.byt b)
 | .float b _=>some (.flt b)
 | .ref a=>some (.ref a)
 | .type n=>some (.ty n)
 | _=>none
theorem RelV.abs(r:RelV x u):LR u=some x:=by
 cases x with
 | ay=>cases r; rfl
 | bl _=>cases r; rfl
 | int _=>obtain⟨t,rfl⟩:=r; rfl
 | str _=>obtain⟨t,rfl⟩:=r; rfl
 | byt _=>obtain⟨t,rfl⟩:=r; rfl
 | flt _=>obtain⟨t,rfl⟩:=r; rfl
 | ref _=>cases r; rfl
 | ty _=>cases r; rfl
theorem RelV.inj(r:RelV x u)(q:RelV y u):x=y:=WS (r.abs.symm.trans q.abs)
theorem Vals.inj:∀ {xs ys:List V} {us:List Value},Vals xs us->Vals ys us->xs=ys
 | _,_,_,.nil,.nil=>rfl
 | _,_,_,.cons r t,.cons r' t'=>by rw[r.inj r',Vals.inj t t']
section
variable {X:Cx} {pins:List (Addr×Obj)} {σ:St} {H:Hp} {s:W2} {a:Addr} {xs ys:List V}
theorem cA.of{K:W4}(h:H a=some (.lst xs)):cA K H a xs:=.inl (.inl h)
theorem bT.of{K:W4}(h:H a=some (.tup xs)):bT K H a xs:=.inl (.inl h)
theorem Inv.list(I:Inv X pins σ H s)(h:cA X.K H a xs):∃ ag:List Value,Vals xs ag/\PlainL s.heap a ag.toArray/\xs.length<=Wb:=by
 rcases h with h | ⟨o,ag,n,hk,hc,hd,hs,hz,r⟩
 ·obtain⟨z,ag,n,r,e⟩:=h.ok I.ax;exact⟨ag,r,⟨_,n,e,rfl,rfl,rfl⟩,z⟩
 ·refine⟨ag.toList,r,⟨o,n,I.eJ a o hk,hc,hd,by simpa using hs⟩,?_⟩;have e:=r.length;simp only[Q2] at e;lia
theorem Inv.tuple(I:Inv X pins σ H s)(h:bT X.K H a xs):∃ ag:List Value,Vals xs ag/\IsTup s.heap a ag.toArray/\xs.length<=Wb:=by
 rcases h with h | ⟨o,ag,n,hk,hc,hs,hz,r⟩
 ·obtain⟨z,ag,r,p⟩:=h.ok I.ax;exact⟨ag,r,p.tup,z⟩
 ·refine⟨ag.toList,r,⟨o,I.eJ a o hk,hc,n,by simpa using hs⟩,?_⟩;have e:=r.length;simp only[Q2] at e;lia
theorem Inv.Aq(I:Inv X pins σ H s)(h:cA X.K H a xs)(h':cA X.K H a ys):xs=ys:=by
 obtain⟨ag,r,⟨o,n,e,_,_,d⟩,_⟩:=I.list h;obtain⟨its',r',⟨o',n',e',_,_,d'⟩,_⟩:=I.list h';rw[e] at e'; cases e'
 rw[d] at d';injection d' with d1 _
 have:ag=its':=by grind
 subst this;exact r.inj r'
theorem Inv.Ar(I:Inv X pins σ H s)(h:bT X.K H a xs)(h':bT X.K H a ys):xs=ys:=by
 obtain⟨ag,r,⟨o,e,_,n,d⟩,_⟩:=I.tuple h;obtain⟨its',r',⟨o',e',_,n',d'⟩,_⟩:=I.tuple h';rw[e] at e'; cases e'
 rw[d] at d';injection d' with d1 _
 have:ag=its':=by grind
 subst this;exact r.inj r'
end
abbrev Cx.jL(X:Cx)(E:Value->W2->Prop):Cx:={ X with xe:=E }
abbrev Cx.f6(X:Cx):Cx:=X.jL λ_ _=>False
theorem Cx.Ok.jL{X:Cx}(ok:X.Ok)(E:Value->W2->Prop):(X.jL E).Ok :=
 ⟨ok.mod,ok.kind,ok.glob,ok.blt,ok.above,ok.inj,ok.has,ok.nU,ok.hd,ok.frames,ok.si,ok.sj,ok.bs,ok.kh,ok.pI,ok.pJ,ok.hU,ok.ml⟩
theorem Cx.Ok.lh{X:Cx}{E:Value->W2->Prop}(ok:(X.jL E).Ok):X.Ok :=
 ⟨ok.mod,ok.kind,ok.glob,ok.blt,ok.above,ok.inj,ok.has,ok.nU,ok.hd,ok.frames,ok.si,ok.sj,ok.bs,ok.kh,ok.pI,ok.pJ,ok.hU,ok.ml⟩
section
variable {X:Cx} {pins:List (Addr×Obj)} {σ:St} {H:Hp} {s:W2} {E:Value->W2->Prop}
theorem Inv.jL(I:Inv X pins σ H s)(E:Value->W2->Prop):Inv (X.jL E) pins σ H s:=⟨I.ok.jL E,I.os,I.bare,I.base,I.loc,I.cell,I.free,I.hV,I.pin,I.ax,I.len⟩
theorem Inv.lh(I:Inv (X.jL E) pins σ H s):Inv X pins σ H s:=⟨I.ok.lh,I.os,I.bare,I.base,I.loc,I.cell,I.free,I.hV,I.pin,I.ax,I.len⟩
theorem SP.lh(h:SP (X.jL E) pins D f s'):SP X pins D f s':=by
 cases f with
 | next=>obtain⟨σ',H',I,q⟩:=h; exact⟨σ',H',I.lh,q⟩
 | brk=>obtain⟨σ',H',I,q⟩:=h; exact⟨σ',H',I.lh,q⟩
 | cont=>obtain⟨σ',H',I,q⟩:=h; exact⟨σ',H',I.lh,q⟩
 | ret u=>obtain⟨v,σ',H',I,r,q⟩:=h; exact⟨v,σ',H',I.lh,r,q⟩
theorem dX.f6{st:List Stmt}{t:TS}(h:dX X.f6 st t):dX X st t:=λpins s σ H D I hw =>
 WV (h pins s σ H D (I.jL _) hw) (λ_ _ q=>q.lh) (by grind)
end
section
variable {X:Cx} {st:Stmt} {rest:List Stmt} {t u:TS} {e:Expr} {te:TE} {pos:Pos}
def LS:TS:=λD σ H=>D.nx σ H
def LU(t u:TS):TS:=λD σ H=>t { D with nx:=u D } σ H
theorem LV:dX X [] LS:=λ_ _ σ H _ I h=>wpAny_execs_nil ⟨σ,H,I,h⟩
theorem LW(h1:PS X st t)(h2:dX X rest u):dX X (st :: rest) (LU t u):=by
 intro pins s σ H D I h;refine wpAny_execs_cons (aF (h1 pins s σ H { D with nx:=u D } I h) λf s1 q=>?_)
 cases f with
 | next =>
  obtain⟨σ',H',I',q⟩:=q;exact h2 pins s1 σ' H' D I' q
 | ret v=>exact q
 | brk=>exact q
 | cont=>exact q
theorem LX(h1:PS X st t):dX X [st] t:=by
 intro pins s σ H D I h;refine wpAny_execs_cons (aF (h1 pins s σ H D I h) λf s1 q=>?_)
 cases f with
 | next=>exact wpAny_execs_nil q
 | ret v=>exact q
 | brk=>exact q
 | cont=>exact q
theorem Inv.quiet(I:Inv X pins σ H s):interactive X.env=false:=by simp[interactive,I.ok.kind]
def vJ(te:TE):TS:=λD σ H=>te σ H λ_ H1=>D.nx σ H1
theorem vK(he:PE X e te)(hs:QZ e none pos.line X.env=pure false:=by rfl):PS X (.Expr e pos) (vJ te):=by
 intro pins s σ H D I h;exact wpAny_Expr_any (aF (he pins s σ H _ I h) λv s1 ⟨x,H1,I1,r1,q1⟩=>⟨σ,H1,I1,q1⟩) I.quiet hs
def LY(te:TE):TS:=λD σ H=>te σ H D.rt
theorem As(he:PE X e te):PS X (.Return (some e) pos) (LY te):=by
 intro pins s σ H D I h;exact wpAny_Return_some (aF (he pins s σ H _ I h) λv s1 ⟨x,H1,I1,r1,q1⟩=>⟨x,σ,H1,I1,r1,q1⟩)
def LZ(c:TT)(t u:TS):TS:=λD σ H=>c σ H λb H1=>if b=true then t D σ H1 else u D σ H1
theorem L3(hc:PT X c tc)(ha:dX X a t)(hb:dX X b u):PS X (.If c a b pos) (LZ tc t u):=by
 intro pins s σ H D I h;refine wpAny_If (aF (hc pins s σ H _ I h) λd s1 ⟨H1,I1,q1⟩=>?_)
 cases d with
 | true=>exact ha pins s1 σ H1 D I1 q1
 | false=>exact hb pins s1 σ H1 D I1 q1
def L4:TS:=λ_ _ _=>False
theorem L5:PS X st L4:=λ_ _ _ _ _ _ h=>h.elim
end
abbrev TG:=V->St->Hp->(St->Hp->Prop)->Prop
abbrev lj:=List V->St->Hp->(St->Hp->Prop)->Prop
def PG(X:Cx)(target:Expr)(t:TG):Prop :=
 ∀ (pins:List (Addr×Obj)) (s:W2) (σ:St) (H:Hp) (v:V) (u:Value) (Q:St->Hp->Prop),Inv X pins σ H s->RelV v u->t v σ H Q ->
  W5 (model X.prog X.w) X.A (assign target X.env u) (λ_ s'=>∃ σ' H',Inv X pins σ' H' s'/\Q σ' H') X.xe s
def h8(X:Cx)(ts:List Expr)(t:lj):Prop :=
 ∀ (pins:List (Addr×Obj)) (s:W2) (σ:St) (H:Hp) (vs:List V) (us:List Value) (Q:St->Hp->Prop),Inv X pins σ H s->Vals vs us->t vs σ H Q ->
  W5 (model X.prog X.w) X.A (assignInOrder ((Qz ts X.env).map (·.2)) us) (λ_ s'=>∃ σ' H',Inv X pins σ' H' s'/\Q σ' H') X.xe s
abbrev Au:=V->V->V->Hp->(Hp->Prop)->Prop
def Aw(X:Cx)(t:Au):Prop :=
 ∀ (pins:List (Addr×Obj)) (s:W2) (σ:St) (H:Hp) (o i v:V) (ov iv u:Value) (Q:Hp->Prop),Inv X pins σ H s->RelV o ov->RelV i iv->RelV v u->t o i v H Q ->
  W5 (model X.prog X.w) X.A (setItem ov iv u) (λ_ s'=>∃ H',Inv X pins σ H' s'/\Q H') X.xe s
section
variable {X:Cx} {pos:Pos}
def sv(i:Nat):TG:=λv σ H Q=>Q (σ.set i (some v)) H
theorem Ax(hN:X.N.Nodup)(hi:X.N[i]? = some x)(hx:Loc X.env.scope x)(hf:X.fn x=true\/X.env.scope.names.lookup x=some .local:=by first | exact .inl rfl | exact .inr rfl | assumption):PG X (.Name x pos) (sv i):=by
 intro pins s σ H v u Q I r h;exact wpAny_assign_Name (An I hN hi hx r (λs' I'=>⟨_,H,I',h⟩) hf)
def L7:lj:=λvs σ H Q=>vs=[]/\Q σ H
def L8(t:TG)(u:lj):lj:=λvs σ H Q=>∃ v r,vs=v :: r/\t v σ H λσ' H'=>u r σ' H' Q
theorem Ay:h8 X [] L7:=by
 intro pins s σ H vs us Q I r h;obtain⟨e,h⟩:=h;subst e
 cases r;exact assignInOrder_nil ⟨σ,H,I,h⟩
theorem Az(h1:PG X e t)(h2:h8 X es u)
  (hs:(Qz (e :: es) X.env).map (·.2)=assign e X.env :: (Qz es X.env).map (·.2):=by rfl):h8 X (e :: es) (L8 t u):=by
 intro pins s σ H vs us Q I r h;obtain⟨v,vr,e1,h⟩:=h;subst e1
 cases r with
 | cons r rr =>
  rw[hs];refine assignInOrder_cons (aF (h1 pins s σ H _ _ _ I r h) λ_ s1 ⟨σ1,H1,I1,q1⟩=>?_);exact h2 pins s1 σ1 H1 _ _ Q I1 rr q1
def L9(K:W4)(n:Nat)(t:lj):TG:=λv σ H Q=>∃ a xs,v = .ref a/\bT K H a xs/\xs.length=n/\t xs σ H Q
theorem AB(hc:X.calm=true)(h:h8 X es t)
  (hn:(Qz es X.env).length=n:=by rfl) (cU:(Qz es X.env).findIdx? (·.1)=none:=by rfl):PG X (.Tuple es k pos) (L9 X.K n t):=by
 intro pins s σ H v u Q I r hw;obtain⟨a,xs,e1,hq,hl,hw⟩:=hw;subst e1
 cases r;obtain⟨ag,rv,ht,hz⟩:=I.tuple hq;refine assign_Tuple_tuple (I.ok.hd hc) ht (by simp[hn,<- hl,rv.length]) cU λh' hx=>?_
 have I1:Inv X pins σ H { s with heap:=h' }:=I.kept (t':=s.toks) λb o e=>hx b o (Wo (Wj e)) e
 exact h pins _ σ H xs _ Q I1 (by simpa using rv) hw
def L_(to ti:TE)(t:Au):TG:=λv σ H Q=>to σ H λo H1=>ti σ H1 λi H2=>t o i v H2 λH3=>Q σ H3
theorem Ma(ho:PE X o to)(hi:PE X i ti)(hs:Aw X t)
  (ha:∀ v,assign (.Subscript o i pos) X.env v=(do
   let ov <- holding [v] (eval o X.env)
   let iv <- holding [v,ov] (eval i X.env)
   standAt pos
   holding [v,ov,iv] (setItem ov iv v)
   release [v,ov,iv] []):=by intro _; rfl):PG X (.Subscript o i pos) (L_ to ti t):=by
 intro pins s σ H v u Q I r h;rw[ha];refine W0 (WN (aF (ho pins s σ H _ I h) λov s1 ⟨x,H1,I1,r1,q1⟩=>?_));refine W0 (WN (aF (hi pins s1 σ H1 _ I1 q1) λiv s2 ⟨y,H2,I2,r2,q2⟩=>?_));refine W0 (wpAny_standAt (W0 (WN (aF (hs pins s2 σ H2 x y v ov iv u _ I2 r1 r2 r q2) λ_ s3 ⟨H3,I3,q3⟩=>?_))));exact wpAny_release ⟨σ,H3,I3,q3⟩
def sy(te:TE)(g:TG):TS:=λD σ H=>te σ H λx H1=>g x σ H1 D.nx
theorem AD(he:PE X e te)(hg:PG X tg g)(hs:swapsWithSole [tg] e pos.line X.env=pure false:=by rfl)(hw:swappedStores [tg] e X.env=pure none:=by rfl)
  (h1:(Qz [tg] X.env).map (·.2)=[assign tg X.env]:=by rfl):PS X (.Assign [tg] e pos) (sy te g):=by
 intro pins s σ H D I h;refine wpAny_Assign_stores (aF (he pins s σ H _ I h) λv s1 ⟨x,H1,I1,r1,q1⟩=>?_) hs hw;rw[h1];exact aF (hg pins s1 σ H1 x v _ I1 r1 q1) λ_ s2 q=>q
theorem AE(hN:X.N.Nodup)(hi:X.N[i]? = some x)(hx:Loc X.env.scope x)(he:PE X e te)(hs:QZ e (some (.Name x pos')) pos.line X.env=pure false:=by rfl)(hf:X.fn x=true\/X.env.scope.names.lookup x=some .local:=by first | exact .inl rfl | exact .inr rfl | assumption) :
  PS X (.Assign [.Name x pos'] e pos) (sy te (sv i)):=by
 intro pins s σ H D I h;refine wpAny_Assign_Name (aF (he pins s σ H _ I h) λv s1 ⟨y,H1,I1,r1,q1⟩=>?_) hs;exact An I1 hN hi hx r1 (λs2 I2=>⟨_,H1,I2,q1⟩) hf
def AF(c:TT)(tb:TS):TS:=λD σ H=>∃ W:Nat->St->Hp->Prop,(∃ m,W m σ H)/\∀ m σ H,W m σ H ->
 c σ H λb H1=>if b=true then ∃ N:St->Hp->Prop,(∀ σ' H',N σ' H'->∃ m',m' < m/\W m' σ' H')/\tb { D with nx:=N,ct:=N,bk:=D.nx } σ H1 else D.nx σ H1
theorem Mb(hp:PassesOwn (model X.prog X.w) X.A X.env X.xe)(hc:PT X c tc)(hb:dX X body tb):PS X (.While c body [] pos) (AF tc tb):=by
 intro pins s σ H D I h;obtain⟨W,⟨m0,w0⟩,turn⟩:=h;refine wpAny_While (codeAny_whileLoop (λn s'=>∃ σ' H',Inv X pins σ' H' s'/\W n σ' H') ?_ m0 ⟨σ,H,I,w0⟩);rintro n s1 ⟨σ1,H1,I1,w1⟩;refine Jv hp (aF (hc pins s1 σ1 H1 _ I1 (turn n σ1 H1 w1)) λb s2 ⟨H2,I2,q2⟩=>?_)
 cases b with
 | true =>
  obtain⟨N,hN,q2⟩:=q2;rw[if_pos rfl];refine Jv hp (aF (hb pins s2 σ1 H2 _ I2 q2) λf s3 q3=>?_)
  cases f with
  | next =>
   obtain⟨σ3,H3,I3,n3⟩:=q3;obtain⟨m',hm,w3⟩:=hN σ3 H3 n3;exact⟨m',hm,σ3,H3,I3,w3⟩
  | cont =>
   obtain⟨σ3,H3,I3,n3⟩:=q3;obtain⟨m',hm,w3⟩:=hN σ3 H3 n3;exact⟨m',hm,σ3,H3,I3,w3⟩
  | brk=>exact q3
  | ret v=>exact q3
 | false =>
  rw[if_neg Q0];exact wpAny_execs_nil ⟨σ1,H2,I2,q2⟩
end
structure It where
 go:Nat->Hp->Prop
 pM:Nat->Hp->V->Hp->Prop
 stop:Nat->Hp->Prop
def f7(X:Cx)(pins:List (Addr×Obj))(H:Hp)(b:Addr):Prop :=
 H b=none/\b≠X.env.locals/\b ∉ X.fs/\(b ∈ X.ex\/X.s₀.heap.objs.size<=b)/\(∀ x c,X.env.cells.lookup x=some c->c≠b)/\∀ p ∈ X.pn ++ pins,p.1≠b
theorem Inv.iJ(I:Inv X pins σ H s)(hb:s.heap.objs.size<=b)(hn:H' b=none):f7 X pins H' b:=by
 refine⟨hn,QB (WE I.lt hb),I.Af hb,.inr (Qe I.sz hb),λx c e z=>?_,λp hp z=>?_⟩
 ·obtain⟨v,q⟩:=I.cell x c e;exact absurd (WE q.lt (by rw[z]; exact hb)) (QN _)
 ·exact absurd (WE (Wj (I.pin p hp).1) (by rw[z]; exact hb)) (QN _)
structure Turn(P:Wk)(w:Wn)(K:W4)(tg:Expr)(J:It)(fp:List Addr)(it:Addr)(tn:Nat->Heap->Prop):Prop where
 mem:it ∈ fp
 obj:∀ i h,tn i h->∀ b ∈ fp,∃ o,h.get? b=some o/\∀ v,o.data≠.cell v
 keep:∀ i h h',tn i h->(∀ b ∈ fp,∀ o,h.get? b=some o->h'.get? b=some o)->tn i h'
 item:∀ (X:Cx),X.prog=P->X.w=w->X.K=K->X.calm=true->∀ (i:Nat) (pins:List (Addr×Obj)) (s:W2) (σ:St) (H:Hp) (E:Value->W2->Prop),Inv X pins σ H s->(∀ b ∈ fp,f7 X pins H b)->tn i s.heap->J.go i H ->
  W5 (model P w) X.A (Ql (.ref it)) (λr s1=>∃ u,r=some u /\
   W5 (model P w) X.A (letOwnedTupleGo tg (.ref it) u) (λ_ s2=>∃ x H',Inv X pins σ H' s2/\RelV x u/\J.pM i H x H'/\tn (i + 1) s2.heap/\∀ b ∈ fp,H' b=none) E s1) E s
 done:∀ (X:Cx),X.prog=P->X.w=w->X.K=K->X.calm=true->∀ (i:Nat) (pins:List (Addr×Obj)) (s:W2) (σ:St) (H:Hp) (E:Value->W2->Prop),Inv X pins σ H s->(∀ b ∈ fp,f7 X pins H b)->tn i s.heap->J.stop i H ->
  W5 (model P w) X.A (Ql (.ref it)) (λr s1=>r=none/\Inv X pins σ H s1) E s
 self:∀ (A:Wr) (i:Nat) (s:W2) (Q:Value->W2->Prop) (E:Value->W2->Prop),tn i s.heap->Q (.ref it) s->W5 (model P w) A (pyIter (.ref it)) Q E s
abbrev TI:=St->Hp->(It->Hp->Prop)->Prop
def AG(X:Cx)(pins:List (Addr×Obj))(σ:St)(tg:Expr)(R:It->Hp->Prop)(sA:Value)(s2:W2):Prop :=
 ∃ (it:Addr) (fp:List Addr) (tn:Nat->Heap->Prop) (J:It) (H':Hp),sA = .ref it/\Inv X pins σ H' s2/\Turn X.prog X.w X.K tg J fp it tn/\tn 0 s2.heap/\(∀ b ∈ fp,f7 X pins H' b)/\R J H'
def PI(X:Cx)(tg iter:Expr)(wi:TI):Prop :=
 ∀ (pins:List (Addr×Obj)) (s:W2) (σ:St) (H:Hp) (R:It->Hp->Prop),Inv X pins σ H s->wi σ H R ->
  W5 (model X.prog X.w) X.A (eval iter X.env) (λv s1=>W5 (model X.prog X.w) X.A (pyIter v) (AG X pins σ tg R) X.xe s1) X.xe s
theorem sC(ho:s.heap.get? it=some o)(hc:o.cls = .type n)(hd:o.data = .fields vs)
  (hn:["enumerate","zip","dict_itemiterator","dict_reverseitemiterator","odict_iterator","itertools.zip_longest","itertools.pairwise"].contains n=false) (hQ:Q () s):W5 M A (letOwnedTupleGo tg (.ref it) u) Q E s:=by
 unfold letOwnedTupleGo
 cases tg <;> first
  | exact W1 hQ
  | (cases u <;> first
    | exact W1 hQ
    | (refine W0 (wpAny_load ho ?_); rw[hc,hd]; show W5 M A (if (["enumerate","zip","dict_itemiterator","dict_reverseitemiterator","odict_iterator","itertools.zip_longest","itertools.pairwise"].contains n && vs[0]? == some (QQ _))=true then _ else _) Q E s; rw[if_neg (by intro h; rw[hn,Bool.false_and] at h; cases h)]; exact W1 hQ))
def vL(K:W4)(a:Addr):It :=
 ⟨λi H=>∃ xs x,cA K H a xs/\xs[i]? = some x,λi H x H'=>H'=H/\∀ xs,cA K H a xs->xs[i]? = some x,λi H=>∃ xs,cA K H a xs/\xs.length<=i⟩
def sD(K:W4)(a:Addr):It :=
 ⟨λi H=>∃ xs x,bT K H a xs/\xs[i]? = some x,λi H x H'=>H'=H/\∀ xs,bT K H a xs->xs[i]? = some x,λi H=>∃ xs,bT K H a xs/\xs.length<=i⟩
def sE(lo:Int)(n:Nat):It:=⟨λi _=>i < n,λi H x H'=>H'=H/\x = .int (lo + i),λi _=>n<=i⟩
theorem Mc{P:Wk}{w:Wn}{K:W4}{tg:Expr}(a it:Addr):Turn P w K tg (vL K a) [it] it (λi h=>h.IsListIter it a i) where
 mem:=by simp
 obj:=λi h st b hb=>by
  have e:b=it:=by simpa using hb
  subst e;obtain⟨o,e,c,d⟩:=st;exact⟨o,e,λv z=>by rw[d] at z; cases z⟩
 keep:=λi h h' st k=>st.at λo e=>k it U' o e
 item:=by
  intro X hP hw hK hc i pins s σ H E I hf st hg;subst hP hw hK;obtain⟨xs,x,hq,hx⟩:=hg;obtain⟨ag,rv,p,hz⟩:=I.list hq;obtain⟨u,hu,ru⟩:=rv.get hx;obtain⟨f0,f1,f2,f3,f4,f5⟩:=hf it U';refine wpAny_pyNext_list_item st p.isList (x:=u) (by simpa using hu) λh' eL sb=>?_
  have I1:Inv X pins σ H { s with heap:=h' }:=I.turned (t':=s.toks) (λb o hb e=>(sb.2 b hb).trans e) f0 f1 f3 f4 f5;obtain⟨o,e,c,d⟩:=id eL;exact⟨u,rfl,sC (s:={ s with heap:=h' }) e c d Z' ⟨x,H,I1,ru,⟨rfl,λys hy=>by rw[I.Aq hy hq]; exact hx⟩,eL,λb hb=>(hf b hb).1⟩⟩
 done:=by
  intro X hP hw hK hc i pins s σ H E I hf st hg;subst hP hw hK;obtain⟨xs,hq,hx⟩:=hg;obtain⟨ag,rv,p,hz⟩:=I.list hq;obtain⟨f0,f1,f2,f3,f4,f5⟩:=hf it U';have hl:=rv.length;exact wpAny_pyNext_list_end (I.ok.hd hc) st p.isList R' λh' eb=>⟨rfl,I.turned (t':=s.toks) (λb o hb e=>eb b o hb e) f0 f1 f3 f4 f5⟩
 self:=λ_ _ _ _ _ st h=>wpAny_pyIter_listiter st h
theorem Md{P:Wk}{w:Wn}{K:W4}{tg:Expr}(a it:Addr):Turn P w K tg (sD K a) [it] it (λi h=>h.IsTupleIter it a i) where
 mem:=by simp
 obj:=λi h st b hb=>by
  have e:b=it:=by simpa using hb
  subst e;obtain⟨o,e,c,d⟩:=st;exact⟨o,e,λv z=>by rw[d] at z; cases z⟩
 keep:=λi h h' st k=>st.at λo e=>k it U' o e
 item:=by
  intro X hP hw hK hc i pins s σ H E I hf st hg;subst hP hw hK;obtain⟨xs,x,hq,hx⟩:=hg;obtain⟨ag,rv,p,hz⟩:=I.tuple hq;obtain⟨u,hu,ru⟩:=rv.get hx;obtain⟨f0,f1,f2,f3,f4,f5⟩:=hf it U';refine wpAny_pyNext_tuple_item st (show s.heap.IsTuple a ag.toArray from p) (x:=u) (by simpa using hu) λh' eL sb=>?_
  have I1:Inv X pins σ H { s with heap:=h' }:=I.turned (t':=s.toks) (λb o hb e=>(sb.2 b hb).trans e) f0 f1 f3 f4 f5;obtain⟨o,e,c,d⟩:=id eL;exact⟨u,rfl,sC (s:={ s with heap:=h' }) e c d Z' ⟨x,H,I1,ru,⟨rfl,λys hy=>by rw[I.Ar hy hq]; exact hx⟩,eL,λb hb=>(hf b hb).1⟩⟩
 done:=by
  intro X hP hw hK hc i pins s σ H E I hf st hg;subst hP hw hK;obtain⟨xs,hq,hx⟩:=hg;obtain⟨ag,rv,p,hz⟩:=I.tuple hq;obtain⟨f0,f1,f2,f3,f4,f5⟩:=hf it U';have hl:=rv.length;exact wpAny_pyNext_tuple_end (I.ok.hd hc) st (show s.heap.IsTuple a ag.toArray from p) R' λh' eb=>⟨rfl,I.turned (t':=s.toks) (λb o hb e=>eb b o hb e) f0 f1 f3 f4 f5⟩
 self:=λ_ _ _ _ _ st h=>wpAny_pyIter_tupleiter st h
theorem Me{P:Wk}{w:Wn}{K:W4}{tg:Expr}(it:Addr)(lo:Int)(n:Nat):Turn P w K tg (sE lo n) [it] it (λi h=>IsRangeIter h it (lo + (i:Nat) * 1) ((n:Int) - (i:Nat)) 1) where
 mem:=by simp
 obj:=λi h st b hb=>by
  have e:b=it:=by simpa using hb
  subst e;exact⟨_,st,λv z=>by
   have z':Data.fields _=Data.cell v:=z
   cases z'⟩
 keep:=λi h h' st k=>k it U' _ st
 item:=by
  intro X hP hw hK hc i pins s σ H E I hf st hg;subst hP hw hK;obtain⟨f0,f1,f2,f3,f4,f5⟩:=hf it U';have W:=Walks.range (prog:=X.prog) (w:=X.w) (I.ok.hd hc) it lo 1 n;refine W.item i s _ _ hg st λv h' tk hv eL kk=>?_
  obtain⟨t,rfl⟩:=hv;have I1:Inv X pins σ H { s with heap:=h',toks:=tk }:=I.turned (λb o hb e=>kk b o (by simpa using hb) e) f0 f1 f3 f4 f5;refine⟨_,rfl,sC (s:={ s with heap:=h',toks:=tk }) (n:="range_iterator") eL rfl rfl Z' ⟨.int (lo + i),H,I1,⟨t,?_⟩,⟨rfl,rfl⟩,eL,λb hb=>(hf b hb).1⟩⟩;rw[Int.mul_one]
 done:=by
  intro X hP hw hK hc i pins s σ H E I hf st hg;subst hP hw hK;obtain⟨f0,f1,f2,f3,f4,f5⟩:=hf it U';exact wpAny_pyNext_range_end (I.ok.hd hc) st (by have:n<=i:=hg; lia) λh' eb=>⟨rfl,I.turned (t':=s.toks) (λb o hb e=>eb b o hb e) f0 f1 f3 f4 f5⟩
 self:=λ_ _ _ _ _ st h=>wpAny_pyIter_rangeiter st h
section
variable {X:Cx} {tg:Expr}
theorem Mf{pins:List (Addr×Obj)}{σ:St}{H:Hp}{s:W2}{R:It->Hp->Prop}{E:Value->W2->Prop}{lo hi:Int}{t u v:Tok}{tk:Nat}(I:Inv X pins σ H s)(h1 : -(2 ^ 62)<=lo)(h2:lo < 2 ^ 62)(h3 : -(2 ^ 62)<=hi)(h4:hi < 2 ^ 62)
  (q:R (sE lo (hi - lo).toNat) H):W5 (model X.prog X.w) X.A (pyIter (.ref s.heap.objs.size)) (AG X pins σ tg R) E { s with heap:=s.heap.push { cls:=.type "range",data:=.fields #[.int lo t,.int hi u,.int 1 v] },toks:=tk }:=by
 refine wpAny_pyIter_range (IsRange.new ..) (small_one h1 h2 h3 h4) ?_;have I1:Inv X pins σ H { s with heap:=s.heap.push { cls:=.type "range",data:=.fields #[.int lo t,.int hi u,.int 1 v] },toks:=tk }:=I.kept λb o e=>W3 _ e
 refine⟨(s.heap.push { cls:=.type "range",data:=.fields #[.int lo t,.int hi u,.int 1 v] }).objs.size,[(s.heap.push { cls:=.type "range",data:=.fields #[.int lo t,.int hi u,.int 1 v] }).objs.size],_,_,H,rfl,
  I1.kept (t':=tk) λb o e=>W3 _ e,Me _ lo (hi - lo).toNat,?_,λb hb=>?_,q⟩
 ·have e1:lo + ((0:Nat):Int) * 1=lo:=by simp
  have e2:(((hi - lo).toNat:Nat):Int) - ((0:Nat):Int)=Builtin.Range.rangeSize lo hi 1:=by rw[rangeSize_one]; split <;> lia
  show IsRangeIter _ _ (lo + ((0:Nat):Int) * 1) ((((hi - lo).toNat:Nat):Int) - ((0:Nat):Int)) 1;rw[e1,e2];exact Wi _ rfl
 ·have e:b=(s.heap.push { cls:=.type "range",data:=.fields #[.int lo t,.int hi u,.int 1 v] }).objs.size:=by grind
  subst e;exact I1.iJ (Wa _) (I1.ax.fresh (Wa _))
def Mg(ta:TA):TI:=λσ H R=>ta σ H λvs H1=>∃ j:Int,vs=[.int j]/\-(2 ^ 62)<=j/\j < 2 ^ 62/\R (sE 0 j.toNat) H1
theorem Mh {a:Expr} {ta:TA} {p pos:Pos} (hg:Gl X "range") (hm:X.mg "range" = none) (ha:PA X [a] ta) (hs:Wh [a] X.env=[(false,eval a X.env)]:=by rfl):PI X tg (.Call (.Name "range" p) [a] [] pos) (Mg ta):=by
 intro pins s σ H R I h;refine Call_ (nV I hg hm boot_range (Js (aF (ha pos pins s σ H _ I h) λus s1 ⟨vs,H1,I1,r1,q1⟩=>?_) hs rfl));obtain⟨j,e,q1,q2,q⟩:=q1;subst e
 cases r1 with
 | cons r rr =>
  cases rr;obtain⟨t,rfl⟩:=r;exact call_range_1 (Mf I1 Y' Y' q1 q2 (by simpa using q))
def Mi(wi:TI)(g:TG)(tb:TS):TS:=λD σ H=>wi σ H λJ H1=>∃ W:Nat->Nat->St->Hp->Prop,(∃ m,W 0 m σ H1)/\∀ i m σ H,W i m σ H ->
 (J.stop i H/\D.nx σ H)\/(J.go i H/\∃ N:St->Hp->Prop,(∀ σ' H',N σ' H'->∃ m',m' < m/\W (i + 1) m' σ' H')/\∀ x H',J.pM i H x H'->g x σ H' λσ2 H2=>tb { D with nx:=N,ct:=N,bk:=D.nx } σ2 H2)
def pP(fp:List Addr)(h:Heap):List (Addr×Obj):=fp.filterMap λb=>(h.get? b).map λo=>(b,o)
theorem sF(hb:b ∈ fp)(e:h.get? b=some o):(b,o) ∈ pP fp h:=List.mem_filterMap.mpr ⟨b,hb,by rw[e]; rfl⟩
theorem Mj(hp:p ∈ pP fp h):p.1 ∈ fp/\h.get? p.1=some p.2:=by
 obtain⟨b,hb,e⟩:=Ur.mp hp
 cases q:h.get? b<;>grind
theorem Inv.pinned(I:Inv X pins σ H s)(hf:∀ b ∈ fp,f7 X pins H b)(ho:∀ b ∈ fp,∃ o,s.heap.get? b=some o/\∀ v,o.data≠.cell v):Inv X (pins ++ pP fp s.heap) σ H s :=
 I.Ai λp hp=>(Ja.mp hp).elim (λz=>I.pin p (Q1 _ z)) λz=>by
  obtain⟨hb,e⟩:=Mj z;obtain⟨f0,f1,f2,_⟩:=hf p.1 hb;obtain⟨o,e',d⟩:=ho p.1 hb;rw[e] at e'; cases e'
  exact⟨e,f0,f1,f2,d⟩
theorem Inv.sG(I:Inv X (pins ++ pl) σ H s):Inv X pins σ H s:=I.Ai λp hp=>I.pin p (Q1 _ (List.mem_append_left _ hp))
theorem Mk(hp:PassesOwn (model X.prog X.w) X.A X.env X.xe)(hc:X.calm=true)(hi:PI X tg iter wi)(hg:PG X tg g)(hb:dX X body tb)
  (hs:∀ x,Jz iter X.env x=pure x:=by intro _; rfl):PS X (.For tg iter body [] pos) (Mi wi g tb):=by
 intro pins s σ H D I h;refine wpAny_For (aF (hi pins s σ H _ I h) λv s1 h1=>aF h1 λsA s2 h2=>?_) hs;obtain⟨it,fp,tn,J,H2,e,I2,T,st2,f2,W,⟨m0,w0⟩,turn⟩:=h2;subst e;-- what stays true of the iterator's objects through the loop
 have vM:∀ {H':Hp},(∀ b ∈ fp,H' b=none)->∀ b ∈ fp,f7 X pins H' b:=λhn b hb=>⟨hn b hb,(f2 b hb).2⟩
 refine codeAny_forLoop_any (λn s'=>∃ i σ' H',Inv X pins σ' H' s'/\tn i s'.heap/\(∀ b ∈ fp,H' b=none)/\W i n σ' H') ?_ m0 ⟨0,σ,H2,I2,st2,λb hb=>(f2 b hb).1,w0⟩;rintro n s3 ⟨i,σ3,H3,I3,lq,fr3,w3⟩;rcases turn i n σ3 H3 w3 with ⟨stop,qn⟩ | ⟨go,N,hN,step⟩
 ·refine Jv hp (aF (T.done X rfl rfl rfl hc i pins s3 σ3 H3 X.xe I3 (vM fr3) lq stop) λr s4 ⟨hr,I4⟩=>?_);subst hr;exact wpAny_execs_nil ⟨σ3,H3,I4,qn⟩
 ·refine Jv hp (aF (T.item X rfl rfl rfl hc i pins s3 σ3 H3 X.xe I3 (vM fr3) lq go) λr s4 ⟨u,hr,h4⟩=>?_);subst hr;refine Jv hp (aF h4 λ_ s5 ⟨x,H5,I5,r5,y5,st5,fr5⟩=>?_);have Ml:=I5.pinned (vM fr5) (T.obj _ _ st5);refine Jv hp (aF (hg _ s5 σ3 H5 x u _ Ml r5 (step x H5 y5)) λ_ s6 ⟨σ6,H6,I6,q6⟩=>?_);refine Jv hp (aF (hb _ s6 σ6 H6 _ I6 q6) λf s7 q7=>?_);have again:∀ {σ7:St} {H7:Hp},Inv X (pins ++ pP fp s5.heap) σ7 H7 s7->N σ7 H7->∃ m,m < n/\∃ i σ' H',Inv X pins σ' H' s7/\tn i s7.heap/\(∀ b ∈ fp,H' b=none)/\W i m σ' H':=λ{σ7 H7} I7 n7=>by
   obtain⟨m',hm,w7⟩:=hN σ7 H7 n7;refine⟨m',hm,i + 1,σ7,H7,I7.sG,T.keep _ _ _ st5 λb hb o e=>(I7.pin (b,o) (Q1 _ (Q1 _ (sF hb e)))).1,λb hb=>?_,w7⟩;obtain⟨o,e,d⟩:=T.obj _ _ st5 b hb;exact(I7.pin (b,o) (Q1 _ (Q1 _ (sF hb e)))).2.1
  cases f with
  | next=>obtain⟨σ7,H7,I7,n7⟩:=q7; exact again I7 n7
  | cont=>obtain⟨σ7,H7,I7,n7⟩:=q7; exact again I7 n7
  | brk=>obtain⟨σ7,H7,I7,q7⟩:=q7; exact⟨σ7,H7,I7.sG,q7⟩
  | ret v=>obtain⟨x7,σ7,H7,I7,r7,q7⟩:=q7; exact⟨x7,σ7,H7,I7.sG,r7,q7⟩
end
abbrev R2:=V->V->Hp->VK->Prop
def bp(X:Cx)(f:Value->Value->Sem Value)(r:R2):Prop :=
 ∀ (pins:List (Addr×Obj)) (s:W2) (σ:St) (H:Hp) (x y:V) (v u:Value) (Q:VK),Inv X pins σ H s->RelV x v->RelV y u->r x y H Q ->
  W5 (model X.prog X.w) X.A (f v u) (EP X pins σ Q) X.xe s
def vN(X:Cx)(f:Value->Sem Value)(r:V->Hp->VK->Prop):Prop :=
 ∀ (pins:List (Addr×Obj)) (s:W2) (σ:St) (H:Hp) (x:V) (v:Value) (Q:VK),Inv X pins σ H s->RelV x v->r x H Q ->
  W5 (model X.prog X.w) X.A (f v) (EP X pins σ Q) X.xe s
def eA(X:Cx)(f:Value)(r:List V->Hp->VK->Prop):Prop :=
 ∀ (pins:List (Addr×Obj)) (s:W2) (σ:St) (H:Hp) (xs:List V) (us:List Value) (Q:VK),Inv X pins σ H s->Vals xs us->r xs H Q ->
  W5 (model X.prog X.w) X.A (call f us) (EP X pins σ Q) X.xe s
def mq(r:R2)(ta tb:TE):TE:=λσ H Q=>ta σ H λx H1=>tb σ H1 λy H2=>r x y H2 Q
def vO(r:V->Hp->VK->Prop)(ta:TE):TE:=λσ H Q=>ta σ H λx H1=>r x H1 Q
def rI(C:Int->Int->Prop)(g:Int->Int->V):R2:=λx y H Q=>∃ i j,x = .int i/\y = .int j/\C i j/\Q (g i j) H
def iK(g:Int->Int->V):R2:=λx y H Q=>∃ i j,x = .int i/\y = .int j/\Q (g i j) H
def rU(g:Int->V):V->Hp->VK->Prop:=λx H Q=>∃ i,x = .int i/\Q (g i) H
section
variable {X:Cx} {a b c:Expr} {ta tb tc:TE} {pos:Pos}
theorem vP(ha:PE X a ta)(hb:PE X b tb){pins:List (Addr×Obj)}{s:W2}{σ:St}{H:Hp}{R:V->V->Hp->Prop}(I:Inv X pins σ H s)
  (h:ta σ H λx H1=>tb σ H1 λy H2=>R x y H2) {Q:Value->W2->Prop} {f:Value->Value->Sem Value}
  (hf:∀ v u s2 x y H2,Inv X pins σ H2 s2->RelV x v->RelV y u->R x y H2->W5 (model X.prog X.w) X.A (f v u) Q X.xe s2) :
  W5 (model X.prog X.w) X.A (eval a X.env) (λv s₁=>W5 (model X.prog X.w) X.A (eval b X.env) (λu s₂=>W5 (model X.prog X.w) X.A (f v u) Q X.xe s₂) X.xe s₁) X.xe s:=by
 refine aF (ha pins s σ H _ I h) λv s1 ⟨x,H1,I1,r1,q1⟩=>?_
 refine aF (hb pins s1 σ H1 _ I1 q1) λu s2 ⟨y,H2,I2,r2,q2⟩=>?_
 exact hf v u s2 x y H2 I2 r1 r2 q2
theorem AH{op:Operator}{r:R2}(ho:bp X (QH op) r)(ha:PE X a ta)(hb:PE X b tb):PE X (.BinOp a op b pos) (mq r ta tb):=by
 intro pins s σ H Q I h;exact wpAny_BinOp (vP ha hb I h λv u s2 x y H2 I2 rx ry q=>ho pins s2 σ H2 x y v u Q I2 rx ry q)
theorem AI(ho:vN X (unaryOp op) r)(ha:PE X a ta):PE X (.UnaryOp op a pos) (vO r ta):=by
 intro pins s σ H Q I h;exact UnaryOp_ (aF (ha pins s σ H _ I h) λv s1 ⟨x,H1,I1,r1,q1⟩=>ho pins s1 σ H1 x v Q I1 r1 q1)
theorem pQ{f:Value->Value->Sem Value}{C:Int->Int->Prop}{g:Int->Int->Int}
  (rule:∀ (i j:Int) (t u:Tok) (s:W2) (Q:Value->W2->Prop) (E:Value->W2->Prop),C i j->Q (.int (g i j) s.toks) { s with toks:=s.toks + 1 }->W5 (model X.prog X.w) X.A (f (.int i t) (.int j u)) Q E s) :
  bp X f (rI C λi j=>.int (g i j)):=by
 intro pins s σ H x y v u Q I rx ry h;obtain⟨i,j,rfl,rfl,hc,q⟩:=h;obtain⟨t,rfl⟩:=rx;obtain⟨t',rfl⟩:=ry;exact rule i j t t' s _ _ hc ⟨.int (g i j),H,I.tok _,⟨_,rfl⟩,q⟩
theorem AJ{f:Value->Value->Sem Value}{g:Int->Int->Int}
  (rule:∀ (i j:Int) (t u:Tok) (s:W2) (Q:Value->W2->Prop) (E:Value->W2->Prop),Q (.int (g i j) s.toks) { s with toks:=s.toks + 1 }->W5 (model X.prog X.w) X.A (f (.int i t) (.int j u)) Q E s) :
  bp X f (iK λi j=>.int (g i j)):=by
 intro pins s σ H x y v u Q I rx ry h;obtain⟨i,j,rfl,rfl,q⟩:=h;obtain⟨t,rfl⟩:=rx;obtain⟨t',rfl⟩:=ry;exact rule i j t t' s _ _ ⟨.int (g i j),H,I.tok _,⟨_,rfl⟩,q⟩
theorem nW{f:Value->Value->Sem Value}{g:Int->Int->Bool}
  (rule:∀ (i j:Int) (t u:Tok) (s:W2) (Q:Value->W2->Prop) (E:Value->W2->Prop),Q (.bool (g i j)) s->W5 (model X.prog X.w) X.A (f (.int i t) (.int j u)) Q E s) :
  bp X f (iK λi j=>.bl (g i j)):=by
 intro pins s σ H x y v u Q I rx ry h;obtain⟨i,j,rfl,rfl,q⟩:=h;obtain⟨t,rfl⟩:=rx;obtain⟨t',rfl⟩:=ry;exact rule i j t t' s _ _ ⟨.bl (g i j),H,I,rfl,q⟩
def AK(i j:Int):Prop:=0 < j/\j < 1073741824
def AL(i j:Int):Prop:=0<=j/\j<=1000000/\i.natAbs < 2 ^ 64
def pR(i j:Int):Prop:=(-(2 ^ 64) < i/\i < 2 ^ 64)\/(-(2 ^ 64) < j/\j < 2 ^ 64)
theorem pR.ok(h:pR i j):IntMulOk i j:=by
 rcases h with ⟨h1,h2⟩ | ⟨h1,h2⟩
 ·exact .of_left (intBits_le_64 h1 h2)
 ·exact .of_right (intBits_le_64 h1 h2)
theorem Mm:bp X (QH .Add) (iK λi j=>.int (i + j)):=AJ λ_ _ _ _ _ _ _ q=>add_int q
theorem Mn:bp X (QH .Sub) (iK λi j=>.int (i - j)):=AJ λ_ _ _ _ _ _ _ q=>sub_int q
theorem Mo:bp X (QH .Mult) (rI pR λi j=>.int (i * j)):=pQ λ_ _ _ _ _ _ _ hc q=>mul_int q hc.ok
theorem AM:bp X (QH .FloorDiv) (rI AK λi j=>.int (i / j)):=pQ λi j _ _ _ _ _ hc q=>by
 have h1:(0:Int) < j:=hc.1;have h2:j < 1073741824:=hc.2;exact floordiv_int Y' (by rw[Int.fdiv_eq_ediv_of_nonneg i Y']; exact q) (.inl (PyProof.noPylong_small Y'))
theorem AN:bp X (QH .Mod) (rI (λ_ j=>0 < j) λi j=>.int (i % j)):=pQ λi j _ _ _ _ _ hc q=>by
 have h1:(0:Int) < j:=hc;exact mod_int' Y' (by rw[Int.fmod_eq_emod_of_nonneg i Y']; exact q)
theorem Mp:bp X (QH .Pow) (rI AL λi j=>.int (i ^ j.toNat)):=pQ λ_ _ _ _ _ _ _ hc q=>pow_int_small hc.1 hc.2.1 hc.2.2 q
theorem Mq{f:Value->Sem Value}{g:Int->Int}
  (rule:∀ (i:Int) (t:Tok) (s:W2) (Q:Value->W2->Prop) (E:Value->W2->Prop),Q (.int (g i) s.toks) { s with toks:=s.toks + 1 }->W5 (model X.prog X.w) X.A (f (.int i t)) Q E s) :
  vN X f (rU λi=>.int (g i)):=by
 intro pins s σ H x v Q I rx h;obtain⟨i,rfl,q⟩:=h;obtain⟨t,rfl⟩:=rx;exact rule i t s _ _ ⟨.int (g i),H,I.tok _,⟨_,rfl⟩,q⟩
theorem AO:vN X (unaryOp .USub) (rU λi=>.int (-i)):=Mq λ_ _ _ _ _ q=>neg_int q
theorem sH(I:Inv X pins σ H s)(q:Q (.bl k) H)(e:k=k'):EP X pins σ Q (.bool k') s:=by
 subst e;exact⟨.bl k,H,I,rfl,q⟩
theorem Mr:bp X (WQ .Lt) (iK λi j=>.bl (decide (i < j))):=nW λ_ _ _ _ _ _ _ q=>lt_int q
theorem Ms:bp X (WQ .LtE) (iK λi j=>.bl (decide (i<=j))):=nW λ_ _ _ _ _ _ _ q=>le_int q
theorem Mt:bp X (WQ .Gt) (iK λi j=>.bl (decide (j < i))):=nW λ_ _ _ _ _ _ _ q=>gt_int q
theorem Mu:bp X (WQ .GtE) (iK λi j=>.bl (decide (j<=i))):=nW λ_ _ _ _ _ _ _ q=>ge_int q
theorem Mv:bp X (WQ .Lt) (λx y H Q=>∃ i j,x = .str i/\y = .str j/\Q (.bl (decide (i.cps.toList < j.cps.toList))) H):=by
 intro pins s σ H x y v u Q I rx ry h;obtain⟨i,j,rfl,rfl,q⟩:=h;obtain⟨t,rfl⟩:=rx;obtain⟨t',rfl⟩:=ry;exact lt_str (sH I q rfl)
theorem Mw:bp X (WQ .In) (λx y H Q=>∃ i j,x = .str i/\y = .str j/\Q (.bl (!(JV j i 0 j.length 1).isEmpty)) H):=by
 intro pins s σ H x y v u Q I rx ry h;obtain⟨i,j,rfl,rfl,q⟩:=h;obtain⟨t,rfl⟩:=rx;obtain⟨t',rfl⟩:=ry;exact in_str (sH I q rfl)
theorem AQ:bp X (WQ .Is) (λx y H Q=>y = .ay/\Q (.bl (decide (x = .ay))) H):=by
 intro pins s σ H x y v u Q I rx ry h;obtain⟨rfl,q⟩:=h
 cases ry;refine is_none_gen (sH I q ?_)
 cases x <;> first
  | (cases rx; rfl)
  | (obtain⟨t,rfl⟩:=rx; rfl)
theorem Mx:bp X (WQ .NotIn) (λx y H Q=>∃ i j,x = .str i/\y = .str j/\Q (.bl (!(!(JV j i 0 j.length 1).isEmpty))) H):=by
 intro pins s σ H x y v u Q I rx ry h;obtain⟨i,j,rfl,rfl,q⟩:=h;obtain⟨t,rfl⟩:=rx;obtain⟨t',rfl⟩:=ry;exact notIn_str (sH I q rfl)
theorem bp.or(h:bp X f r)(h':bp X f r'):bp X f (λx y H Q=>r x y H Q\/r' x y H Q):=by
 intro pins s σ H x y v u Q I rx ry q;rcases q with q | q
 ·exact h pins s σ H x y v u Q I rx ry q
 ·exact h' pins s σ H x y v u Q I rx ry q
theorem h9(b:Expr)(h:op≠.In:=by decide)(h2:op≠.NotIn:=by decide):QO op b=false:=by
 have e1:(op == CmpOp.In)=false:=by cases op <;> first | rfl | exact absurd rfl h
 have e2:(op == CmpOp.NotIn)=false:=by cases op <;> first | rfl | exact absurd rfl h2
 cases b <;> simp[QO,e1,e2]
theorem AR{op:CmpOp}{r:R2}(ho:bp X (WQ op) r)(ha:PE X a ta)(hb:PE X b tb)(hm:QO op b=false):PE X (.Compare a [op] [b] pos) (mq r ta tb):=by
 intro pins s σ H Q I h;exact wpAny_Compare1 (vP ha hb I h λv u s2 x y H2 I2 rx ry q=>ho pins s2 σ H2 x y v u Q I2 rx ry q) hm
def My(t:TE):TT:=λσ H Q=>t σ H λx H'=>∃ k,x = .bl k/\Q k H'
theorem AS(ho:bp X (WQ op) r)(ha:PE X a ta)(hb:PE X b tb)(hm:QO op b=false):PT X (.Compare a [op] [b] pos) (My (mq r ta tb)):=by
 intro pins s σ H Q I h;refine wpAny_isTrue_Compare1 (aF (ha pins s σ H _ I h) λv s1 ⟨x,H1,I1,r1,q1⟩=>aF (hb pins s1 σ H1 _ I1 q1) λu s2 ⟨y,H2,I2,r2,q2⟩ =>
  aF (ho pins s2 σ H2 x y v u _ I2 r1 r2 q2) λc s3 ⟨z,H3,I3,r3,k,e,q3⟩=>?_) hm
 subst e
 cases r3;exact QR ⟨H3,I3,q3⟩
theorem nX:(Wb:Nat) < 2 ^ 63:=by rw[Jn]; decide
theorem Mz:bp X (QH .Add) (λx y H Q=>∃ i j,x = .str i/\y = .str j/\i.length + j.length<=Wb/\Q (.str (i ++ j)) H):=by
 intro pins s σ H x y v u Q I rx ry h;obtain⟨i,j,rfl,rfl,hz,q⟩:=h;obtain⟨t,rfl⟩:=rx;obtain⟨t',rfl⟩:=ry;exact add_str (λt' tk=>⟨.str (i ++ j),H,I.tok _,⟨_,rfl⟩,q⟩) hz
theorem h_(r:Vals [x] us):∃ u,us=[u]/\RelV x u:=by
 cases r with
 | cons r1 r2=>cases r2; exact⟨_,rfl,r1⟩
theorem AU(r:Vals [x,y] us):∃ u w',us=[u,w']/\RelV x u/\RelV y w':=by
 cases r with
 | cons r1 r2 =>
  cases r2 with
  | cons r3 r4=>cases r4; exact⟨_,_,rfl,r1,r3⟩
theorem MA (hc:X.calm=true):eA X (.builtin "max") (λxs H Q=>∃ i j,xs=[.int i,.int j]/\Q (.int (if j > i then j else i)) H):=by
 intro pins s σ H xs us Q I r h;obtain⟨i,j,rfl,q⟩:=h;obtain⟨u,w',rfl,⟨t,rfl⟩,⟨t',rfl⟩⟩:=AU r;refine max_two_ints (I.ok.hd hc) λh' tk k=>⟨_,H,I.kept k,?_,q⟩
 by_cases hj:j > i
 ·rw[if_pos hj,if_pos hj]; exact⟨_,rfl⟩
 ·rw[if_neg hj,if_neg hj]; exact⟨_,rfl⟩
theorem MB:eA X (.type "int") (λxs H Q=>(∃ i,xs=[.int i]/\Q (.int i) H)\/∃ k,xs=[.bl k]/\Q (.int (if k then 1 else 0)) H):=by
 intro pins s σ H xs us Q I r h;rcases h with ⟨i,rfl,q⟩ | ⟨k,rfl,q⟩
 ·obtain⟨u,rfl,t,rfl⟩:=h_ r;exact call_int_int ⟨.int i,H,I,⟨_,rfl⟩,q⟩
 ·obtain⟨u,rfl,r1⟩:=h_ r
  cases r1;exact call_int_bool ⟨.int (if k then 1 else 0),H,I.tok _,⟨_,rfl⟩,q⟩
end
structure vQ(h:Heap)(x dx C:Addr)(mA:Str->Option Value):Prop where
 obj:h.get? x=some (PySem.W.instObj C dx)
 ns:h.Ns1 dx mA
 ne:dx≠x
theorem MC{h:Heap}{dx:Addr}{mA:Str->Option Value}(n:h.Ns1 dx mA):∃ od,h.get? dx=some od/\∀ name,PySem.W.lookIn name od=some (mA name):=by
 obtain⟨o,es,ep,ho,hd,hk,_,hm⟩:=n;refine⟨o,ho,λname=>?_⟩;have e:=hm name;unfold nsFind findBy at e;rw[<- Array.find?_toList] at e;unfold PySem.W.lookIn;rw[hd];dsimp only;split
 ·rename_i y q;rw[q] at e;exact congrArg some e
 ·rename_i q;rw[q] at e;have a:es.toList.any (·.refKey)=false:=by
   rw[Uz];intro y hy;obtain⟨z,t,vR⟩:=hk y (Array.mem_toList_iff.mp hy);simp[DictEntry.refKey,vR]
  grind
theorem vQ.look(I:vQ h x dx C mA):∃ od,PySem.W.InstAt h x (PySem.W.instObj C dx) C (some od)/\∀ name,PySem.W.lookIn name od=some (mA name) :=
 let ⟨od,ho,hl⟩:=MC I.ns
 ⟨od,⟨I.obj,rfl,rfl,ho⟩,hl⟩
theorem dG.some_of(r:dG (some v) o):∃ u,o=some u/\RelV v u:=by
 cases o with
 | none=>exact(show False from r).elim
 | some u=>exact⟨u,rfl,r⟩
theorem dG.none_of(r:dG none o):o=none:=by
 cases o with
 | none=>rfl
 | some u=>exact(show False from r).elim
section
variable {P:Wk} {w:Wn} {H H':Hp} {h h':Heap} {a C dx:Addr} {fs Lj:List (Str×V)}
theorem MD(ax:bN P w H h)(e:H a=some (.ins C dx fs)):∃ mA,vQ h a dx C mA/\(∀ f,dG (fs.lookup f) (mA f))/\PySem.Within mA (fs.map (·.1))/\fs.length<=1000/\H dx=some (.own a):=by
 obtain⟨d,z,ne,ob,mA,n,r,q⟩:=(show bF P w H h a (.ins C dx fs) from ax a _ e)
 exact⟨mA,⟨ob,n,ne⟩,r,q,z,d⟩
end
structure vS(K:W4)(C:Addr):Prop where
 pg:PySem.W.plainGet K C Str.empty=true
 hd:PySem.W.hasDictIn K C=true
 po:PySem.W.plainOver K C=true
 sa:PySem.W.findIn K (.ref C) "__setattr__" = some (some (.builtin "object.__setattr__"))
theorem vS.get{K:W4}{C:Addr}(c:vS K C)(f:Str):PySem.W.plainGet K C f=true:=c.pg
section
variable {X:Cx} {pins:List (Addr×Obj)} {σ:St} {H:Hp} {s:W2} {A:Wr} {E:Value->W2->Prop} {Q:Value->W2->Prop} {c:Value} {b:Bool}
inductive iL (K:W4) (H:Hp):V->Value->Prop where
 | ay:iL K H .ay (.type "NoneType")
 | bl (x:Bool):iL K H (.bl x) (.type "bool")
 | int (i:Int):iL K H (.int i) (.type "int")
 | str (x:Str):iL K H (.str x) (.type "str")
 | flt (x:UInt64):iL K H (.flt x) (.type "float")
 | lst {a:Addr} {xs:List V} (e:H a=some (.lst xs)):iL K H (.ref a) (.type "list")
 | frz {a:Addr} {o:Obj} {xs:List V} (e:H a=some (.frz o (.lst xs))):iL K H (.ref a) (.type "list")
 | tup {a:Addr} {xs:List V} (e:H a=some (.tup xs)):iL K H (.ref a) (.type "tuple")
 | dK {a:Addr} {kvs:List (Key×V)} (e:H a=some (.dK kvs)):iL K H (.ref a) (.type "dict")
 | dT {a:Addr} {kvs:List (List Key×V)} (e:H a=some (.dT kvs)):iL K H (.ref a) (.type "dict")
 | ins {a C dx:Addr} {fs:List (Str×V)} (e:H a=some (.ins C dx fs)) (cl:vS K C) (ha:PySem.W.findIn K (.ref C) "__class__" = some (some (.builtin "object.__class__")))
   (hn:PySem.W.specialIn K (.builtin "object.__class__") "__get__" = some (some (.builtin "getset_descriptor.__get__"))) (sI:PySem.W.takesIn K (.builtin "object.__class__")=some true)
   (hm:PySem.W.mroIn K C (.type "object")=some true):iL K H (.ref a) (.ref C)
theorem lr(I:Inv X pins σ H s)(rx:RelV x u)(ty:iL X.K H x t)(e:Ji X.K t c=some b)(h:∀ tk,Q (.bool b) { s with toks:=tk }) :
  W5 (model X.prog X.w) A (call (.builtin "isinstance") [u,c]) Q E s:=by
 cases ty with
 | ay=>cases (show u=Value.none from rx); exact Qu PySem.W.kitx_none I.eJ True.intro e (by grind) h
 | bl y=>cases (show u=Value.bool y from rx); exact Qu PySem.W.kitx_bool I.eJ True.intro e (by grind) h
 | int i=>obtain⟨t,q⟩:=(show ∃ t,u=Value.int i t from rx); cases q; exact Qu PySem.W.kitx_int I.eJ True.intro e (by grind) h
 | str y=>obtain⟨t,q⟩:=(show ∃ t,u=Value.str y t from rx); cases q; exact Qu PySem.W.kitx_str I.eJ True.intro e (by grind) h
 | flt y=>obtain⟨t,q⟩:=(show ∃ t,u=Value.float y t from rx); cases q; exact Qu PySem.W.kitx_float I.eJ True.intro e (by grind) h
 | @lst a xs ea =>
  cases (show u=Value.ref a from rx);obtain⟨_,_,n,_,h1⟩:=(show bF X.prog X.w H s.heap a (.lst xs) from I.ax a _ ea)
  exact Qu PySem.W.kitx_list I.eJ ⟨_,h1,rfl⟩ e (by grind) h
 | @frz a ob xs ea =>
  cases (show u=Value.ref a from rx);obtain⟨_,_,_,n,_,h1⟩:=(show bF X.prog X.w H s.heap a (.frz ob (.lst xs)) from I.ax a _ ea)
  exact Qu PySem.W.kitx_list I.eJ ⟨_,h1,rfl⟩ e (by grind) h
 | @tup a xs ea =>
  cases (show u=Value.ref a from rx);obtain⟨_,_,_,p⟩:=(show bF X.prog X.w H s.heap a (.tup xs) from I.ax a _ ea)
  obtain⟨o,h1,h2,_⟩:=p.tup;exact Qu PySem.W.kitx_tuple I.eJ ⟨o,h1,h2⟩ e (by grind) h
 | @dK a kvs ea =>
  cases (show u=Value.ref a from rx);obtain⟨_,_,vs,_,p⟩:=(show bF X.prog X.w H s.heap a (.dK kvs) from I.ax a _ ea)
  obtain⟨o,es,ep,h1,h2,_⟩:=p;exact Qu PySem.W.kitx_dict I.eJ ⟨o,h1,h2.1⟩ e (by grind) h
 | @dT a kvs ea =>
  cases (show u=Value.ref a from rx);obtain⟨_,_,xs,_,o,es,ep,h1,h2,_⟩:=(show bF X.prog X.w H s.heap a (.dT kvs) from I.ax a _ ea)
  exact Qu PySem.W.kitx_dict I.eJ ⟨o,h1,h2.1⟩ e (by grind) h
 | @ins a C dx fs ea cl ha hn sI hm =>
  cases (show u=Value.ref a from rx);obtain⟨mA,O,_⟩:=MD I.ax ea;obtain⟨od,J,_⟩:=O.look;exact Qu (PySem.W.kitx_own (cl.get _) cl.hd ha hn sI hm) I.eJ J e (by grind) h
end
structure bY(k:Nat)(A:Wr):Prop where
 hd:A.handled=none
 dp:A.depth + 3 * k + 5 < recursionLimit
 un:A.units + 16 * k + 200 < WZ
theorem bY.mono(r:bY k A)(h:j<=k):bY j A:=⟨r.hd,by have:=r.dp; lia,by have:=r.un; lia⟩
theorem bY.deeper(r:bY (k + 1) A)(env:Env):bY k (A.deeper env) :=
 ⟨r.hd,by have:=r.dp; show A.depth + 1 + 3 * k + 5 < _; lia,by have:=r.un; show A.units + 3 + 16 * k + 200 < _; lia⟩
theorem bY.depth(r:bY k A):A.depth < recursionLimit:=by have:=r.dp; lia
def AV:TA:=λ_ H Q=>Q [] H
def AW(ta:TE)(tr:TA):TA:=λσ H Q=>ta σ H λx H1=>tr σ H1 λxs H2=>Q (x :: xs) H2
section
variable {X:Cx} {e:Expr} {es:List Expr} {te:TE} {t:TA} {pos:Pos}
theorem gz:PA X [] AV:=λ_ _ _ _ H Q I h=>Calls.spliced_nil ⟨[],H,I,.nil,h⟩
theorem fw(ha:PE X e te)(hr:PA X es t)(hs:Wh (e :: es) X.env=(false,eval e X.env) :: Wh es X.env:=by rfl):PA X (e :: es) (AW te t):=by
 intro pos pins s σ H Q I h;rw[hs];show W5 _ _ (spliced ((false,eval e X.env) :: Qi pos (Wh es X.env))) _ _ s;refine Calls.spliced_cons (aF (ha pins s σ H _ I h) λu s1 ⟨x,H1,I1,r1,q1⟩=>?_);exact aF (hr pos pins s1 σ H1 _ I1 q1) λus s2 ⟨xs,H2,I2,r2,q2⟩=>⟨x :: xs,H2,I2,.cons r1 r2,q2⟩
def ME(t:TA):TE:=λσ H Q=>t σ H λxs H1=>xs.length<=Wb/\∀ p,H1 p=none->Q (.ref p) (upd H1 p (.tup xs))
def MF(t:TA):TE:=λσ H Q=>t σ H λxs H1=>xs.length<=Wb/\∀ p,H1 p=none->Q (.ref p) (upd H1 p (.lst xs))
theorem MG{x1}(h:PA X es t):PE X (.Tuple es x1 pos) (ME t):=by
 intro pins s σ H Q I hq;refine wpAny_Tuple_spliced (aF (h pos pins s σ H _ I hq) λus s1 ⟨xs,H1,I1,r,z,q⟩=>⟨by rw[<- r.length]; exact z,?_⟩);have hf:H1 s1.heap.objs.size=none:=I1.ax.fresh (Wa _);refine⟨.ref s1.heap.objs.size,upd H1 s1.heap.objs.size (.tup xs),I1.laid (t':=s1.toks) (λb u e=>W3 _ e) (Wa _) ?_,rfl,q _ hf⟩;exact⟨z,us,r,⟨_,Wi _ rfl⟩⟩
theorem MH(h:PA X es t):PE X (.List es pos) (MF t):=by
 intro pins s σ H Q I hq;refine wpAny_List_spliced (aF (h pos pins s σ H _ I hq) λus s1 ⟨xs,H1,I1,r,z,q⟩=>⟨by rw[<- r.length]; exact z,?_⟩);have hf:H1 s1.heap.objs.size=none:=I1.ax.fresh (Wa _);refine⟨.ref s1.heap.objs.size,upd H1 s1.heap.objs.size (.lst xs),I1.laid (t':=s1.toks) (λb u e=>W3 _ e) (Wa _) ?_,rfl,q _ hf⟩;exact⟨z,us,0,r,Wi _ rfl⟩
end
abbrev Sp:=List V->Hp->VK->XK->Prop
abbrev ki:=List Env->Hp->W2->XK->Value->W2->Prop
structure pT(P:Wk)(w:Wn)(K:W4)(mg:Str->Option Value)(base:Heap)(A:Wr)(outer:List Env)(s:W2)(H:Hp):Prop where
 frames:A.frames=some outer
 mod:Mod K mg base
 bs:∀ b o,base.get? b=some o->s.heap.get? b=some o/\H b=none
 kh:base.objs.size<=s.heap.objs.size
 hU:s.heap.FunFrames base outer
 ml:∀ b ∈ fY outer,H b=none
 ax:bN P w H s.heap
 bare:AllBare s.gens
def CE(outer:List Env)(P:Wk)(w:Wn)(H:Hp)(s:W2)(Q:VK)(u:Value)(s':W2):Prop :=
 ∃ v H',s'.os=s.os/\AllBare s'.gens/\Un (fY outer) [] H H' s.heap s'.heap/\bN P w H' s'.heap/\RelV v u/\Q v H'
def CR(CX:ki)(outer:List Env)(P:Wk)(w:Wn)(H:Hp)(s:W2)(Q:VK)(E:XK)(r:Result)(s':W2):Prop :=
 match r with
 | .ok (.ret u)=>CE outer P w H s Q u s'
 | .ok _=>False
 | .error e=>CX outer H s E e s'
structure iM(P:Wk)(w:Wn)(K:W4)(mg:Str->Option Value)(base:Heap)(CX:ki)(k:Nat)(f:Addr)(fd:Q7)(ps:List Str)(sp:Sp):Prop where
 len:∀ vs H Q E,sp vs H Q E->vs.length=ps.length
 run:∀ (A:Wr) (outer:List Env) (s:W2) (H:Hp) (args:Args) (us:List Value) (vs:List V) (Q:VK) (E:XK),bY k A->pT P w K mg base A outer s H->BindsTo s fd args (ps.zip us)->Vals vs us->sp vs H Q E ->
  QK (model P w) A (.call (.ref f) args) (CR CX outer P w H s Q E) s
section
variable {X:Cx} {pins:List (Addr×Obj)} {σ:St} {H:Hp} {s s':W2}
theorem Inv.vT(I:Inv X pins σ H s):pT X.prog X.w X.K X.mg X.base X.A X.stack s H :=
 ⟨I.ok.frames,I.ok.mod,I.bs,Qe I.ok.kh I.sz,I.stack,I.Ag,I.ax,I.bare⟩
theorem Inv.after(I:Inv X pins σ H s)(h:CE X.stack X.prog X.w H s Q u s'):EP X pins σ Q u s':=by
 obtain⟨v,H',os,bare,un,ax,r,q⟩:=h;obtain⟨hh,g,d,t,os'⟩:=s';obtain rfl:os'=s.os:=os;exact⟨v,H',I.call (h':=hh) (g':=g) (d':=d) (t':=t) (ch:=[]) un ax bare (λb z=>absurd z U'),r,q⟩
end
def AX(sp:Sp)(lu:List V)(E:XK)(t:TA):TE:=λσ H Q=>t σ H λvs H1=>sp (vs ++ lu) H1 Q E
def Binds(K:W4)(fd:Q7)(ps:List Str)(ds:List Value):Prop :=
 ∀ (s:W2) (us:List Value),K.In s.heap->(us ++ ds).length=ps.length->BindsTo s fd ⟨us,[]⟩ (ps.zip (us ++ ds))
theorem Binds.all{K:W4}{fd:Q7}{ps:List Str}(h:∀ us:List Value,us.length=ps.length->bindArgs fd ⟨us,[]⟩=pure (ps.zip us)):Binds K fd ps []:=λs us _ hl=>by
 rw[Qb] at hl ⊢;exact .of_eq (h us hl)
def vU(CX:ki)(X:Cx)(E:XK):Prop:=∀ (pins:List (Addr×Obj)) (σ:St) (H:Hp) (s:W2) (e:Value) (s':W2),Inv X pins σ H s->CX X.stack H s E e s'->X.xe e s'
section
variable {X:Cx} {CX:ki} {k:Nat} {f C:Addr} {fd:Q7} {ps:List Str} {sp:Sp} {lu:List V} {ds:List Value} {E:XK} {x m:Str} {p pos apos:Pos} {e o:Expr} {es:List Expr} {ta:TE} {t:TA}
theorem MI(F:iM X.prog X.w X.K X.mg X.base CX k f fd ps sp)(hr:bY k X.A)(hb:Binds X.K fd ps ds)(hd:Vals lu ds)(hx:vU CX X E)
  (I:Inv X pins σ H s) (r:Vals vs us) (h:sp (vs ++ lu) H Q E):W5 (model X.prog X.w) X.A (call (.ref f) us) (EP X pins σ Q) X.xe s:=by
 have r2:Vals (vs ++ lu) (us ++ ds):=r.append hd;have hl:(us ++ ds).length=ps.length:=by rw[<- r2.length]; exact F.len _ _ _ _ h
 refine wpAny_call (JJ (F.run X.A X.stack s H ⟨us,[]⟩ (us ++ ds) (vs ++ lu) Q E hr I.vT (hb s us I.eJ hl) r2 h) λr s' hq=>?_)
 cases r with
 | error e=>exact hx pins σ H s e s' I hq
 | ok fl =>
  cases fl with
  | ret u=>exact I.after hq
  | next=>exact False.elim hq
  | brk=>exact False.elim hq
  | cont=>exact False.elim hq
theorem AY(F:iM X.prog X.w X.K X.mg X.base CX k f fd ps sp)(hr:bY k X.A)(hg:Gl X x)(hm:X.mg x=some (.ref f))(hk:JI X.K (.ref f)=true)(hb:Binds X.K fd ps ds)(hd:Vals lu ds)(hx:vU CX X E)
  (ha:PA X (e :: es) t) (gC:(x == ("__debug__" : Str))=false:=by decide) (he:Wh (e :: es) X.env=(false,eval e X.env) :: Wh es X.env:=by rfl) (dY:(Qi pos (Wh es X.env)).any (·.1)=false:=by rfl) :
  PE X (.Call (.Name x p) (e :: es) [] pos) (AX sp lu E t):=by
 intro pins s σ H Q I h;refine U0 (vI I hg hm ?_ gC);refine PySem.W.callWith_K (h₀:=X.base) I.ok.mod.pH hk (aF (ha pos pins s σ H _ I h) λus s1 ⟨vs,H1,I1,r,q⟩=>⟨I1.eJ,?_⟩) he dY;exact MI F hr hb hd hx I1 r q
end
def PK(X:Cx)(AZ:List Keyword)(t:TA):Prop :=
 ∀ (pos:Pos) (pins:List (Addr×Obj)) (s:W2) (σ:St) (H:Hp) (Q:List V->Hp->Prop),Inv X pins σ H s->t σ H Q->W5 (model X.prog X.w) X.A (evalAll ((Uf pos (Jo AZ X.env)).map (·.2))) (AP X pins σ Q) X.xe s
structure f_(N P:List Str)(sc:Scope):Prop where
 kind:sc.kind = .function
 co:sc.isCoroutine=false
 gen:sc.isGenerator=false
 nd:N.Nodup
 pre:N.take P.length=P
 par:∀ x ∈ P,sc.names.lookup x=some .local\/sc.names.lookup x=some .cell
 vV:∀ y ∈ sc.names,y.2≠.free
theorem scc{N P:List Str}{sc:Scope}(kind:sc.kind = .function:=by rfl)(co:sc.isCoroutine=false:=by rfl)(gen:sc.isGenerator=false:=by rfl)(nd:N.Nodup:=by decide +kernel)(pre:N.take P.length=P:=by rfl)(par:∀ x ∈ P,sc.names.lookup x=some .local\/sc.names.lookup x=some .cell:=by decide +kernel)(vV:∀ y ∈ sc.names,y.2≠.free:=by decide +kernel):f_ N P sc:=⟨kind,co,gen,nd,pre,par,vV⟩
theorem A0{kindOf:Str->Option NameKind}{x:Str}:∀ {binds:List (Str×Value)} {m:Str->Option Value},(∀ v,(x,v) ∉ binds)->bindL kindOf binds m x=m x
 | [],_,_=>rfl
 | (n,v) :: r,m,h=>by
  unfold bindL;rw[A0 λw hw=>h w (W9 _ hw)];split;all_goals grind
theorem A1{kindOf:Str->Option NameKind}{x:Str}:∀ {binds:List (Str×Value)} {m:Str->Option Value},(∀ v,(x,v) ∉ binds)->bindC kindOf binds m x=m x
 | [],_,_=>rfl
 | (n,v) :: r,m,h=>by
  unfold bindC;rw[A1 λw hw=>h w (W9 _ hw)];split;all_goals grind
theorem A2{kindOf:Str->Option NameKind}{x:Str}{v:Value}:∀ {P:List Str} {vs:List Value} {i:Nat} {m:Str->Option Value},P.Nodup->P[i]? = some x->vs[i]? = some v->kindOf x=some .local ->
  bindL kindOf (P.zip vs) m x=some v
 | [],_,_,_,_,h,_,_=>by simp at h
 | _ :: _,[],_,_,_,_,h,_=>by simp at h
 | p :: P,w :: vs,0,m,nd,h1,h2,hk=>by
  simp at h1 h2; subst h1; subst h2
  show bindL kindOf ((p,w) :: P.zip vs) m p=_;unfold bindL;rw[A0 λv hv=>(WI.mp nd).1 (UK hv).1,if_pos hk];simp
 | p :: P,w :: vs,i + 1,m,nd,h1,h2,hk=>by
  show bindL kindOf ((p,w) :: P.zip vs) m x=_;unfold bindL;exact A2 (i:=i) (WI.mp nd).2 (by simpa using h1) (by simpa using h2) hk
theorem A3{kindOf:Str->Option NameKind}{x:Str}{v:Value}:∀ {P:List Str} {vs:List Value} {i:Nat} {m:Str->Option Value},P.Nodup->P[i]? = some x->vs[i]? = some v->kindOf x≠some .local ->
  bindC kindOf (P.zip vs) m x=some v
 | [],_,_,_,_,h,_,_=>by simp at h
 | _ :: _,[],_,_,_,_,h,_=>by simp at h
 | p :: P,w :: vs,0,m,nd,h1,h2,hk=>by
  simp at h1 h2; subst h1; subst h2
  show bindC kindOf ((p,w) :: P.zip vs) m p=_;unfold bindC;rw[A1 λv hv=>(WI.mp nd).1 (UK hv).1,if_neg hk];simp
 | p :: P,w :: vs,i + 1,m,nd,h1,h2,hk=>by
  show bindC kindOf ((p,w) :: P.zip vs) m x=_;unfold bindC;exact A3 (i:=i) (WI.mp nd).2 (by simpa using h1) (by simpa using h2) hk
def fP(N:List Str)(vs:List V):St:=vs.map some ++ Wm (N.length - vs.length) none
def fz(CX:ki)(P:Wk)(w:Wn)(K:W4)(mg:Str->Option Value)(base:Heap)(N:List Str)(qual:Str)(scope:Scope)(f:Addr)(cd:Value)(A:Wr)(outer:List Env)(s:W2)(H:Hp)(E:XK):Cx where
 prog:=P
 w:=w
 K:=K
 mg:=mg
 base:=base
 A:=A.deeper (JA qual scope s.heap.objs.size f cd)
 N:=N
 s₀:=s
 H₀:=H
 env:=JA qual scope s.heap.objs.size f cd
 outer:=outer
 stack:=JA qual scope s.heap.objs.size f cd :: outer
 ex:=[]
 calm:=true
 fn:=λ_=>true
 pn:=[]
 xe:=λe s'=>W5 (model P w) (A.deeper (JA qual scope s.heap.objs.size f cd)) (leaving (JA qual scope s.heap.objs.size f cd) e) (λ_ mr=>CX outer H s E e mr) (λe' mr=>CX outer H s E e' mr) s'
theorem A4{sc:Scope}{n:Nat}{x:Str}(h:sc.names.lookup x=some .cell):∃ c,(QT n sc.names []).lookup x=some c:=by
 have q:=U5 sc.names n [] (.inl h);exact Option.isSome_iff_exists.mp q
theorem A5{CX:ki}{P:Wk}{w:Wn}{K:W4}{mg:Str->Option Value}{base:Heap}{N ps:List Str}{qual:Str}{scope:Scope}{f:Addr}{cd:Value}{A:Wr}{outer:List Env}{s s1:W2}{H:Hp}{E:XK}{us:List Value}{vs:List V}
  (S:f_ N ps scope) (hd:A.handled=none) (e0:pT P w K mg base A outer s H) (hl:vs.length=ps.length) (r:Vals vs us)
  (x:InCallC s s.heap.objs.size (bindL (JA qual scope s.heap.objs.size f cd).kindOf (ps.zip us) λ_=>none) (QT (s.heap.objs.size + 1) scope.names []) (bindC (JA qual scope s.heap.objs.size f cd).kindOf (ps.zip us) λ_=>none) s1) :
  Inv (fz CX P w K mg base N qual scope f cd A outer s H E) [] (fP N vs) H s1:=by
 have dY:ps.length<=N.length:=by have:=congrArg QP S.pre; rw[Ug] at this; lia
 obtain⟨h1,tk,rfl,hk⟩:=x.done;have kj:∀ b:Addr,b ∉ (fz CX P w K mg base N qual scope f cd A outer s H E).ex:=λb z=>absurd (show b ∈ ([]:List Addr) from z) U'
 refine⟨⟨e0.mod,S.kind,rfl,rfl,Wa _,λy z c h1 h2=>?_,λy hy=>?_,λy c _ h=>?_,λ_=>hd,Around.frames_deeper e0.frames,.inr ⟨rfl,rfl⟩,λb z=>absurd z (kj b),e0.bs,e0.kh,λb _ _=>kj b,λb z=>absurd z (kj b),e0.hU,e0.ml⟩,
  rfl,e0.bare,Un.kept hk,⟨_,x.toInCall.ns,λi y v h1 h2 h3=>?_⟩,λy c h=>⟨_,x.cell y c h⟩,e0.ax.fresh (Wa _),λy c h=>?_,λp hp=>absurd (show p ∈ ([]:List (Addr×Obj)) from hp) U',e0.ax.kept hk,?_⟩
 ·exact name_of_addr x.apart (WB h1) (WB h2)
 ·have hy:scope.names.lookup y=some .cell\/scope.names.lookup y=some .free:=hy;rcases hy with hy | hy
  ·exact A4 hy
  ·exact absurd rfl (S.vV _ (WB hy))
 ·exact J9 (x.above y c (WB h))
 ·have hi:i < vs.length:=by
   unfold fP at h2;by_cases hi:i < vs.length
   ·exact hi
   ·rw[List.getElem?_append_right (by simpa using hi)] at h2;rw[List.getElem?_replicate] at h2;split at h2 <;> cases h2
  have ha:vs[i]? = some v:=by
   unfold fP at h2;rw[List.getElem?_append_left (by simpa using hi),Wp] at h2
   cases e:vs[i]? with
   | none=>rw[e] at h2; cases h2
   | some a=>rw[e] at h2; cases h2; rfl
  obtain⟨u,hu,rv⟩:=r.get ha;have hp:ps[i]? = some y:=by
   rw[<- S.pre,List.getElem?_take_of_lt Y']; exact h1
  have A6:ps.Nodup:=by rw[<- S.pre]; exact S.nd.sublist (List.take_sublist _ _)
  refine⟨u,rv,?_⟩;rcases S.par y (Q4 hp) with k | k
  ·exact .inl ⟨k,A2 A6 hp hu k⟩
  ·obtain⟨c,e⟩:=A4 (n:=s.heap.objs.size + 1) k;refine .inr ⟨.inl k,c,e,?_⟩;have q:=x.cell y c e;rw[A3 A6 hp hu (by show scope.names.lookup y≠_; rw[k]; decide)] at q;exact q
 ·exact e0.ax.fresh (J9 (x.above y c (WB h)))
 ·unfold fP;show _=N.length;rw[WT,Wx,List.length_replicate];lia
theorem A7{CX:ki}{P:Wk}{w:Wn}{K:W4}{mg:Str->Option Value}{base:Heap}{k:Nat}{f:Addr}{name qual:Str}{params:Arguments}{body:List Stmt}{scope:Scope}{dV kV doc pm aN ct oc:Value}{an od:Option Addr}
  {eB:Array (Option Value)} {N ps:List Str} {sp:Sp} (lk:K.lookup f=some ⟨oc,od,.func (Qf name qual params body scope dV kV doc pm an aN ct),eB⟩) (gy:PySem.W.codeIn K aN qual=true) (S:f_ N ps scope)
  (len:∀ vs H Q E,sp vs H Q E->vs.length=ps.length)
  (dJ:∀ (A:Wr) (outer:List Env) (s:W2) (H:Hp) (vs:List V) (Q:VK) (E:XK),bY k (A.deeper (JA qual scope s.heap.objs.size f aN))->sp vs H Q E ->
   ∃ t,dX (fz CX P w K mg base N qual scope f aN A outer s H E) body t/\t { nx:=λ_ H'=>Q .ay H',rt:=Q } (fP N vs) H) :
  iM P w K mg base CX (k + 1) f (Qf name qual params body scope dV kV doc pm an aN ct) ps sp:=by
 refine⟨len,λA outer s H args us vs Q E hr e0 hb r mw=>?_⟩;have hl:=len _ _ _ _ mw;have KX:K.In s.heap:=e0.mod.pH.keeps λb o e=>(e0.bs b o e).1
 have lim:s.heap.NoLimit:=e0.mod.nolimit.keeps λb o e=>(e0.bs b o e).1
 have vW:∀ y ∈ ps.zip us,scope.names.lookup y.1=some .local\/(scope.names.lookup y.1=some .cell/\((QT (s.heap.objs.size + 1) scope.names []).lookup y.1).isSome=true):=λ⟨n,v⟩ hy=>by
  rcases S.par n (UK hy).1 with q | q
  ·exact .inl q
  ·exact .inr ⟨q,U5 _ _ _ (.inl q)⟩
 refine codeAny_call_function hr.depth (KX _ _ lk) rfl S.co S.gen rfl (PySem.W.codeRec_of KX gy) (hb _ _ _ _ ?_);refine wpAny_newFunctionEnv_cells S.kind vW λenv he s1 x=>?_
 subst he;refine⟨lim.keeps x.toInCall.keep,codeAny_func ?_⟩;obtain⟨t,ht,hq⟩:=dJ A outer s H vs Q E (hr.deeper _) mw;have I:Inv (fz CX P w K mg base N qual scope f aN A outer s H E) [] (fP N vs) H s1:=A5 S hr.hd e0 hl r x;refine WV (ht [] s1 (fP N vs) H _ I hq) (λfl s' hs=>?_) λe s' hs=>hs
 have fin:∀ {σ':St} {H':Hp} {v:V} {u:Value},Inv (fz CX P w K mg base N qual scope f aN A outer s H E) [] σ' H' s'->RelV v u->Q v H'->CE outer P w H s Q u s' :=
  λ{σ' H' v u} J rv q=>⟨v,H',J.os,J.bare,J.base,J.ax,rv,q⟩
 cases fl with
 | ret u =>
  obtain⟨v,σ',H',J,rv,q⟩:=hs;exact fin J rv q
 | next =>
  obtain⟨σ',H',J,q⟩:=hs;exact fin (v:=V.ay) (u:=Value.none) J rfl q
 | brk =>
  obtain⟨_,_,_,q⟩:=hs;exact False.elim q
 | cont =>
  obtain⟨_,_,_,q⟩:=hs;exact False.elim q
section
variable {X:Cx} {x:Str} {p pos:Pos} {e:Expr} {es:List Expr} {t:TA} {id T:String} {r:List V->Hp->VK->Prop}
def A8(r:List V->Hp->VK->Prop)(t:TA):TE:=λσ H Q=>t σ H λvs H1=>r vs H1 Q
theorem sJ (hc:eA X (.builtin id) r) (hg:Gl X x) (hm:X.mg x=none) (hv:QW x=some (.builtin id)) (ha:PA X (e :: es) t) (hn:x≠"__name__":=by decide) (gC:(x == ("__debug__" : Str))=false:=by decide)
  (he:Wh (e :: es) X.env=(false,eval e X.env) :: Wh es X.env:=by rfl) (dY:(Qi pos (Wh es X.env)).any (·.1)=false:=by rfl):PE X (.Call (.Name x p) (e :: es) [] pos) (A8 r t):=by
 intro pins s σ H Q I h;refine U0 (nV I hg hm hv ?_ hn gC);exact PyProof.Rows.callWith_builtin1 (aF (ha pos pins s σ H _ I h) λus s1 ⟨vs,H1,I1,r1,q1⟩=>hc pins s1 σ H1 vs us Q I1 r1 q1) he dY
theorem A9 (hc:eA X (.type T) r) (hg:Gl X x) (hm:X.mg x=none) (hv:QW x=some (.type T)) (ha:PA X (e :: es) t) (hn:x≠"__name__":=by decide) (gC:(x == ("__debug__" : Str))=false:=by decide)
  (he:Wh (e :: es) X.env=(false,eval e X.env) :: Wh es X.env:=by rfl) (dY:(Qi pos (Wh es X.env)).any (·.1)=false:=by rfl):PE X (.Call (.Name x p) (e :: es) [] pos) (A8 r t):=by
 intro pins s σ H Q I h;refine U0 (nV I hg hm hv ?_ hn gC);exact Js (aF (ha pos pins s σ H _ I h) λus s1 ⟨vs,H1,I1,r1,q1⟩=>hc pins s1 σ H1 vs us Q I1 r1 q1) he dY
end
end L2
namespace HT
open PySem PyProof.Rows
section
variable {prog:Wk} {w:Wn} {A:Wr} {E:Value->W2->Prop} {s:W2}
theorem MJ(ht:IsTup s.heap t vs.toArray)(hb:IsTup s.heap b ws.toArray)(hv:vs≠[])
  (h1:ws=[]->Q (.ref t) s) (h2:ws≠[]->Q (.ref s.heap.objs.size) { s with heap:=s.heap.push { cls:=.type "tuple",data:=.seq (vs ++ ws).toArray } })
  (hsz:vs.length + ws.length<=Wb):W5 (model prog w) A (QH .Add (.ref t) (.ref b)) Q E s:=by
 obtain⟨⟨cls,dd,data,sl⟩,ho,hc,n,hd⟩:=id ht;obtain⟨⟨cls2,km,data2,jM⟩,ho2,hc2,n2,hd2⟩:=id hb;simp only at hc hd hc2 hd2;subst hc hd hc2 hd2;have e:vs.toArray ++ ws.toArray=(vs ++ ws).toArray:=by simp
 by_cases hw:ws=[]
 ·exact concat_meets ⟨_,ho,rfl⟩ ⟨_,ho2,rfl⟩ noFill_tuple_add seq_tuple_add PySem.F.slot_tuple_add PySem.F.entry_tuple_add (PySem.F.args_tuple_add_2 _ _)
   (tuple_addW1 t b vs.toArray ws.toArray n n2 dd km sl jM (by simpa using hv) (by simp[hw])) ⟨ho,ho2,h1 hw⟩
 ·refine concat_meets ⟨_,ho,rfl⟩ ⟨_,ho2,rfl⟩ noFill_tuple_add seq_tuple_add PySem.F.slot_tuple_add PySem.F.entry_tuple_add (PySem.F.args_tuple_add_2 _ _)
   (tuple_addW2 t b vs.toArray ws.toArray n n2 dd km sl jM (by simpa using hv) (by simpa using hw) (by rw[Ws,Ws]; exact hsz)) ⟨ho,ho2,?_⟩
  rw[e];exact h2 hw
def aQ(n d:Nat):Option Int->Nat
 | none=>d
 | some v=>if v < 0 then(v + (n:Int)).toNat else min v.toNat n
theorem vX(n d:Nat)(hd:d<=n)(o:Option Int):aQ n d o<=n:=by
 cases o with
 | none=>exact hd
 | some v =>
  show(if v < 0 then(v + (n:Int)).toNat else min v.toNat n)<=n;by_cases hv:v < 0
  ·rw[if_pos hv]; lia
  ·rw[if_neg hv]; exact Nat.min_le_right _ _
theorem A_(v:Int)(n d:Nat):(if v < 0 then max (v + (n:Int)) 0 else min v (n:Int))=((aQ n d (some v):Nat):Int):=by
 show(if v < 0 then max (v + (n:Int)) 0 else min v (n:Int))=(((if v < 0 then(v + (n:Int)).toNat else min v.toNat n):Nat):Int);by_cases hv:v < 0
 ·simp only[if_pos hv]; lia
 ·simp only[if_neg hv]; lia
theorem MK(lo hi:Option Int)(n:Nat):QI lo hi 1 (n:Int)=(((aQ n 0 lo:Nat):Int),((aQ n n hi:Nat):Int)):=by
 have h1:¬ ((1:Int) < 0):=by lia
 unfold QI;simp only[h1,if_false];refine Prod.ext ?_ ?_
 ·cases lo with
  | none=>rfl
  | some v=>exact A_ v n 0
 ·cases hi with
  | none=>rfl
  | some v=>exact A_ v n n
theorem ML(i j:Nat):Q9 (i:Int) (j:Int) 1=j - i:=by
 unfold Q9;have h1:(1:Int) > 0:=by lia
 simp only[h1,if_true,Int.ediv_one];split <;> lia
theorem Ba(p:IsPart v o)(h:Q o s):W5 (model prog w) A (Builtin.Slice.slicePartIndex v) Q E s:=by
 cases p with
 | none=>exact slicePart_none h
 | int i t=>exact slicePart_int h
theorem Bb{sl:Addr}{vl vu:Value}{lo hi:Option Int}{n:Nat}{Q:Int×Int×Nat->W2->Prop}(hs:s.heap.IsSliceOf sl vl vu .none)(pl:IsPart vl lo)(pu:IsPart vu hi)
  (h:Q (((aQ n 0 lo:Nat):Int),1,aQ n n hi - aQ n 0 lo) s):W5 (model prog w) A (Jw (.ref sl) (pure (n:Int))) Q E s:=by
 obtain⟨os,hos,hcs,je⟩:=id hs;unfold Jw Builtin.Slice.sliceFields;refine W0 (W0 (QD hos je (x:=vl) rfl (W0 (QD hos je (x:=vu) rfl (W0 (QD hos je (x:=.none) rfl (W1 ?_)))))));refine W0 (slicePart_none ?_);show W5 _ _ (if ((1:Int) == 0)=true then _ else _) _ _ s;rw[if_neg Z'];refine W0 (Ba pl (W0 (Ba pu (W0 (W1 ?_)))));show W5 _ _ (match QI lo hi 1 (n:Int) with | (lo,hi)=>pure (lo,(1:Int),Q9 lo hi 1)) _ _ s;rw[MK lo hi n];show W5 _ _ (pure (((aQ n 0 lo:Nat):Int),(1:Int),Q9 ((aQ n 0 lo:Nat):Int) ((aQ n n hi:Nat):Int) 1)) _ _ s;rw[ML];exact W1 h
theorem MN(xs:Array Value)(i k:Nat):((Wd k).filterMap λ(m:Nat)=>xs[((i:Int) + (m:Int) * 1).toNat]?).toArray=((xs.toList.drop i).take k).toArray:=by
 have e:(λ(m:Nat)=>xs[((i:Int) + (m:Int) * 1).toNat]?)=λm=>xs[i + m]?:=by
  funext m
  have:((i:Int) + (m:Int) * 1).toNat=i + m:=by lia
  rw[this]
 rw[e];have:=pick_run xs i k;rw[List.filterMap_map] at this;have e2:((λx=>xs[x]?) ∘ λx=>i + x)=λm=>xs[i + m]?:=rfl
 rw[e2] at this;rw[this]
theorem MO{t sl:Addr}{items:Array Value}{vl vu:Value}{lo hi:Option Int}{Q:Value->W2->Prop}(ht:IsTup s.heap t items)(hs:s.heap.IsSliceOf sl vl vu .none)(pl:IsPart vl lo)(pu:IsPart vu hi)
  (hw:¬ (aQ items.size 0 lo=0/\aQ items.size items.size hi=items.size))
  (h:Q (.ref s.heap.objs.size) { s with heap:=s.heap.push { cls:=.type "tuple",data:=.seq ((items.toList.drop (aQ items.size 0 lo)).take (aQ items.size items.size hi - aQ items.size 0 lo)).toArray } })
  (hsz:items.size<=Wb):W5 (model prog w) A (JZ (.ref t) (.ref sl)) Q E s:=by
 have kn:sizeOk (.seq ((items.toList.drop (aQ items.size 0 lo)).take (aQ items.size items.size hi - aQ items.size 0 lo)).toArray):=by
  show((items.toList.drop (aQ items.size 0 lo)).take (aQ items.size items.size hi - aQ items.size 0 lo)).toArray.size<=Wb;rw[Ws,Ug,List.length_drop,Q2];lia
 have hj:aQ items.size items.size hi<=items.size:=vX _ _ (Wa _) hi;obtain⟨os,hos,hcs,je⟩:=id hs;have pU:s.TypeIs (.ref sl) "slice":=⟨os,hos,hcs⟩
 unfold JZ;try with_reducible refine WN ?_
 first | refine W0 (W1 ?_) | skip
 refine W0 (U7 ht.typeIs Z' ?_);refine W0 (WM (name:=Str.ofString "__getitem__") ht.typeIs Qj
  (WJ Qj ht.typeIs entry_tuple_getitem ?_ (args_tuple_getitem _ _)))
 show W5 _ _ (Jx (.ref t) >>= _) _ _ s;refine W0 (tupleItemsOf_ ht ?_);refine W0 (Jt pU ?_);rw[if_pos Z'];refine W0 (Bb hs pl pu ?_);have eC:¬ ((((aQ items.size 0 lo:Nat):Int) == 0 && (1:Int) == 1 && (aQ items.size items.size hi - aQ items.size 0 lo) == items.size)=true):=by
  intro q;rw[Wy,Wy] at q;have q1:((aQ items.size 0 lo:Nat):Int)=0:=eq_of_beq q.1.1;have q2:aQ items.size items.size hi - aQ items.size 0 lo=items.size:=eq_of_beq q.2;exact hw ⟨Y',Y'⟩
 show W5 _ _ (if (((aQ items.size 0 lo:Nat):Int) == 0 && (1:Int) == 1 && (aQ items.size items.size hi - aQ items.size 0 lo) == items.size)=true then _ else _) _ _ s;rw[if_neg eC,MN];first
  | exact W0 (m:=Qg _) (WC (W1 ⟨_,rfl,W1 h⟩) kn)
  | exact W0 (m:=Qg _) (WC (W0 (W1 (W1 ⟨_,rfl,W1 h⟩))) kn)
  | exact W0 (W0 (m:=Qg _) (WC (W1 (W1 ⟨_,rfl,W1 h⟩)) kn))
  | exact W0 (W0 (m:=Qg _) (WC (W1 ⟨_,rfl,W1 h⟩) kn))
end
end HT
namespace L2
open PySem PySem.Spec PyProof.Rows
abbrev TO:=St->Hp->(Option Int->Hp->Prop)->Prop
def PO(X:Cx)(e:Option Expr)(t:TO):Prop :=
 ∀ (pins:List (Addr×Obj)) (s:W2) (σ:St) (H:Hp) (Q:Option Int->Hp->Prop),Inv X pins σ H s->t σ H Q ->
  W5 (model X.prog X.w) X.A (evalPart e X.env) (λu s'=>∃ o H',Inv X pins σ H' s'/\IsPart u o/\Q o H') X.xe s
def MP:TO:=λ_ H Q=>Q none H
def MQ(t:TE):TO:=λσ H Q=>t σ H λx H1=>∃ i,x = .int i/\Q (some i) H1
section
variable {X:Cx} {e:Expr} {te:TE} {lo hi:Option Expr} {tl th:TO} {pos p2:Pos}
theorem MR:PO X none MP:=by
 intro pins s σ H Q I h;rw[evalPart_none];exact W1 ⟨none,H,I,.none,h⟩
theorem MS(h:PE X e te):PO X (some e) (MQ te):=by
 intro pins s σ H Q I hw;rw[evalPart_some];refine aF (h pins s σ H _ I hw) λu s1 ⟨x,H1,I1,r1,q1⟩=>?_
 obtain⟨i,rfl,q⟩:=q1;obtain⟨t,rfl⟩:=r1;exact⟨some i,H1,I1,.int i t,q⟩
def jN(X:Cx)(r:V->Option Int->Option Int->Hp->VK->Prop):Prop :=
 ∀ (pins:List (Addr×Obj)) (s:W2) (σ:St) (H:Hp) (x:V) (v vl vu:Value) (lo hi:Option Int) (sl:Addr) (Q:VK),Inv X pins σ H s->RelV x v->s.heap.IsSliceOf sl vl vu .none->IsPart vl lo->IsPart vu hi->r x lo hi H Q ->
  ∃ T id,typeLookup (.type T) "__getitem__" = pure (some (.builtin id))/\s.TypeIs v T/\W5 (model X.prog X.w) X.A (JZ v (.ref sl)) (EP X pins σ Q) X.xe s
theorem jN.or(h:jN X r)(h':jN X r'):jN X (λx lo hi H Q=>r x lo hi H Q\/r' x lo hi H Q):=by
 intro pins s σ H x v vl vu lo hi sl Q I rx hs pl pu q;rcases q with q | q
 ·exact h pins s σ H x v vl vu lo hi sl Q I rx hs pl pu q
 ·exact h' pins s σ H x v vl vu lo hi sl Q I rx hs pl pu q
def MT(r:V->Option Int->Option Int->Hp->VK->Prop)(te:TE)(tl th:TO):TE:=λσ H Q=>te σ H λx H1=>tl σ H1 λl H2=>th σ H2 λu H3=>r x l u H3 Q
theorem Bc(hr:jN X r)(he:PE X e te)(hl:PO X lo tl)(hu:PO X hi th):PE X (.Subscript e (.Slice lo hi none p2) pos) (MT r te tl th):=by
 intro pins s σ H Q I h;refine Subscript_ (aF (he pins s σ H _ I h) λv s1 ⟨x,H1,I1,r1,q1⟩=>?_);refine wpAny_Slice (aF (hl pins s1 σ H1 _ I1 q1) λvl s2 ⟨l,H2,I2,pl,q2⟩=>aF (hu pins s2 σ H2 _ I2 q2) λvu s3 ⟨u,H3,I3,pu,q3⟩=>?_);rw[evalPart_none];refine W1 ?_;have I4:Inv X pins σ H3 { s3 with heap:=s3.heap.push { cls:=.type "slice",data:=.fields #[vl,vu,.none] } }:=I3.kept (t':=s3.toks) λb ob q=>W3 _ q
 obtain⟨T,id,hT,ht,hg⟩:=hr pins { s3 with heap:=s3.heap.push { cls:=.type "slice",data:=.fields #[vl,vu,.none] } } σ H3 x v vl vu l u s3.heap.objs.size Q I4 r1 (Heap.IsSliceOf.new ..) pl pu q3;show W5 (model X.prog X.w) X.A (subscriptTail e (.Slice lo hi none p2) v (.ref s3.heap.objs.size)) (EP X pins σ Q) X.xe { s3 with heap:=s3.heap.push { cls:=.type "slice",data:=.fields #[vl,vu,.none] } };exact tail_any (ops:=[.ref s3.heap.objs.size,v]) ht hT hg Pi
def lx(xs:List V)(lo hi:Option Int):List V:=(xs.drop (HT.aQ xs.length 0 lo)).take (HT.aQ xs.length xs.length hi - HT.aQ xs.length 0 lo)
theorem Be(xs:List V)(lo hi:Option Int):(lx xs lo hi).length<=xs.length:=by
 unfold lx;rw[Ug,List.length_drop];lia
def MU(K:W4):V->Option Int->Option Int->Hp->VK->Prop:=λx lo hi H Q=>∃ a xs,x = .ref a/\bT K H a xs /\
 ¬ (HT.aQ xs.length 0 lo=0/\HT.aQ xs.length xs.length hi=xs.length)/\∀ p,H p=none->Q (.ref p) (upd H p (.tup (lx xs lo hi)))
theorem MV:jN X (MU X.K):=by
 intro pins s σ H x v vl vu lo hi sl Q I rx hs pl pu h;obtain⟨a,xs,rfl,hx,hw,q⟩:=h
 cases rx;obtain⟨ag,r,ht,hz⟩:=I.tuple hx;have hlen:ag.toArray.size=xs.length:=by rw[Ws]; exact r.length.symm
 refine⟨"tuple",_,PyProof.Rows.slot_tuple_getitem.lookup,ht.typeIs,?_⟩;refine HT.MO ht hs pl pu (by rw[hlen]; exact hw) ?_ (by rw[hlen]; exact hz);rw[hlen];refine⟨.ref s.heap.objs.size,_,I.laid (t':=s.toks) (o:=.tup (lx xs lo hi)) (λb ob q=>W3 _ q) (Wa _) ?_,rfl,q _ (I.ax.fresh (Wa _))⟩;exact⟨Qe (Be xs lo hi) hz,_,(r.drop (HT.aQ xs.length 0 lo)).take (HT.aQ xs.length xs.length hi - HT.aQ xs.length 0 lo),gP.new _ _⟩
def Bf(K:W4):R2:=λx y H Q=>∃ a b xs ys,x = .ref a/\y = .ref b/\bT K H a xs/\bT K H b ys/\xs≠[]/\xs.length + ys.length<=Wb /\
 (ys=[]->Q (.ref a) H)/\(ys≠[]->∀ p,H p=none->Q (.ref p) (upd H p (.tup (xs ++ ys))))
theorem Vals.sL(r:Vals xs us):us=[] ↔ xs=[]:=by
 cases r with
 | nil=>simp
 | cons _ _=>simp
theorem MW:bp X (QH .Add) (Bf X.K):=by
 intro pins s σ H x y v u Q I rx ry h;obtain⟨a,b,xs,ys,rfl,rfl,ha,hb,hx,hz,q1,q2⟩:=h
 cases rx
 cases ry;obtain⟨ag,r1,p1,_⟩:=I.tuple ha;obtain⟨its2,r2,p2,_⟩:=I.tuple hb;refine HT.MJ p1 p2 (λz=>hx (r1.sL.mp z)) (λz=>⟨.ref a,H,I,rfl,q1 (r2.sL.mp z)⟩) (λz=>?_) (by rw[<- r1.length,<- r2.length]; exact hz);refine⟨.ref s.heap.objs.size,_,I.laid (t':=s.toks) (o:=.tup (xs ++ ys)) (λb ob q=>W3 _ q) (Wa _) ?_,rfl,q2 (λw=>z (r2.sL.mpr w)) _ (I.ax.fresh (Wa _))⟩;exact⟨by rw[WT]; exact hz,_,r1.append r2,gP.new _ _⟩
end
def ib(n:Nat)(i:Int):Option Nat:=if 0<=i then(if i < n then some i.toNat else none) else if -(n:Int)<=i then some (i + n).toNat else none
def eE{α:Type}(xs:List α)(i:Int):Option α:=(ib xs.length i).bind λj=>xs[j]?
theorem Bg(h:ib n i=some j):seqIndex? i n=some j/\j < n/\-(n:Int)<=i/\i < n:=by
 unfold ib at h;by_cases h0:0<=i
 ·rw[if_pos h0] at h;by_cases h1:i < n
  ·rw[if_pos h1] at h;have e:i.toNat=j:=WS h;exact⟨by rw[seqIndex_of h0 h1,e],Y',Y',h1⟩
  ·rw[if_neg h1] at h; cases h
 ·rw[if_neg h0] at h;by_cases h1 : -(n:Int)<=i
  ·rw[if_pos h1] at h;have e:(i + n).toNat=j:=WS h;exact⟨by rw[seqIndex_neg Y' h1,e],Y',h1,Y'⟩
  ·rw[if_neg h1] at h; cases h
theorem vY(h:eE xs i=some v):∃ j,seqIndex? i xs.length=some j/\xs[j]? = some v/\j < xs.length/\-(xs.length:Int)<=i/\i < xs.length:=by
 unfold eE at h
 cases e:ib xs.length i with
 | none=>rw[e] at h; cases h
 | some j =>
  rw[e] at h;obtain⟨h1,h2,h3,h4⟩:=Bg e;exact⟨j,h1,h,h2,h3,h4⟩
def vZ(b:Expr):Prop:=∀ o i,subscripted b false o i=operate [o,i] (JZ o i)
def ic(X:Cx)(r:R2):Prop :=
 ∀ (value slice:Expr) (pins:List (Addr×Obj)) (s:W2) (σ:St) (H:Hp) (x y:V) (v u:Value) (Q:VK),Inv X pins σ H s->RelV x v->RelV y u->r x y H Q ->
  subscripted slice false v u=operate [v,u] (JZ v u)->W5 (model X.prog X.w) X.A (subscriptTail value slice v u) (EP X pins σ Q) X.xe s
def v3(X:Cx)(id:String)(r:V->List V->Hp->VK->Prop):Prop :=
 ∀ (pins:List (Addr×Obj)) (s:W2) (σ:St) (H:Hp) (x:V) (xs:List V) (v:Value) (us:List Value) (Q:VK),Inv X pins σ H s->RelV x v->Vals xs us->r x xs H Q ->
  W5 (model X.prog X.w) X.A (call (.builtin id) (v :: us)) (EP X pins σ Q) X.xe s
section
variable {X:Cx} {a b:Expr} {ta tb:TE} {pos:Pos}
theorem ic.or(h:ic X r)(h':ic X r'):ic X (λx y H Q=>r x y H Q\/r' x y H Q):=by
 intro value slice pins s σ H x y v u Q I rx ry q hs;rcases q with q | q
 ·exact h value slice pins s σ H x y v u Q I rx ry q hs
 ·exact h' value slice pins s σ H x y v u Q I rx ry q hs
theorem Bh(hr:ic X r)(ha:PE X a ta)(hb:PE X b tb)(hs:vZ b):PE X (.Subscript a b pos) (mq r ta tb):=by
 intro pins s σ H Q I h;exact Subscript_ (vP ha hb I h λv u s2 x y H2 I2 rx ry q=>hr a b pins s2 σ H2 x y v u Q I2 rx ry q (hs _ _))
def Bi(K:W4):R2:=λx y H Q=>∃ p xs i v,x = .ref p/\y = .int i/\cA K H p xs/\eE xs i=some v/\Q v H
def Bj(K:W4):R2:=λx y H Q=>∃ p xs i v,x = .ref p/\y = .int i/\bT K H p xs/\eE xs i=some v/\Q v H
def Bk:R2:=λx y H Q=>∃ z i c,x = .str z/\y = .int i/\z.length<=Wb/\eE z.cps.toList i=some c/\Q (.str ⟨#[c]⟩) H
theorem MX:ic X (Bi X.K):=by
 intro value slice pins s σ H x y v u Q I rx ry h hs;obtain⟨p,xs,i,z,rfl,rfl,hq,he,q⟩:=h
 cases rx;obtain⟨t,rfl⟩:=ry;obtain⟨ag,r,pl,hz⟩:=I.list hq;obtain⟨j,h1,h2,h3,h4,h5⟩:=vY he;obtain⟨w,ew,gD⟩:=r.get h2;have hl:=r.length;have hn:=nX;have fin:EP X pins σ Q w s:=⟨z,H,I,gD,q⟩
 by_cases h0:0<=i
 ·have hj:i.toNat=j:=by
   rw[seqIndex_of h0 h5] at h1;exact WS h1
  exact item_listR pl.isList h0 Y' (by rw[hj]; simpa using ew) fin hs
 ·have hj:(i + (ag.toArray.size:Int)).toNat=j:=by
   rw[seqIndex_neg Y' h4] at h1;rw[Ws,<- hl];exact WS h1
  exact subscriptTail_builtinR (x:=w) pl.isList.typeIs slot_list_getitem.lookup
   (wpAny_getItem_list_neg (Q:=λr s'=>r=w/\EP X pins σ Q r s') pl.isList Y' (by rw[Ws] <;> lia) Y' (by rw[hj]; simpa using ew) ⟨rfl,fin⟩) hs
theorem MY:ic X (Bj X.K):=by
 intro value slice pins s σ H x y v u Q I rx ry h hs;obtain⟨p,xs,i,z,rfl,rfl,hq,he,q⟩:=h
 cases rx;obtain⟨t,rfl⟩:=ry;obtain⟨ag,r,pl,hz⟩:=I.tuple hq;obtain⟨j,h1,h2,h3,h4,h5⟩:=vY he;obtain⟨w,ew,gD⟩:=r.get h2;have hl:=r.length;have hn:=nX;have fin:EP X pins σ Q w s:=⟨z,H,I,gD,q⟩
 exact subscriptTail_builtinR (x:=w) pl.typeIs slot_tuple_getitem.lookup
  (getItem_tuple (j:=j) (Q:=λr s'=>r=w/\EP X pins σ Q r s') pl Y' Y' (by rw[Ws,<- hl]; exact h1) (by simpa using ew) ⟨rfl,fin⟩) hs
theorem MZ:ic X Bk:=by
 intro value slice pins s σ H x y v u Q I rx ry h hs;obtain⟨z,i,c,rfl,rfl,hz,he,q⟩:=h;obtain⟨t,rfl⟩:=rx;obtain⟨t',rfl⟩:=ry;obtain⟨j,h1,h2,h3,h4,h5⟩:=vY he;have hl:z.cps.toList.length=z.length:=by simp[Str.length]
 rw[hl] at h1 h4 h5;have hn:=nX;exact tail_any (typeIs_str s z t) slot_str_getitem.lookup (getItem_str (c:=c) (by
  have e1:decide (i < -(2 ^ 63:Int))=false:=decide_eq_false Y';have e2:decide (i ≥ 2 ^ 63)=false:=decide_eq_false Y';rw[e1,e2,Bool.or_false]) (by rw[h1]; simpa using h2) ⟨.str ⟨#[c]⟩,H,I.tok _,⟨_,rfl⟩,q⟩) hs
def sM(K:W4):R2:=λx y H Q=>Bi K x y H Q\/Bj K x y H Q\/Bk x y H Q
theorem sN:ic X (sM X.K):=MX.or (MY.or MZ)
theorem M0 (ag:List Value) (n j:Nat) (u:Value):Obj.mapSeq (·.setIfInBounds j u) { cls:=.type "list",data:=.seq ag.toArray n } = { cls:=.type "list",data:=.seq (ag.set j u).toArray n }:=by
 simp[Obj.mapSeq]
theorem Inv.lst(I:Inv X pins σ H s)(h:H p=some (.lst xs)) :
  ∃ (ag:List Value) (n:Nat),Vals xs ag/\s.heap.get? p=some { cls:=.type "list",data:=.seq ag.toArray n }/\xs.length<=Wb:=by
 obtain⟨z,ag,n,r,e⟩:=I.ax p _ h;exact⟨ag,n,r,e,z⟩
theorem Inv.M3{pins:List (Addr×Obj)}{σ:St}{H:Hp}{s:W2}{p:Addr}{xs ys:List V}{ag its':List Value}{n n':Nat}{f:Obj->Obj}(I:Inv X pins σ H s)(h:H p=some (.lst xs))
  (ho:s.heap.get? p=some { cls:=.type "list",data:=.seq ag.toArray n }) (hf:f { cls:=.type "list",data:=.seq ag.toArray n } = { cls:=.type "list",data:=.seq its'.toArray n' }) (r:Vals ys its') (hz:ys.length<=Wb) (t:Nat) :
  Inv X pins σ (upd H p (.lst ys)) { s with heap:=s.heap.update p f,toks:=t }:=by
 have e:(s.heap.update p f).get? p=some { cls:=.type "list",data:=.seq its'.toArray n' }:=by
  rw[WG f ho (by rw[hf] <;> rfl),hf]
 refine I.write (x:=p) (e:=p) (by rw[h]; trivial) (.inl rfl) (λb u hb q=>(WF _ _ (Ne.symm hb)).trans q) ⟨_,e⟩ ?_;exact⟨hz,its',n',r,e⟩
def M4:V->V->V->Hp->(Hp->Prop)->Prop:=λo i v H Q=>∃ p xs k j,o = .ref p/\i = .int k/\H p=some (.lst xs)/\ib xs.length k=some j/\Q (upd H p (.lst (xs.set j v)))
theorem M5:Aw X M4:=by
 intro pins s σ H o i v ov iv u Q I ro ri rv h;obtain⟨p,xs,k,j,rfl,rfl,hp,hj,q⟩:=h
 cases ro;obtain⟨t,rfl⟩:=ri;obtain⟨ag,n,r,ho,hz⟩:=I.lst hp;obtain⟨h1,h2,h3,h4⟩:=Bg hj;have hl:=r.length;have hn:=nX;have I':Inv X pins σ (upd H p (.lst (xs.set j v))) { s with heap:=s.heap.update p (Obj.mapSeq (·.setIfInBounds j u)) } :=
  I.M3 hp ho (M0 ag n j u) (r.set rv j) (by rw[Qc]; exact hz) s.toks
 by_cases h0:0<=k
 ·have hk:k.toNat=j:=by
   rw[seqIndex_of h0 h4] at h1;exact WS h1
  exact PySem.W.ki_setAt ho h0 Y' (by rw[Ws,<- hl]; exact h4) (by rw[hk]; exact⟨_,I',q⟩)
 ·have hk:(k + (ag.toArray.size:Int)).toNat=j:=by
   rw[seqIndex_neg Y' h3] at h1;rw[Ws,<- hl];exact WS h1
  exact PySem.W.ki_setBack ho Y' (by rw[Ws,<- hl]; exact h3) Y' (by rw[hk]; exact⟨_,I',q⟩)
theorem M6(lo hi:Option Int)(n:Nat):(Uo lo hi none n).1=((HT.aQ n 0 lo:Nat):Int)/\(Uo lo hi none n).2.1=((HT.aQ n n hi:Nat):Int)/\(Uo lo hi none n).2.2=1:=by
 refine⟨?_,?_,rfl⟩
 ·cases lo with
  | none=>simp[Uo,HT.aQ]
  | some i =>
   simp only[Uo,HT.aQ,Option.getD_none,show(1:Int) > 0 by decide,if_true];by_cases h:i < 0
   ·simp only[h,if_true] <;> lia
   ·simp only[h,if_false] <;> lia
 ·cases hi with
  | none=>simp[Uo,HT.aQ]
  | some i =>
   simp only[Uo,HT.aQ,Option.getD_none,show(1:Int) > 0 by decide,if_true];by_cases h:i < 0
   ·simp only[h,if_true] <;> lia
   ·simp only[h,if_false] <;> lia
theorem M7(ag:List Value)(lo hi:Option Int):slicePick ag.toArray lo hi none=((ag.drop (HT.aQ ag.length 0 lo)).take (HT.aQ ag.length ag.length hi - HT.aQ ag.length 0 lo)).toArray:=by
 obtain⟨h1,h2,h3⟩:=M6 lo hi ag.toArray.size;unfold slicePick;rw[h1,h2,h3];simp only[sliceRange_one,pick_run,Ws] <;> rfl
def Bl(K:W4):V->Option Int->Option Int->Hp->VK->Prop:=λx lo hi H Q=>∃ a xs,x = .ref a/\cA K H a xs/\∀ p,H p=none->Q (.ref p) (upd H p (.lst (lx xs lo hi)))
theorem M8:jN X (Bl X.K):=by
 intro pins s σ H x v vl vu lo hi sl Q I rx hs pl pu h;obtain⟨a,xs,rfl,hx,q⟩:=h
 cases rx;obtain⟨ag,r,ht,hz⟩:=I.list hx;have hlen:=r.length;refine⟨"list",_,slot_list_getitem.lookup,ht.isList.typeIs,?_⟩;refine wpAny_getItem_list_slice ht.isList hs pl pu .none U' ?_ (by rw[Ws] <;> lia);rw[M7,<- hlen];refine⟨.ref s.heap.objs.size,_,I.laid (t':=s.toks) (o:=.lst (lx xs lo hi)) (λb ob q=>W3 _ q) (Wa _) ?_,rfl,q _ (I.ax.fresh (Wa _))⟩;exact⟨Qe (Be xs lo hi) hz,_,0,(r.drop (HT.aQ xs.length 0 lo)).take (HT.aQ xs.length xs.length hi - HT.aQ xs.length 0 lo),Wi _ rfl⟩
def ko:V->Bool
 | .ay=>true
 | .bl _=>true
 | .int _=>true
 | .str _=>true
 | _=>false
def ly:V->V->Bool
 | .ay,.ay=>true
 | .bl a,.bl b=>a == b
 | .bl a,.int b=>(if a then 1 else 0) == b
 | .int a,.bl b=>a == (if b then 1 else 0)
 | .int a,.int b=>a == b
 | .str a,.str b=>a == b
 | _,_=>false
theorem M9(ry:RelV y u)(rx:RelV x v)(fy:ko y=true)(fx:ko x=true):SeqAt.EqAt A s u v (ly y x):=by
 cases y with
 | ay =>
  cases ry
  cases x with
  | ay=>cases rx; exact SeqAt.EqAt.same _
  | bl b=>cases rx; exact SeqAt.EqAt.none_bool b
  | int b=>obtain⟨t,rfl⟩:=rx; exact SeqAt.EqAt.none_int b t
  | str b=>obtain⟨t,rfl⟩:=rx; exact SeqAt.EqAt.none_str b t
  | _=>exact absurd (show false=true from fx) Q0
 | bl a =>
  cases ry
  cases x with
  | ay=>cases rx; exact SeqAt.EqAt.bool_none a
  | bl b=>cases rx; exact SeqAt.EqAt.bool_bool a b
  | int b=>obtain⟨t,rfl⟩:=rx; exact SeqAt.EqAt.bool_int a b t
  | str b=>obtain⟨t,rfl⟩:=rx; exact SeqAt.EqAt.bool_str a b t
  | _=>exact absurd (show false=true from fx) Q0
 | int a =>
  obtain⟨t',rfl⟩:=ry
  cases x with
  | ay=>cases rx; exact SeqAt.EqAt.int_none a t'
  | bl b=>cases rx; exact SeqAt.EqAt.int_bool a t' b
  | int b=>obtain⟨t,rfl⟩:=rx; exact SeqAt.EqAt.int_int a t' b t
  | str b=>obtain⟨t,rfl⟩:=rx; exact SeqAt.EqAt.int_str a t' b t
  | _=>exact absurd (show false=true from fx) Q0
 | str a =>
  obtain⟨t',rfl⟩:=ry
  cases x with
  | ay=>cases rx; exact SeqAt.EqAt.str_none a t'
  | bl b=>cases rx; exact SeqAt.EqAt.str_bool a t' b
  | int b=>obtain⟨t,rfl⟩:=rx; exact SeqAt.EqAt.str_int a t' b t
  | str b=>obtain⟨t,rfl⟩:=rx; exact SeqAt.EqAt.str_str a t' b t
  | _=>exact absurd (show false=true from fx) Q0
 | _=>exact absurd (show false=true from fy) Q0
def gE(x:V)(u:Value):Bool:=match u with
 | .none=>ly .ay x
 | .bool b=>ly (.bl b) x
 | .int i _=>ly (.int i) x
 | .str z _=>ly (.str z) x
 | _=>false
theorem Bm(r:RelV y u)(f:ko y=true):gE x u=ly y x:=by
 cases y with
 | ay=>cases r; rfl
 | bl b=>cases r; rfl
 | int i=>obtain⟨t,rfl⟩:=r; rfl
 | str z=>obtain⟨t,rfl⟩:=r; rfl
 | _=>exact absurd (show false=true from f) Q0
theorem pV:∀ {xs:List V} {us:List Value},Vals xs us->xs.all ko=true->us.any (gE x)=xs.any λy=>ly y x
 | _,_,.nil,_=>rfl
 | y :: xs,u :: us,.cons r t,f=>by
  rw[UH,Wy] at f;rw[QC,QC,Bm r f.1,pV t f.2]
theorem pW(rx:RelV x v)(fx:ko x=true):∀ {xs:List V} {us:List Value},Vals xs us->xs.all ko=true->∀ u ∈ us,SeqAt.EqAt A s u v (gE x u)
 | _,_,.nil,_=>by grind
 | y :: xs,u :: us,.cons r t,f=>λu' hu=>by
  rw[UH,Wy] at f;rcases Wq.mp hu with rfl | hu
  ·rw[Bm r f.1]; exact M9 r rx f.1 fx
  ·exact pW rx fx t f.2 u' hu
def sO(x:V)(xs:List V):Bool:=xs.any λy=>ly y x
def v5(K:W4)(neg:Bool):R2:=λx y H Q=>∃ p xs,y = .ref p/\(cA K H p xs\/bT K H p xs)/\ko x=true/\xs.all ko=true/\Q (.bl (if neg then !sO x xs else sO x xs)) H
theorem M_:bp X (WQ .In) (v5 X.K false):=by
 intro pins s σ H x y v u Q I rx ry h;obtain⟨p,xs,rfl,hq,fx,fs,q⟩:=h
 cases ry;rcases hq with hq | hq
 ·obtain⟨ag,r,pl,hz⟩:=I.list hq;refine SeqAt.in_listAt (gE x) pl.isList (λw hw=>pW rx fx r fs w (by simpa using hw)) ⟨.bl _,H,I,rfl,?_⟩;rw[show ag.toArray.any (gE x)=ag.any (gE x) by simp,pV r fs];exact q
 ·obtain⟨ag,r,pl,hz⟩:=I.tuple hq;refine SeqAt.in_tupleAt (gE x) pl (λw hw=>pW rx fx r fs w (by simpa using hw)) ⟨.bl _,H,I,rfl,?_⟩;rw[show ag.toArray.any (gE x)=ag.any (gE x) by simp,pV r fs];exact q
theorem Na:bp X (WQ .NotIn) (v5 X.K true):=by
 intro pins s σ H x y v u Q I rx ry h;obtain⟨p,xs,rfl,hq,fx,fs,q⟩:=h
 cases ry;rcases hq with hq | hq
 ·obtain⟨ag,r,pl,hz⟩:=I.list hq;refine SeqAt.notIn_listAt (gE x) pl.isList (λw hw=>pW rx fx r fs w (by simpa using hw)) ⟨.bl _,H,I,rfl,?_⟩;rw[show ag.toArray.any (gE x)=ag.any (gE x) by simp,pV r fs];exact q
 ·obtain⟨ag,r,pl,hz⟩:=I.tuple hq;refine SeqAt.notIn_tupleAt (gE x) pl (λw hw=>pW rx fx r fs w (by simpa using hw)) ⟨.bl _,H,I,rfl,?_⟩;rw[show ag.toArray.any (gE x)=ag.any (gE x) by simp,pV r fs];exact q
theorem Nb:eA X (.builtin "len") (λxs H Q=>∃ p ys,xs=[.ref p]/\(cA X.K H p ys\/bT X.K H p ys)/\Q (.int ys.length) H):=by
 intro pins s σ H xs us Q I r h;obtain⟨p,ys,rfl,hq,q⟩:=h;obtain⟨u,rfl,rx⟩:=h_ r
 cases rx;have hn:=nX;rcases hq with hq | hq
 ·obtain⟨ag,r',pl,hz⟩:=I.list hq;have hlen:=r'.length;exact Calls.call_len_list pl.isList (by simp only[Ws] <;> lia) ⟨.int ys.length,H,I.tok _,⟨s.toks + 1,by rw[Ws,hlen]⟩,q⟩
 ·obtain⟨ag,r',pl,hz⟩:=I.tuple hq;have hlen:=r'.length;exact len_tuple pl (by simp only[Ws] <;> lia) ⟨.int ys.length,H,I.tok _,⟨s.toks + 1,by rw[Ws,hlen]⟩,q⟩
theorem Nc:eA X (.builtin "len") (λxs H Q=>∃ z,xs=[.str z]/\z.length<=Wb/\Q (.int z.length) H):=by
 intro pins s σ H xs us Q I r h;obtain⟨z,rfl,hz,q⟩:=h;obtain⟨u,rfl,t,rfl⟩:=h_ r;have hn:=nX;exact len_str Y' ⟨.int z.length,H,I.tok _,⟨_,rfl⟩,q⟩
theorem eA.or(h:eA X f r)(h':eA X f r'):eA X f (λxs H Q=>r xs H Q\/r' xs H Q):=by
 intro pins s σ H xs us Q I rs q;rcases q with q | q
 ·exact h pins s σ H xs us Q I rs q
 ·exact h' pins s σ H xs us Q I rs q
theorem Nd:eA X (.type "tuple") (λxs H Q=>∃ p ys,xs=[.ref p]/\((cA X.K H p ys/\∀ l,H l=none->Q (.ref l) (upd H l (.tup ys)))\/(bT X.K H p ys/\Q (.ref p) H))):=by
 intro pins s σ H xs us Q I r h;obtain⟨p,ys,rfl,h⟩:=h;obtain⟨u,rfl,rx⟩:=h_ r
 cases rx;rcases h with ⟨hq,q⟩ | ⟨hq,q⟩
 ·obtain⟨ag,r',pl,hz⟩:=I.list hq;have hlen:=r'.length;refine call_tuple_list pl.isList (λh' kp=>?_) (by simp only[Ws] <;> lia);have I1:Inv X pins σ H { s with heap:=h' }:=I.kept (t':=s.toks) kp;have I2:Inv X pins σ (upd H h'.objs.size (.tup ys)) { s with heap:=h'.push { cls:=.type "tuple",data:=.seq ag.toArray } } :=
   I1.laid (t':=s.toks) (λb o e=>W3 _ e) (Wa _) (show bF X.prog X.w _ _ _ (.tup ys) from⟨hz,ag,r',gP.new _ _⟩)
  exact⟨.ref h'.objs.size,_,I2,rfl,q _ (I1.ax.fresh (Wa _))⟩
 ·obtain⟨ag,r',pl,hz⟩:=I.tuple hq;exact call_tuple_same pl ⟨.ref p,H,I,rfl,q⟩
def Bn(K:W4)(T:String)(x:V)(H:Hp):Prop:=match x with
 | .str _=>T = "str"
 | .int _=>T = "int"
 | .ref p=>(T = "list"/\∃ xs,cA K H p xs)\/(T = "tuple"/\∃ o,K.lookup p=some o/\o.cls = .type "tuple"/\o.dict=none) \/
   (T = "dict"/\((∃ kvs,H p=some (.dK kvs))\/∃ kvs,H p=some (.dT kvs)))\/(T = "set"/\∃ S n,H p=some (.set S n))
 | _=>False
theorem Nf(I:Inv X pins σ H s)(r:RelV x v)(ty:Bn X.K T x H) :
  s.TypeIs v T/\∀ a,v = .ref a->∃ ob,s.heap.get? a=some ob/\ob.dict=none:=by
 cases x with
 | str z =>
  obtain⟨t,rfl⟩:=r
  cases (show T = "str" from ty);exact⟨typeIs_str s z t,λ_ e=>nomatch e⟩
 | int i =>
  obtain⟨t,rfl⟩:=r
  cases (show T = "int" from ty);exact⟨Uv s i t,λ_ e=>nomatch e⟩
 | ref p =>
  cases r;rcases ty with ⟨rfl,xs,hq⟩ | ⟨rfl,o,hk,hc,hd⟩ | ⟨rfl,hk⟩ | ⟨rfl,S,n,hk⟩
  ·obtain⟨ag,_,pl,_⟩:=I.list hq;refine⟨pl.isList.typeIs,λa e=>?_⟩
   cases e;obtain⟨o,n,e,c,hd,_⟩:=pl;exact⟨o,e,hd⟩
  ·refine⟨⟨o,I.eJ p o hk,hc⟩,λa e=>?_⟩
   cases e;exact⟨o,I.eJ _ o hk,hd⟩
  ·have z:∃ o,s.heap.get? p=some o/\o.ExactDict:=by
    rcases hk with ⟨kvs,hk⟩ | ⟨kvs,hk⟩
    ·obtain⟨_,_,_,_,o,_,_,e,ex,_⟩:=I.ax p _ hk;exact⟨o,e,ex⟩
    ·obtain⟨_,_,_,_,o,_,_,e,ex,_⟩:=I.ax p _ hk;exact⟨o,e,ex⟩
   obtain⟨o,e,ex⟩:=z;refine⟨⟨o,e,ex.1⟩,λa e2=>?_⟩
   cases e2;exact⟨o,e,ex.2.1⟩
  ·obtain⟨o,_,_,_,e,ex,_⟩:=I.ax p _ hk;refine⟨⟨o,e,ex.1⟩,λa e2=>?_⟩
   cases e2;exact⟨o,e,ex.2.1⟩
 | _=>exact False.elim ty
def Bo(K:W4)(T:String)(r:V->List V->Hp->VK->Prop)(to:TE)(t:TA):TE:=λσ H Q=>to σ H λx H1=>Bn K T x H1/\t σ H1 λxs H2=>r x xs H2 Q
variable {o e:Expr} {es:List Expr} {to:TE} {t:TA} {name:Str} {apos aO:Pos} {T id:String} {r:V->List V->Hp->VK->Prop}
theorem v7 (pa:PlainAttrs T) (slot:Slot T name id) (Ng:typeOf (.builtin id)=pure (.type "method_descriptor")) (hm:v3 X id r) (ho:PE X o to) (ha:PA X (e :: es) t)
  (mx:Qr o name X.env (eval o X.env)=eval o X.env:=by rfl)
  (my:((Qi aO (Wh (e :: es) X.env)).all (λx=>!x.1) && (Uf aO (Jo [] X.env)).all (λx=>x.1.isSome)
   && decide ((e :: es).length + ([]:List Keyword).length + (if ([]:List Keyword).isEmpty then 0 else 1) < 30))=true:=by rfl)
  (gQ:(apos.endLine == aO.line)=true:=by rfl) (hs:Wh (e :: es) X.env=(false,eval e X.env) :: Wh es X.env:=by rfl) (v8:(Qi aO (Wh es X.env)).any (·.1)=false:=by rfl) :
  PE X (.Call (.Attribute o name apos) (e :: es) [] aO) (Bo X.K T r to t):=by
 intro pins s σ H Q I h;refine wpAny_Call_method_late mx my gQ rfl (aF (ho pins s σ H _ I h) λv s1 ⟨x,H1,I1,r1,ty,q1⟩=>?_);obtain⟨h1,h2⟩:=Nf I1 r1 ty;refine⟨T,id,pa,slot,Ng,h1,h2,?_⟩;have hA:=ha aO pins s1 σ H1 _ I1 q1;rw[hs] at hA ⊢;refine Calls.callWith_builtin (by show(false || (Qi aO (Wh es X.env)).any (·.1))=false; rw[v8] <;> rfl) (Calls.evalArgs_plain ?_);exact aF hA λus s2 ⟨vs,H2,I2,r2,q2⟩=>hm pins s2 σ H2 x vs v us Q I2 r1 r2 q2
end
def Nh(X:Cx)(id:String)(r:V->List V->Hp->VK->Prop):Prop :=
 ∀ (pins:List (Addr×Obj)) (s:W2) (σ:St) (H:Hp) (x:V) (xs:List V) (v:Value) (us:List Value) (Q:VK),Inv X pins σ H s->RelV x v->Vals xs us->r x xs H Q ->
  W5 (model X.prog X.w) X.A (call (.builtin id) (v :: us)) (EP X pins σ Q) X.xe s
theorem Vals.one:∀ {x:V} {us:List Value},Vals [x] us->∃ u,us=[u]/\RelV x u
 | _,_,.cons r .nil=>⟨_,rfl,r⟩
theorem Vals.two:∀ {x y:V} {us:List Value},Vals [x,y] us->∃ u v,us=[u,v]/\RelV x u/\RelV y v
 | _,_,_,.cons r (.cons q .nil)=>⟨_,_,rfl,r,q⟩
theorem Vals.reverse(h:Vals xs us):Vals xs.reverse us.reverse:=by
 induction h with
 | nil=>exact .nil
 | cons r t ih=>rw[List.reverse_cons,List.reverse_cons]; exact Vals.append ih (.cons r .nil)
theorem Vals.rep(h:Vals xs us):∀ k:Nat,Vals (Wm k xs).flatten (Wm k us).flatten
 | 0=>.nil
 | k + 1=>by
  rw[QV,QV,Jg,Jg];exact Vals.append h (Vals.rep h k)
theorem Bp(ag:List Value):∀ (k:Nat) (acc:List Value),
  List.foldl (λx1 x2=>x1 ++ x2) acc.toArray (Wm k ag.toArray)=(acc ++ (Wm k ag).flatten).toArray
 | 0,acc=>by simp
 | k + 1,acc=>by
  have e:acc.toArray ++ ag.toArray=(acc ++ ag).toArray:=by simp
  have e2:(acc ++ ag) ++ (Wm k ag).flatten=acc ++ (Wm (k + 1) ag).flatten:=by grind
  rw[<- e2,<- Bp ag k (acc ++ ag),<- e,QV,Qw]
section
variable {X:Cx} {pins:List (Addr×Obj)} {σ:St} {H:Hp} {s:W2} {l b:Addr} {xs ys zs:List V}
theorem Inv.Ni{ag its':List Value}{n:Nat}{f:Array Value->Array Value}{t':Nat}(I:Inv X pins σ H s)(hH:H l=some (.lst xs))
  (e:s.heap.get? l=some { cls:=.type "list",data:=.seq ag.toArray n }) (hf:f ag.toArray=its'.toArray) (hv:Vals ys its') (hz:ys.length<=Wb) :
  Inv X pins σ (upd H l (.lst ys)) { s with heap:=s.heap.update l (Obj.mapSeq f),toks:=t' }:=by
 have q:=PySem.IsL.update e f;rw[hf] at q;refine I.write (x:=l) (e:=l) (by rw[hH]; exact trivial) (.inl rfl) (λb' u hb hu=>(WF s.heap (Obj.mapSeq f) (Ne.symm hb)).trans hu) ⟨_,q⟩ ?_;exact⟨hz,its',_,hv,q⟩
theorem Inv.Bq(I:Inv X pins σ H s)(hv:Vals ys ag)(hz:ys.length<=Wb) :
  Inv X pins σ (upd H s.heap.objs.size (.lst ys)) { s with heap:=s.heap.push { cls:=.type "list",data:=.seq ag.toArray },toks:=t' } :=
 I.laid (λ_ _ q=>W3 _ q) (Wa _) ⟨hz,ag,0,hv,Wi _ rfl⟩
theorem Inv.fresh(I:Inv X pins σ H s):H s.heap.objs.size=none:=I.ax.fresh (Wa _)
theorem Inv.Nj (I:Inv X pins σ H s) (hH:H l=some (.lst xs)):xs.length<=Wb/\∃ (ag:List Value) (n:Nat),Vals xs ag/\xs.length=ag.length/\s.heap.get? l=some { cls:=.type "list",data:=.seq ag.toArray n }:=by
 obtain⟨z,ag,n,r,e⟩:=I.ax l _ hH;exact⟨z,ag,n,r,r.length,e⟩
end
section
variable {X:Cx}
def Br:V->List V->Hp->VK->Prop:=λx vs H Q=>∃ l xs y,x = .ref l/\vs=[y]/\H l=some (.lst xs)/\xs.length < Wb/\Q .ay (upd H l (.lst (xs ++ [y])))
theorem Bs:Nh X "list.append" Br:=by
 intro pins s σ H x vs v us Q I rx rv h;obtain⟨l,xs,y,rfl,rfl,hH,hz,q⟩:=h
 cases rx;obtain⟨u,rfl,ru⟩:=rv.one;obtain⟨z,ag,n,r,hl,e⟩:=I.Nj hH;refine call_meets F.slot_list_append ⟨_,e,rfl⟩ F.entry_list_append (F.args_list_append_2 _ _) (PySem.list_append l ag.toArray n u (by rw[Ws]; lia)) ⟨e,?_⟩;refine⟨.ay,_,I.Ni (its':=ag ++ [u]) hH e U' (r.append (.cons ru .nil)) ?_,rfl,q⟩;rw[WT,List.length_singleton];lia
theorem v9(xs:List α)(k:Nat):(Wm k xs).flatten.length=k * xs.length:=by simp_all
end
section
variable {κ:Type} [DecidableEq κ]
def c_(kvs:List (κ×V))(k:κ):Option V:=(kvs.find? λkv=>decide (kv.1=k)).map (·.2)
def putK(kvs:List (κ×V))(k:κ)(v:V):List (κ×V) :=
 if (kvs.any λkv=>decide (kv.1=k))=true then kvs.map (λkv=>if kv.1=k then(kv.1,v) else kv) else kvs ++ [(k,v)]
theorem sP{p:κ×V}{r:List (κ×V)}{k:κ}(e:p.1=k):c_ (p :: r) k=some p.2:=by simp[c_,WW,e]
theorem sQ{p:κ×V}{r:List (κ×V)}{k:κ}(e:¬ p.1=k):c_ (p :: r) k=c_ r k:=by simp[c_,WW,e]
theorem Bt(k:κ):∀ kvs:List (κ×V),(kvs.any λkv=>decide (kv.1=k))=(c_ kvs k).isSome
 | []=>rfl
 | p :: r=>by
  rw[QC];by_cases e:p.1=k
  ·simp only[sP e,decide_eq_true e,Bool.true_or,Option.isSome_some]
  ·rw[sQ e,decide_eq_false e,Bool.false_or]; exact Bt k r
theorem nY(kvs:List (κ×V))(k:κ)(v:V):(putK kvs k v).length<=kvs.length + 1:=by
 unfold putK;split
 ·rw[Wx]; lia
 ·rw[WT,WA,U1]; lia
theorem dG.pX(r:dG o u):o.isSome=u.isSome:=by
 cases o with
 | none=>cases u with
  | none=>rfl
  | some _=>exact(show False from r).elim
 | some _=>cases u with
  | none=>exact(show False from r).elim
  | some _=>rfl
theorem dG.getD(r:dG o u)(rd:RelV d d'):RelV (o.getD d) (u.getD d'):=by
 cases o with
 | none=>cases u with
  | none=>exact rd
  | some _=>exact(show False from r).elim
 | some _=>cases u with
  | none=>exact(show False from r).elim
  | some _=>exact r
theorem KV.val{kvs:List (κ×V)}{vs:List (κ×Value)}(r:KV kvs vs)(k:κ):dG (c_ kvs k) (valueAt vs k):=by
 unfold KV at r;induction r with
 | nil=>exact True.intro
 | @cons p q ps qs h t ih =>
  obtain⟨h1,h2⟩:=h;by_cases e:p.1=k
  ·have e':q.1=k:=h1.symm.trans e;have b:valueAt (q :: qs) k=some q.2:=by simp[valueAt,WW,e']
   rw[sP e,b]; exact h2
  ·have e':¬ q.1=k:=λz=>e (h1.trans z)
   have b:valueAt (q :: qs) k=valueAt qs k:=by simp[valueAt,WW,e']
   rw[sQ e,b]; exact ih
theorem KV.any(r:KV kvs vs)(k:κ):(kvs.any λkv=>decide (kv.1=k))=vs.any λkv=>decide (kv.1=k):=by
 unfold KV at r;induction r with
 | nil=>rfl
 | cons h t ih=>rw[QC,QC,ih,h.1]
theorem KV.v_(r:KV kvs vs)(k:κ)(ry:RelV y u) :
  KV (kvs.map λkv=>if kv.1=k then(kv.1,y) else kv) (vs.map λkv=>if kv.1=k then(kv.1,u) else kv):=by
 unfold KV at r ⊢;induction r with
 | nil=>exact .nil
 | @cons p q ps qs h t ih =>
  rw[We,We];refine .cons ?_ ih;grind
theorem KV.put(r:KV kvs vs)(k:κ)(ry:RelV y u):KV (putK kvs k y) (stored vs k u):=by
 unfold putK stored;rw[r.any k];by_cases e:(vs.any λkv=>decide (kv.1=k))=true
 ·rw[if_pos e,if_pos e]; exact r.v_ k ry
 ·rw[if_neg e,if_neg e]; exact Paired.snoc r ⟨rfl,ry⟩
theorem KV.length(r:KV kvs vs):kvs.length=vs.length:=Paired.length r
end
theorem jf(r:RelV (kV k) u):(bX P w).is k u=true:=by
 cases k with
 | inl i=>obtain⟨t,e⟩:=(show ∃ t,u=Value.int i t from r); subst e; exact Lc P w i t
 | inr x=>obtain⟨t,e⟩:=(show ∃ t,u=Value.str x t from r); subst e; exact Ld P w x t
theorem Bu:∀ {ks:List Key} {us:List Value},Vals (ks.map kV) us->ItemsAre (bX P w) ks us
 | [],_,r=>by rw[U9] at r; cases r; exact .nil
 | k :: ks,_,r=>by
  rw[We] at r
  cases r with
  | cons h t=>exact .cons (jf h) (Bu t)
abbrev KT(H:Hp):List (List Key×V)->List (List Key×Addr×Value)->Prop:=Paired λp q=>p.1=q.1/\H q.2.1=some (.tup (p.1.map kV))/\RelV p.2 q.2.2
theorem KT.val{H:Hp}{kvs:List (List Key×V)}{xs:List (List Key×Addr×Value)}(r:KT H kvs xs)(k:List Key):dG (c_ kvs k) ((atKey xs k).map (·.2)):=by
 induction r with
 | nil=>exact True.intro
 | @cons p q ps qs h t ih =>
  obtain⟨h1,_,h2⟩:=h;by_cases e:p.1=k
  ·have e':q.1=k:=h1.symm.trans e;have b:atKey (q :: qs) k=some q.2:=by simp[atKey,WW,e']
   rw[sP e,b]; exact h2
  ·have e':¬ q.1=k:=λz=>e (h1.trans z)
   have b:atKey (q :: qs) k=atKey qs k:=by simp[atKey,WW,e']
   rw[sQ e,b]; exact ih
theorem KT.v_(r:KT H kvs xs)(k:List Key)(ry:RelV y u) :
  KT H (kvs.map λkv=>if kv.1=k then(kv.1,y) else kv) (xs.map (putAt k u)):=by
 induction r with
 | nil=>exact .nil
 | @cons p q ps qs h t ih =>
  rw[We,We];refine .cons ?_ ih;obtain⟨h1,h2,h3⟩:=h;unfold putAt;by_cases e:p.1=k
  ·rw[if_pos e,if_pos (h1.symm.trans e)]; exact⟨h1,h2,ry⟩
  ·rw[if_neg e,if_neg (λz=>e (h1.trans z))]; exact⟨h1,h2,h3⟩
theorem KT.put(r:KT H kvs xs)(k:List Key)(hb:H b=some (.tup (k.map kV)))(ry:RelV y u) :
  KT H (putK kvs k y) (storedH xs k b u):=by
 have e:(kvs.any λkv=>decide (kv.1=k))=(atKey xs k).isSome:=by
  rw[Bt,(r.val k).pX,Option.isSome_map]
 unfold putK storedH;rw[e];by_cases q:(atKey xs k).isSome=true
 ·rw[if_pos q,if_pos q]; exact r.v_ k ry
 ·rw[if_neg q,if_neg q]; exact Paired.snoc r ⟨rfl,hb,ry⟩
theorem KT.keeps(r:KT H kvs xs)(ht:∀ b ys,H b=some (.tup ys)->H' b=some (.tup ys)):KT H' kvs xs :=
 Paired.vF r λ_ _ z=>⟨z.1,ht _ _ z.2.1,z.2.2⟩
section
variable {P:Wk} {w:Wn} {H:Hp} {h:Heap} {a:Addr}
theorem Bv(ok:bN P w H h)(e:Rd H a u):bF P w H h a u:=e.ok ok
theorem lA(ok:bN P w H h)(e:Rd H a (.dK kvs)):kvs.length<=Wb/\(a == Qy)=false/\∃ vs,KV kvs vs/\h.DictOf (bX P w) a vs :=
 show bF P w H h a (.dK kvs) from Bv ok e
theorem nZ(ok:bN P w H h)(e:H a=some (.dK kvs)):kvs.length<=Wb/\(a == Qy)=false/\∃ vs,KV kvs vs/\h.DictOf (bX P w) a vs:=lA ok (.inl e)
theorem mz(ok:bN P w H h)(e:H a=some (.tup (ks.map kV))):(tupleKind (bX P w)).is h ks a:=by
 obtain⟨_,ag,r,p⟩:=(show bF P w H h a (.tup (ks.map kV)) from ok a _ e)
 obtain⟨o,h1,h2,n,h3⟩:=p.tup;exact⟨o,ag.toArray,n,h1,h2,h3,by simpa using Bu r⟩
theorem mB(ok:bN P w H h)(e:Rd H a (.dT kvs)):kvs.length<=Wb/\(a == Qy)=false /\
  ∃ xs,KT H kvs xs/\h.DictOfH (tupleKind (bX P w)) a xs:=by
 obtain⟨z,y,xs,r,o,es,ep,h1,h2,h3,h4,h5⟩:=(show bF P w H h a (.dT kvs) from Bv ok e)
 refine⟨z,y,xs,r,o,es,ep,h1,h2,h3,h4,λx hx=>?_,h5⟩;have all:∀ {l:List (List Key×V)} {m:List (List Key×Addr×Value)},KT H l m->∀ x ∈ m,(tupleKind (bX P w)).is h x.1 x.2.1:=by
  intro l m q;induction q with
  | nil=>intro x hx; exact nomatch hx
  | @cons p q ps qs hq t ih =>
   intro x hx;rcases Wq.mp hx with e | hx
   ·subst e;exact mz ok (by rw[<- hq.1]; exact hq.2.1)
   ·exact ih x hx
 exact all r x hx
theorem Nk(ok:bN P w H h)(e:H a=some (.dT kvs)):kvs.length<=Wb/\(a == Qy)=false /\
  ∃ xs,KT H kvs xs/\h.DictOfH (tupleKind (bX P w)) a xs:=mB ok (.inl e)
end
def iN(H:Hp)(a:Addr)(y:V)(r:Option V):Prop :=
 (∃ kvs k,Rd H a (.dK kvs)/\y=kV k/\r=c_ kvs k)\/∃ kvs k b,Rd H a (.dT kvs)/\y = .ref b/\H b=some (.tup (k.map kV))/\r=c_ kvs k
def pY(H:Hp)(a:Addr)(y v:V)(H':Hp):Prop :=
 (∃ kvs k,H a=some (.dK kvs)/\y=kV k/\kvs.length < Wb/\H'=upd H a (.dK (putK kvs k v))) \/
 ∃ kvs k b,H a=some (.dT kvs)/\y = .ref b/\H b=some (.tup (k.map kV))/\kvs.length < Wb/\H'=upd H a (.dT (putK kvs k v))
theorem iN.k{H:Hp}{a:Addr}{kvs:List (Key×V)}{k:Key}(e:H a=some (.dK kvs)):iN H a (kV k) (c_ kvs k):=.inl ⟨kvs,k,.inl e,rfl,rfl⟩
theorem pY.k{H:Hp}{a:Addr}{kvs:List (Key×V)}{k:Key}{v:V}(e:H a=some (.dK kvs))(hl:kvs.length < Wb):pY H a (kV k) v (upd H a (.dK (putK kvs k v))):=.inl ⟨kvs,k,e,rfl,hl,rfl⟩
section
variable {X:Cx} {pins:List (Addr×Obj)} {σ:St} {H:Hp} {s:W2} {a:Addr} {y v:V} {u r:Value} {o:Option V} {A:Wr} {E:Value->W2->Prop}
theorem Inv.big(I:Inv X pins σ H s):Qy < s.heap.objs.size:=by
 have h:Wv < s.heap.objs.size:=(I.mod.glob.keeps I.bk).lt;exact Nat.lt_trans Z' h
theorem Nl(hu:A.units + 1 < WZ)(I:Inv X pins σ H s)(g:iN H a y (some v))(ry:RelV y u)(h:∀ w' s',Inv X pins σ H s'->RelV v w'->Q w' s') :
  W5 (model X.prog X.w) A (JZ (.ref a) u) Q E s:=by
 rcases g with ⟨kvs,k,e,ey,l⟩ | ⟨kvs,k,b,e,ey,eb,l⟩
 ·subst ey;obtain⟨z,hd,vs,rel,dd⟩:=lA I.ax e;obtain⟨w',hw,gD⟩:=dG.some_of (v:=v) (o:=valueAt vs k) (by rw[l]; exact rel.val k);exact wpAny_getItem_of (jf ry) dd.mapOf hw (h w' _ (I.tok _) gD)
 ·subst ey
  cases (show u=Value.ref b from ry);obtain⟨z,hd,xs,rel,dd⟩:=mB I.ax e;obtain⟨w',hw,gD⟩:=dG.some_of (v:=v) (o:=(atKey xs k).map (·.2)) (by rw[l]; exact rel.val k);obtain⟨p,hp,wa⟩:=Ww.mp hw;refine wpAny_getItem_heap (Ju hu) (mz I.ax eb) dd hp ?_;rw[wa];exact h w' _ (I.tok _) gD
theorem Nm(hu:A.units + 1 < WZ)(I:Inv X pins σ H s)(g:iN H a y o)(ry:RelV y u)(h:∀ s',Inv X pins σ H s'->Q (.bool o.isSome) s') :
  W5 (model X.prog X.w) A (WQ .In u (.ref a)) Q E s:=by
 rcases g with ⟨kvs,k,e,ey,l⟩ | ⟨kvs,k,b,e,ey,eb,l⟩
 ·subst ey;obtain⟨z,hd,vs,rel,dd⟩:=lA I.ax e;refine wpAny_in_of (jf ry) hd dd.mapOf ?_;rw[<- (rel.val k).pX,<- l];exact h _ (I.tok _)
 ·subst ey
  cases (show u=Value.ref b from ry);obtain⟨z,hd,xs,rel,dd⟩:=mB I.ax e;refine wpAny_in_heap (Ju hu) (mz I.ax eb) hd dd ?_;have q:=(rel.val k).pX;rw[Option.isSome_map] at q;rw[<- q,<- l];exact h _ (I.tok _)
theorem Nn(hu:A.units + 1 < WZ)(I:Inv X pins σ H s)(g:iN H a y o)(ry:RelV y u)(h:∀ s',Inv X pins σ H s'->Q (.bool (!o.isSome)) s') :
  W5 (model X.prog X.w) A (WQ .NotIn u (.ref a)) Q E s:=by
 rcases g with ⟨kvs,k,e,ey,l⟩ | ⟨kvs,k,b,e,ey,eb,l⟩
 ·subst ey;obtain⟨z,hd,vs,rel,dd⟩:=lA I.ax e;refine wpAny_notIn_of (jf ry) hd dd.mapOf ?_;rw[<- (rel.val k).pX,<- l];exact h _ (I.tok _)
 ·subst ey
  cases (show u=Value.ref b from ry);obtain⟨z,hd,xs,rel,dd⟩:=mB I.ax e;refine wpAny_notIn_heap (Ju hu) (mz I.ax eb) hd dd ?_;have q:=(rel.val k).pX;rw[Option.isSome_map] at q;rw[<- q,<- l];exact h _ (I.tok _)
theorem n4(I:Inv X pins σ H s)(mu:pF (H a))(hs:Qk a s.heap h')(he:∃ q,h'.get? a=some q)(new:bF X.prog X.w (upd H a ob) h' a ob) :
  Inv X pins σ (upd H a ob) { s with heap:=h',toks:=t' } :=
 I.write (x:=a) (e:=a) mu (.inl rfl) (λb q hb z=>(hs.2 b hb).trans z) he new
theorem sR(z:kvs.length<=Wb)(hd:(a == Qy)=false)(rel:KV kvs vs)(dd:h'.DictOf (bX P w) a vs) :
  bF P w H' h' a (.dK kvs):=⟨z,hd,vs,rel,dd⟩
theorem Nq(hu:A.units + 1 < WZ)(I:Inv X pins σ H s)(g:pY H a y v H')(ry:RelV y u)(rv:RelV v r)(h:∀ s',Inv X pins σ H' s'->Q () s') :
  W5 (model X.prog X.w) A (setItem (.ref a) u r) Q E s:=by
 rcases g with ⟨kvs,k,e,ey,l,eH⟩ | ⟨kvs,k,b,e,ey,eb,l,eH⟩
 ·subst ey eH;obtain⟨z,hd,vs,rel,dd⟩:=nZ I.ax e;have hz:vs.length<=Wb:=by rw[<- rel.length]; exact z
  have hl:(putK kvs k v).length<=Wb:=by have:=nY kvs k v; lia
  refine wpAny_setItem_pairs (hsz:=hz) (jf ry) dd λh' ie hs=>h _ ?_
  have he:∃ q,h'.get? a=some q:=let ⟨q,_,_,hq,_⟩:=ie; ⟨q,hq⟩
  exact n4 I (by rw[e]; exact True.intro) hs he (sR hl hd (rel.put k rv) ie)
 ·subst ey eH
  cases (show u=Value.ref b from ry);obtain⟨z,hd,xs,rel,dd⟩:=Nk I.ax e;have hz:xs.length<=Wb:=by rw[<- Paired.length rel]; exact z
  have hl:(putK kvs k v).length<=Wb:=by have:=nY kvs k v; lia
  refine wpAny_setItem_heap (hsz:=hz) (Ju hu) (mz I.ax eb) dd λh' ie hs=>h _ ?_
  obtain⟨q,es,ep,hq,h2,h3,h4,_,h5⟩:=ie;refine n4 I (by rw[e]; exact True.intro) hs ⟨q,hq⟩ ⟨hl,hd,_,(rel.put k eb rv).keeps λc ys ec=>?_,q,es,ep,hq,h2,h3,h4,h5⟩;rw[aH (Lg ec e (λz=>nomatch z))];exact ec
end
section
variable {X:Cx} {pins:List (Addr×Obj)} {σ:St} {H:Hp} {s:W2} {a:Addr} {kvs:List (Key×V)} {k:Key} {u:Value} {A:Wr} {E:Value->W2->Prop}
theorem Nr (I:Inv X pins σ H s) (e:Rd H a (.dK kvs)) (h:∀ t s',Inv X pins σ H s'->Q (.int kvs.length t) s'):W5 (model X.prog X.w) A (call (.builtin "len") [.ref a]) Q E s:=by
 obtain⟨z,hd,vs,rel,dd⟩:=lA I.ax e;refine call_len_dict hd dd (by rw[<- rel.length]; rw[Jn] at z; lia) ?_;rw[<- rel.length];exact h _ _ (I.tok _)
end
def Nt(td ty tv:TE):TS:=λD σ H=>tv σ H λv H1=>td σ H1 λx H2=>ty σ H2 λy H3=>∃ a H4,x = .ref a/\pY H3 a y v H4/\D.nx σ H4
section
variable {X:Cx} {o i e value:Expr} {pos pos' tpos:Pos} {td ty tv:TE}
theorem Nu(hu:X.A.units + 1 < WZ)(ho:PE X o td)(hi:PE X i ty)(hv:PE X value tv)(hs:QZ value (some (.Subscript o i pos')) pos.line X.env=pure false) :
  PS X (.Assign [.Subscript o i pos'] value pos) (Nt td ty tv):=by
 intro pins s σ H D I h;refine wpAny_Assign_Subscript (aF (hv pins s σ H _ I h) λr s1 ⟨v,H1,I1,rv,q1⟩=>aF (ho pins s1 σ H1 _ I1 q1) λu s2 ⟨x,H2,I2,rx,q2⟩=>aF (hi pins s2 σ H2 _ I2 q2) λiv s3 ⟨y,H3,I3,ry,a,H4,ex,g,q3⟩=>?_) hs;subst ex;obtain rfl:u=Value.ref a:=rx;exact Nq hu I3 g ry rv λs4 I4=>⟨σ,H4,I4,q3⟩
end
theorem wb (h:Heap) (hb:Qy < h.objs.size):bF P w H (h.push { cls:=.type "dict",data:=.dict #[] }) h.objs.size (.dK []) :=
 ⟨Qn _,beq_eq_false_iff_ne.mpr (Ne.symm (Wo hb)),[],.nil,Heap.DictOf.new h⟩
def Nv:TE:=λ_ H Q=>∀ p,H p=none->Q (.ref p) (upd H p (.dK []))
section
variable {X:Cx} {pos:Pos}
theorem Nw:PE X (.Dict [] [] pos) Nv:=λpins s σ H Q I h =>
 wpAny_Dict_empty ⟨.ref s.heap.objs.size,_,I.laid (a:=s.heap.objs.size) (o:=.dK []) (t':=s.toks) (λ_ _ q=>W3 _ q) (Wa _) (wb s.heap I.big),rfl,h _ (I.ax.fresh (Wa _))⟩
end
def wc:List (TE×TE)->St->Hp->(List (V×V)->Hp->Prop)->Prop
 | [],_,H,Q=>Q [] H
 | (tk,tv) :: r,σ,H,Q=>tk σ H λx H1=>tv σ H1 λy H2=>wc r σ H2 λps H3=>Q ((x,y) :: ps) H3
abbrev VV:List (V×V)->List (Value×Value)->Prop:=Paired λp q=>RelV p.1 q.1/\RelV p.2 q.2
def sS(X:Cx)(pos:Pos)(keys:List (Option Expr))(values:List Expr)(mC:List (TE×TE)):Prop :=
 ∀ (pins:List (Addr×Obj)) (s:W2) (σ:St) (H:Hp) (Q:List (V×V)->Hp->Prop),Inv X pins σ H s->wc mC σ H Q ->
  W5 (model X.prog X.w) X.A (evalPairs (pairTrees keys values X.env pos)) (λvs s'=>∃ ps H',Inv X pins σ H' s'/\VV ps vs/\Q ps H') X.xe s
theorem Nx:sS X pos [] [] []:=λpins s σ H Q I h=>pairTrees_nil_walk ⟨[],H,I,.nil,h⟩
theorem Ny(hk:PE X k tk)(hv:PE X v tv)(hr:sS X pos ks vs mC) :
  sS X pos (some k :: ks) (v :: vs) ((tk,tv) :: mC):=λpins s σ H Q I h =>
 pairTrees_cons_walk (aF (hk pins s σ H _ I h) λu s1 ⟨x,H1,I1,rx,q1⟩=>aF (hv pins s1 σ H1 _ I1 q1) λw2 s2 ⟨y,H2,I2,ry,q2⟩ =>
  aF (hr pins s2 σ H2 _ I2 q2) λws s3 ⟨ps,H3,I3,rel,q3⟩=>⟨(x,y) :: ps,H3,I3,.cons ⟨rx,ry⟩ rel,q3⟩)
def mE(kvs more:List (Key×V)):List (Key×V):=more.foldl (λacc kv=>putK acc kv.1 kv.2) kvs
theorem KV.merge:∀ {more:List (Key×V)} {rs:List (Key×Value)} {kvs:List (Key×V)} {vs:List (Key×Value)},KV more rs->KV kvs vs->KV (mE kvs more) (merged vs rs):=by
 intro more rs kvs vs r;unfold KV at r;induction r generalizing kvs vs with
 | nil=>intro q; exact q
 | @cons p q ps qs h t ih =>
  intro r0;have e:KV (putK kvs p.1 p.2) (stored vs q.1 q.2):=by
   have:=r0.put p.1 h.2;rw[<- h.1]; exact this
  exact ih e
theorem Bw:∀ (more kvs:List (Key×V)),(mE kvs more).length<=kvs.length + more.length
 | [],kvs=>by show kvs.length<=kvs.length + 0; lia
 | p :: r,kvs=>by
  have h1:=Bw r (putK kvs p.1 p.2);have h2:=nY kvs p.1 p.2;show(mE (putK kvs p.1 p.2) r).length<=_;rw[WA]; lia
theorem Bx:∀ {kvs:List (Key×V)} {ws:List (Value×Value)},VV (kvs.map λkv=>(kV kv.1,kv.2)) ws->∃ rs,Carries (bX P w) ws rs/\KV kvs rs
 | [],_,r=>by rw[U9] at r; cases r; exact⟨[],True.intro,.nil⟩
 | p :: kvs,_,r=>by
  rw[We] at r
  cases r with
  | @cons a b as bs h t =>
   obtain⟨rs,c,q⟩:=Bx (P:=P) (w:=w) t;obtain⟨b1,b2⟩:=b;exact⟨(p.1,b2) :: rs,⟨jf h.1,rfl,c⟩,.cons ⟨rfl,h.2⟩ q⟩
def Nz(mC:List (TE×TE)):TE:=λσ H Q=>∀ p,H p=none->wc mC σ (upd H p (.dK [])) λps H2=>H2 p=some (.dK [])/\∃ kvs:List (Key×V),ps=kvs.map (λkv=>(kV kv.1,kv.2))/\kvs.length<=15/\Q (.ref p) (upd H2 p (.dK (mE [] kvs)))
theorem NA(h:sS X pos keys values mC)(fQ:keys.all (·.isSome)=true)(hl:keys.length=values.length)(h0:keys≠[])
  (NB:keys.length<=15):PE X (.Dict keys values pos) (Nz mC):=by
 intro pins s σ H Q I q;have hn:=I.ax.fresh (Wa s.heap.objs.size);have I1:=I.laid (a:=s.heap.objs.size) (o:=.dK []) (h':=s.heap.push { cls:=.type "dict",data:=.dict #[] }) (t':=s.toks) (λ_ _ q=>W3 _ q) (Wa _) (wb s.heap I.big);refine wpAny_Dict_walk (knd:=bX X.prog X.w) fQ hl h0 NB (aF (h pins _ σ _ _ I1 (q _ hn)) λws s2 ⟨ps,H2,I2,rel,e,kvs,ep,lk,q2⟩=>?_);subst ep;obtain⟨rs,c,rk⟩:=Bx (P:=X.prog) (w:=X.w) rel;obtain⟨z,hd,vs0,r0,dd⟩:=nZ I2.ax e
 cases r0;refine⟨rs,c,dd,λh' ie hs=>⟨.ref s.heap.objs.size,_,?_,rfl,q2⟩⟩;have hz:(mE [] kvs).length<=Wb:=by
  have h1:=Bw kvs [];rw[U1] at h1;rw[Jn]; lia
 have he:∃ q,h'.get? s.heap.objs.size=some q:=let ⟨q,_,_,hq,_⟩:=ie; ⟨q,hq⟩
 exact n4 I2 (by rw[e]; exact True.intro) hs he (sR hz hd (rk.merge .nil) ie)
structure M1(X:Cx)(o:Expr)(m:Str)(apos:Pos)(e:Expr)(aO:Pos):Prop where
 base:Qr o m X.env (eval o X.env)=eval o X.env
 pZ:((Qi aO (Wh [e] X.env)).all (λx=>!x.1) && (Uf aO (Jo [] X.env)).all (λx=>x.1.isSome)
  && decide (([e]:List Expr).length + ([]:List Keyword).length + (if ([]:List Keyword).isEmpty then 0 else 1) < 30))=true
 line:(apos.endLine == aO.line)=true
 trees:Qi aO (Wh [e] X.env)=[(false,eval e X.env)]
structure M2(X:Cx)(o:Expr)(m:Str)(apos:Pos)(e f:Expr)(aO:Pos):Prop where
 base:Qr o m X.env (eval o X.env)=eval o X.env
 pZ:((Qi aO (Wh [e,f] X.env)).all (λx=>!x.1) && (Uf aO (Jo [] X.env)).all (λx=>x.1.isSome)
  && decide (([e,f]:List Expr).length + ([]:List Keyword).length + (if ([]:List Keyword).isEmpty then 0 else 1) < 30))=true
 line:(apos.endLine == aO.line)=true
 trees:Qi aO (Wh [e,f] X.env)=[(false,eval e X.env),(false,eval f X.env)]
def sT(H:Hp)(a:Addr):Prop:=(∃ kvs,Rd H a (.dK kvs))\/∃ kvs,Rd H a (.dT kvs)
theorem we(I:Inv X pins σ H s)(d:sT H a) :
  s.TypeIs (.ref a) "dict"/\(∀ b,Value.ref a = .ref b->∃ ob,s.heap.get? b=some ob/\ob.dict=none)/\(a == Qy)=false:=by
 rcases d with ⟨kvs,e⟩ | ⟨kvs,e⟩
 ·obtain⟨_,hd,vs,_,dd⟩:=lA I.ax e;refine⟨dd.typeIs,λb q=>?_,hd⟩
  cases q;obtain⟨ob,_,_,h1,h2,_⟩:=dd;exact⟨ob,h1,h2.2.1⟩
 ·obtain⟨_,hd,xs,_,dd⟩:=mB I.ax e;refine⟨dd.typeIs,λb q=>?_,hd⟩
  cases q;obtain⟨ob,_,_,h1,h2,_⟩:=dd;exact⟨ob,h1,h2.2.1⟩
section
variable {X:Cx} {pins:List (Addr×Obj)} {σ:St} {H:Hp} {s:W2} {a:Addr} {y d:V} {u r:Value} {o:Option V} {A:Wr} {E:Value->W2->Prop}
theorem NC(hu:A.units + 1 < WZ)(I:Inv X pins σ H s)(g:iN H a y o)(ry:RelV y u)(h:∀ w' s',Inv X pins σ H s'->RelV (o.getD .ay) w'->Q w' s') :
  W5 (model X.prog X.w) A (call (.builtin "dict.get") [.ref a,u]) Q E s:=by
 rcases g with ⟨kvs,k,e,ey,l⟩ | ⟨kvs,k,b,e,ey,eb,l⟩
 ·subst ey;obtain⟨z,hd,vs,rel,dd⟩:=lA I.ax e;refine call_meetsIn Qt dd.typeIs Jp (PySem.F.args_dict_get_2 _ _) (meets_dict_get (bX X.prog X.w) a (jf ry) hd) ⟨_,dd.mapOf,h _ _ (I.tok _) ?_⟩;rw[l];exact(rel.val k).getD rfl
 ·subst ey
  cases (show u=Value.ref b from ry);obtain⟨z,hd,xs,rel,dd⟩:=mB I.ax e;refine call_meetsIn Qt dd.typeIs Jp (PySem.F.args_dict_get_2 _ _) (meetsH_dict_get (tupleKind (bX X.prog X.w)) a b hd) ⟨Ju hu,k,xs,mz I.ax eb,dd,h _ _ (I.tok _) ?_⟩;rw[l];exact(rel.val k).getD rfl
theorem ND(hu:A.units + 1 < WZ)(I:Inv X pins σ H s)(g:iN H a y o)(ry:RelV y u)(rd:RelV d r)(h:∀ w' s',Inv X pins σ H s'->RelV (o.getD d) w'->Q w' s') :
  W5 (model X.prog X.w) A (call (.builtin "dict.get") [.ref a,u,r]) Q E s:=by
 rcases g with ⟨kvs,k,e,ey,l⟩ | ⟨kvs,k,b,e,ey,eb,l⟩
 ·subst ey;obtain⟨z,hd,vs,rel,dd⟩:=lA I.ax e;refine call_meetsIn Qt dd.typeIs Jp (PySem.F.args_dict_get_3 _ _ _) (meets_dict_get_default (bX X.prog X.w) a (jf ry) hd r) ⟨_,dd.mapOf,h _ _ (I.tok _) ?_⟩;rw[l];exact(rel.val k).getD rd
 ·subst ey
  cases (show u=Value.ref b from ry);obtain⟨z,hd,xs,rel,dd⟩:=mB I.ax e;refine call_meetsIn Qt dd.typeIs Jp (PySem.F.args_dict_get_3 _ _ _) (meetsH_dict_get_default (tupleKind (bX X.prog X.w)) a b hd r) ⟨Ju hu,k,xs,mz I.ax eb,dd,h _ _ (I.tok _) ?_⟩;rw[l];exact(rel.val k).getD rd
end
def NF(td ty:TE):TE:=λσ H Q=>td σ H λx H1=>∃ a,x = .ref a/\sT H1 a/\ty σ H1 λy H2=>∃ o,iN H2 a y o/\Q (o.getD .ay) H2
def NG(td ty tx:TE):TE:=λσ H Q=>td σ H λx H1=>∃ a,x = .ref a/\sT H1 a/\ty σ H1 λy H2=>tx σ H2 λz H3=>∃ o,iN H3 a y o/\Q (o.getD z) H3
section
variable {X:Cx} {o e f:Expr} {apos aO:Pos} {td ty tx:TE}
theorem NH (hu:X.A.units + 1 < WZ) (ho:PE X o td) (he:PE X e ty) (m:M1 X o "get" apos e aO):PE X (.Call (.Attribute o "get" apos) [e] [] aO) (NF td ty):=by
 intro pins s σ H Q I h;refine JB m.base m.pZ m.line JW Qt PySem.F.type_dict_get (aF (ho pins s σ H _ I h) λu s1 ⟨x,H1,I1,rx,a,ex,d,q1⟩=>?_);subst ex;obtain rfl:u=Value.ref a:=rx;obtain⟨t1,t2,_⟩:=we I1 d;refine⟨t1,t2,?_⟩;rw[m.trees];refine Calls.callWith_builtin rfl (Calls.evalArgs_plain (Calls.spliced_cons (aF (he pins s1 σ H1 _ I1 q1) λiv s2 ⟨y,H2,I2,ry,ov,g,q2⟩=>Calls.spliced_nil ?_)));exact NC hu I2 g ry λw' s3 I3 gD=>⟨_,H2,I3,gD,q2⟩
theorem NI (hu:X.A.units + 1 < WZ) (ho:PE X o td) (he:PE X e ty) (hf:PE X f tx) (m:M2 X o "get" apos e f aO):PE X (.Call (.Attribute o "get" apos) [e,f] [] aO) (NG td ty tx):=by
 intro pins s σ H Q I h;refine JB m.base m.pZ m.line JW Qt PySem.F.type_dict_get (aF (ho pins s σ H _ I h) λu s1 ⟨x,H1,I1,rx,a,ex,d,q1⟩=>?_);subst ex;obtain rfl:u=Value.ref a:=rx;obtain⟨t1,t2,_⟩:=we I1 d;refine⟨t1,t2,?_⟩;rw[m.trees];refine Calls.callWith_builtin rfl (Calls.evalArgs_plain (Calls.spliced_cons (aF (he pins s1 σ H1 _ I1 q1) λiv s2 ⟨y,H2,I2,ry,q2⟩ =>
  Calls.spliced_cons (aF (hf pins s2 σ H2 _ I2 q2) λfv s3 ⟨z,H3,I3,rz,ov,g,q3⟩=>Calls.spliced_nil ?_))))
 exact ND hu I3 g ry rz λw' s4 I4 gD=>⟨_,H3,I4,gD,q3⟩
end
end L2
namespace Att
open PySem PySem.W PySem.Calls PyProof.Rows
theorem NJ:∀ (ns:List Int) (vs:List Value),WellAll P h vs (ns.map WData.int)->IntsAre vs ns:=by
 intro ns;induction ns with
 | nil =>
  intro vs w;rw[U9] at w
  cases w;exact .nil
 | cons n ns ih =>
  intro vs w;rw[We] at w
  cases w with
  | cons a b =>
   cases a;exact .cons _ _ (ih _ b)
theorem NL{l:OpenLaw}{n:Nat}(hn:l.most=some n){P:Params}{h:Heap}{args:List WData}{vals:List Value}
  (sU:l.row.toRowW.claim.pre args=true) (wg:WellAll P h vals args) :
  ∃ a vs ns,vals=[Value.ref a]/\args=[WData.list (ns.map WData.int)]/\h.get? a=some { cls:=.type "list",data:=.seq vs.toArray }/\IntsAre vs ns/\ns.length<=n:=by
 have NM:WShape.hasAll [] args [.list .int]=true:=(pre_splitW sU).1;have hc:l.pre.holds [] { args:=args } = true:=(pre_splitW sU).2;obtain⟨d,r,rfl,h1,h2⟩:=hasAllW_cons NM;obtain rfl:=hasAllW_nil h2;obtain⟨xs,rfl,h3⟩:=hasW_list h1;obtain⟨ns,rfl⟩:=items_int h3;have hlen:ns.length<=n:=by
  unfold OpenLaw.pre at hc;have h4:(WTm.not (.lt (.lit (.int (n:Int))) (.len (.arg 0)))).holds [] { args:=[.list (ns.map .int)] } = true:=by
   have h4:=(holds_andW hc).1;rw[hn] at h4;exact h4
  have h5:=condW_of h4 (w_not (w_lt w_lit (w_len_list (w_arg rfl))));rw[Wx] at h5;refine Nat.le_of_not_lt λq=>?_
  have q':(n:Int) < ((ns.length:Nat):Int):=by lia
  first
   | (rw[decide_eq_true q'] at h5; exact absurd h5 Z')
   | (simp at h5; lia)
 cases wg with
 | cons w1 w2 =>
  cases w2
  cases w1 with
  | list ho fQ=>exact⟨_,_,ns,rfl,rfl,ho,NJ ns _ fQ,hlen⟩
theorem NN(l:OpenLaw)(args:List WData):l.row.toRowW.claim.post args (.bool true) args=true :=
 postW_of (r:=l.row.toRowW) (X:=(true == true))
  (show WShape.has [] (.bool true) .bool=true by first | rfl | decide | simp[WShape.has,WShape.arms,WShape.armsAll])
  (show(WTm.eq .res (.lit (.bool true))).value [] { args:=args,res:=some (.bool true),after:=args } = some (.bool (true == true)) from w_eq_bool (w_res rfl) w_lit) rfl
theorem NO{l:OpenLaw}{n:Nat}{q:Wk}{loose:List Str}{XP:(Str->Option Value)->Heap->Prop}{YP:Wn->Heap->Prop}{d:DefRec}
  (hn:l.most=some n) (wj:d.params.defaults=[])
  (call:∀ (w:Wn) (s₀ s₁:W2) (mg mb:Str->Option Value) (fa:Addr) (o:Obj) (pm cd doc:Value) (a:Addr) (vs:List Value) (ns:List Int),
   Ground q loose [] XP w s₀ mg mb s₁.heap->YP w s₁.heap ->
   s₁.heap.get? fa=some o->o.data = .func (docDef d.name d.params d.body d.scope pm cd doc)->s₁.heap.CodeRec cd d.name->mg d.name=some (.ref fa) ->
   s₁.heap.get? a=some { cls:=.type "list",data:=.seq vs.toArray }->IntsAre vs ns->ns.length<=n->s₁.gens = #[] ->
   QK (model l.prog w) callerA (.call (.ref fa) ⟨[.ref a],[]⟩) (λr s'=>r = .ok (.ret (.bool true))/\OldK s₁.heap s'.heap/\s'.os=s₁.os/\AllBare s'.gens) s₁) :
  WalkO q loose XP YP l.row.toRowW d [] (λf vs=>PySem.call f vs):=by
 intro w s₀ s₁ mg mb G Y fa o pm cd doc dV kV ho hd gy hD mF hg args vals as sU hlay hrd wg hlo;obtain rfl:dV = .none:=Dflts.none hD wj;obtain rfl:kV = .none:=Dflts.noKw hD;obtain⟨a,vs,ns,rfl,rfl,wm,hints,hlen⟩:=NL hn sU wg;refine enter_call (JJ (call w s₀ s₁ mg mb fa o pm cd doc a vs ns G Y ho (fd_plain hd) gy mF wm hints hlen hg) λr s' hq=>?_);obtain⟨rfl,h2,h3,h4⟩:=hq;exact⟨.inl ⟨.bool true,.bool true,[],rfl,λ_=>rfl,.bool true,NN l _,λ_=>⟨List.Pairwise.nil,λ_ hm=>(nomatch hm)⟩⟩,h2,h3,h4⟩
end Att
namespace L2
open PySem PySem.Spec PyProof.Rows
theorem By:∀ {vs:List Value} {ns:List Int},IntsAre vs ns->Vals (ns.map V.int) vs
 | _,_,.nil=>.nil
 | _,_,.cons n t h=>.cons ⟨t,rfl⟩ (By h)
def qau(H:Hp):Prop:=∀ b,H b=none\/∃ o xs,H b=some (.frz o (.lst xs))
abbrev KOf{K:W4}{h:Heap}(_:K.In h):W4:=K
def gR(s:Stmt):Arguments:=match s with
 | .FunctionDef _ a _ _ _ _ _ _ _ _=>a
 | _=>{ posonlyargs:=[],args:=[],vararg:=none,kwonlyargs:=[],kw_defaults:=[],kwarg:=none,defaults:=[] }
def dM(s:Stmt):List Stmt:=match s with
 | .FunctionDef _ _ b _ _ _ _ _ _ _=>b
 | _=>[]
def bw(s:Stmt):Scope:=match s with
 | .FunctionDef _ _ _ _ _ _ sc _ _ _=>sc
 | _=>{ kind:=.function,names:=[],isGenerator:=false,isCoroutine:=false }
abbrev de:ki:=λ_ _ _ _ _ _=>False
abbrev E0:XK:=λ_ _ _=>False
theorem Bz:vU de X E0:=λ_ _ _ _ _ _ _ h=>h.elim
structure dH(K:W4)(x qual:Str)(st:Stmt)(f:Addr)(fd:Q7):Prop where
 ex:∃ (oc:Value) (od:Option Addr) (kV doc pm:Value) (an:Option Addr) (aN ct:Value) (eB:Array (Option Value)),
  fd=Qf x qual (gR st) (dM st) (bw st) .none kV doc pm an aN ct/\K.lookup f=some ⟨oc,od,.func fd,eB⟩/\PySem.W.codeIn K aN qual=true
 kp:JI K (.ref f)=true
section
variable {P:Wk} {w:Wn} {K:W4} {mg:Str->Option Value} {base:Heap}
theorem dH.ok{x qual:Str}{st:Stmt}{f:Addr}{fd:Q7}{N ps:List Str}{k:Nat}{sp:Sp}(F:dH K x qual st f fd)(S:f_ N ps (bw st))(len:∀ vs H Q E,sp vs H Q E->vs.length=ps.length)
  (dJ:∀ (aN:Value) (A:Wr) (outer:List Env) (s:W2) (H:Hp) (vs:List V) (Q:VK) (E:XK),bY k (A.deeper (JA qual (bw st) s.heap.objs.size f aN))->sp vs H Q E ->
   ∃ t,dX (fz de P w K mg base N qual (bw st) f aN A outer s H E).f6 (dM st) t/\t { nx:=λ_ H'=>Q .ay H',rt:=Q } (fP N vs) H):iM P w K mg base de (k + 1) f fd ps sp:=by
 obtain⟨oc,od,kV,doc,pm,an,aN,ct,eB,rfl,lk,gy⟩:=F.ex;refine A7 lk gy S len λA outer s H vs Q E hr mw=>?_
 obtain⟨t,h,q⟩:=dJ aN A outer s H vs Q E hr mw;exact⟨t,h.f6,q⟩
theorem dH.binds{x qual:Str}{st:Stmt}{f:Addr}{fd:Q7}{ps:List Str}(F:dH K x qual st f fd)
  (h:∀ (kV doc pm:Value) (an:Option Addr) (aN ct:Value) (us:List Value),us.length=ps.length->bindArgs (Qf x qual (gR st) (dM st) (bw st) .none kV doc pm an aN ct) ⟨us,[]⟩=pure (ps.zip us)):Binds K fd ps []:=by
 obtain⟨oc,od,kV,doc,pm,an,aN,ct,eB,rfl,lk,gy⟩:=F.ex;exact .all (h kV doc pm an aN ct)
theorem wo{x qual:Str}{st:Stmt}{f:Addr}{oc:Value}{od an:Option Addr}{eB:Array (Option Value)}{kV doc pm aN ct:Value}(l:K.lookup f=some ⟨oc,od,.func (Qf x qual (gR st) (dM st) (bw st) .none kV doc pm an aN ct),eB⟩)
  (c:PySem.W.codeIn K aN qual=true) (k:JI K (.ref f)=true):dH K x qual st f (Qf x qual (gR st) (dM st) (bw st) .none kV doc pm an aN ct):=⟨⟨oc,od,kV,doc,pm,an,aN,ct,eB,rfl,l,c⟩,k⟩
end
theorem NP(h:n<=1000):n < Wb:=Nat.lt_of_le_of_lt h Z'
section
variable {X:Cx}
theorem pv (i:Nat) (hN:X.N[i]? = some x:=by rfl) (hv:sg X.env.scope x:=by first | exact Or.inl rfl | exact Or.inr (Or.inl rfl) | exact Or.inr (Or.inr rfl)) (hd:(x == ("__debug__" : Str))=false:=by decide)
  (gy:(x == ("__classdict__" : Str))=false:=by decide):PE X (.Name x pos) (cM i):=Lr hN hv hd gy
theorem NQ:eA X (.builtin "len") (λxs H Q=>∃ a kvs,xs=[V.ref a]/\H a=some (.dK kvs)/\Q (.int kvs.length) H):=by
 intro pins s σ H xs us Q I r h;obtain⟨a,kvs,rfl,ha,q⟩:=h;obtain⟨u,rfl,ru⟩:=h_ r
 cases ru;exact Nr I (.inl ha) λt s' I'=>⟨.int kvs.length,H,I',⟨t,rfl⟩,q⟩
end
def fR(cells:List (Str×Addr)):List (Str×NameKind)->List (Str×Addr)->List (Str×Addr)
 | [],acc=>acc
 | (n,k) :: r,acc=>fR cells r (if k == .free then(match cells.lookup n with | some a=>(n,a) :: acc | none=>acc) else acc)
theorem wq(f:Str×NameKind->List (Str×Addr)->Sem (ForInStep (List (Str×Addr))))
  (hf:∀ name kind cs,f (name,kind) cs=if kind == .free then(do let a <- cellOf env name; pure (.yield ((name,a) :: cs))) else pure (.yield cs)) :
  ∀ (names:List (Str×NameKind)) (acc:List (Str×Addr)),(∀ x ∈ names,x.2=NameKind.free->∃ c,env.cells.lookup x.1=some c)->(forIn names acc f:Sem (List (Str×Addr)))=pure (fR env.cells names acc)
 | [],acc,_=>by rw[List.forIn_nil]; rfl
 | (n,k) :: r,acc,h=>by
  rw[List.forIn_cons,hf];unfold fR;by_cases hk:(k == NameKind.free)=true
  ·obtain⟨c,hc⟩:=h (n,k) W7 (by simpa using hk);have fZ:env.cells.lookup n=some c:=hc;have e:cellOf env n=pure c:=by unfold cellOf; rw[fZ]
   rw[if_pos hk,if_pos hk,e,fZ];exact wq f hf r _ λx hx=>h x (W9 _ hx)
  ·rw[if_neg hk,if_neg hk];exact wq f hf r _ λx hx=>h x (W9 _ hx)
theorem BA(h:∀ x ∈ scope.names,x.2=NameKind.free->∃ c,env.cells.lookup x.1=some c):closureFor scope env=pure (fR env.cells scope.names []):=by
 unfold closureFor;dsimp only;rw[wq (env:=env) _ (λname kind cs=>by all_goals grind) scope.names [] h];rfl
theorem BC:∀ (names:List (Str×NameKind)) (acc:List (Str×Addr)),(n,c) ∈ fR cells names acc->(n,c) ∈ acc\/((n,NameKind.free) ∈ names/\cells.lookup n=some c)
 | [],acc,h=>.inl h
 | (y,k) :: r,acc,h=>by
  unfold fR at h;rcases BC r _ h with q | ⟨q,e⟩
  all_goals grind
theorem BG:∀ (names:List (Str×NameKind)) (acc:List (Str×Addr)),(acc.lookup n).isSome=true\/((n,NameKind.free) ∈ names/\(cells.lookup n).isSome=true)->((fR cells names acc).lookup n).isSome=true
 | [],acc,h=>h.elim id (by grind)
 | (y,k) :: r,acc,h=>by
  unfold fR;apply BG r;by_cases hk:(k == NameKind.free)=true
  ·rw[if_pos hk]
   cases e:cells.lookup y with
   | none =>
    rcases h with h | ⟨h1,h2⟩
    ·exact .inl h
    ·rcases Wq.mp h1 with z | z
     ·cases z;rw[e] at h2; cases h2
     ·exact .inr ⟨z,h2⟩
   | some a =>
    by_cases hn:(n == y)=true
    ·refine .inl ?_;show(List.lookup n ((y,a) :: acc)).isSome=true;rw[QA,hn];rfl
    ·rcases h with h | ⟨h1,h2⟩
     ·refine .inl ?_;show(List.lookup n ((y,a) :: acc)).isSome=true;have vH:(n == y)=false:=by simpa using hn
      rw[QA,vH];exact h
     ·rcases Wq.mp h1 with z | z
      ·cases z;exact absurd U' hn
      ·exact .inr ⟨z,h2⟩
  ·rw[if_neg hk];rcases h with h | ⟨h1,h2⟩
   ·exact .inl h
   ·rcases Wq.mp h1 with z | z
    ·cases z;exact absurd rfl hk
    ·exact .inr ⟨z,h2⟩
theorem wt:∀ (names:List (Str×NameKind)) (h:Heap) (acc:List (Str×Addr)),(n,c) ∈ QT h.objs.size names acc ->
  (n,c) ∈ acc\/((n,NameKind.cell) ∈ names/\h.objs.size<=c/\(Us h names).IsCell c none)
 | [],_,_,h=>.inl h
 | (y,k) :: r,h,acc,hm=>by
  unfold QT at hm;unfold Us;by_cases hk:(k == NameKind.cell)=true
  ·rw[if_pos hk] at hm;rw[if_pos hk];have p_:k=NameKind.cell:=by simpa using hk
   have sz:(h.push { cls:=.type "cell",data:=.cell none }).objs.size=h.objs.size + 1:=QE ..;rw[<- sz] at hm;rcases wt r _ _ hm with q | ⟨q1,q2,q3⟩
   ·rcases Wq.mp q with z | z
    ·cases z;refine .inr ⟨by rw[p_]; exact W7,Wa _,?_⟩;exact Heap.IsCell.keeps ⟨_,Wi _ rfl,rfl⟩ (pushCells_keeps r _)
    ·exact .inl z
   ·exact .inr ⟨W9 _ q1,by rw[sz] at q2; lia,q3⟩
  ·rw[if_neg hk] at hm;rw[if_neg hk];rcases wt r _ _ hm with q | ⟨q1,q2,q3⟩
   ·exact .inl q
   ·exact .inr ⟨W9 _ q1,q2,q3⟩
theorem wu:∀ (names:List (Str×NameKind)) (k:Nat) (acc:List (Str×Addr)),(∀ n n' c,(n,c) ∈ acc->(n',c) ∈ acc->n=n')->(∀ n c,(n,c) ∈ acc->c < k) ->
  ∀ n n' c,(n,c) ∈ QT k names acc->(n',c) ∈ QT k names acc->n=n'
 | [],_,_,h,_=>h
 | (y,kd) :: r,k,acc,h,hb=>by
  unfold QT;by_cases hk:(kd == NameKind.cell)=true
  ·rw[if_pos hk];refine wu r (k + 1) _ (λn n' c h1 h2=>?_) λn c hm=>?_
   all_goals grind
  ·rw[if_neg hk];exact wu r k acc h hb
theorem mG{env:Env}{x:Str}:∀ {names:List (Str×NameKind)} {k:NameKind},
  (names.map λ(y:Str×NameKind)=>if (y.2 == NameKind.free && env.scope.kind == .function && env.kindOf y.1 == some .cell) then(y.1,NameKind.cell) else(y.1,y.2)).lookup x=some k ->
  names.lookup x=some k\/(k=NameKind.cell/\names.lookup x=some .free)
 | [],_,h=>by simp at h
 | (n,kd) :: r,k,h=>by
  rw[We] at h;have ih:=@mG env x r k
  cases hx:x == n with
  | true =>
   by_cases hc:(kd == NameKind.free && env.scope.kind == .function && env.kindOf n == some .cell)=true
   ·rw[if_pos hc,QA,hx] at h
    cases h;simp only[Wy] at hc;have:kd=NameKind.free:=by simpa using hc.1.1
    exact .inr ⟨rfl,by rw[QA,hx,this]⟩
   ·rw[if_neg hc,QA,hx] at h
    cases h;exact .inl (by rw[QA,hx])
  | false =>
   have h':(r.map λ(y:Str×NameKind)=>if (y.2 == NameKind.free && env.scope.kind == .function && env.kindOf y.1 == some .cell) then(y.1,NameKind.cell) else(y.1,y.2)).lookup x=some k:=by
    by_cases hc:(kd == NameKind.free && env.scope.kind == .function && env.kindOf n == some .cell)=true
    ·rw[if_pos hc,QA,hx] at h; exact h
    ·rw[if_neg hc,QA,hx] at h; exact h
   rw[QA,hx];exact ih h'
def eU(X:Cx)(scope:Scope)(s₀:W2)(H₀:Hp)(ex:List Addr):Cx :=
 { X with
  env:={ scope:=relabel scope X.env,locals:=s₀.heap.objs.size,globals:=X.env.globals,cells:=QT (s₀.heap.objs.size + 1) scope.names (fR X.env.cells scope.names []),qual:=X.env.qual,func:=none,code:=X.env.code,frame:=X.env.frame,builtins:=X.env.builtins }
  s₀:=s₀
  H₀:=H₀
  outer:=X.stack
  ex:=ex
  fn:=λx=>scope.names.lookup x == some .cell
  pn:=[]
  xe:=λ_ _=>False }
structure mH(X:Cx)(scope:Scope)(cs:List Nat):Prop where
 kind:scope.kind = .function
 names:∀ x ∈ scope.names,x.2 = .local->scope.names.lookup x.1=some .local
 free:∀ x ∈ scope.names,x.2 = .free->X.env.kindOf x.1=some .cell\/X.env.kindOf x.1=some .free
 nd:(scope.names.map (·.1)).Nodup
 own:∀ (i:Nat) x,X.N[i]? = some x->scope.names.lookup x=some .local\/scope.names.lookup x=some .cell->i ∈ cs
def bq(cs:List Nat)(σ:St):St:=cs.foldl (λσ i=>σ.set i none) σ
theorem sV(cs:List Nat):∀ σ:St,(bq cs σ).length=σ.length:=by
 induction cs with
 | nil=>intro σ; rfl
 | cons i r ih =>
  intro σ;show(bq r (σ.set i none)).length=_;rw[ih]; simp
theorem lB:∀ (cs:List Nat) (σ:St) (i:Nat) (v:V),(bq cs σ)[i]? = some (some v)->σ[i]? = some (some v)/\i ∉ cs:=by
 intro cs;induction cs with
 | nil=>intro σ i v h; exact⟨h,U'⟩
 | cons j r ih =>
  intro σ i v h;have h':(bq r (σ.set j none))[i]? = some (some v):=h;obtain⟨h1,h2⟩:=ih _ i v h';by_cases e:j=i
  ·subst e;rw[Qh] at h1;simp at h1
  ·rw[W8 e] at h1;exact⟨h1,by simp only[Wq,not_or]; exact⟨Ne.symm e,h2⟩⟩
theorem wx:∀ {l:List (Str×α)},(l.map (·.1)).Nodup->(x,k) ∈ l->(x,k') ∈ l->k=k'
 | (y,j) :: r,nd,h1,h2=>by
  rw[We,WI] at nd;rcases Wq.mp h1 with e | g1 <;> rcases Wq.mp h2 with e' | g2
  ·grind
  ·grind
  ·grind
  ·exact wx nd.2 g1 g2
section
variable {X:Cx} {pins:List (Addr×Obj)} {σ:St} {H:Hp} {s:W2} {scope:Scope} {cs:List Nat} {fp:List Addr}
theorem NR(I:Inv X pins σ H s)(S:mH X scope cs)(hf:∀ b ∈ fp,f7 X pins H b)(aP:∀ b ∈ fp,b < s.heap.objs.size) :
  Inv (eU X scope s H fp) [] (bq cs σ) H { s with heap:=Us (s.heap.push { cls:=.type "dict",data:=.dict #[] }) scope.names }:=by
 have sz:(s.heap.push { cls:=.type "dict",data:=.dict #[] }).objs.size=s.heap.objs.size + 1:=QE ..;have kp:∀ b o,s.heap.get? b=some o->(Us (s.heap.push { cls:=.type "dict",data:=.dict #[] }) scope.names).get? b=some o:=λb o e=>pushCells_keeps _ _ b o (W3 _ e)
 have sW:∀ n c,(n,c) ∈ fR X.env.cells scope.names []->(n,NameKind.free) ∈ scope.names/\X.env.cells.lookup n=some c:=λn c h=>(BC _ _ h).elim (by grind) id
 have NS:∀ n c,(n,c) ∈ fR X.env.cells scope.names []->c < s.heap.objs.size:=λn c h=>by
  obtain⟨v,q⟩:=I.cell n c (sW n c h).2;exact q.lt
 have qa:∀ n c,(n,c) ∈ QT (s.heap.objs.size + 1) scope.names (fR X.env.cells scope.names []) ->
   ((n,NameKind.free) ∈ scope.names/\X.env.cells.lookup n=some c)\/((n,NameKind.cell) ∈ scope.names/\s.heap.objs.size + 1<=c/\(Us (s.heap.push { cls:=.type "dict",data:=.dict #[] }) scope.names).IsCell c none):=λn c h=>by
  rw[<- sz] at h;rcases wt _ _ _ h with q | q
  ·exact .inl (sW n c q)
  ·rw[sz] at q; exact .inr q
 have NT:=wu scope.names (s.heap.objs.size + 1) (fR X.env.cells scope.names []) (λn n' c h1 h2=>I.ok.inj n n' c (sW n c h1).2 (sW n' c h2).2) (λn c h=>Qp (NS n c h));have qb:∀ x ∈ scope.names,x.2 = .free->∃ c,X.env.cells.lookup x.1=some c:=λx hx hk=>I.ok.has x.1 (S.free x hx hk)
 have NU:∀ b ∈ fp,b ∉ fY X.stack:=λb hb z=>by
  obtain⟨_,f1,f2,_⟩:=hf b hb;rcases Wq.mp (I.pK b z) with e | e
  ·exact f1 e
  ·exact f2 e
 have NV:∀ x,(eU X scope s H fp).env.kindOf x=some .cell\/(eU X scope s H fp).env.kindOf x=some .free->scope.names.lookup x=some .cell\/scope.names.lookup x=some .free:=λx h=>by
  rcases h with h | h
  ·have h':(relabel scope X.env).names.lookup x=some .cell:=h;rcases mG (env:=X.env) (names:=scope.names) h' with q | ⟨_,q⟩
   ·exact .inl q
   ·exact .inr q
  ·have h':(relabel scope X.env).names.lookup x=some .free:=h;rcases mG (env:=X.env) (names:=scope.names) h' with q | ⟨q,_⟩
   ·exact .inr q
   ·cases q
 have BH:∀ x,scope.names.lookup x=some .cell\/scope.names.lookup x=some .free->∃ c,(QT (s.heap.objs.size + 1) scope.names (fR X.env.cells scope.names [])).lookup x=some c:=λx h=>by
  refine Option.isSome_iff_exists.mp (U5 scope.names _ _ ?_);rcases h with h | h
  ·exact .inl h
  ·refine .inr (BG _ _ (.inr ⟨WB h,?_⟩));obtain⟨c,hc⟩:=qb _ (WB h) rfl;grind
 have NW:(Us (s.heap.push { cls:=.type "dict",data:=.dict #[] }) scope.names).Ns s.heap.objs.size λ_=>none:=(Heap.Ns.new s.heap (.type "dict")).keeps (pushCells_keeps _ _)
 refine⟨⟨I.ok.mod,S.kind,I.ok.glob,I.ok.blt,Wa _,λy z c h1 h2=>NT y z c (WB h1) (WB h2),λx hx=>BH x (NV x hx),λx c jd h=>?_,I.ok.hd,I.ok.frames,.inl rfl,
  λb hb=>⟨Wo (aP b hb),λx c h e=>?_⟩,I.bs,Qe I.ok.kh I.sz,λb o e hb=>?_,NU,I.stack,I.Ag⟩,
  rfl,I.bare,Un.kept kp,⟨λ_=>none,NW,λi x v h1 h2 h3=>?_⟩,λx c h=>?_,I.ax.fresh (Wa _),λx c h=>?_,λp hp=>absurd (show p ∈ ([]:List (Addr×Obj)) from hp) U',I.ax.kept kp,(sV cs σ).trans I.len⟩
 ·rcases qa x c (WB h) with q | q
  ·have NX:scope.names.lookup x=some .cell:=by
    have:(scope.names.lookup x == some .cell)=true:=jd;exact eq_of_beq this
   have:=wx S.nd q.1 (WB NX)
   cases this
  ·exact Nat.le_of_succ_le q.2.1
 ·subst e;rcases qa x c (WB h) with q | q
  ·exact(hf c hb).2.2.2.2.1 x c q.2 rfl
  ·exact absurd (WE (aP c hb) (Nat.le_of_succ_le q.2.1)) (QN _)
 ·obtain⟨_,_,_,f3,_⟩:=hf b hb;rcases f3 with z | z
  ·exact I.ok.pI b o e z
  ·exact absurd (WE (Wj (I.ok.bs b o e).1) z) (QN _)
 ·obtain⟨h2',hni⟩:=lB cs σ i v h2;have NY:¬ (scope.names.lookup x=some .local\/scope.names.lookup x=some .cell):=λz=>hni (S.own i x h1 z)
  have sr:scope.names.lookup x=some .free:=by
   rcases h3 with h3 | h3 | h3
   ·rcases mG (env:=X.env) (names:=scope.names) h3 with q | ⟨q,_⟩
    all_goals grind
   ·rcases mG (env:=X.env) (names:=scope.names) h3 with q | ⟨_,q⟩
    ·exact absurd (.inr q) NY
    ·exact q
   ·rcases mG (env:=X.env) (names:=scope.names) h3 with q | ⟨q,_⟩
    ·exact q
    ·cases q
  have hk:=S.free _ (WB sr) rfl;obtain⟨m,hn,hl⟩:=I.loc;have NZ:sg X.env.scope x:=by
   rcases hk with hk | hk
   ·exact .inr (.inl hk)
   ·exact .inr (.inr hk)
  obtain⟨u,r,l⟩:=hl i x v h1 h2' NZ;refine⟨u,r,?_⟩;rcases l with ⟨k,_⟩ | ⟨_,c,hc,hcell⟩
  ·grind
  ·obtain⟨c',fZ⟩:=BH x (.inr sr);have e:c'=c:=by
    rcases qa x c' (WB fZ) with q | q
    ·have q2:=q.2;rw[hc] at q2; exact(WS q2).symm
    ·have:=wx S.nd q.1 (WB sr)
     cases this
   subst e;refine .inr ⟨?_,c',fZ,hcell.keeps kp⟩;rcases h3 with h3 | h3 | h3
   ·rcases mG (env:=X.env) (names:=scope.names) h3 with q | ⟨q,_⟩
    all_goals grind
   ·exact .inl h3
   ·exact .inr h3
 ·rcases qa x c (WB h) with q | q
  ·obtain⟨v,z⟩:=I.cell x c q.2;exact⟨v,z.keeps kp⟩
  ·exact⟨none,q.2.2⟩
 ·rcases qa x c (WB h) with q | q
  ·exact I.hV x c q.2
  ·exact I.ax.fresh (Nat.le_of_succ_le q.2.1)
end
abbrev kq:Value->W2->Prop:=λ_ _=>False
def BI(ifs:List Expr)(env:Env):Sem Bool:=forIn ifs true λc r=>if r=true then do let ok <- isTrue c env (eval c env); pure (ForInStep.yield ok) else pure (ForInStep.yield r)
theorem N0(I:Nat->W2->Prop)
  (turn:∀ n s,I n s->W5 (model prog w) A (Ql it) (λr s₁=>match r with
   | none=>R (.ok .next) s₁
   | some v=>W5 (model prog w) A (letOwnedTupleGo target it v) (λ_ BJ=>W5 (model prog w) A (assign target env v) (λ_ s₂ =>
     W5 (model prog w) A (BI ifs env) (λok s₃ =>
      if ok=true then W5 (model prog w) A (eval elt env) (λx s₄ =>
       W5 (model prog w) A (call (.builtin "list.append") [acc,x]) (λ_ s₅=>∃ m,m < n/\I m s₅) kq s₄) kq s₃
      else ∃ m,m < n/\I m s₃) kq s₂) kq BJ) kq s₁) kq s)
  (n:Nat) (h:I n s) :
  QK (model prog w) A (.compLoop (.ListComp elt [⟨target,iter,ifs,0⟩] scope pos) 0 it acc env) R s:=by
 refine codeAny_loop rfl I (λn s hI=>?_) n h;show W5 _ A ((compTurn (.ListComp elt [⟨target,iter,ifs,0⟩] scope pos) 0 it acc env).onRaise (λx=>do noteFrame x env; theTreesLotGoes x)) _ _ s;refine wpAny_noted ?_;rw[compTurn_list];refine W0 (wpAny_standAt (W0 (WV (turn n s hI) (λr s₁ h₁=>?_) (by grind))))
 cases r with
 | none=>exact W1 h₁
 | some v =>
  refine W0 (WV h₁ (λ_ BJ N1=>?_) (by grind));refine W0 (WV N1 (λ_ s₂ h₂=>W0 (WV h₂ (λok s₃ h₃=>?_) (by grind))) (by grind))
  cases ok with
  | false=>exact W1 ⟨rfl,h₃⟩
  | true =>
   exact W0 (W0 (WV h₃ (λx s₄ h₄=>W0 (WV h₄ (λ_ s₅ h₅=>W1 (W1 ⟨rfl,h₅⟩)) (by grind))) (by grind)))
theorem N2
  (h:Q { scope,locals:=s.heap.objs.size,globals,cells:=QT (s.heap.objs.size + 1) scope.names cl,qual,func:=none,code:=env.code,frame:=env.frame,builtins:=env.builtins }
   { s with heap:=Us (s.heap.push { cls:=.type "dict",data:=.dict #[] }) scope.names }):W5 M A (newFunctionEnv scope globals cl [] qual none .none (some env)) Q E s:=by
 simp only[newFunctionEnv,Option.isSome_some,if_true];refine W0 (wpAny_alloc ?_);refine W0 (wpAny_layCells _ (λname kind cells=>by all_goals grind) _ _ _ _ ?_);rw[show({ s with heap:=s.heap.push { cls:=.type "dict",data:=.dict #[] } }:W2).heap.objs.size=s.heap.objs.size + 1 from QE ..];exact W0 (W1 (W1 h))
def n5(X:Cx)(ifs:List Expr)(t:TT):Prop :=
 ∀ (pins:List (Addr×Obj)) (s:W2) (σ:St) (H:Hp) (Q:Bool->Hp->Prop),Inv X pins σ H s->t σ H Q->W5 (model X.prog X.w) X.A (BI ifs X.env) (TP X pins σ Q) X.xe s
def N3:TT:=λ_ H Q=>Q true H
theorem N4:n5 X [] N3:=λpins s σ H Q I h=>wpAny_tests_nil ⟨H,I,h⟩
theorem N5(h:PT X c t):n5 X [c] t:=λpins s σ H Q I q=>wpAny_tests_one (h pins s σ H Q I q)
def Le(σ σ':St):Prop:=σ'.length=σ.length/\∀ (i:Nat) (v:V),σ[i]? = some (some v)->σ'[i]? = some (some v)
def BK(cs:List Nat)(g:TG)(tt:TT)(te:TE)(σ:St)(Q:VK)(J:It)(H1:Hp):Prop :=
 ∀ l,H1 l=none->∃ W:Nat->Nat->Hp->Prop,(∃ m,W 0 m (upd H1 l (.lst [])))/\∀ i m H2,W i m H2 ->
  (J.stop i H2/\Q (.ref l) H2) \/
  (J.go i H2/\∀ x H3,J.pM i H2 x H3->g x (bq cs σ) H3 λσ4 H4=>Le (bq cs σ) σ4/\tt σ4 H4 λb H5 =>
   if b=true then te σ4 H5 λv H6=>∃ ys m',H6 l=some (.lst ys)/\ys.length < Wb/\m' < m/\W (i + 1) m' (upd H6 l (.lst (ys ++ [v]))) else ∃ m',m' < m/\W (i + 1) m' H5)
def wy(cs:List Nat)(wi:TI)(g:TG)(tt:TT)(te:TE):TE:=λσ H Q=>wi σ H λJ H1=>BK cs g tt te σ Q J H1
section
variable {X:Cx} {pins:List (Addr×Obj)} {σ:St} {H:Hp} {s:W2} {scope:Scope} {cs:List Nat} {elt tg iter:Expr} {ifs:List Expr} {pos:Pos} {g:TG} {tt:TT} {te:TE}
theorem BL{it:Addr}{fp:List Addr}{tn:Nat->Heap->Prop}{J:It}{Q:VK}{E:Value->W2->Prop}{RR:Value->Addr->Result->W2->Prop}(hc:X.calm=true)(I:Inv X pins σ H s)(S:mH X scope cs)
  (T:Turn X.prog X.w X.K tg J fp it tn) (st:tn 0 s.heap) (hf:∀ b ∈ fp,f7 X pins H b)
  (hg:∀ s₀ H₀ ex,PG (eU X scope s₀ H₀ ex) tg g) (ht:∀ s₀ H₀ ex,n5 (eU X scope s₀ H₀ ex) ifs tt) (he:∀ s₀ H₀ ex,PE (eU X scope s₀ H₀ ex) elt te) (q:BK cs g tt te σ Q J H)
  (N6:∀ l C s' H',Inv X pins σ H' s'->f7 X pins H' C->(∃ m,s'.heap.Ns C m)->Q (.ref l) H'->RR (.ref l) C (.ok .next) s') :
  W5 (model X.prog X.w) X.A (newList []) (λacc s₃=>W5 (model X.prog X.w) X.A (newFunctionEnv scope X.env.globals (fR X.env.cells scope.names []) [] X.env.qual none .none (some X.env)) (λBM s₄ =>
   QK (model X.prog X.w) X.A (.compStart (.ListComp elt [⟨tg,iter,ifs,0⟩] scope pos) 0 (.ref it) acc { BM with scope:=relabel scope X.env }) (RR acc BM.locals) s₄) E s₃) E s:=by
 refine WC ?_;have jO:H s.heap.objs.size=none:=I.ax.fresh (Wa _);obtain⟨W,⟨m0,w0⟩,turn⟩:=q s.heap.objs.size jO;generalize hl:s.heap.objs.size=l at *;have I3:Inv X pins σ (upd H l (.lst [])) { s with heap:=s.heap.push { cls:=.type "list",dict:=none,data:=.seq ([]:List Value).toArray } } :=
  I.laid (t':=s.toks) (λb u e=>W3 _ e) (Nat.le_of_eq hl) ⟨Qn _,[],0,.nil,by rw[<- hl]; exact Wi _ rfl⟩
 have N7:∀ b o,s.heap.get? b=some o->(s.heap.push { cls:=.type "list",dict:=none,data:=.seq ([]:List Value).toArray }).get? b=some o:=λb o e=>W3 _ e
 have iO:∀ b ∈ fp,b≠l:=λb hb e=>by
  obtain⟨o,ho,_⟩:=T.obj 0 _ st b hb;exact absurd (Wj ho) (by rw[e,hl]; exact QN _)
 have wz:∀ b ∈ fp,f7 X pins (upd H l (.lst [])) b:=λb hb=>⟨by rw[aH (iO b hb)]; exact(hf b hb).1,(hf b hb).2⟩
 have lq:tn 0 (s.heap.push { cls:=.type "list",dict:=none,data:=.seq ([]:List Value).toArray }):=T.keep 0 _ _ st λb _ o e=>N7 b o e
 generalize hs3:({ s with heap:=s.heap.push { cls:=.type "list",dict:=none,data:=.seq ([]:List Value).toArray } }:W2)=s3 at I3;have BN:tn 0 s3.heap:=by rw[<- hs3]; exact lq
 have N8:∀ b ∈ fp,b < s3.heap.objs.size:=λb hb=>by
  obtain⟨o,ho,_⟩:=T.obj 0 _ BN b hb;exact Wj ho
 refine N2 ?_;have I4:=NR I3 S wz N8;generalize hX:eU X scope s3 (upd H l (.lst [])) fp=X' at I4;generalize hs4:({ s3 with heap:=Us (s3.heap.push { cls:=.type "dict",data:=.dict #[] }) scope.names }:W2)=s4 at I4 ⊢;have lC:=hg s3 (upd H l (.lst [])) fp;have BO:=ht s3 (upd H l (.lst [])) fp;have BP:=he s3 (upd H l (.lst [])) fp;rw[hX] at lC BO BP;have BQ:tn 0 s4.heap:=T.keep 0 _ _ BN λb _ o e=>by rw[<- hs4]; exact pushCells_keeps _ _ b o (W3 _ e)
 have hP:X'.prog=X.prog:=by rw[<- hX]; rfl
 have hw:X'.w=X.w:=by rw[<- hX]; rfl
 have hA:X'.A=X.A:=by rw[<- hX]; rfl
 have hK:X'.K=X.K:=by rw[<- hX]; rfl
 have fZ:X'.calm=true:=by rw[<- hX]; exact hc
 have sX:X'.xe=kq:=by rw[<- hX]; rfl
 have BR:X'.env.locals=s3.heap.objs.size:=by rw[<- hX]; rfl
 have N9:({ scope:=relabel scope X.env,locals:=s3.heap.objs.size,globals:=X.env.globals,cells:=QT (s3.heap.objs.size + 1) scope.names (fR X.env.cells scope.names []),qual:=X.env.qual,func:=none,code:=X.env.code,frame:=X.env.frame,builtins:=X.env.builtins }:Env)=X'.env:=by rw[<- hX]; rfl
 have wA:∀ {H':Hp},(∀ b ∈ fp,H' b=none)->∀ b ∈ fp,f7 X' [] H' b:=λ{H'} hn b hb=>by
  have ex:X'.ex=fp:=by rw[<- hX]; rfl
  have pn:X'.pn=[]:=by rw[<- hX]; rfl
  refine⟨hn b hb,(I4.ok.sj b (by rw[ex]; exact hb)).1,I4.ok.pJ b (by rw[ex]; exact hb),.inl (by rw[ex]; exact hb),(I4.ok.sj b (by rw[ex]; exact hb)).2,λp hp=>?_⟩;rw[pn] at hp;simp at hp
 show QK (model X.prog X.w) X.A (.compStart (.ListComp elt [⟨tg,iter,ifs,0⟩] scope pos) 0 (.ref it) (.ref l) ({ scope:=relabel scope X.env,locals:=s3.heap.objs.size,globals:=X.env.globals,cells:=QT (s3.heap.objs.size + 1) scope.names (fR X.env.cells scope.names []),qual:=X.env.qual,func:=none,code:=X.env.code,frame:=X.env.frame,builtins:=X.env.builtins }:Env)) (RR (.ref l) s3.heap.objs.size) s4;rw[N9];have loop:QK (model X.prog X.w) X.A (.compLoop (.ListComp elt [⟨tg,iter,ifs,0⟩] scope pos) 0 (.ref it) (.ref l) X'.env) (RR (.ref l) s3.heap.objs.size) s4:=by
  refine N0 (λn s'=>∃ i H',Inv X' [] (bq cs σ) H' s'/\tn i s'.heap/\(∀ b ∈ fp,H' b=none)/\W i n H') ?_ m0 ⟨0,_,I4,BQ,λb hb=>(wz b hb).1,w0⟩;rintro n s5 ⟨i,H5,I5,st5,fr5,w5⟩;rcases turn i n H5 w5 with ⟨stop,qn⟩ | ⟨go,step⟩
  ·have:=T.done X' hP hw hK fZ i [] s5 (bq cs σ) H5 kq I5 (wA fr5) st5 stop;rw[hA] at this;refine aF this λr s6 ⟨hr,I6⟩=>?_
   subst hr;have b6:=I6.base;have e1:X'.fs=fY X.stack:=by rw[<- hX]; rfl
   have e2:X'.ex=fp:=by rw[<- hX]; rfl
   have e3:X'.H₀=upd H l (.lst []):=by rw[<- hX]; rfl
   have e4:X'.s₀=s3:=by rw[<- hX]; rfl
   rw[e1,e2,e3,e4] at b6;have o6:s6.os=s3.os:=by rw[<- e4]; exact I6.os
   have N_:bN X.prog X.w H5 s6.heap:=by rw[<- hP,<- hw]; exact I6.ax
   have J6:Inv X pins σ H5 s6:=I3.Lq o6 b6 N_ I6.bare λb hb=>by
    obtain⟨_,f1,_,f3,f4,f5⟩:=wz b hb;exact⟨f3,f1,f4,f5⟩
   obtain⟨m6,n6,_⟩:=I6.loc;rw[BR] at n6;refine N6 l s3.heap.objs.size s6 H5 J6 (I3.iJ (Wa _) ?_) ⟨m6,n6⟩ qn;rw[<- BR];exact I6.free
  ·have:=T.item X' hP hw hK fZ i [] s5 (bq cs σ) H5 kq I5 (wA fr5) st5 go;rw[hA] at this;refine aF this λr s6 ⟨u,hr,h6⟩=>?_
   subst hr;refine aF h6 λ_ s7 ⟨x,H7,I7,r7,y7,st7,fr7⟩=>?_
   have Oa:=I7.pinned (wA fr7) (T.obj _ _ st7);have a8:=lC _ s7 (bq cs σ) H7 x u _ Oa r7 (step x H7 y7);rw[hP,hw,hA,sX] at a8;refine aF a8 λ_ s8 ⟨σ8,H8,I8,le8,q8⟩=>?_
   have a9:=BO _ s8 σ8 H8 _ I8 q8;rw[hP,hw,hA,sX] at a9;refine aF a9 λok s9 ⟨H9,I9,q9⟩=>?_
   have back:∀ {H':Hp} {s':W2},Inv X' ([] ++ pP fp s7.heap) σ8 H' s'->Inv X' [] (bq cs σ) H' s'/\tn (i + 1) s'.heap/\∀ b ∈ fp,H' b=none:=λ{H' s'} J=>by
    refine⟨J.sG.weak (le8.1.symm) le8.2,T.keep _ _ _ st7 λb hb o e=>(J.pin (b,o) (Q1 _ (Q1 _ (sF hb e)))).1,λb hb=>?_⟩;obtain⟨o,e,d⟩:=T.obj _ _ st7 b hb;exact(J.pin (b,o) (Q1 _ (Q1 _ (sF hb e)))).2.1
   cases ok with
   | false =>
    rw[if_neg Q0] at q9 ⊢;obtain⟨m',hm,w9⟩:=q9;obtain⟨b1,b2,b3⟩:=back I9;exact⟨m',hm,i + 1,H9,b1,b2,b3,w9⟩
   | true =>
    rw[if_pos rfl] at q9 ⊢;have BU:=BP _ s9 σ8 H9 _ I9 q9;rw[hP,hw,hA,sX] at BU;refine aF BU λx10 s10 ⟨v,H10,I10,r10,ys,m',hy,hz,hm,w10⟩=>?_
    have BV:=Bs (X:=X') _ s10 σ8 H10 (.ref l) [v] (.ref l) [x10] (λ_ H'=>W (i + 1) m' H') I10 rfl (.cons r10 .nil) ⟨l,ys,v,rfl,rfl,hy,hz,w10⟩;rw[hP,hw,hA,sX] at BV;refine aF BV λ_ s11 ⟨_,H11,I11,_,w11⟩=>?_
    obtain⟨b1,b2,b3⟩:=back I11;exact⟨m',hm,i + 1,H11,b1,b2,b3,w11⟩
 exact codeAny_compStart_list loop (T.self X.A 0 s4 _ _ BQ loop)
theorem Ob(hc:X.calm=true)(S:mH X scope cs)(hi:PI X tg iter wi)(hg:∀ s₀ H₀ ex,PG (eU X scope s₀ H₀ ex) tg g)(ht:∀ s₀ H₀ ex,n5 (eU X scope s₀ H₀ ex) ifs tt)(he:∀ s₀ H₀ ex,PE (eU X scope s₀ H₀ ex) elt te)
  (hs:∀ x,Jz iter X.env x=pure x:=by intro _; rfl):PE X (.ListComp elt [⟨tg,iter,ifs,0⟩] scope pos) (wy cs wi g tt te):=by
 intro pins s σ H Q I h;have qb:∀ x ∈ scope.names,x.2 = .free->∃ c,X.env.cells.lookup x.1=some c:=λx hx hk=>I.ok.has x.1 (S.free x hx hk)
 rw[eval_ListComp];refine wpAny_comprehension_free (use:=none) rfl hs (BA qb) S.kind S.names (aF (hi pins s σ H _ I h) λxv s1 h1=>aF h1 λsA s2 h2=>?_);obtain⟨it,fp,tn,J,H2,e,I2,T,st2,f2,q2⟩:=h2;subst e;refine BL (RR:=λacc C=>compPost (model X.prog X.w) X.A X.xe none (EP X pins σ Q) acc C) hc I2 S T st2 f2 hg ht he q2 ?_;intro l C s' H' I' fC ⟨m,n⟩ q;exact⟨m,n,λh' gU=>⟨.ref l,H',I'.turned (t':=s'.toks) (λb o hb e=>(gU.2 b hb).trans e) fC.1 fC.2.1 fC.2.2.2.1 fC.2.2.2.2.1 fC.2.2.2.2.2,rfl,q⟩⟩
theorem Oc(hc:X.calm=true)(S:mH X scope cs)(hN:X.N.Nodup)(df:X.N[i]? = some y)(hy:X.env.scope.names.lookup y=some .local)
  (hi:PI X tg iter wi) (hg:∀ s₀ H₀ ex,PG (eU X scope s₀ H₀ ex) tg g) (ht:∀ s₀ H₀ ex,n5 (eU X scope s₀ H₀ ex) ifs tt) (he:∀ s₀ H₀ ex,PE (eU X scope s₀ H₀ ex) elt te)
  (mI:QZ (.ListComp elt [⟨tg,iter,ifs,0⟩] scope pos) (some (.Name y py)) sY.line X.env=pure true:=by rfl)
  (hs:∀ x,Jz iter X.env x=pure x:=by intro _; rfl):PS X (.Assign [.Name y py] (.ListComp elt [⟨tg,iter,ifs,0⟩] scope pos) sY) (sy (wy cs wi g tt te) (sv i)):=by
 intro pins s σ H D I h;have qb:∀ x ∈ scope.names,x.2 = .free->∃ c,X.env.cells.lookup x.1=some c:=λx hx hk=>I.ok.has x.1 (S.free x hx hk)
 rw[exec_Assign_Name_used _ _ _ _ mI];refine W0 (wpAny_standAt (W0 ?_));show W5 _ X.A (do let _ <- comprehension (.ListComp elt [⟨tg,iter,ifs,0⟩] scope pos) scope X.env _ (newList []) false (eval iter X.env) (some (assign (.Name y py) X.env))) _ _ s;refine W0 (WV (wpAny_comprehension_free (use:=some (assign (.Name y py) X.env)) (Q:=λ_ s'=>SP X pins D .next s') rfl hs (BA qb) S.kind S.names
  (aF (hi pins s σ H _ I h) λxv s1 h1=>aF h1 λsA s2 h2=>?_)) (λ_ s' hq=>W1 (W1 hq)) λ_ _ e=>e)
 obtain⟨it,fp,tn,J,H2,e,I2,T,st2,f2,q2⟩:=h2;subst e;refine BL (RR:=λacc C=>compPost (model X.prog X.w) X.A X.xe (some (assign (.Name y py) X.env)) (λ_ s'=>SP X pins D .next s') acc C) hc I2 S T st2 f2 hg ht he q2 ?_;intro l C s' H' I' fC ⟨m,n⟩ q;show W5 _ X.A (assign (.Name y py) X.env (.ref l)) _ _ _;refine wpAny_assign_Name (Al I' hN df (.inl hy) (v:=.ref l) rfl (λmr I'' ⟨a,wB,ha⟩=>?_) (.inr hy));have cq:C≠a:=by
  rcases ha with rfl | ha
  ·exact fC.2.1
  ·exactλe=>fC.2.2.2.2.1 y a ha e.symm
 refine⟨m,n.sameBut wB cq,λh' gU=>⟨_,H',I''.turned (t':=mr.toks) (λb o hb e=>(gU.2 b hb).trans e) fC.1 fC.2.1 fC.2.2.2.1 fC.2.2.2.2.1 fC.2.2.2.2.2,q⟩⟩
end
end L2
set_option maxHeartbeats 4000000
namespace DV
open PySem PySem.Spec PyProof.Rows L2
abbrev Tx:=List Nat
def toS(x:Tx):Str:=⟨x.toArray⟩
theorem sZ(x:Tx):(toS x).cps.toList=x:=by simp[toS]
theorem iP(x:Tx):(toS x).length=x.length:=by simp[toS,Str.length]
theorem wD(h:toS x=toS y):x=y:=by
 have:=congrArg (λz:Str=>z.cps.toList) h;simpa[toS] using this
theorem BW(z:Str):z=toS z.cps.toList:=by simp[toS]
abbrev aB:=Sum Int Tx
def bZ:aB->Key
 | .inl i=>.inl i
 | .inr x=>.inr (toS x)
inductive D where
 | ay | bl (b:Bool) | int (i:Int) | str (x:Tx) | tup (xs:List D) | lst (xs:List D) | au (kvs:List (aB×D)) | exc (n:Nat) (fl:D) | xd (fs:List (Tx×D)) | fn (a:Nat) | dic (kvs:List (D×D))
mutual
noncomputable def cg:Nat->D->Option NK
 | _,.int i=>some (.i i)
 | _,.bl b=>some (.i (if b then 1 else 0))
 | _,.str x=>some (.s (toS x))
 | n + 1,.tup xs=>(ig n xs).map .t
 | _,_=>none
noncomputable def ig:Nat->List D->Option (List NK)
 | _,[]=>some []
 | n,x :: xs=>(cg n x).bind λk=>(ig n xs).map λks=>k :: ks
end
def excAt(C:Addr)(v:V)(a:Addr):Heap->Prop:=λh=>∃ o,h.get? a=some o/\o.cls = .ref C/\(∀ x,v = .ref x->o.dict=some x)/\∃ vs,o.data = .fields vs
def Od(fs:List (Str×V))(x:Addr):Heap->Prop:=λh=>∃ mA,h.Ns1 x mA/\∀ f,dG (fs.lookup f) (mA f)
inductive S where
 | pure (d:D)
 | own (d:D)
def S.d:S->D
 | .pure d=>d
 | .own d=>d
abbrev Dl:=List (Option S)
abbrev St:=L2.St
inductive Rep (H:Hp) (O:Addr->Prop):V->D->Prop
 | ay:Rep H O .ay .ay
 | bl (b:Bool):Rep H O (.bl b) (.bl b)
 | int (i:Int):Rep H O (.int i) (.int i)
 | str (x:Tx):Rep H O (.str (toS x)) (.str x)
 | tup {a:Addr} {vs:List V} {ds:List D}:¬ O a->H a=some (.tup vs)->vs.length=ds.length->(∀ (i:Nat) v d,vs[i]? = some v->ds[i]? = some d->Rep H O v d)->Rep H O (.ref a) (.tup ds)
 | lst {a:Addr} {vs:List V} {ds:List D}:¬ O a->Rd H a (.lst vs)->vs.length=ds.length->(∀ (i:Nat) v d,vs[i]? = some v->ds[i]? = some d->Rep H O v d)->Rep H O (.ref a) (.lst ds)
 | au {a:Addr} {ws:List (Key×V)} {ds:List (aB×D)}:¬ O a->H a=some (.dK ws)->ws.map (·.1)=ds.map (λp=>bZ p.1)->(∀ (i:Nat) p q,ws[i]? = some p->ds[i]? = some q->Rep H O p.2 q.2)->Rep H O (.ref a) (.au ds)
 | exc {a:Addr} {n:Nat} {v:V} {fl:D}:¬ O a->H a=some (.ext (excAt n v a))->Rep H O v fl->Rep H O (.ref a) (.exc n fl)
 | xd {x:Addr} {fs:List (Str×V)} {ds:List (Tx×D)}:¬ O x->H x=some (.ext (Od fs x))->fs.map (·.1)=ds.map (λp=>toS p.1)->(∀ (i:Nat) p q,fs[i]? = some p->ds[i]? = some q->Rep H O p.2 q.2)->Rep H O (.ref x) (.xd ds)
 | fn (a:Addr):Rep H O (.ref a) (.fn a)
 | dic {a:Addr} {ep:Nat} {ws:List (NK×V×V)} {ds:List (D×D)}:¬ O a->H a=some (.dN ep ws)->ws.length=ds.length->(∀ (i:Nat) p q,ws[i]? = some p->ds[i]? = some q->Rep H O p.2.1 q.1)->(∀ (i:Nat) p q,ws[i]? = some p->ds[i]? = some q->Rep H O p.2.2 q.2)->(∀ (i:Nat) p q,ws[i]? = some p->ds[i]? = some q->cg 6 q.1=some p.1)->Rep H O (.ref a) (.dic ds)
abbrev aD(H:Hp)(O:Addr->Prop)(vs:List V)(ds:List D):Prop:=vs.length=ds.length/\∀ (i:Nat) v d,vs[i]? = some v->ds[i]? = some d->Rep H O v d
structure DN(H:Hp)(O:Addr->Prop)(ws:List (NK×V×V))(ds:List (D×D)):Prop where
 len:ws.length=ds.length
 key:∀ (i:Nat) p q,ws[i]? = some p->ds[i]? = some q->Rep H O p.2.1 q.1
 val:∀ (i:Nat) p q,ws[i]? = some p->ds[i]? = some q->Rep H O p.2.2 q.2
 mJ:∀ (i:Nat) p q,ws[i]? = some p->ds[i]? = some q->cg 6 q.1=some p.1
def fS(H:Hp)(O:Addr->Prop)(a:Addr):D->Prop
 | .lst ds=>∃ vs,H a=some (.lst vs)/\aD H O vs ds
 | .au ds=>∃ ws:List (Key×V),H a=some (.dK ws)/\ws.map (·.1)=ds.map (λp=>bZ p.1)/\∀ (i:Nat) p q,ws[i]? = some p->ds[i]? = some q->Rep H O p.2 q.2
 | .dic ds=>∃ (ep:Nat) (ws:List (NK×V×V)),H a=some (.dN ep ws)/\DN H O ws ds
 | _=>False
section
variable {H H':Hp} {O O':Addr->Prop} {v:V} {d:D} {vs:List V} {ds:List D} {a:Addr}
theorem Rd.keep(h:Rd H a u)(k:∀ o,H a=some o->H' a=some o):Rd H' a u:=by
 rcases h with h | ⟨o,h⟩
 ·exact .inl (k _ h)
 ·exact .inr ⟨o,k _ h⟩
theorem Rd.some(h:Rd H a u):∃ o,H a=some o:=by
 rcases h with h | ⟨o,h⟩
 ·exact⟨_,h⟩
 ·exact⟨_,h⟩
theorem Rep.keep(h:Rep H O v d)(k:∀ a o,H a=some o->¬ O a->H' a=some o):Rep H' O v d:=by
 induction h with
 | ay=>exact .ay
 | bl b=>exact .bl b
 | int i=>exact .int i
 | str x=>exact .str x
 | tup h1 h2 h3 _ ih=>exact .tup h1 (k _ _ h2 h1) h3 ih
 | lst h1 h2 h3 _ ih=>exact .lst h1 (Rd.keep h2 λo e=>k _ o e h1) h3 ih
 | au h1 h2 h3 _ ih=>exact .au h1 (k _ _ h2 h1) h3 ih
 | exc h1 h2 _ ih=>exact .exc h1 (k _ _ h2 h1) ih
 | xd h1 h2 h3 _ ih=>exact .xd h1 (k _ _ h2 h1) h3 ih
 | fn a=>exact .fn a
 | dic h1 h2 h3 _ _ h6 ih qc=>exact .dic h1 (k _ _ h2 h1) h3 ih qc h6
theorem Rep.aK(h:Rep H O v d)(k:∀ a,O' a->O a\/H a=none):Rep H O' v d:=by
 have no:∀ {a:Addr} {u:HO},¬ O a->Rd H a u->¬ O' a:=λ{a u} h1 h2 z=>by grind[Rd.some]
 induction h with
 | ay=>exact .ay
 | bl b=>exact .bl b
 | int i=>exact .int i
 | str x=>exact .str x
 | tup h1 h2 h3 _ ih=>exact .tup (no h1 (.inl h2)) h2 h3 ih
 | lst h1 h2 h3 _ ih=>exact .lst (no h1 h2) h2 h3 ih
 | au h1 h2 h3 _ ih=>exact .au (no h1 (.inl h2)) h2 h3 ih
 | exc h1 h2 _ ih=>exact .exc (no h1 (.inl h2)) h2 ih
 | xd h1 h2 h3 _ ih=>exact .xd (no h1 (.inl h2)) h2 h3 ih
 | fn a=>exact .fn a
 | dic h1 h2 h3 _ _ h6 ih qc=>exact .dic (no h1 (.inl h2)) h2 h3 ih qc h6
theorem DN.keep{ws:List (NK×V×V)}{ds:List (D×D)}(h:DN H O ws ds)(k:∀ a o,H a=some o->¬ O a->H' a=some o):DN H' O ws ds:=⟨h.len,λi p q e1 e2=>(h.key i p q e1 e2).keep k,λi p q e1 e2=>(h.val i p q e1 e2).keep k,h.mJ⟩
theorem DN.aK{ws:List (NK×V×V)}{ds:List (D×D)}(h:DN H O ws ds)(k:∀ a,O' a->O a\/H a=none):DN H O' ws ds:=⟨h.len,λi p q e1 e2=>(h.key i p q e1 e2).aK k,λi p q e1 e2=>(h.val i p q e1 e2).aK k,h.mJ⟩
theorem aD.keep(h:aD H O vs ds)(k:∀ a o,H a=some o->¬ O a->H' a=some o):aD H' O vs ds:=⟨h.1,λi v d e1 e2=>(h.2 i v d e1 e2).keep k⟩
theorem aD.aK(h:aD H O vs ds)(k:∀ a,O' a->O a\/H a=none):aD H O' vs ds:=⟨h.1,λi v d e1 e2=>(h.2 i v d e1 e2).aK k⟩
theorem aD.nil:aD H O [] []:=⟨rfl,λi v d e _=>by simp at e⟩
theorem aD.cons(h:Rep H O v d)(r:aD H O vs ds):aD H O (v :: vs) (d :: ds):=by
 refine⟨by simp[r.1],λi v' d' e1 e2=>?_⟩
 cases i with
 | zero=>simp at e1 e2; subst e1; subst e2; exact h
 | succ i=>exact r.2 i v' d' (by simpa using e1) (by simpa using e2)
theorem aD.head(r:aD H O (v :: vs) (d :: ds)):Rep H O v d:=r.2 0 v d rfl rfl
theorem aD.tail(r:aD H O (v :: vs) (d :: ds)):aD H O vs ds:=⟨by simpa using r.1,λi v' d' e1 e2=>r.2 (i + 1) v' d' (by simpa using e1) (by simpa using e2)⟩
theorem aD.append(h:aD H O vs ds)(h':aD H O ij b8):aD H O (vs ++ ij) (ds ++ b8):=by
 induction vs generalizing ds with
 | nil =>
  cases ds with
  | nil=>exact h'
  | cons d r=>have:=h.1; simp at this
 | cons v r ih =>
  cases ds with
  | nil=>have:=h.1; simp at this
  | cons d q=>exact .cons h.head (ih h.tail)
theorem aD.get{i:Nat}(h:aD H O vs ds)(e:ds[i]? = some d):∃ v,vs[i]? = some v/\Rep H O v d:=by
 have hi:i < ds.length:=(W6.mp e).1;have hv:i < vs.length:=by rw[h.1]; exact hi
 exact⟨vs[i],by simp[hv],h.2 i _ d (by simp[hv]) e⟩
theorem aD.take(n:Nat)(h:aD H O vs ds):aD H O (vs.take n) (ds.take n):=by
 refine⟨by simp[h.1],λi v d e1 e2=>?_⟩;by_cases hi:i < n
 ·rw[List.getElem?_take_of_lt hi] at e1 e2;exact h.2 i v d e1 e2
 ·rw[List.getElem?_take_eq_none Y'] at e1; cases e1
theorem aD.drop(n:Nat)(h:aD H O vs ds):aD H O (vs.drop n) (ds.drop n):=by
 refine⟨by simp[h.1],λi v d e1 e2=>?_⟩;rw[List.getElem?_drop] at e1 e2;exact h.2 (n + i) v d e1 e2
theorem aD.set(h:aD H O vs ds)(r:Rep H O v d)(j:Nat):aD H O (vs.set j v) (ds.set j d):=by
 refine⟨by simp[h.1],λi v' d' e1 e2=>?_⟩;by_cases hi:j=i
 ·subst hi;rw[Qh] at e1 e2;simp at e1 e2;obtain⟨_,rfl⟩:=e1;obtain⟨_,rfl⟩:=e2;exact r
 ·rw[W8 hi] at e1 e2;exact h.2 i v' d' e1 e2
theorem aD.reverse(h:aD H O vs ds):aD H O vs.reverse ds.reverse:=by
 refine⟨by simp[h.1],λi v d e1 e2=>?_⟩;have hl:=h.1;have h1:i < vs.length:=by have:=(W6.mp e1).1; simpa using this
 rw[List.getElem?_reverse Y'] at e1;rw[List.getElem?_reverse Y'] at e2;exact h.2 (vs.length - 1 - i) v d e1 (by rw[hl]; exact e2)
theorem fS.keep(h:fS H O a d)(hk:∀ b o,H b=some o->¬ O b->H' b=some o)(ha:∀ o,H a=some o->H' a=some o):fS H' O a d:=by
 cases d <;> first
  | exact h.elim
  | (obtain⟨vs,e,r⟩:=h; exact⟨vs,ha _ e,aD.keep r hk⟩)
  | (obtain⟨ws,e,r,q⟩:=h; exact⟨ws,ha _ e,r,λi p p' e1 e2=>(q i p p' e1 e2).keep hk⟩)
  | (obtain⟨ep,ws,e,r⟩:=h; exact⟨ep,ws,ha _ e,r.keep hk⟩)
theorem fS.aK(h:fS H O a d)(k:∀ a,O' a->O a\/H a=none):fS H O' a d:=by
 cases d <;> first
  | exact h.elim
  | (obtain⟨vs,e,r⟩:=h; exact⟨vs,e,aD.aK r k⟩)
  | (obtain⟨ws,e,r,q⟩:=h; exact⟨ws,e,r,λi p p' e1 e2=>(q i p p' e1 e2).aK k⟩)
  | (obtain⟨ep,ws,e,r⟩:=h; exact⟨ep,ws,e,r.aK k⟩)
theorem fS.some(h:fS H O a d):∃ o,H a=some o:=by
 cases d <;> first
  | exact h.elim
  | (obtain⟨vs,e,r⟩:=h; exact⟨_,e⟩)
  | (obtain⟨ep,vs,e,r⟩:=h; exact⟨_,e⟩)
theorem fS.rep(h:fS H O a d)(ho:¬ O a):Rep H O (.ref a) d:=by
 cases d with
 | lst ds=>obtain⟨vs,e,r⟩:=h; exact .lst ho (.inl e) r.1 r.2
 | au ds=>obtain⟨ws,e,r,q⟩:=h; exact .au ho e r q
 | dic ds=>obtain⟨ep,ws,e,r⟩:=h; exact .dic ho e r.len r.key r.val r.mJ
 | _=>exact h.elim
end
structure Xc where
 cls:Tx
 qav:D
structure Fc where
 H₀:Hp
 B:Addr->Prop
 pin:List (Nat×Addr)
 xc:Xc->Dl->Prop:=λ_ _=>False
def Fc.plus(c:Fc)(p:Addr):Fc:={ c with B:=λa=>c.B a\/a=p }
def Fc.I(c:Fc)(a:Addr):Prop:=∃ i,(i,a) ∈ c.pin
def Own(σ:St)(δ:Dl)(a:Addr):Prop:=∃ (i:Nat) (d:D),δ[i]? = some (some (.own d))/\σ[i]? = some (some (.ref a))
def Av(c:Fc)(σ:St)(δ:Dl)(a:Addr):Prop:=c.B a\/Own σ δ a
structure Ok(c:Fc)(σ:St)(δ:Dl)(H:Hp):Prop where
 keep:∀ a o,c.H₀ a=some o->¬ c.I a->H a=some o
 bd:∀ a,c.B a->∃ o,H a=some o
 dO:∀ a,c.I a->∃ o,H a=some o
 len:δ.length=σ.length
 slot:∀ (i:Nat) d,δ[i]? = some (some (.pure d))->∃ v,σ[i]? = some (some v)/\Rep H (Av c σ δ) v d
 own:∀ (i:Nat) d,δ[i]? = some (some (.own d))->∃ a,σ[i]? = some (some (.ref a))/\fS H (Av c σ δ) a d/\(c.I a\/c.H₀ a=none)/\¬ c.B a
 inj:∀ (i j:Nat) a d d',δ[i]? = some (some (.own d))->δ[j]? = some (some (.own d'))->σ[i]? = some (some (.ref a))->σ[j]? = some (some (.ref a))->i=j
 pinned:∀ p ∈ c.pin,σ[p.1]? = some (some (.ref p.2))
structure aM(c:Fc)(σ:St)(δ:Dl)(H:Hp)(σ':St)(δ':Dl)(H':Hp):Prop where
 ok:Ok c σ' δ' H'
 keep:∀ a o,H a=some o->¬ Own σ δ a->H' a=some o
 own:∀ a,Own σ' δ' a->Own σ δ a\/H a=none
 there:∀ a o,H a=some o->∃ o',H' a=some o'
section
variable {c:Fc} {σ σ' σ'':St} {δ δ' δ'':Dl} {H H' BX:Hp} {v:V} {d:D} {a p:Addr}
theorem Ok.Oe(k:Ok c σ δ H)(h:c.B a):∃ o,H a=some o:=k.bd a h
theorem Ok.qe(k:Ok c σ δ H)(h:Own σ δ a):∃ o,H a=some o:=by
 obtain⟨i,d,e1,e2⟩:=h;obtain⟨b,e3,q,_⟩:=k.own i d e1;rw[e2] at e3; cases e3
 exact q.some
theorem Ok.s_(k:Ok c σ δ H)(h:Av c σ δ a):∃ o,H a=some o:=h.elim k.Oe k.qe
theorem Ok.ik(k:Ok c σ δ H)(h:H a=none):¬ Av c σ δ a:=λz=>by
 obtain⟨o,e⟩:=k.s_ z;grind
theorem aM.refl(k:Ok c σ δ H):aM c σ δ H σ δ H:=⟨k,λ_ _ e _=>e,λ_ h=>.inl h,λ_ o e=>⟨o,e⟩⟩
theorem aM.trans(x:aM c σ δ H σ' δ' H')(y:aM c σ' δ' H' σ'' δ'' BX):aM c σ δ H σ'' δ'' BX:=by
 refine⟨y.ok,λa o e n=>?_,λa h=>?_,λa o e=>?_⟩
 ·refine y.keep a o (x.keep a o e n) λz=>?_
  rcases x.own a z with q | q
  all_goals grind
 ·rcases y.own a h with q | q
  ·exact x.own a q
  ·right
   cases e:H a with
   | none=>rfl
   | some o =>
    obtain⟨o',e'⟩:=x.there a o e;grind
 ·obtain⟨o',e'⟩:=x.there a o e;exact y.there a o' e'
theorem aM.av(x:aM c σ δ H σ' δ' H'):∀ a,Av c σ' δ' a->Av c σ δ a\/H a=none:=λa h=>by
 rcases h with h | h
 ·exact .inl (.inl h)
 ·rcases x.own a h with q | q
  ·exact .inl (.inr q)
  ·exact .inr q
theorem Rep.dq(h:Rep H (Av c σ δ) v d)(x:aM c σ δ H σ' δ' H'):Rep H' (Av c σ' δ') v d:=by
 have h1:Rep H (λa=>Av c σ δ a\/Av c σ' δ' a) v d:=Rep.aK h λa z=>z.elim .inl (x.av a)
 exact(h1.keep λa o e n=>x.keep a o e λz=>n (.inl (.inr z))).aK λa z=>.inl (.inr z)
theorem aD.dq(h:aD H (Av c σ δ) vs ds)(x:aM c σ δ H σ' δ' H'):aD H' (Av c σ' δ') vs ds:=⟨h.1,λi v d e1 e2=>Rep.dq (h.2 i v d e1 e2) x⟩
def aY(c:Fc)(σ:St)(δ:Dl)(Hs H:Hp)(v:V):S->Prop
 | .pure d=>Rep H (Av c σ δ) v d
 | .own d=>∃ a,v = .ref a/\fS H (Av (c.plus a) σ δ) a d/\¬ c.B a/\c.H₀ a=none/\Ok (c.plus a) σ δ H/\Hs a=none
theorem tf(k:Ok (c.plus a) σ δ H):¬ Own σ δ a:=λ⟨i,d,e1,e2⟩=>by
 obtain⟨b,e3,_,_,n⟩:=k.own i d e1;rw[e2] at e3; cases e3
 exact n (.inr rfl)
theorem aY.rep(h:aY c σ δ Hs H v r):Rep H (Av c σ δ) v r.d:=by
 cases r with
 | pure d=>exact h
 | own d =>
  obtain⟨a,rfl,o,n,f,k,_⟩:=h;refine(o.aK λb z=>.inl ?_).rep λz=>z.elim n (tf k)
  exact z.elim (λz=>.inl (.inl z)) .inr
theorem aY.back(h:aY c σ δ Hs H v r)(x:aM c σ₀ δ₀ H' σ' δ' Hs):aY c σ δ H' H v r:=by
 cases r with
 | pure d=>exact h
 | own d =>
  obtain⟨a,e,o,n,f,k,hs⟩:=h;refine⟨a,e,o,n,f,k,?_⟩
  cases q:H' a with
  | none=>rfl
  | some o =>
   obtain⟨o',e'⟩:=x.there a o q;grind
theorem aY.Of(h:aY c σ δ Hs H v r):aY c σ δ c.H₀ H v r:=by
 cases r with
 | pure d=>exact h
 | own d =>
  obtain⟨a,e,o,n,f,k,hs⟩:=h;exact⟨a,e,o,n,f,k,f⟩
theorem Ok.alloc(k:Ok c σ δ H)(hp:H p=none)(o:HO):Ok c σ δ (upd H p o):=by
 have up:∀ a w,H a=some w->upd H p o a=some w:=λa w e=>by
  rw[aH (fO e hp)]; exact e
 refine⟨λa w e n=>up a w (k.keep a w e n),λa z=>(k.bd a z).elim λw e=>⟨w,up a w e⟩,λa z=>(k.dO a z).elim λw e=>⟨w,up a w e⟩,k.len,λi d e=>?_,λi d e=>?_,k.inj,k.pinned⟩
 ·obtain⟨v,e1,r⟩:=k.slot i d e;exact⟨v,e1,r.keep λa w q _=>up a w q⟩
 ·obtain⟨a,e1,r,q⟩:=k.own i d e;exact⟨a,e1,r.keep (λb w q _=>up b w q) λw q=>up a w q,q⟩
theorem aM.alloc(k:Ok c σ δ H)(hp:H p=none)(o:HO):aM c σ δ H σ δ (upd H p o):=by
 have up:∀ a w,H a=some w->upd H p o a=some w:=λa w e=>by
  rw[aH (fO e hp)]; exact e
 exact⟨k.alloc hp o,λa w e _=>up a w e,λa h=>.inl h,λa w e=>⟨w,up a w e⟩⟩
theorem Ok.lD(k:Ok c σ δ H)(hp:H p=none):c.H₀ p=none:=by
 cases e:c.H₀ p with
 | none=>rfl
 | some o =>
  by_cases q:c.I p
  ·obtain⟨w,e'⟩:=k.dO p q;grind
  ·have:=k.keep p o e q;grind
theorem Ok.plus(k:Ok c σ δ H)(hp:H p=none)(o:HO):Ok (c.plus p) σ δ (upd H p o):=by
 have k':=k.alloc hp o;have sub:∀ b,Av (c.plus p) σ δ b->Av c σ δ b\/b=p:=λb z=>by
  rcases z with (z | z) | z
  ·exact .inl (.inl z)
  ·exact .inr z
  ·exact .inl (.inr z)
 have tj:∀ b,Av (c.plus p) σ δ b->Av c σ δ b\/H b=none:=λb z=>(sub b z).elim .inl λe=>.inr (by rw[e]; exact hp)
 have up:∀ a w,H a=some w->upd H p o a=some w:=λa w e=>by
  rw[aH (fO e hp)]; exact e
 refine⟨k'.keep,λa z=>?_,k'.dO,k.len,λi d e=>?_,λi d e=>?_,k.inj,k.pinned⟩
 ·rcases z with z | z
  ·exact k'.bd a z
  ·exact⟨o,by rw[z]; exact cf⟩
 ·obtain⟨v,e1,r⟩:=k.slot i d e;exact⟨v,e1,(r.aK tj).keep λa w q _=>up a w q⟩
 ·obtain⟨a,e1,r,q,nb⟩:=k.own i d e;refine⟨a,e1,(r.aK tj).keep (λb w q _=>up b w q) (λw q=>up a w q),q,λz=>?_⟩;rcases z with z | z
  all_goals grind[fS.some]
theorem aY.n8(k:Ok c σ δ H)(r:aD H (Av c σ δ) vs ds)(hp:H p=none):aY c σ δ H (upd H p (.lst vs)) (.ref p) (.own (.lst ds)):=by
 have up:∀ a w,H a=some w->upd H p (.lst vs) a=some w:=λa w e=>by
  rw[aH (fO e hp)]; exact e
 refine⟨p,rfl,⟨vs,cf,?_⟩,λz=>k.ik hp (.inl z),k.lD hp,k.plus hp _,hp⟩;have r1:aD H (Av (c.plus p) σ δ) vs ds:=aD.aK r λb z=>by
  rcases z with (z | z) | z
  ·exact .inl (.inl z)
  ·exact .inr (by rw[z]; exact hp)
  ·exact .inl (.inr z)
 exact aD.keep r1 λb w e _=>up b w e
theorem aY.mK(k:Ok c σ δ H)(r:aD H (Av c σ δ) vs ds)(hp:H p=none):aY c σ δ H (upd H p (.tup vs)) (.ref p) (.pure (.tup ds)):=by
 have up:∀ a w,H a=some w->upd H p (.tup vs) a=some w:=λa w e=>by
  rw[aH (fO e hp)]; exact e
 have r1:=aD.keep r (H':=upd H p (.tup vs)) λb w e _=>up b w e
 exact .tup (k.ik hp) cf r1.1 r1.2
end
inductive Rs (α:Type) where
 | ok (a:α) (δ:Dl)
 | exc (x:Xc) (δ:Dl)
 | stuck
noncomputable def Rs.bind{α β:Type}(r:Rs α)(f:α->Dl->Rs β):Rs β:=match r with
 | .ok a δ=>f a δ
 | .exc x δ=>.exc x δ
 | .stuck=>.stuck
abbrev DE:=Dl->Rs S
def XC(c:Fc)(x:Xc)(δ:Dl):Prop:=c.xc x δ
def post{α:Type}(c:Fc)(r:Rs α)(k:α->Dl->Prop):Prop:=match r with
 | .ok a δ=>k a δ
 | .exc x δ=>XC c x δ
 | .stuck=>False
theorem aU:post c (r.bind f) k ↔ post c r λa δ=>post c (f a δ) k:=by
 cases r <;> exact Iff.rfl
theorem aJ(h:post c r k)(m:∀ a δ,k a δ->k' a δ):post c r k':=by
 cases r with
 | ok a δ=>exact m a δ h
 | exc x δ=>exact h
 | stuck=>exact h
def tD(c:Fc)(f:DE):TE:=λσ H Q=>∃ δ,Ok c σ δ H/\post c (f δ) λr δ'=>∀ v H',aM c σ δ H σ δ' H'->aY c σ δ' H H' v r->Q v H'
abbrev SE(X:Cx)(c:Fc)(e:Expr)(f:DE):Prop:=PE X e (tD c f)
def bU(c:Fc)(σ:St)(δ:Dl)(H:Hp)(v:V)(d:D):Prop:=Rep H (Av c σ δ) v d\/∃ a,v = .ref a/\fS H (Av c σ δ) a d
abbrev BE:=Dl->Rs D
def tB(c:Fc)(f:BE):TE:=λσ H Q=>∃ δ,Ok c σ δ H/\post c (f δ) λd δ'=>∀ v H',aM c σ δ H σ δ' H'->bU c σ δ' H' v d->Q v H'
abbrev SB(X:Cx)(c:Fc)(e:Expr)(f:BE):Prop:=PE X e (tB c f)
theorem PE.weak(h:PE X e t)(w:∀ σ H Q,t' σ H Q->t σ H Q):PE X e t':=λpins s σ H Q I q=>h pins s σ H Q I (w σ H Q q)
def aw(f:DE):BE:=λδ=>(f δ).bind λr δ'=>.ok r.d δ'
theorem aY.b(h:aY c σ δ Hs H v r):bU c σ δ H v r.d:=.inl h.rep
theorem wF{X:Cx}{c:Fc}{e:Expr}{f:DE}(h:SE X c e f):SB X c e (aw f):=PE.weak h λσ H Q ⟨δ,k,p⟩=>⟨δ,k,by
 unfold aw at p;rw[aU] at p;exact aJ p λr δ' q v H' a s=>q v H' a s.b⟩
def aj(i:Nat):BE:=λδ=>match δ[i]? with
 | some (some r)=>.ok r.d δ
 | _=>.stuck
def aa(i:Nat):DE:=λδ=>match δ[i]? with
 | some (some (.pure d))=>.ok (.pure d) δ
 | some (some (.own d))=>.ok (.pure d) (δ.set i (some (.pure d)))
 | _=>.stuck
def eD(d:D):DE:=λδ=>.ok (.pure d) δ
section
variable {X:Cx} {c:Fc}
theorem n9{i:Nat}{e:Expr}(h:PE X e (cM i)):SB X c e (aj i):=PE.weak h λσ H Q ⟨δ,k,p⟩=>by
 unfold aj at p
 cases e:δ[i]? with
 | none=>rw[e] at p; exact p.elim
 | some o =>
  cases o with
  | none=>rw[e] at p; exact p.elim
  | some r =>
   rw[e] at p
   cases r with
   | pure d =>
    obtain⟨v,e1,r⟩:=k.slot i d e;exact⟨v,e1,p v H (.refl k) (.inl r)⟩
   | own d =>
    obtain⟨a,e1,r,_⟩:=k.own i d e;exact⟨.ref a,e1,p _ H (.refl k) (.inr ⟨a,rfl,r⟩)⟩
theorem Own.sub(h:Own σ (δ.set i (some (.pure d))) a):Own σ δ a:=by
 obtain⟨j,d',e1,e2⟩:=h;by_cases hj:i=j
 ·subst hj;rw[Qh] at e1;simp at e1
 ·rw[W8 hj] at e1;exact⟨j,d',e1,e2⟩
theorem Ok.give(k:Ok c σ δ H)(e:δ[i]? = some (some (.own d))) :
  ∃ a,σ[i]? = some (some (.ref a))/\aM c σ δ H σ (δ.set i (some (.pure d))) H/\Rep H (Av c σ (δ.set i (some (.pure d)))) (.ref a) d:=by
 obtain⟨a,e1,r,q,nb⟩:=k.own i d e;have hi:i < δ.length:=(W6.mp e).1;have sub:∀ b,Av c σ (δ.set i (some (.pure d))) b->Av c σ δ b:=λb z=>z.elim .inl λz=>.inr z.sub
 have na:¬ Av c σ (δ.set i (some (.pure d))) a:=by
  rintro (z | ⟨j,d',f1,f2⟩)
  ·exact nb z
  ·by_cases hj:i=j
   ·subst hj;rw[Qh] at f1;simp at f1
   ·rw[W8 hj] at f1;exact hj (k.inj i j a d d' e f1 e1 f2)
 have rep:Rep H (Av c σ (δ.set i (some (.pure d)))) (.ref a) d:=(r.aK λb z=>.inl (sub b z)).rep na;refine⟨a,e1,⟨⟨k.keep,k.bd,k.dO,by rw[Qc]; exact k.len,λj d' f=>?_,λj d' f=>?_,λj l b d1 d2 f1 f2=>?_,k.pinned⟩,λ_ _ w _=>w,λb z=>.inl z.sub,λ_ o w=>⟨o,w⟩⟩,rep⟩
 ·by_cases hj:i=j
  ·subst hj;rw[Wl hi] at f
   cases f;exact⟨.ref a,e1,rep⟩
  ·rw[W8 hj] at f;obtain⟨v,g1,g2⟩:=k.slot j d' f;exact⟨v,g1,g2.aK λb z=>.inl (sub b z)⟩
 ·by_cases hj:i=j
  ·subst hj;rw[Wl hi] at f
   cases f
  ·rw[W8 hj] at f;obtain⟨b,g1,g2,g3⟩:=k.own j d' f;exact⟨b,g1,g2.aK λb z=>.inl (sub b z),g3⟩
 ·have h1:δ[j]? = some (some (.own d1)):=by
   by_cases hj:i=j
   ·subst hj; rw[Wl hi] at f1; cases f1
   ·rw[W8 hj] at f1; exact f1
  have h2:δ[l]? = some (some (.own d2)):=by
   by_cases hj:i=l
   ·subst hj; rw[Wl hi] at f2; cases f2
   ·rw[W8 hj] at f2; exact f2
  exact k.inj j l b d1 d2 h1 h2
theorem jg{i:Nat}{e:Expr}(h:PE X e (cM i)):SE X c e (aa i):=PE.weak h λσ H Q ⟨δ,k,p⟩=>by
 unfold aa at p
 cases e:δ[i]? with
 | none=>rw[e] at p; exact p.elim
 | some o =>
  cases o with
  | none=>rw[e] at p; exact p.elim
  | some r =>
   rw[e] at p
   cases r with
   | pure d =>
    obtain⟨v,e1,r⟩:=k.slot i d e;exact⟨v,e1,p v H (.refl k) r⟩
   | own d =>
    obtain⟨a,e1,x,r⟩:=k.give e;exact⟨.ref a,e1,p _ H x r⟩
theorem wG{i j pos}:SE X c (.Constant (.int i) j pos) (eD (.int i)):=PE.weak Ao λσ H Q ⟨δ,k,p⟩=>p _ H (.refl k) (.int i)
theorem BY{b j pos}:SE X c (.Constant (.bool b) j pos) (eD (.bl b)):=PE.weak Ls λσ H Q ⟨δ,k,p⟩=>p _ H (.refl k) (.bl b)
theorem BZ{j pos}:SE X c (.Constant .none j pos) (eD .ay):=PE.weak Lu λσ H Q ⟨δ,k,p⟩=>p _ H (.refl k) .ay
theorem B0{x j pos}(y:Tx)(h:x=toS y:=by decide +kernel):SE X c (.Constant (.str x) j pos) (eD (.str y)):=by
 subst h;exact PE.weak Ap λσ H Q ⟨δ,k,p⟩=>p _ H (.refl k) (.str y)
theorem Og (hg:Gl X x) (hm:X.mg x=some (.int i t)) (hd:(x == ("__debug__" : Str))=false:=by decide):SE X c (.Name x pos) (eD (.int i)) :=
 PE.weak (Lv (v:=.int i) hg hm ⟨t,rfl⟩ hd) λσ H Q ⟨δ,k,p⟩=>p _ H (.refl k) (.int i)
end
open PySem PySem.Spec PyProof.Rows L2 PySem.SeqAt
mutual
noncomputable def gf:D->D->Bool
 | .ay,.ay=>true
 | .bl a,.bl b=>a == b
 | .int a,.int b=>a == b
 | .bl a,.int b=>(if a then 1 else 0) == b
 | .int a,.bl b=>a == (if b then 1 else 0)
 | .str a,.str b=>a == b
 | .tup xs,.tup ys=>kr xs ys
 | .lst xs,.lst ys=>kr xs ys
 | _,_=>false
noncomputable def kr:List D->List D->Bool
 | [],[]=>true
 | x :: xs,y :: ys=>gf x y && kr xs ys
 | _,_=>false
end
abbrev qf:Addr->Prop:=λ_=>False
theorem Rep.un(h:Rep H O v d):Rep H qf v d:=Rep.aK h λ_ z=>z.elim
theorem bU.un(h:bU c σ δ H v d):Rep H qf v d:=by
 rcases h with h | ⟨a,rfl,o⟩
 ·exact Rep.un h
 ·exact(o.aK (O':=qf) λ_ z=>z.elim).rep λz=>z
section
variable {X:Cx} {pins:List (Addr×Obj)} {σ:St} {H:Hp} {s:W2}
theorem wH(x y:Tx):((toS x:Str) == toS y)=(x == y):=by
 rw[Bool.eq_iff_iff];simp only[beq_iff_eq];exact⟨wD,λe=>by rw[e]⟩
end
def cu{α:Type}(xs:List α)(lo hi:Option Int):List α:=(xs.drop (HT.aQ xs.length 0 lo)).take (HT.aQ xs.length xs.length hi - HT.aQ xs.length 0 lo)
theorem B3(xs:List V)(lo hi:Option Int):cu xs lo hi=lx xs lo hi:=rfl
theorem B4(xs:List α)(lo hi:Option Int):(cu xs lo hi).length<=xs.length:=by
 unfold cu;rw[Ug,List.length_drop];lia
theorem aD.cut(lo hi:Option Int)(h:aD H O vs ds):aD H O (cu vs lo hi) (cu ds lo hi):=by
 unfold cu;rw[h.1];exact aD.take _ (aD.drop _ h)
theorem Oh{α:Type}{xs:List α}{lo hi:Option Int}(h:HT.aQ xs.length 0 lo=0/\HT.aQ xs.length xs.length hi=xs.length):cu xs lo hi=xs:=by
 unfold cu;rw[h.1,h.2];simp
section
variable {prog:Wk} {w:Wn} {A:Wr} {E:Value->W2->Prop} {s:W2}
theorem Oi{t sl:Addr}{items:Array Value}{vl vu:Value}{lo hi:Option Int}{Q:Value->W2->Prop}(ht:IsTup s.heap t items)(hs:s.heap.IsSliceOf sl vl vu .none)(pl:IsPart vl lo)(pu:IsPart vu hi)
  (hw:HT.aQ items.size 0 lo=0/\HT.aQ items.size items.size hi=items.size) (h:Q (.ref t) s):W5 (model prog w) A (JZ (.ref t) (.ref sl)) Q E s:=by
 obtain⟨os,hos,hcs,je⟩:=id hs;have pU:s.TypeIs (.ref sl) "slice":=⟨os,hos,hcs⟩
 unfold JZ;try with_reducible refine WN ?_
 first | refine W0 (W1 ?_) | skip
 refine W0 (U7 ht.typeIs Z' ?_);refine W0 (WM (name:=Str.ofString "__getitem__") ht.typeIs Qj
  (WJ Qj ht.typeIs entry_tuple_getitem ?_ (args_tuple_getitem _ _)))
 show W5 _ _ (Jx (.ref t) >>= _) _ _ s;refine W0 (tupleItemsOf_ ht ?_);refine W0 (Jt pU ?_);rw[if_pos Z'];refine W0 (HT.Bb hs pl pu ?_);show W5 _ _ (if (((HT.aQ items.size 0 lo:Nat):Int) == 0 && (1:Int) == 1 && (HT.aQ items.size items.size hi - HT.aQ items.size 0 lo) == items.size)=true then _ else _) _ _ s;rw[hw.1,hw.2];rw[if_pos U'];refine W0 (m:=Builtin.Tuple.tupleIsExact (.ref t)) ?_;unfold Builtin.Tuple.tupleIsExact;refine W0 (Jt ht.typeIs (W1 ?_));rw[if_pos Z'];exact W0 (Jb (W0 (W1 (W1 ⟨_,rfl,W1 h⟩))))
end
section
variable {X:Cx}
def B5(K:W4):V->Option Int->Option Int->Hp->VK->Prop:=λx lo hi H Q=>∃ a xs,x = .ref a/\bT K H a xs /\
 ((HT.aQ xs.length 0 lo=0/\HT.aQ xs.length xs.length hi=xs.length)->Q (.ref a) H)/\(¬ (HT.aQ xs.length 0 lo=0/\HT.aQ xs.length xs.length hi=xs.length)->∀ p,H p=none->Q (.ref p) (upd H p (.tup (lx xs lo hi))))
theorem Oj:jN X (B5 X.K):=by
 intro pins s σ H x v vl vu lo hi sl Q I rx hs pl pu h;obtain⟨a,xs,rfl,hx,q1,q2⟩:=h;by_cases hw:HT.aQ xs.length 0 lo=0/\HT.aQ xs.length xs.length hi=xs.length
 ·cases rx;obtain⟨ag,r,ht,hz⟩:=I.tuple hx;have hlen:ag.toArray.size=xs.length:=by rw[Ws]; exact r.length.symm
  refine⟨"tuple",_,PyProof.Rows.slot_tuple_getitem.lookup,ht.typeIs,?_⟩;exact Oi ht hs pl pu (by rw[hlen]; exact hw) ⟨.ref a,H,I,rfl,q1 hw⟩
 ·exact MV pins s σ H (.ref a) v vl vu lo hi sl Q I rx hs pl pu ⟨a,xs,rfl,hx,hw,q2 hw⟩
theorem Ol(a b:Nat):sliceRange (a:Int) (b:Int) 1=(Wd (b - a)).map (λk=>a + k):=by
 have h0:((1:Int) > 0)=True:=by simp
 unfold sliceRange;simp only[h0,if_true];by_cases aP:(a:Int) < (b:Int)
 ·rw[if_pos aP];have e3:(((b:Int) - (a:Int) + 1 - 1) / 1).toNat=b - a:=by
   rw[Int.ediv_one]; lia
  rw[e3];refine WO λk _=>?_
  lia
 ·rw[if_neg aP];have:b - a=0:=by lia
  rw[this];rfl
theorem B6(lo hi:Option Int)(n:Nat):Q5 lo hi 1 n=(Wd (HT.aQ n n hi - HT.aQ n 0 lo)).map (λk=>HT.aQ n 0 lo + k):=by
 have c:∀ (i:Int) (d:Nat),max 0 (min (if i < 0 then i + (n:Int) else i) (n:Int))=((HT.aQ n d (some i):Nat):Int):=by
  intro i d;show max 0 (min (if i < 0 then i + (n:Int) else i) (n:Int))=(((if i < 0 then(i + (n:Int)).toNat else min i.toNat n):Nat):Int);by_cases hi:i < 0
  ·simp only[if_pos hi]; lia
  ·simp only[if_neg hi]; lia
 have h0:((1:Int) > 0)=True:=by simp
 rw[<- Ol];unfold Q5;simp only[h0,if_true]
 cases lo with
 | none =>
  cases hi with
  | none=>rfl
  | some j=>show sliceRange 0 (max 0 (min (if j < 0 then j + (n:Int) else j) (n:Int))) 1=_; rw[c j n]; rfl
 | some i =>
  cases hi with
  | none=>show sliceRange (max 0 (min (if i < 0 then i + (n:Int) else i) (n:Int))) (n:Int) 1=_; rw[c i 0]; rfl
  | some j=>grind
theorem Om(x:Tx)(lo hi:Option Int):(⟨((Q5 lo hi 1 (toS x).length).filterMap ((toS x).cps[·]?)).toArray⟩:Str)=toS (cu x lo hi):=by
 unfold toS;congr 1
 rw[B6];have:=pick_run (x.toArray) (HT.aQ x.length 0 lo) (HT.aQ x.length x.length hi - HT.aQ x.length 0 lo);have hl:({ cps:=x.toArray }:Str).length=x.length:=by simp[Str.length]
 rw[hl];rw[this];rfl
def B7:V->Option Int->Option Int->Hp->VK->Prop:=λx lo hi H Q=>∃ z:Tx,x = .str (toS z)/\z.length<=Wb/\Q (.str (toS (cu z lo hi))) H
theorem B8(p:IsPart v o):∃ q:Option (Int×Tok),v=partValue q/\q.map (·.1)=o:=by
 cases p with
 | none=>exact⟨none,rfl,rfl⟩
 | int i t=>exact⟨some (i,t),rfl,rfl⟩
theorem Oo:jN X B7:=by
 intro pins s σ H x v vl vu lo hi sl Q I rx hs pl pu h;obtain⟨z,rfl,hz,q⟩:=h;obtain⟨t,rfl⟩:=rx;obtain⟨l,rfl,el⟩:=B8 pl;obtain⟨u,rfl,eu⟩:=B8 pu;obtain⟨o,ho,hc,hd⟩:=hs;refine⟨"str",_,F.slot_str_getitem.lookup,typeIs_str s _ t,?_⟩;refine wpAny_getItem_str_slice (l:=l) (u:=u) (st:=none) ⟨o,ho,hc,hd⟩ rfl ?_;unfold sliceMade;have e:(slicePicked (toS z) l u none)=Q5 lo hi 1 (toS z).length:=by
  unfold slicePicked;rw[el,eu];rfl
 rw[e];by_cases hw:(((none:Option (Int×Tok)).map (·.1)).getD 1 == 1 && (Q5 lo hi 1 (toS z).length).length == (toS z).length)=true
 ·rw[if_pos hw];refine⟨.str (toS (cu z lo hi)),H,I,⟨t,?_⟩,q⟩;congr 1
  rw[Wy] at hw;have wI:=eq_of_beq hw.2;rw[B6,Wx,JC,iP] at wI;have h1:=HT.vX z.length 0 (Qn _) lo;have h2:=HT.vX z.length z.length (Wa _) hi;unfold cu;congr 1
  by_cases h0:z.length=0
  ·grind
  ·have a1:HT.aQ z.length 0 lo=0:=by lia
   rw[a1] at wI ⊢;rw[wI];simp
 ·rw[if_neg hw];show Made.post (.str _) _ _;rw[Om];exact⟨by rw[iP]; exact Qe (B4 z lo hi) hz,.str (toS (cu z lo hi)),H,I.tok _,⟨_,rfl⟩,q⟩
def lE(X:Cx)(r:V->Hp->VK->Prop):Prop :=
 ∀ (pins:List (Addr×Obj)) (s:W2) (σ:St) (H:Hp) (x:V) (v:Value) (t:Tok) (sl:Addr) (Q:VK),Inv X pins σ H s->RelV x v->s.heap.IsSliceOf sl .none .none (.int (-1) t)->r x H Q ->
  ∃ T id,typeLookup (.type T) "__getitem__" = pure (some (.builtin id))/\s.TypeIs v T/\W5 (model X.prog X.w) X.A (JZ v (.ref sl)) (EP X pins σ Q) X.xe s
theorem lE.or(h:lE X r)(h':lE X r'):lE X (λx H Q=>r x H Q\/r' x H Q):=by
 intro pins s σ H x v t sl Q I rx hs q;rcases q with q | q
 ·exact h pins s σ H x v t sl Q I rx hs q
 ·exact h' pins s σ H x v t sl Q I rx hs q
theorem Oq{r:V->Hp->VK->Prop}{e st:Expr}{te:TE}{p2 pos:Pos}(hr:lE X r)(he:PE X e te)(cU:PE X st (tC (.int (-1)))):PE X (.Subscript e (.Slice none none (some st) p2) pos) (vO r te):=by
 intro pins s σ H Q I h;refine Subscript_ (aF (he pins s σ H _ I h) λv s1 ⟨x,H1,I1,r1,q1⟩=>?_);refine wpAny_Slice ?_;rw[evalPart_none,evalPart_some];refine W1 (W1 ?_);refine aF (cU pins s1 σ H1 (λy H2=>y = .int (-1)/\H2=H1) I1 ⟨rfl,rfl⟩) λu s2 ⟨y,H2,I2,r2,ey,eh⟩=>?_
 subst ey eh;obtain⟨t,rfl⟩:=r2;have I4:Inv X pins σ H2 { s2 with heap:=s2.heap.push { cls:=.type "slice",data:=.fields #[.none,.none,.int (-1) t] } }:=I2.kept (t':=s2.toks) λb ob q=>W3 _ q
 obtain⟨T,id,hT,ht,hg⟩:=hr pins { s2 with heap:=s2.heap.push { cls:=.type "slice",data:=.fields #[.none,.none,.int (-1) t] } } σ H2 x v t s2.heap.objs.size Q I4 r1 (Heap.IsSliceOf.new ..) q1;show W5 (model X.prog X.w) X.A (subscriptTail e (.Slice none none (some st) p2) v (.ref s2.heap.objs.size)) (EP X pins σ Q) X.xe { s2 with heap:=s2.heap.push { cls:=.type "slice",data:=.fields #[.none,.none,.int (-1) t] } };exact tail_any (ops:=[v,.ref s2.heap.objs.size]) ht hT hg Pi
theorem Ot{pos pos':Pos}{j}:PE X (.UnaryOp .USub (.Constant (.int 1) j pos') pos) (tC (.int (-1))) :=
 PE.weak (AI AO Ao) λσ H Q h=>⟨1,rfl,h⟩
theorem Ou(n:Nat):Q5 none none (-1) n=(Wd n).map λk=>n - 1 - k:=by
 unfold Q5;have h0:¬ ((-1:Int) > 0):=by decide
 simp only[h0,if_false];exact PySem.W.krv_sliceRange n
theorem Ov:lE X (λx H Q=>∃ z:Tx,x = .str (toS z)/\z.length<=Wb/\Q (.str (toS z.reverse)) H):=by
 intro pins s σ H x v t sl Q I rx hs h;obtain⟨z,rfl,hz,q⟩:=h;obtain⟨t',rfl⟩:=rx;obtain⟨o,ho,hc,hd⟩:=hs;refine⟨"str",_,F.slot_str_getitem.lookup,typeIs_str s _ t',?_⟩;refine wpAny_getItem_str_slice (l:=none) (u:=none) (st:=some (-1,t)) ⟨o,ho,hc,hd⟩ (by show((-1:Int) == 0)=false; decide) ?_;unfold sliceMade;rw[if_neg (by grind)];have e:(⟨((slicePicked (toS z) none none (some (-1,t))).filterMap ((toS z).cps[·]?)).toArray⟩:Str)=toS z.reverse:=by
  unfold slicePicked;show(⟨((Q5 none none (-1) (toS z).length).filterMap ((toS z).cps[·]?)).toArray⟩:Str)=_;rw[Ou,PySem.W.krv_range,List.filterMap_reverse];have:(toS z).length=(toS z).cps.size:=rfl;rw[this,PySem.W.krv_all];simp[toS]
 show Made.post (.str _) _ _;rw[e];exact⟨by rw[iP,List.length_reverse]; exact hz,.str (toS z.reverse),H,I.tok _,⟨_,rfl⟩,q⟩
theorem Ow:lE X (λx H Q=>∃ a xs,x = .ref a/\cA X.K H a xs/\∀ p,H p=none->Q (.ref p) (upd H p (.lst xs.reverse))):=by
 intro pins s σ H x v t sl Q I rx hs h;obtain⟨a,xs,rfl,hx,q⟩:=h
 cases rx;obtain⟨ag,r,ht,hz⟩:=I.list hx;have hlen:=r.length;refine⟨"list",_,slot_list_getitem.lookup,ht.isList.typeIs,?_⟩;refine wpAny_getItem_list_slice ht.isList hs .none .none (.int (-1) t) Z' ?_ (by rw[Ws] <;> lia);rw[PySem.W.krv_pick];exact⟨.ref s.heap.objs.size,_,I.Bq (t':=s.toks) r.reverse (by rw[List.length_reverse]; exact hz),rfl,q _ I.fresh⟩
theorem Ox:bp X (QH .Add) (λx y H Q=>∃ a b ys,x = .ref a/\y = .ref b/\bT X.K H a []/\bT X.K H b ys/\Q (.ref b) H):=by
 intro pins s σ H x y v u Q I rx ry h;obtain⟨a,b,ys,rfl,rfl,ha,hb,q⟩:=h
 cases rx
 cases ry;obtain⟨ag,r1,p1,_⟩:=I.tuple ha;obtain⟨its2,r2,p2,_⟩:=I.tuple hb
 cases r1;obtain⟨⟨cls,dd,data,sl⟩,ho,hc,n,hd⟩:=id p1;obtain⟨⟨cls2,km,data2,jM⟩,ho2,hc2,n2,hd2⟩:=id p2;simp only at hc hd hc2 hd2;subst hc hd hc2 hd2;exact concat_meets ⟨_,ho,rfl⟩ ⟨_,ho2,rfl⟩ noFill_tuple_add seq_tuple_add PySem.F.slot_tuple_add PySem.F.entry_tuple_add (PySem.F.args_tuple_add_2 _ _)
   (tuple_addW0 a b #[] its2.toArray n n2 dd km sl jM rfl) ⟨ho,ho2,.ref b,H,I,rfl,q⟩
def B9(K:W4):R2:=λx y H Q=>∃ l b xs zs,x = .ref l/\y = .ref b/\cA K H l xs/\cA K H b zs/\xs.length + zs.length<=Wb/\∀ p,H p=none->Q (.ref p) (upd H p (.lst (xs ++ zs)))
theorem Oy:bp X (QH .Add) (B9 X.K):=by
 intro pins s σ H x y v u Q I rx ry h;obtain⟨l,b,xs,zs,rfl,rfl,hH,hB,hz,q⟩:=h
 cases rx
 cases ry;obtain⟨ag,r,⟨⟨cls,dd,data,sl⟩,n,e,hc,gi,hd⟩,z⟩:=I.list hH;obtain⟨its2,r2,⟨⟨cls2,km,data2,jM⟩,n2,e2,hc2,hdd2,hd2⟩,z2⟩:=I.list hB;simp only at hc hd gi hc2 hd2 hdd2;subst hc hd gi hc2 hd2 hdd2;have hl:=r.length;have tm:=r2.length;refine concat_meets ⟨_,e,rfl⟩ ⟨_,e2,rfl⟩ noFill_list_add seq_list_add PySem.F.slot_list_add PySem.F.entry_list_add (PySem.F.args_list_add_2 _ _)
   (list_addW l b ag.toArray its2.toArray n n2 none none sl jM (by rw[Ws,Ws]; lia)) ⟨e,e2,?_⟩
 have ea:ag.toArray ++ its2.toArray=(ag ++ its2).toArray:=by simp
 rw[ea];exact⟨.ref _,_,I.Bq (t':=s.toks) (r.append r2) (by rw[WT]; lia),rfl,q _ I.fresh⟩
theorem wJ:∀ {ys:List Str} {us:List Value},Vals (ys.map V.str) us->StrsAre us ys
 | [],us,r=>by cases r; exact .nil
 | y :: ys,us,r=>by
  cases r with
  | cons r1 r2 =>
   obtain⟨t,rfl⟩:=r1;exact .cons y t (wJ r2)
def tw(K:W4):V->List V->Hp->VK->Prop:=λx vs H Q=>∃ (z:Str) (a:Addr) (ys:List Str),x = .str z/\vs=[.ref a]/\(cA K H a (ys.map V.str)\/bT K H a (ys.map V.str)) /\
 (ys.map (·.length)).sum + ys.length * z.length<=16777216/\Q (.str (Txt.join z ys)) H
theorem Oz:v3 X "str.join" (tw X.K):=by
 intro pins s σ H x vs v us Q I rx rv h;obtain⟨z,a,ys,rfl,rfl,hq,hz,q⟩:=h;obtain⟨t,rfl⟩:=rx;obtain⟨u,rfl,ru⟩:=rv.one
 cases ru;rcases hq with hq | hq
 ·obtain⟨ag,r,p,_⟩:=I.list hq;exact join_list p.isList (by simpa using wJ r) hz λt' k=>⟨.str _,H,I.tok _,⟨t',rfl⟩,q⟩
 ·obtain⟨ag,r,p,_⟩:=I.tuple hq;exact join_tuple p (by simpa using wJ r) hz λt' k=>⟨.str _,H,I.tok _,⟨t',rfl⟩,q⟩
theorem B_:∀ {bs:List Bool} {us:List Value},Vals (bs.map V.bl) us->∀ (i:Nat) v,us[i]? = some v->∃ b,bs[i]? = some b/\v = .bool b
 | [],us,r,i,v,e=>by cases r; simp at e
 | b :: bs,us,r,i,v,e=>by
  cases r with
  | cons r1 r2 =>
   cases i with
   | zero =>
    simp at e;subst e;exact⟨b,rfl,r1⟩
   | succ i=>exact B_ r2 i v (by simpa using e)
theorem Ca:∀ bs:List Bool,((Wd bs.length).all λi=>(bs[i]?).getD true)=bs.all id
 | []=>rfl
 | b :: bs=>by
  rw[WA,List.range_succ_eq_map,UH,List.all_map];have:=Ca bs;simp only[List.getElem?_cons_zero,Option.getD_some,UH,id];rw[<- this];rfl
theorem OA (hc:X.calm=true):eA X (.builtin "all") (λxs H Q=>∃ (a:Addr) (bs:List Bool),xs=[.ref a]/\cA X.K H a (bs.map V.bl)/\Q (.bl (bs.all (λb=>b))) H):=by
 intro pins s σ H xs us Q I r h;obtain⟨a,bs,rfl,hq,q⟩:=h;obtain⟨u,rfl,ru⟩:=h_ r
 cases ru;obtain⟨ag,r',p,_⟩:=I.list hq;have hl:=p.isList;have aP:a < s.heap.objs.size:=by obtain⟨_,e,_⟩:=hl; exact Wj e
 have hlen:=r'.length;rw[Wx] at hlen;refine call_all_walk (UA hl ?_);refine⟨s.heap.objs.size,[s.heap.objs.size,a],[s.heap.objs.size],ag.toArray.size,_,_,λi=>(bs[i]?).getD true,rfl,Walks.list (A:=X.A.in1) (I.ok.hd hc) _ a (Wo aP) ag.toArray,
  ⟨⟨_,Wi _ rfl,rfl,rfl⟩,hl.push _⟩,λi v s' Q' E' hP hQ=>?_,λh' tk hk=>?_⟩
 ·obtain⟨b,e,rfl⟩:=B_ r' i v (by simpa using hP);simp only[e,Option.getD_some] at hQ;exact QR hQ
 ·have e:((Wd ag.toArray.size).all λi=>(bs[i]?).getD true)=bs.all id:=by
   rw[Ws,<- hlen]; exact Ca bs
  rw[e];exact⟨.bl _,H,I.kept λb o e=>hk b o (λhm=>by rw[QM.mp hm] at e; exact QN _ (Wj e)) (W3 _ e),rfl,q⟩
def ku(x:Tx):List Tx->List Tx
 | []=>[x]
 | y :: r=>if y < x then y :: ku x r else x :: y :: r
def iQ:List Tx->List Tx
 | []=>[]
 | x :: r=>ku x (iQ r)
theorem wK(x:Tx):∀ l:List Tx,(ku x l).Perm (x :: l)
 | []=>.refl _
 | y :: r=>by
  unfold ku;split
  ·exact((wK x r).cons y).trans (.swap x y r)
  ·exact .refl _
theorem wL:∀ l:List Tx,(iQ l).Perm l
 | []=>.refl _
 | x :: r=>(wK x _).trans ((wL r).cons x)
abbrev iR(a b:Tx):Prop:=¬ b < a
theorem OB(h1:iR a b)(h2:iR b c):iR a c:=by grind
theorem OC(h1:iR a b)(h2:iR b a):a=b:=by grind
theorem Cb(x:Tx):∀ l:List Tx,l.Pairwise iR->(ku x l).Pairwise iR
 | [],_=>by simp[ku]
 | y :: r,h=>by
  unfold ku;obtain⟨h1,h2⟩:=Qa.mp h;split
  ·rename_i aP;refine List.pairwise_cons.mpr ⟨λz hz=>?_,Cb x r h2⟩;grind[wK]
  grind[Qa]
theorem Cc:∀ l:List Tx,(iQ l).Pairwise iR
 | []=>.nil
 | x :: r=>Cb x _ (Cc r)
theorem OD(hp:l'.Perm l)(hs:l'.Pairwise iR):l'=iQ l :=
 List.Perm.eq_of_pairwise (λ_ _ _ _ h1 h2=>OC h1 h2) hs (Cc l) (hp.trans (wL l).symm)
theorem Cd:∀ (x:Str) (r:List Str),risingS x r=true->((x :: r).map λz:Str=>z.cps.toList).Pairwise iR
 | x,[],_=>by simp
 | x,y :: r,h=>by
  have h':(!ltCps y.cps.toList x.cps.toList && risingS y r)=true:=h;rw[Wy] at h';have ih:=Cd y r h'.2;have qg:iR x.cps.toList y.cps.toList:=by grind[ltCps_eq]
  rw[We];refine List.pairwise_cons.mpr ⟨λz hz=>?_,ih⟩;rw[We] at hz ih;rcases Wq.mp hz with e | hz
  ·subst e; exact qg
  ·exact OB qg ((Qa.mp ih).1 z hz)
end
noncomputable def p2(p:D->D->Option S)(x y:D)(δ:Dl):Rs S:=match p x y with
 | some s=>.ok s δ
 | none=>.stuck
noncomputable def aE(p:D->D->Option S)(fa:DE)(fb:BE):DE:=λδ=>(fa δ).bind λx δ1=>(fb δ1).bind λy δ2=>p2 p x.d y δ2
noncomputable def bu(p:D->D->Option S)(i:Nat)(fb:BE):DE:=λδ=>(fb δ).bind λy δ1=>(aj i δ1).bind λx δ2=>p2 p x y δ2
def cH(r:R2)(p:D->D->Option S):Prop:=∀ (c:Fc) (σ:St) (δ:Dl) (H:Hp) (x y:V) (d e:D) (s:S) (Q:VK),Ok c σ δ H->bU c σ δ H x d->bU c σ δ H y e->p d e=some s ->
 (∀ v H',aM c σ δ H σ δ H'->aY c σ δ H H' v s->Q v H')->r x y H Q
section
variable {X:Cx} {c:Fc} {a b:Expr} {fa:DE} {fb:BE} {r:R2} {p:D->D->Option S} {pos:Pos}
theorem Ce(hp:cH r p)(k:Ok c σ δ H)(rx:bU c σ δ H x d)(ry:bU c σ δ H y e)
  (h:post c (p2 p d e δ) λs δ'=>∀ v H',aM c σ δ H σ δ' H'->aY c σ δ' H H' v s->Q v H'):r x y H Q:=by
 unfold p2 at h
 cases e1:p d e with
 | none=>rw[e1] at h; exact h.elim
 | some s=>rw[e1] at h; exact hp c σ δ H x y d e s Q k rx ry e1 h
theorem tE(hp:cH r p)(h:tD c (aE p fa fb) σ H Q):mq r (tD c fa) (tB c fb) σ H Q:=by
 obtain⟨δ,k,q⟩:=h;refine⟨δ,k,?_⟩;unfold aE at q;rw[aU] at q;refine aJ q λx δ1 q1 v H1 a1 r1=>⟨δ1,a1.ok,?_⟩
 rw[aU] at q1;refine aJ q1 λy δ2 q2 u H2 a2 r2=>?_
 exact Ce hp a2.ok (.inl (Rep.dq r1.rep a2)) r2 (aJ q2 λs δ3 q3 v' H3 a3 r3=>q3 v' H3 (a1.trans (a2.trans a3)) (aY.back r3 (a1.trans a2)))
theorem OE(hp:cH r p)(h:tD c (bu p i fb) σ H Q)(hv:∀ δ,Ok c σ δ H->post c (fb δ) (λ_ _=>True)->∃ v,σ[i]? = some (some v)):mq r (cM i) (tB c fb) σ H Q:=by
 obtain⟨δ,k,q⟩:=h;unfold bu at q;rw[aU] at q;obtain⟨v,ev⟩:=hv δ k (aJ q λ_ _ _=>trivial);refine⟨v,ev,δ,k,aJ q λy δ1 q1 u H1 a1 r1=>?_⟩;rw[aU] at q1;unfold aj at q1
 cases e:δ1[i]? with
 | none=>rw[e] at q1; exact q1.elim
 | some o =>
  cases o with
  | none=>rw[e] at q1; exact q1.elim
  | some w =>
   rw[e] at q1;have OF:post c (p2 p w.d y δ1) λs δ'=>∀ v H',aM c σ δ H σ δ' H'->aY c σ δ' H H' v s->Q v H':=q1
   have rb:bU c σ δ1 H1 v w.d:=by
    cases w with
    | pure d =>
     obtain⟨v',e1,r⟩:=a1.ok.slot i d e;rw[ev] at e1; cases e1
     exact .inl r
    | own d =>
     obtain⟨a,e1,r,_⟩:=a1.ok.own i d e;rw[ev] at e1; cases e1
     exact .inr ⟨a,rfl,r⟩
   exact Ce hp a1.ok rb r1 (aJ OF λs δ3 q3 v' H3 a3 r3=>q3 v' H3 (a1.trans a3) (aY.back r3 a1))
theorem qh{i:Nat}{σ:St}{δ:Dl}{H:Hp}(k:Ok c σ δ H){w:S}(e:δ[i]? = some (some w)):∃ v,σ[i]? = some (some v):=by
 cases w with
 | pure d=>obtain⟨v,e1,_⟩:=k.slot i d e; exact⟨v,e1⟩
 | own d=>obtain⟨a,e1,_⟩:=k.own i d e; exact⟨_,e1⟩
end
noncomputable def ah(p:D->D->Option S)(i:Nat)(fb:BE):DE:=λδ=>match δ[i]? with
 | some (some _)=>bu p i fb δ
 | _=>.stuck
section
variable {X:Cx} {c:Fc} {a b:Expr} {fa:DE} {fb:BE} {r:R2} {p:D->D->Option S} {pos:Pos}
theorem tF(hp:cH r p){i:Nat}{σ:St}{H:Hp}{Q:VK}(h:tD c (ah p i fb) σ H Q):mq r (cM i) (tB c fb) σ H Q:=by
 obtain⟨δ,k,q⟩:=h;unfold ah at q
 cases e:δ[i]? with
 | none=>rw[e] at q; exact q.elim
 | some o =>
  cases o with
  | none=>rw[e] at q; exact q.elim
  | some w =>
   rw[e] at q;obtain⟨v,ev⟩:=qh k e;exact OE hp (i:=i) ⟨δ,k,q⟩ λ_ _ _=>⟨v,ev⟩
theorem n_{op:Operator}(ho:bp X (QH op) r)(hp:cH r p)(ha:SE X c a fa)(hb:SB X c b fb):SE X c (.BinOp a op b pos) (aE p fa fb):=PE.weak (AH ho ha hb) λ_ _ _ h=>tE hp h
theorem qi{op:Operator}{i:Nat}(ho:bp X (QH op) r)(hp:cH r p)(ha:PE X a (cM i))(hb:SB X c b fb):SE X c (.BinOp a op b pos) (ah p i fb):=PE.weak (AH ho ha hb) λ_ _ _ h=>tF hp h
theorem og{op:CmpOp}(ho:bp X (WQ op) r)(hp:cH r p)(ha:SE X c a fa)(hb:SB X c b fb)(hm:QO op b=false):SE X c (.Compare a [op] [b] pos) (aE p fa fb):=PE.weak (AR ho ha hb hm) λ_ _ _ h=>tE hp h
theorem tG{op:CmpOp}{i:Nat}(ho:bp X (WQ op) r)(hp:cH r p)(ha:PE X a (cM i))(hb:SB X c b fb)(hm:QO op b=false):SE X c (.Compare a [op] [b] pos) (ah p i fb):=PE.weak (AR ho ha hb hm) λ_ _ _ h=>tF hp h
theorem Cf(hr:ic X r)(hp:cH r p)(ha:SE X c a fa)(hb:SB X c b fb)(hs:vZ b):SE X c (.Subscript a b pos) (aE p fa fb):=PE.weak (Bh hr ha hb hs) λ_ _ _ h=>tE hp h
theorem tH{i:Nat}(hr:ic X r)(hp:cH r p)(ha:PE X a (cM i))(hb:SB X c b fb)(hs:vZ b):SE X c (.Subscript a b pos) (ah p i fb):=PE.weak (Bh hr ha hb hs) λ_ _ _ h=>tF hp h
end
abbrev DT:=Dl->Rs Bool
def tT(c:Fc)(f:DT):TT:=λσ H Q=>∃ δ,Ok c σ δ H/\post c (f δ) λb δ'=>∀ H',aM c σ δ H σ δ' H'->Q b H'
abbrev ST(X:Cx)(c:Fc)(e:Expr)(f:DT):Prop:=PT X e (tT c f)
theorem PT.weak(h:PT X e t)(w:∀ σ H Q,t' σ H Q->t σ H Q):PT X e t':=λpins s σ H Q I q=>h pins s σ H Q I (w σ H Q q)
def aI(f:DE):DT:=λδ=>(f δ).bind λr δ'=>match r with
 | .pure (.bl b)=>.ok b δ'
 | _=>.stuck
section
variable {X:Cx} {c:Fc} {a b:Expr} {fa f:DE} {fb:BE} {r:R2} {p:D->D->Option S} {pos:Pos}
theorem wM(h:tT c (aI f) σ H Q):tD c f σ H λx H'=>∃ k,x = .bl k/\Q k H':=by
 obtain⟨δ,k,q⟩:=h;refine⟨δ,k,?_⟩;unfold aI at q;rw[aU] at q;refine aJ q λr δ1 q1 v H1 a1 r1=>?_
 cases r with
 | own d=>exact q1.elim
 | pure d =>
  cases d <;> first | exact q1.elim | skip
  rename_i b
  cases r1;exact⟨b,rfl,q1 H1 a1⟩
theorem mL{op:CmpOp}(ho:bp X (WQ op) r)(hp:cH r p)(ha:SE X c a fa)(hb:SB X c b fb)(hm:QO op b=false):ST X c (.Compare a [op] [b] pos) (aI (aE p fa fb)) :=
 PT.weak (AS ho ha hb hm) λσ H Q h=>tE hp (wM h)
theorem wN{op:CmpOp}{i:Nat}(ho:bp X (WQ op) r)(hp:cH r p)(ha:PE X a (cM i))(hb:SB X c b fb)(hm:QO op b=false):ST X c (.Compare a [op] [b] pos) (aI (ah p i fb)) :=
 PT.weak (AS ho ha hb hm) λσ H Q h=>tF hp (wM h)
theorem OG{e:Expr}(h:SE X c e f)(he:∀ whole,isTrue e X.env whole=(do let v <- whole; standAt e.pos; holding [v] (truthy v)):=by intro _; rfl):ST X c e (aI f) :=
 PT.weak (Ly h he) λσ H Q h=>wM h
def kz(t u:DT):DT:=λδ=>(t δ).bind λb δ1=>if b then u δ1 else .ok false δ1
def gF(t u:DT):DT:=λδ=>(t δ).bind λb δ1=>if b then .ok true δ1 else u δ1
def fA(t:DT):DT:=λδ=>(t δ).bind λb δ1=>.ok (!b) δ1
abbrev SW(X:Cx)(c:Fc)(e:Expr)(f:DT):Prop:=PW X e (tT c f)
theorem PW.weak(h:PW X e t)(w:∀ σ H Q,t' σ H Q->t σ H Q):PW X e t':=λwh pins s σ H Q I q=>h wh pins s σ H Q I (w σ H Q q)
variable {t u:DT} {rest:List Expr}
theorem OH(ha:ST X c a t):SW X c (.BoolOp .And [a] pos) t:=LF ha
theorem OI(ha:ST X c a t):SW X c (.BoolOp .Or [a] pos) t:=LG ha
theorem OJ(ha:ST X c a t)(hb:SW X c (.BoolOp .And (b :: rest) pos) u):SW X c (.BoolOp .And (a :: b :: rest) pos) (kz t u):=PW.weak (LH ha hb) λσ H Q ⟨δ,k,q⟩=>by
 unfold kz at q;rw[aU] at q;refine⟨δ,k,aJ q λx δ1 q1 H1 a1=>?_⟩
 cases x with
 | true=>exact⟨δ1,a1.ok,aJ q1 λy δ2 q2 H2 a2=>q2 H2 (a1.trans a2)⟩
 | false=>exact q1 H1 a1
theorem OK(ha:ST X c a t)(hb:SW X c (.BoolOp .Or (b :: rest) pos) u):SW X c (.BoolOp .Or (a :: b :: rest) pos) (gF t u):=PW.weak (pw_or ha hb) λσ H Q ⟨δ,k,q⟩=>by
 unfold gF at q;rw[aU] at q;refine⟨δ,k,aJ q λx δ1 q1 H1 a1=>?_⟩
 cases x with
 | false=>exact⟨δ1,a1.ok,aJ q1 λy δ2 q2 H2 a2=>q2 H2 (a1.trans a2)⟩
 | true=>exact q1 H1 a1
theorem OL(h:SW X c a t):ST X c a t:=PW.pt h
theorem OM(ha:ST X c a t):ST X c (.UnaryOp .Not a pos) (fA t):=PT.weak (LI ha) λσ H Q ⟨δ,k,q⟩=>by
 unfold fA at q;rw[aU] at q;exact⟨δ,k,q⟩
def gG(f g:DE):DE:=λδ=>(f δ).bind λr δ1=>match r with
 | .pure (.bl true)=>g δ1
 | .pure (.bl false)=>.ok (.pure (.bl false)) δ1
 | _=>.stuck
def lF(f g:DE):DE:=λδ=>(f δ).bind λr δ1=>match r with
 | .pure (.bl false)=>g δ1
 | .pure (.bl true)=>.ok (.pure (.bl true)) δ1
 | _=>.stuck
def oh(f:DE):DE:=λδ=>(f δ).bind λr δ1=>match r with
 | .pure (.bl b)=>.ok (.pure (.bl (!b))) δ1
 | _=>.stuck
def ON(t:DT)(f g:DE):DE:=λδ=>(t δ).bind λb δ1=>if b then f δ1 else g δ1
variable {g:DE}
theorem OO(ha:SE X c a f)(hb:SE X c (.BoolOp .And (b :: rest) pos) g):SE X c (.BoolOp .And (a :: b :: rest) pos) (gG f g):=PE.weak (LN ha hb) λσ H Q ⟨δ,k,q⟩=>by
 unfold gG at q;rw[aU] at q;refine⟨δ,k,aJ q λr δ1 q1 v H1 a1 r1=>?_⟩
 cases r with
 | own d=>exact q1.elim
 | pure d =>
  cases d <;> first | exact q1.elim | skip
  rename_i b
  cases r1;refine⟨b,rfl,?_⟩
  cases b with
  | true=>exact⟨δ1,a1.ok,aJ q1 λy δ2 q2 v H2 a2 r2=>q2 v H2 (a1.trans a2) (aY.back r2 a1)⟩
  | false=>exact q1 _ H1 a1 (.bl false)
theorem OP(ha:SE X c a f)(hb:SE X c (.BoolOp .Or (b :: rest) pos) g):SE X c (.BoolOp .Or (a :: b :: rest) pos) (lF f g):=PE.weak (LO ha hb) λσ H Q ⟨δ,k,q⟩=>by
 unfold lF at q;rw[aU] at q;refine⟨δ,k,aJ q λr δ1 q1 v H1 a1 r1=>?_⟩
 cases r with
 | own d=>exact q1.elim
 | pure d =>
  cases d <;> first | exact q1.elim | skip
  rename_i b
  cases r1;refine⟨b,rfl,?_⟩
  cases b with
  | false=>exact⟨δ1,a1.ok,aJ q1 λy δ2 q2 v H2 a2 r2=>q2 v H2 (a1.trans a2) (aY.back r2 a1)⟩
  | true=>exact q1 _ H1 a1 (.bl true)
theorem OQ(ha:SE X c a f):SE X c (.UnaryOp .Not a pos) (oh f):=PE.weak (LQ ha) λσ H Q ⟨δ,k,q⟩=>by
 unfold oh at q;rw[aU] at q;refine⟨δ,k,aJ q λr δ1 q1 v H1 a1 r1=>?_⟩
 cases r with
 | own d=>exact q1.elim
 | pure d =>
  cases d <;> first | exact q1.elim | skip
  rename_i b
  cases r1;exact⟨b,rfl,q1 _ H1 a1 (.bl _)⟩
end
section
variable {c:Fc} {σ:St} {δ:Dl} {H:Hp} {x:V}
theorem bU.int(h:bU c σ δ H x (.int i)):x = .int i:=by
 rcases h with h | ⟨_,_,h⟩
 ·cases h; rfl
 ·exact h.elim
theorem bU.bl(h:bU c σ δ H x (.bl b)):x = .bl b:=by
 rcases h with h | ⟨_,_,h⟩
 ·cases h; rfl
 ·exact h.elim
theorem bU.str(h:bU c σ δ H x (.str z)):x = .str (toS z):=by
 rcases h with h | ⟨_,_,h⟩
 ·cases h; rfl
 ·exact h.elim
theorem bU.tup(h:bU c σ δ H x (.tup ds)):∃ a vs,x = .ref a/\H a=some (.tup vs)/\aD H (Av c σ δ) vs ds:=by
 rcases h with h | ⟨_,_,h⟩
 ·cases h with
  | tup h1 h2 h3 h4=>exact⟨_,_,rfl,h2,h3,h4⟩
 ·exact h.elim
theorem bU.lst(h:bU c σ δ H x (.lst ds)):∃ a vs,x = .ref a/\Rd H a (.lst vs)/\aD H (Av c σ δ) vs ds:=by
 rcases h with h | ⟨a,e,h⟩
 ·cases h with
  | lst h1 h2 h3 h4=>exact⟨_,_,rfl,h2,h3,h4⟩
 ·obtain⟨vs,h1,h2⟩:=h;exact⟨a,vs,e,.inl h1,h2⟩
theorem bU.au(h:bU c σ δ H x (.au ds)):∃ a ws,x = .ref a/\H a=some (.dK ws)/\ws.map (·.1)=ds.map (λp=>bZ p.1)/\∀ (i:Nat) p q,ws[i]? = some p->ds[i]? = some q->Rep H (Av c σ δ) p.2 q.2:=by
 rcases h with h | ⟨a,e,h⟩
 ·cases h with
  | au h1 h2 h3 h4=>exact⟨_,_,rfl,h2,h3,h4⟩
 ·obtain⟨ws,h1,h2,h3⟩:=h;exact⟨a,ws,e,h1,h2,h3⟩
end
theorem Cg(h:z.length<=Wb):(toS z).length<=Wb:=by rw[iP]; exact h
theorem OR(x y:Tx):toS x ++ toS y=toS (x ++ y):=by
 show Str.append (toS x) (toS y)=_;simp[toS,Str.append]
noncomputable def bH:D->D->Option S
 | .int i,.int j=>some (.pure (.int (i + j)))
 | .str x,.str y=>if x.length + y.length<=Wb then some (.pure (.str (x ++ y))) else none
 | .tup xs,.tup ys=>if xs.length + ys.length<=Wb then some (.pure (.tup (xs ++ ys))) else none
 | .lst xs,.lst ys=>if xs.length + ys.length<=Wb then some (.own (.lst (xs ++ ys))) else none
 | _,_=>none
def Ci(K:W4):R2:=λx y H Q=>iK (λi j=>V.int (i + j)) x y H Q\/(∃ i j,x = .str i/\y = .str j/\i.length + j.length<=Wb/\Q (.str (i ++ j)) H) \/
 (∃ a b ys,x = .ref a/\y = .ref b/\bT K H a []/\bT K H b ys/\Q (.ref b) H)\/Bf K x y H Q\/B9 K x y H Q
theorem Cj:bp X (QH .Add) (Ci X.K):=Mm.or (Mz.or (Ox.or (MW.or Oy)))
theorem Ck{K:W4}:cH (Ci K) bH:=by
 intro c σ δ H x y d e s Q k rx ry hp q
 cases d <;> cases e <;> first
  | (simp[bH] at hp; done)
  | skip
 ·rename_i i j;simp only[bH,Wg] at hp;subst hp;exact .inl ⟨i,j,rx.int,ry.int,q _ H (.refl k) (.int _)⟩
 ·rename_i u w;simp only[bH] at hp;split at hp
  ·rename_i hz;simp only[Wg] at hp;subst hp;refine .inr (.inl ⟨toS u,toS w,rx.str,ry.str,by rw[iP,iP]; exact hz,?_⟩);rw[OR];exact q _ H (.refl k) (.str _)
  ·cases hp
 ·rename_i us ws;simp only[bH] at hp;split at hp
  ·rename_i hz;simp only[Wg] at hp;subst hp;obtain⟨a,vs,ea,ha,ra⟩:=rx.tup;obtain⟨b,zs,eb,hb,rb⟩:=ry.tup
   cases vs with
   | nil =>
    have:us=[]:=by have:=ra.1; simpa using this.symm
    subst this;refine .inr (.inr (.inl ⟨a,b,zs,ea,eb,.of ha,.of hb,?_⟩));rw[eb] at ry;rcases ry with ry | ⟨_,_,ry⟩
    ·exact q _ H (.refl k) ry
    ·exact ry.elim
   | cons v0 vr =>
    refine .inr (.inr (.inr (.inl ⟨a,b,_,zs,ea,eb,.of ha,.of hb,U',by rw[ra.1,rb.1]; exact hz,λe0=>?_,λ_ p hp=>?_⟩)))
    ·subst e0;have:ws=[]:=by have:=rb.1; simpa using this.symm
     subst this;rw[ea] at rx;rcases rx with rx | ⟨_,_,rx⟩
     ·rw[Qb] at q;exact q _ H (.refl k) rx
     ·exact rx.elim
    ·exact q _ _ (.alloc k hp _) (aY.mK k (ra.append rb) hp)
  ·cases hp
 ·rename_i us ws;simp only[bH] at hp;split at hp
  ·rename_i hz;simp only[Wg] at hp;subst hp;obtain⟨a,vs,ea,ha,ra⟩:=rx.lst;obtain⟨b,zs,eb,hb,rb⟩:=ry.lst;exact .inr (.inr (.inr (.inr ⟨a,b,vs,zs,ea,eb,.inl ha,.inl hb,by rw[ra.1,rb.1]; exact hz,λp hp=>q _ _ (.alloc k hp _) (aY.n8 k (ra.append rb) hp)⟩)))
  ·cases hp
noncomputable def eV(C:Int->Int->Bool)(g:Int->Int->D):D->D->Option S
 | .int i,.int j=>if C i j then some (.pure (g i j)) else none
 | _,_=>none
theorem qj(hC:∀ i j,C' i j=true->C i j)(hg:∀ i j H O,Rep H O (g i j) (g' i j)):cH (rI C g) (eV C' g'):=by
 intro c σ δ H x y d e s Q k rx ry hp q
 cases d <;> cases e <;> first
  | (simp[eV] at hp; done)
  | skip
 rename_i i j;simp only[eV] at hp;split at hp
 ·rename_i hc;simp only[Wg] at hp;subst hp;exact⟨i,j,rx.int,ry.int,hC i j hc,q _ H (.refl k) (hg i j H _)⟩
 ·cases hp
theorem OS(hg:∀ i j H O,Rep H O (g i j) (g' i j)):cH (iK g) (eV (λ_ _=>true) g'):=by
 intro c σ δ H x y d e s Q k rx ry hp q
 cases d <;> cases e <;> first
  | (simp[eV] at hp; done)
  | skip
 rename_i i j;simp only[eV,if_true,Wg] at hp;subst hp;exact⟨i,j,rx.int,ry.int,q _ H (.refl k) (hg i j H _)⟩
def jP:=eV (λ_ _=>true) λi j=>.int (i - j)
theorem OT:cH (iK λi j=>V.int (i - j)) jP:=OS λ_ _ _ _=>.int _
def jQ(i j:Int):Bool:=(decide (-(2 ^ 64) < i) && decide (i < 2 ^ 64)) || (decide (-(2 ^ 64) < j) && decide (j < 2 ^ 64))
def qk:=eV jQ λi j=>.int (i * j)
theorem OU:cH (rI pR λi j=>V.int (i * j)) qk:=qj (λi j h=>by
 unfold jQ at h;simp only[Bool.or_eq_true,Wy,decide_eq_true_eq] at h;exact h) λ_ _ _ _=>.int _
def il(_ j:Int):Bool:=decide (0 < j) && decide (j < 1073741824)
def eM:=eV il λi j=>.int (i / j)
theorem Cm:cH (rI AK λi j=>V.int (i / j)) eM:=qj (λi j h=>by
 unfold il at h;simp only[Wy,decide_eq_true_eq] at h;exact h) λ_ _ _ _=>.int _
def dP:=eV (λ_ j=>decide (0 < j)) λi j=>.int (i % j)
theorem Cn:cH (rI (λ_ j=>0 < j) λi j=>V.int (i % j)) dP:=qj (λi j h=>by simpa using h) λ_ _ _ _=>.int _
def wO(i j:Int):Bool:=decide (0<=j) && decide (j<=1000000) && decide (i.natAbs < 2 ^ 64)
def tJ:=eV wO λi j=>.int (i ^ j.toNat)
theorem OV:cH (rI AL λi j=>V.int (i ^ j.toNat)) tJ:=qj (λi j h=>by
 unfold wO at h;simp only[Wy,decide_eq_true_eq] at h;exact⟨h.1.1,h.1.2,h.2⟩) λ_ _ _ _=>.int _
noncomputable def fB(f:Int->Int->Bool)(g:Tx->Tx->Bool):D->D->Option S
 | .int i,.int j=>some (.pure (.bl (f i j)))
 | .str x,.str y=>some (.pure (.bl (g x y)))
 | _,_=>none
def lG(f:Int->Int->Bool)(g:List Nat->List Nat->Bool):R2:=λx y H Q=>iK (λi j=>V.bl (f i j)) x y H Q\/∃ i j,x = .str i/\y = .str j/\Q (.bl (g i.cps.toList j.cps.toList)) H
theorem gW:cH (lG f g) (fB f g):=by
 intro c σ δ H x y d e s Q k rx ry hp q
 cases d <;> cases e <;> first
  | (simp[fB] at hp; done)
  | skip
 ·rename_i i j;simp only[fB,Wg] at hp;subst hp;exact .inl ⟨i,j,rx.int,ry.int,q _ H (.refl k) (.bl _)⟩
 ·rename_i i j;simp only[fB,Wg] at hp;subst hp;refine .inr ⟨toS i,toS j,rx.str,ry.str,?_⟩;rw[sZ,sZ];exact q _ H (.refl k) (.bl _)
theorem ql{X:Cx}{op:CmpOp}{g:List Nat->List Nat->Bool}(rule:∀ (i j:Str) (t u:Tok) (Q:Value->W2->Prop) (s:W2),Q (.bool (g i.cps.toList j.cps.toList)) s->W5 (model X.prog X.w) X.A (WQ op (.str i t) (.str j u)) Q X.xe s) :
  bp X (WQ op) (λx y H Q=>∃ i j,x = .str i/\y = .str j/\Q (.bl (g i.cps.toList j.cps.toList)) H):=by
 intro pins s σ H x y v u Q I rx ry h;obtain⟨i,j,rfl,rfl,q⟩:=h;obtain⟨t,rfl⟩:=rx;obtain⟨t',rfl⟩:=ry;exact rule i j t t' _ s ⟨.bl _,H,I,rfl,q⟩
def iS:=fB (λi j=>decide (i < j)) λx y=>decide (x < y)
theorem Co:bp X (WQ .Lt) (lG (λi j=>decide (i < j)) λx y=>decide (x < y)):=Mr.or Mv
theorem Cp:cH (lG (λi j=>decide (i < j)) λx y=>decide (x < y)) iS:=gW
noncomputable def az:D->D->Option S
 | .lst ds,.int i=>(eE ds i).map .pure
 | .tup ds,.int i=>(eE ds i).map .pure
 | .str x,.int i=>if x.length<=Wb then(eE x i).map λn=>.pure (.str [n]) else none
 | _,_=>none
theorem Cq(r:aD H O vs ds)(h:eE ds i=some d):∃ v,eE vs i=some v/\Rep H O v d:=by
 unfold eE at h ⊢;rw[r.1]
 cases e:ib ds.length i with
 | none=>rw[e] at h; cases h
 | some j =>
  rw[e] at h;exact r.get h
theorem tK{K:W4}:cH (sM K) az:=by
 intro c σ δ H x y d e s Q k rx ry hp q
 cases d <;> cases e <;> first
  | (simp[az] at hp; done)
  | skip
 ·rename_i z i;simp only[az] at hp;split at hp
  ·rename_i hz
   cases e1:eE z i with
   | none=>rw[e1] at hp; cases hp
   | some n =>
    rw[e1] at hp;simp only[Wz,Wg] at hp;subst hp;refine .inr (.inr ⟨toS z,i,n,rx.str,ry.int,Cg hz,by rw[sZ]; exact e1,?_⟩);exact q (.str (toS [n])) H (.refl k) (.str [n])
  ·cases hp
 ·rename_i ds i;simp only[az] at hp
  cases e1:eE ds i with
  | none=>rw[e1] at hp; cases hp
  | some n =>
   rw[e1] at hp;simp only[Wz,Wg] at hp;subst hp;obtain⟨a,vs,ea,ha,ra⟩:=rx.tup;obtain⟨v,e2,r2⟩:=Cq ra e1;exact .inr (.inl ⟨a,vs,i,v,ea,ry.int,.of ha,e2,q v H (.refl k) r2⟩)
 ·rename_i ds i;simp only[az] at hp
  cases e1:eE ds i with
  | none=>rw[e1] at hp; cases hp
  | some n =>
   rw[e1] at hp;simp only[Wz,Wg] at hp;subst hp;obtain⟨a,vs,ea,ha,ra⟩:=rx.lst;obtain⟨v,e2,r2⟩:=Cq ra e1;exact .inl ⟨a,vs,i,v,ea,ry.int,.inl ha,e2,q v H (.refl k) r2⟩
def jR:=fB (λi j=>decide (i<=j)) λx y=>!decide (y < x)
def oj:=fB (λi j=>decide (j < i)) λx y=>decide (y < x)
def wQ:=fB (λi j=>decide (j<=i)) λx y=>!decide (x < y)
theorem tL:bp X (WQ .LtE) (lG (λi j=>decide (i<=j)) λx y=>!decide (y < x)):=Ms.or (ql (g:=λx y=>!decide (y < x)) λ_ _ _ _ _ _ h=>PySem.P.le_str h)
theorem Cr:bp X (WQ .Gt) (lG (λi j=>decide (j < i)) λx y=>decide (y < x)):=Mt.or (ql (g:=λx y=>decide (y < x)) λ_ _ _ _ _ _ h=>PySem.P.gt_str h)
theorem OW:bp X (WQ .GtE) (lG (λi j=>decide (j<=i)) λx y=>!decide (x < y)):=Mu.or (ql (g:=λx y=>!decide (x < y)) λ_ _ _ _ _ _ h=>PySem.P.ge_str h)
abbrev DA:=Dl->Rs (List D)
def OX(c:Fc)(f:DA):TA:=λσ H Q=>∃ δ,Ok c σ δ H/\post c (f δ) λds δ'=>∀ vs H',aM c σ δ H σ δ' H'->aD H' (Av c σ δ') vs ds->Q vs H'
structure SA(X:Cx)(c:Fc)(es:List Expr)(f:DA):Prop where
 pa:PA X es (OX c f)
 len:∀ δ ds δ',f δ = .ok ds δ'->ds.length=es.length
theorem PA.weak(h:PA X es t)(w:∀ σ H Q,t' σ H Q->t σ H Q):PA X es t':=λpos pins s σ H Q I q=>h pos pins s σ H Q I (w σ H Q q)
def bG:DA:=λδ=>.ok [] δ
def aT(f:DE)(g:DA):DA:=λδ=>(f δ).bind λx δ1=>(g δ1).bind λxs δ2=>.ok (x.d :: xs) δ2
section
variable {X:Cx} {c:Fc} {e:Expr} {es:List Expr} {f:DE} {g:DA} {pos:Pos}
theorem tM:SA X c [] bG:=⟨PA.weak gz λσ H Q ⟨δ,k,q⟩=>q [] H (.refl k) .nil,λδ ds δ' h=>by cases h; rfl⟩
theorem Cs(ha:SE X c e f)(hr:SA X c es g)(hs:Wh (e :: es) X.env=(false,eval e X.env) :: Wh es X.env:=by rfl):SA X c (e :: es) (aT f g):=by
 refine⟨PA.weak (fw ha hr.pa hs) λσ H Q ⟨δ,k,q⟩=>?_,λδ ds δ' h=>?_⟩
 ·unfold aT at q;rw[aU] at q;refine⟨δ,k,aJ q λx δ1 q1 v H1 a1 r1=>⟨δ1,a1.ok,?_⟩⟩;rw[aU] at q1;exact aJ q1 λxs δ2 q2 vs H2 a2 r2=>q2 (v :: vs) H2 (a1.trans a2) (.cons (Rep.dq r1.rep a2) r2)
 ·unfold aT at h
  cases h1:f δ with
  | ok x δ1 =>
   rw[h1] at h
   cases h2:g δ1 with
   | ok xs δ2 =>
    simp only[Rs.bind,h2] at h
    cases h;simp[hr.len _ _ _ h2]
   | exc x δx=>simp only[Rs.bind,h2] at h; cases h
   | stuck=>simp only[Rs.bind,h2] at h; cases h
  | exc x δx=>rw[h1] at h; cases h
  | stuck=>rw[h1] at h; cases h
def cj(f:DA):DE:=λδ=>(f δ).bind λds δ'=>.ok (.pure (.tup ds)) δ'
def fD(f:DA):DE:=λδ=>(f δ).bind λds δ'=>.ok (.own (.lst ds)) δ'
theorem Ct(h:n<=1000):n<=Wb:=J9 (NP h)
theorem Cu(h:post c r k):post c r λa δ=>r = .ok a δ/\k a δ:=by
 cases r with
 | ok a δ=>exact⟨rfl,h⟩
 | exc x δx=>exact h
 | stuck=>exact h
theorem tN{x1}(h:SA X c es g)(hz:es.length<=1000:=by decide):SE X c (.Tuple es x1 pos) (cj g):=PE.weak (MG h.pa) λσ H Q ⟨δ,k,q⟩=>by
 unfold cj at q;rw[aU] at q;refine⟨δ,k,aJ (Cu q) λds δ1 ⟨e1,q1⟩ vs H1 a1 r1=>?_⟩;have hl:=h.len _ _ _ e1;exact⟨by rw[r1.1,hl]; exact Ct hz,λp hp=>q1 _ _ (a1.trans (.alloc a1.ok hp _)) (aY.back (aY.mK a1.ok r1 hp) a1)⟩
theorem Cv(h:SA X c es g)(hz:es.length<=1000:=by decide):SE X c (.List es pos) (fD g):=PE.weak (MH h.pa) λσ H Q ⟨δ,k,q⟩=>by
 unfold fD at q;rw[aU] at q;refine⟨δ,k,aJ (Cu q) λds δ1 ⟨e1,q1⟩ vs H1 a1 r1=>?_⟩;have hl:=h.len _ _ _ e1;exact⟨by rw[r1.1,hl]; exact Ct hz,λp hp=>q1 _ _ (a1.trans (.alloc a1.ok hp _)) (aY.back (aY.n8 a1.ok r1 hp) a1)⟩
end
noncomputable def p1(p:D->Option S)(x:D)(δ:Dl):Rs S:=match p x with
 | some s=>.ok s δ
 | none=>.stuck
noncomputable def aR(p:D->Option S)(fb:BE):DE:=λδ=>(fb δ).bind λx δ1=>p1 p x δ1
def lH(r:V->Hp->VK->Prop)(p:D->Option S):Prop:=∀ (c:Fc) (σ:St) (δ:Dl) (H:Hp) (x:V) (d:D) (s:S) (Q:VK),Ok c σ δ H->bU c σ δ H x d->p d=some s ->
 (∀ v H',aM c σ δ H σ δ H'->aY c σ δ H H' v s->Q v H')->r x H Q
section
variable {X:Cx} {c:Fc} {e:Expr} {fb:BE} {r:V->Hp->VK->Prop} {p:D->Option S} {x:Str} {id T:String} {pp pos:Pos}
theorem wR(hp:lH r p)(k:Ok c σ δ H)(rx:bU c σ δ H v d)
  (h:post c (p1 p d δ) λs δ'=>∀ v H',aM c σ δ H σ δ' H'->aY c σ δ' H H' v s->Q v H'):r v H Q:=by
 unfold p1 at h
 cases e1:p d with
 | none=>rw[e1] at h; exact h.elim
 | some s=>rw[e1] at h; exact hp c σ δ H v d s Q k rx e1 h
theorem qm(hp:lH r p)(h:tD c (aR p fb) σ H Q):vO r (tB c fb) σ H Q:=by
 obtain⟨δ,k,q⟩:=h;unfold aR at q;rw[aU] at q;exact⟨δ,k,aJ q λy δ1 q1 v H1 a1 r1=>wR hp a1.ok r1 (aJ q1 λs δ2 q2 w H2 a2 r2=>q2 w H2 (a1.trans a2) (aY.back r2 a1))⟩
theorem wU(hc:eA X (.builtin id) rl)(hl:∀ v H Q,r v H Q->rl [v] H Q)(hp:lH r p)(hg:Gl X x)(hm:X.mg x=none)(hv:QW x=some (.builtin id))(he:SB X c e fb)
  (hn:x≠"__name__":=by decide) (gC:(x == ("__debug__" : Str))=false:=by decide) (hs:Wh [e] X.env=(false,eval e X.env) :: Wh [] X.env:=by rfl) (dY:(Qi pos (Wh [] X.env)).any (·.1)=false:=by rfl) :
  SE X c (.Call (.Name x pp) [e] [] pos) (aR p fb):=PE.weak (sJ hc hg hm hv (fw he gz hs) hn gC hs dY) λσ H Q h=>by
 obtain⟨δ,k,q⟩:=qm hp h;exact⟨δ,k,aJ q λy δ1 q1 v H1 a1 r1=>hl _ _ _ (q1 v H1 a1 r1)⟩
theorem tO(hc:eA X (.type T) rl)(hl:∀ v H Q,r v H Q->rl [v] H Q)(hp:lH r p)(hg:Gl X x)(hm:X.mg x=none)(hv:QW x=some (.type T))(he:SB X c e fb)
  (hn:x≠"__name__":=by decide) (gC:(x == ("__debug__" : Str))=false:=by decide) (hs:Wh [e] X.env=(false,eval e X.env) :: Wh [] X.env:=by rfl) (dY:(Qi pos (Wh [] X.env)).any (·.1)=false:=by rfl) :
  SE X c (.Call (.Name x pp) [e] [] pos) (aR p fb):=PE.weak (A9 hc hg hm hv (fw he gz hs) hn gC hs dY) λσ H Q h=>by
 obtain⟨δ,k,q⟩:=qm hp h;exact⟨δ,k,aJ q λy δ1 q1 v H1 a1 r1=>hl _ _ _ (q1 v H1 a1 r1)⟩
noncomputable def cN:D->Option S
 | .lst ds=>some (.pure (.int ds.length))
 | .tup ds=>some (.pure (.int ds.length))
 | .str z=>if z.length<=Wb then some (.pure (.int z.length)) else none
 | .au ds=>some (.pure (.int ds.length))
 | _=>none
def OY(K:W4):V->Hp->VK->Prop:=λv H Q=>((∃ p ys,v = .ref p/\(cA K H p ys\/bT K H p ys)/\Q (.int ys.length) H)\/∃ z,v = .str z/\z.length<=Wb/\Q (.int z.length) H)\/∃ a kvs,v=V.ref a/\H a=some (.dK kvs)/\Q (.int kvs.length) H
theorem OZ{K:W4}:lH (OY K) cN:=by
 intro c σ δ H x d s Q k rx hp q
 cases d with
 | lst ds =>
  simp only[cN,Wg] at hp;subst hp;obtain⟨a,vs,ea,ha,ra⟩:=rx.lst;exact .inl (.inl ⟨a,vs,ea,.inl (.inl ha),by rw[ra.1]; exact q _ H (.refl k) (.int _)⟩)
 | tup ds =>
  simp only[cN,Wg] at hp;subst hp;obtain⟨a,vs,ea,ha,ra⟩:=rx.tup;exact .inl (.inl ⟨a,vs,ea,.inr (.of ha),by rw[ra.1]; exact q _ H (.refl k) (.int _)⟩)
 | str z =>
  simp only[cN] at hp;split at hp
  ·rename_i hz;simp only[Wg] at hp;subst hp;exact .inl (.inr ⟨toS z,rx.str,Cg hz,by rw[iP]; exact q _ H (.refl k) (.int _)⟩)
  ·cases hp
 | au ds =>
  simp only[cN,Wg] at hp;subst hp;obtain⟨a,ws,ea,ha,h1,h2⟩:=rx.au;have hl:ws.length=ds.length:=by have:=congrArg QP h1; simpa using this
  exact .inr ⟨a,ws,ea,ha,by rw[hl]; exact q _ H (.refl k) (.int _)⟩
 | _=>simp[cN] at hp
theorem Cw (hg:Gl X "len") (hm:X.mg "len" = none) (he:SB X c e fb) (hs:Wh [e] X.env=(false,eval e X.env) :: Wh [] X.env:=by rfl):SE X c (.Call (.Name "len" pp) [e] [] pos) (aR cN fb) :=
 wU ((Nb.or Nc).or NQ) (λv H Q h=>by
  rcases h with (⟨p,ys,e,h⟩ | ⟨z,e,h⟩) | ⟨a,kvs,e,h⟩
  ·exact .inl (.inl ⟨p,ys,by rw[e],h⟩)
  ·exact .inl (.inr ⟨z,by rw[e],h⟩)
  ·exact .inr ⟨a,kvs,by rw[e],h⟩) (OZ (K:=X.K)) hg hm PySem.boot_len he Z' Z' hs
noncomputable def iT:D->Option S
 | .lst ds=>some (.pure (.tup ds))
 | .tup ds=>some (.pure (.tup ds))
 | _=>none
def O0(K:W4):V->Hp->VK->Prop:=λv H Q=>∃ p ys,v = .ref p/\((cA K H p ys/\∀ l,H l=none->Q (.ref l) (upd H l (.tup ys)))\/(bT K H p ys/\Q (.ref p) H))
theorem O1{K:W4}:lH (O0 K) iT:=by
 intro c σ δ H x d s Q k rx hp q
 cases d with
 | lst ds =>
  simp only[iT,Wg] at hp;subst hp;obtain⟨a,vs,ea,ha,ra⟩:=rx.lst;exact⟨a,vs,ea,.inl ⟨.inl ha,λl hl=>q _ _ (.alloc k hl _) (aY.mK k ra hl)⟩⟩
 | tup ds =>
  simp only[iT,Wg] at hp;subst hp;obtain⟨a,vs,ea,ha,ra⟩:=rx.tup;refine⟨a,vs,ea,.inr ⟨.of ha,?_⟩⟩;rw[ea] at rx;rcases rx with rx | ⟨_,_,rx⟩
  ·exact q _ H (.refl k) rx
  ·exact rx.elim
 | _=>simp[iT] at hp
theorem O2 (hg:Gl X "tuple") (hm:X.mg "tuple" = none) (he:SB X c e fb) (hs:Wh [e] X.env=(false,eval e X.env) :: Wh [] X.env:=by rfl):SE X c (.Call (.Name "tuple" pp) [e] [] pos) (aR iT fb) :=
 tO Nd (λv H Q ⟨p,ys,e,h⟩=>⟨p,ys,by rw[e],h⟩) (O1 (K:=X.K)) hg hm PyProof.Rows.boot_tuple he Z' Z' hs
noncomputable def mM:D->Option S
 | .int i=>some (.pure (.int i))
 | .bl b=>some (.pure (.int (if b then 1 else 0)))
 | _=>none
theorem O3 (hg:Gl X "int") (hm:X.mg "int" = none) (he:SB X c e fb) (hs:Wh [e] X.env=(false,eval e X.env) :: Wh [] X.env:=by rfl):SE X c (.Call (.Name "int" pp) [e] [] pos) (aR mM fb) :=
 tO (r:=λv H Q=>(∃ i,v = .int i/\Q (.int i) H)\/∃ k,v = .bl k/\Q (.int (if k then 1 else 0)) H) MB (λv H Q h=>by
  rcases h with ⟨i,e,q⟩ | ⟨k,e,q⟩
  ·exact .inl ⟨i,by rw[e],q⟩
  ·exact .inr ⟨k,by rw[e],q⟩) (λc σ δ H x d s Q k rx hp q=>by
  cases d with
  | int i =>
   simp only[mM,Wg] at hp;subst hp;exact .inl ⟨i,rx.int,q _ H (.refl k) (.int _)⟩
  | bl b =>
   simp only[mM,Wg] at hp;subst hp;exact .inr ⟨b,rx.bl,q _ H (.refl k) (.int _)⟩
  | _=>simp[mM] at hp) hg hm PyProof.Rows.boot_int he Z' Z' hs
noncomputable def jS:List D->Option (List Bool)
 | []=>some []
 | .bl b :: r=>(jS r).map (b :: ·)
 | _ :: _=>none
noncomputable def gX:List D->Option (List Tx)
 | []=>some []
 | .str x :: r=>(gX r).map (x :: ·)
 | _ :: _=>none
theorem Cy:∀ {ds:List D} {vs:List V} {bs:List Bool},jS ds=some bs->aD H O vs ds->vs=bs.map V.bl
 | [],vs,bs,h,r=>by
  simp only[jS,Wg] at h;subst h;have:=r.1;simpa using this
 | d :: ds,[],bs,h,r=>by have:=r.1; simp at this
 | d :: ds,v :: vs,bs,h,r=>by
  cases d with
  | bl b =>
   simp only[jS] at h
   cases e:jS ds with
   | none=>rw[e] at h; cases h
   | some bs' =>
    rw[e] at h;simp only[Wz,Wg] at h;subst h;have:=r.head
    cases this;rw[Cy e r.tail];rfl
  | _=>simp[jS] at h
theorem tQ:∀ {ds:List D} {vs:List V} {bs:List Tx},gX ds=some bs->aD H O vs ds->vs=bs.map λz=>V.str (toS z)
 | [],vs,bs,h,r=>by
  simp only[gX,Wg] at h;subst h;have:=r.1;simpa using this
 | d :: ds,[],bs,h,r=>by have:=r.1; simp at this
 | d :: ds,v :: vs,bs,h,r=>by
  cases d with
  | str b =>
   simp only[gX] at h
   cases e:gX ds with
   | none=>rw[e] at h; cases h
   | some bs' =>
    rw[e] at h;simp only[Wz,Wg] at h;subst h;have:=r.head
    cases this;rw[tQ e r.tail];rfl
  | _=>simp[gX] at h
theorem Cz:∀ ts:List Tx,aD H O (ts.map λz=>V.str (toS z)) (ts.map D.str)
 | []=>.nil
 | t :: ts=>.cons (.str t) (Cz ts)
noncomputable def jh:D->Option S
 | .lst ds=>(jS ds).map λbs=>.pure (.bl (bs.all (λb=>b)))
 | _=>none
theorem O4:QW "all" = some (.builtin "all"):=by decide +kernel
theorem O5 (hc:X.calm=true) (hg:Gl X "all") (hm:X.mg "all" = none) (he:SB X c e fb) (hs:Wh [e] X.env=(false,eval e X.env) :: Wh [] X.env:=by rfl):SE X c (.Call (.Name "all" pp) [e] [] pos) (aR jh fb) :=
 wU (r:=λv H Q=>∃ (a:Addr) (bs:List Bool),v = .ref a/\cA X.K H a (bs.map V.bl)/\Q (.bl (bs.all (λb=>b))) H) (OA hc) (λv H Q ⟨a,bs,e,h⟩=>⟨a,bs,by rw[e],h⟩) (λc σ δ H x d s Q k rx hp q=>by
  cases d with
  | lst ds =>
   simp only[jh] at hp
   cases e:jS ds with
   | none=>rw[e] at hp; cases hp
   | some bs =>
    rw[e] at hp;simp only[Wz,Wg] at hp;subst hp;obtain⟨a,vs,ea,ha,ra⟩:=rx.lst;have:=Cy e ra;subst this;exact⟨a,bs,ea,.inl ha,q _ H (.refl k) (.bl _)⟩
  | _=>simp[jh] at hp) hg hm O4 he Z' Z' hs
noncomputable def wV:D->D->Option S
 | .int i,.int j=>some (.pure (.int (if j > i then j else i)))
 | _,_=>none
def qo(f g:DE):DE:=λδ=>(f δ).bind λx δ1=>(g δ1).bind λy δ2=>p2 wV x.d y.d δ2
theorem O6 {a b:Expr} {f g:DE} (hc:X.calm=true) (hg:Gl X "max") (hm:X.mg "max" = none) (ha:SE X c a f) (hb:SE X c b g) (hs:Wh [a,b] X.env=(false,eval a X.env) :: Wh [b] X.env:=by rfl)
  (tR:Wh [b] X.env=(false,eval b X.env) :: Wh [] X.env:=by rfl) (dY:(Qi pos (Wh [b] X.env)).any (·.1)=false:=by rfl):SE X c (.Call (.Name "max" pp) [a,b] [] pos) (qo f g) :=
 PE.weak (sJ (MA hc) hg hm PyProof.Rows.boot_max (fw ha (fw hb gz tR) hs) Z' Z' hs dY) λσ H Q ⟨δ,k,q⟩=>by
  unfold qo at q;rw[aU] at q;refine⟨δ,k,aJ q λx δ1 q1 v H1 a1 r1=>⟨δ1,a1.ok,?_⟩⟩;rw[aU] at q1;refine aJ q1 λy δ2 q2 u H2 a2 r2=>?_
  unfold p2 at q2;have hx:bU c σ δ2 H2 v x.d:=.inl (Rep.dq r1.rep a2);have hy:=r2.b;generalize x.d=dx at q2 hx;generalize y.d=dy at q2 hy
  cases dx <;> cases dy <;> first
   | exact q2.elim
   | skip
  rename_i i j;exact⟨i,j,by rw[hx.int,hy.int],q2 _ H2 (a1.trans a2) (.int _)⟩
noncomputable def ip(T:String):D->Option Bool
 | .ay=>some (T == "NoneType")
 | .bl _=>some (T == "bool" || T == "int")
 | .int _=>some (T == "int")
 | .str _=>some (T == "str")
 | .tup _=>some (T == "tuple")
 | .lst _=>some (T == "list")
 | .au _=>some (T == "dict")
 | .exc _ _=>none
 | .xd _=>none
 | .fn _=>none
 | .dic _=>none
structure kA(K:W4)(T:String):Prop where
 ay:Ji K (.type "NoneType") (.type T)=some (T == "NoneType")
 bl:Ji K (.type "bool") (.type T)=some (T == "bool" || T == "int")
 int:Ji K (.type "int") (.type T)=some (T == "int")
 str:Ji K (.type "str") (.type T)=some (T == "str")
 tup:Ji K (.type "tuple") (.type T)=some (T == "tuple")
 lst:Ji K (.type "list") (.type T)=some (T == "list")
 au:Ji K (.type "dict") (.type T)=some (T == "dict")
def iU(T:String)(fb:BE):DE:=λδ=>(fb δ).bind λd δ'=>match ip T d with
 | some b=>.ok (.pure (.bl b)) δ'
 | none=>.stuck
theorem O7(ty:kA X.K T)(I:Inv X pins σ H s)(ru:RelV v u)(r:Rep H qf v d)(e:ip T d=some b)(q:Q (.bl b) H) :
  W5 (model X.prog X.w) X.A (call (.builtin "isinstance") [u,.type T]) (EP X pins σ Q) X.xe s:=by
 have fin:∀ tk,EP X pins σ Q (.bool b) { s with toks:=tk }:=λtk=>⟨.bl b,H,I.tok tk,rfl,q⟩
 cases r with
 | ay=>exact lr I ru .ay (ty.ay.trans e) fin
 | bl x=>exact lr I ru (.bl x) (ty.bl.trans e) fin
 | int x=>exact lr I ru (.int x) (ty.int.trans e) fin
 | str x=>exact lr I ru (.str _) (ty.str.trans e) fin
 | tup _ h2 _ _=>exact lr I ru (.tup h2) (ty.tup.trans e) fin
 | lst _ h2 _ _ =>
  rcases h2 with h2 | ⟨o,h2⟩
  ·exact lr I ru (.lst h2) (ty.lst.trans e) fin
  ·exact lr I ru (.frz h2) (ty.lst.trans e) fin
 | au _ h2 _ _=>exact lr I ru (.dK h2) (ty.au.trans e) fin
 | exc _ _=>cases e
 | xd _ _=>cases e
 | fn _=>cases e
 | dic _=>cases e
theorem O8 (ty:kA X.K T):eA X (.builtin "isinstance") (λxs H Q=>∃ v d b,xs=[v,.ty T]/\Rep H qf v d/\ip T d=some b/\Q (.bl b) H):=by
 intro pins s σ H xs us Q I r h;obtain⟨v,d,b,rfl,rp,e,q⟩:=h;obtain⟨u,w',rfl,r1,r2⟩:=AU r
 cases r2;exact O7 ty I r1 rp e q
theorem wW {y:Str} {py:Pos} (ty:kA X.K T) (hg:Gl X "isinstance") (hm:X.mg "isinstance" = none) (O9:Gl X y) (O_:X.mg y=none) (Pa:QW y=some (.type T)) (he:SB X c e fb)
  (Pb:y≠"__name__":=by decide) (Pc:(y == ("__debug__" : Str))=false:=by decide)
  (hs:Wh [e,.Name y py] X.env=(false,eval e X.env) :: Wh [.Name y py] X.env:=by rfl) (dY:(Qi pos (Wh [.Name y py] X.env)).any (·.1)=false:=by rfl) :
  SE X c (.Call (.Name "isinstance" pp) [e,.Name y py] [] pos) (iU T fb) :=
 PE.weak (sJ (O8 ty) hg hm PyProof.Rows.boot_isinstance (fw he (fw (Lw (v:=.ty T) O9 O_ Pa rfl Pb Pc) gz) hs) Z' Z' hs dY) λσ H Q ⟨δ,k,q⟩=>by
  unfold iU at q;rw[aU] at q;refine⟨δ,k,aJ q λd δ1 q1 v H1 a1 r1=>?_⟩
  cases e1:ip T d with
  | none=>rw[e1] at q1; exact q1.elim
  | some b =>
   rw[e1] at q1;exact⟨v,d,b,rfl,r1.un,e1,q1 _ H1 a1 (.bl _)⟩
end
abbrev lJ:=Dl->Rs (Option Int)
def Pd(c:Fc)(f:lJ):TO:=λσ H Q=>∃ δ,Ok c σ δ H/\post c (f δ) λo δ'=>∀ H',aM c σ δ H σ δ' H'->Q o H'
abbrev SO(X:Cx)(c:Fc)(e:Option Expr)(f:lJ):Prop:=PO X e (Pd c f)
theorem PO.weak(h:PO X e t)(w:∀ σ H Q,t' σ H Q->t σ H Q):PO X e t':=λpins s σ H Q I q=>h pins s σ H Q I (w σ H Q q)
def qp:lJ:=λδ=>.ok none δ
def gY(f:DE):lJ:=λδ=>(f δ).bind λr δ'=>match r with
 | .pure (.int i)=>.ok (some i) δ'
 | _=>.stuck
section
variable {X:Cx} {c:Fc} {e:Expr} {f:DE} {fb:BE} {fl fh:lJ} {lo hi:Option Expr} {pos p2:Pos}
theorem Pe:SO X c none qp:=PO.weak MR λσ H Q ⟨δ,k,q⟩=>q H (.refl k)
theorem Pf(h:SE X c e f):SO X c (some e) (gY f):=PO.weak (MS h) λσ H Q ⟨δ,k,q⟩=>by
 unfold gY at q;rw[aU] at q;refine⟨δ,k,aJ q λr δ1 q1 v H1 a1 r1=>?_⟩
 cases r with
 | own d=>exact q1.elim
 | pure d =>
  cases d <;> first | exact q1.elim | skip
  rename_i i
  cases r1;exact⟨i,rfl,q1 H1 a1⟩
noncomputable def gH(lo hi:Option Int):D->Option S
 | .str x=>if x.length<=Wb then some (.pure (.str (cu x lo hi))) else none
 | .tup ds=>some (.pure (.tup (cu ds lo hi)))
 | .lst ds=>some (.own (.lst (cu ds lo hi)))
 | _=>none
def CA(K:W4):V->Option Int->Option Int->Hp->VK->Prop:=λx lo hi H Q=>B7 x lo hi H Q\/B5 K x lo hi H Q\/Bl K x lo hi H Q
theorem CB:jN X (CA X.K):=Oo.or (Oj.or M8)
theorem CF{K:W4}(lo hi:Option Int):lH (λx H Q=>CA K x lo hi H Q) (gH lo hi):=by
 intro c σ δ H x d s Q k rx hp q
 cases d with
 | str z =>
  simp only[gH] at hp;split at hp
  ·rename_i hz;simp only[Wg] at hp;subst hp;exact .inl ⟨z,rx.str,hz,q _ H (.refl k) (.str _)⟩
  ·cases hp
 | tup ds =>
  simp only[gH,Wg] at hp;subst hp;obtain⟨a,vs,ea,ha,ra⟩:=rx.tup;refine .inr (.inl ⟨a,vs,ea,.of ha,λhw=>?_,λ_ p hp=>?_⟩)
  ·rw[ra.1] at hw;rw[Oh hw] at q;rw[ea] at rx;rcases rx with rx | ⟨_,_,rx⟩
   ·exact q _ H (.refl k) rx
   ·exact rx.elim
  ·rw[<- B3];exact q _ _ (.alloc k hp _) (aY.mK k (ra.cut lo hi) hp)
 | lst ds =>
  simp only[gH,Wg] at hp;subst hp;obtain⟨a,vs,ea,ha,ra⟩:=rx.lst;refine .inr (.inr ⟨a,vs,ea,.inl ha,λp hp=>?_⟩);rw[<- B3];exact q _ _ (.alloc k hp _) (aY.n8 k (ra.cut lo hi) hp)
 | _=>simp[gH] at hp
def qq(f:DE)(fl fh:lJ):DE:=λδ=>(f δ).bind λx δ1=>(fl δ1).bind λl δ2=>(fh δ2).bind λh δ3=>p1 (gH l h) x.d δ3
theorem Pg(he:SE X c e f)(hl:SO X c lo fl)(hh:SO X c hi fh):SE X c (.Subscript e (.Slice lo hi none p2) pos) (qq f fl fh):=PE.weak (Bc CB he hl hh) λσ H Q ⟨δ,k,q⟩=>by
 unfold qq at q;rw[aU] at q;refine⟨δ,k,aJ q λx δ1 q1 v H1 a1 r1=>⟨δ1,a1.ok,?_⟩⟩;rw[aU] at q1;refine aJ q1 λl δ2 q2 H2 a2=>⟨δ2,a2.ok,?_⟩
 rw[aU] at q2;refine aJ q2 λh δ3 q3 H3 a3=>?_
 exact wR (CF l h) a3.ok (.inl (Rep.dq r1.rep (a2.trans a3))) (aJ q3 λs δ4 q4 w H4 a4 r4=>q4 w H4 (a1.trans (a2.trans (a3.trans a4))) (aY.back r4 (a1.trans (a2.trans a3))))
def jT(i:Nat)(fl fh:lJ):DE:=λδ=>match δ[i]? with
 | some (some _)=>(fl δ).bind λl δ2=>(fh δ2).bind λh δ3=>(aj i δ3).bind λx δ4=>p1 (gH l h) x δ4
 | _=>.stuck
theorem om{i:Nat}{σ:St}{δ:Dl}{H:Hp}{v:V}{w:S}(k:Ok c σ δ H)(e:δ[i]? = some (some w))(ev:σ[i]? = some (some v)):bU c σ δ H v w.d:=by
 cases w with
 | pure d =>
  obtain⟨v',e1,r⟩:=k.slot i d e;rw[ev] at e1; cases e1
  exact .inl r
 | own d =>
  obtain⟨a,e1,r,_⟩:=k.own i d e;rw[ev] at e1; cases e1
  exact .inr ⟨a,rfl,r⟩
theorem Ph(h:post c ((aj i δ).bind g) kk):∃ w,δ[i]? = some (some w)/\post c (g w.d δ) kk:=by
 unfold aj at h
 cases e:δ[i]? with
 | none=>rw[e] at h; exact h.elim
 | some o =>
  cases o with
  | none=>rw[e] at h; exact h.elim
  | some w=>rw[e] at h; exact⟨w,rfl,h⟩
theorem Pj{i:Nat}(he:PE X e (cM i))(hl:SO X c lo fl)(hh:SO X c hi fh):SE X c (.Subscript e (.Slice lo hi none p2) pos) (jT i fl fh):=PE.weak (Bc CB he hl hh) λσ H Q ⟨δ,k,q⟩=>by
 unfold jT at q
 cases e:δ[i]? with
 | none=>rw[e] at q; exact q.elim
 | some o =>
  cases o with
  | none=>rw[e] at q; exact q.elim
  | some w =>
   rw[e] at q;obtain⟨v,ev⟩:=qh k e;have q':post c ((fl δ).bind λl δ2=>(fh δ2).bind λh δ3=>(aj i δ3).bind λx δ4=>p1 (gH l h) x δ4) λr δ'=>∀ v H',aM c σ δ H σ δ' H'->aY c σ δ' H H' v r->Q v H':=q
   rw[aU] at q';refine⟨v,ev,δ,k,aJ q' λl δ2 q2 H2 a2=>⟨δ2,a2.ok,?_⟩⟩;rw[aU] at q2;refine aJ q2 λh δ3 q3 H3 a3=>?_
   obtain⟨w3,e3,q4⟩:=Ph q3;exact wR (CF l h) a3.ok (om a3.ok e3 ev) (aJ q4 λs δ4 q4 w H4 a4 r4=>q4 w H4 (a2.trans (a3.trans a4)) (aY.back r4 (a2.trans a3)))
noncomputable def qr:D->Option S
 | .str x=>if x.length<=Wb then some (.pure (.str x.reverse)) else none
 | .lst ds=>some (.own (.lst ds.reverse))
 | _=>none
def Pk(K:W4):V->Hp->VK->Prop:=λx H Q=>(∃ z:Tx,x = .str (toS z)/\z.length<=Wb/\Q (.str (toS z.reverse)) H)\/∃ a xs,x = .ref a/\cA K H a xs/\∀ p,H p=none->Q (.ref p) (upd H p (.lst xs.reverse))
def ji(z:Tx):List Tx->Tx
 | []=>[]
 | [x]=>x
 | x :: y :: r=>x ++ z ++ ji z (y :: r)
theorem CG(z:Tx):∀ (r:List Tx) (acc:Tx),((r.map toS).foldl (λ(acc:Array Nat) p=>acc ++ (toS z).cps ++ p.cps) acc.toArray)=(match r with | []=>acc | x :: r'=>acc ++ z ++ ji z (x :: r')).toArray
 | [],acc=>rfl
 | x :: r,acc=>by
  rw[We,Qw];have e:acc.toArray ++ (toS z).cps ++ (toS x).cps=(acc ++ z ++ x).toArray:=by simp[toS]
  rw[e,CG z r (acc ++ z ++ x)]
  cases r with
  | nil=>simp[ji]
  | cons y r'=>simp[ji]
theorem Pl(z:Tx)(ts:List Tx):Txt.join (toS z) (ts.map toS)=toS (ji z ts):=by
 show Builtin.Str.glued _ _=_;unfold Builtin.Str.glued
 cases ts with
 | nil=>rfl
 | cons x r =>
  rw[We];show(⟨(List.foldl _ (toS x).cps (r.map toS))⟩:Str)=_;have:=CG z r x;have e:(toS x).cps=x.toArray:=rfl;rw[e,this]
  cases r with
  | nil=>rfl
  | cons y r'=>rfl
def gI(ts:List Tx):Nat:=(ts.map (·.length)).sum
noncomputable def dQ(z:Tx):D->Option S
 | .lst ds=>match gX ds with
  | some ts=>if gI ts + ts.length * z.length<=16777216 then some (.pure (.str (ji z ts))) else none
  | none=>none
 | .tup ds=>match gX ds with
  | some ts=>if gI ts + ts.length * z.length<=16777216 then some (.pure (.str (ji z ts))) else none
  | none=>none
 | _=>none
theorem Pm{K:W4}(z:Tx):lH (λx H Q=>tw K (.str (toS z)) [x] H Q) (dQ z):=by
 intro c σ δ H x d s Q k rx hp q;have key:∀ (a:Addr) (vs:List V) (ds:List D),x = .ref a->(cA K H a vs\/bT K H a vs)->aD H (Av c σ δ) vs ds->(match gX ds with | some ts=>if gI ts + ts.length * z.length<=16777216 then some (S.pure (.str (ji z ts))) else none | none=>none)=some s->tw K (.str (toS z)) [x] H Q:=by
  intro a vs ds ea ha ra hp
  cases e:gX ds with
  | none=>rw[e] at hp; cases hp
  | some ts =>
   rw[e] at hp;simp only at hp;split at hp
   ·rename_i hz;simp only[Wg] at hp;subst hp;have:=tQ e ra;subst this;refine⟨toS z,a,ts.map toS,rfl,by rw[ea],?_,?_,?_⟩
    ·rw[Wu]; exact ha
    ·rw[Wu,Wx,iP];have:((λx:Str=>x.length) ∘ toS)=λx:Tx=>x.length:=funext λx=>iP x
     rw[this];exact hz
    ·rw[Pl];exact q _ H (.refl k) (.str _)
   ·cases hp
 cases d with
 | lst ds =>
  obtain⟨a,vs,ea,ha,ra⟩:=rx.lst;exact key a vs ds ea (.inl (.inl ha)) ra hp
 | tup ds =>
  obtain⟨a,vs,ea,ha,ra⟩:=rx.tup;exact key a vs ds ea (.inr (.of ha)) ra hp
 | _=>simp[dQ] at hp
theorem CI{x:Str}{j}{p0 apos aO:Pos}(z:Tx)(he:SB X c e fb)(hx:x=toS z:=by decide +kernel)
  (mx:Qr (.Constant (.str x) j p0) "join" X.env (eval (.Constant (.str x) j p0) X.env)=eval (.Constant (.str x) j p0) X.env:=by rfl)
  (my:((Qi aO (Wh [e] X.env)).all (λx=>!x.1) && (Uf aO (Jo [] X.env)).all (λx=>x.1.isSome)
   && decide ([e].length + ([]:List Keyword).length + (if ([]:List Keyword).isEmpty then 0 else 1) < 30))=true:=by rfl)
  (gQ:(apos.endLine == aO.line)=true:=by rfl) (hs:Wh [e] X.env=(false,eval e X.env) :: Wh [] X.env:=by rfl) :
  SE X c (.Call (.Attribute (.Constant (.str x) j p0) "join" apos) [e] [] aO) (aR (dQ z) fb):=by
 subst hx;refine PE.weak (v7 PySem.F.plainAttrs_str PySem.F.slot_str_join PySem.F.type_str_join Oz Ap (fw he gz hs) mx my gQ hs rfl) λσ H Q h=>?_
 obtain⟨δ,k,q⟩:=qm (r:=λx H Q=>tw X.K (.str (toS z)) [x] H Q) (Pm z) h;refine⟨?_,δ,k,q⟩;show("str" : String) = "str";rfl
end
inductive Fl where
 | next | ret (r:S) | brk | cont
abbrev DS:=Dl->Rs Fl
def fin(c:Fc)(D:Ends)(σ:St)(δ:Dl)(H:Hp):Fl->Prop
 | .next=>D.nx σ H
 | .ret r=>∀ v,aY c σ δ c.H₀ H v r->D.rt v H
 | .brk=>D.bk σ H
 | .cont=>D.ct σ H
def dR(c:Fc)(D:Ends)(σ:St)(δ:Dl)(H:Hp)(r:Rs Fl):Prop:=post c r λfl δ'=>∀ σ' H',aM c σ δ H σ' δ' H'->fin c D σ' δ' H' fl
def oo(c:Fc)(f:DS):TS:=λD σ H=>∃ δ,Ok c σ δ H/\dR c D σ δ H (f δ)
abbrev SS(X:Cx)(c:Fc)(st:Stmt)(f:DS):Prop:=PS X st (oo c f)
abbrev fT(X:Cx)(c:Fc)(st:List Stmt)(f:DS):Prop:=dX X st (oo c f)
theorem PS.weak{X:Cx}{st:Stmt}{t t':TS}(h:PS X st t)(w:∀ D σ H,t' D σ H->t D σ H):PS X st t':=λpins s σ H D I q=>h pins s σ H D I (w D σ H q)
theorem dX.weak{X:Cx}{st:List Stmt}{t t':TS}(h:dX X st t)(w:∀ D σ H,t' D σ H->t D σ H):dX X st t':=λpins s σ H D I q=>h pins s σ H D I (w D σ H q)
def cC:DS:=λδ=>.ok .next δ
def aq(f g:DS):DS:=λδ=>(f δ).bind λfl δ1=>match fl with
 | .next=>g δ1
 | .ret r=>.ok (.ret r) δ1
 | .brk=>.ok .brk δ1
 | .cont=>.ok .cont δ1
def du(f:DE):DS:=λδ=>(f δ).bind λ_ δ1=>.ok .next δ1
def bA(f:DE):DS:=λδ=>(f δ).bind λr δ1=>.ok (.ret r) δ1
def cx(t:DT)(f g:DS):DS:=λδ=>(t δ).bind λb δ1=>if b then f δ1 else g δ1
def jU:DS:=λ_=>.stuck
def qaw(np:List Nat)(i:Nat):DE:=λδ=>match δ[i]? with
 | some (some (.own d))=>if np.contains i then .ok (.pure d) (δ.set i (some (.pure d))) else .ok (.own d) (δ.set i none)
 | some (some (.pure d))=>.ok (.pure d) δ
 | _=>.stuck
section
variable {X:Cx} {c:Fc} {st:Stmt} {CJ:List Stmt} {e a:Expr} {f g:DS} {fe:DE} {t:DT} {pos pos':Pos}
theorem Pn:fT X c [] cC:=dX.weak LV λD σ H ⟨δ,k,q⟩=>q σ H (.refl k)
theorem oq(h1:SS X c st f)(h2:fT X c CJ g):fT X c (st :: CJ) (aq f g):=dX.weak (LW h1 h2) λD σ H ⟨δ,k,q⟩=>by
 unfold aq dR at q;rw[aU] at q;refine⟨δ,k,aJ q λfl δ1 q1 σ1 H1 a1=>?_⟩
 cases fl with
 | next=>exact⟨δ1,a1.ok,aJ q1 λfl2 δ2 q2 σ2 H2 a2=>q2 σ2 H2 (a1.trans a2)⟩
 | ret r=>exact q1 σ1 H1 a1
 | brk=>exact q1 σ1 H1 a1
 | cont=>exact q1 σ1 H1 a1
theorem tS(h1:SS X c st f):fT X c [st] f:=dX.weak (LX h1) λD σ H h=>h
theorem Po:SS X c st jU:=PS.weak L5 λD σ H ⟨δ,k,q⟩=>q
theorem wX(he:SE X c e fe):SS X c (.Return (some e) pos) (bA fe):=PS.weak (As he) λD σ H ⟨δ,k,q⟩=>by
 unfold bA dR at q;rw[aU] at q;exact⟨δ,k,aJ q λr δ1 q1 v H1 a1 r1=>q1 σ H1 a1 v r1.Of⟩
theorem Pp{b1 b2:List Stmt}(ht:ST X c e t)(h1:fT X c b1 f)(h2:fT X c b2 g):SS X c (.If e b1 b2 pos) (cx t f g):=PS.weak (L3 ht h1 h2) λD σ H ⟨δ,k,q⟩=>by
 unfold cx dR at q;rw[aU] at q;refine⟨δ,k,aJ q λb δ1 q1 H1 a1=>?_⟩
 cases b with
 | true=>exact⟨δ1,a1.ok,aJ q1 λfl δ2 q2 σ2 H2 a2=>q2 σ2 H2 (a1.trans a2)⟩
 | false=>exact⟨δ1,a1.ok,aJ q1 λfl δ2 q2 σ2 H2 a2=>q2 σ2 H2 (a1.trans a2)⟩
theorem Own.qt(h:Own (σ.set i (some v)) (δ.set i (some r)) b):Own σ δ b\/(v = .ref b/\∃ d,r = .own d):=by
 obtain⟨j,d,e1,e2⟩:=h;by_cases hj:i=j
 ·subst hj;right
  rw[Qh] at e1 e2;simp at e1 e2;obtain⟨_,h1⟩:=e1;obtain⟨_,h2⟩:=e2;exact⟨h2,d,h1⟩
 ·rw[W8 hj] at e1 e2;exact .inl ⟨j,d,e1,e2⟩
theorem Ok.set(x:aM c σ₀ δ₀ H₁ σ δ H)(hr:aY c σ δ H₁ H v r)(hp:∀ p ∈ c.pin,p.1≠i):aM c σ₀ δ₀ H₁ (σ.set i (some v)) (δ.set i (some r)) H:=by
 have k:=x.ok;-- all slots avoid the new address,too
 have all:∃ c':Fc,c'.H₀=c.H₀/\c'.pin=c.pin/\Ok c' σ δ H/\(∀ b,Av c (σ.set i (some v)) (δ.set i (some r)) b->Av c' σ δ b):=by
  cases r with
  | pure d =>
   refine⟨c,rfl,rfl,k,λb z=>?_⟩;rcases z with z | z
   ·exact .inl z
   ·rcases z.qt with z | ⟨_,d',e⟩
    ·exact .inr z
    ·cases e
  | own d =>
   obtain⟨a,ea,o,n,f,k2,_⟩:=hr;refine⟨c.plus a,rfl,rfl,k2,λb z=>?_⟩;rcases z with z | z
   ·exact .inl (.inl z)
   ·rcases z.qt with z | ⟨e,_⟩
    ·exact .inr z
    ·rw[ea] at e; cases e
     exact .inl (.inr rfl)
 obtain⟨c',eH,eP,k2,sub⟩:=all;have eI:∀ a,c'.I a ↔ c.I a:=λa=>by unfold Fc.I; rw[eP]
 have Pq:Rep H (Av c (σ.set i (some v)) (δ.set i (some r))) v r.d\/∃ d,r = .own d:=by
  cases r with
  | pure d =>
   left
   refine Rep.aK hr λb z=>?_
   rcases z with z | z
   ·exact .inl (.inl z)
   ·rcases z.qt with z | ⟨_,d',e⟩
    ·exact .inl (.inr z)
    ·cases e
  | own d=>exact .inr ⟨d,rfl⟩
 refine⟨⟨k.keep,k.bd,k.dO,by rw[Qc,Qc]; exact k.len,λj d e=>?_,λj d e=>?_,λj l a d d' e1 e2 e3 e4=>?_,λp hm=>?_⟩,x.keep,λb z=>?_,x.there⟩
 ·by_cases hj:i=j
  ·subst hj;rw[Qh] at e;simp at e;obtain⟨hi,rfl⟩:=e;have df:i < σ.length:=by rw[<- k.len]; exact hi
   rcases Pq with h | ⟨_,h⟩
   ·exact⟨v,by rw[Wl df],h⟩
   ·cases h
  ·rw[W8 hj] at e;obtain⟨w,e1,q⟩:=k2.slot j d e;exact⟨w,by rw[W8 hj]; exact e1,q.aK λb z=>.inl (sub b z)⟩
 ·by_cases hj:i=j
  ·subst hj;rw[Qh] at e;simp at e;obtain⟨hi,rfl⟩:=e;have df:i < σ.length:=by rw[<- k.len]; exact hi
   obtain⟨a,ea,o,n,f,k3,_⟩:=hr;refine⟨a,by rw[Wl df,ea],o.aK λb z=>.inl ?_,.inr f,n⟩;rcases z with z | z
   ·exact .inl (.inl z)
   ·rcases z.qt with z | ⟨e,_⟩
    ·exact .inr z
    ·rw[ea] at e; cases e
     exact .inl (.inr rfl)
  ·rw[W8 hj] at e;obtain⟨a,e1,q,q2,q3⟩:=k.own j d e;obtain⟨a',e1',q',_,_⟩:=k2.own j d e;rw[e1] at e1'; cases e1'
   exact⟨a,by rw[W8 hj]; exact e1,q'.aK λb z=>.inl (sub b z),q2,q3⟩
 ·by_cases hj:i=j
  ·subst hj;by_cases hl:i=l
   ·exact hl
   ·rw[W8 hl] at e2 e4;rw[Qh] at e1 e3;simp at e1 e3;obtain⟨_,rfl⟩:=e1;obtain⟨_,rfl⟩:=e3;obtain⟨a',ea,o,n,f,k3,_⟩:=hr
    cases ea;exact absurd ⟨l,d',e2,e4⟩ (tf k3)
  ·rw[W8 hj] at e1 e3;by_cases hl:i=l
   ·subst hl;rw[Qh] at e2 e4;simp at e2 e4;obtain⟨_,rfl⟩:=e2;obtain⟨_,rfl⟩:=e4;obtain⟨a',ea,o,n,f,k3,_⟩:=hr
    cases ea;exact absurd ⟨j,d,e1,e3⟩ (tf k3)
   ·rw[W8 hl] at e2 e4;exact k.inj j l a d d' e1 e2 e3 e4
 ·rw[W8 (Ne.symm (hp p hm))];exact k.pinned p hm
 ·rcases z.qt with z | ⟨e,d,ed⟩
  ·exact x.own b z
  ·subst ed;obtain⟨a,ea,_,_,_,_,hs⟩:=hr;grind
abbrev DG:=S->Dl->Option Dl
def wY(c:Fc)(g:DG):TG:=λv σ H Q=>∃ σ₀ δ₀ H₁ δ r δ',aM c σ₀ δ₀ H₁ σ δ H/\aY c σ δ H₁ H v r/\g r δ=some δ'/\∀ σ',aM c σ₀ δ₀ H₁ σ' δ' H->Q σ' H
abbrev SG(X:Cx)(c:Fc)(tg:Expr)(g:DG):Prop:=PG X tg (wY c g)
def ae(np:List Nat)(i:Nat):DG:=λr δ=>if np.contains i then none else some (δ.set i (some r))
def Np(c:Fc)(np:List Nat):Prop:=∀ p ∈ c.pin,np.contains p.1=true
theorem wZ(hp:Np c np)(h:wY c (ae np i) v σ H Q):sv i v σ H Q:=by
 obtain⟨σ₀,δ₀,H₁,δ,r,δ',x,rr,e,q⟩:=h;unfold ae at e;split at e
 ·cases e
 ·rename_i hn
  cases e;exact q _ (Ok.set x rr λp hm e=>hn (by rw[<- e]; exact hp p hm))
theorem PG.weak{tg:Expr}{t t':TG}(h:PG X tg t)(w:∀ v σ H Q,t' v σ H Q->t v σ H Q):PG X tg t':=λpins s σ H v u Q I r q=>h pins s σ H v u Q I r (w v σ H Q q)
theorem h8.weak{tg:List Expr}{t t':lj}(h:h8 X tg t)(w:∀ v σ H Q,t' v σ H Q->t v σ H Q):h8 X tg t':=λpins s σ H v u Q I r q=>h pins s σ H v u Q I r (w v σ H Q q)
theorem Pt{np:List Nat}{i:Nat}{x:Str}(hp:Np c np)(hN:X.N.Nodup)(hi:X.N[i]? = some x)(hx:Loc X.env.scope x)(hf:X.fn x=true\/X.env.scope.names.lookup x=some .local):SG X c (.Name x pos) (ae np i) :=
 PG.weak (Ax hN hi hx hf) λv σ H Q h=>wZ hp h
abbrev iV:=List D->Dl->Option Dl
def Pu(c:Fc)(g:iV):lj:=λvs σ H Q=>∃ δ ds δ',Ok c σ δ H/\aD H (Av c σ δ) vs ds/\g ds δ=some δ'/\∀ σ',aM c σ δ H σ' δ' H->Q σ' H
abbrev mN(X:Cx)(c:Fc)(tg:List Expr)(g:iV):Prop:=h8 X tg (Pu c g)
def ba:iV:=λds δ=>match ds with
 | []=>some δ
 | _=>none
def aA(g:DG)(gs:iV):iV:=λds δ=>match ds with
 | []=>none
 | d :: r=>(g (.pure d) δ).bind λδ1=>gs r δ1
theorem Pw:mN X c [] ba:=h8.weak Ay λvs σ H Q ⟨δ,ds,δ',k,r,e,q⟩=>by
 cases ds with
 | nil =>
  cases e;have:vs=[]:=by have:=r.1; simpa using this
  exact⟨this,q σ (.refl k)⟩
 | cons d r=>cases e
theorem Px{es:List Expr}{g:DG}{gs:iV}(h1:SG X c e g)(h2:mN X c es gs)(hs:(Qz (e :: es) X.env).map (·.2)=assign e X.env :: (Qz es X.env).map (·.2):=by rfl):mN X c (e :: es) (aA g gs) :=
 h8.weak (Az h1 h2 hs) λvs σ H Q ⟨δ,ds,δ',k,r,e,q⟩=>by
  cases ds with
  | nil=>cases e
  | cons d ds =>
   cases vs with
   | nil=>have:=r.1; simp at this
   | cons v vs =>
    simp only[aA] at e
    cases e1:g (.pure d) δ with
    | none=>rw[e1] at e; cases e
    | some δ1 =>
     rw[e1] at e;refine⟨v,vs,rfl,σ,δ,H,δ,.pure d,δ1,.refl k,r.head,e1,λσ1 a1=>?_⟩;exact⟨δ1,ds,δ',a1.ok,aD.dq r.tail a1,e,λσ2 a2=>q σ2 (a1.trans a2)⟩
def a_(n:Nat)(gs:iV):DG:=λr δ=>match r.d with
 | .tup ds=>if ds.length=n then gs ds δ else none
 | _=>none
theorem Py{es:List Expr}{k:Nat}{gs:iV}{n:Nat}(hc:X.calm=true)(h:mN X c es gs)(hn:(Qz es X.env).length=n:=by rfl)(cU:(Qz es X.env).findIdx? (·.1)=none:=by rfl) :
  SG X c (.Tuple es k pos) (a_ n gs):=PG.weak (AB hc h hn cU) λv σ H Q hw=>by
 obtain⟨σ₀,δ₀,H₁,δ,r,δ',x,rr,e,q⟩:=hw;have hb:=rr.b;unfold a_ at e;generalize r.d=d at e hb
 cases d <;> first | (cases e; done) | skip
 rename_i ds;simp only at e;split at e
 ·rename_i hl;obtain⟨a,vs,ea,ha,ra⟩:=hb.tup;exact⟨a,vs,ea,.of ha,by rw[ra.1]; exact hl,δ,ds,δ',x.ok,ra,e,λσ' a1=>q σ' (x.trans a1)⟩
 ·cases e
def ak(f:DE)(g:DG):DS:=λδ=>(f δ).bind λr δ1=>match g r δ1 with
 | some δ2=>.ok .next δ2
 | none=>.stuck
theorem w6{g:DG}{D:Ends}{σ:St}{H:Hp}{te:TE}{tg:TG}(he:∀ σ H Q,tD c fe σ H Q->te σ H Q)(hg:∀ v σ H Q,wY c g v σ H Q->tg v σ H Q)(h:oo c (ak fe g) D σ H):sy te tg D σ H:=by
 obtain⟨δ,k,q⟩:=h;unfold ak dR at q;rw[aU] at q;refine he _ _ _ ⟨δ,k,aJ q λr δ1 q1 v H1 a1 r1=>hg _ _ _ _ ?_⟩
 cases e:g r δ1 with
 | none=>rw[e] at q1; exact q1.elim
 | some δ2 =>
  rw[e] at q1;exact⟨σ,δ,H,δ1,r,δ2,a1,r1,e,λσ' a2=>q1 σ' H1 a2⟩
theorem Pz{tg:Expr}{g:DG}(he:SE X c e fe)(hg:SG X c tg g)(hs:swapsWithSole [tg] e pos.line X.env=pure false:=by rfl)(hw:swappedStores [tg] e X.env=pure none:=by rfl)
  (h1:(Qz [tg] X.env).map (·.2)=[assign tg X.env]:=by rfl):SS X c (.Assign [tg] e pos) (ak fe g):=PS.weak (AD he hg hs hw h1) λD σ H h=>w6 (λ_ _ _ h=>h) (λ_ _ _ _ h=>h) h
theorem qu{np:List Nat}{i:Nat}{x:Str}(hp:Np c np)(hN:X.N.Nodup)(hi:X.N[i]? = some x)(hx:Loc X.env.scope x)(he:SE X c e fe)(hs:QZ e (some (.Name x pos')) pos.line X.env=pure false)(hf:X.fn x=true\/X.env.scope.names.lookup x=some .local) :
  SS X c (.Assign [.Name x pos'] e pos) (ak fe (ae np i)):=PS.weak (AE hN hi hx he hs hf) λD σ H h=>w6 (λ_ _ _ h=>h) (λ_ _ _ _ h=>wZ hp h) h
theorem PB(he:SE X c e fe)(hs:∀ (x:Value),QZ e none pos.line X.env=pure false:=by intro _; rfl)(hd:True:=trivial)(h:PS X (.Expr e pos) (vJ (tD c fe))):SS X c (.Expr e pos) (du fe):=PS.weak h λD σ H ⟨δ,k,q⟩=>by
 unfold du dR at q;rw[aU] at q;exact⟨δ,k,aJ q λr δ1 q1 v H1 a1 r1=>q1 σ H1 a1⟩
theorem Ok.CK{σ:St}{δ:Dl}{H:Hp}{i:Nat}{ds b8:List D}{a:Addr}{ij:List V}(k:Ok c σ δ H)(e:δ[i]? = some (some (.own (.lst ds))))(ea:σ[i]? = some (some (.ref a)))(r:aD H (Av c σ δ) ij b8) :
  aM c σ δ H σ (δ.set i (some (.own (.lst b8)))) (upd H a (.lst ij)):=by
 have hi:i < δ.length:=(W6.mp e).1;obtain⟨a',bV,oa,ia,nb⟩:=k.own i _ e;rw[ea] at bV; cases bV
 obtain⟨vs,ha,_⟩:=oa;have qv:Own σ δ a:=⟨i,_,e,ea⟩
 have qw:Av c σ δ a:=.inr qv;have lK:∀ b,Own σ (δ.set i (some (.own (.lst b8)))) b ↔ Own σ δ b:=λb=>by
  constructor
  ·rintro ⟨j,d,e1,e2⟩;by_cases hj:i=j
   ·subst hj;exact⟨i,_,e,e2⟩
   ·rw[W8 hj] at e1;exact⟨j,d,e1,e2⟩
  ·rintro ⟨j,d,e1,e2⟩;by_cases hj:i=j
   ·subst hj;exact⟨i,_,by rw[Wl hi],e2⟩
   ·exact⟨j,d,by rw[W8 hj]; exact e1,e2⟩
 have jj:∀ b,Av c σ (δ.set i (some (.own (.lst b8)))) b->Av c σ δ b:=λb z=>z.elim .inl λz=>.inr ((lK b).mp z)
 have ne:∀ b,¬ Av c σ δ b->b≠a:=λb n z=>n (by rw[z]; exact qw)
 have kp:∀ b o,H b=some o->¬ Av c σ δ b->upd H a (.lst ij) b=some o:=λb o h n=>by rw[aH (ne b n)]; exact h
 have fU:∀ b o,H b=some o->∃ o',upd H a (.lst ij) b=some o':=λb o h=>by
  by_cases hb:b=a
  ·exact⟨_,by rw[hb]; exact cf⟩
  ·exact⟨o,by rw[aH hb]; exact h⟩
 refine⟨⟨λb o h n=>?_,λb z=>?_,λb z=>?_,by rw[Qc]; exact k.len,λj d h=>?_,λj d h=>?_,λj l b d d' h1 h2 h3 h4=>?_,k.pinned⟩,λb o h n=>?_,λb z=>.inl ((lK b).mp z),fU⟩
 ·have hb:b≠a:=λz=>by grind
  rw[aH hb];exact k.keep b o h n
 ·obtain⟨o,h⟩:=k.bd b z;exact fU b o h
 ·obtain⟨o,h⟩:=k.dO b z;exact fU b o h
 ·have hj:i≠j:=λz=>by subst z; rw[Wl hi] at h; cases h
  rw[W8 hj] at h;obtain⟨v,h1,h2⟩:=k.slot j d h;exact⟨v,h1,(h2.keep kp).aK λb z=>.inl (jj b z)⟩
 ·by_cases hj:i=j
  ·subst hj;rw[Wl hi] at h
   cases h;exact⟨a,ea,⟨ij,cf,aD.aK (aD.keep r kp) λb z=>.inl (jj b z)⟩,ia,nb⟩
  ·rw[W8 hj] at h;obtain⟨b,h1,h2,h3,h4⟩:=k.own j d h;have hb:b≠a:=λz=>by subst z; exact hj (k.inj i j b _ d e h ea h1)
   exact⟨b,h1,(h2.keep kp λo q=>by rw[aH hb]; exact q).aK λb z=>.inl (jj b z),h3,h4⟩
 ·have f1:∃ d,δ[j]? = some (some (.own d)):=by
   by_cases hj:i=j
   ·subst hj; exact⟨_,e⟩
   ·rw[W8 hj] at h1; exact⟨d,h1⟩
  have f2:∃ d,δ[l]? = some (some (.own d)):=by
   by_cases hj:i=l
   ·subst hj; exact⟨_,e⟩
   ·rw[W8 hj] at h2; exact⟨d',h2⟩
  obtain⟨_,f1⟩:=f1;obtain⟨_,f2⟩:=f2;exact k.inj j l b _ _ f1 f2 h3 h4
 grind[aH]
def iW(δ:Dl)(i:Nat):Bool:=match δ[i]? with
 | some (some (.own (.lst _)))=>true
 | _=>false
noncomputable def putL(δ:Dl)(i:Nat)(f:List D->Option (List D)):Rs Fl:=match δ[i]? with
 | some (some (.own (.lst ds)))=>match f ds with
  | some b8=>.ok .next (δ.set i (some (.own (.lst b8))))
  | none=>.stuck
 | _=>.stuck
theorem CL(h:iW δ i=true):∃ ds,δ[i]? = some (some (.own (.lst ds))):=by
 unfold iW at h;split at h
 ·rename_i ds e; exact⟨ds,e⟩
 ·cases h
theorem CM{δ:Dl}{i:Nat}{g:List D->Option (List D)}{kk:Fl->Dl->Prop}(h:post c (putL δ i g) kk):∃ ds b8,δ[i]? = some (some (.own (.lst ds)))/\g ds=some b8/\kk .next (δ.set i (some (.own (.lst b8)))):=by
 unfold putL at h;split at h
 ·rename_i ds e;split at h
  ·rename_i b8 e2;exact⟨ds,b8,e,e2,h⟩
  ·exact h.elim
 ·exact h.elim
def eW(i:Nat)(f:DE):DS:=λδ=>if iW δ i then(f δ).bind λr δ1=>putL δ1 i λds=>if ds.length < Wb then some (ds ++ [r.d]) else none else .stuck
theorem PF{i:Nat}{o:Expr}{p0 apos aO:Pos}(ho:PE X o (cM i))(he:SE X c e fe)
  (h:PS X (.Expr (.Call (.Attribute o "append" apos) [e] [] aO) pos) (vJ (Bo X.K "list" Br (cM i) (AW (tD c fe) AV)))):SS X c (.Expr (.Call (.Attribute o "append" apos) [e] [] aO) pos) (eW i fe) :=
 PS.weak h λD σ H ⟨δ,k,q⟩=>by
  unfold eW dR at q;split at q
  ·rename_i iX;obtain⟨ds0,e0⟩:=CL iX;rw[aU] at q;obtain⟨a,ea,oa,_⟩:=k.own i _ e0;refine⟨.ref a,ea,?_,δ,k,aJ q λr δ1 q1 v H1 a1 r1=>?_⟩
   ·obtain⟨vs,ha,_⟩:=oa;exact .inl ⟨rfl,vs,.of ha⟩
   ·obtain⟨ds,b8,e1,e2,q2⟩:=CM q1;split at e2
    ·rename_i hz
     cases e2;obtain⟨a',bV,oa1,_⟩:=a1.ok.own i _ e1;rw[ea] at bV; cases bV
     obtain⟨vs,ha,ra⟩:=id oa1;refine⟨a,vs,v,rfl,rfl,ha,by rw[ra.1]; exact hz,?_⟩;exact q2 σ _ (a1.trans (Ok.CK a1.ok e1 ea (ra.append (.cons r1.rep .nil))))
    ·cases e2
  ·exact q.elim
def kC(i:Nat)(fi:DE)(fe:DE):DS:=λδ=>if iW δ i then(fe δ).bind λr δ1=>(fi δ1).bind λk δ2=>match k with
 | .pure (.int j)=>putL δ2 i λds=>(ib ds.length j).map λn=>ds.set n r.d
 | _=>.stuck else .stuck
theorem PH{i:Nat}{o ix:Expr}{fi:DE}{sp:Pos}(ho:PE X o (cM i))(hi:SE X c ix fi)(he:SE X c e fe)
  (ha:∀ v,assign (.Subscript o ix sp) X.env v=(do
   let ov <- holding [v] (eval o X.env)
   let iv <- holding [v,ov] (eval ix X.env)
   standAt sp
   holding [v,ov,iv] (setItem ov iv v)
   release [v,ov,iv] []):=by intro _; rfl)
  (hs:swapsWithSole [.Subscript o ix sp] e pos.line X.env=pure false:=by rfl) (hw:swappedStores [.Subscript o ix sp] e X.env=pure none:=by rfl)
  (h1:(Qz [.Subscript o ix sp] X.env).map (·.2)=[assign (.Subscript o ix sp) X.env]:=by rfl):SS X c (.Assign [.Subscript o ix sp] e pos) (kC i fi fe) :=
 PS.weak (AD he (Ma ho hi M5 ha) hs hw h1) λD σ H ⟨δ,k,q⟩=>by
  unfold kC dR at q;split at q
  ·rename_i iX;obtain⟨ds0,e0⟩:=CL iX;rw[aU] at q;obtain⟨a,ea,_,_⟩:=k.own i _ e0;refine⟨δ,k,aJ q λr δ1 q1 v H1 a1 r1=>⟨.ref a,ea,δ1,a1.ok,?_⟩⟩;rw[aU] at q1;refine aJ q1 λkx δ2 q2 u H2 a2 r2=>?_
   cases kx with
   | own d=>exact q2.elim
   | pure d =>
    cases d <;> first | exact q2.elim | skip
    rename_i j
    cases r2;obtain⟨ds,b8,e1,e2,q3⟩:=CM q2
    cases e3:ib ds.length j with
    | none=>rw[e3] at e2; cases e2
    | some n =>
     rw[e3] at e2
     cases e2;obtain⟨a',bV,oa1,_⟩:=a2.ok.own i _ e1;rw[ea] at bV; cases bV
     obtain⟨vs,ha,ra⟩:=id oa1;refine⟨a,vs,j,n,rfl,rfl,ha,by rw[ra.1]; exact e3,?_⟩;exact q3 σ _ (a1.trans (a2.trans (Ok.CK a2.ok e1 ea (ra.set (Rep.dq r1.rep a2) n))))
  ·exact q.elim
end
abbrev DI:=Dl->Rs (List D)
def mO(c:Fc)(σ:St)(δ:Dl)(H:Hp)(J:It)(ds:List D):Prop:=∀ H2,(∀ a o,H a=some o->¬ Own σ δ a->H2 a=some o)->J.stop ds.length H2 /\
 ∀ (i:Nat) d,ds[i]? = some d->J.go i H2/\∀ x H3,J.pM i H2 x H3->(H3=H2/\Rep H (Av c σ δ) x d) \/
  ∃ p vs es,H2 p=none/\H3=upd H2 p (.tup vs)/\x = .ref p/\d = .tup es/\aD H (Av c σ δ) vs es
def tI(c:Fc)(f:DI):TI:=λσ H R=>∃ δ,Ok c σ δ H/\post c (f δ) λds δ'=>∀ J H',aM c σ δ H σ δ' H'->mO c σ δ' H' J ds->R J H'
abbrev SI(X:Cx)(c:Fc)(tg iter:Expr)(f:DI):Prop:=PI X tg iter (tI c f)
theorem PI.weak(h:PI X tg iter t)(w:∀ σ H R,t' σ H R->t σ H R):PI X tg iter t':=λpins s σ H R I q=>h pins s σ H R I (w σ H R q)
section
variable {X:Cx} {c:Fc} {tg e:Expr} {fe:DE} {pos pp:Pos}
theorem PJ(K:W4)(h:H a=some (.tup vs))(n:¬ Own σ δ a)(r:aD H (Av c σ δ) vs ds):mO c σ δ H (sD K a) ds:=by
 intro H2 kp;have h2:=kp a _ h n;refine⟨⟨vs,.of h2,by rw[r.1]; exact Wa _⟩,λi d e=>?_⟩;obtain⟨v,ev,rv⟩:=r.get e;refine⟨⟨vs,v,.of h2,ev⟩,λx H3 ⟨e3,y⟩=>.inl ⟨e3,?_⟩⟩;have:=y vs (.of h2);grind
def bI(lo:Int)(n:Nat):List D:=(Wd n).map λk:Nat=>D.int (lo + k)
theorem PM{lo:Int}{n i:Nat}{d:D}(h:(bI lo n)[i]? = some d):i < n/\d = .int (lo + i):=by
 unfold bI at h;rw[Wp] at h;by_cases hi:i < n
 ·rw[JS hi] at h;simp at h;exact⟨hi,h.symm⟩
 ·rw[WR (by simpa using hi)] at h
  cases h
theorem PN(lo:Int)(n:Nat):mO c σ δ H (sE lo n) (bI lo n):=by
 intro H2 kp;refine⟨by show n<=(bI lo n).length; simp[bI],λi d e=>?_⟩;obtain⟨hi,rfl⟩:=PM e;exact⟨hi,λx H3 ⟨e3,ex⟩=>.inl ⟨e3,by rw[ex]; exact .int _⟩⟩
def ot(j:Int):Bool:=decide (-(2 ^ 62)<=j) && decide (j < 2 ^ 62)
def dz(f:DE):DI:=λδ=>(f δ).bind λr δ1=>match r with
 | .pure (.int j)=>if ot j then .ok (bI 0 j.toNat) δ1 else .stuck
 | _=>.stuck
theorem PQ (hg:Gl X "range") (hm:X.mg "range" = none) (he:SE X c e fe) (hs:Wh [e] X.env=[(false,eval e X.env)]:=by rfl):SI X c tg (.Call (.Name "range" pp) [e] [] pos) (dz fe) :=
 PI.weak (Mh hg hm (fw he gz hs) hs) λσ H R ⟨δ,k,q⟩=>by
  unfold dz at q;rw[aU] at q;refine⟨δ,k,aJ q λr δ1 q1 v H1 a1 r1=>?_⟩
  cases r with
  | own d=>exact q1.elim
  | pure d =>
   cases d <;> first | exact q1.elim | skip
   rename_i j
   cases r1;simp only at q1;split at q1
   ·rename_i hj;unfold ot at hj;simp only[Wy,decide_eq_true_eq] at hj;exact⟨j,rfl,hj.1,hj.2,q1 _ H1 a1 (PN 0 j.toNat)⟩
   ·exact q1.elim
noncomputable def forL(g:DG)(b:DS):List D->DS
 | [],δ=>.ok .next δ
 | d :: r,δ=>match g (.pure d) δ with
  | none=>.stuck
  | some δ1=>(b δ1).bind λfl δ2=>match fl with
   | .next=>forL g b r δ2
   | .cont=>forL g b r δ2
   | .brk=>.ok .next δ2
   | .ret v=>.ok (.ret v) δ2
def bx(it:DI)(g:DG)(b:DS):DS:=λδ=>(it δ).bind λds δ1=>forL g b ds δ1
theorem CN(io:mO c σ δ H J ds)(a:aM c σ δ H σ2 δ2 H2)(e:ds[i]? = some d)(y:J.pM i H2 x H3):aM c σ2 δ2 H2 σ2 δ2 H3/\Rep H3 (Av c σ2 δ2) x d:=by
 obtain⟨_,t⟩:=io H2 a.keep;rcases (t i d e).2 x H3 y with ⟨e3,r⟩ | ⟨p,vs,es,hp,e3,ex,ed,r⟩
 ·subst e3;exact⟨.refl a.ok,Rep.dq r a⟩
 ·subst e3 ex ed;have:=aY.mK a.ok (aD.dq r a) hp;exact⟨.alloc a.ok hp _,this⟩
theorem PR{iter:Expr}{body:List Stmt}{it:DI}{g:DG}{b:DS}(hp:PassesOwn (model X.prog X.w) X.A X.env X.xe)(hc:X.calm=true)(hi:SI X c tg iter it)(hg:SG X c tg g)(hb:fT X c body b)
  (hs:∀ x,Jz iter X.env x=pure x:=by intro _; rfl):SS X c (.For tg iter body [] pos) (bx it g b):=PS.weak (Mk hp hc hi hg hb hs) λD σ H ⟨δ,k,q⟩=>by
 unfold bx dR at q;rw[aU] at q;refine⟨δ,k,aJ q λds δ1 q1 J H1 a1 io=>?_⟩;refine⟨λi m σ2 H2=>∃ δ2,m=ds.length - i/\i<=ds.length/\aM c σ δ1 H1 σ2 δ2 H2/\dR c D σ2 δ2 H2 (forL g b (ds.drop i) δ2),⟨ds.length,δ1,U',Qn _,.refl a1.ok,?_⟩,?_⟩
 ·rw[List.drop_zero];exact aJ q1 λfl δ2 q2 σ2 H2 a2=>q2 σ2 H2 (a1.trans a2)
 ·rintro i m σ2 H2 ⟨δ2,rfl,jk,a2,p2⟩;by_cases aP:i < ds.length
  ·right
   have e:ds[i]? = some ds[i]:=by simp[aP]
   rw[QJ aP] at p2;refine⟨((io H2 a2.keep).2 i _ e).1,λσ4 H4=>∃ δ4,aM c σ δ1 H1 σ4 δ4 H4/\dR c D σ4 δ4 H4 (forL g b (ds.drop (i + 1)) δ4),λσ4 H4 ⟨δ4,a4,p4⟩=>⟨ds.length - (i + 1),Y',δ4,rfl,aP,a4,p4⟩,λx H3 y=>?_⟩;obtain⟨a3,r3⟩:=CN io a2 e y;simp only[forL,dR] at p2
   cases eg:g (.pure ds[i]) δ2 with
   | none=>rw[eg] at p2; exact p2.elim
   | some δ3 =>
    rw[eg] at p2;refine⟨σ2,δ2,H3,δ2,.pure ds[i],δ3,.refl a3.ok,r3,eg,λσ3 a3'=>?_⟩;have p3:post c ((b δ3).bind λfl δ2=>match fl with
     | .next=>forL g b (ds.drop (i + 1)) δ2
     | .cont=>forL g b (ds.drop (i + 1)) δ2
     | .brk=>.ok .next δ2
     | .ret v=>.ok (.ret v) δ2) λfl δ'=>∀ σ' H',aM c σ2 δ2 H2 σ' δ' H'->fin c D σ' δ' H' fl:=p2
    rw[aU] at p3;have PU:aM c σ2 δ2 H2 σ3 δ3 H3:=a3.trans a3';refine⟨δ3,a3'.ok,aJ p3 λfl δ4 p4 σ4 H4 a4=>?_⟩;have ir:=PU.trans a4
    cases fl with
    | next=>exact⟨δ4,a2.trans ir,aJ p4 λfl δ5 p5 σ5 H5 a5=>p5 σ5 H5 (ir.trans a5)⟩
    | cont=>exact⟨δ4,a2.trans ir,aJ p4 λfl δ5 p5 σ5 H5 a5=>p5 σ5 H5 (ir.trans a5)⟩
    | brk=>exact p4 σ4 H4 ir
    | ret r=>exact p4 σ4 H4 ir
  ·left
   have w8:i=ds.length:=by lia
   subst w8;rw[List.drop_length] at p2;exact⟨(io H2 a2.keep).1,p2 σ2 H2 (.refl a2.ok)⟩
def iu(t:DT)(b:DS):Nat->DS
 | 0,_=>.stuck
 | n + 1,δ=>(t δ).bind λx δ1=>if x then(b δ1).bind λfl δ2=>match fl with
   | .next=>iu t b n δ2
   | .cont=>iu t b n δ2
   | .brk=>.ok .next δ2
   | .ret v=>.ok (.ret v) δ2
  else .ok .next δ1
theorem PX{e:Expr}{body:List Stmt}{t:DT}{b:DS}(n:Nat)(hw:∀ {tt:TT} {tb:TS},PT X e tt->dX X body tb->PS X (.While e body [] pos) (AF tt tb))(ht:ST X c e t)(hb:fT X c body b):SS X c (.While e body [] pos) (iu t b n) :=
 PS.weak (hw ht hb) λD σ H ⟨δ,k,q⟩=>by
  refine⟨λm σ2 H2=>∃ δ2,Ok c σ2 δ2 H2/\dR c D σ2 δ2 H2 (iu t b m δ2),⟨n,δ,k,q⟩,?_⟩;rintro m σ2 H2 ⟨δ2,k2,q2⟩
  cases m with
  | zero=>exact q2.elim
  | succ m =>
   simp only[iu,dR] at q2;rw[aU] at q2;refine⟨δ2,k2,aJ q2 λx δ3 q3 H3 a3=>?_⟩
   cases x with
   | false=>exact q3 σ2 H3 a3
   | true =>
    have p3:post c ((b δ3).bind λfl δ2=>match fl with
     | .next=>iu t b m δ2
     | .cont=>iu t b m δ2
     | .brk=>.ok .next δ2
     | .ret v=>.ok (.ret v) δ2) λfl δ'=>∀ σ' H',aM c σ2 δ2 H2 σ' δ' H'->fin c D σ' δ' H' fl:=q3
    rw[aU] at p3;refine⟨λσ4 H4=>∃ δ4,Ok c σ4 δ4 H4/\dR c D σ4 δ4 H4 (iu t b m δ4),λσ4 H4 w=>⟨m,Nat.lt_succ_self _,w⟩,δ3,a3.ok,aJ p3 λfl δ4 p4 σ4 H4 a4=>?_⟩;have ir:=a3.trans a4
    cases fl with
    | next=>exact⟨δ4,a4.ok,aJ p4 λfl δ5 p5 σ5 H5 a5=>p5 σ5 H5 (ir.trans a5)⟩
    | cont=>exact⟨δ4,a4.ok,aJ p4 λfl δ5 p5 σ5 H5 a5=>p5 σ5 H5 (ir.trans a5)⟩
    | brk=>exact p4 σ4 H4 ir
    | ret r=>exact p4 σ4 H4 ir
end
def bj(cs:List Nat)(δ:Dl):Dl:=cs.foldl (λδ i=>δ.set i none) δ
def cJ(cs:List Nat)(δ₁ δ:Dl):Dl:=cs.foldl (λδ i=>match δ₁[i]? with | some o=>δ.set i o | none=>δ) δ
def bC(δ:Dl)(i:Nat):Bool:=match δ[i]? with
 | some (some (.own _))=>true
 | _=>false
theorem CO(cs:List Nat):∀ δ:Dl,(bj cs δ).length=δ.length:=by
 induction cs with
 | nil=>intro δ; rfl
 | cons i r ih =>
  intro δ;show(bj r (δ.set i none)).length=_;rw[ih]; simp
theorem iY:∀ (cs:List Nat) (δ:Dl) (i:Nat) (v:S),(bj cs δ)[i]? = some (some v)->δ[i]? = some (some v)/\i ∉ cs:=by
 intro cs;induction cs with
 | nil=>intro δ i v h; exact⟨h,U'⟩
 | cons j r ih =>
  intro δ i v h;have h':(bj r (δ.set j none))[i]? = some (some v):=h;obtain⟨h1,h2⟩:=ih _ i v h';by_cases e:j=i
  ·subst e;rw[Qh] at h1;simp at h1
  ·rw[W8 e] at h1;exact⟨h1,by simp only[Wq,not_or]; exact⟨Ne.symm e,h2⟩⟩
theorem kD:∀ (cs:List Nat) (σ:St) (i:Nat),i ∉ cs->(bq cs σ)[i]? = σ[i]?:=by
 intro cs;induction cs with
 | nil=>intro σ i _; rfl
 | cons j r ih =>
  intro σ i h;simp only[Wq,not_or] at h;show(bq r (σ.set j none))[i]? = _;rw[ih _ _ h.2,W8 (Ne.symm h.1)]
theorem PY:∀ (cs:List Nat) (δ:Dl) (i:Nat),i ∉ cs->(bj cs δ)[i]? = δ[i]?:=by
 intro cs;induction cs with
 | nil=>intro σ i _; rfl
 | cons j r ih =>
  intro σ i h;simp only[Wq,not_or] at h;show(bj r (σ.set j none))[i]? = _;rw[ih _ _ h.2,W8 (Ne.symm h.1)]
theorem PZ(cs:List Nat)(δ₁:Dl):∀ δ:Dl,(cJ cs δ₁ δ).length=δ.length:=by
 induction cs with
 | nil=>intro δ; rfl
 | cons i r ih =>
  intro δ;unfold cJ;rw[Qw];have:=ih (match δ₁[i]? with | some o=>δ.set i o | none=>δ);unfold cJ at this;rw[this]
  cases δ₁[i]? <;> simp
theorem tU:∀ (cs:List Nat) (δ₁ δ:Dl) (i:Nat),i ∉ cs->(cJ cs δ₁ δ)[i]? = δ[i]?:=by
 intro cs δ₁;induction cs with
 | nil=>intro δ i _; rfl
 | cons j r ih =>
  intro δ i h;simp only[Wq,not_or] at h;unfold cJ;rw[Qw];have:=ih (match δ₁[j]? with | some o=>δ.set j o | none=>δ) i h.2;unfold cJ at this;rw[this]
  cases δ₁[j]? with
  | none=>rfl
  | some o=>simp only; rw[W8 (Ne.symm h.1)]
theorem w_:∀ (cs:List Nat) (δ₁ δ:Dl) (i:Nat),δ₁.length=δ.length->i ∈ cs->(cJ cs δ₁ δ)[i]? = δ₁[i]?:=by
 intro cs δ₁;induction cs with
 | nil=>intro δ i _ h; simp at h
 | cons j r ih =>
  intro δ i hl h;unfold cJ;rw[Qw];have tm:δ₁.length=(match δ₁[j]? with | some o=>δ.set j o | none=>δ).length:=by cases δ₁[j]? <;> simp[hl]
  by_cases hr:i ∈ r
  ·have:=ih (match δ₁[j]? with | some o=>δ.set j o | none=>δ) i tm hr;unfold cJ at this;exact this
  ·have e:i=j:=by grind
   subst e;have:=tU r δ₁ (match δ₁[i]? with | some o=>δ.set i o | none=>δ) i hr;unfold cJ at this;rw[this]
   cases e:δ₁[i]? with
   | none =>
    simp only;have:=List.getElem?_eq_none_iff.mp e;exact WR Y'
   | some o =>
    simp only;have:=(W6.mp e).1;rw[Wl Y']
section
variable {c:Fc} {σ:St} {δ δ':Dl} {H H':Hp} {l:Addr} {cs:List Nat}
theorem Ok.less(k:Ok (c.plus l) σ δ H):Ok c σ δ H:=by
 have sub:∀ b,Av c σ δ b->Av (c.plus l) σ δ b:=λb z=>z.elim (λz=>.inl (.inl z)) .inr
 refine⟨k.keep,λa z=>k.bd a (.inl z),k.dO,k.len,λi d e=>?_,λi d e=>?_,k.inj,k.pinned⟩
 ·obtain⟨v,h1,h2⟩:=k.slot i d e;exact⟨v,h1,h2.aK λb z=>.inl (sub b z)⟩
 ·obtain⟨a,h1,h2,h3,h4⟩:=k.own i d e;exact⟨a,h1,h2.aK λb z=>.inl (sub b z),h3,λz=>h4 (.inl z)⟩
theorem Ok.P0(k:Ok c σ δ H)(hb:c.B l)(h0:c.H₀ l=none)(o:HO):Ok c σ δ (upd H l o):=by
 have kp:∀ b w,H b=some w->¬ Av c σ δ b->upd H l o b=some w:=λb w e n=>by
  rw[aH (λz=>n (by rw[z]; exact .inl hb))]; exact e
 have fU:∀ b w,H b=some w->∃ w',upd H l o b=some w':=λb w h=>by
  by_cases hb:b=l
  ·exact⟨_,by rw[hb]; exact cf⟩
  ·exact⟨w,by rw[aH hb]; exact h⟩
 refine⟨λa w e n=>?_,λa z=>?_,λa z=>?_,k.len,λi d e=>?_,λi d e=>?_,k.inj,k.pinned⟩
 ·have:a≠l:=λz=>by grind
  rw[aH this]; exact k.keep a w e n
 ·obtain⟨w,e⟩:=k.bd a z; exact fU a w e
 ·obtain⟨w,e⟩:=k.dO a z; exact fU a w e
 ·obtain⟨v,h1,h2⟩:=k.slot i d e;exact⟨v,h1,h2.keep kp⟩
 ·obtain⟨a,h1,h2,h3,h4⟩:=k.own i d e;have:a≠l:=λz=>h4 (by rw[z]; exact hb)
  exact⟨a,h1,h2.keep kp λw q=>by rw[aH this]; exact q,h3,h4⟩
theorem Own.bq(h:Own (bq cs σ) (bj cs δ) l):Own σ δ l:=by
 obtain⟨i,d,e1,e2⟩:=h;exact⟨i,d,(iY cs δ i _ e1).1,(lB cs σ i _ e2).1⟩
theorem Ok.bq(k:Ok c σ δ H)(hp:∀ p ∈ c.pin,p.1 ∉ cs):Ok c (L2.bq cs σ) (bj cs δ) H:=by
 have sub:∀ b,Av c (L2.bq cs σ) (bj cs δ) b->Av c σ δ b:=λb z=>z.elim .inl λz=>.inr z.bq
 refine⟨k.keep,k.bd,k.dO,by rw[CO,sV]; exact k.len,λi d e=>?_,λi d e=>?_,λi j a d d' e1 e2 e3 e4=>?_,λp hm=>?_⟩
 ·obtain⟨e',hi⟩:=iY cs δ i _ e;obtain⟨v,h1,h2⟩:=k.slot i d e';exact⟨v,by rw[kD cs σ i hi]; exact h1,h2.aK λb z=>.inl (sub b z)⟩
 ·obtain⟨e',hi⟩:=iY cs δ i _ e;obtain⟨a,h1,h2,h3⟩:=k.own i d e';exact⟨a,by rw[kD cs σ i hi]; exact h1,h2.aK λb z=>.inl (sub b z),h3⟩
 ·exact k.inj i j a d d' (iY cs δ i _ e1).1 (iY cs δ j _ e2).1 (lB cs σ i _ e3).1 (lB cs σ j _ e4).1
 ·rw[kD cs σ _ (hp p hm)]; exact k.pinned p hm
theorem aM.back(k:Ok c₀ σ δ H)(tV:c.pin=c₀.pin)(hB:∀ b,c.B b->c₀.B b\/H b=none)(eC:cs.any (bC δ)=false)(x:aM c (L2.bq cs σ) (bj cs δ) H (L2.bq cs σ) δ' H'):aM c σ δ H σ (cJ cs δ δ') H':=by
 have len:δ.length=δ'.length:=by
  have:=x.ok.len;rw[sV] at this;rw[this]; exact k.len
 have iI:∀ i d,i ∈ cs->δ[i]?≠some (some (.own d)):=λi d hi e=>by
  have:=List.any_eq_false.mp eC i hi;unfold bC at this;rw[e] at this;simp at this
 have ownOut:∀ i d,(cJ cs δ δ')[i]? = some (some (.own d))->i ∉ cs/\δ'[i]? = some (some (.own d)):=λi d e=>by
  by_cases hi:i ∈ cs
  ·rw[w_ cs δ δ' i len hi] at e;exact absurd e (iI i d hi)
  ·rw[tU cs δ δ' i hi] at e;exact⟨hi,e⟩
 have sub:∀ b,Own σ (cJ cs δ δ') b->Own (L2.bq cs σ) δ' b:=λb ⟨i,d,e1,e2⟩=>by
  obtain⟨hi,e⟩:=ownOut i d e1;exact⟨i,d,e,by rw[kD cs σ i hi]; exact e2⟩
 have jV:∀ b,Av c σ (cJ cs δ δ') b->Av c (L2.bq cs σ) δ' b:=λb z=>z.elim .inl λz=>.inr (sub b z)
 have ownEq:∀ b,Own σ δ b->Own (L2.bq cs σ) (bj cs δ) b:=λb ⟨i,d,e1,e2⟩=>by
  have hi:i ∉ cs:=λz=>iI i d z e1
  exact⟨i,d,by rw[PY cs δ i hi]; exact e1,by rw[kD cs σ i hi]; exact e2⟩
 refine⟨⟨x.ok.keep,x.ok.bd,x.ok.dO,by rw[PZ,<- len]; exact k.len,λi d e=>?_,λi d e=>?_,λi j a d d' e1 e2 e3 e4=>?_,by rw[tV]; exact k.pinned⟩,λa o e n=>?_,λa z=>?_,x.there⟩
 ·by_cases hi:i ∈ cs
  ·rw[w_ cs δ δ' i len hi] at e;obtain⟨v,h1,h2⟩:=k.slot i d e;have h3:Rep H (Av c (L2.bq cs σ) (bj cs δ)) v d:=h2.aK λb z=>by
    rcases z with z | z
    ·exact(hB b z).elim (λz=>.inl (.inl z)) .inr
    ·exact .inl (.inr z.bq)
   exact⟨v,h1,(Rep.dq h3 x).aK λb z=>.inl (jV b z)⟩
  ·rw[tU cs δ δ' i hi] at e;obtain⟨v,h1,h2⟩:=x.ok.slot i d e;exact⟨v,(lB cs σ i v h1).1,h2.aK λb z=>.inl (jV b z)⟩
 ·obtain⟨hi,e'⟩:=ownOut i d e;obtain⟨a,h1,h2,h3⟩:=x.ok.own i d e';exact⟨a,(lB cs σ i _ h1).1,h2.aK λb z=>.inl (jV b z),h3⟩
 ·obtain⟨hi,f1⟩:=ownOut i d e1;obtain⟨hj,f2⟩:=ownOut j d' e2;exact x.ok.inj i j a d d' f1 f2 (by rw[kD cs σ i hi]; exact e3) (by rw[kD cs σ j hj]; exact e4)
 ·exact x.keep a o e λz=>n z.bq
 ·rcases x.own a (sub a z) with q | q
  ·exact .inl q.bq
  ·exact .inr q
end
noncomputable def cK(cs:List Nat)(g:DG)(t:DT)(el:DE):List D->Dl->List D->Rs (List D)
 | [],δ,acc=>.ok acc δ
 | d :: r,δ,acc=>match g (.pure d) δ with
  | none=>.stuck
  | some δ1=>(t δ1).bind λb δ2=>if b then(el δ2).bind λx δ3=>if acc.length < Wb then cK cs g t el r (bj cs δ3) (acc ++ [x.d]) else .stuck
   else cK cs g t el r (bj cs δ2) acc
def cV(cs:List Nat)(it:DI)(g:DG)(t:DT)(el:DE):DE:=λδ=>(it δ).bind λds δ1=>if cs.any (bC δ1) then .stuck else
 (cK cs g t el ds (bj cs δ1) []).bind λacc δ2=>.ok (.own (.lst acc)) (cJ cs δ1 δ2)
def bW:DT:=λδ=>.ok true δ
abbrev ou(X:Cx)(c:Fc)(ifs:List Expr)(t:DT):Prop:=n5 X ifs (tT c t)
theorem CP{X:Cx}{c:Fc}:ou X c [] bW:=λpins s σ H Q I ⟨δ,k,q⟩=>N4 pins s σ H Q I (q H (.refl k))
theorem P1{X:Cx}{c:Fc}{e:Expr}{t:DT}(h:ST X c e t):ou X c [e] t:=N5 h
section
variable {X:Cx} {c:Fc} {cs:List Nat} {tg iter elt:Expr} {ifs:List Expr} {scope:Scope} {pos:Pos} {it:DI} {g:DG} {t:DT} {el:DE}
theorem aM.clear(x:aM c (L2.bq cs σ) δ H σ4 δ4 H4)(le:Le (L2.bq cs σ) σ4)(hp:∀ p ∈ c.pin,p.1 ∉ cs)(hs:∀ (i:Nat) v,σ4[i]? = some (some v)->i ∉ cs->σ[i]? = some (some v)):aM c (L2.bq cs σ) δ H (L2.bq cs σ) (bj cs δ4) H4:=by
 have eq:∀ i,i ∉ cs->∀ v,σ4[i]? = some (some v)->(L2.bq cs σ)[i]? = some (some v):=λi hi v e=>by rw[kD cs σ i hi]; exact hs i v e hi
 have own:∀ b,Own (L2.bq cs σ) (bj cs δ4) b->Own σ4 δ4 b:=λb ⟨i,d,e1,e2⟩=>by
  exact⟨i,d,(iY cs δ4 i _ e1).1,le.2 i _ e2⟩
 have sub:∀ b,Av c (L2.bq cs σ) (bj cs δ4) b->Av c σ4 δ4 b:=λb z=>z.elim .inl λz=>.inr (own b z)
 have k:=x.ok;refine⟨⟨k.keep,k.bd,k.dO,by rw[CO,k.len]; exact le.1,λi d e=>?_,λi d e=>?_,λi j a d d' e1 e2 e3 e4=>?_,λp hm=>?_⟩,x.keep,λa z=>x.own a (own a z),x.there⟩
 ·obtain⟨e',hi⟩:=iY cs δ4 i _ e;obtain⟨v,h1,h2⟩:=k.slot i d e';exact⟨v,eq i hi v h1,h2.aK λb z=>.inl (sub b z)⟩
 ·obtain⟨e',hi⟩:=iY cs δ4 i _ e;obtain⟨a,h1,h2,h3⟩:=k.own i d e';exact⟨a,eq i hi _ h1,h2.aK λb z=>.inl (sub b z),h3⟩
 ·exact k.inj i j a d d' (iY cs δ4 i _ e1).1 (iY cs δ4 j _ e2).1 (le.2 i _ e3) (le.2 j _ e4)
 ·exact eq p.1 (hp p hm) _ (k.pinned p hm)
def Out(cs:List Nat)(σ σ':St):Prop:=σ'.length=σ.length/\∀ i,i ∉ cs->σ'[i]? = σ[i]?
theorem Out.trans(a:Out cs σ σ')(b:Out cs σ' σ''):Out cs σ σ'':=⟨b.1.trans a.1,λi h=>(b.2 i h).trans (a.2 i h)⟩
def tW(cs:List Nat)(c:Fc)(g:DG):TG:=λv σ H Q=>∃ σ₀ δ₀ H₁ δ r δ',aM c σ₀ δ₀ H₁ σ δ H/\aY c σ δ H₁ H v r/\g r δ=some δ'/\∀ σ',aM c σ₀ δ₀ H₁ σ' δ' H->Out cs σ σ'->Q σ' H
abbrev lL(X:Cx)(c:Fc)(cs:List Nat)(tg:Expr)(g:DG):Prop:=PG X tg (tW cs c g)
theorem xa{np:List Nat}{i:Nat}{x:Str}(hp:Np c np)(hN:X.N.Nodup)(hi:X.N[i]? = some x)(hx:Loc X.env.scope x)(hf:X.fn x=true\/X.env.scope.names.lookup x=some .local)(hc:i ∈ cs):lL X c cs (.Name x pos) (ae np i) :=
 PG.weak (Ax hN hi hx hf) λv σ H Q ⟨σ₀,δ₀,H₁,δ,r,δ',x,rr,e,q⟩=>by
  unfold ae at e;split at e
  ·cases e
  ·rename_i hn
   cases e;refine q _ (Ok.set x rr λp hm e=>hn (by rw[<- e]; exact hp p hm)) ⟨U',λj hj=>?_⟩;rw[W8 (λz=>hj (by rw[<- z]; exact hc))]
def P2(cs:List Nat)(c:Fc)(g:iV):lj:=λvs σ H Q=>∃ δ ds δ',Ok c σ δ H/\aD H (Av c σ δ) vs ds/\g ds δ=some δ'/\∀ σ',aM c σ δ H σ' δ' H->Out cs σ σ'->Q σ' H
abbrev mP(X:Cx)(c:Fc)(cs:List Nat)(tg:List Expr)(g:iV):Prop:=h8 X tg (P2 cs c g)
theorem CQ:mP X c cs [] ba:=h8.weak Ay λvs σ H Q ⟨δ,ds,δ',k,r,e,q⟩=>by
 cases ds with
 | nil =>
  cases e;have:vs=[]:=by have:=r.1; simpa using this
  exact⟨this,q σ (.refl k) ⟨rfl,λ_ _=>rfl⟩⟩
 | cons d r=>cases e
theorem xb{e:Expr}{es:List Expr}{g:DG}{gs:iV}(h1:lL X c cs e g)(h2:mP X c cs es gs)(hs:(Qz (e :: es) X.env).map (·.2)=assign e X.env :: (Qz es X.env).map (·.2):=by rfl):mP X c cs (e :: es) (aA g gs) :=
 h8.weak (Az h1 h2 hs) λvs σ H Q ⟨δ,ds,δ',k,r,e,q⟩=>by
  cases ds with
  | nil=>cases e
  | cons d ds =>
   cases vs with
   | nil=>have:=r.1; simp at this
   | cons v vs =>
    simp only[aA] at e
    cases e1:g (.pure d) δ with
    | none=>rw[e1] at e; cases e
    | some δ1 =>
     rw[e1] at e;refine⟨v,vs,rfl,σ,δ,H,δ,.pure d,δ1,.refl k,r.head,e1,λσ1 a1 o1=>?_⟩;exact⟨δ1,ds,δ',a1.ok,aD.dq r.tail a1,e,λσ2 a2 o2=>q σ2 (a1.trans a2) (o1.trans o2)⟩
theorem CS{es:List Expr}{k:Nat}{gs:iV}{n:Nat}(hc:X.calm=true)(h:mP X c cs es gs)(hn:(Qz es X.env).length=n:=by rfl)(cU:(Qz es X.env).findIdx? (·.1)=none:=by rfl) :
  lL X c cs (.Tuple es k pos) (a_ n gs):=PG.weak (AB hc h hn cU) λv σ H Q hw=>by
 obtain⟨σ₀,δ₀,H₁,δ,r,δ',x,rr,e,q⟩:=hw;have hb:=rr.b;unfold a_ at e;generalize r.d=d at e hb
 cases d <;> first | (cases e; done) | skip
 rename_i ds;simp only at e;split at e
 ·rename_i hl;obtain⟨a,vs,ea,ha,ra⟩:=hb.tup;exact⟨a,vs,ea,.of ha,by rw[ra.1]; exact hl,δ,ds,δ',x.ok,ra,e,λσ' a1 o1=>q σ' (x.trans a1) o1⟩
 ·cases e
theorem aM.less(x:aM (c.plus l) σ δ H σ' δ' H'):aM c σ δ H σ' δ' H':=⟨x.ok.less,x.keep,x.own,x.there⟩
theorem CU(P4:∀ σ H R,tI c it σ H R->wi σ H R)(hg:∀ l v σ H Q,tW cs (c.plus l) g v σ H Q->gt v σ H Q)(ht:∀ l σ H Q,tT (c.plus l) t σ H Q->tt σ H Q)(he:∀ l σ H Q,tD (c.plus l) el σ H Q->te σ H Q)
  (hp:∀ p ∈ c.pin,p.1 ∉ cs) (h:tD c (cV cs it g t el) σ H Q):wy cs wi gt tt te σ H Q:=by
 obtain⟨δ,k,q⟩:=h;unfold cV at q;rw[aU] at q;refine P4 _ _ _ ⟨δ,k,aJ q λds δ1 q1 J H1 a1 io=>?_⟩;intro l hl;split at q1
 ·exact q1.elim
 ·rename_i eC;have CV:cs.any (bC δ1)=false:=by grind
  rw[aU] at q1;have k1:=a1.ok;have kp:=k1.plus hl (.lst []);have k0:Ok (c.plus l) (L2.bq cs σ) (bj cs δ1) (upd H1 l (.lst [])):=kp.bq hp;have up:∀ a w,H1 a=some w->upd H1 l (.lst []) a=some w:=λa w e=>by
   rw[aH (fO e hl)]; exact e
  have h0:c.H₀ l=none:=k1.lD hl;-- the walked things,as the block sees them
  have xf:mO (c.plus l) (L2.bq cs σ) (bj cs δ1) H1 J ds:=by
   intro H2 xg;obtain⟨s1,s2⟩:=io H2 λa o e n=>xg a o e λz=>n z.bq
   have cv:∀ {x:V} {d:D},Rep H1 (Av c σ δ1) x d->Rep H1 (Av (c.plus l) (L2.bq cs σ) (bj cs δ1)) x d:=λ{x d} r =>
    r.aK λb z=>by
     rcases z with (z | z) | z
     ·exact .inl (.inl z)
     ·exact .inr (by rw[z]; exact hl)
     ·exact .inl (.inr z.bq)
   refine⟨s1,λi d e=>⟨(s2 i d e).1,λx H3 y=>?_⟩⟩;rcases (s2 i d e).2 x H3 y with ⟨e3,r⟩ | ⟨p,vs,es,hp,e3,ex,ed,r⟩
   ·exact .inl ⟨e3,cv r⟩
   ·exact .inr ⟨p,vs,es,hp,e3,ex,ed,r.1,λi v d e1 e2=>cv (r.2 i v d e1 e2)⟩
  let Fin:List D->Dl->Prop:=λacc δ'=>∀ H' vs,aM (c.plus l) (L2.bq cs σ) (bj cs δ1) H1 (L2.bq cs σ) δ' H'->H' l=some (.lst vs)->aD H' (Av (c.plus l) (L2.bq cs σ) δ') vs acc->Q (.ref l) H'
  have q2:post c (cK cs g t el ds (bj cs δ1) []) Fin:=aJ q1 λacc δ2 q2 H' vs x hv r=>by
   have b1:aM (c.plus l) σ δ1 H1 σ (cJ cs δ1 δ2) H':=aM.back k1 rfl (λb z=>z.elim .inl λz=>.inr (by rw[z]; exact hl)) CV x;have b2:aM c σ δ1 H1 σ (cJ cs δ1 δ2) H':=b1.less;have len:δ1.length=δ2.length:=by
    have:=x.ok.len;rw[sV] at this;rw[this]; exact k1.len
   have P5:H l=none:=by
    cases e:H l with
    | none=>rfl
    | some o =>
     obtain⟨o',e'⟩:=a1.there l o e;grind
   refine q2 _ H' (a1.trans b2) ⟨l,rfl,⟨vs,hv,aD.aK r λb z=>.inl ?_⟩,λz=>k1.ik hl (.inl z),h0,b1.ok,P5⟩;rcases z with z | ⟨i,d,e1,e2⟩
   ·exact .inl z
   ·have hi:i ∉ cs:=λhi=>by
     rw[w_ cs δ1 δ2 i len hi] at e1;have:=List.any_eq_false.mp CV i hi;unfold bC at this;rw[e1] at this;simp at this
    rw[tU cs δ1 δ2 i hi] at e1;exact .inr ⟨i,d,e1,by rw[kD cs σ i hi]; exact e2⟩
  refine⟨λi m H2=>∃ δ2 acc vs,m=ds.length - i/\i<=ds.length/\aM (c.plus l) (L2.bq cs σ) (bj cs δ1) H1 (L2.bq cs σ) δ2 H2/\H2 l=some (.lst vs)/\aD H2 (Av (c.plus l) (L2.bq cs σ) δ2) vs acc /\
   post c (cK cs g t el (ds.drop i) δ2 acc) Fin,⟨ds.length,bj cs δ1,[],[],U',Qn _,⟨k0,λa w e _=>up a w e,λa z=>.inl z,λa w e=>⟨w,up a w e⟩⟩,cf,.nil,by rw[List.drop_zero]; exact q2⟩,?_⟩
  rintro i m H2 ⟨δ2,acc,vs,rfl,jk,a2,hv,rv,p2⟩;by_cases aP:i < ds.length
  ·right
   have e:ds[i]? = some ds[i]:=by simp[aP]
   rw[QJ aP] at p2;refine⟨((xf H2 a2.keep).2 i _ e).1,λx H3 y=>hg l _ _ _ _ ?_⟩;obtain⟨a3,r3⟩:=CN xf a2 e y;simp only[cK] at p2
   cases eg:g (.pure ds[i]) δ2 with
   | none=>rw[eg] at p2; exact p2.elim
   | some δ3 =>
    rw[eg] at p2;have p3:post c ((t δ3).bind λb δ2=>if b then(el δ2).bind λx δ3=>if acc.length < Wb then cK cs g t el (ds.drop (i + 1)) (bj cs δ3) (acc ++ [x.d]) else .stuck
     else cK cs g t el (ds.drop (i + 1)) (bj cs δ2) acc) Fin:=p2
    refine⟨L2.bq cs σ,δ2,H3,δ2,.pure ds[i],δ3,.refl a3.ok,r3,eg,λσ4 a4 o4=>?_⟩;have le:Le (L2.bq cs σ) σ4:=⟨o4.1,λj v ej=>by
     rw[o4.2 j (lB cs σ j v ej).2]; exact ej⟩
    have hs:∀ (j:Nat) v,σ4[j]? = some (some v)->j ∉ cs->σ[j]? = some (some v):=λj v ej hj=>by
     rw[o4.2 j hj] at ej;exact(lB cs σ j v ej).1
    refine⟨le,ht l _ _ _ ⟨δ3,a4.ok,?_⟩⟩;rw[aU] at p3;have CW:∀ p ∈ (c.plus l).pin,p.1 ∉ cs:=hp;have ir:=a2.trans (a3.trans a4);have ln:∀ {σ':St} {δ':Dl} {H':Hp},Ok (c.plus l) σ' δ' H'->¬ Own σ' δ' l:=λ{σ' δ' H'} k=>tf k
    have P6:post (c.plus l) (t δ3) λb δ5=>post c (if b then(el δ5).bind λx δ3=>if acc.length < Wb then cK cs g t el (ds.drop (i + 1)) (bj cs δ3) (acc ++ [x.d]) else .stuck
     else cK cs g t el (ds.drop (i + 1)) (bj cs δ5) acc) Fin:=p3
    refine aJ P6 λb δ5 p5 H5 a5=>?_
    have CY:=ir.trans a5;have P7:H3 l=some (.lst vs):=a3.keep l _ hv (ln a2.ok);have CZ:H5 l=some (.lst vs):=a5.keep l _ P7 (ln a4.ok);have C0:=aD.dq (aD.dq (aD.dq rv a3) a4) a5
    cases b with
    | false =>
     have c5:=CY.clear le CW hs;refine⟨ds.length - (i + 1),Y',bj cs δ5,acc,vs,rfl,aP,c5,CZ,aD.aK C0 λb z=>.inl ?_,p5⟩;exact z.elim .inl λ⟨j,d,e1,e2⟩=>.inr ⟨j,d,(iY cs δ5 j _ e1).1,le.2 j _ e2⟩
    | true =>
     have C1:post c ((el δ5).bind λx δ3=>if acc.length < Wb then cK cs g t el (ds.drop (i + 1)) (bj cs δ3) (acc ++ [x.d]) else .stuck) Fin:=p5;rw[aU] at C1;refine he l _ _ _ ⟨δ5,a5.ok,?_⟩;have p6:post (c.plus l) (el δ5) λx δ6=>post c (if acc.length < Wb then cK cs g t el (ds.drop (i + 1)) (bj cs δ6) (acc ++ [x.d]) else .stuck) Fin:=C1
     refine aJ p6 λx δ6 p7 v H6 a6 r6=>?_
     split at p7
     ·rename_i hz;have P8:=CY.trans a6;have P9:H6 l=some (.lst vs):=a6.keep l _ CZ (ln a5.ok);have C2:=aD.dq C0 a6;have rr:aD H6 (Av (c.plus l) σ4 δ6) (vs ++ [v]) (acc ++ [x.d]):=C2.append (.cons r6.rep .nil);have c6:=P8.clear le CW hs;have tY:∀ b o,H6 b=some o->¬ Av (c.plus l) σ4 δ6 b->upd H6 l (.lst (vs ++ [v])) b=some o:=λb o e n=>by
       rw[aH (λz=>n (by rw[z]; exact .inl (.inr rfl)))]; exact e
      have P_:∀ b,Av (c.plus l) (L2.bq cs σ) (bj cs δ6) b->Av (c.plus l) σ4 δ6 b:=λb z=>z.elim .inl λ⟨j,d,e1,e2⟩=>.inr ⟨j,d,(iY cs δ6 j _ e1).1,le.2 j _ e2⟩
      refine⟨vs,ds.length - (i + 1),P9,by rw[C2.1]; exact hz,Y',bj cs δ6,acc ++ [x.d],vs ++ [v],rfl,aP,?_,cf,aD.aK (aD.keep rr tY) λb z=>.inl (P_ b z),p7⟩;-- the list that is built has grown
      refine⟨c6.ok.P0 (.inr rfl) h0 _,λa o ea n=>?_,λa z=>c6.own a z,λa o ea=>?_⟩
      ·have lM:a≠l:=λz=>by grind
       rw[aH lM]; exact c6.keep a o ea n
      ·by_cases lM:a=l
       ·grind
       ·obtain⟨o',e'⟩:=c6.there a o ea;exact⟨o',by rw[aH lM]; exact e'⟩
     ·exact p7.elim
  ·left
   have w8:i=ds.length:=by lia
   subst w8;rw[List.drop_length] at p2;exact⟨(xf H2 a2.keep).1,p2 H2 vs a2 hv rv⟩
theorem C3(hc:X.calm=true)(S:mH X scope cs)(hi:SI X c tg iter it)(hg:∀ l s₀ H₀ ex,lL (eU X scope s₀ H₀ ex) (c.plus l) cs tg g)(ht:∀ l s₀ H₀ ex,ou (eU X scope s₀ H₀ ex) (c.plus l) ifs t)
  (he:∀ l s₀ H₀ ex,SE (eU X scope s₀ H₀ ex) (c.plus l) elt el) (hp:∀ p ∈ c.pin,p.1 ∉ cs) (hs:∀ x,Jz iter X.env x=pure x:=by intro _; rfl) :
  SE X c (.ListComp elt [⟨tg,iter,ifs,0⟩] scope pos) (cV cs it g t el) :=
 PE.weak (Ob (g:=λv σ H Q=>∃ l,tW cs (c.plus l) g v σ H Q) (tt:=λσ H Q=>∃ l,tT (c.plus l) t σ H Q) (te:=λσ H Q=>∃ l,tD (c.plus l) el σ H Q) hc S hi
  (λs₀ H₀ ex pins s σ H v u Q I r ⟨l,q⟩=>hg l s₀ H₀ ex pins s σ H v u Q I r q) (λs₀ H₀ ex pins s σ H Q I ⟨l,q⟩=>ht l s₀ H₀ ex pins s σ H Q I q) (λs₀ H₀ ex pins s σ H Q I ⟨l,q⟩=>he l s₀ H₀ ex pins s σ H Q I q) hs)
  λσ H Q h=>CU (λ_ _ _ h=>h) (λl _ _ _ _ h=>⟨l,h⟩) (λl _ _ _ h=>⟨l,h⟩) (λl _ _ _ h=>⟨l,h⟩) hp h
theorem Q_{np:List Nat}{i:Nat}{y:Str}{py sY:Pos}(cD:Np c np)(hc:X.calm=true)(S:mH X scope cs)(hN:X.N.Nodup)(df:X.N[i]? = some y)(hy:X.env.scope.names.lookup y=some .local)
  (hi:SI X c tg iter it) (hg:∀ l s₀ H₀ ex,lL (eU X scope s₀ H₀ ex) (c.plus l) cs tg g) (ht:∀ l s₀ H₀ ex,ou (eU X scope s₀ H₀ ex) (c.plus l) ifs t)
  (he:∀ l s₀ H₀ ex,SE (eU X scope s₀ H₀ ex) (c.plus l) elt el) (hp:∀ p ∈ c.pin,p.1 ∉ cs)
  (mI:QZ (.ListComp elt [⟨tg,iter,ifs,0⟩] scope pos) (some (.Name y py)) sY.line X.env=pure true:=by rfl) (hs:∀ x,Jz iter X.env x=pure x:=by intro _; rfl) :
  SS X c (.Assign [.Name y py] (.ListComp elt [⟨tg,iter,ifs,0⟩] scope pos) sY) (ak (cV cs it g t el) (ae np i)) :=
 PS.weak (Oc (g:=λv σ H Q=>∃ l,tW cs (c.plus l) g v σ H Q) (tt:=λσ H Q=>∃ l,tT (c.plus l) t σ H Q) (te:=λσ H Q=>∃ l,tD (c.plus l) el σ H Q) hc S hN df hy hi
  (λs₀ H₀ ex pins s σ H v u Q I r ⟨l,q⟩=>hg l s₀ H₀ ex pins s σ H v u Q I r q) (λs₀ H₀ ex pins s σ H Q I ⟨l,q⟩=>ht l s₀ H₀ ex pins s σ H Q I q) (λs₀ H₀ ex pins s σ H Q I ⟨l,q⟩=>he l s₀ H₀ ex pins s σ H Q I q) mI hs)
  λD σ H h=>w6 (λσ H Q h=>CU (λ_ _ _ h=>h) (λl _ _ _ _ h=>⟨l,h⟩) (λl _ _ _ h=>⟨l,h⟩) (λl _ _ _ h=>⟨l,h⟩) hp h) (λ_ _ _ _ h=>wZ cD h) h
end
abbrev DF:=List S->Option (S×List S)
def cy:Nat->List S->List V->List (Nat×Addr)
 | n,.own _ :: ss,.ref a :: vs=>(n,a) :: cy (n + 1) ss vs
 | n,_ :: ss,_ :: vs=>cy (n + 1) ss vs
 | _,_,_=>[]
theorem mQ:∀ {n:Nat} {ss:List S} {vs:List V} {i:Nat} {a:Addr},(i,a) ∈ cy n ss vs->∃ j d,i=n + j/\ss[j]? = some (.own d)/\vs[j]? = some (.ref a)
 | n,[],vs,i,a,h=>by simp[cy] at h
 | n,s :: ss,[],i,a,h=>by cases s <;> simp[cy] at h
 | n,s :: ss,v :: vs,i,a,h=>by
  have xh:(i,a) ∈ cy (n + 1) ss vs->∃ j d,i=n + j/\(s :: ss)[j]? = some (.own d)/\(v :: vs)[j]? = some (.ref a):=λh=>by
   obtain⟨j,d,e,h1,h2⟩:=mQ h;exact⟨j + 1,d,Y',by simpa using h1,by simpa using h2⟩
  cases s with
  | pure d=>exact xh h
  | own d =>
   cases v with
   | ref b =>
    rcases Wq.mp h with e | h
    ·cases e;exact⟨0,d,rfl,rfl,rfl⟩
    ·exact xh h
   | _=>exact xh h
theorem tZ:∀ {n:Nat} {ss:List S} {vs:List V} {j:Nat} {d:D} {a:Addr},ss[j]? = some (.own d)->vs[j]? = some (.ref a)->(n + j,a) ∈ cy n ss vs
 | n,[],vs,j,d,a,h,_=>by simp at h
 | n,s :: ss,[],j,d,a,_,h=>by simp at h
 | n,s :: ss,v :: vs,0,d,a,h1,h2=>by
  simp at h1 h2;subst h1 h2;exact W7
 | n,s :: ss,v :: vs,j + 1,d,a,h1,h2=>by
  have ih:=tZ (n:=n + 1) (ss:=ss) (vs:=vs) (j:=j) (d:=d) (a:=a) (by simpa using h1) (by simpa using h2);have e:n + 1 + j=n + (j + 1):=by lia
  rw[e] at ih
  cases s with
  | pure d=>exact ih
  | own d =>
   cases v with
   | ref b=>exact W9 _ ih
   | _=>exact ih
abbrev ck(vs:List V):St:=vs.map some
abbrev cn(ss:List S):Dl:=ss.map some
theorem eX{ss:List S}{i:Nat}{r:S}:(cn ss)[i]? = some (some r) ↔ ss[i]? = some r:=by
 rw[Wp]
 cases ss[i]? <;> simp
theorem fE{vs:List V}{i:Nat}{v:V}:(ck vs)[i]? = some (some v) ↔ vs[i]? = some v:=by
 rw[Wp]
 cases vs[i]? <;> simp
def t4(n:Nat)(G:DF):Sp:=λvs H Q _=>∃ ss B,vs.length=n/\Ok ⟨H,B,cy 0 ss vs,λ_ _=>False⟩ (ck vs) (cn ss) H/\∃ r aL,G ss=some (r,aL) /\
 ∀ v H',aM ⟨H,B,cy 0 ss vs,λ_ _=>False⟩ (ck vs) (cn ss) H (ck vs) (cn aL) H'->aY ⟨H,B,cy 0 ss vs,λ_ _=>False⟩ (ck vs) (cn aL) H H' v r->Q v H'
def aX(P:Wk)(w:Wn)(K:W4)(mg:Str->Option Value)(base:Heap)(k:Nat)(x:Str)(n:Nat)(G:DF):Prop :=
 ∃ (f:Addr) (fd:Q7) (ps:List Str),mg x=some (.ref f)/\JI K (.ref f)=true/\Binds K fd ps []/\iM P w K mg base de k f fd ps (t4 n G)
def bc(n:Nat)(ss:List S):Dl:=cn ss ++ Wm (n - ss.length) none
def bJ:Nat->List S->Dl->Option (List S)
 | _,[],_=>some []
 | n,.pure d :: ss,δ=>(bJ (n + 1) ss δ).map (.pure d :: ·)
 | n,.own _ :: ss,δ=>match δ[n]? with
  | some (some (.own d'))=>(bJ (n + 1) ss δ).map (.own d' :: ·)
  | _=>none
noncomputable def bP:Fl->Option S
 | .next=>some (.pure .ay)
 | .ret r=>some r
 | _=>none
def eN(f:DS)(n:Nat)(ss:List S):Option (S×List S):=match f (bc n ss) with
 | .ok fl δ=>(bP fl).bind λr=>(bJ 0 ss δ).map λaL=>(r,aL)
 | _=>none
def bO(np:List Nat):Nat->List S->Bool
 | _,[]=>true
 | n,.own _ :: ss=>np.contains n && bO np (n + 1) ss
 | n,.pure _ :: ss=>bO np (n + 1) ss
theorem xi:∀ {n:Nat} {ss:List S} {j:Nat} {d:D},bO np n ss=true->ss[j]? = some (.own d)->np.contains (n + j)=true
 | n,[],j,d,_,h=>by simp at h
 | n,s :: ss,0,d,h,e=>by
  simp at e;subst e;simp only[bO,Wy] at h;exact h.1
 | n,s :: ss,j + 1,d,h,e=>by
  have h':bO np (n + 1) ss=true:=by
   cases s with
   | pure d=>exact h
   | own d=>simp only[bO,Wy] at h; exact h.2
  have:=xi (n:=n + 1) (j:=j) h' (by simpa using e);rw[show n + (j + 1)=n + 1 + j by lia];exact this
theorem t5:∀ {n:Nat} {ss aL:List S} {δ:Dl},bJ n ss δ=some aL->aL.length=ss.length/\∀ (i:Nat) s,ss[i]? = some s->(∃ d,s = .pure d/\aL[i]? = some (.pure d))\/∃ d d',s = .own d/\δ[n + i]? = some (some (.own d'))/\aL[i]? = some (.own d')
 | n,[],aL,δ,h=>by
  simp only[bJ,Wg] at h;subst h;exact⟨rfl,λi s e=>by simp at e⟩
 | n,.pure d :: ss,aL,δ,h=>by
  simp only[bJ] at h
  cases e:bJ (n + 1) ss δ with
  | none=>rw[e] at h; cases h
  | some os =>
   rw[e] at h;simp only[Wz,Wg] at h;subst h;obtain⟨h1,h2⟩:=t5 e;refine⟨by simp[h1],λi s es=>?_⟩
   cases i with
   | zero=>simp at es; subst es; exact .inl ⟨d,rfl,rfl⟩
   | succ i =>
    rcases h2 i s (by simpa using es) with ⟨d,z1,z2⟩ | ⟨d,d',z1,z2,z3⟩
    ·exact .inl ⟨d,z1,by simpa using z2⟩
    ·exact .inr ⟨d,d',z1,by rw[show n + (i + 1)=n + 1 + i by lia]; exact z2,by simpa using z3⟩
 | n,.own d :: ss,aL,δ,h=>by
  simp only[bJ] at h;split at h
  ·rename_i d' ed
   cases e:bJ (n + 1) ss δ with
   | none=>rw[e] at h; cases h
   | some os =>
    rw[e] at h;simp only[Wz,Wg] at h;subst h;obtain⟨h1,h2⟩:=t5 e;refine⟨by simp[h1],λi s es=>?_⟩
    cases i with
    | zero=>simp at es; subst es; exact .inr ⟨d,d',rfl,ed,rfl⟩
    | succ i =>
     rcases h2 i s (by simpa using es) with ⟨d,z1,z2⟩ | ⟨d,d',z1,z2,z3⟩
     ·exact .inl ⟨d,z1,by simpa using z2⟩
     ·exact .inr ⟨d,d',z1,by rw[show n + (i + 1)=n + 1 + i by lia]; exact z2,by simpa using z3⟩
  ·cases h
section
variable {c:Fc} {H H':Hp} {vs:List V} {ss aL:List S} {σ':St} {δ':Dl}
theorem lN{α:Type}{l:List (Option α)}{k i:Nat}{v:α}(h:(l ++ Wm k none)[i]? = some (some v)):l[i]? = some (some v):=by
 by_cases hi:i < l.length
 ·rw[List.getElem?_append_left hi] at h; exact h
 ·rw[List.getElem?_append_right Y',List.getElem?_replicate] at h;split at h <;> cases h
theorem kE{α:Type}{l:List (Option α)}{k i:Nat}{v:α}(h:l[i]? = some (some v)):(l ++ Wm k none)[i]? = some (some v):=by
 have hi:i < l.length:=(W6.mp h).1;rw[List.getElem?_append_left hi]; exact h
theorem Own.ext{σ:St}{δ:Dl}{k:Nat}{a:Addr}:Own (σ ++ Wm k none) (δ ++ Wm k none) a ↔ Own σ δ a :=
 ⟨λ⟨i,d,e1,e2⟩=>⟨i,d,lN e1,lN e2⟩,λ⟨i,d,e1,e2⟩=>⟨i,d,kE e1,kE e2⟩⟩
theorem Ok.ext{σ:St}{δ:Dl}(k:Ok c σ δ H)(n:Nat):Ok c (σ ++ Wm n none) (δ ++ Wm n none) H:=by
 have sub:∀ b,Av c (σ ++ Wm n none) (δ ++ Wm n none) b->Av c σ δ b:=λb z=>z.elim .inl λz=>.inr (Own.ext.mp z)
 refine⟨k.keep,k.bd,k.dO,by simp[k.len],λi d e=>?_,λi d e=>?_,λi j a d d' e1 e2 e3 e4=>k.inj i j a d d' (lN e1) (lN e2) (lN e3) (lN e4),λp hm=>kE (k.pinned p hm)⟩
 ·obtain⟨v,h1,h2⟩:=k.slot i d (lN e);exact⟨v,kE h1,h2.aK λb z=>.inl (sub b z)⟩
 ·obtain⟨a,h1,h2,h3⟩:=k.own i d (lN e);exact⟨a,kE h1,h2.aK λb z=>.inl (sub b z),h3⟩
theorem ox{B:Addr->Prop}{n:Nat}(hc:c = ⟨H,B,cy 0 ss vs,λ_ _=>False⟩)(k:Ok c (ck vs) (cn ss) H)(x:aM c (ck vs ++ Wm n none) (cn ss ++ Wm n none) H σ' δ' H')(ho:bJ 0 ss δ'=some aL) :
  aM c (ck vs) (cn ss) H (ck vs) (cn aL) H'/\∀ v r,aY c σ' δ' H H' v r->aY c (ck vs) (cn aL) H H' v r:=by
 obtain⟨hlen,hat⟩:=t5 ho;have mR:ss.length=vs.length:=by have:=k.len; simpa using this
 have pin:∀ (i:Nat) (a:Addr) (d:D),ss[i]? = some (.own d)->vs[i]? = some (.ref a)->σ'[i]? = some (some (.ref a)):=λi a d h1 h2=>by
  have:=tZ (n:=0) h1 h2;rw[Q3] at this;exact x.ok.pinned (i,a) (by rw[hc]; exact this)
 have t6:∀ (i:Nat) (d:D),aL[i]? = some (.own d)->(∃ d₀,ss[i]? = some (.own d₀))/\δ'[i]? = some (some (.own d)):=λi d e=>by
  have hi:i < ss.length:=by rw[<- hlen]; exact(W6.mp e).1
  rcases hat i ss[i] (by simp[hi]) with ⟨d₁,z1,z2⟩ | ⟨d₁,d',z1,z2,z3⟩
  all_goals grind
 have sub:∀ b,Own (ck vs) (cn aL) b->Own σ' δ' b:=λb ⟨i,d,e1,e2⟩=>by
  obtain⟨⟨d₀,h0⟩,h1⟩:=t6 i d (eX.mp e1);exact⟨i,d,h1,pin i b d₀ h0 (fE.mp e2)⟩
 have jV:∀ b,Av c (ck vs) (cn aL) b->Av c σ' δ' b:=λb z=>z.elim .inl λz=>.inr (sub b z)
 have C4:∀ {c':Fc},c'.pin=c.pin->Ok c' σ' δ' H'->(∀ b,c.B b->c'.B b)->(∀ (i:Nat) d v,ss[i]? = some (.pure d)->vs[i]? = some v->Rep H' (Av c' σ' δ') v d)->Ok c' (ck vs) (cn aL) H':=λ{c'} ep k' hB qx=>by
  have C5:∀ b,Av c' (ck vs) (cn aL) b->Av c' σ' δ' b:=λb z=>z.elim .inl λz=>.inr (sub b z)
  refine⟨k'.keep,k'.bd,k'.dO,by simp[hlen,mR],λi d e=>?_,λi d e=>?_,λi j a d d' e1 e2 e3 e4=>?_,λp hm=>?_⟩
  ·have e':=eX.mp e;have hi:i < ss.length:=by rw[<- hlen]; exact(W6.mp e').1
   have hv:i < vs.length:=by lia
   rcases hat i ss[i] (by simp[hi]) with ⟨d₁,z1,z2⟩ | ⟨d₁,d',z1,z2,z3⟩
   ·rw[e'] at z2; cases z2
    exact⟨vs[i],by simp[hv],(qx i d vs[i] (by rw[Wc hi,z1]) (by simp[hv])).aK λb z=>.inl (C5 b z)⟩
   grind
  ·have e':=eX.mp e;obtain⟨⟨d₀,h0⟩,h1⟩:=t6 i d e';obtain⟨a₀,h2,_⟩:=k.own i d₀ (eX.mpr h0);obtain⟨a,h3,h4,h5⟩:=k'.own i d h1;rw[pin i a₀ d₀ h0 (fE.mp h2)] at h3
   cases h3;exact⟨a₀,h2,h4.aK λb z=>.inl (C5 b z),h5⟩
  ·obtain⟨⟨d₀,h0⟩,h1⟩:=t6 i d (eX.mp e1);obtain⟨⟨d₁,h2⟩,h3⟩:=t6 j d' (eX.mp e2);exact k'.inj i j a d d' h1 h3 (pin i a d₀ h0 (fE.mp e3)) (pin j a d₁ h2 (fE.mp e4))
  ·exact k.pinned p (by rw[<- ep]; exact hm)
 have slots:∀ (i:Nat) d v,ss[i]? = some (.pure d)->vs[i]? = some v->Rep H' (Av c σ' δ') v d:=λi d v h1 h2=>by
  obtain⟨w,e1,r⟩:=(k.ext n).slot i d (kE (eX.mpr h1));rw[kE (fE.mpr h2)] at e1
  cases e1;exact Rep.dq r x
 refine⟨⟨C4 rfl x.ok (λ_ z=>z) slots,λa o e m=>x.keep a o e λz=>m (Own.ext.mp z),λa z=>(x.own a (sub a z)).elim (λz=>.inl (Own.ext.mp z)) .inr,x.there⟩,λv r hr=>?_⟩
 cases r with
 | pure d=>exact Rep.aK hr λb z=>.inl (jV b z)
 | own d =>
  obtain⟨a,ea,o,nb,h0,kp,hs⟩:=hr;refine⟨a,ea,o.aK λb z=>.inl (z.elim .inl λz=>.inr (sub b z)),nb,h0,C4 rfl kp (λ_ z=>.inl z) λi d v h1 h2=>?_,hs⟩;obtain⟨w,e1,r⟩:=(k.ext n).slot i d (kE (eX.mpr h1));rw[kE (fE.mpr h2)] at e1
  cases e1;have oy:H a=none:=hs;have r1:Rep H (Av c (ck vs ++ Wm n none) (cn ss ++ Wm n none)) v d:=r;have r2:Rep H (λb=>Av c (ck vs ++ Wm n none) (cn ss ++ Wm n none) b\/Av (c.plus a) σ' δ' b) v d:=r1.aK λb z=>by
   rcases z with z | (z | z) | z
   ·exact .inl z
   ·exact .inl (.inl z)
   ·exact .inr (by rw[z]; exact oy)
   ·rcases x.own b z with q | q
    ·exact .inl (.inr q)
    ·exact .inr q
  exact(r2.keep λb o e m=>x.keep b o e λz=>m (.inl (.inr z))).aK λb z=>.inl (.inr z)
end
section
variable {P:Wk} {w:Wn} {K:W4} {mg:Str->Option Value} {base:Heap}
theorem Ra{x qual:Str}{st:Stmt}{f:Addr}{fd:Q7}{N ps:List Str}{k:Nat}{np:List Nat}{fb:DS}{G:DF}(F:dH K x qual st f fd)(S:f_ N ps (bw st))
  (dJ:∀ (c:Fc) (aN:Value) (A:Wr) (outer:List Env) (s:W2) (H:Hp) (E:XK),bY k (A.deeper (JA qual (bw st) s.heap.objs.size f aN))->Np c np->fT (fz de P w K mg base N qual (bw st) f aN A outer s H E).f6 c (dM st) fb)
  (hG:∀ ss y,G ss=some y->bO np 0 ss=true/\eN fb N.length ss=some y):iM P w K mg base de (k + 1) f fd ps (t4 ps.length G):=by
 refine F.ok S (λvs H Q E h=>?_) λaN A outer s H vs Q E hr h=>?_
 ·obtain⟨ss,B,hl,_⟩:=h;exact hl
 ·obtain⟨ss,B,hl,ok,r,aL,hg,q⟩:=h;obtain⟨gJ,hrun⟩:=hG ss _ hg;have mR:ss.length=vs.length:=by have:=ok.len; simpa using this
  have xj:Np ⟨H,B,cy 0 ss vs,λ_ _=>False⟩ np:=λp hp=>by
   obtain⟨j,d,e,h1,_⟩:=mQ (i:=p.1) (a:=p.2) hp;rw[e];exact xi gJ h1
  refine⟨oo ⟨H,B,cy 0 ss vs,λ_ _=>False⟩ fb,dJ ⟨H,B,cy 0 ss vs,λ_ _=>False⟩ aN A outer s H E hr xj,?_⟩;have cU:fP N vs=ck vs ++ Wm (N.length - ss.length) none:=by rw[mR]; rfl
  refine⟨bc N.length ss,by rw[cU]; exact ok.ext _,?_⟩;unfold eN at hrun;unfold dR
  cases e:fb (bc N.length ss) with
  | exc x δx=>rw[e] at hrun; cases hrun
  | stuck=>rw[e] at hrun; cases hrun
  | ok fl δ' =>
   rw[e] at hrun;show ∀ σ' H',aM _ (fP N vs) (bc N.length ss) H σ' δ' H'->fin _ _ σ' δ' H' fl;intro σ' H' a;rw[cU] at a;simp only at hrun
   cases fl with
   | brk=>cases hrun
   | cont=>cases hrun
   | next =>
    simp only[bP,WH] at hrun
    cases eo:bJ 0 ss δ' with
    | none=>rw[eo] at hrun; cases hrun
    | some os =>
     rw[eo] at hrun
     cases hrun;obtain⟨l1,l2⟩:=ox rfl ok a eo;exact q .ay H' l1 .ay
   | ret r' =>
    simp only[bP,WH] at hrun
    cases eo:bJ 0 ss δ' with
    | none=>rw[eo] at hrun; cases hrun
    | some os =>
     rw[eo] at hrun
     cases hrun;obtain⟨l1,l2⟩:=ox rfl ok a eo;exactλv rv=>q v H' l1 (l2 v _ rv)
theorem Rb{x qual:Str}{st:Stmt}{f:Addr}{fd:Q7}{N ps:List Str}{k:Nat}{np:List Nat}{fb:DS}{G:DF}(F:dH K x qual st f fd)(hm:mg x=some (.ref f))(hb:Binds K fd ps [])(S:f_ N ps (bw st))
  (dJ:∀ (c:Fc) (aN:Value) (A:Wr) (outer:List Env) (s:W2) (H:Hp) (E:XK),bY k (A.deeper (JA qual (bw st) s.heap.objs.size f aN))->Np c np->fT (fz de P w K mg base N qual (bw st) f aN A outer s H E).f6 c (dM st) fb)
  (hG:∀ ss y,G ss=some y->bO np 0 ss=true/\eN fb N.length ss=some y):aX P w K mg base (k + 1) x ps.length G:=⟨f,fd,ps,hm,F.kp,hb,Ra F S dJ hG⟩
end
inductive Ak where
 | val (f:DE)
 | io (i:Nat)
def bz:List Ak->Dl->Rs (List (Option D))
 | [],δ=>.ok [] δ
 | .val f :: r,δ=>(f δ).bind λx δ1=>(bz r δ1).bind λxs δ2=>.ok (some x.d :: xs) δ2
 | .io _ :: r,δ=>(bz r δ).bind λxs δ2=>.ok (none :: xs) δ2
inductive kF (c:Fc) (σ:St) (δ:Dl) (H:Hp):List V->List Ak->List (Option D)->Prop
 | nil:kF c σ δ H [] [] []
 | val {v:V} {d:D} {f:DE} {vs:List V} {as:List Ak} {ds:List (Option D)}:Rep H (Av c σ δ) v d->kF c σ δ H vs as ds->kF c σ δ H (v :: vs) (.val f :: as) (some d :: ds)
 | io {v:V} {i:Nat} {vs:List V} {as:List Ak} {ds:List (Option D)}:σ[i]? = some (some v)->kF c σ δ H vs as ds->kF c σ δ H (v :: vs) (.io i :: as) (none :: ds)
def tX(c:Fc)(as:List Ak):TA:=λσ H Q=>∃ δ,Ok c σ δ H/\(∀ i,Ak.io i ∈ as->∃ v,σ[i]? = some (some v))/\post c (bz as δ) λds δ'=>∀ vs H',aM c σ δ H σ δ' H'->kF c σ δ' H' vs as ds->Q vs H'
abbrev SX(X:Cx)(c:Fc)(es:List Expr)(as:List Ak):Prop:=PA X es (tX c as)
section
variable {X:Cx} {c:Fc} {e:Expr} {es:List Expr} {fe:DE} {as:List Ak} {pos pp:Pos}
theorem xk:SX X c [] []:=PA.weak gz λσ H Q ⟨δ,k,_,q⟩=>q [] H (.refl k) .nil
theorem Rc(ha:SE X c e fe)(hr:SX X c es as)(hs:Wh (e :: es) X.env=(false,eval e X.env) :: Wh es X.env:=by rfl):SX X c (e :: es) (.val fe :: as):=PA.weak (fw ha hr hs) λσ H Q ⟨δ,k,gJ,q⟩=>by
 unfold bz at q;rw[aU] at q;refine⟨δ,k,aJ q λx δ1 q1 v H1 a1 r1=>⟨δ1,a1.ok,λi hi=>gJ i (W9 _ hi),?_⟩⟩;rw[aU] at q1;exact aJ q1 λxs δ2 q2 vs H2 a2 r2=>q2 (v :: vs) H2 (a1.trans a2) (.val (Rep.dq r1.rep a2) r2)
theorem Rf(ha:PE X e (cM i))(hr:SX X c es as)(hs:Wh (e :: es) X.env=(false,eval e X.env) :: Wh es X.env:=by rfl):SX X c (e :: es) (.io i :: as):=PA.weak (fw ha hr hs) λσ H Q ⟨δ,k,gJ,q⟩=>by
 obtain⟨v,ev⟩:=gJ i W7;unfold bz at q;rw[aU] at q;exact⟨v,ev,δ,k,λi hi=>gJ i (W9 _ hi),aJ q λxs δ2 q2 vs H2 a2 r2=>q2 (v :: vs) H2 a2 (.io ev r2)⟩
end
def bh:List Ak->List (Option D)->Dl->Option (List S)
 | [],[],_=>some []
 | .val _ :: as,some d :: ds,δ=>(bh as ds δ).map (.pure d :: ·)
 | .io i :: as,none :: ds,δ=>match δ[i]? with
  | some (some (.own d))=>(bh as ds δ).map (.own d :: ·)
  | _=>none
 | _,_,_=>none
def aZ:List Ak->List Nat
 | []=>[]
 | .val _ :: as=>aZ as
 | .io i :: as=>i :: aZ as
def aS:List Ak->List S->Dl->Dl
 | .io i :: as,r :: rs,δ=>aS as rs (δ.set i (some r))
 | .val _ :: as,_ :: rs,δ=>aS as rs δ
 | _,_,δ=>δ
def bB:List Nat->Bool
 | []=>true
 | i :: r=>!r.contains i && bB r
def ao(G:DF)(as:List Ak):DE:=λδ=>if (aZ as).all (bC δ) && bB (aZ as) then(bz as δ).bind λds δ1=>match bh as ds δ1 with
  | none=>.stuck
  | some ss=>match G ss with
   | none=>.stuck
   | some (r,aL)=>.ok r (aS as aL δ1)
 else .stuck
theorem C6:∀ {l:List Nat},bB l=true->l.Nodup
 | [],_=>.nil
 | i :: r,h=>by
  simp only[bB,Wy,Bool.not_eq_true'] at h;exact List.nodup_cons.mpr ⟨λhm=>by have:=h.1; simp at this; exact this hm,C6 h.2⟩
theorem mS:∀ {as:List Ak} {i:Nat},i ∈ aZ as ↔ Ak.io i ∈ as
 | [],i=>by simp[aZ]
 | .val f :: as,i=>by simp[aZ,mS (as:=as)]
 | .io j :: as,i=>by simp[aZ,mS (as:=as)]
theorem xm:∀ {as:List Ak} {i j k:Nat},(aZ as).Nodup->as[j]? = some (.io i)->as[k]? = some (.io i)->j=k
 | [],i,j,k,_,h,_=>by simp at h
 | .val f :: as,i,j,k,nd,h1,h2=>by
  cases j with
  | zero=>simp at h1
  | succ j =>
   cases k with
   | zero=>simp at h2
   | succ k=>exact congrArg (· + 1) (xm (as:=as) nd (by simpa using h1) (by simpa using h2))
 | .io n :: as,i,j,k,nd,h1,h2=>by
  have mT:=WI.mp nd
  cases j with
  | zero =>
   grind[mS]
  | succ j =>
   cases k with
   | zero =>
    grind[mS]
   | succ k=>exact congrArg (· + 1) (xm (as:=as) mT.2 (by simpa using h1) (by simpa using h2))
section
variable {c:Fc} {σ:St} {δ:Dl} {H:Hp} {vs:List V} {as:List Ak} {ds:List (Option D)} {ss:List S}
theorem xn(h:kF c σ δ H vs as ds):∀ {ss:List S},bh as ds δ=some ss->ss.length=vs.length/\as.length=vs.length/\∀ (j:Nat) s v,ss[j]? = some s->vs[j]? = some v ->
  (∃ d f,s = .pure d/\as[j]? = some (.val f)/\Rep H (Av c σ δ) v d)\/∃ d i,s = .own d/\as[j]? = some (.io i)/\σ[i]? = some (some v)/\δ[i]? = some (some (.own d)):=by
 induction h with
 | nil =>
  intro ss h;simp only[bh,Wg] at h;subst h;exact⟨rfl,rfl,λj s v e _=>by simp at e⟩
 | @val v d f vs as ds r _ ih =>
  intro ss h;simp only[bh] at h
  cases e:bh as ds δ with
  | none=>rw[e] at h; cases h
  | some rs =>
   rw[e] at h;simp only[Wz,Wg] at h;subst h;obtain⟨h1,h2,h3⟩:=ih e;refine⟨by simp[h1],by simp[h2],λj s v' e1 e2=>?_⟩
   cases j with
   | zero=>simp at e1 e2; subst e1 e2; exact .inl ⟨d,f,rfl,rfl,r⟩
   | succ j=>simpa using h3 j s v' (by simpa using e1) (by simpa using e2)
 | @io v i vs as ds ev _ ih =>
  intro ss h;simp only[bh] at h;split at h
  ·rename_i d ed
   cases e:bh as ds δ with
   | none=>rw[e] at h; cases h
   | some rs =>
    rw[e] at h;simp only[Wz,Wg] at h;subst h;obtain⟨h1,h2,h3⟩:=ih e;refine⟨by simp[h1],by simp[h2],λj s v' e1 e2=>?_⟩
    cases j with
    | zero=>simp at e1 e2; subst e1 e2; exact .inr ⟨d,i,rfl,rfl,ev,ed⟩
    | succ j=>simpa using h3 j s v' (by simpa using e1) (by simpa using e2)
  ·cases h
theorem xo:∀ (as:List Ak) (rs:List S) (δ:Dl),(aS as rs δ).length=δ.length
 | [],rs,δ=>by simp[aS]
 | .val f :: as,[],δ=>by simp[aS]
 | .io i :: as,[],δ=>by simp[aS]
 | .val f :: as,r :: rs,δ=>by simp[aS,xo as rs δ]
 | .io i :: as,r :: rs,δ=>by simp[aS,xo as rs]
theorem qy:∀ (as:List Ak) (rs:List S) (δ:Dl) (i:Nat),i ∉ aZ as->(aS as rs δ)[i]? = δ[i]?
 | [],rs,δ,i,_=>by simp[aS]
 | .val f :: as,[],δ,i,_=>by simp[aS]
 | .io j :: as,[],δ,i,_=>by simp[aS]
 | .val f :: as,r :: rs,δ,i,h=>by rw[aS]; exact qy as rs δ i h
 | .io j :: as,r :: rs,δ,i,h=>by
  simp only[aZ,Wq,not_or] at h;rw[aS,qy as rs _ i h.2,W8 (Ne.symm h.1)]
theorem t7:∀ (as:List Ak) (rs:List S) (δ:Dl) (i j:Nat) (r:S),(aZ as).Nodup->as[j]? = some (.io i)->rs[j]? = some r->i < δ.length->(aS as rs δ)[i]? = some (some r)
 | [],rs,δ,i,j,r,_,h,_,_=>by simp at h
 | a :: as,[],δ,i,j,r,_,_,h,_=>by simp at h
 | .val f :: as,r0 :: rs,δ,i,j,r,nd,h1,h2,hi=>by
  cases j with
  | zero=>simp at h1
  | succ j=>rw[aS]; exact t7 as rs δ i j r nd (by simpa using h1) (by simpa using h2) hi
 | .io k :: as,r0 :: rs,δ,i,j,r,nd,h1,h2,hi=>by
  have mT:=WI.mp nd
  cases j with
  | zero =>
   simp at h1 h2;subst h1 h2;rw[aS,qy as rs _ k mT.1,Wl hi]
  | succ j=>rw[aS]; exact t7 as rs _ i j r mT.2 (by simpa using h1) (by simpa using h2) (by simpa using hi)
theorem Rg(k:Ok c σ δ H)(hr:kF c σ δ H vs as ds)(hm:bh as ds δ=some ss)(nd:(aZ as).Nodup) :
  Ok ⟨H,λa=>Av c σ δ a/\¬ ∃ (j:Nat) (d:D),ss[j]? = some (S.own d)/\vs[j]? = some (V.ref a),cy 0 ss vs,λ_ _=>False⟩ (ck vs) (cn ss) H:=by
 obtain⟨h1,h2,h3⟩:=xn hr hm;have at':∀ (j:Nat) s,ss[j]? = some s->∃ v,vs[j]? = some v:=λj s e=>by
  have:j < vs.length:=by rw[<- h1]; exact(W6.mp e).1
  simp_all
 have C7:∀ a,Own (ck vs) (cn ss) a ↔ ∃ (j:Nat) (d:D),ss[j]? = some (S.own d)/\vs[j]? = some (V.ref a):=λa =>
  ⟨λ⟨j,d,e1,e2⟩=>⟨j,d,eX.mp e1,fE.mp e2⟩,λ⟨j,d,e1,e2⟩=>⟨j,d,eX.mpr e1,fE.mpr e2⟩⟩
 have C8:∀ a,Own (ck vs) (cn ss) a->Own σ δ a:=λa z=>by
  obtain⟨j,d,e1,e2⟩:=(C7 a).mp z;rcases h3 j _ _ e1 e2 with ⟨d',f,e,_⟩ | ⟨d',i,e,_,es,ed⟩
  ·cases e
  ·exact⟨i,d',ed,es⟩
 have sub:∀ a,Av ⟨H,λa=>Av c σ δ a/\¬ ∃ (j:Nat) (d:D),ss[j]? = some (S.own d)/\vs[j]? = some (V.ref a),cy 0 ss vs,λ_ _=>False⟩ (ck vs) (cn ss) a->Av c σ δ a:=λa z=>z.elim (λz=>z.1) λz=>.inr (C8 a z)
 refine⟨λa o e _=>e,λa z=>k.s_ z.1,λa ⟨i,hi⟩=>?_,by simp[h1],λj d e=>?_,λj d e=>?_,λi j a d d' e1 e2 e3 e4=>?_,λp hp=>?_⟩
 ·obtain⟨j,d,_,e1,e2⟩:=mQ hi;exact k.qe (C8 a ((C7 a).mpr ⟨j,d,e1,e2⟩))
 ·have e':=eX.mp e;obtain⟨v,ev⟩:=at' j _ e';rcases h3 j _ v e' ev with ⟨d',f,e,_,r⟩ | ⟨d',i,e,_⟩
  ·cases e;exact⟨v,fE.mpr ev,r.aK λb z=>.inl (sub b z)⟩
  ·cases e
 ·have e':=eX.mp e;obtain⟨v,ev⟩:=at' j _ e';rcases h3 j _ v e' ev with ⟨d',f,e,_,r⟩ | ⟨d',i,e,_,es,ed⟩
  ·cases e
  ·cases e;obtain⟨a,g1,g2,g3⟩:=k.own i d ed;rw[es] at g1
   cases g1;refine⟨a,fE.mpr ev,g2.aK λb z=>.inl (sub b z),.inl ⟨0 + j,tZ e' ev⟩,λz=>z.2 ⟨j,d,e',ev⟩⟩
 ·have f1:=eX.mp e1;have f2:=eX.mp e2;rcases h3 i _ _ f1 (fE.mp e3) with ⟨_,_,e,_⟩ | ⟨d1,i1,e,a1,s1,x1⟩
  ·cases e
  ·rcases h3 j _ _ f2 (fE.mp e4) with ⟨_,_,e',_⟩ | ⟨d2,i2,e',a2,s2,x2⟩
   ·cases e'
   ·have:=k.inj i1 i2 a d1 d2 x1 x2 s1 s2;subst this;exact xm nd a1 a2
 ·obtain⟨j,d,e,e1,e2⟩:=mQ (i:=p.1) (a:=p.2) hp;rw[Q3] at e;rw[e];exact fE.mpr e2
theorem Rh(k:Ok c σ δ H)(hr:kF c σ δ H vs as ds)(hm:bh as ds δ=some ss)(nd:(aZ as).Nodup)(hB:B=λa=>Av c σ δ a/\¬ ∃ (j:Nat) (d:D),ss[j]? = some (S.own d)/\vs[j]? = some (V.ref a))
  (x:aM ⟨H,B,cy 0 ss vs,λ_ _=>False⟩ (ck vs) (cn ss) H (ck vs) (cn aL) H') (gJ:∀ (j:Nat) d,ss[j]? = some (.own d)->∃ d',aL[j]? = some (.own d')) (hpo:∀ (j:Nat) d,ss[j]? = some (.pure d)->∃ d',aL[j]? = some (.pure d')) :
  aM c σ δ H σ (aS as aL δ) H'/\∀ v r,aY ⟨H,B,cy 0 ss vs,λ_ _=>False⟩ (ck vs) (cn aL) H H' v r->aY c σ (aS as aL δ) H H' v r:=by
 obtain⟨h1,h2,h3⟩:=xn hr hm;have t8:∀ i,i ∈ aZ as->∃ (j:Nat) (d:D) (a:Addr),as[j]? = some (.io i)/\ss[j]? = some (.own d)/\vs[j]? = some (.ref a)/\σ[i]? = some (some (.ref a))/\δ[i]? = some (some (.own d)):=λi hi=>by
  obtain⟨j,hj,ej⟩:=List.mem_iff_getElem.mp (mS.mp hi);have hv:j < vs.length:=by lia
  have hs:j < ss.length:=by lia
  have C9:as[j]? = some (.io i):=by rw[Wc hj,ej]
  rcases h3 j ss[j] vs[j] (by simp[hs]) (by simp[hv]) with ⟨d,f,e,a1,_⟩ | ⟨d,i',e,a1,s1,x1⟩
  ·grind
  ·rw[C9] at a1; cases a1
   obtain⟨a,g1,_⟩:=k.own i d x1;rw[s1] at g1;have g2:vs[j] = .ref a:=by
    have:=WS g1;exact WS this
   exact⟨j,d,a,C9,by rw[Wc hs,e],by rw[Wc hv,g2],by rw[s1,g2],x1⟩
 have t9:∀ a,(∃ (j:Nat) (d:D),ss[j]? = some (S.own d)/\vs[j]? = some (V.ref a))->Own σ δ a:=λa ⟨j,d,e1,e2⟩=>by
  rcases h3 j _ _ e1 e2 with ⟨d',f,e,_⟩ | ⟨d',i,e,_,es,ed⟩
  ·cases e
  ·exact⟨i,d',ed,es⟩
 have qax:∀ a,(⟨H,B,cy 0 ss vs,λ_ _=>False⟩:Fc).I a ↔ ∃ (j:Nat) (d:D),ss[j]? = some (S.own d)/\vs[j]? = some (V.ref a):=λa =>
  ⟨λ⟨i,hi⟩=>by obtain⟨j,d,_,e1,e2⟩:=mQ hi; exact⟨j,d,e1,e2⟩,λ⟨j,d,e1,e2⟩=>⟨0 + j,tZ e1 e2⟩⟩
 have ownIn:∀ a,Own (ck vs) (cn ss) a->∃ (j:Nat) (d:D),ss[j]? = some (S.own d)/\vs[j]? = some (V.ref a):=λa ⟨j,d,e1,e2⟩=>⟨j,d,eX.mp e1,fE.mp e2⟩
 -- the owned addresses are the same
 have t_:∀ (i:Nat) (d:D),(aS as aL δ)[i]? = some (some (.own d))->(i ∉ aZ as/\δ[i]? = some (some (.own d)))\/(i ∈ aZ as/\∃ (j:Nat) (d0:D) (a:Addr),as[j]? = some (.io i)/\ss[j]? = some (.own d0)/\vs[j]? = some (.ref a)/\σ[i]? = some (some (.ref a))/\aL[j]? = some (.own d)):=λi d e=>by
  by_cases hi:i ∈ aZ as
  ·right
   obtain⟨j,d0,a,a1,a2,a3,a4,a5⟩:=t8 i hi;obtain⟨d',ed'⟩:=gJ j d0 a2;have aP:i < δ.length:=(W6.mp a5).1;have:=t7 as aL δ i j (.own d') nd a1 ed' aP;rw[e] at this
   cases this;exact⟨hi,j,d0,a,a1,a2,a3,a4,ed'⟩
  ·rw[qy as aL δ i hi] at e;exact .inl ⟨hi,e⟩
 have qz:∀ b,Own σ (aS as aL δ) b->Own σ δ b:=λb ⟨i,d,e1,e2⟩=>by
  rcases t_ i d e1 with ⟨_,e⟩ | ⟨hi,j,d0,a,_,a2,a3,a4,_⟩
  ·exact⟨i,d,e,e2⟩
  grind
 have Ri:∀ (i:Nat) (d:D),(aS as aL δ)[i]? = some (some (.pure d))->i ∉ aZ as/\δ[i]? = some (some (.pure d)):=λi d e=>by
  by_cases hi:i ∈ aZ as
  ·obtain⟨j,d0,a,a1,a2,a3,a4,a5⟩:=t8 i hi;obtain⟨d',ed'⟩:=gJ j d0 a2;have aP:i < δ.length:=(W6.mp a5).1;have:=t7 as aL δ i j (.own d') nd a1 ed' aP;rw[e] at this
   cases this
  ·rw[qy as aL δ i hi] at e;exact⟨hi,e⟩
 have C_:∀ a o,H a=some o->¬ Av c σ δ a->H' a=some o:=λa o e n=>x.keep a o e λz=>n (.inr (t9 a (ownIn a z)))
 have jV:∀ b,Av c σ (aS as aL δ) b->Av c σ δ b:=λb z=>z.elim .inl λz=>.inr (qz b z)
 -- the callee's set holds ours
 have big:∀ {c':Fc},c'.B=B->∀ b,Av c σ δ b->Av c' (ck vs) (cn aL) b:=λ{c'} hB' b z=>by
  by_cases hp:∃ (j:Nat) (d:D),ss[j]? = some (S.own d)/\vs[j]? = some (V.ref b)
  ·obtain⟨j,d,e1,e2⟩:=hp;obtain⟨d',ed'⟩:=gJ j d e1;exact .inr ⟨j,d',eX.mpr ed',fE.mpr e2⟩
  ·exact .inl (by rw[hB',hB]; exact⟨z,hp⟩)
 have Dc:∀ (c1 c2:Fc),c1.H₀=c.H₀->c1.pin=c.pin->(∀ b,c1.B b->c.B b\/(c2.B b/\H b=none))->c2.pin=cy 0 ss vs->(∀ b,B b->c2.B b)->Ok c2 (ck vs) (cn aL) H'->(∀ b,c1.B b->∃ o,H' b=some o)->Ok c1 σ (aS as aL δ) H':=λc1 c2 e0 e1 e2 e3 e4 k2 hex=>by
  have De:∀ b,Av c1 σ (aS as aL δ) b->Av c σ δ b\/H b=none:=λb z=>by
   rcases z with z | z
   ·rcases e2 b z with z | ⟨_,z⟩
    ·exact .inl (.inl z)
    ·exact .inr z
   ·exact .inl (.inr (qz b z))
  have tj:∀ b,Av c1 σ (aS as aL δ) b->Av c2 (ck vs) (cn aL) b:=λb z=>by
   have bg:∀ b,Av c σ δ b->Av c2 (ck vs) (cn aL) b:=λb z=>by
    by_cases hp:∃ (j:Nat) (d:D),ss[j]? = some (S.own d)/\vs[j]? = some (V.ref b)
    ·obtain⟨j,d,e1,e2⟩:=hp;obtain⟨d',ed'⟩:=gJ j d e1;exact .inr ⟨j,d',eX.mpr ed',fE.mpr e2⟩
    ·exact .inl (e4 b (by rw[hB]; exact⟨z,hp⟩))
   rcases z with z | z
   ·rcases e2 b z with z | ⟨z,_⟩
    ·exact bg b (.inl z)
    ·exact .inl z
   ·exact bg b (.inr (qz b z))
  have Rj:∀ {v:V} {d:D},Rep H (Av c σ δ) v d->Rep H' (Av c1 σ (aS as aL δ)) v d:=λ{v d} r=>by
   have r1:Rep H (λb=>Av c σ δ b\/Av c1 σ (aS as aL δ) b) v d:=r.aK λb z=>z.elim .inl (De b)
   exact(r1.keep λb o e n=>C_ b o e λz=>n (.inl z)).aK λb z=>.inl (.inr z)
  refine⟨λa o e n=>?_,hex,λa z=>?_,by rw[xo]; exact k.len,λi d e=>?_,λi d e=>?_,λi j a d d' f1 f2 f3 f4=>?_,by rw[e1]; exact k.pinned⟩
  ·rw[e0] at e;have n':¬ c.I a:=λz=>n (by unfold Fc.I at z ⊢; rw[e1]; exact z)
   refine x.keep a o (k.keep a o e n') λz=>?_
   obtain⟨i,d,g1,g2⟩:=t9 a (ownIn a z);obtain⟨a',g3,_,g4,_⟩:=k.own i d g1;grind
  ·have z':c.I a:=by unfold Fc.I at z ⊢; rw[<- e1]; exact z
   obtain⟨o,e⟩:=k.dO a z';exact x.there a o e
  ·obtain⟨hi,e'⟩:=Ri i d e;obtain⟨v,g1,g2⟩:=k.slot i d e';exact⟨v,g1,Rj g2⟩
  ·rcases t_ i d e with ⟨hi,e'⟩ | ⟨hi,j,d0,a,b1,b2,b3,b4,b5⟩
   ·obtain⟨a,g1,g2,g3,g4⟩:=k.own i d e';have na:¬ Own (ck vs) (cn ss) a:=λz=>by
     obtain⟨j,d1,q1,q2⟩:=ownIn a z;rcases h3 j _ _ q1 q2 with ⟨d',f,ee,_⟩ | ⟨d',i',ee,ai,es,ed⟩
     ·cases ee
     ·have:=k.inj i i' a d d' e' ed g1 es;grind[mS]
    have Rk:fS H' (Av c1 σ (aS as aL δ)) a d:=by
     have o1:fS H (λb=>Av c σ δ b\/Av c1 σ (aS as aL δ) b) a d:=g2.aK λb z=>z.elim .inl (De b)
     exact(o1.keep (λb o e n=>C_ b o e λz=>n (.inl z)) λo e=>x.keep a o e na).aK λb z=>.inl (.inr z)
    refine⟨a,g1,Rk,by unfold Fc.I at g3 ⊢; rw[e0,e1]; exact g3,λz=>?_⟩;rcases e2 a z with z | ⟨_,z⟩
    ·exact g4 z
    ·obtain⟨o,eo⟩:=g2.some;rw[z] at eo; cases eo
   ·obtain⟨a',g1,g2,g3,g4⟩:=k2.own j d (eX.mpr b5);rw[fE.mpr b3] at g1
    cases g1;obtain⟨i0,d1,q1,q2⟩:=t9 a ⟨j,d0,b2,b3⟩;obtain⟨a'',q3,q4,q5,q6⟩:=k.own i0 d1 q1;rw[q2] at q3; cases q3
    refine⟨a,b4,g2.aK λb z=>.inl (tj b z),by unfold Fc.I at q5 ⊢; rw[e0,e1]; exact q5,λz=>?_⟩;grind
  ·obtain⟨d1,g1⟩:∃ d1,δ[i]? = some (some (.own d1)):=by
    rcases t_ i d f1 with ⟨_,e'⟩ | ⟨hi,_⟩
    ·exact⟨d,e'⟩
    ·obtain⟨_,d1,_,_,_,_,_,a5⟩:=t8 i hi;exact⟨d1,a5⟩
   obtain⟨d2,g2⟩:∃ d2,δ[j]? = some (some (.own d2)):=by
    rcases t_ j d' f2 with ⟨_,e'⟩ | ⟨hi,_⟩
    ·exact⟨d',e'⟩
    ·obtain⟨_,d1,_,_,_,_,_,a5⟩:=t8 j hi;exact⟨d1,a5⟩
   exact k.inj i j a d1 d2 g1 g2 f3 f4
 have Rm:Ok c σ (aS as aL δ) H':=Dc c ⟨H,B,cy 0 ss vs,λ_ _=>False⟩ rfl rfl (λb z=>.inl z) rfl (λb z=>z) x.ok λb z=>by
  obtain⟨o,e⟩:=k.bd b z;exact x.there b o e
 refine⟨⟨Rm,λa o e n=>x.keep a o e λz=>n (t9 a (ownIn a z)),λa z=>.inl (qz a z),x.there⟩,λv r hr=>?_⟩
 cases r with
 | pure d=>exact Rep.aK hr λb z=>.inl (big rfl b (jV b z))
 | own d =>
  obtain⟨a,ea,o,nb,h0,kp,hs⟩:=hr;have oy:H a=none:=hs;have ik:¬ Av c σ δ a:=k.ik oy;refine⟨a,ea,o.aK λb z=>.inl ?_,λz=>ik (.inl z),k.lD oy,?_,oy⟩
  ·rcases z with (z | z) | z
   ·exact(big rfl b (.inl z)).elim (λz=>.inl (.inl z)) .inr
   ·exact .inl (.inr z)
   ·exact(big rfl b (.inr (qz b z))).elim (λz=>.inl (.inl z)) .inr
  ·refine Dc (c.plus a) (Fc.plus ⟨H,B,cy 0 ss vs,λ_ _=>False⟩ a) rfl rfl (λb z=>?_) rfl (λb z=>.inl z) kp λb z=>?_
   ·rcases z with z | z
    ·exact .inl z
    ·exact .inr ⟨.inr z,by rw[z]; exact oy⟩
   ·rcases z with z | z
    ·obtain⟨o,e⟩:=k.bd b z;exact x.there b o e
    ·rw[z]; exact o.some
end
def oz(G:DF):Prop:=∀ ss r aL,G ss=some (r,aL)->aL.length=ss.length/\∀ (j:Nat),(∀ d,ss[j]? = some (.own d)->∃ d',aL[j]? = some (.own d'))/\∀ d,ss[j]? = some (.pure d)->∃ d',aL[j]? = some (.pure d')
theorem Rn(hG:∀ ss y,G ss=some y->eN fb n ss=some y):oz G:=λss r aL h=>by
 have:=hG ss _ h;unfold eN at this
 cases e:fb (bc n ss) with
 | exc x δx=>rw[e] at this; cases this
 | stuck=>rw[e] at this; cases this
 | ok fl δ =>
  rw[e] at this;simp only at this
  cases e1:bP fl with
  | none=>rw[e1] at this; cases this
  | some r' =>
   rw[e1] at this;simp only[WH] at this
   cases e2:bJ 0 ss δ with
   | none=>rw[e2] at this; cases this
   | some os =>
    rw[e2] at this
    cases this;obtain⟨h1,h2⟩:=t5 e2;refine⟨h1,λj=>⟨λd ed=>?_,λd ed=>?_⟩⟩
    ·rcases h2 j _ ed with ⟨d',z,_⟩ | ⟨d',d'',_,_,z⟩
     ·cases z
     ·exact⟨d'',z⟩
    ·rcases h2 j _ ed with ⟨d',z,z'⟩ | ⟨d',d'',z,_⟩
     ·exact⟨d',z'⟩
     ·cases z
section
variable {X:Cx} {c:Fc} {e:Expr} {es:List Expr} {as:List Ak} {k n:Nat} {x:Str} {G:DF} {pp pos:Pos}
theorem Df{ps:List Str}(hK:oz G){σ:St}{H:Hp}{Q:VK}(hl:as.length=n)(h:tD c (ao G as) σ H Q):AX (t4 n G) [] E0 (tX c as) σ H Q:=by
 obtain⟨δ,kk,q⟩:=h;unfold ao at q;split at q
 ·rename_i hc;rw[Wy] at hc;have nd:=C6 hc.2;rw[aU] at q;refine⟨δ,kk,λi hi=>?_,aJ q λds δ1 q1 vs H1 a1 r1=>?_⟩
  ·have:=JK.mp hc.1 i (mS.mpr hi);unfold bC at this;split at this
   ·rename_i d ed;exact qh kk ed
   ·cases this
  ·cases em:bh as ds δ1 with
   | none=>rw[em] at q1; exact q1.elim
   | some ss =>
    rw[em] at q1;simp only at q1
    cases eg:G ss with
    | none=>rw[eg] at q1; exact q1.elim
    | some y =>
     obtain⟨r,aL⟩:=y;rw[eg] at q1;have eZ:=Rg a1.ok r1 em nd;obtain⟨m1,m2,_⟩:=xn r1 em;obtain⟨g1,g2⟩:=hK ss r aL eg;refine⟨ss,_,by rw[Qb,<- m2]; exact hl,by rw[Qb]; exact eZ,r,aL,eg,λv H2 a2 r2=>?_⟩;rw[Qb] at a2 r2;obtain⟨o1,o2⟩:=Rh a1.ok r1 em nd rfl a2 (λj d ed=>(g2 j).1 d ed) λj d ed=>(g2 j).2 d ed
     exact q1 v H2 (a1.trans o1) (aY.back (o2 v r r2) a1)
 ·exact q.elim
theorem xp (F:aX X.prog X.w X.K X.mg X.base k x n G) (hK:oz G) (hr:bY k X.A) (hg:Gl X x) (ha:SX X c (e :: es) as) (hl:as.length=n) (gC:(x == ("__debug__" : Str))=false:=by decide)
  (he:Wh (e :: es) X.env=(false,eval e X.env) :: Wh es X.env:=by rfl) (dY:(Qi pos (Wh es X.env)).any (·.1)=false:=by rfl):SE X c (.Call (.Name x pp) (e :: es) [] pos) (ao G as):=by
 obtain⟨f,fd,ps,hm,hk,hb,ok⟩:=F;exact PE.weak (AY ok hr hg hm hk hb .nil Bz ha gC he dY) λσ H Q h=>Df (ps:=ps) hK hl h
end
def bf(np:List Nat)(n:Nat)(b:DS):DF:=λss=>if bO np 0 ss then eN b n ss else none
theorem oA(h:bf np n b ss=some y):bO np 0 ss=true/\eN b n ss=some y:=by
 unfold bf at h;split at h
 ·rename_i hi; exact⟨hi,h⟩
 ·cases h
theorem xq:oz (bf np n b):=Rn λ_ _ h=>(oA h).2
theorem mU(r:bY k A):A.units + 64 < WZ:=by have:=r.un; lia
theorem xr{c:Fc}{np cs:List Nat}(h:Np c np)(hc:cs.all (λi=>!np.contains i)=true):∀ p ∈ c.pin,p.1 ∉ cs:=λp hp z=>by
 have h1:=h p hp;grind
def ua:List Str->Bool
 | []=>true
 | x :: r=>!r.contains x && ua r
theorem Dg:∀ {l:List Str},ua l=true->l.Nodup
 | [],_=>.nil
 | x :: r,h=>by
  simp only[ua,Wy,Bool.not_eq_true'] at h;exact List.nodup_cons.mpr ⟨λhm=>by have:=h.1; simp at this; exact this hm,Dg h.2⟩
def iw(names:List (Str×NameKind))(x:Str)(k:NameKind):Bool:=match names.lookup x with
 | some j=>j == k
 | none=>false
theorem xt(h:iw names x k=true):names.lookup x=some k:=by
 unfold iw at h;split at h
 ·rename_i j e; rw[e,eq_of_beq h]
 ·cases h
def Dh(names:List (Str×NameKind))(N:List Str)(sc:List (Str×NameKind))(cs:List Nat):Bool :=
 sc.all (λx=>!(x.2 == .local) || iw sc x.1 .local) && sc.all (λx=>!(x.2 == .free) || (iw names x.1 .cell || iw names x.1 .free)) && ua (sc.map (·.1)) &&
 (Wd N.length).all λi=>match N[i]? with
  | some x=>!(iw sc x .local || iw sc x .cell) || cs.contains i
  | none=>true
theorem Ro(h:names.lookup x=some k):iw names x k=true:=by
 unfold iw; rw[h]; simp
theorem xu{X:Cx}{scope:Scope}{cs:List Nat}(hk:scope.kind = .function)(h:Dh X.env.scope.names X.N scope.names cs=true):mH X scope cs:=by
 unfold Dh at h;simp only[Wy] at h;obtain⟨⟨⟨h1,h2⟩,h3⟩,h4⟩:=h;refine⟨hk,λx hx hl=>?_,λx hx hf=>?_,Dg h3,λi x hi hl=>?_⟩
 ·have:=JK.mp h1 x hx;rw[hl] at this;exact xt (by simpa using this)
 ·have:=JK.mp h2 x hx;rw[hf] at this;have:iw X.env.scope.names x.1 .cell=true\/iw X.env.scope.names x.1 .free=true:=by simpa using this
  exact this.elim (λz=>.inl (xt z)) λz=>.inr (xt z)
 ·have jk:i < X.N.length:=(W6.mp hi).1;have:=JK.mp h4 i (WP.mpr jk);rw[hi] at this;have jK:(iw scope.names x .local || iw scope.names x .cell)=true:=by grind[Ro]
  grind
theorem Rp {K:W4}:kA K "int":=⟨rfl,rfl,rfl,rfl,rfl,rfl,rfl⟩
theorem Rq {K:W4}:kA K "bool":=⟨rfl,rfl,rfl,rfl,rfl,rfl,rfl⟩
theorem Rr {K:W4}:kA K "str":=⟨rfl,rfl,rfl,rfl,rfl,rfl,rfl⟩
def mV:Expr->Bool
 | .Starred ..=>false
 | _=>true
theorem oB(h:mV e=true):Wh (e :: es) env=(false,eval e env) :: Wh es env:=by
 cases e <;> first | (cases h; done) | rw[Wh] | rfl
 all_goals (intros; contradiction)
section
variable {X:Cx} {c:Fc} {e:Expr} {es:List Expr} {f fe:DE} {g:DA} {as:List Ak}
theorem qA(ha:SE X c e f)(hr:SA X c es g)(hs:mV e=true:=by rfl):SA X c (e :: es) (aT f g):=Cs ha hr (oB hs)
theorem qB(ha:SE X c e fe)(hr:SX X c es as)(hs:mV e=true:=by rfl):SX X c (e :: es) (.val fe :: as):=Rc ha hr (oB hs)
theorem Rv{i:Nat}(ha:PE X e (cM i))(hr:SX X c es as)(hs:mV e=true:=by rfl):SX X c (e :: es) (.io i :: as):=Rf ha hr (oB hs)
end
mutual
def jl:Nat->Expr->Option D
 | _,.Constant (.int i) _ _=>some (.int i)
 | _,.Constant (.bool b) _ _=>some (.bl b)
 | _,.Constant .none _ _=>some .ay
 | _,.Constant (.str x) _ _=>some (.str x.cps.toList)
 | n + 1,.Tuple es _ _=>if es.length<=1000 then(lO n es).map .tup else none
 | _,_=>none
def lO:Nat->List Expr->Option (List D)
 | _,[]=>some []
 | n,e :: es=>match jl n e,lO n es with
  | some d,some ds=>some (d :: ds)
  | _,_=>none
end
theorem Rw:∀ {n:Nat} {e:Expr} {d:D},jl n e=some d->mV e=true:=λ{n e d} h=>by
 cases e <;> first | rfl | (cases n <;> simp[jl] at h)
theorem Di{X:Cx}{c:Fc}{n:Nat}{k:Const}{a:Nat}{b:Pos}{d:D}(h:jl n (.Constant k a b)=some d):SE X c (.Constant k a b) (eD d):=by
 cases k <;> cases n <;> simp[jl] at h <;> subst h <;> first | exact wG | exact BY | exact BZ | exact B0 _ (BW _)
theorem xw{X:Cx}{c:Fc}{n:Nat}(ih:∀ {e:Expr} {d:D},jl n e=some d->SE X c e (eD d)):∀ {es:List Expr} {ds:List D},lO n es=some ds->SA X c es (λδ=>.ok ds δ)
 | [],ds,h=>by
  simp only[lO,Wg] at h; subst h; exact tM
 | e :: es,ds,h=>by
  simp only[lO] at h;split at h
  ·rename_i d b8 h1 h2
   cases h;exact Cs (ih h1) (xw ih h2) (oB (Rw h1))
  ·cases h
theorem Dj:∀ {e:Expr} {d:D},jl n e=some d->SE X c e (eD d):=by
 induction n with
 | zero=>intro e d h; cases e <;> first | exact Di h | (simp[jl] at h; done)
 | succ n ih =>
  intro e d h
  cases e <;> first | exact Di h | (simp[jl] at h; done) | skip
  simp only[jl] at h;split at h
  ·rename_i es _ _ hl
   cases e:lO n es with
   | none=>rw[e] at h; cases h
   | some ds =>
    rw[e] at h;simp only[Wz,Wg] at h;subst h;exact tN (xw ih e) hl
  ·cases h
theorem Rx(h:lO n es=some ds):SA X c es (λδ=>.ok ds δ):=xw Dj h
def ub(ds:List D):DE:=λδ=>.ok (.own (.lst ds)) δ
theorem Ry{X:Cx}{c:Fc}{e:Expr}{d:D}(h:jl 9 e=some d):SE X c e (eD d):=Dj h
theorem Rz{X:Cx}{c:Fc}{es:List Expr}{ds:List D}{pos:Pos}(h:lO 9 es=some ds)(hl:es.length<=1000):SE X c (.List es pos) (ub ds):=Cv (Rx h) hl
section
variable {X:Cx} {c:Fc} {e:Expr} {fe:DE} {pos:Pos} {tg:Expr}
theorem RA {x:Str} {i:Int} (hg:Gl X x) (hm:∃ t,X.mg x=some (.int i t)) (hd:(x == ("__debug__" : Str))=false:=by decide):SE X c (.Name x pos) (eD (.int i)):=by
 obtain⟨t,h⟩:=hm;exact Og hg h hd
theorem RB(he:SE X c e fe)(hs:QZ e none pos.line X.env=pure false:=by rfl):SS X c (.Expr e pos) (du fe) :=
 PB he (λ_=>hs) trivial (vK he hs)
theorem RC{i:Nat}{o:Expr}{apos aO:Pos}(ho:PE X o (cM i))(he:SE X c e fe)
  (mx:Qr o "append" X.env (eval o X.env)=eval o X.env:=by rfl)
  (my:((Qi aO (Wh [e] X.env)).all (λx=>!x.1) && (Uf aO (Jo [] X.env)).all (λx=>x.1.isSome)
   && decide ([e].length + ([]:List Keyword).length + (if ([]:List Keyword).isEmpty then 0 else 1) < 30))=true:=by rfl)
  (gQ:(apos.endLine == aO.line)=true:=by rfl) (hs:Wh [e] X.env=(false,eval e X.env) :: Wh [] X.env:=by rfl)
  (mI:QZ (.Call (.Attribute o "append" apos) [e] [] aO) none pos.line X.env=pure false:=by rfl):SS X c (.Expr (.Call (.Attribute o "append" apos) [e] [] aO) pos) (eW i fe) :=
 PF (p0:=apos) ho he (vK (v7 PySem.F.plainAttrs_list PySem.F.slot_list_append PySem.F.type_list_append Bs ho (fw he gz hs) mx my gQ hs rfl) mI)
end
def xx(K:W4):Bool:=K.all λp=>match p.2.cls with
 | .type t=>!(t == "list")
 | _=>true
theorem Dk[BEq α][LawfulBEq α]:∀ {K:List (α×β)} {a:α} {o:β},K.lookup a=some o->(a,o) ∈ K
 | [],a,o,e=>by simp at e
 | (b,o') :: r,a,o,e=>by
  rw[QA] at e
  cases hb:a == b with
  | true =>
   rw[hb] at e;have h1:o'=o:=WS e;have h2:a=b:=eq_of_beq hb;rw[h1,h2];exact W7
  | false =>
   rw[hb] at e;exact W9 _ (Dk e)
theorem RE {K:W4} {a:Addr} {o:Obj} (h:xx K=true) (e:K.lookup a=some o) (hc:o.cls = .type "list"):False:=by
 have hm:(a,o) ∈ (K:List (Addr×Obj)):=Dk e;have h1:=JK.mp h (a,o) hm;have h2:(match o.cls with | .type t=>!(t == "list") | _=>true)=true:=h1;rw[hc] at h2;have h3:(!(("list" : String) == "list"))=true:=h2;rw[beq_self_eq_true] at h3
 cases h3
end DV
set_option maxHeartbeats 400000
namespace L2
open PySem PySem.Spec PyProof.Rows
def xy(x:Str):It:=⟨λi _=>i < x.cps.size,λi H y H'=>H'=H/\∃ c,x.cps[i]? = some c/\y = .str ⟨#[c]⟩,λi _=>i=x.cps.size⟩
theorem RF {P:Wk} {w:Wn} {K:W4} {tg:Expr} (x:Str) (t:Tok) (it:Addr) (T:String) (hT:T = "str_ascii_iterator"\/T = "str_iterator"):Turn P w K tg (xy x) [it] it (λi h=>h.IsStrIter it T x t i):=by
 have W:∀ A:Wr,A.handled=none->Walks P w A it [it] [it] x.cps.size (SignAt x) (λi h=>h.IsStrIter it T x t i):=λA hh=>by
  rcases hT with rfl | rfl
  ·exact Walks.strAscii hh it x t
  ·exact Walks.strWide hh it x t
 refine⟨U',λi h st b hb=>?_,λi h h' st k=>?_,?_,?_,λA i s Q E st h=>?_⟩
 ·have e:b=it:=by simpa using hb
  subst e;obtain⟨o,e,c,d⟩:=st;exact⟨o,e,λv z=>by rw[d] at z; cases z⟩
 ·obtain⟨o,e,r⟩:=st;exact⟨o,k it U' o e,r⟩
 ·intro X hP hw hK hc i pins s σ H E I hf st hg;subst hP hw hK;obtain⟨f0,f1,f2,f3,f4,f5⟩:=hf it U';refine(W X.A (I.ok.hd hc)).item i s _ _ hg st λv h' tk hv eL kk=>?_
  obtain⟨c,u,hx,rfl⟩:=hv;have I1:Inv X pins σ H { s with heap:=h',toks:=tk }:=I.turned (λb o hb e=>kk b o (by simpa using hb) e) f0 f1 f3 f4 f5;obtain⟨o,e,c',d⟩:=id eL;refine⟨_,rfl,sC (s:={ s with heap:=h',toks:=tk }) e c' d (by rcases hT with rfl | rfl <;> decide) ⟨.str ⟨#[c]⟩,H,I1,⟨u,rfl⟩,⟨rfl,c,hx,rfl⟩,eL,λb hb=>(hf b hb).1⟩⟩
 ·intro X hP hw hK hc i pins s σ H E I hf st hg;subst hP hw hK;have lC:i=x.cps.size:=hg;subst lC;obtain⟨f0,f1,f2,f3,f4,f5⟩:=hf it U';exact(W X.A (I.ok.hd hc)).done s _ _ st λh' tk eb=>⟨rfl,I.turned (λb o hb e=>eb b o (by simpa using hb) e) f0 f1 f3 f4 f5⟩
 grind[wpAny_pyIter_striter_ascii,wpAny_pyIter_striter_wide]
end L2
namespace DV
open PySem PySem.Spec PyProof.Rows L2
section
variable {X:Cx} {c:Fc} {tg e:Expr} {fe:DE} {pos pp:Pos}
def RG(K:W4)(tl:TE):TI:=λσ H R=>tl σ H λx H1=>(∃ a,x = .ref a/\(∃ xs,cA K H1 a xs)/\R (vL K a) H1)\/(∃ a,x = .ref a/\(∃ xs,bT K H1 a xs)/\R (sD K a) H1)\/∃ z,x = .str z/\R (xy z) H1
theorem RH{l:Expr}{tl:TE}(hl:PE X l tl):PI X tg l (RG X.K tl):=by
 intro pins s σ H R I h;refine aF (hl pins s σ H _ I h) λv s1 ⟨x,H1,I1,r1,q1⟩=>?_
 rcases q1 with q1 | q1 | ⟨z,e,q⟩
 ·obtain⟨a,e,⟨xs,hq⟩,q⟩:=q1;subst e
  cases r1;obtain⟨ag,rv,p,hz⟩:=I1.list hq;refine UA p.isList ?_;refine⟨s1.heap.objs.size,[s1.heap.objs.size],_,_,H1,rfl,I1.kept (t':=s1.toks) λb o e=>W3 _ e,Mc a _,⟨_,Wi _ rfl,rfl,rfl⟩,λb hb=>?_,q⟩;have e:b=s1.heap.objs.size:=by simpa using hb
  subst e;exact I1.iJ (Wa _) (I1.ax.fresh (Wa _))
 ·obtain⟨a,e,⟨xs,hq⟩,q⟩:=q1;subst e
  cases r1;obtain⟨ag,rv,p,hz⟩:=I1.tuple hq;refine U2 (show s1.heap.IsTuple a ag.toArray from p) ?_;refine⟨s1.heap.objs.size,[s1.heap.objs.size],_,_,H1,rfl,I1.kept (t':=s1.toks) λb o e=>W3 _ e,Md a _,⟨_,Wi _ rfl,rfl,rfl⟩,λb hb=>?_,q⟩;have e:b=s1.heap.objs.size:=by simpa using hb
  subst e;exact I1.iJ (Wa _) (I1.ax.fresh (Wa _))
 ·subst e;obtain⟨t,rfl⟩:=r1;refine wpAny_pyIter_strU ?_;have hT:UF z = "str_ascii_iterator"\/UF z = "str_iterator":=by
   unfold UF;split
   ·exact .inl rfl
   ·exact .inr rfl
  refine⟨s1.heap.objs.size,[s1.heap.objs.size],_,_,H1,rfl,I1.kept (t':=s1.toks) λb o e=>W3 _ e,RF z t _ _ hT,⟨_,Wi _ rfl,rfl,rfl⟩,λb hb=>?_,q⟩;have e:b=s1.heap.objs.size:=by simpa using hb
  subst e;exact I1.iJ (Wa _) (I1.ax.fresh (Wa _))
theorem RI(z:Tx):mO c σ δ H (xy (toS z)) (z.map λn=>D.str [n]):=by
 intro H2 kp;have hsz:(toS z).cps.size=z.length:=by simp[toS]
 refine⟨by show(z.map _).length=_; rw[hsz]; simp,λi d e=>?_⟩;rw[Wp] at e
 cases ez:z[i]? with
 | none=>rw[ez] at e; cases e
 | some n =>
  rw[ez] at e
  cases e;have hi:i < z.length:=(W6.mp ez).1;refine⟨by show i < _; rw[hsz]; exact hi,λx H3 ⟨e3,cc,hc,hx⟩=>.inl ⟨e3,?_⟩⟩;have:(toS z).cps[i]? = z[i]?:=by simp[toS]
  rw[this,ez] at hc
  cases hc;rw[hx];exact .str [n]
def bM(f:DE):DI:=λδ=>(f δ).bind λr δ1=>match r.d with
 | .lst ds=>.ok ds δ1
 | .tup ds=>.ok ds δ1
 | .str x=>.ok (x.map λn=>.str [n]) δ1
 | _=>.stuck
theorem Dn(he:SE X c e fe):SI X c tg e (bM fe):=PI.weak (RH he) λσ H R ⟨δ,k,q⟩=>by
 unfold bM at q;rw[aU] at q;refine⟨δ,k,aJ q λr δ1 q1 v H1 a1 r1=>?_⟩;have rr:=r1.rep;generalize r.d=d at q1 rr
 cases d <;> first | exact q1.elim | skip
 ·cases rr;exact .inr (.inr ⟨_,rfl,q1 _ H1 a1 (RI _)⟩)
 ·cases rr with
  | tup h1 h2 h3 h4=>exact .inr (.inl ⟨_,rfl,⟨_,.of h2⟩,q1 _ H1 a1 (PJ _ h2 (λz=>h1 (.inr z)) ⟨h3,h4⟩)⟩)
 ·cases rr with
  | lst h1 h2 h3 h4 =>
   refine .inl ⟨_,rfl,⟨_,.inl h2⟩,q1 _ H1 a1 ?_⟩;intro H2 kp;rename_i a vs;have h5:Rd H2 a (.lst vs):=Rd.keep h2 λo e=>kp a o e λz=>h1 (.inr z)
   have r':aD H1 (Av c σ δ1) vs _:=⟨h3,h4⟩
   refine⟨⟨vs,.inl h5,by rw[r'.1]; exact Wa _⟩,λi d e=>?_⟩;obtain⟨v,ev,rv⟩:=r'.get e;refine⟨⟨vs,v,.inl h5,ev⟩,λx H3 ⟨e3,y⟩=>.inl ⟨e3,?_⟩⟩;have:=y vs (.inl h5);grind
end
end DV
namespace L2
open PySem PySem.Spec PyProof.Rows
theorem RJ(a:Int)(t:Tok)(l:Addr)(dd:Option Addr)(items:Array Value)(n:Nat)(sl:Array (Option Value)) :
  Meets (Builtin.«int.__rmul__» ⟨[.int a t,.ref l],[]⟩) (λ_ R s=>s.heap.get? l=some { cls:=.type "tuple",dict:=dd,data:=.seq items n,slots:=sl }/\R (.ok (.ret Value.notImplemented)) s) :=
 .of_wp λprog w A R s h=>by obtain⟨hp,g,d,tk,os⟩:=s; obtain⟨hl,h⟩:=h; wp_walk; exact⟨_,rfl,h⟩
theorem RK:fillsNumberSlot (.type "tuple") "mul" = pure false :=
 PySem.fillsNumberSlot_seq (id:="tuple.__mul__") (r:=some (.builtin "tuple.__rmul__")) F.slot_tuple_mul.lookup Re F.slot_tuple_rmul.lookup Re
theorem RL:seqRepeat? (.type "tuple")=pure (some (.builtin "tuple.__mul__")):=by
 unfold seqRepeat?;rw[PySem.seqSlot_of (T:="tuple") (name:="__mul__") (id:="tuple.__mul__") F.slot_tuple_mul.lookup Re,PySem.seqSlot_of (T:="tuple") (name:="__rmul__") (id:="tuple.__rmul__") F.slot_tuple_rmul.lookup Re];rfl
theorem RM(l:Addr)(dd:Option Addr)(items:Array Value)(n:Nat)(sl:Array (Option Value))(x:Int)(u:Tok)(h1:¬ (decide (x < -(2 ^ 63)) || decide (x ≥ 2 ^ 63))=true)(h2:¬ (items.isEmpty || x == 1)=true)(h3:¬ (decide (x<=0) || items.isEmpty)=true)(h4:¬ items.size * x > (2 ^ 63 - 1) / 8)(h5:¬ Builtin.Tuple.tupleTooMany (items.size * x)=true)(h6:((Wm x.toNat items).foldl (· ++ ·) #[]).size<=Wb) :
  Meets (Builtin.«tuple.__mul__» ⟨[.ref l,.int x u],[]⟩) (λ_ R s=>s.heap.get? l=some { cls:=.type "tuple",dict:=dd,data:=.seq items n,slots:=sl } /\
   R (.ok (.ret (.ref s.heap.objs.size))) { s with heap:=s.heap.push { cls:=.type "tuple",data:=.seq ((Wm x.toNat items).foldl (· ++ ·) #[]) } }) :=
 .of_wp λprog w A R s h=>by
  obtain⟨hp,g,d,tk,os⟩:=s; obtain⟨hl,h⟩:=h
  wp_walk
  rw[if_neg h1];wp_walk
  try rw[if_neg h2]
  try wp_walk
  try rw[if_neg h3]
  try wp_walk
  try rw[if_neg h4]
  try wp_walk
  try rw[if_neg h5]
  try wp_walk
  exact⟨_,rfl,h⟩
theorem xA(ag:List α):∀ (k:Nat) (acc:List α),List.foldl (λx1 x2:Array α=>x1 ++ x2) acc.toArray (Wm k ag.toArray)=(acc ++ (Wm k ag).flatten).toArray
 | 0,acc=>by simp
 | k + 1,acc=>by
  rw[QV,Qw,show acc.toArray ++ ag.toArray=(acc ++ ag).toArray by simp,xA ag k];simp[QV]
section
variable {X:Cx}
def Dp(K:W4):R2:=λx y H Q=>∃ l k xs,x = .ref l/\y = .int k/\bT K H l xs/\xs≠[]/\2<=k/\k<=1000000/\xs.length * k.toNat<=Wb/\∀ p,H p=none->Q (.ref p) (upd H p (.tup (Wm k.toNat xs).flatten))
theorem RN:bp X (QH .Mult) (Dp X.K):=by
 intro pins s σ H x y v u Q I rx ry h;obtain⟨l,k,xs,rfl,rfl,hH,cq,h1,h2,hz,q⟩:=h
 cases rx;obtain⟨t,rfl⟩:=ry;obtain⟨ag,r,pl,hl⟩:=I.tuple hH;obtain⟨⟨cls,dd,data,sl⟩,ho,hc,n,hd⟩:=id pl;simp only at hc hd;subst hc hd;have hlen:ag.toArray.size=xs.length:=by rw[Ws]; exact r.length.symm
 have oC:ag.toArray.isEmpty=false:=by
  cases ag with
  | nil=>exact absurd (r.sL.mp rfl) cq
  | cons a b=>rfl
 have gQ:Wb=16777216:=rfl;have hk:(k.toNat:Int)=k:=by lia
 have hmul:((ag.toArray.size:Nat):Int) * k=((xs.length * k.toNat:Nat):Int):=by rw[hlen,Qx,hk]
 have Dq:List.foldl (λx1 x2=>x1 ++ x2) #[] (Wm k.toNat ag.toArray)=(Wm k.toNat ag).flatten.toArray:=by
  have:=Bp ag k.toNat [];rw[Qm] at this;exact this
 refine wpAny_binaryOp_repeat_ref (T:="tuple") (U:="int") Z' ⟨_,ho,rfl⟩ (λs'=>Uv s' k t) RK F.fills_int_mul F.slot_int_rmul RL F.slot_int_index.lookup
  (call_meets F.slot_int_rmul (Uv s k t) F.entry_int_rmul (F.args_int_rmul_2 _ _) (RJ k t l dd ag.toArray n sl)
   ⟨ho,rfl,⟨_,ho,rfl⟩,call_meets F.slot_tuple_mul ⟨_,ho,rfl⟩ F.entry_tuple_mul (F.args_tuple_mul_2 _ _) (RM l dd ag.toArray n sl k t ?_ ?_ ?_ ?_ ?_ ?_) ⟨ho,?_⟩⟩)
 ·simp; lia
 ·rw[oC]; simp; lia
 ·rw[oC]; simp; lia
 ·rw[hmul]; lia
 ·rw[hmul];unfold Builtin.Tuple.tupleTooMany;rw[gQ] at hz;generalize xs.length * k.toNat=m at hz;simp only[gQ,decide_eq_true_eq];lia
 ·rw[Dq,Ws,v9,<- r.length,WY]; exact hz
 ·rw[Dq];have I1:Inv X pins σ (upd H s.heap.objs.size (.tup (Wm k.toNat xs).flatten)) { s with heap:=s.heap.push { cls:=.type "tuple",data:=.seq (Wm k.toNat ag).flatten.toArray } } :=
   I.laid (t':=s.toks) (λb o e=>W3 _ e) (Wa _) (show bF X.prog X.w _ _ _ (.tup (Wm k.toNat xs).flatten) from⟨by rw[v9,WY]; exact hz,(Wm k.toNat ag).flatten,r.rep k.toNat,gP.new _ _⟩)
  exact⟨.ref _,_,I1,rfl,q _ (I.ax.fresh (Wa _))⟩
def Dr:R2:=λx y H Q=>∃ z k,x = .str z/\y = .int k/\2<=k/\k<=1000000/\0 < z.length/\z.length * k.toNat<=Wb/\Q (.str ⟨(Wm k.toNat z.cps).foldl (· ++ ·) #[]⟩) H
theorem RO:bp X (QH .Mult) Dr:=by
 intro pins s σ H x y v u Q I rx ry h;obtain⟨z,k,rfl,rfl,h1,h2,h0,hz,q⟩:=h;obtain⟨t,rfl⟩:=rx;obtain⟨t',rfl⟩:=ry;have gQ:Wb=16777216:=rfl;have c1:¬ k < 1:=by lia
 have c2:(k == 1 || z.length == 0)=false:=by
  simp;lia
 refine PySem.P.mul_str R' (λ_ _=>?_) (λ_ _=>?_) ?_
 ·have hm:(z.length:Int) * k<=16777216:=by
   have:(z.length:Int) * k=((z.length * k.toNat:Nat):Int):=by rw[Qx,show(k.toNat:Int)=k by lia]
   rw[this];rw[gQ] at hz;lia
  have:(z.length:Int)<=(2 ^ 63 - 1) / k:=(Int.le_ediv_iff_mul_le Y').mpr Y';lia
 ·unfold Builtin.Str.tooLong;rw[gQ] at hz;generalize z.length * k.toNat=m at hz;simp only[gQ,decide_eq_false_iff_not];lia
 ·rw[if_neg c1,if_neg (by rw[c2]; simp)];have hsz:((Wm k.toNat z.cps).foldl (· ++ ·) #[]).size=k.toNat * z.length:=by
   have h:=xA z.cps.toList k.toNat [];simp only[Qm,Array.toArray_toList] at h;rw[h,Ws,v9];simp[Str.length]
  exact⟨by show((Wm k.toNat z.cps).foldl (· ++ ·) #[]).size<=_; rw[hsz,WY]; exact hz,.str _,H,I.tok _,⟨_,rfl⟩,q⟩
end
end L2
namespace DV
open PySem PySem.Spec PyProof.Rows L2
noncomputable def b9:D->D->Option S
 | .int i,.int j=>qk (.int i) (.int j)
 | .str x,.int k=>if 2<=k/\k<=1000000/\0 < x.length/\x.length * k.toNat<=Wb then some (.pure (.str (Wm k.toNat x).flatten)) else none
 | .tup xs,.int k=>if 2<=k/\k<=1000000/\0 < xs.length/\xs.length * k.toNat<=Wb then some (.pure (.tup (Wm k.toNat xs).flatten)) else none
 | _,_=>none
def Ds(K:W4):R2:=λx y H Q=>rI pR (λi j=>V.int (i * j)) x y H Q\/Dr x y H Q\/Dp K x y H Q
theorem Dt:bp X (QH .Mult) (Ds X.K):=Mo.or (RO.or RN)
theorem aD.rep(h:aD H O vs ds):∀ k:Nat,aD H O (Wm k vs).flatten (Wm k ds).flatten
 | 0=>.nil
 | k + 1=>by rw[QV,QV,Jg,Jg]; exact h.append (aD.rep h k)
theorem Du{K:W4}:cH (Ds K) b9:=by
 intro c σ δ H x y d e s Q k rx ry hp q
 cases d <;> cases e <;> first | (simp[b9] at hp; done) | skip
 ·exact .inl (OU c σ δ H x y _ _ s Q k rx ry hp q)
 ·rename_i z n;simp only[b9] at hp;split at hp
  ·rename_i h
   cases hp;refine .inr (.inl ⟨toS z,n,rx.str,ry.int,h.1,h.2.1,by rw[iP]; exact h.2.2.1,by rw[iP]; exact h.2.2.2,?_⟩);have e:(⟨(Wm n.toNat (toS z).cps).foldl (· ++ ·) #[]⟩:Str)=toS (Wm n.toNat z).flatten:=by
    unfold toS;congr 1
    have:=xA z n.toNat [];rw[Qm] at this;exact this
   rw[e];exact q _ H (.refl k) (.str _)
  ·cases hp
 ·rename_i ds n;simp only[b9] at hp;split at hp
  ·rename_i h
   cases hp;obtain⟨a,vs,ex,ha,r⟩:=rx.tup;refine .inr (.inr ⟨a,n,vs,ex,ry.int,.of ha,?_,h.1,h.2.1,by rw[r.1]; exact h.2.2.2,λp uc=>?_⟩)
   ·intro z;rw[z] at r;have:=r.1;simp at this;lia
   ·exact q _ _ (.alloc k uc _) (aY.mK k (aD.rep r _) uc)
  ·cases hp
theorem aY.newD(k:Ok c σ δ H)(hp:H p=none):aY c σ δ H (upd H p (.dK [])) (.ref p) (.own (.au [])):=by
 refine⟨p,rfl,⟨[],cf,rfl,λi p q e=>by simp at e⟩,λz=>k.ik hp (.inl z),k.lD hp,k.plus hp _,hp⟩
def gL:DE:=λδ=>.ok (.own (.au [])) δ
theorem Dv{X:Cx}{c:Fc}{pos:Pos}:SE X c (.Dict [] [] pos) gL:=PE.weak Nw λσ H Q ⟨δ,k,q⟩=>λp hp=>q _ _ (.alloc k hp _) (aY.newD k hp)
end DV
set_option maxHeartbeats 1000000
namespace L2
open PySem PySem.Spec PyProof.Rows
theorem Dw:entryFor table "dict.update.loop" = some Builtin.«dict.update.loop»:=entryFor_of_tree (by kernel_rfl)
theorem qC:plainId "dict.update.loop" = true:=by decide +kernel
theorem RP:typeLookup (.type "tuple") "keys" = pure none:=by rw[typeLookup_type,Ua]; kernel_rfl
theorem RQ:typeLookup (.type "list") "keys" = pure none:=by rw[typeLookup_type,Ua]; kernel_rfl
set_option maxRecDepth 8000 in
theorem RT
  (hx:s.heap.get? a=some o) (hc:o.cls = .type "tuple") (lP:o.data = .seq xs k) (hd:o.dict=none) (hA:A.handled=none)
  (h:∀ h' tk,(∀ b ob,s.heap.get? b=some ob->h'.get? b=some ob)->Q none { s with heap:=h',toks:=tk }) :
  W5 (model prog w) A (getAttr? (.ref a) "keys") Q E s:=by
 obtain⟨c,au,dat,sl⟩:=o;simp only at hc lP hd;subst hc lP hd;obtain⟨hp,g,d,tk,os⟩:=s;have hT:∀ mW,(⟨hp,g,d,mW,os⟩:W2).TypeIs (.ref a) "tuple":=λ_=>⟨_,hx,rfl⟩
 have f1:=sub_AttributeError;have f3:=F.slot_tuple_getattribute.lookup;have f4:=F.slot_tuple_getattribute.bind (.ref a);have f5:=am_tuple_getattr_none;have xB:=RP;unfold getAttr? getAttrBy? getAttrBy;repeat (any_goals (first | assumption | exact hT _ | ((with_reducible show W5 _ _ (call (Value.builtin "tuple.__getattribute__") _ _) _ _ _); refine call_meets F.slot_tuple_getattribute (hT _) am_entry_tuple_getattribute (F.args_tuple_getattribute_2 _ _) (meets_getattribute_miss_tuple a xs k sl "keys" _ xB Re) ⟨hx,hA,λh' mW e oD=>?_⟩) | wp_step))
 obtain⟨t',u',he⟩:=oD.there;show W5 _ _ (Ut _ _ _ _ _ _ _) _ _ _;unfold Ut;repeat (any_goals (first | assumption | wp_step))
 exact h _ _ oD.keeps
set_option maxRecDepth 8000 in
theorem RU
  (hx:s.heap.get? a=some o) (hc:o.cls = .type "list") (lP:o.data = .seq xs k) (hd:o.dict=none) (hA:A.handled=none)
  (h:∀ h' tk,(∀ b ob,s.heap.get? b=some ob->h'.get? b=some ob)->Q none { s with heap:=h',toks:=tk }) :
  W5 (model prog w) A (getAttr? (.ref a) "keys") Q E s:=by
 obtain⟨c,au,dat,sl⟩:=o;simp only at hc lP hd;subst hc lP hd;obtain⟨hp,g,d,tk,os⟩:=s;have hT:∀ mW,(⟨hp,g,d,mW,os⟩:W2).TypeIs (.ref a) "list":=λ_=>⟨_,hx,rfl⟩
 have f1:=sub_AttributeError;have f3:=F.slot_list_getattribute.lookup;have f4:=F.slot_list_getattribute.bind (.ref a);have f5:=am_list_getattr_none;have xB:=RQ;unfold getAttr? getAttrBy? getAttrBy;repeat (any_goals (first | assumption | exact hT _ | ((with_reducible show W5 _ _ (call (Value.builtin "list.__getattribute__") _ _) _ _ _); refine call_meets F.slot_list_getattribute (hT _) am_entry_list_getattribute (F.args_list_getattribute_2 _ _) (meets_getattribute_miss_list a xs k sl "keys" _ xB Re) ⟨hx,hA,λh' mW e oD=>?_⟩) | wp_step))
 obtain⟨t',u',he⟩:=oD.there;show W5 _ _ (Ut _ _ _ _ _ _ _) _ _ _;unfold Ut;repeat (any_goals (first | assumption | wp_step))
 exact h _ _ oD.keeps
def fV(kps:List (Key×V))(acc:List (Key×V)):List (Key×V):=kps.foldl (λa kv=>putK a kv.1 kv.2) acc
theorem RV{prog:Wk}{w:Wn}{A:Wr}{R:Result->W2->Prop}{s:W2}{dl it:Addr}{i:Int}{t0:Tok}
  (hn:W5 (model prog w) A.in1 (Ql (.ref it)) (λr s1=>∃ (q:Addr) (k v:Value) (n:Nat),r=some (.ref q)/\s1.heap.get? q=some { cls:=.type "tuple",dict:=none,data:=.seq #[k,v] n,slots:=#[] } /\
   W5 (model prog w) A.in1 (dictSet dl k v) (λ_ s2=>QK (model prog w) A (.builtin "dict.update.loop" ⟨[.ref dl,.ref it,QQ (i + 1),.none],[]⟩) R s2) (λ_ _=>False) s1) (λ_ _=>False) s) :
  QK (model prog w) A (.builtin "dict.update.loop" ⟨[.ref dl,.ref it,.int i t0,.none],[]⟩) R s:=by
 refine Qd Dw ?_;rw[Around.under_plainId qC _];show W5 _ A.in1 (Ql (.ref it) >>= _) _ _ s;refine W0 (WV hn (λr s1 hr=>?_) (by grind));obtain⟨q,k,v,n,rfl,hq,hd⟩:=hr;dsimp only;refine W0 ?_;try with_reducible refine WN ?_
 refine W0 (Uw ?_);have hT:s1.TypeIs (.ref q) "tuple":=⟨_,hq,rfl⟩
 unfold Builtin.Dict.pairItems;refine W0 (Jt hT ?_);rw[if_pos Z'];refine W0 ?_;unfold seqItems?;refine W0 (wpAny_load hq (W1 ?_));refine W1 ?_;show W5 _ A.in1 (holding [k,v] (dictSet dl k v)) _ _ s1;try with_reducible refine WN ?_
 refine WV hd (λ_ s2 h2=>?_) (by grind);exact W1 ⟨Qs qC _,h2⟩
theorem RW{prog:Wk}{w:Wn}{A:Wr}{R:Result->W2->Prop}{s:W2}{dl it:Addr}{i:Int}{t0:Tok}
  (hn:W5 (model prog w) A.in1 (Ql (.ref it)) (λr s1=>r=none/\R (.ok (.ret .none)) s1) (λ_ _=>False) s) :
  QK (model prog w) A (.builtin "dict.update.loop" ⟨[.ref dl,.ref it,.int i t0,.none],[]⟩) R s:=by
 refine Qd Dw ?_;rw[Around.under_plainId qC _];show W5 _ A.in1 (Ql (.ref it) >>= _) _ _ s;refine W0 (WV hn (λr s1 hr=>?_) (by grind));obtain⟨rfl,hd⟩:=hr;dsimp only;show W5 _ A.in1 (Builtin.Dict.addKeywords dl [] >>= _) _ _ s1;exact W0 (W1 (W1 hd))
section
variable {X:Cx} {pins:List (Addr×Obj)} {σ:St} {H:Hp}
theorem Rd.sub(h:Rd H a u)(k:∀ b o,H b=some o->H' b=some o):Rd H' a u:=by
 rcases h with h | ⟨o,h⟩
 ·exact .inl (k _ _ h)
 ·exact .inr ⟨o,k _ _ h⟩
def ud(H:Hp)(ys:List V)(kps:List (Key×V)):Prop:=ys.length=kps.length/\∀ (i:Nat) y kv,ys[i]? = some y->kps[i]? = some kv->∃ q,y = .ref q/\H q=some (.tup [kV kv.1,kv.2])
theorem Dx:∀ (kps acc:List (Key×V)),(fV kps acc).length<=acc.length + kps.length
 | [],acc=>Wa _
 | kv :: r,acc=>by
  have h1:=Dx r (putK acc kv.1 kv.2);have h2:=nY acc kv.1 kv.2;show(fV r (putK acc kv.1 kv.2)).length<=_;simp only[WA];lia
theorem RX(kps:List (Key×V))(kv:Key×V)(acc:List (Key×V)):fV (kps ++ [kv]) acc=putK (fV kps acc) kv.1 kv.2:=by
 unfold fV;rw[List.foldl_append];rfl
theorem Dy{A:Wr}{R:Result->W2->Prop}{dl it:Addr}{ys:List V}{kps:List (Key×V)}{tn:Nat->Heap->Prop}(hP:ud H ys kps)(iy:H dl=none)(hz:kps.length<=Wb)
  (item:∀ (i:Nat) (y:V) (H':Hp) (s:W2) (Q:Option Value->W2->Prop),(∀ b o,H b=some o->H' b=some o)->H' it=none->Inv X pins σ H' s->tn i s.heap->ys[i]? = some y->(∀ u s',RelV y u->Inv X pins σ H' s'->tn (i + 1) s'.heap->Q (some u) s')->W5 (model X.prog X.w) A.in1 (Ql (.ref it)) Q (λ_ _=>False) s)
  (done:∀ (H':Hp) (s:W2) (Q:Option Value->W2->Prop),(∀ b o,H b=some o->H' b=some o)->H' it=none->Inv X pins σ H' s->tn ys.length s.heap->(∀ s',Inv X pins σ H' s'->Q none s')->W5 (model X.prog X.w) A.in1 (Ql (.ref it)) Q (λ_ _=>False) s)
  (keep:∀ (i:Nat) (h h':Heap),tn i h->(∀ o,h.get? it=some o->h'.get? it=some o)->tn i h') (hit:H it=none) (cq:it≠dl) (hR:∀ s',Inv X pins σ (upd H dl (.dK (fV kps []))) s'->R (.ok (.ret .none)) s') :
  ∀ (k i:Nat) (s:W2) (j:Int) (t0:Tok),ys.length - i=k->i<=ys.length->Inv X pins σ (upd H dl (.dK (fV (kps.take i) []))) s->tn i s.heap ->
   QK (model X.prog X.w) A (.builtin "dict.update.loop" ⟨[.ref dl,.ref it,.int j t0,.none],[]⟩) R s:=by
 have up:∀ (acc:List (Key×V)) b o,H b=some o->upd H dl (.dK acc) b=some o:=λacc b o e=>by rw[aH (fO e iy)]; exact e
 have lg:∀ acc:List (Key×V),upd H dl (.dK acc) it=none:=λacc=>by rw[aH cq]; exact hit
 intro k;induction k with
 | zero =>
  intro i s j t0 hk hi I st;have e:i=ys.length:=by lia
  subst e;rw[hP.1,Jq (Wa _)] at I;refine RW (done _ s _ (up _) (lg _) I st λs' I'=>⟨rfl,hR s' I'⟩)
 | succ k ih =>
  intro i s j t0 hk hi I st;have aP:i < ys.length:=by lia
  have jm:i < kps.length:=by rw[<- hP.1]; exact aP
  obtain⟨q,ey,hq⟩:=hP.2 i ys[i] kps[i] (by simp[aP]) (by simp[jm]);-- the item is a tuple of two
  have main:∀ s1,Inv X pins σ (upd H dl (.dK (fV (kps.take i) []))) s1->tn (i + 1) s1.heap->∃ (kk vv:Value) (n:Nat),s1.heap.get? q=some { cls:=.type "tuple",dict:=none,data:=.seq #[kk,vv] n,slots:=#[] }/\RelV (kV kps[i].1) kk/\RelV kps[i].2 vv:=λs1 I1 _=>by
   obtain⟨_,ag,r,n,e⟩:=(show bF X.prog X.w _ s1.heap q (.tup [kV kps[i].1,kps[i].2]) from I1.ax q _ (up _ q _ hq))
   obtain⟨u,v,rfl,r1,r2⟩:=Vals.two r;exact⟨u,v,n,e,r1,r2⟩
  refine RV (item i ys[i] _ s _ (up _) (lg _) I st (by simp[aP]) λu s' ru I' eL=>?_);rw[ey] at ru
  cases ru;obtain⟨kk,vv,n,e,r1,r2⟩:=main s' I' eL;refine⟨q,kk,vv,n,rfl,e,?_⟩;obtain⟨z,hd,vs,rel,dd⟩:=nZ I'.ax cf;have mR:vs.length<=Wb:=by rw[<- rel.length]; exact z
  have hl:(putK (fV (kps.take i) []) kps[i].1 kps[i].2).length<=Wb:=by
   have h1:=nY (fV (kps.take i) []) kps[i].1 kps[i].2;have h2:=Dx (kps.take i) [];simp at h2;lia
  refine wpAny_dictSet_pairs (hsz:=mR) (jf r1) dd λh' ie hs=>?_
  have he:∃ q,h'.get? dl=some q:=let ⟨q,_,_,hq,_⟩:=ie; ⟨q,hq⟩
  have I2:=n4 (t':=s'.toks + 1) I' (by rw[cf]; exact True.intro) hs he (sR hl hd (rel.put kps[i].1 r2) ie);rw[Lf] at I2;have et:kps.take (i + 1)=kps.take i ++ [kps[i]]:=by simp_all
  rw[show putK (fV (kps.take i) []) kps[i].1 kps[i].2=fV (kps.take (i + 1)) [] by rw[et,RX]] at I2;exact ih (i + 1) _ (j + 1) _ Y' aP I2 (keep (i + 1) _ _ eL λo eo=>(hs.2 it cq).trans eo)
theorem RY (hc:X.calm=true):eA X (.type "dict") (λxs H Q=>∃ p ys kps,xs=[.ref p]/\(H p=some (.tup ys)\/Rd H p (.lst ys))/\ud H ys kps/\kps.length<=Wb/\∀ l,H l=none->Q (.ref l) (upd H l (.dK (fV kps [])))):=by
 intro pins s σ H xs us Q I r h;obtain⟨p,ys,kps,rfl,hp,hP,hz,q⟩:=h;obtain⟨u,rfl,rx⟩:=h_ r
 cases rx;have hA:X.A.handled=none:=I.ok.hd hc;refine callType_codes (Q₁:=λobj s₁=>obj = .ref s.heap.objs.size/\s₁ = { s with heap:=s.heap.push { cls:=.type "dict",data:=.dict #[] } }) F.kt_called_dict (F.kt_typeCall_dict_1 _) F.entry_dict_init (kt_code_dict_new _ ⟨rfl,rfl⟩) ?_;rintro obj s₁ ⟨rfl,rfl⟩;have iy:H s.heap.objs.size=none:=I.ax.fresh (Wa _);have I1:Inv X pins σ (upd H s.heap.objs.size (.dK [])) { s with heap:=s.heap.push { cls:=.type "dict",data:=.dict #[] } }:=I.laid (t':=s.toks) (λ_ _ q=>W3 _ q) (Wa _) (wb s.heap I.big);generalize gi:s.heap.objs.size=dl at iy I1;have up:∀ (acc:List (Key×V)) b o,H b=some o->upd H dl (.dK acc) b=some o:=λacc b o e=>by rw[aH (fO e iy)]; exact e
 have Dz:({ s with heap:=s.heap.push { cls:=.type "dict",data:=.dict #[] } }:W2).TypeIs (.ref dl) "dict":=⟨_,by rw[<- gi]; exact Wi _ rfl,rfl⟩
 refine⟨Dz,F.args_dict_init_2 _ _,?_⟩;unfold Builtin.«dict.__init__»;refine W0 ?_;unfold Builtin.Dict.selfAndRest;refine W0 (wpAny_notOrdered_dict Dz ?_);show W5 _ _ (pure (dl,[Value.ref p])) _ _ _;refine W1 ?_;show W5 _ _ (Builtin.Dict.updateFrom "dict.__init__" dl (.ref p) [] .none) _ _ _;unfold Builtin.Dict.updateFrom;have fin:∀ s',Inv X pins σ (upd H dl (.dK (fV kps []))) s'->EP X pins σ Q (.ref dl) s':=λs' I'=>⟨.ref dl,_,I',rfl,q dl iy⟩
 rcases hp with hp | hp
 ·obtain⟨_,ag,r,n,e⟩:=(show bF X.prog X.w _ (s.heap.push { cls:=.type "dict",data:=.dict #[] }) p (.tup ys) from I1.ax p _ (up _ p _ hp))
  refine W0 (Jt ⟨_,e,rfl⟩ ?_);rw[if_pos Z'];refine W0 (RT e rfl rfl rfl hA λh' tk kp=>?_);rw[if_pos (show(none:Option Value).isNone=true from rfl)];refine W0 (Jb ?_);have I2:Inv X pins σ (upd H dl (.dK [])) { s with heap:=h',toks:=tk }:=I1.kept kp;have xC:h'.IsTuple p ag.toArray:=⟨_,kp _ _ e,rfl,n,rfl⟩
  refine W0 (U2 (s:={ s with heap:=h',toks:=tk }) xC ?_);refine W1 ⟨Qs qC _,?_⟩;have jO:upd H dl (.dK []) h'.objs.size=none:=I2.ax.fresh (Wa _);have cq:h'.objs.size≠dl:=λz=>by grind[cf]
  have hit:H h'.objs.size=none:=by rw[aH cq] at jO; exact jO
  have fp:∀ H':Hp,H' h'.objs.size=none->f7 X pins H' h'.objs.size:=λH' hn=>I2.iJ (Wa _) hn
  refine Dy (X:=X) (pins:=pins) (σ:=σ) (H:=H) (dl:=dl) (it:=h'.objs.size) (ys:=ys) (kps:=kps) (tn:=λi h=>h.IsTupleIter h'.objs.size p i) hP iy hz ?_ ?_ (λi h h2 st k=>st.at k) hit cq (λs' I'=>⟨rfl,fin s' I'⟩) ys.length 0 _ 0 _ (Nat.sub_zero _) (Qn _) ?_ ?_
  ·intro i y H' s' Q' sub hn I' st hy k;obtain⟨_,its2,r2,n2,e2⟩:=(show bF X.prog X.w _ s'.heap p (.tup ys) from I'.ax p _ (sub p _ hp))
   obtain⟨v,hv,rv⟩:=r2.get hy;obtain⟨f0,f1,f2,f3,f4,f5⟩:=fp H' hn;refine wpAny_pyNext_tuple_item st (items:=its2.toArray) ⟨_,e2,rfl,n2,rfl⟩ (x:=v) (by simpa using hv) λh3 lq sb=>?_
   exact k v { s' with heap:=h3 } rv (I'.turned (t':=s'.toks) (λb o hb e=>(sb.2 b hb).trans e) f0 f1 f3 f4 f5) lq
  ·intro H' s' Q' sub hn I' st k;obtain⟨_,its2,r2,n2,e2⟩:=(show bF X.prog X.w _ s'.heap p (.tup ys) from I'.ax p _ (sub p _ hp))
   obtain⟨f0,f1,f2,f3,f4,f5⟩:=fp H' hn;have tm:=r2.length;exact wpAny_pyNext_tuple_end (show X.A.in1.in1.handled=none from hA) st (items:=its2.toArray) ⟨_,e2,rfl,n2,rfl⟩ R' λh3 eb=>k { s' with heap:=h3 } (I'.turned (t':=s'.toks) (λb o hb e=>eb b o hb e) f0 f1 f3 f4 f5)
  ·exact I2.kept (t':=tk) λb o e=>W3 _ e
  ·exact⟨_,Wi _ rfl,rfl,rfl⟩
 ·obtain⟨_,ag,n,r,e⟩:=(show bF X.prog X.w _ (s.heap.push { cls:=.type "dict",data:=.dict #[] }) p (.lst ys) from(Rd.sub hp (up _)).ok I1.ax)
  refine W0 (Jt ⟨_,e,rfl⟩ ?_);rw[if_pos Z'];refine W0 (RU e rfl rfl rfl hA λh' tk kp=>?_);rw[if_pos (show(none:Option Value).isNone=true from rfl)];refine W0 (Jb ?_);have I2:Inv X pins σ (upd H dl (.dK [])) { s with heap:=h',toks:=tk }:=I1.kept kp;have xC:h'.IsList p ag.toArray:=⟨_,kp _ _ e,rfl,n,rfl⟩
  refine W0 (UA (s:={ s with heap:=h',toks:=tk }) xC ?_);refine W1 ⟨Qs qC _,?_⟩;have jO:upd H dl (.dK []) h'.objs.size=none:=I2.ax.fresh (Wa _);have cq:h'.objs.size≠dl:=λz=>by grind[cf]
  have hit:H h'.objs.size=none:=by rw[aH cq] at jO; exact jO
  have fp:∀ H':Hp,H' h'.objs.size=none->f7 X pins H' h'.objs.size:=λH' hn=>I2.iJ (Wa _) hn
  refine Dy (X:=X) (pins:=pins) (σ:=σ) (H:=H) (dl:=dl) (it:=h'.objs.size) (ys:=ys) (kps:=kps) (tn:=λi h=>h.IsListIter h'.objs.size p i) hP iy hz ?_ ?_ (λi h h2 st k=>st.at k) hit cq (λs' I'=>⟨rfl,fin s' I'⟩) ys.length 0 _ 0 _ (Nat.sub_zero _) (Qn _) ?_ ?_
  ·intro i y H' s' Q' sub hn I' st hy k;obtain⟨_,its2,n2,r2,e2⟩:=(show bF X.prog X.w _ s'.heap p (.lst ys) from(Rd.sub hp sub).ok I'.ax)
   obtain⟨v,hv,rv⟩:=r2.get hy;obtain⟨f0,f1,f2,f3,f4,f5⟩:=fp H' hn;refine wpAny_pyNext_list_item st (items:=its2.toArray) ⟨_,e2,rfl,n2,rfl⟩ (x:=v) (by simpa using hv) λh3 lq sb=>?_
   exact k v { s' with heap:=h3 } rv (I'.turned (t':=s'.toks) (λb o hb e=>(sb.2 b hb).trans e) f0 f1 f3 f4 f5) lq
  ·intro H' s' Q' sub hn I' st k;obtain⟨_,its2,n2,r2,e2⟩:=(show bF X.prog X.w _ s'.heap p (.lst ys) from(Rd.sub hp sub).ok I'.ax)
   obtain⟨f0,f1,f2,f3,f4,f5⟩:=fp H' hn;have tm:=r2.length;exact wpAny_pyNext_list_end (show X.A.in1.in1.handled=none from hA) st (items:=its2.toArray) ⟨_,e2,rfl,n2,rfl⟩ R' λh3 eb=>k { s' with heap:=h3 } (I'.turned (t':=s'.toks) (λb o hb e=>eb b o hb e) f0 f1 f3 f4 f5)
  ·exact I2.kept (t':=tk) λb o e=>W3 _ e
  ·exact⟨_,Wi _ rfl,rfl,rfl⟩
end
end L2
set_option maxHeartbeats 400000
namespace DV
open PySem PySem.Spec PyProof.Rows L2
def a0(kvs:List (aB×D))(k:aB):Option D:=(kvs.find? λkv=>decide (kv.1=k)).map (·.2)
def putD(kvs:List (aB×D))(k:aB)(v:D):List (aB×D) :=
 if (kvs.any λkv=>decide (kv.1=k))=true then kvs.map (λkv=>if kv.1=k then(kv.1,v) else kv) else kvs ++ [(k,v)]
def mX(kps acc:List (aB×D)):List (aB×D):=kps.foldl (λa kv=>putD a kv.1 kv.2) acc
theorem RZ(h:bZ k=bZ j):k=j:=by
 cases k <;> cases j <;> simp[bZ] at h
 ·rw[h]
 ·rw[wD h]
def DR(H:Hp)(O:Addr->Prop):List (Key×V)->List (aB×D)->Prop
 | [],[]=>True
 | p :: ws,q :: ds=>p.1=bZ q.1/\Rep H O p.2 q.2/\DR H O ws ds
 | _,_=>False
section
variable {H H':Hp} {O O':Addr->Prop}
theorem DR.of:∀ {ws:List (Key×V)} {ds:List (aB×D)},ws.map (·.1)=ds.map (λp=>bZ p.1)->(∀ (i:Nat) p q,ws[i]? = some p->ds[i]? = some q->Rep H O p.2 q.2)->DR H O ws ds
 | [],[],_,_=>trivial
 | [],_ :: _,h,_=>by simp at h
 | _ :: _,[],h,_=>by simp at h
 | p :: ws,q :: ds,h,k=>by
  simp only[We,List.cons.injEq] at h;exact⟨h.1,k 0 p q rfl rfl,DR.of h.2 λi p' q' e1 e2=>k (i + 1) p' q' (by simpa using e1) (by simpa using e2)⟩
theorem DR.keys:∀ {ws:List (Key×V)} {ds:List (aB×D)},DR H O ws ds->ws.map (·.1)=ds.map (λp=>bZ p.1)
 | [],[],_=>rfl
 | [],_ :: _,h=>h.elim
 | _ :: _,[],h=>h.elim
 | p :: ws,q :: ds,h=>by simp only[We,h.1,DR.keys h.2.2]
theorem DR.vals:∀ {ws:List (Key×V)} {ds:List (aB×D)},DR H O ws ds->∀ (i:Nat) p q,ws[i]? = some p->ds[i]? = some q->Rep H O p.2 q.2
 | [],[],_,i,p,q,e,_=>by simp at e
 | [],_ :: _,h,_,_,_,_,_=>h.elim
 | _ :: _,[],h,_,_,_,_,_=>h.elim
 | p :: ws,q :: ds,h,i,p',q',e1,e2=>by
  cases i with
  | zero=>simp at e1 e2; subst e1 e2; exact h.2.1
  | succ i=>exact DR.vals h.2.2 i p' q' (by simpa using e1) (by simpa using e2)
theorem DR.map:∀ {ws:List (Key×V)} {ds:List (aB×D)},DR H O ws ds->(∀ v d,Rep H O v d->Rep H' O' v d)->DR H' O' ws ds
 | [],[],_,_=>trivial
 | [],_ :: _,h,_=>h.elim
 | _ :: _,[],h,_=>h.elim
 | p :: ws,q :: ds,h,k=>⟨h.1,k _ _ h.2.1,DR.map h.2.2 k⟩
theorem mY(h:p=bZ q):(p=bZ k) ↔ q=k:=⟨λe=>RZ (by rw[<- h]; exact e),by grind⟩
theorem DR.any:∀ {ws:List (Key×V)} {ds:List (aB×D)} (k:aB),DR H O ws ds->(ws.any λkv=>decide (kv.1=bZ k))=ds.any λkv=>decide (kv.1=k)
 | [],[],_,_=>rfl
 | [],_ :: _,_,h=>h.elim
 | _ :: _,[],_,h=>h.elim
 | p :: ws,q :: ds,k,h=>by
  rw[QC,QC,DR.any k h.2.2];congr 1
  exact decide_eq_decide.mpr (mY h.1)
theorem DR.val:∀ {ws:List (Key×V)} {ds:List (aB×D)} (k:aB),DR H O ws ds->(a0 ds k=none/\c_ ws (bZ k)=none)\/∃ v d,a0 ds k=some d/\c_ ws (bZ k)=some v/\Rep H O v d
 | [],[],_,_=>.inl ⟨rfl,rfl⟩
 | [],_ :: _,_,h=>h.elim
 | _ :: _,[],_,h=>h.elim
 | p :: ws,q :: ds,k,h=>by
  by_cases e:q.1=k
  ·have e':=(mY h.1).mpr e;exact .inr ⟨p.2,q.2,by simp[a0,WW,e],sP e',h.2.1⟩
  ·have e':¬ p.1=bZ k:=λz=>e ((mY h.1).mp z)
   have ev:a0 (q :: ds) k=a0 ds k:=by simp[a0,WW,e]
   rw[ev,sQ e'];exact DR.val k h.2.2
theorem DR.append:∀ {ws DB:List (Key×V)} {ds b8:List (aB×D)},DR H O ws ds->DR H O DB b8->DR H O (ws ++ DB) (ds ++ b8)
 | [],_,[],_,_,h'=>h'
 | [],_,_ :: _,_,h,_=>h.elim
 | _ :: _,_,[],_,h,_=>h.elim
 | p :: ws,_,q :: ds,_,h,h'=>⟨h.1,h.2.1,DR.append h.2.2 h'⟩
theorem DR.store:∀ {ws:List (Key×V)} {ds:List (aB×D)} {k:aB} {v:V} {d:D},DR H O ws ds->Rep H O v d->DR H O (ws.map λkv=>if kv.1=bZ k then(kv.1,v) else kv) (ds.map λkv=>if kv.1=k then(kv.1,d) else kv)
 | [],[],_,_,_,_,_=>trivial
 | [],_ :: _,_,_,_,h,_=>h.elim
 | _ :: _,[],_,_,_,h,_=>h.elim
 | p :: ws,q :: ds,k,v,d,h,r=>by
  refine⟨?_,?_,DR.store h.2.2 r⟩
  ·by_cases e:q.1=k
   ·dsimp only; rw[if_pos ((mY h.1).mpr e),if_pos e]; exact h.1
   ·dsimp only; rw[if_neg λz=>e ((mY h.1).mp z),if_neg e]; exact h.1
  ·by_cases e:q.1=k
   ·dsimp only; rw[if_pos ((mY h.1).mpr e),if_pos e]; exact r
   ·dsimp only; rw[if_neg λz=>e ((mY h.1).mp z),if_neg e]; exact h.2.1
theorem DR.put(h:DR H O ws ds)(r:Rep H O v d):DR H O (putK ws (bZ k) v) (putD ds k d):=by
 unfold putK putD;rw[DR.any k h];split
 ·exact DR.store h r
 ·exact DR.append h ⟨rfl,r,trivial⟩
theorem DR.xD:∀ {kps:List (Key×V)} {ue:List (aB×D)} {ws:List (Key×V)} {ds:List (aB×D)},DR H O kps ue->DR H O ws ds->DR H O (fV kps ws) (mX ue ds)
 | [],[],_,_,_,h=>h
 | [],_ :: _,_,_,h,_=>h.elim
 | _ :: _,[],_,_,h,_=>h.elim
 | p :: kps,q :: ue,ws,ds,h,h'=>by
  show DR H O (fV kps (putK ws p.1 p.2)) (mX ue (putD ds q.1 q.2));rw[h.1];exact DR.xD h.2.2 (DR.put h' h.2.1)
end
noncomputable def bD:D->Option aB
 | .int i=>some (.inl i)
 | .str x=>some (.inr x)
 | _=>none
theorem DC(h:bD d=some k)(r:Rep H O v d):v=kV (bZ k):=by
 cases d <;> simp[bD] at h <;> subst h <;> cases r <;> rfl
theorem mZ(h:bD d=some k)(r:bU c σ δ H v d):v=kV (bZ k):=by
 rcases r with r | ⟨a,rfl,r⟩
 ·exact DC h r
 ·cases d <;> simp[bD] at h <;> exact r.elim
noncomputable def gj:List D->Option (List (aB×D))
 | []=>some []
 | .tup [k,v] :: r=>match bD k,gj r with
  | some k',some r'=>some ((k',v) :: r')
  | _,_=>none
 | _ :: _=>none
noncomputable def cW:D->Option S
 | .lst ds=>(gj ds).bind λps=>if ps.length<=Wb then some (.own (.au (mX ps []))) else none
 | .tup ds=>(gj ds).bind λps=>if ps.length<=Wb then some (.own (.au (mX ps []))) else none
 | _=>none
theorem xE:∀ {ds:List D} {vs:List V} {ps:List (aB×D)},gj ds=some ps->aD H O vs ds->∃ kps,ud H vs kps/\DR H O kps ps/\kps.length=ps.length
 | [],[],ps,h,_=>by
  simp[gj] at h;subst h;exact⟨[],⟨rfl,λi y kv e=>by simp at e⟩,trivial,rfl⟩
 | [],_ :: _,_,_,r=>by have:=r.1; simp at this
 | _ :: _,[],_,_,r=>by have:=r.1; simp at this
 | d :: ds,v :: vs,ps,h,r=>by
  unfold gj at h;split at h
  ·grind
  ·rename_i k w r' heq
   cases heq;split at h
   ·rename_i k' r'' hk hr
    cases h;obtain⟨kps,hP,hD,hL⟩:=xE hr r.tail;have rp:=r.head
    cases rp with
    | tup h1 h2 h3 h4 =>
     rename_i a us;match us,h3,h4,h2 with
     | [x,y],_,h4,h2 =>
      have rk:=h4 0 x k rfl rfl;have rv:=h4 1 y w rfl rfl;have ek:=DC hk rk;subst ek;refine⟨(bZ k',y) :: kps,⟨by simp[hP.1],λi z kv e1 e2=>?_⟩,⟨rfl,rv,hD⟩,by simp[hL]⟩
      cases i with
      | zero=>simp at e1 e2; subst e1 e2; exact⟨a,rfl,h2⟩
      | succ i=>exact hP.2 i z kv (by simpa using e1) (by simpa using e2)
   ·cases h
  ·cases h
theorem aY.DH(k:Ok c σ δ H)(hp:H p=none)(r:DR H (Av c σ δ) ws ds):aY c σ δ H (upd H p (.dK ws)) (.ref p) (.own (.au ds)):=by
 have up:∀ a w,H a=some w->upd H p (.dK ws) a=some w:=λa w e=>by rw[aH (fO e hp)]; exact e
 have r1:DR (upd H p (.dK ws)) (Av (c.plus p) σ δ) ws ds:=r.map λv d h=>(h.aK λb z=>by
  rcases z with (z | z) | z
  ·exact .inl (.inl z)
  ·exact .inr (by rw[z]; exact hp)
  ·exact .inl (.inr z)).keep λb w e _=>up b w e
 exact⟨p,rfl,⟨ws,cf,r1.keys,r1.vals⟩,λz=>k.ik hp (.inl z),k.lD hp,k.plus hp _,hp⟩
section
variable {X:Cx} {c:Fc} {e:Expr} {fb:BE} {pos pp:Pos}
theorem R0:QW "dict" = some (.type "dict"):=by decide +kernel
theorem DJ (hc:X.calm=true) (hg:Gl X "dict") (hm:X.mg "dict" = none) (he:SB X c e fb) (hs:mV e=true:=by rfl):SE X c (.Call (.Name "dict" pp) [e] [] pos) (aR cW fb) :=
 tO (r:=λv H Q=>∃ p ys kps,v = .ref p/\(H p=some (.tup ys)\/Rd H p (.lst ys))/\ud H ys kps/\kps.length<=Wb/\∀ l,H l=none->Q (.ref l) (upd H l (.dK (fV kps []))))
  (RY hc) (λv H Q ⟨p,ys,kps,e,h⟩=>⟨p,ys,kps,by rw[e],h⟩)
  (λc σ δ H x d s Q k rx hp q=>by
   cases d with
   | lst ds =>
    simp only[cW] at hp
    cases jW:gj ds with
    | none=>rw[jW] at hp; cases hp
    | some ps =>
     rw[jW] at hp;simp only[WH] at hp;split at hp
     ·rename_i hz
      cases hp;obtain⟨a,vs,ex,ha,r⟩:=rx.lst;obtain⟨kps,hP,hD,hL⟩:=xE jW r;exact⟨a,vs,kps,ex,.inr ha,hP,by rw[hL]; exact hz,λl hl=>q _ _ (.alloc k hl _) (aY.DH k hl (DR.xD hD (ws:=[]) (ds:=[]) trivial))⟩
     ·cases hp
   | tup ds =>
    simp only[cW] at hp
    cases jW:gj ds with
    | none=>rw[jW] at hp; cases hp
    | some ps =>
     rw[jW] at hp;simp only[WH] at hp;split at hp
     ·rename_i hz
      cases hp;obtain⟨a,vs,ex,ha,r⟩:=rx.tup;obtain⟨kps,hP,hD,hL⟩:=xE jW r;exact⟨a,vs,kps,ex,.inl ha,hP,by rw[hL]; exact hz,λl hl=>q _ _ (.alloc k hl _) (aY.DH k hl (DR.xD hD (ws:=[]) (ds:=[]) trivial))⟩
     ·cases hp
   | _=>simp[cW] at hp) hg hm R0 he Z' Z' (oB hs)
end
theorem qD(r:bU c σ δ H v (.au ds)):∃ a ws,v = .ref a/\H a=some (.dK ws)/\DR H (Av c σ δ) ws ds:=by
 obtain⟨a,ws,e,h,k1,k2⟩:=r.au;exact⟨a,ws,e,h,DR.of k1 k2⟩
def xF(neg:Bool):R2:=λx y H Q=>∃ a kvs k,y = .ref a/\H a=some (.dK kvs)/\x=kV k/\Q (.bl (if neg then !(c_ kvs k).isSome else(c_ kvs k).isSome)) H
theorem R1(hu:X.A.units + 64 < WZ):bp X (WQ .In) (xF false):=by
 intro pins s σ H x y v u Q I rx ry h;obtain⟨a,kvs,k,rfl,ha,rfl,q⟩:=h
 cases ry;exact Nm Y' I (iN.k ha) rx λs' I'=>⟨.bl _,H,I',rfl,q⟩
theorem R3(hu:X.A.units + 64 < WZ):bp X (WQ .NotIn) (xF true):=by
 intro pins s σ H x y v u Q I rx ry h;obtain⟨a,kvs,k,rfl,ha,rfl,q⟩:=h
 cases ry;exact Nn Y' I (iN.k ha) rx λs' I'=>⟨.bl _,H,I',rfl,q⟩
def xG(K:W4)(neg:Bool):R2:=λx y H Q=>xF neg x y H Q\/v5 K neg x y H Q\/∃ i j,x = .str i/\y = .str j/\Q (.bl (if neg then !(!(JV j i 0 j.length 1).isEmpty) else !(JV j i 0 j.length 1).isEmpty)) H
theorem DK{X:Cx}(hu:X.A.units + 64 < WZ):bp X (WQ .In) (xG X.K false):=(R1 hu).or (M_.or Mw)
theorem xH{X:Cx}(hu:X.A.units + 64 < WZ):bp X (WQ .NotIn) (xG X.K true):=(R3 hu).or (Na.or Mx)
noncomputable def eF(neg:Bool)(x y:D):Option S:=match y with
 | .au ds=>(bD x).map λk=>.pure (.bl (if neg then !(a0 ds k).isSome else(a0 ds k).isSome))
 | .str y=>match x with
  | .str [n]=>some (.pure (.bl (if neg then !decide (n ∈ y) else decide (n ∈ y))))
  | _=>none
 | .lst ds=>match x,gX ds with
  | .str z,some ts=>some (.pure (.bl (if neg then !ts.contains z else ts.contains z)))
  | _,_=>none
 | .tup ds=>match x,gX ds with
  | .str z,some ts=>some (.pure (.bl (if neg then !ts.contains z else ts.contains z)))
  | _,_=>none
 | _=>none
theorem DL(z:Tx)(ts:List Tx):sO (V.str (toS z)) (ts.map λz=>V.str (toS z))=ts.contains z:=by
 unfold sO;rw[List.any_map];induction ts with
 | nil=>rfl
 | cons t r ih =>
  rw[QC,List.contains_cons,ih];congr 1
  show(toS t == toS z)=(z == t);rw[wH,Bool.beq_comm]
theorem DM(ts:List Tx):(ts.map λz=>V.str (toS z)).all ko=true:=by
 rw[List.all_map];exact List.all_eq_true.mpr λ_ _=>rfl
theorem qE{K:W4}(neg:Bool):cH (xG K neg) (eF neg):=by
 intro c σ δ H x y d e s Q k rx ry hp q
 cases e <;> first | (simp[eF] at hp; done) | skip
 ·rename_i z;simp only[eF] at hp;split at hp <;> first | (cases hp; done) | skip
  rename_i n
  cases hp;refine .inr (.inr ⟨toS [n],toS z,rx.str,ry.str,?_⟩);rw[show toS [n] = ⟨#[n]⟩ from rfl,PySem.StrLaws.found_one,show(toS z).cps.toList=z by simp[toS]];exact q _ H (.refl k) (.bl _)
 ·rename_i ds;simp only[eF] at hp;split at hp <;> first | (cases hp; done) | skip
  rename_i z ts ht
  cases hp;obtain⟨a,vs,ea,ha,r⟩:=ry.tup;have ev:=tQ ht r;refine .inr (.inl ⟨a,vs,ea,.inr (.of ha),by rw[rx.str]; rfl,by rw[ev]; exact DM ts,?_⟩);rw[rx.str,ev,DL];exact q _ H (.refl k) (.bl _)
 ·rename_i ds;simp only[eF] at hp;split at hp <;> first | (cases hp; done) | skip
  rename_i z ts ht
  cases hp;obtain⟨a,vs,ea,ha,r⟩:=ry.lst;have ev:=tQ ht r;refine .inr (.inl ⟨a,vs,ea,.inl (.inl ha),by rw[rx.str]; rfl,by rw[ev]; exact DM ts,?_⟩);rw[rx.str,ev,DL];exact q _ H (.refl k) (.bl _)
 ·rename_i ds;simp only[eF] at hp
  cases hk:bD d with
  | none=>rw[hk] at hp; cases hp
  | some kk =>
   rw[hk] at hp
   cases hp;obtain⟨a,ws,ea,ha,dr⟩:=qD ry;refine .inl ⟨a,ws,bZ kk,ea,ha,mZ hk rx,?_⟩;have:(c_ ws (bZ kk)).isSome=(a0 ds kk).isSome:=by
    rcases dr.val kk with ⟨e1,e2⟩ | ⟨v,d,e1,e2,_⟩
    ·rw[e1,e2]; rfl
    ·rw[e1,e2]; rfl
   rw[this];exact q _ H (.refl k) (.bl _)
def xI:R2:=λx y H Q=>∃ a kvs k v,x = .ref a/\H a=some (.dK kvs)/\y=kV k/\c_ kvs k=some v/\Q v H
noncomputable def cp:D->D->Option S
 | .au ds,k=>(bD k).bind λk=>(a0 ds k).map .pure
 | x,y=>az x y
theorem R4(hu:X.A.units + 64 < WZ):ic X xI:=by
 intro value slice pins s σ H x y v u Q I rx ry h hs;obtain⟨a,kvs,k,w,rfl,ha,rfl,hv,q⟩:=h
 cases rx;obtain⟨_,_,vs,_,dd⟩:=nZ I.ax ha;have hT:s.TypeIs (.ref a) "dict":=dd.typeIs;exact tail_any hT F.slot_dict_getitem.lookup (Nl (v:=w) Y' I (by rw[<- hv]; exact iN.k ha) ry λw' s' I' gD=>⟨w,H,I',gD,q⟩) hs
theorem xJ{K:W4}:cH (λx y H Q=>xI x y H Q\/sM K x y H Q) cp:=by
 intro c σ δ H x y d e s Q k rx ry hp q
 cases d with
 | au ds =>
  simp only[cp] at hp
  cases hk:bD e with
  | none=>rw[hk] at hp; cases hp
  | some kk =>
   rw[hk] at hp;simp only[WH,Ww] at hp;obtain⟨dv,hv,rfl⟩:=hp;obtain⟨a,ws,ea,ha,dr⟩:=qD rx;rcases dr.val kk with ⟨e1,e2⟩ | ⟨v,d',e1,e2,r⟩
   ·grind
   ·rw[e1] at hv; cases hv
    exact .inl ⟨a,ws,bZ kk,v,ea,ha,mZ hk ry,e2,q v H (.refl k) r⟩
 | _=>exact .inr (tK c σ δ H x y _ e s Q k rx ry hp q)
end DV
namespace PySem
open Sem (wp)
open AutoSeq1 (wpAny_loadPart')
section
variable {prog:Wk} {w:Wn} {A:Wr} {E:Value->W2->Prop} {s:W2}
theorem R5{items}(hit:s.heap.IsTupleIter it l i)(hl:s.heap.IsTuple l items)(hx:items[i]? = some x)
  (hQ:∀ h',h'.IsTupleIter it l (i + 1)->Qk it s.heap h'->Q x { s with heap:=h' }):W5 (model prog w) A (JG (.ref it)) Q E s:=by
 obtain⟨o,ho,hc,hd⟩:=id hit;obtain⟨ol,hol,_,nl,iy⟩:=hl;unfold JG;refine W0 (WM (name:=Str.ofString "__next__") hit.typeIs Jy
  (WJ Jy hit.typeIs F.entry_tuple_iterator_next ?_ (F.args_tuple_iterator_next_1 _)))
 show W5 _ _ (field (.ref it) 0 >>= _) _ _ s;refine W0 (QD ho hd (x:=.ref l) rfl ?_);show W5 _ _ (if (Value.ref l == Value.none)=true then _ else _) _ _ s;rw[if_neg (show ¬ ((Value.ref l == Value.none)=true) from Q0)];show W5 _ _ (field (.ref it) 1 >>= _) _ _ s;refine W0 (QD ho hd (x:=.int i 0) rfl ?_);show W5 _ _ (seqItems? (.ref l) >>= _) _ _ s;refine W0 (Jj hol iy ?_);simp only[Qq,hx];refine W0 (Jk ho hd U' (W1 ⟨x,rfl,W1 (hQ _ ?_ (Qo ..))⟩));exact⟨_,WG _ ho (Obj.isFreed_of_fields (Obj.data_mapFields hd _)),(Obj.cls_mapFields ..).trans hc,by
  rw[Obj.data_mapFields hd]; simp[QQ]⟩
theorem R6{items}(hh:A.handled=none)(hit:s.heap.IsTupleIter it l i)(hl:s.heap.IsTuple l items)(hx:items[i]? = none)
  (hE:∀ h' e,Heap.ExtBut it s.heap h'->(∃ o,h'.get? e=some o/\o.cls = .type "StopIteration")->E (.ref e) { s with heap:=h' }):W5 (model prog w) A (JG (.ref it)) Q E s:=by
 obtain⟨o,ho,hc,hd⟩:=id hit;obtain⟨ol,hol,_,nl,iy⟩:=hl;unfold JG;refine W0 (WM (name:=Str.ofString "__next__") hit.typeIs Jy
  (WJ Jy hit.typeIs F.entry_tuple_iterator_next ?_ (F.args_tuple_iterator_next_1 _)))
 show W5 _ _ (field (.ref it) 0 >>= _) _ _ s;refine W0 (QD ho hd (x:=.ref l) rfl ?_);show W5 _ _ (if (Value.ref l == Value.none)=true then _ else _) _ _ s;rw[if_neg (show ¬ ((Value.ref l == Value.none)=true) from Q0)];show W5 _ _ (field (.ref it) 1 >>= _) _ _ s;refine W0 (QD ho hd (x:=.int i 0) rfl ?_);show W5 _ _ (seqItems? (.ref l) >>= _) _ _ s;refine W0 (Jj hol iy ?_);simp only[Qq,hx];refine W0 (Jb (W0 (Jk ho hd U' ?_)));show W5 _ _ (newExc (.type "StopIteration") [] >>= _) _ _ _;refine W0 ?_;simp only[newExc,newTuple];refine W0 (WC ?_ (by size_fits));refine W0 (m:=Ub _ _) (wpAny_of_eq (a:=Value.none) (by first | rfl | (simp only[Ub]; rfl)) ?_);refine WC ?_ (by size_fits);simp only[raiseNew];refine W0 (wpAny_handled ?_);first | rw[show A.in1.handled=none from hh] | rw[hh]
 refine W0 (W1 (wpAny_throw ?_));exact hE _ _ (((Qo ..).extBut.push _).push _) ⟨_,Wi _ rfl,rfl⟩
end
theorem IsTuple.at'{h h':Heap}{l:Addr}{items:Array Value}(x:h.IsTuple l items)(k:∀ o,h.get? l=some o->h'.get? l=some o):h'.IsTuple l items:=by
 obtain⟨o,ho,r⟩:=x;exact⟨o,k o ho,r⟩
theorem Draws.tuple'{prog:Wk}{w:Wn}{A:Wr}(hh:A.handled=none)(it l:Addr)(cq:l≠it)(items:Array Value) :
  Draws prog w A it [it,l] items.size (λi v=>items[i]? = some v) (λi h=>h.IsTupleIter it l i/\h.IsTuple l items) where
 live:=λ_ _ st=>let ⟨o,ho,_⟩:=st.1; ⟨o,ho⟩
 frame:=λ_ _ _ st hk=>⟨st.1.at λo e=>hk it U' o e,IsTuple.at' st.2 λo e=>hk l U' o e⟩
 item:=λi s Q E hi st hQ=>by
  refine R5 st.1 st.2 (x:=items[i]) (by simp[hi]) λh' R7 gU=>?_
  exact hQ _ h' s.toks (by simp[hi]) ⟨R7,IsTuple.at' st.2 λo e=>(gU.2 l cq).trans e⟩ gU
 done:=λs Q E st hE=>R6 hh st.1 st.2 U' hE
theorem R8(l:Addr)(items:Array Value)(n:Nat)(au:Option Addr)(sl:Array (Option Value)) :
  Meets (Builtin.«enumerate.__new__» ⟨[.type "enumerate",.ref l],[]⟩) (λ_ R s=>s.heap.get? l=some { cls:=.type "tuple",dict:=au,data:=.seq items n,slots:=sl } /\
   R (.ok (.ret (.ref (s.heap.push { cls:=.type "tuple_iterator",data:=.fields #[.ref l,.int 0 0] }).objs.size)))
    { s with heap:=(s.heap.push { cls:=.type "tuple_iterator",data:=.fields #[.ref l,.int 0 0] }).push { cls:=.type "enumerate",data:=.fields #[.none,.bool false,.ref s.heap.objs.size,QQ 0,.none,.none] } }) :=
 .of_wp λprog w A R s h=>by
  obtain⟨hp,g,d,tk,os⟩:=s; obtain⟨hl,h⟩:=h
  have iZ:=sub_enumerate;have hL:Heap.IsTuple (Shared.heap ⟨hp,g,d,tk,os⟩) l items:=⟨_,hl,rfl,n,rfl⟩
  wp_walk using Qv hl
  refine wpAny_stack_any λst=>W1 ?_
  split
  ·rename_i c _ _ _ _ _
   cases (c == Value.type "enumerate")
   ·wp_walk using Qv hl,U2 hL
    exact⟨_,rfl,h⟩
   ·wp_walk using Qv hl,U2 hL
    exact⟨_,rfl,h⟩
  ·wp_walk using Qv hl,U2 hL
   exact⟨_,rfl,h⟩
theorem R9(hL:s.heap.IsTuple l items)
  (h:∀ h',IsEnum h' (s.heap.objs.size + 1) s.heap.objs.size 0 .none->h'.IsTupleIter s.heap.objs.size l 0->h'.objs.size=s.heap.objs.size + 2 ->
   (∀ b o,s.heap.get? b=some o->h'.get? b=some o)->Q (.ref (s.heap.objs.size + 1)) { s with heap:=h' }) :
  W5 (model prog w) A (call (.type "enumerate") [.ref l]) Q E s:=by
 obtain⟨⟨c,au,dt,sl⟩,hl,hc,n,hd⟩:=hL;replace hc:c = .type "tuple":=hc;replace hd:dt = .seq items n:=hd;subst hc hd;refine callType_new F.called_enumerate Z' (F.typeCall_enumerate_1 _) (F.newCall_enumerate_1 _) (λobj=>F.args_object_init_2 obj _) F.entry_enumerate_new
  (R8 l items n au sl) ⟨hl,?_⟩
 have hz:(s.heap.push { cls:=.type "tuple_iterator",data:=.fields #[.ref l,.int 0 0] }).objs.size=s.heap.objs.size + 1:=QE ..;show _/\_;rw[hz];have he:IsEnum ((s.heap.push { cls:=.type "tuple_iterator",data:=.fields #[.ref l,.int 0 0] }).push
   { cls:=.type "enumerate",data:=.fields #[.none,.bool false,.ref s.heap.objs.size,QQ 0,.none,.none] }) (s.heap.objs.size + 1) s.heap.objs.size 0 .none:=by
  have:=Wi (s.heap.push { cls:=.type "tuple_iterator",data:=.fields #[.ref l,.int 0 0] })
   (o:={ cls:=.type "enumerate",data:=.fields #[.none,.bool false,.ref s.heap.objs.size,QQ 0,.none,.none] }) rfl
  rw[hz] at this; exact this
 refine⟨⟨_,he,rfl⟩,h _ he ⟨_,W3 _ (Wi _ rfl),rfl,rfl⟩ (by rw[QE,hz]) λb o x=>W3 _ (W3 _ x)⟩
end PySem
namespace L2
open PySem PySem.Spec PyProof.Rows
section
variable {X:Cx} {pins:List (Addr×Obj)} {σ:St} {H:Hp} {s:W2} {h':Heap}
theorem Inv.uf(fp:List Addr)(I:Inv X pins σ H s)(k:∀ b o,b ∉ fp->s.heap.get? b=some o->h'.get? b=some o)(hf:∀ b ∈ fp,f7 X pins H b):Inv X pins σ H { s with heap:=h',toks:=t' }:=by
 have lg:∀ b u,H b=some u->b ∉ fp:=λb u e z=>by rw[(hf b z).1] at e; cases e
 refine I.step (g':=s.gens) (d':=s.drawn) (ch:=fp) (λb hb=>?_) (λb o _ _ hc e _=>k b o hc e) (λb o _ _ hc e _=>⟨o.slots,k b o hc e⟩) (λ_ _ _ _ n=>n)
  (λb o hc e=>⟨o,k b o hc e⟩) (λ_ _ e=>e) (λ_ _ _ e=>e) (λb ps e=>⟨#[],by rw[e]; simp⟩) (λm hm=>?_) (λb u e=>?_) I.bare
 ·obtain⟨f0,f1,f2,f3,f4,f5⟩:=hf b hb;exact⟨f3,f1,f4,f5⟩
 ·obtain⟨o,es,ep,ho,r⟩:=hm;exact⟨o,es,ep,k _ o (λz=>(hf _ z).2.1 rfl) ho,r⟩
 ·refine(I.ax b u e).mh (λc v hc q=>k c v ?_ q) (λ_ q=>q) (λ_ _ q=>q) λ_ _ _ q=>q
  rcases hc with z | z
  ·rw[z]; exact lg b u e
  ·exact lg c _ z
theorem Inv.xK(I:Inv X pins σ H s)(hf:∀ b ∈ [e,it],f7 X pins H b)(aP:∀ b ∈ [e,it],b < s.heap.objs.size)(ru:RelV y u)
  (hT:h'.get? s.heap.objs.size=some { cls:=.type "tuple",data:=.seq #[.int i tk,u] }) (k:∀ b o,b≠e->b≠it->s.heap.get? b=some o->h'.get? b=some o) :
  Inv X pins σ (upd H s.heap.objs.size (.tup [.int i,y])) { s with heap:=h',toks:=t' }:=by
 have I1:Inv X pins σ (upd H s.heap.objs.size (.tup [.int i,y])) { s with heap:=s.heap.push { cls:=.type "tuple",data:=.seq #[.int i tk,u] },toks:=t' } :=
  I.laid (t':=t') (λb o e=>W3 _ e) (Wa _) (show bF X.prog X.w _ _ _ (.tup [.int i,y]) from
   ⟨by simp only[WA,U1]; rw[Jn]; decide,[.int i tk,u],.cons ⟨_,rfl⟩ (.cons ru .nil),gP.new _ _⟩)
 have:=Inv.uf (t':=t') (h':=h') [e,it] I1 (λb o hb eb=>?_) λb hb=>?_
 ·exact this
 ·have he:b≠e:=λz=>hb (by simp[z])
  have hi:b≠it:=λz=>hb (by simp[z])
  rcases Heap.get?_push_cases eb with ⟨z,z'⟩ | eb
  ·subst z z';exact hT
  ·exact k b o he hi eb
 ·obtain⟨f0,r⟩:=hf b hb;refine⟨?_,r⟩;have hl:=aP b hb;rw[aH (Wo hl)];exact f0
def DO(K:W4)(a:Addr):It :=
 ⟨(vL K a).go,λi H x H'=>∃ p y,H p=none/\(∀ xs,cA K H a xs->xs[i]? = some y)/\H'=upd H p (.tup [.int i,y])/\x = .ref p,λi H=>∃ xs,cA K H a xs/\xs.length=i⟩
def DP(K:W4)(a:Addr):It :=
 ⟨(sD K a).go,λi H x H'=>∃ p y,H p=none/\(∀ xs,bT K H a xs->xs[i]? = some y)/\H'=upd H p (.tup [.int i,y])/\x = .ref p,λi H=>∃ xs,bT K H a xs/\xs.length=i⟩
theorem R_{P:Wk}{w:Wn}{K:W4}{elts:List Expr}{ctx}{pos:Pos}(a e it:Addr)(kG:e≠it)(Sa:a≠e)(jX:a≠it):Turn P w K (.Tuple elts ctx pos) (DO K a) [e,it] e (λi h=>(∃ old,IsEnum h e it i old)/\h.IsListIter it a i) where
 mem:=by simp
 obj:=λi h st b hb=>by
  obtain⟨⟨old,he⟩,hi⟩:=st;have hb:b=e\/b=it:=by simpa using hb
  rcases hb with z | z
  ·grind
  ·subst z;obtain⟨o,e,c,d⟩:=hi;exact⟨o,e,λv z=>by rw[d] at z; cases z⟩
 keep:=λi h h' st k=>⟨let ⟨old,he⟩:=st.1; ⟨old,k e U' _ he⟩,st.2.at λo q=>k it U' o q⟩
 item:=by
  intro X hP hw hK hc i pins s σ H E I hf st hg;subst hP hw hK;obtain⟨xs,x,hq,hx⟩:=hg;obtain⟨ag,rv,p,hz⟩:=I.list hq;obtain⟨u,hu,ru⟩:=rv.get hx;obtain⟨⟨old,he⟩,hi⟩:=st;have hL:s.heap.IsList a ag.toArray:=p.isList;have D:=Draws.list (prog:=X.prog) (w:=X.w) (A:=X.A.in1) (I.ok.hd hc) it a jX ag.toArray;have qF:i < ag.length:=(W6.mp hu).1;have aP:∀ b ∈ [e,it],b < s.heap.objs.size:=λb hb=>by
   have hb:b=e\/b=it:=by simpa using hb
   rcases hb with z | z
   ·subst z; exact Wj he
   ·subst z; obtain⟨o,q,_⟩:=hi; exact Wj q
  refine wpAny_pyNext_enum_itemD D he ⟨hi,hL⟩ (by simpa using qF) kG (by grind) λx' h' tk hP ho gU hT hsz hk=>?_
  have ex:x'=u:=by
   have:ag.toArray[i]? = some x':=hP;rw[List.getElem?_toArray,hu] at this
   cases this;rfl
  subst ex;refine⟨_,rfl,wpAny_letOwnedTupleGo_enum ho λh2 qG sb=>?_⟩;have k2:∀ b o,b≠e->b≠it->s.heap.get? b=some o->h2.get? b=some o:=λb o q1 q2 q=>(sb.2 b q1).trans (hk b o q1 q2 q)
  have qH:h2.get? s.heap.objs.size=some { cls:=.type "tuple",data:=.seq #[.int i tk,x'] }:=(sb.2 _ (QB (aP e U'))).trans hT;have I2:Inv X pins σ (upd H s.heap.objs.size (.tup [.int i,x])) { s with heap:=h2,toks:=tk + 1 }:=Inv.xK (t':=tk + 1) I hf aP ru qH k2;refine⟨.ref s.heap.objs.size,_,I2,rfl,⟨s.heap.objs.size,x,I.ax.fresh (Wa _),λys hy=>by rw[I.Aq hy hq]; exact hx,rfl,rfl⟩,⟨⟨x',by simpa using qG⟩,gU.1.at λo q=>(sb.2 it (Ne.symm kG)).trans q⟩,λb hb=>?_⟩;rw[aH (Wo (aP b hb))];exact(hf b hb).1
 done:=by
  intro X hP hw hK hc i pins s σ H E I hf st hg;subst hP hw hK;obtain⟨xs,hq,hx⟩:=hg;obtain⟨ag,rv,p,hz⟩:=I.list hq;obtain⟨⟨old,he⟩,hi⟩:=st;have hL:s.heap.IsList a ag.toArray:=p.isList;have hl:=rv.length;have D:=Draws.list (prog:=X.prog) (w:=X.w) (A:=X.A.in1) (I.ok.hd hc) it a jX ag.toArray;have hn:ag.toArray.size=i:=by simp; lia
  obtain⟨f0,f1,f2,f3,f4,f5⟩:=hf it U';exact wpAny_pyNext_enum_endD D he ⟨by rw[hn]; exact hi,hL⟩ λh' eb=>⟨rfl,I.turned (t':=s.toks) (λb o hb q=>eb b o hb q) f0 f1 f3 f4 f5⟩
 self:=λ_ _ _ _ _ st h=>by
  obtain⟨⟨old,he⟩,_⟩:=st;exact JD he h
theorem Sb{P:Wk}{w:Wn}{K:W4}{elts:List Expr}{ctx}{pos:Pos}(a e it:Addr)(kG:e≠it)(Sa:a≠e)(jX:a≠it):Turn P w K (.Tuple elts ctx pos) (DP K a) [e,it] e (λi h=>(∃ old,IsEnum h e it i old)/\h.IsTupleIter it a i) where
 mem:=by simp
 obj:=λi h st b hb=>by
  obtain⟨⟨old,he⟩,hi⟩:=st;have hb:b=e\/b=it:=by simpa using hb
  rcases hb with z | z
  ·grind
  ·subst z;obtain⟨o,e,c,d⟩:=hi;exact⟨o,e,λv z=>by rw[d] at z; cases z⟩
 keep:=λi h h' st k=>⟨let ⟨old,he⟩:=st.1; ⟨old,k e U' _ he⟩,st.2.at λo q=>k it U' o q⟩
 item:=by
  intro X hP hw hK hc i pins s σ H E I hf st hg;subst hP hw hK;obtain⟨xs,x,hq,hx⟩:=hg;obtain⟨ag,rv,p,hz⟩:=I.tuple hq;obtain⟨u,hu,ru⟩:=rv.get hx;obtain⟨⟨old,he⟩,hi⟩:=st;have hL:s.heap.IsTuple a ag.toArray:=p;have D:=Draws.tuple' (prog:=X.prog) (w:=X.w) (A:=X.A.in1) (I.ok.hd hc) it a jX ag.toArray;have qF:i < ag.length:=(W6.mp hu).1;have aP:∀ b ∈ [e,it],b < s.heap.objs.size:=λb hb=>by
   have hb:b=e\/b=it:=by simpa using hb
   rcases hb with z | z
   ·subst z; exact Wj he
   ·subst z; obtain⟨o,q,_⟩:=hi; exact Wj q
  refine wpAny_pyNext_enum_itemD D he ⟨hi,hL⟩ (by simpa using qF) kG (by grind) λx' h' tk hP ho gU hT hsz hk=>?_
  have ex:x'=u:=by
   have:ag.toArray[i]? = some x':=hP;rw[List.getElem?_toArray,hu] at this
   cases this;rfl
  subst ex;refine⟨_,rfl,wpAny_letOwnedTupleGo_enum ho λh2 qG sb=>?_⟩;have k2:∀ b o,b≠e->b≠it->s.heap.get? b=some o->h2.get? b=some o:=λb o q1 q2 q=>(sb.2 b q1).trans (hk b o q1 q2 q)
  have qH:h2.get? s.heap.objs.size=some { cls:=.type "tuple",data:=.seq #[.int i tk,x'] }:=(sb.2 _ (QB (aP e U'))).trans hT;have I2:Inv X pins σ (upd H s.heap.objs.size (.tup [.int i,x])) { s with heap:=h2,toks:=tk + 1 }:=Inv.xK (t':=tk + 1) I hf aP ru qH k2;refine⟨.ref s.heap.objs.size,_,I2,rfl,⟨s.heap.objs.size,x,I.ax.fresh (Wa _),λys hy=>by rw[I.Ar hy hq]; exact hx,rfl,rfl⟩,⟨⟨x',by simpa using qG⟩,gU.1.at λo q=>(sb.2 it (Ne.symm kG)).trans q⟩,λb hb=>?_⟩;rw[aH (Wo (aP b hb))];exact(hf b hb).1
 done:=by
  intro X hP hw hK hc i pins s σ H E I hf st hg;subst hP hw hK;obtain⟨xs,hq,hx⟩:=hg;obtain⟨ag,rv,p,hz⟩:=I.tuple hq;obtain⟨⟨old,he⟩,hi⟩:=st;have hL:s.heap.IsTuple a ag.toArray:=p;have hl:=rv.length;have D:=Draws.tuple' (prog:=X.prog) (w:=X.w) (A:=X.A.in1) (I.ok.hd hc) it a jX ag.toArray;have hn:ag.toArray.size=i:=by simp; lia
  obtain⟨f0,f1,f2,f3,f4,f5⟩:=hf it U';exact wpAny_pyNext_enum_endD D he ⟨by rw[hn]; exact hi,hL⟩ λh' eb=>⟨rfl,I.turned (t':=s.toks) (λb o hb q=>eb b o hb q) f0 f1 f3 f4 f5⟩
 self:=λ_ _ _ _ _ st h=>by
  obtain⟨⟨old,he⟩,_⟩:=st;exact JD he h
end
end L2
namespace DV
open PySem PySem.Spec PyProof.Rows L2
section
variable {X:Cx} {c:Fc} {tg e:Expr} {fe:DE} {pos pp:Pos}
def Sd(K:W4)(ta:TA):TI:=λσ H R=>ta σ H λvs H1=>(∃ a,vs=[.ref a]/\(∃ xs,cA K H1 a xs)/\R (DO K a) H1)\/(∃ a,vs=[.ref a]/\(∃ xs,bT K H1 a xs)/\R (DP K a) H1)
theorem Se {ctx} (hg:Gl X "enumerate") (hm:X.mg "enumerate" = none) (ha:PA X [a] ta) (hs:Wh [a] X.env=[(false,eval a X.env)]:=by rfl):PI X (.Tuple elts ctx tp) (.Call (.Name "enumerate" pp) [a] [] pos) (Sd X.K ta):=by
 intro pins s σ H R I h;refine Call_ (nV I hg hm boot_enumerate (Js (aF (ha pos pins s σ H _ I h) λus s1 ⟨vs,H1,I1,r1,q1⟩=>?_) hs rfl));rcases q1 with ⟨a,ev,⟨xs,hq⟩,q⟩ | ⟨a,ev,⟨xs,hq⟩,q⟩
 ·subst ev
  cases r1 with
  | cons r rr =>
   cases rr
   cases r;obtain⟨ag,rv,p,hz⟩:=I1.list hq;have hL:s1.heap.IsList a ag.toArray:=p.isList;have aP:a < s1.heap.objs.size:=by obtain⟨o,q,_⟩:=hL; exact Wj q
   refine call_enumerate_list hL λh' he hi hsz kp=>JD he ?_
   refine⟨s1.heap.objs.size + 1,[s1.heap.objs.size + 1,s1.heap.objs.size],_,_,H1,rfl,I1.kept (t':=s1.toks) kp,R_ a _ _ (Nat.succ_ne_self _) (Wo (Qp aP)) (Wo aP),⟨⟨_,he⟩,hi⟩,λb hb=>?_,q⟩;have hb:b=s1.heap.objs.size + 1\/b=s1.heap.objs.size:=by simpa using hb
   have hle:s1.heap.objs.size<=b:=by rcases hb with z | z <;> subst z <;> first | exact Wa _ | exact Up _
   exact I1.iJ hle (I1.ax.fresh hle)
 ·subst ev
  cases r1 with
  | cons r rr =>
   cases rr
   cases r;obtain⟨ag,rv,p,hz⟩:=I1.tuple hq;have hL:s1.heap.IsTuple a ag.toArray:=p;have aP:a < s1.heap.objs.size:=by obtain⟨o,q,_⟩:=hL; exact Wj q
   refine R9 hL λh' he hi hsz kp=>JD he ?_
   refine⟨s1.heap.objs.size + 1,[s1.heap.objs.size + 1,s1.heap.objs.size],_,_,H1,rfl,I1.kept (t':=s1.toks) kp,Sb a _ _ (Nat.succ_ne_self _) (Wo (Qp aP)) (Wo aP),⟨⟨_,he⟩,hi⟩,λb hb=>?_,q⟩;have hb:b=s1.heap.objs.size + 1\/b=s1.heap.objs.size:=by simpa using hb
   have hle:s1.heap.objs.size<=b:=by rcases hb with z | z <;> subst z <;> first | exact Wa _ | exact Up _
   exact I1.iJ hle (I1.ax.fresh hle)
def eG(ds:List D):List D:=ds.mapIdx λi d=>D.tup [.int (i:Nat),d]
theorem ug{ds:List D}{i:Nat}{d:D}(h:(eG ds)[i]? = some d):∃ d',ds[i]? = some d'/\d = .tup [.int i,d']:=by
 unfold eG at h;rw[List.getElem?_mapIdx] at h
 cases e:ds[i]? with
 | none=>rw[e] at h; cases h
 | some d' =>
  rw[e] at h
  cases h;exact⟨d',rfl,rfl⟩
theorem aD.pair(r:Rep H O v d):aD H O [.int i,v] [.int i,d]:=by
 refine⟨rfl,λj v' d' e1 e2=>?_⟩;match j with
 | 0=>simp at e1 e2; subst e1 e2; exact .int _
 | 1=>simp at e1 e2; subst e1 e2; exact r
 | j + 2=>simp at e1
def i3(f:DE):DI:=λδ=>(f δ).bind λr δ1=>match r.d with
 | .lst ds=>.ok (eG ds) δ1
 | .tup ds=>.ok (eG ds) δ1
 | _=>.stuck
theorem Sf {elts:List Expr} {ctx} {tp:Pos} (hg:Gl X "enumerate") (hm:X.mg "enumerate" = none) (he:SE X c e fe) (hs:Wh [e] X.env=[(false,eval e X.env)]:=by rfl):SI X c (.Tuple elts ctx tp) (.Call (.Name "enumerate" pp) [e] [] pos) (i3 fe) :=
 PI.weak (Se hg hm (fw he gz hs) hs) λσ H R ⟨δ,k,q⟩=>by
  unfold i3 at q;rw[aU] at q;refine⟨δ,k,aJ q λr δ1 q1 v H1 a1 r1=>?_⟩;have rr:=r1.rep;generalize r.d=d at q1 rr
  cases d <;> first | exact q1.elim | skip
  ·cases rr with
   | tup h1 h2 h3 h4 =>
    rename_i a vs;refine .inr ⟨_,rfl,⟨_,.of h2⟩,q1 _ H1 a1 ?_⟩;intro H2 kp;have h5:=kp _ _ h2 λz=>h1 (.inr z)
    have r':aD H1 (Av c σ δ1) vs _:=⟨h3,h4⟩
    refine⟨⟨vs,.of h5,by rw[r'.1]; simp[eG]⟩,λi d e=>?_⟩;obtain⟨d',e',rfl⟩:=ug e;obtain⟨v,ev,rv⟩:=r'.get e';refine⟨⟨vs,v,.of h5,ev⟩,λx H3 ⟨p,y,hp,hy,e3,ex⟩=>.inr ⟨p,_,_,hp,e3,ex,rfl,?_⟩⟩;have:=hy vs (.of h5);rw[ev] at this
    cases this;exact aD.pair rv
  ·cases rr with
   | lst h1 h2 h3 h4 =>
    rename_i a vs;refine .inl ⟨_,rfl,⟨_,.inl h2⟩,q1 _ H1 a1 ?_⟩;intro H2 kp;have h5:Rd H2 a (.lst vs):=Rd.keep h2 λo e=>kp a o e λz=>h1 (.inr z)
    have r':aD H1 (Av c σ δ1) vs _:=⟨h3,h4⟩
    refine⟨⟨vs,.inl h5,by rw[r'.1]; simp[eG]⟩,λi d e=>?_⟩;obtain⟨d',e',rfl⟩:=ug e;obtain⟨v,ev,rv⟩:=r'.get e';refine⟨⟨vs,v,.inl h5,ev⟩,λx H3 ⟨p,y,hp,hy,e3,ex⟩=>.inr ⟨p,_,_,hp,e3,ex,rfl,?_⟩⟩;have:=hy vs (.inl h5);rw[ev] at this
    cases this;exact aD.pair rv
end
end DV
namespace HT
open PySem PySem.Spec PyProof.Rows
section
variable {prog:Wk} {w:Wn} {A:Wr} {E:Value->W2->Prop} {s:W2}
theorem Sg(n:Nat):QI none none (-1) (n:Int)=((n:Int) - 1,-1):=by
 unfold QI;simp
theorem Sh(n:Nat):Q9 ((n:Int) - 1) (-1) (-1)=n:=by
 unfold Q9;simp;try lia
theorem Si{sl:Addr}{t:Tok}{n:Nat}{Q:Int×Int×Nat->W2->Prop}(hs:s.heap.IsSliceOf sl .none .none (.int (-1) t))
  (h:Q ((n:Int) - 1,-1,n) s):W5 (model prog w) A (Jw (.ref sl) (pure (n:Int))) Q E s:=by
 obtain⟨os,hos,hcs,je⟩:=id hs;unfold Jw Builtin.Slice.sliceFields;refine W0 (W0 (QD hos je (x:=.none) rfl (W0 (QD hos je (x:=.none) rfl (W0 (QD hos je (x:=.int (-1) t) rfl (W1 ?_)))))));refine W0 (slicePart_int ?_);show W5 _ _ (if ((-1:Int) == 0)=true then _ else _) _ _ s;rw[if_neg Z'];refine W0 (slicePart_none (W0 (slicePart_none (W0 (W1 ?_)))));show W5 _ _ (match QI none none (-1) (n:Int) with | (lo,hi)=>pure (lo,(-1:Int),Q9 lo hi (-1))) _ _ s;rw[Sg n];show W5 _ _ (pure ((n:Int) - 1,(-1:Int),Q9 ((n:Int) - 1) (-1) (-1))) _ _ s;rw[Sh];exact W1 h
theorem DQ:∀ {l:List α},(∀ x ∈ l,f x=g x)->l.filterMap f=l.filterMap g
 | [],_=>rfl
 | x :: l,h=>by
  rw[JR,JR,h x U',DQ λy hy=>h y (by simp[hy])]
theorem Sj(xs:Array Value):((Wd xs.size).filterMap λ(m:Nat)=>xs[(((xs.size:Int) - 1) + (m:Int) * -1).toNat]?).toArray=xs.toList.reverse.toArray:=by
 have e:((Wd xs.size).filterMap λ(m:Nat)=>xs[(((xs.size:Int) - 1) + (m:Int) * -1).toNat]?)=((Wd xs.size).map λk=>xs.size - 1 - k).filterMap (xs[·]?):=by
  rw[List.filterMap_map];refine DQ λm hm=>?_
  have:(((xs.size:Int) - 1) + (m:Int) * -1).toNat=xs.size - 1 - m:=by
   have:=WP.mp hm;lia
  simp only[this,Function.comp]
 rw[e,PySem.W.krv_range,List.filterMap_reverse,PySem.W.krv_all]
theorem Sk(ht:IsTup s.heap t items)(hs:s.heap.IsSliceOf sl .none .none (.int (-1) tk))
  (h:Q (.ref s.heap.objs.size) { s with heap:=s.heap.push { cls:=.type "tuple",data:=.seq items.toList.reverse.toArray } })
  (hsz:items.size<=Wb):W5 (model prog w) A (JZ (.ref t) (.ref sl)) Q E s:=by
 have kn:sizeOk (.seq items.toList.reverse.toArray):=by
  show items.toList.reverse.toArray.size<=Wb;simpa using hsz
 obtain⟨os,hos,hcs,je⟩:=id hs;have pU:s.TypeIs (.ref sl) "slice":=⟨os,hos,hcs⟩
 unfold JZ;try with_reducible refine WN ?_
 first | refine W0 (W1 ?_) | skip
 refine W0 (U7 ht.typeIs Z' ?_);refine W0 (WM (name:=Str.ofString "__getitem__") ht.typeIs Qj
  (WJ Qj ht.typeIs entry_tuple_getitem ?_ (args_tuple_getitem _ _)))
 show W5 _ _ (Jx (.ref t) >>= _) _ _ s;refine W0 (tupleItemsOf_ ht ?_);refine W0 (Jt pU ?_);rw[if_pos Z'];refine W0 (Si hs ?_);have eC:¬ ((((items.size:Int) - 1) == 0 && (-1:Int) == 1 && items.size == items.size)=true):=by
  intro q;rw[Wy,Wy] at q;exact absurd q.1.2 Z'
 show W5 _ _ (if (((items.size:Int) - 1) == 0 && (-1:Int) == 1 && items.size == items.size)=true then _ else _) _ _ s;rw[if_neg eC,Sj];first
  | exact W0 (m:=Qg _) (WC (W1 ⟨_,rfl,W1 h⟩) kn)
  | exact W0 (m:=Qg _) (WC (W0 (W1 (W1 ⟨_,rfl,W1 h⟩))) kn)
  | exact W0 (W0 (m:=Qg _) (WC (W1 (W1 ⟨_,rfl,W1 h⟩)) kn))
  | exact W0 (W0 (m:=Qg _) (WC (W1 ⟨_,rfl,W1 h⟩) kn))
end
end HT
namespace DV
open PySem PySem.Spec PyProof.Rows L2
theorem Sl:lE X (λx H Q=>∃ a xs,x = .ref a/\bT X.K H a xs/\∀ p,H p=none->Q (.ref p) (upd H p (.tup xs.reverse))):=by
 intro pins s σ H x v t sl Q I rx hs h;obtain⟨a,xs,rfl,hx,q⟩:=h
 cases rx;obtain⟨ag,r,ht,hz⟩:=I.tuple hx;have hlen:=r.length;refine⟨"tuple",_,PyProof.Rows.slot_tuple_getitem.lookup,ht.typeIs,?_⟩;refine HT.Sk ht hs ?_ (by rw[Ws]; lia);refine⟨.ref s.heap.objs.size,_,I.laid (t':=s.toks) (o:=.tup xs.reverse) (λb ob q=>W3 _ q) (Wa _) ?_,rfl,q _ (I.ax.fresh (Wa _))⟩;exact⟨by rw[List.length_reverse]; exact hz,_,r.reverse,gP.new _ _⟩
section
variable {X:Cx} {c:Fc} {e:Expr} {fb:BE} {pos p2:Pos}
noncomputable def kH:D->Option S
 | .tup ds=>some (.pure (.tup ds.reverse))
 | d=>qr d
def Sm(K:W4):V->Hp->VK->Prop:=λx H Q=>(∃ a xs,x = .ref a/\bT K H a xs/\∀ p,H p=none->Q (.ref p) (upd H p (.tup xs.reverse)))\/Pk K x H Q
theorem Sn{st:Expr}(he:SB X c e fb)(cU:PE X st (tC (.int (-1)))):SE X c (.Subscript e (.Slice none none (some st) p2) pos) (aR kH fb) :=
 PE.weak (Oq (r:=Sm X.K) (Sl.or (Ov.or Ow)) he cU) λσ H Q h=>qm (λc σ δ H x d s Q k rx hp q=>by
  cases d with
  | tup ds =>
   simp only[kH,Wg] at hp;subst hp;obtain⟨a,vs,ea,ha,ra⟩:=rx.tup;exact .inl ⟨a,vs,ea,.of ha,λp hp=>q _ _ (.alloc k hp _) (aY.mK k ra.reverse hp)⟩
  | str z =>
   simp only[kH,qr] at hp;split at hp
   ·rename_i hz;simp only[Wg] at hp;subst hp;exact .inr (.inl ⟨z,rx.str,hz,q _ H (.refl k) (.str _)⟩)
   ·cases hp
  | lst ds =>
   simp only[kH,qr,Wg] at hp;subst hp;obtain⟨a,vs,ea,ha,ra⟩:=rx.lst;exact .inr (.inr ⟨a,vs,ea,.inl ha,λp hp=>q _ _ (.alloc k hp _) (aY.n8 k ra.reverse hp)⟩)
  | _=>simp[kH,qr] at hp) h
noncomputable def kI:D->Option S
 | .int i=>some (.pure (.int (-i)))
 | _=>none
theorem So(he:SB X c e fb):SE X c (.UnaryOp .USub e pos) (aR kI fb) :=
 PE.weak (AI AO he) λσ H Q h=>qm (λc σ δ H x d s Q k rx hp q=>by
  cases d with
  | int i =>
   simp only[kI,Wg] at hp;subst hp;exact⟨i,rx.int,q _ H (.refl k) (.int _)⟩
  | _=>simp[kI] at hp) h
noncomputable def uh:D->Bool
 | .ay=>true
 | _=>false
noncomputable def dZ(neg:Bool)(d e:D):Option S:=match e with
 | .ay=>some (.pure (.bl (neg != uh d)))
 | _=>none
theorem DU:cH (λx y H Q=>y = .ay/\Q (.bl (decide (x = .ay))) H) (dZ false):=by
 intro c σ δ H x y d e s Q k rx ry hp q
 cases e with
 | ay =>
  simp only[dZ,Wg] at hp;subst hp;have ey:y = .ay:=by
   rcases ry with r | ⟨a,e,o⟩
   ·cases r; rfl
   ·exact o.elim
  have:decide (x=V.ay)=(false != uh d):=by
   rcases rx with r | ⟨a,e,o⟩
   ·cases r <;> simp[uh]
   ·subst e
    cases d <;> first | exact o.elim | simp[uh]
  exact⟨ey,by rw[this]; exact q _ H (.refl k) (.bl _)⟩
 | _=>simp[dZ] at hp
end
def Fc.xM(c:Fc)(i:Nat)(a:Addr):Fc:=⟨c.H₀,λb=>c.B b\/b=a,(i,a) :: c.pin,c.xc⟩
section
variable {c:Fc} {σ σ':St} {δ δ':Dl} {H H':Hp} {i:Nat} {a:Addr} {ds:List D}
theorem Own.unset(h:Own σ (δ.set i none) b):Own σ δ b:=by
 obtain⟨j,d',e1,e2⟩:=h;by_cases hj:i=j
 ·subst hj;rw[Qh] at e1;split at e1
  ·split at e1 <;> cases e1
  ·rename_i q; exact absurd rfl q
 ·rw[W8 hj] at e1;exact⟨j,d',e1,e2⟩
theorem Sq(k:Ok c σ δ H)(e:δ[i]? = some (some (.own (.lst ds))))(ea:σ[i]? = some (some (.ref a)))(b:Addr)(z:Av (c.xM i a) σ (δ.set i none) b):Av c σ δ b:=by
 rcases z with (z | z) | z
 ·exact .inl z
 ·subst z; exact .inr ⟨i,_,e,ea⟩
 ·exact .inr z.unset
theorem Ok.xM(k:Ok c σ δ H)(e:δ[i]? = some (some (.own (.lst ds))))(ea:σ[i]? = some (some (.ref a))):Ok (c.xM i a) σ (δ.set i none) H:=by
 have sub:=Sq k e ea;have ne:∀ j d,(δ.set i none)[j]? = some (some d)->i≠j/\δ[j]? = some (some d):=λj d q=>by
  by_cases hj:i=j
  ·subst hj;rw[Wl (W6.mp e).1] at q; cases q
  ·rw[W8 hj] at q; exact⟨hj,q⟩
 refine⟨λb o h n=>k.keep b o h λ⟨j,z⟩=>n ⟨j,W9 _ z⟩,λb z=>?_,λb ⟨j,z⟩=>?_,by rw[Qc]; exact k.len,λj d q=>?_,λj d q=>?_,λj l b d d' q1 q2=>?_,λp hp=>?_⟩
 ·rcases z with z | z
  ·exact k.bd b z
  ·subst z; exact k.qe ⟨i,_,e,ea⟩
 ·rcases Wq.mp z with z | z
  ·cases z; exact k.qe ⟨i,_,e,ea⟩
  ·exact k.dO b ⟨j,z⟩
 ·obtain⟨_,q⟩:=ne j _ q;obtain⟨v,g1,g2⟩:=k.slot j d q;exact⟨v,g1,g2.aK λb z=>.inl (sub b z)⟩
 ·obtain⟨hj,q⟩:=ne j _ q;obtain⟨b,g1,g2,g3,g4⟩:=k.own j d q;refine⟨b,g1,g2.aK λb z=>.inl (sub b z),g3.imp (λ⟨l,z⟩=>⟨l,W9 _ z⟩) id,λz=>?_⟩;rcases z with z | z
  ·exact g4 z
  ·subst z; exact hj (k.inj i j b _ _ e q ea g1)
 ·exact k.inj j l b d d' (ne j _ q1).2 (ne l _ q2).2
 ·rcases Wq.mp hp with z | z
  ·subst z; exact ea
  ·exact k.pinned p z
end
def qay(i:Nat)(g:DG)(b:DS):DS:=λδ=>match δ[i]? with
 | some (some (.own (.lst ds)))=>(forL g b ds (δ.set i none)).bind λfl δ'=>match fl with
  | .ret (.own _)=>.stuck
  | fl=>.ok fl (δ'.set i (some (.own (.lst ds))))
 | _=>.stuck
section
variable {X:Cx} {c:Fc} {tg iter:Expr} {body:List Stmt} {g:DG} {b:DS} {i:Nat} {pos:Pos}
def gZ(np:List Nat)(i:Nat):DS:=λδ=>match δ[i]? with
 | some (some (.own d))=>if np.contains i || !np.all (bC δ) then .ok (.ret (.pure d)) (δ.set i (some (.pure d))) else .ok (.ret (.own d)) (δ.set i none)
 | some (some (.pure d))=>.ok (.ret (.pure d)) δ
 | _=>.stuck
theorem Sr{np:List Nat}{e:Expr}(cD:Np c np)(he:PE X e (cM i)):SS X c (.Return (some e) pos) (gZ np i):=PS.weak (As he) λD σ H ⟨δ,k,q⟩=>by
 unfold gZ dR at q;split at q
 ·rename_i d e;obtain⟨a,ea,oa,ia,nb⟩:=k.own i d e;refine⟨.ref a,ea,?_⟩;split at q
  ·obtain⟨a',bV,x,r⟩:=k.give e;rw[ea] at bV; cases bV
   exact q σ H x _ r
  ·rename_i hc;simp only[Bool.or_eq_true,not_or,Bool.not_eq_true,Bool.not_eq_false',List.all_eq_true] at hc;obtain⟨hc1,hc2⟩:=hc;have nI:¬ c.I a:=λ⟨j,z⟩=>by
    have z1:=cD (j,a) z;have z2:=k.pinned (j,a) z;have z3:=hc2 j (by simpa using z1);unfold bC at z3;split at z3
    ·rename_i d' ej;have:=k.inj i j a _ _ e ej ea z2;grind
    ·cases z3
   have h0:c.H₀ a=none:=ia.resolve_left nI;have hi:i < δ.length:=(W6.mp e).1;have ne:∀ j d,(δ.set i none)[j]? = some (some d)->i≠j/\δ[j]? = some (some d):=λj d q=>by
    by_cases hj:i=j
    ·subst hj;rw[Wl hi] at q; cases q
    ·rw[W8 hj] at q; exact⟨hj,q⟩
   have sub:∀ b,Av (c.plus a) σ (δ.set i none) b->Av c σ δ b:=λb z=>by
    rcases z with (z | z) | z
    ·exact .inl z
    ·subst z; exact .inr ⟨i,_,e,ea⟩
    ·exact .inr z.unset
   have kp:Ok (c.plus a) σ (δ.set i none) H:=by
    refine⟨k.keep,λb z=>?_,k.dO,by rw[Qc]; exact k.len,λj d q=>?_,λj d q=>?_,λj l b d d' q1 q2=>k.inj j l b d d' (ne j _ q1).2 (ne l _ q2).2,k.pinned⟩
    ·rcases z with z | z
     ·exact k.bd b z
     ·subst z; exact k.qe ⟨i,_,e,ea⟩
    ·obtain⟨_,q⟩:=ne j _ q;obtain⟨v,g1,g2⟩:=k.slot j d q;exact⟨v,g1,g2.aK λb z=>.inl (sub b z)⟩
    ·obtain⟨hj,q⟩:=ne j _ q;obtain⟨b,g1,g2,g3,g4⟩:=k.own j d q;refine⟨b,g1,g2.aK λb z=>.inl (sub b z),g3,λz=>?_⟩;rcases z with z | z
     ·exact g4 z
     ·subst z; exact hj (k.inj i j b _ _ e q ea g1)
   have x:aM c σ δ H σ (δ.set i none) H:=by
    refine⟨⟨k.keep,k.bd,k.dO,by rw[Qc]; exact k.len,λj d q=>?_,λj d q=>?_,λj l b d d' q1 q2=>k.inj j l b d d' (ne j _ q1).2 (ne l _ q2).2,k.pinned⟩,λ_ _ w _=>w,λb z=>.inl z.unset,λ_ o w=>⟨o,w⟩⟩
    ·obtain⟨_,q⟩:=ne j _ q;obtain⟨v,g1,g2⟩:=k.slot j d q;exact⟨v,g1,g2.aK λb z=>.inl (z.elim .inl λz=>.inr z.unset)⟩
    ·obtain⟨hj,q⟩:=ne j _ q;obtain⟨b,g1,g2,g3,g4⟩:=k.own j d q;exact⟨b,g1,g2.aK λb z=>.inl (z.elim .inl λz=>.inr z.unset),g3,g4⟩
   exact q σ H x _ ⟨a,rfl,oa.aK λb z=>.inl (sub b z),nb,h0,kp,h0⟩
 ·rename_i d e;obtain⟨v,e1,r⟩:=k.slot i d e;exact⟨v,e1,q σ H (.refl k) v r⟩
 ·exact q.elim
end
theorem xN(hu:X.A.units + 64 < WZ):ic X (λx y H Q=>xI x y H Q\/sM X.K x y H Q):=(R4 hu).or sN
end DV
namespace DV
open PySem PySem.Spec PyProof.Rows L2
open Classical in
noncomputable def itAt (δ₀:Dl) (ds:List D):DI:=λδ=>if δ=δ₀ then .ok ds δ else .stuck
section
variable {X:Cx} {c:Fc} {e:Expr} {fe:DE} {pos:Pos}
theorem Ok.DW(k:Ok c σ δ H)(e:δ[i]? = some (some (.own (.au ds))))(ea:σ[i]? = some (some (.ref a)))(r:DR H (Av c σ δ) ij b8) :
  aM c σ δ H σ (δ.set i (some (.own (.au b8)))) (upd H a (.dK ij)):=by
 have hi:i < δ.length:=(W6.mp e).1;obtain⟨a',bV,oa,ia,nb⟩:=k.own i _ e;rw[ea] at bV; cases bV
 obtain⟨vs,ha,_⟩:=oa;have qv:Own σ δ a:=⟨i,_,e,ea⟩
 have qw:Av c σ δ a:=.inr qv;have lK:∀ b,Own σ (δ.set i (some (.own (.au b8)))) b ↔ Own σ δ b:=λb=>by
  constructor
  ·rintro ⟨j,d,e1,e2⟩;by_cases hj:i=j
   ·subst hj;exact⟨i,_,e,e2⟩
   ·rw[W8 hj] at e1;exact⟨j,d,e1,e2⟩
  ·rintro ⟨j,d,e1,e2⟩;by_cases hj:i=j
   ·subst hj;exact⟨i,_,by rw[Wl hi],e2⟩
   ·exact⟨j,d,by rw[W8 hj]; exact e1,e2⟩
 have jj:∀ b,Av c σ (δ.set i (some (.own (.au b8)))) b->Av c σ δ b:=λb z=>z.elim .inl λz=>.inr ((lK b).mp z)
 have ne:∀ b,¬ Av c σ δ b->b≠a:=λb n z=>n (by rw[z]; exact qw)
 have kp:∀ b o,H b=some o->¬ Av c σ δ b->upd H a (.dK ij) b=some o:=λb o h n=>by rw[aH (ne b n)]; exact h
 have fU:∀ b o,H b=some o->∃ o',upd H a (.dK ij) b=some o':=λb o h=>by
  by_cases hb:b=a
  ·exact⟨_,by rw[hb]; exact cf⟩
  ·exact⟨o,by rw[aH hb]; exact h⟩
 refine⟨⟨λb o h n=>?_,λb z=>?_,λb z=>?_,by rw[Qc]; exact k.len,λj d h=>?_,λj d h=>?_,λj l b d d' h1 h2 h3 h4=>?_,k.pinned⟩,λb o h n=>?_,λb z=>.inl ((lK b).mp z),fU⟩
 ·have hb:b≠a:=λz=>by grind
  rw[aH hb];exact k.keep b o h n
 ·obtain⟨o,h⟩:=k.bd b z;exact fU b o h
 ·obtain⟨o,h⟩:=k.dO b z;exact fU b o h
 ·have hj:i≠j:=λz=>by subst z; rw[Wl hi] at h; cases h
  rw[W8 hj] at h;obtain⟨v,h1,h2⟩:=k.slot j d h;exact⟨v,h1,(h2.keep kp).aK λb z=>.inl (jj b z)⟩
 ·by_cases hj:i=j
  ·subst hj;rw[Wl hi] at h
   cases h;exact⟨a,ea,(let r':=r.map λv d h=>(Rep.keep h kp).aK λb z=>.inl (jj b z); ⟨ij,cf,r'.keys,r'.vals⟩),ia,nb⟩
  ·rw[W8 hj] at h;obtain⟨b,h1,h2,h3,h4⟩:=k.own j d h;have hb:b≠a:=λz=>by subst z; exact hj (k.inj i j b _ d e h ea h1)
   exact⟨b,h1,(h2.keep kp λo q=>by rw[aH hb]; exact q).aK λb z=>.inl (jj b z),h3,h4⟩
 ·have f1:∃ d,δ[j]? = some (some (.own d)):=by
   by_cases hj:i=j
   ·subst hj; exact⟨_,e⟩
   ·rw[W8 hj] at h1; exact⟨d,h1⟩
  have f2:∃ d,δ[l]? = some (some (.own d)):=by
   by_cases hj:i=l
   ·subst hj; exact⟨_,e⟩
   ·rw[W8 hj] at h2; exact⟨d',h2⟩
  obtain⟨_,f1⟩:=f1;obtain⟨_,f2⟩:=f2;exact k.inj j l b _ _ f1 f2 h3 h4
 grind[aH]
def i4(δ:Dl)(i:Nat):Bool:=match δ[i]? with
 | some (some (.own (.au _)))=>true
 | _=>false
def eO(i:Nat)(fi fe:DE):DS:=λδ=>if i4 δ i then(fe δ).bind λr δ1=>if i4 δ1 i then(fi δ1).bind λk δ2=>match δ2[i]? with
  | some (some (.own (.au ds)))=>match bD k.d with
   | some kk=>if ds.length < Wb then .ok .next (δ2.set i (some (.own (.au (putD ds kk r.d))))) else .stuck
   | none=>.stuck
  | _=>.stuck else .stuck else .stuck
theorem DY(h:i4 δ i=true):∃ ds,δ[i]? = some (some (.own (.au ds))):=by
 unfold i4 at h;split at h
 ·rename_i ds e; exact⟨ds,e⟩
 ·cases h
theorem DZ{i:Nat}{o ix:Expr}{fi:DE}{sp:Pos}(hu:X.A.units + 64 < WZ)(ho:PE X o (cM i))(hi:SE X c ix fi)(he:SE X c e fe)
  (hs:QZ e (some (.Subscript o ix sp)) pos.line X.env=pure false:=by rfl):SS X c (.Assign [.Subscript o ix sp] e pos) (eO i fi fe) :=
 PS.weak (Nu Y' ho hi he hs) λD σ H ⟨δ,k,q⟩=>by
  unfold eO dR at q;split at q
  case isFalse=>exact q.elim
  rename_i iX;rw[aU] at q;refine⟨δ,k,aJ q λr δ1 q1 v H1 a1 r1=>?_⟩;split at q1
  case isFalse=>exact q1.elim
  rename_i hown1;obtain⟨ds1,e1⟩:=DY hown1;obtain⟨a,ea,_,_⟩:=a1.ok.own i _ e1;refine⟨.ref a,ea,δ1,a1.ok,?_⟩;rw[aU] at q1;refine aJ q1 λkx δ2 q2 u H2 a2 r2=>?_
  split at q2
  ·rename_i ds e2;split at q2
   ·rename_i kk hk;split at q2
    ·rename_i hz;obtain⟨a',bV,oa,_⟩:=a2.ok.own i _ e2;rw[ea] at bV; cases bV
     obtain⟨ws,ha,hk1,hk2⟩:=id oa;have dr:DR H2 (Av c σ δ2) ws ds:=DR.of hk1 hk2;have xO:=mZ hk r2.b;subst xO;have hlen:ws.length=ds.length:=by have:=congrArg QP hk1; simpa using this
     have rv:Rep H2 (Av c σ δ2) v r.d:=Rep.dq r1.rep a2;refine⟨a,_,rfl,pY.k ha (by rw[hlen]; exact hz),?_⟩;exact q2 σ _ (a1.trans (a2.trans (Ok.DW a2.ok e2 ea (dr.put rv))))
    ·exact q2.elim
   ·exact q2.elim
  ·exact q2.elim
end
section
variable {X:Cx} {c:Fc} {o e f:Expr} {fe ff:DE} {i:Nat} {apos aO:Pos}
def kJ(δ:Dl)(i:Nat):Bool:=match δ[i]? with
 | some (some s)=>match s.d with
  | .au _=>true
  | _=>false
 | _=>false
theorem D3(k:Ok c σ δ H)(h:kJ δ i=true):∃ a ws ds s,δ[i]? = some (some s)/\s.d = .au ds/\σ[i]? = some (some (.ref a))/\H a=some (.dK ws)/\DR H (Av c σ δ) ws ds:=by
 unfold kJ at h;split at h
 ·rename_i s e;split at h
  ·rename_i ds hs;obtain⟨v,ev⟩:=qh k e;have rb:=om k e ev;rw[hs] at rb;obtain⟨a,ws,rfl,ha,dr⟩:=qD rb;exact⟨a,ws,ds,s,e,hs,ev,ha,dr⟩
  ·cases h
 ·cases h
def kK(i:Nat)(fe:DE):DE:=λδ=>if kJ δ i then(fe δ).bind λk δ1=>match δ1[i]? with
  | some (some s)=>match s.d,bD k.d with
   | .au ds,some kk=>.ok (.pure ((a0 ds kk).getD .ay)) δ1
   | _,_=>.stuck
  | _=>.stuck else .stuck
def iz(i:Nat)(fe ff:DE):DE:=λδ=>if kJ δ i then(fe δ).bind λk δ1=>(ff δ1).bind λz δ2=>match δ2[i]? with
  | some (some s)=>match s.d,bD k.d with
   | .au ds,some kk=>.ok (.pure ((a0 ds kk).getD z.d)) δ2
   | _,_=>.stuck
  | _=>.stuck else .stuck
theorem Ss (hu:X.A.units + 64 < WZ) (ho:PE X o (cM i)) (he:SE X c e fe) (hb:Qr o "get" X.env (eval o X.env)=eval o X.env:=by rfl)
  (hf:((Qi aO (Wh [e] X.env)).all (λx=>!x.1) && (Uf aO (Jo [] X.env)).all (λx=>x.1.isSome)
   && decide (([e]:List Expr).length + ([]:List Keyword).length + (if ([]:List Keyword).isEmpty then 0 else 1) < 30))=true:=by rfl) (hl:(apos.endLine == aO.line)=true:=by rfl)
  (ht:Qi aO (Wh [e] X.env)=[(false,eval e X.env)]:=by rfl):SE X c (.Call (.Attribute o "get" apos) [e] [] aO) (kK i fe) :=
 PE.weak (NH Y' ho he ⟨hb,hf,hl,ht⟩) λσ H Q ⟨δ,k,q⟩=>by
  unfold kK at q;split at q
  case isFalse=>exact q.elim
  rename_i hd;obtain⟨a,ws,ds,s,e1,e2,e3,e4,_⟩:=D3 k hd;rw[aU] at q;refine⟨.ref a,e3,a,rfl,.inl ⟨ws,.inl e4⟩,δ,k,aJ q λkx δ1 q1 v H1 a1 r1=>?_⟩;split at q1
  ·rename_i s1 es1;split at q1
   ·rename_i ds1 kk hs1 hk;have rb:=om a1.ok es1 e3;rw[hs1] at rb;obtain⟨a',ws1,ea,ha1,dr1⟩:=qD rb
    cases ea;have hv:=mZ hk r1.b;subst hv;refine⟨_,.inl ⟨ws1,_,.inl ha1,rfl,rfl⟩,?_⟩;rcases dr1.val kk with ⟨z1,z2⟩ | ⟨v,d,z1,z2,z3⟩
    ·rw[z1] at q1; rw[z2]
     exact q1 _ H1 a1 .ay
    ·rw[z1] at q1; rw[z2]
     exact q1 _ H1 a1 z3
   ·exact q1.elim
  ·exact q1.elim
theorem Su (hu:X.A.units + 64 < WZ) (ho:PE X o (cM i)) (he:SE X c e fe) (hx:SE X c f ff) (hb:Qr o "get" X.env (eval o X.env)=eval o X.env:=by rfl)
  (hf:((Qi aO (Wh [e,f] X.env)).all (λx=>!x.1) && (Uf aO (Jo [] X.env)).all (λx=>x.1.isSome)
   && decide (([e,f]:List Expr).length + ([]:List Keyword).length + (if ([]:List Keyword).isEmpty then 0 else 1) < 30))=true:=by rfl) (hl:(apos.endLine == aO.line)=true:=by rfl)
  (ht:Qi aO (Wh [e,f] X.env)=[(false,eval e X.env),(false,eval f X.env)]:=by rfl):SE X c (.Call (.Attribute o "get" apos) [e,f] [] aO) (iz i fe ff) :=
 PE.weak (NI Y' ho he hx ⟨hb,hf,hl,ht⟩) λσ H Q ⟨δ,k,q⟩=>by
  unfold iz at q;split at q
  case isFalse=>exact q.elim
  rename_i hd;obtain⟨a,ws,ds,s,e1,e2,e3,e4,_⟩:=D3 k hd;rw[aU] at q;refine⟨.ref a,e3,a,rfl,.inl ⟨ws,.inl e4⟩,δ,k,aJ q λkx δ1 q1 v H1 a1 r1=>⟨δ1,a1.ok,?_⟩⟩;rw[aU] at q1;refine aJ q1 λzx δ2 q2 u H2 a2 r2=>?_
  split at q2
  ·rename_i s1 es1;split at q2
   ·rename_i ds1 kk hs1 hk;have rb:=om a2.ok es1 e3;rw[hs1] at rb;obtain⟨a',ws1,ea,ha1,dr1⟩:=qD rb
    cases ea;have hv:=mZ hk (show bU c σ δ2 H2 v kx.d from .inl (Rep.dq r1.rep a2));subst hv;refine⟨_,.inl ⟨ws1,_,.inl ha1,rfl,rfl⟩,?_⟩;rcases dr1.val kk with ⟨z1,z2⟩ | ⟨v,d,z1,z2,z3⟩
    ·rw[z1] at q2; rw[z2]
     exact q2 _ H2 (a1.trans a2) r2.rep
    ·rw[z1] at q2; rw[z2]
     exact q2 _ H2 (a1.trans a2) z3
   ·exact q2.elim
  ·exact q2.elim
end
def lQ:Int:=2 ^ 1000
def D4(_ j:Int):Prop:=0 < j/\j < lQ
theorem Sv(h0:0 < j)(h1:j < lQ):j.natAbs.log2 < 9000:=by
 have e:j.natAbs < 2 ^ 1000:=by
  unfold lQ at h1;have:((2 ^ 1000:Nat):Int)=(2:Int) ^ 1000:=by exact_mod_cast rfl
  lia
 have:=(Nat.log2_lt (by lia:j.natAbs≠0)).mpr e;lia
section
variable {X:Cx}
theorem Sw:bp X (QH .FloorDiv) (rI D4 λi j=>.int (i / j)):=pQ λi j _ _ _ _ _ hc q=>by
 have h1:(0:Int) < j:=hc.1;exact floordiv_int Y' (by rw[Int.fdiv_eq_ediv_of_nonneg i Y']; exact q) (.inl (PyProof.noPylong_of_log2 (Sv h1 hc.2)))
end
def qI(_ j:Int):Bool:=decide (0 < j) && decide (j < lQ)
def lR:=eV qI λi j=>.int (i / j)
theorem Sx:cH (rI D4 λi j=>V.int (i / j)) lR:=qj (λi j h=>by
 unfold qI at h;simp only[Wy,decide_eq_true_eq] at h;exact h) λ_ _ _ _=>.int _
theorem Sy(i j:Int)(h0:0 < j)(h1:j < lQ):lR (.int i) (.int j)=some (.pure (.int (i / j))):=by
 show(if qI i j then some (S.pure (.int (i / j))) else none)=_;have:qI i j=true:=by unfold qI; simp only[h0,h1,decide_true,Bool.and_self]
 rw[this]; rfl
end DV
namespace DV
open PySem PySem.Spec PyProof.Rows L2
open PySem PySem.Builtin PySem.Builtin.Str PySem.StrLaws
def m5(c:Nat)(z:List Nat)(a n:Nat):List Nat:=(List.range' a n).filter λi=>decide (z[i]? = some c)
theorem Sz(z:List Nat)(c i:Nat):subAt ⟨z.toArray⟩ ⟨#[c]⟩ i=decide (z[i]? = some c):=by
 unfold subAt;have e:(⟨#[c]⟩:Str).length=1:=rfl;rw[e];show(z.toArray.extract i (i + 1) == #[c])=_;rw[List.extract_toArray,List.extract_eq_take_drop,Nat.add_sub_cancel_left];have hb:((List.take 1 (List.drop i z)).toArray == #[c])=((List.take 1 (List.drop i z)) == [c]):=by simp
 rw[hb]
 cases h:z[i]? with
 | none =>
  rw[List.getElem?_eq_none_iff] at h;rw[List.drop_of_length_le h];simp
 | some a =>
  have hi:i < z.length:=(W6.mp h).1;have ha:z[i]=a:=(W6.mp h).2;rw[QJ hi,ha];by_cases hac:a=c <;> simp[hac]
theorem xP(c:Nat)(z:List Nat):∀ (n k:Nat) (st:Array Nat×Nat),st.2<=k->st.1.size<=k->k + n=z.length + 1 ->
  (forIn (List.range' k n) st (occBody ⟨z.toArray⟩ ⟨#[c]⟩ z.length (z.length + 1))).run.fst.toList=st.1.toList ++ m5 c z k n
 | 0,k,st,_,_,_=>by simp[m5]
 | n + 1,k,st,h1,h2,h3=>by
  rw[UI,List.forIn_cons];unfold occBody;have e1:(⟨#[c]⟩:Str).length=1:=rfl;rw[Sz,e1];by_cases hc:z[k]? = some c
  ·have hk:k < z.length:=(W6.mp hc).1;rw[if_pos ⟨⟨⟨Y',h1⟩,Y'⟩,by simpa using hc⟩];have ih:=xP c z n (k + 1) (st.1.push k,k + 1) (Wa _) R' Y';show(forIn (List.range' (k + 1) n) (st.1.push k,k + 1) (occBody ⟨z.toArray⟩ ⟨#[c]⟩ z.length (z.length + 1))).run.fst.toList=_;rw[ih];simp[m5,UI,hc]
  ·rw[if_neg (λh=>hc (by simpa using h.2))];have ih:=xP c z n (k + 1) (st.1,st.2) (by show st.2<=k + 1; lia) (by show st.1.size<=k + 1; lia) Y';show(forIn (List.range' (k + 1) n) (st.1,st.2) (occBody ⟨z.toArray⟩ ⟨#[c]⟩ z.length (z.length + 1))).run.fst.toList=_;rw[ih];simp[m5,UI,hc]
theorem SD(c:Nat)(z:List Nat):occurrences ⟨z.toArray⟩ ⟨#[c]⟩ 0 z.length (z.length + 1)=m5 c z 0 z.length:=by
 rw[occ_eq,xP c z (z.length + 1 - 0) 0 (#[],0) (Wa _) (Wa _) Y'];have:z.length + 1 - 0=z.length + 1:=rfl;rw[this];unfold m5;rw[List.range'_concat];simp
end DV
set_option maxHeartbeats 1000000
set_option maxHeartbeats 400000
namespace L2
open PySem PySem.Spec PyProof.Rows
def Cx.loop(X:Cx):Cx:={ X with xe:=notedBy (model X.prog X.w) X.A X.env (cameBackBy (model X.prog X.w) X.A X.env X.xe) }
end L2
namespace DV
open PySem PySem.Spec PyProof.Rows L2
abbrev DX:=List S->Option ((S×List S) ⊕ (Xc×List S))
end DV
namespace L2
open PySem PySem.Spec PyProof.Rows
section
variable {X:Cx} {pins:List (Addr×Obj)} {σ:St} {H:Hp} {s:W2} {h':Heap}
theorem Inv.D5(fp:List Addr)(I:Inv X pins σ H s)(hf:∀ b ∈ fp,f7 X pins H b)(aP:∀ b ∈ fp,b < s.heap.objs.size)(ru:RelV x u)(rv:RelV y v)
  (hT:h'.get? s.heap.objs.size=some { cls:=.type "tuple",data:=.seq #[u,v] }) (k:∀ b o,b ∉ fp->s.heap.get? b=some o->h'.get? b=some o) :
  Inv X pins σ (upd H s.heap.objs.size (.tup [x,y])) { s with heap:=h',toks:=t' }:=by
 have I1:Inv X pins σ (upd H s.heap.objs.size (.tup [x,y])) { s with heap:=s.heap.push { cls:=.type "tuple",data:=.seq #[u,v] },toks:=t' } :=
  I.laid (t':=t') (λb o e=>W3 _ e) (Wa _) (show bF X.prog X.w _ _ _ (.tup [x,y]) from
   ⟨by simp only[WA,U1]; rw[Jn]; decide,[u,v],.cons ru (.cons rv .nil),gP.new _ _⟩)
 have:=Inv.uf (t':=t') (h':=h') fp I1 (λb o hb eb=>?_) λb hb=>?_
 ·exact this
 ·rcases Heap.get?_push_cases eb with ⟨z,z'⟩ | eb
  ·subst z z'; exact hT
  ·exact k b o hb eb
 ·obtain⟨f0,r⟩:=hf b hb;exact⟨by rw[aH (Wo (aP b hb))]; exact f0,r⟩
end
end L2
namespace DV
open PySem PySem.Spec PyProof.Rows L2
section
variable {X:Cx} {c:Fc} {tg e:Expr} {fe:DE} {pos pp:Pos}
theorem aD.two(r:Rep H O u x)(r':Rep H O v y):aD H O [u,v] [x,y]:=by
 refine⟨rfl,λj v' d' e1 e2=>?_⟩;match j with
 | 0=>simp at e1 e2; subst e1 e2; exact r
 | 1=>simp at e1 e2; subst e1 e2; exact r'
 | j + 2=>simp at e1
end
end DV
namespace PySem.SeqAt
open AutoSeq1 (wpAny_loadPart')
open MeetsSeq
abbrev prO (dd:Option Addr) (a1 a2:Int) (t1 t2:Tok) (n:Nat) (sl:Array (Option Value)):Obj:={ cls:=.type "tuple",dict:=dd,data:=.seq #[.int a1 t1,.int a2 t2] n,slots:=sl }
def ltP(a1 a2 b1 b2:Int):Bool:=if a1 == b1 then decide (a2 < b2) else decide (a1 < b1)
theorem z6E(l b:Addr)(a1 a2 b1 b2:Int)(t1 t2 u1 u2:Tok)(n n2:Nat)(dd km:Option Addr)(sl jM:Array (Option Value)) :
  Meets (Builtin.«tuple.__lt__» ⟨[.ref l,.ref b],[]⟩)
   (λ_ R s=>s.heap.get? l=some (prO dd a1 a2 t1 t2 n sl)/\s.heap.get? b=some (prO km b1 b2 u1 u2 n2 jM)/\R (.ok (.ret (.bool (ltP a1 a2 b1 b2)))) s) :=
 .of_wp λprog w A R s h=>by
  obtain⟨hp,g,d,tk,os⟩:=s; obtain⟨hl,hb,h⟩:=h
  have f2:=AutoSeq1.sub_tuple_tuple;wp_walk using Qv hl,Qv hb,wpAny_forIn_list _ (λrest c s'=>c.1=none/\s' = ⟨hp,g,d,tk,os⟩ /\
   (rest=[(.int a1 t1,.int b1 u1),(.int a2 t2,.int b2 u2)]\/(rest=[(.int a2 t2,.int b2 u2)]/\a1=b1)\/(rest=[]/\a1=b1/\a2=b2))) _
  case turn =>
   rintro ⟨y,x⟩ rest c s' ⟨hc,rfl,hz⟩;rcases hz with hz | ⟨hz,e1⟩ | ⟨hz,_⟩
   ·injection hz with hyx hrest
    cases hyx;refine W0 (EqAt.int_int a1 t1 b1 u1 prog w _ _ ?_);by_cases e:a1=b1
    ·rw[show(a1 == b1)=true by simp[e]];wp_walk
     exact⟨rfl,rfl,.inr (.inl ⟨hrest,e⟩)⟩
    ·rw[show(a1 == b1)=false by simp[e]];have aP:ltP a1 a2 b1 b2=decide (a1 < b1):=by simp[ltP,e]
     rw[aP] at h;simp only[Bool.not_false,if_true];refine W0 (Jb ?_);refine W0 (richCompare_gives (op:=.Lt) (Uv _ _ t1) (Uv _ _ u1) F.slot_int_lt F.entry_int_lt (F.args_int_lt_2 _ _) (gives_int_lt _ _ t1 u1) (λx=>nomatch x) ?_);refine W0 (W1 ?_);exact W1 (W1 ⟨_,rfl,h⟩)
   ·injection hz with hyx hrest
    cases hyx;refine W0 (EqAt.int_int a2 t2 b2 u2 prog w _ _ ?_);by_cases e:a2=b2
    ·rw[show(a2 == b2)=true by simp[e]];wp_walk
     exact⟨rfl,rfl,.inr (.inr ⟨hrest,e1,e⟩)⟩
    ·rw[show(a2 == b2)=false by simp[e]];have aP:ltP a1 a2 b1 b2=decide (a2 < b2):=by simp[ltP,e1]
     rw[aP] at h;simp only[Bool.not_false,if_true];refine W0 (Jb ?_);refine W0 (richCompare_gives (op:=.Lt) (Uv _ _ t2) (Uv _ _ u2) F.slot_int_lt F.entry_int_lt (F.args_int_lt_2 _ _) (gives_int_lt _ _ t2 u2) (λx=>nomatch x) ?_);refine W0 (W1 ?_);exact W1 (W1 ⟨_,rfl,h⟩)
   ·cases hz
  case fin =>
   rintro ⟨c1,c2⟩ s' ⟨hc,rfl,hz⟩;simp only at hc;subst hc;rcases hz with hz | ⟨hz,e1⟩ | ⟨_,e1,e2⟩
   ·cases hz
   ·cases hz
   ·have aP:ltP a1 a2 b1 b2=false:=by simp[ltP,e1,e2]
    rw[aP] at h;wp_walk
    exact⟨_,rfl,h⟩
  case h=>exact⟨rfl,rfl,.inl rfl⟩
end PySem.SeqAt
namespace PySem
open SeqAt (prO ltP z6E)
section
variable {prog:Wk} {w:Wn} {A:Wr} {R:Result->W2->Prop} {I:Addr} {fp wr:List Addr} {n:Nat} {P:Nat->Value->Prop} {St:Nat->Heap->Prop}
theorem SF(W:Walks prog w A.in1 I fp wr n P St)(bt:Nat->Nat->Bool)(S:Addr)(lT:S ∉ fp)(T:Heap->Prop)(hT:∀ h h':Heap,(∀ b o,b ∉ wr->b≠S->h.get? b=some o->h'.get? b=some o)->T h->T h')
  (ask:∀ i j vi vj (s:W2) (Q:Value->W2->Prop) (E:Value->W2->Prop),T s.heap->P i vi->P j vj->Q (.bool (bt i j)) s->W5 (model prog w) A.in1 (richCompare .Lt vi vj) Q E s) :
  ∀ (m j:Nat) (s:W2) (vb:Value) (c:Nat),j + 1 + m=n->T s.heap->St (j + 1) s.heap->P (J0 bt j) vb->s.heap.get? S=some { cls:=.type "list",dict:=none,data:=.seq #[vb,vb] c,slots:=#[] } ->
   (∀ v h' tk,P (J0 bt (n - 1)) v->(∀ b o,b ∉ wr->b≠S->s.heap.get? b=some o->h'.get? b=some o)->R (.ok (.ret v)) { s with heap:=h',toks:=tk }) ->
   QK (model prog w) A (.builtin "min.loop" ⟨[.ref I,.none,.ref S],[]⟩) R s:=by
 have D6:S ∉ wr:=λh=>lT (W.sub _ h)
 have qJ:(toString "min" ++ toString ".loop" : String) = "min.loop":=by decide
 intro m;induction m with
 | zero =>
  intro j s vb c hj ht cU hb hS hR;have hn:j + 1=n:=by lia
  refine Qd F.entry_min_loop ?_;rw[Around.under_plainId Jl _];show W5 _ A.in1 (seqItems? (.ref S) >>= _) _ _ s;refine W0 (Jj hS rfl ?_);show W5 _ A.in1 (tryCatch (Ql (.ref I)) _ >>= _) _ _ s;refine W0 (Uw (W.done s _ _ (hn ▸ cU) λh1 tk k1=>?_));show W5 _ A.in1 (updateSeq S (λ_=>#[]) >>= _) _ _ _;refine W0 (Jc (k1 S _ D6 hS) rfl (W0 (wpAny_letGo (W1 ?_))));exact hR vb _ tk (by rw[<- hn]; exact hb) λb o x y e=>(WF _ _ (Ne.symm y)).trans (k1 b o x e)
 | succ m ih =>
  intro j s vb c hj ht cU hb hS hR;refine Qd F.entry_min_loop ?_;rw[Around.under_plainId Jl _];show W5 _ A.in1 (seqItems? (.ref S) >>= _) _ _ s;refine W0 (Jj hS rfl ?_);show W5 _ A.in1 (tryCatch (Ql (.ref I)) _ >>= _) _ _ s;refine W0 (Uw (W.item (j + 1) s _ _ Y' cU λv h1 tk hv ui k1=>?_));have S1:=k1 S _ D6 hS;have t1:T h1:=hT _ _ (λb o x _ e=>k1 b o x e) ht;show W5 _ A.in1 (tryCatch (holding [v,v] (richCompare .Lt v vb >>= _)) _ >>= _) _ _ _;refine W0 (Uw (WN (W0 (ask (j + 1) (J0 bt j) v vb _ _ _ t1 hv hb ?_))));refine W0 (WN (QR ?_));refine W0 (wpAny_letGo (W1 ?_));by_cases hc:bt (j + 1) (J0 bt j)=true
  ·have xQ:J0 bt (j + 1)=j + 1:=by simp only[J0,hc,if_true]
   simp only[hc,if_true];refine W0 (Jc S1 rfl (W0 (wpAny_letGo ?_)));rw[qJ];refine W1 ⟨Qs Jl _,ih (j + 1) _ v _ Y' (hT h1 _ (λb o _ y e=>(WF _ _ (Ne.symm y)).trans e) t1)
    (W.frame _ _ _ ui λb x o e=>(WF _ _ (λh:S=b=>lT (by rw[h]; exact x))).trans e) (by rw[xQ]; exact hv) (WG _ S1 rfl) λv' h2 qK p2 k2=>?_⟩
   exact hR v' h2 qK p2 λb o x y e=>k2 b o x y ((WF _ _ (Ne.symm y)).trans (k1 b o x e))
  ·have xQ:J0 bt (j + 1)=J0 bt j:=by simp only[J0,hc,J4,if_false]
   simp only[hc,J4,if_false];refine W0 (wpAny_letGo ?_);rw[qJ];refine W1 ⟨Qs Jl _,ih (j + 1) _ vb c Y' t1 ui (by rw[xQ]; exact hb) S1 λv' h2 qK p2 k2=>?_⟩;exact hR v' h2 qK p2 λb o x y e=>k2 b o x y (k1 b o x e)
end
theorem jn(a1 a2 b1 b2:Int):ltP a1 a2 b1 b2=true ↔ a1 < b1\/(a1=b1/\a2 < b2):=by
 unfold ltP;by_cases e:a1=b1
 ·simp[e]
 ·simp[e]
theorem D7(f:Nat->Int×Int):∀ k,J0 (λi j=>ltP (f i).1 (f i).2 (f j).1 (f j).2) k<=k/\∀ j,j<=k->ltP (f j).1 (f j).2 (f (J0 (λi j=>ltP (f i).1 (f i).2 (f j).1 (f j).2) k)).1 (f (J0 (λi j=>ltP (f i).1 (f i).2 (f j).1 (f j).2) k)).2=false
 | 0=>⟨Wa _,λj hj=>by
  obtain rfl:j=0:=by lia
  show ltP (f 0).1 (f 0).2 (f 0).1 (f 0).2=false;simp[ltP]⟩
 | k + 1=>by
  obtain⟨h1,h2⟩:=D7 f k;have e:J0 (λi j=>ltP (f i).1 (f i).2 (f j).1 (f j).2) (k + 1)=if ltP (f (k + 1)).1 (f (k + 1)).2 (f (J0 (λi j=>ltP (f i).1 (f i).2 (f j).1 (f j).2) k)).1 (f (J0 (λi j=>ltP (f i).1 (f i).2 (f j).1 (f j).2) k)).2 then k + 1 else J0 (λi j=>ltP (f i).1 (f i).2 (f j).1 (f j).2) k:=rfl
  rw[e];generalize J0 (λi j=>ltP (f i).1 (f i).2 (f j).1 (f j).2) k=m at *
  cases hc:ltP (f (k + 1)).1 (f (k + 1)).2 (f m).1 (f m).2 with
  | true =>
   rw[if_pos rfl];refine⟨Wa _,λj hj=>?_⟩;rw[WX,Ne,jn];rw[jn] at hc;by_cases hjk:j=k + 1
   ·subst hjk; lia
   ·have:=h2 j Y';rw[WX,Ne,jn] at this;lia
  | false =>
   rw[if_neg U'];refine⟨Y',λj hj=>?_⟩;by_cases hjk:j=k + 1
   ·subst hjk; exact hc
   ·exact h2 j Y'
section
variable {prog:Wk} {w:Wn} {A:Wr} {E:Value->W2->Prop} {s:W2}
theorem SH{l:Addr}{ps:Array (Addr×Int×Int)}{Q:Value->W2->Prop}(hh:A.handled=none)(hu:A.units + 2 < WZ)(hl:s.heap.IsList l (ps.map λp=>.ref p.1))(cq:0 < ps.size)
  (ho:∀ p ∈ ps,∃ dd t1 t2 n sl,s.heap.get? p.1=some (prO dd p.2.1 p.2.2 t1 t2 n sl))
  (h:∀ p h' tk,p ∈ ps->(∀ q ∈ ps,ltP q.2.1 q.2.2 p.2.1 p.2.2=false)->(∀ b o,s.heap.get? b=some o->h'.get? b=some o)->Q (.ref p.1) { s with heap:=h',toks:=tk }) :
  W5 (model prog w) A (call (.builtin "min") [.ref l]) Q E s:=by
 have qJ:(toString "min" ++ toString ".loop" : String) = "min.loop":=by decide
 let f:Nat->Int×Int:=λi=>((ps[i]?).map (·.2)).getD (0,0)
 have aP:l < s.heap.objs.size:=by obtain⟨_,e,_⟩:=hl; exact Wj e
 refine call_function_tree F.kind_min F.plain_min F.entry_min (F.args_min1 _) ?_;show W5 _ A.in1 (Builtin.Builtins.bindParams "min" ["key","default"] 0 ⟨[],[]⟩ >>= _) _ _ s;refine W0 (wpAny_of_eq (show Builtin.Builtins.bindParams "min" ["key","default"] 0 ⟨[],[]⟩=pure [none,none] from rfl) ?_);refine W0 (W1 ?_);refine W0 (UA hl ?_);refine W0 (WC ?_);rw[qJ];obtain⟨I,hI⟩:∃ I:Nat,s.heap.objs.size=I:=⟨_,rfl⟩
 rw[hI] at aP;rw[hI];have D8:(s.heap.push { cls:=.type "list_iterator",data:=.fields #[.ref l,.int 0 0] }).objs.size=I + 1:=by simp_all
 rw[D8];have SJ:l≠I:=Wo aP;have W:=Walks.list (prog:=prog) (w:=w) (A:=A.in1) hh I l SJ (ps.map λp=>Value.ref p.1);have lT:I + 1 ∉ [I,l]:=λhm=>by grind
 have hold:∀ b o,s.heap.get? b=some o->((s.heap.push { cls:=.type "list_iterator",data:=.fields #[.ref l,.int 0 0] }).push { cls:=.type "list",data:=.seq #[] }).get? b=some o:=λb o e=>W3 _ (W3 _ e)
 -- what stays on the heap
 let T:Heap->Prop:=λh'=>∀ p ∈ ps,∀ o,s.heap.get? p.1=some o->h'.get? p.1=some o
 have hT:∀ h1 h2:Heap,(∀ b o,b ∉ [I]->b≠I + 1->h1.get? b=some o->h2.get? b=some o)->T h1->T h2:=λh1 h2 k t p hp o e=>by
  have hb:=Wj e;rw[hI] at hb;exact k p.1 o (λhm=>absurd (QM.mp hm) (Wo hb)) (Wo (Qp hb)) (t p hp o e)
 have ask:∀ i j vi vj (s':W2) (Q:Value->W2->Prop) (E:Value->W2->Prop),T s'.heap->(ps.map λp=>Value.ref p.1)[i]? = some vi->(ps.map λp=>Value.ref p.1)[j]? = some vj->Q (.bool (ltP (f i).1 (f i).2 (f j).1 (f j).2)) s'->W5 (model prog w) A.in1 (richCompare .Lt vi vj) Q E s':=λi j vi vj s' Q E t hi hj q=>by
  simp only[Array.getElem?_map,Ww] at hi hj;obtain⟨p,hp,rfl⟩:=hi;obtain⟨r,hr,rfl⟩:=hj;have xR:=Array.mem_of_getElem? hp;have xS:=Array.mem_of_getElem? hr;obtain⟨dd,t1,t2,n,sl,e1⟩:=ho p xR;obtain⟨km,u1,u2,n2,jM,e2⟩:=ho r xS;have fi:f i=p.2:=by simp only[f,hp]; rfl
  have fj:f j=r.2:=by simp only[f,hr]; rfl
  rw[fi,fj] at q;exact richCompare_meets_room (op:=.Lt) ⟨_,t p xR _ e1,rfl⟩ ⟨_,t r xS _ e2,rfl⟩ F.slot_tuple_lt F.entry_tuple_lt (F.args_tuple_lt_2 _ _) (z6E p.1 r.1 _ _ _ _ t1 t2 u1 u2 n n2 dd km sl jM)
   ⟨t p xR _ e1,t r xS _ e2,(λx=>nomatch x),q⟩ (show A.units + 1 < WZ by lia)
 -- the first one
 have hsz:(ps.map λp=>Value.ref p.1).size=ps.size:=Array.size_map ..;refine W1 ⟨Qs Jl _,?_⟩;refine Qd F.entry_min_loop ?_;rw[Around.under_plainId Jl _];have D9:((s.heap.push { cls:=.type "list_iterator",data:=.fields #[.ref l,.int 0 0] }).push { cls:=.type "list",data:=.seq #[] }).get? (I + 1)=some { cls:=.type "list",dict:=none,data:=.seq #[] 0,slots:=#[] }:=by rw[<- D8]; exact Wi _ rfl
 have SK:((s.heap.push { cls:=.type "list_iterator",data:=.fields #[.ref l,.int 0 0] }).push { cls:=.type "list",data:=.seq #[] }).get? I=some { cls:=.type "list_iterator",data:=.fields #[.ref l,.int 0 0] }:=W3 _ (by rw[<- hI]; exact Wi _ rfl);show W5 _ A.in1 (seqItems? (.ref (I + 1)) >>= _) _ _ _;refine W0 (Jj D9 rfl ?_);show W5 _ A.in1 (tryCatch (Ql (.ref I)) _ >>= _) _ _ _;refine W0 (Uw (W.item 0 _ _ _ (by rw[hsz]; exact cq) ⟨⟨_,SK,rfl,rfl⟩,(hl.push _).push _⟩ λv h1 tk hv ui k1=>?_));have S1:=k1 (I + 1) _ U' D9;show W5 _ A.in1 (updateSeq (I + 1) (λ_=>#[v,v]) >>= _) _ _ _;refine W0 (Jc S1 rfl ?_);rw[qJ];have t0:T h1:=λp hp o e=>by
  have hb:=Wj e;rw[hI] at hb;exact k1 p.1 o (λhm=>absurd (QM.mp hm) (Wo hb)) (hold _ _ e)
 refine W1 ⟨Qs Jl _,SF W (λi j=>ltP (f i).1 (f i).2 (f j).1 (f j).2) (I + 1) lT T hT ask (ps.size - 1) 0 _ v _ (by rw[hsz]; lia) (hT h1 _ (λb o _ y e=>(WF _ _ (Ne.symm y)).trans e) t0)
  (W.frame _ _ _ ui λb x o e=>(WF _ _ (λhh:I + 1=b=>lT (by rw[hh]; exact x))).trans e) hv (WG _ S1 rfl) λv' h2 qK p2 k2=>?_⟩
 obtain⟨b1,b2⟩:=D7 f (ps.size - 1);rw[hsz] at p2;simp only[Array.getElem?_map,Ww] at p2;obtain⟨p,hp,rfl⟩:=p2;have fp:f (J0 (λi j=>ltP (f i).1 (f i).2 (f j).1 (f j).2) (ps.size - 1))=p.2:=by grind
 rw[fp] at b2;refine h p h2 qK (Array.mem_of_getElem? hp) (λq hq=>?_) (λb o e=>?_)
 ·obtain⟨j,hj,ej⟩:=Array.getElem_of_mem hq;have:=b2 j Y';have fj:f j=q.2:=by
   show((ps[j]?).map (·.2)).getD (0,0)=q.2;rw[Array.getElem?_eq_getElem hj,ej]; rfl
  rw[fj] at this;exact this
 ·have hb:=Wj e;rw[hI] at hb;have nI:b ∉ [I]:=λhm=>absurd (QM.mp hm) (Wo hb)
  have nS:b≠I + 1:=Wo (Qp hb);exact k2 b o nI nS ((WF _ _ (Ne.symm nS)).trans (k1 b o nI (hold b o e)))
end
end PySem
namespace DV
open PySem PySem.Spec PyProof.Rows L2
open PySem.SeqAt (prO ltP)
noncomputable def qL:D->Option (Int×Int)
 | .tup [.int a,.int b]=>some (a,b)
 | _=>none
noncomputable def lU:List D->Option (List (Int×Int))
 | []=>some []
 | d :: r=>(qL d).bind λp=>(lU r).map (p :: ·)
def e9:List (Int×Int)->Int×Int
 | []=>(0,0)
 | p :: r=>match r with
  | []=>p
  | _=>if ltP p.1 p.2 (e9 r).1 (e9 r).2 then p else e9 r
theorem xT:∀ ps:List (Int×Int),ps≠[]->e9 ps ∈ ps/\∀ q ∈ ps,ltP q.1 q.2 (e9 ps).1 (e9 ps).2=false
 | [],h=>(h rfl).elim
 | [p],_=>by simp[e9,ltP]
 | p :: b :: r,_=>by
  obtain⟨h1,h2⟩:=xT (b :: r) U';have e:e9 (p :: b :: r)=if ltP p.1 p.2 (e9 (b :: r)).1 (e9 (b :: r)).2 then p else e9 (b :: r):=rfl
  rw[e];generalize e9 (b :: r)=m at *
  cases hc:ltP p.1 p.2 m.1 m.2 with
  | true =>
   rw[if_pos rfl];refine⟨W7,λq hq=>?_⟩;rw[WX,Ne,jn];rw[jn] at hc;rcases Wq.mp hq with rfl | hq
   ·lia
   ·have:=h2 q hq;rw[WX,Ne,jn] at this;lia
  | false =>
   rw[if_neg U'];refine⟨W9 _ h1,λq hq=>?_⟩;rcases Wq.mp hq with rfl | hq
   ·exact hc
   ·exact h2 q hq
theorem SM(hp:p ∈ ps)(h:∀ q ∈ ps,ltP q.1 q.2 p.1 p.2=false):p=e9 ps:=by
 obtain⟨m1,m2⟩:=xT ps (List.ne_nil_of_mem hp);have a:=h _ m1;have b:=m2 _ hp;rw[WX,Ne,jn] at a b;apply Prod.ext <;> lia
noncomputable def lV:D->Option S
 | .lst ds=>match lU ds with
  | some (p :: ps)=>some (.pure (.tup [.int (e9 (p :: ps)).1,.int (e9 (p :: ps)).2]))
  | _=>none
 | _=>none
theorem D_:∀ {as:List Addr} {us:List Value},Vals (as.map V.ref) us->us=as.map Value.ref
 | [],us,r=>by cases r; rfl
 | a :: as,us,r=>by
  cases r with
  | cons r1 r2 =>
   cases r1;rw[D_ r2];rfl
theorem SN (hc:X.calm=true) (hu:X.A.units + 64 < WZ):eA X (.builtin "min") (λxs H Q=>∃ (a:Addr) (ps:List (Addr×Int×Int)),xs=[.ref a]/\cA X.K H a (ps.map λp=>V.ref p.1)/\ps≠[]/\(∀ p ∈ ps,bT X.K H p.1 [.int p.2.1,.int p.2.2])/\∀ p ∈ ps,(∀ q ∈ ps,ltP q.2.1 q.2.2 p.2.1 p.2.2=false)->Q (.ref p.1) H):=by
 intro pins s σ H xs us Q I r h;obtain⟨a,ps,rfl,hq,cq,ht,q⟩:=h;obtain⟨u,rfl,ru⟩:=h_ r
 cases ru;obtain⟨ag,r',p,_⟩:=I.list hq;have r2:Vals ((ps.map (·.1)).map V.ref) ag:=by rw[Wu]; exact r'
 have e:=D_ r2;subst e;have hl:=p.isList;have el:((ps.map (·.1)).map Value.ref).toArray=ps.toArray.map λp=>Value.ref p.1:=by simp
 rw[el] at hl;refine SH (I.ok.hd hc) Y' hl (by grind) (λp hp=>?_) λp h' tk hp hm hk=>?_
 ·obtain⟨ts,rt,pt,_⟩:=I.tuple (ht p (by simpa using hp))
  cases rt with
  | cons r1 r2 =>
   cases r2 with
   | cons r2 r3 =>
    cases r3;obtain⟨t1,rfl⟩:=r1;obtain⟨t2,rfl⟩:=r2;obtain⟨⟨cls,dd,data,sl⟩,ho,iA,n,hd⟩:=(show s.heap.IsTuple p.1 _ from pt)
    simp only at iA hd;subst iA hd;exact⟨dd,t1,t2,n,sl,ho⟩
 ·exact⟨.ref p.1,H,I.kept hk,rfl,q p (by simpa using hp) λr hr=>hm r (by simpa using hr)⟩
theorem SQ(h:qL d=some p):d = .tup [.int p.1,.int p.2]:=by
 unfold qL at h;split at h
 ·cases h; rfl
 ·cases h
theorem Ea:∀ {ds:List D} {vs:List V} {qs:List (Int×Int)},lU ds=some qs->aD H O vs ds->∃ ps:List (Addr×Int×Int),vs=(ps.map λp=>V.ref p.1)/\qs=ps.map (·.2)/\∀ p ∈ ps,¬ O p.1/\H p.1=some (.tup [.int p.2.1,.int p.2.2])
 | [],vs,qs,h,r=>by
  simp only[lU,Wg] at h;subst h;have:=r.1;exact⟨[],by simpa using this,rfl,λp hp=>by cases hp⟩
 | d :: ds,[],qs,h,r=>by have:=r.1; simp at this
 | d :: ds,v :: vs,qs,h,r=>by
  obtain⟨⟨a,b⟩,e1,h⟩:=Option.bind_eq_some_iff.mp (show((qL d).bind λp=>(lU ds).map (p :: ·))=some qs from h);obtain⟨qs',e,rfl⟩:=Ww.mp h;have ed:=SQ e1;subst ed;obtain⟨ps,e1,e2,e3⟩:=Ea e r.tail;have hd:=r.head
  cases hd with
  | tup ho hH hl hr =>
   rename_i p ws;match ws,hl with
   | [w1,w2],_ =>
    have h1:=hr 0 w1 _ rfl rfl;have h2:=hr 1 w2 _ rfl rfl
    cases h1
    cases h2;refine⟨(p,a,b) :: ps,by rw[e1]; rfl,by rw[e2]; rfl,λq hq=>?_⟩;rcases Wq.mp hq with rfl | hq
    ·exact⟨ho,hH⟩
    ·exact e3 q hq
section
variable {X:Cx} {c:Fc} {e:Expr} {fb:BE} {pos pp:Pos}
theorem SR (hc:X.calm=true) (hu:X.A.units + 64 < WZ) (hg:Gl X "min") (hm:X.mg "min" = none) (he:SB X c e fb) (hs:Wh [e] X.env=(false,eval e X.env) :: Wh [] X.env:=by rfl):SE X c (.Call (.Name "min" pp) [e] [] pos) (aR lV fb) :=
 wU (r:=λv H Q=>∃ (a:Addr) (ps:List (Addr×Int×Int)),v = .ref a/\cA X.K H a (ps.map λp=>V.ref p.1)/\ps≠[]/\(∀ p ∈ ps,bT X.K H p.1 [.int p.2.1,.int p.2.2])/\∀ p ∈ ps,(∀ q ∈ ps,ltP q.2.1 q.2.2 p.2.1 p.2.2=false)->Q (.ref p.1) H) (SN hc hu) (λv H Q ⟨a,ps,e,h⟩=>⟨a,ps,by rw[e],h⟩) (λc σ δ H x d s Q k rx hp q=>by
  cases d with
  | lst ds =>
   simp only[lV] at hp
   cases e:lU ds with
   | none=>rw[e] at hp; cases hp
   | some qs =>
    rw[e] at hp
    cases qs with
    | nil=>cases hp
    | cons n ns =>
     simp only[Wg] at hp;subst hp;obtain⟨a,vs,ea,ha,ra⟩:=rx.lst;obtain⟨ps,e1,e2,e3⟩:=Ea e ra;subst e1;refine⟨a,ps,ea,.inl ha,(λz=>by rw[z] at e2; cases e2),λp hp=>.of (e3 p hp).2,λp hp hm=>?_⟩;have SV:p.2=e9 (n :: ns):=by
      rw[e2];refine SM (WK hp) λz hz=>?_
      obtain⟨r,hr,rfl⟩:=WD.mp hz;exact hm r hr
     refine q _ H (.refl k) ?_;rw[<- SV];refine .tup (e3 p hp).1 (e3 p hp).2 rfl λi v d h1 h2=>?_
     match i with
     | 0=>cases h1; cases h2; exact .int _
     | 1=>cases h1; cases h2; exact .int _
     | i + 2=>cases h1
  | _=>simp[lV] at hp) hg hm PyProof.Rows.boot_min he Z' Z' hs
end
def iB(fk fv:DE):DE:=λδ=>(fk δ).bind λr δ1=>(fv δ1).bind λs δ2=>match r,s with
 | .pure dk,.pure d=>match bD dk with
  | some kk=>.ok (.own (.au [(kk,d)])) δ2
  | none=>.stuck
 | _,_=>.stuck
section
variable {c:Fc} {σ:St} {δ δ':Dl} {H H':Hp} {p:Addr}
theorem Ok.Eb(k:Ok (c.plus p) σ δ H)(h0:c.H₀ p=none)(o:HO):Ok (c.plus p) σ δ (upd H p o):=by
 have tY:∀ b w,H b=some w->¬ Av (c.plus p) σ δ b->upd H p o b=some w:=λb w e n=>by
  rw[aH (λz:b=p=>n (.inl (.inr z)))]; exact e
 have ex:∀ b,(∃ w,H b=some w)->∃ w,upd H p o b=some w:=λb ⟨w,e⟩=>by
  by_cases z:b=p
  ·rw[z]; exact⟨o,cf⟩
  ·rw[aH z]; exact⟨w,e⟩
 refine⟨λa w e n=>?_,λa z=>ex a (k.bd a z),λa z=>ex a (k.dO a z),k.len,λi d e=>?_,λi d e=>?_,k.inj,k.pinned⟩
 ·rw[aH (λz:a=p=>by have e':c.H₀ a=some w:=e; grind)];exact k.keep a w e n
 ·obtain⟨v,e1,r⟩:=k.slot i d e;exact⟨v,e1,r.keep tY⟩
 ·obtain⟨a,e1,oa,h1,h2⟩:=k.own i d e;exact⟨a,e1,oa.keep tY (λw e=>by rw[aH (λz:a=p=>h2 (.inr z))]; exact e),h1,h2⟩
theorem uj(h:post c r k)(m:∀ a δ,k a δ->k' a δ):post (c.plus p) r k':=by
 cases r with
 | ok a δ=>exact m a δ h
 | exc x δ=>exact h
 | stuck=>exact h
end
theorem Ec{X:Cx}{c:Fc}{k v:Expr}{fk fv:DE}{pos:Pos}(hk:∀ c',SE X c' k fk)(hv:∀ c',SE X c' v fv):SE X c (.Dict [some k] [v] pos) (iB fk fv):=by
 have PK:PE X k (λσ H Q=>∃ c',tD c' fk σ H Q):=λpins s σ H Q I ⟨c',h⟩=>hk c' pins s σ H Q I h
 have PV:PE X v (λσ H Q=>∃ c',tD c' fv σ H Q):=λpins s σ H Q I ⟨c',h⟩=>hv c' pins s σ H Q I h
 refine PE.weak (NA (Ny PK PV Nx) rfl rfl U' U') λσ H Q ⟨δ,kk,q⟩=>?_
 intro p hp;show ∃ c',tD c' fk σ (upd H p (.dK [])) λx H1=>∃ c',tD c' fv σ H1 λy H2=>H2 p=some (.dK [])/\∃ kvs:List (Key×V),[(x,y)]=kvs.map (λkv=>(kV kv.1,kv.2))/\kvs.length<=15/\Q (.ref p) (upd H2 p (.dK (mE [] kvs)))
 unfold iB at q;rw[aU] at q;refine⟨c.plus p,δ,kk.plus hp _,uj q λr δ1 q1 x H1 a1 rx=>?_⟩;rw[aU] at q1;refine⟨c.plus p,δ1,a1.ok,uj q1 λs δ2 q2 y H2 a2 ry=>?_⟩;have A:=a1.trans a2;have h0:=kk.lD hp;have nb:¬ c.B p:=λz=>kk.ik hp (.inl z)
 have xU:H2 p=some (.dK []):=A.keep p _ cf λz=>kk.ik hp (.inr z)
 cases r with
 | own d=>exact q2.elim
 | pure dk =>
  cases s with
  | own d=>exact q2.elim
  | pure d =>
   cases hkd:bD dk with
   | none=>simp only[hkd] at q2; exact q2.elim
   | some kd =>
    simp only[hkd] at q2;have ex:x=kV (bZ kd):=mZ hkd (.inl rx);refine⟨xU,[(bZ kd,y)],by rw[ex]; rfl,U',?_⟩;have em:mE [] [(bZ kd,y)]=[(bZ kd,y)]:=rfl;rw[em];have qM:=A.ok.Eb h0 (.dK [(bZ kd,y)]);have ne:∀ {a w},H a=some w->a≠p:=λe z=>by grind
    refine q2 (.ref p) _ ⟨qM.less,λa w e n=>?_,λa z=>?_,λa w e=>?_⟩ ⟨p,rfl,⟨[(bZ kd,y)],cf,rfl,λi u t e1 e2=>?_⟩,nb,h0,qM,hp⟩
    ·rw[aH (ne e)];exact A.keep a w (by rw[aH (ne e)]; exact e) n
    ·by_cases zp:a=p
     ·rw[zp]; exact .inr hp
     ·rcases A.own a z with z | z
      ·exact .inl z
      ·rw[aH zp] at z; exact .inr z
    ·obtain⟨w',e'⟩:=A.there a w (by rw[aH (ne e)]; exact e);exact⟨w',by rw[aH (ne e)]; exact e'⟩
    ·match i with
     | 0 =>
      cases e1
      cases e2;exact Rep.keep (show Rep H2 (Av (c.plus p) σ δ2) y d from ry) λb w e n=>by rw[aH (λz:b=p=>n (.inl (.inr z)))]; exact e
     | i + 1=>cases e1
end DV
namespace L2
open PySem PySem.Spec PyProof.Rows
def Ed(x:Str):It:=⟨λi _=>i < x.cps.size,λi H y H'=>∃ p c,H p=none/\x.cps[i]? = some c/\H'=upd H p (.tup [.int i,.str ⟨#[c]⟩])/\y = .ref p,λi _=>i=x.cps.size⟩
theorem SY {P:Wk} {w:Wn} {K:W4} {elts:List Expr} {ctx} {pos:Pos} (x:Str) (t:Tok) (e it:Addr) (T:String) (hT:T = "str_ascii_iterator"\/T = "str_iterator") (kG:e≠it):Turn P w K (.Tuple elts ctx pos) (Ed x) [e,it] e (λi h=>(∃ old,IsEnum h e it i old)/\h.IsStrIter it T x t i):=by
 have DD:∀ A:Wr,A.handled=none->Draws P w A it [it] x.cps.size (λi v=>∃ c u,x.cps[i]? = some c/\v = .str ⟨#[c]⟩ u) (λi h=>h.IsStrIter it T x t i):=λA hh=>by
  rcases hT with rfl | rfl
  ·exact Draws.strAscii hh it x t
  ·exact Draws.strWide hh it x t
 refine⟨U',λi h st b hb=>?_,λi h h' st k=>?_,?_,?_,λA i s Q E st h=>?_⟩
 ·obtain⟨⟨old,he⟩,hi⟩:=st;have hb:b=e\/b=it:=by simpa using hb
  rcases hb with z | z
  ·subst z;exact⟨_,he,λv z=>by
    have z':Data.fields _=Data.cell v:=z
    cases z'⟩
  ·subst z;obtain⟨o,e,c,d⟩:=hi;exact⟨o,e,λv z=>by rw[d] at z; cases z⟩
 ·obtain⟨⟨old,he⟩,o,e2,r⟩:=st;exact⟨⟨old,k e U' _ he⟩,o,k it U' o e2,r⟩
 ·intro X hP hw hK hc i pins s σ H E I hf st hg;subst hP hw hK;have qF:i < x.cps.size:=hg;obtain⟨⟨old,he⟩,hi⟩:=st;have D:=DD X.A.in1 (I.ok.hd hc);have aP:∀ b ∈ [e,it],b < s.heap.objs.size:=λb hb=>by
   have hb:b=e\/b=it:=by simpa using hb
   rcases hb with z | z
   ·subst z; exact Wj he
   ·subst z; obtain⟨o,q,_⟩:=hi; exact Wj q
  refine wpAny_pyNext_enum_itemD D he hi qF kG (by simp[kG]) λx' h' tk hP ho gU S0 hsz hk=>?_
  obtain⟨c,u,hx,rfl⟩:=hP;refine⟨_,rfl,wpAny_letOwnedTupleGo_enum ho λh2 qG sb=>?_⟩;have k2:∀ b o,b≠e->b≠it->s.heap.get? b=some o->h2.get? b=some o:=λb o q1 q2 q=>(sb.2 b q1).trans (hk b o q1 q2 q)
  have qH:h2.get? s.heap.objs.size=some { cls:=.type "tuple",data:=.seq #[.int i tk,.str ⟨#[c]⟩ u] }:=(sb.2 _ (QB (aP e U'))).trans S0;have I2:Inv X pins σ (upd H s.heap.objs.size (.tup [.int i,.str ⟨#[c]⟩])) { s with heap:=h2,toks:=tk + 1 }:=Inv.xK (t':=tk + 1) I hf aP ⟨u,rfl⟩ qH k2;refine⟨.ref s.heap.objs.size,_,I2,rfl,⟨s.heap.objs.size,c,I.ax.fresh (Wa _),hx,rfl,rfl⟩,⟨⟨_,by simpa using qG⟩,?_⟩,λb hb=>?_⟩
  ·obtain⟨o,e2,r⟩:=gU;exact⟨o,(sb.2 it (Ne.symm kG)).trans e2,r⟩
  ·rw[aH (Wo (aP b hb))];exact(hf b hb).1
 ·intro X hP hw hK hc i pins s σ H E I hf st hg;subst hP hw hK;have lC:i=x.cps.size:=hg;subst lC;obtain⟨⟨old,he⟩,hi⟩:=st;have D:=DD X.A.in1 (I.ok.hd hc);obtain⟨f0,f1,f2,f3,f4,f5⟩:=hf it U';exact wpAny_pyNext_enum_endD D he hi λh' eb=>⟨rfl,I.turned (t':=s.toks) (λb o hb q=>eb b o hb q) f0 f1 f3 f4 f5⟩
 ·obtain⟨⟨old,he⟩,_⟩:=st;exact JD he h
end L2
namespace DV
open PySem PySem.Spec PyProof.Rows L2
section
variable {X:Cx} {c:Fc} {tg e:Expr} {fe:DE} {pos pp:Pos}
def S2(ta:TA):TI:=λσ H R=>ta σ H λvs H1=>∃ z,vs=[.str z]/\R (Ed z) H1
theorem S3 {a:Expr} {ta:TA} {elts:List Expr} {ctx} {tp:Pos} (hg:Gl X "enumerate") (hm:X.mg "enumerate" = none) (ha:PA X [a] ta) (hs:Wh [a] X.env=[(false,eval a X.env)]:=by rfl):PI X (.Tuple elts ctx tp) (.Call (.Name "enumerate" pp) [a] [] pos) (S2 ta):=by
 intro pins s σ H R I h;refine Call_ (nV I hg hm boot_enumerate (Js (aF (ha pos pins s σ H _ I h) λus s1 ⟨vs,H1,I1,r1,q1⟩=>?_) hs rfl));obtain⟨z,ev,q⟩:=q1;subst ev
 cases r1 with
 | cons r rr =>
  cases rr;obtain⟨t,rfl⟩:=r;have hT:UF z = "str_ascii_iterator"\/UF z = "str_iterator":=by
   unfold UF;split
   ·exact .inl rfl
   ·exact .inr rfl
  refine call_enumerate_str λh' he hi hsz kp=>JD he ?_
  refine⟨s1.heap.objs.size + 1,[s1.heap.objs.size + 1,s1.heap.objs.size],_,_,H1,rfl,I1.kept (t':=s1.toks) kp,SY z t _ _ _ hT (Nat.succ_ne_self _),⟨⟨_,he⟩,hi⟩,λb hb=>?_,q⟩;have hb:b=s1.heap.objs.size + 1\/b=s1.heap.objs.size:=by simpa using hb
  have hle:s1.heap.objs.size<=b:=by rcases hb with z | z <;> subst z <;> first | exact Wa _ | exact Up _
  exact I1.iJ hle (I1.ax.fresh hle)
def kL(f:DE):DI:=λδ=>(f δ).bind λr δ1=>match r.d with
 | .str x=>.ok (eG (x.map λn=>.str [n])) δ1
 | _=>.stuck
theorem S4 {elts:List Expr} {ctx} {tp:Pos} (hg:Gl X "enumerate") (hm:X.mg "enumerate" = none) (he:SE X c e fe) (hs:Wh [e] X.env=[(false,eval e X.env)]:=by rfl):SI X c (.Tuple elts ctx tp) (.Call (.Name "enumerate" pp) [e] [] pos) (kL fe) :=
 PI.weak (S3 hg hm (fw he gz hs) hs) λσ H R ⟨δ,k,q⟩=>by
  unfold kL at q;rw[aU] at q;refine⟨δ,k,aJ q λr δ1 q1 v H1 a1 r1=>?_⟩;have rr:=r1.rep;generalize r.d=d at q1 rr
  cases d <;> first | exact q1.elim | skip
  rename_i x
  cases rr;refine⟨toS x,rfl,q1 _ H1 a1 ?_⟩;have hsz:(toS x).cps.size=x.length:=by simp[toS]
  intro H2 kp;refine⟨by show(eG (x.map λn=>D.str [n])).length=(toS x).cps.size; rw[hsz]; simp[eG],λi d e=>?_⟩;obtain⟨d',e',rfl⟩:=ug e;rw[Wp,Ww] at e';obtain⟨n,hn,rfl⟩:=e';have hi:i < x.length:=(W6.mp hn).1;refine⟨by show i < (toS x).cps.size; rw[hsz]; exact hi,λy H3 ⟨p,cc,hp,hx,e3,ey⟩=>.inr ⟨p,_,_,hp,e3,ey,rfl,?_⟩⟩;have S5:cc=n:=by
   have:(toS x).cps[i]? = some n:=by simp[toS,hn]
   rw[hx] at this
   cases this;rfl
  subst S5;exact aD.pair (.str [cc])
end
section
variable {K:W4} {h:Heap} {mg:Str->Option Value} {x q:Str} {st:Stmt} {f:Addr} {fd:Q7}
abbrev bb(K:W4)(x:Str)(st:Stmt):Prop:=∃ (f:Addr) (oc:Value) (od:Option Addr) (kV dc pm:Value) (an:Option Addr) (cd ct:Value) (sl:Array (Option Value)),
 PySem.W.nsIn K Wv x=some (some (.ref f))/\K.lookup f=some ⟨oc,od,.func (Qf x x (gR st) (dM st) (bw st) .none kV dc pm an cd ct),sl⟩/\PySem.W.codeIn K cd x=true/\JI K (.ref f)=true
theorem uk(X:K.In h)(G:h.Ns Wv mg)(d:bb K x st):∃ f fd,dH K x x st f fd/\mg x=some (.ref f):=by
 obtain⟨f,oc,od,kV,dc,pm,an,cd,ct,sl,a,l,c,k⟩:=d;exact⟨f,_,wo l c k,PySem.W.mg_of X G a⟩
abbrev Bd(x q:Str)(st:Stmt)(ps:List Str)(us:List Value):Prop:=∀ (kV doc pm:Value) (an:Option Addr) (aN ct:Value),bindArgs (Qf x q (gR st) (dM st) (bw st) .none kV doc pm an aN ct) ⟨us,[]⟩=pure (ps.zip us)
variable {p1 p2 p3 p4 p5 p6:Str}
theorem S6(F:dH K x q st f fd)(h:∀ a,Bd x q st [p1] [a]):Binds K fd [p1] []:=F.binds λ_ _ _ _ _ _ us hl=>match us,hl with
 | [a],_=>h a _ _ _ _ _ _
theorem um(F:dH K x q st f fd)(h:∀ a b,Bd x q st [p1,p2] [a,b]):Binds K fd [p1,p2] []:=F.binds λ_ _ _ _ _ _ us hl=>match us,hl with
 | [a,b],_=>h a b _ _ _ _ _ _
theorem Ee(F:dH K x q st f fd)(h:∀ a b c,Bd x q st [p1,p2,p3] [a,b,c]):Binds K fd [p1,p2,p3] []:=F.binds λ_ _ _ _ _ _ us hl=>match us,hl with
 | [a,b,c],_=>h a b c _ _ _ _ _ _
theorem S7(F:dH K x q st f fd)(h:∀ a b c d,Bd x q st [p1,p2,p3,p4] [a,b,c,d]):Binds K fd [p1,p2,p3,p4] []:=F.binds λ_ _ _ _ _ _ us hl=>match us,hl with
 | [a,b,c,d],_=>h a b c d _ _ _ _ _ _
theorem S8(F:dH K x q st f fd)(h:∀ a b c d e,Bd x q st [p1,p2,p3,p4,p5] [a,b,c,d,e]):Binds K fd [p1,p2,p3,p4,p5] []:=F.binds λ_ _ _ _ _ _ us hl=>match us,hl with
 | [a,b,c,d,e],_=>h a b c d e _ _ _ _ _ _
end
theorem S9{α:Type}{P:α->Prop}{a:α}(x:P a):∀ z ∈ [a],P z:=λ_ h=>by cases h with | head=>exact x | tail _ h=>cases h
end DV
namespace L2
open PySem PySem.Spec PyProof.Rows PySem.W DV
section
variable {lt:Nat->Nat->Bool} {r:Nat->Nat} {n:Nat} {α β:Type}
structure Lt(lt:Nat->Nat->Bool)(r:Nat->Nat)(n:Nat):Prop where
 lt:∀ i j,i < n->j < n->lt i j=decide (r i < r j)
 inj:∀ i j,i < n->j < n->i≠j->r i≠r j
end
end L2
set_option maxHeartbeats 1000000
namespace SU
open PySem PyProof.Rows
def bt (w:Wn):Bool:=w.params.followText "set-order"
def i5(prog:Wk)(w:Wn)(x:Str×Tok):Int×Value:=((strKind prog w).hash x.1,.str x.1 x.2)
structure cE(prog:Wk)(w:Wn)(h:Heap)(a:Addr)(ks:List Str)(o:Obj)(es:Array (Int×Value))(ep:Nat)(t:SetTable)(xs:List (Str×Tok)):Prop where
 g:h.get? a=some o
 ex:o.ExactSet
 d:o.data = .set es ep t
 e:es.toList=xs.map (i5 prog w)
 p:(xs.map (·.1)).Perm ks
 nd:ks.Nodup
 f:t.fits es.size=true
 b:es.size < Uu
 l:bt w=false->t.led=true
 q:t.plain=true->ks=[]
def fF(prog:Wk)(w:Wn)(h:Heap)(a:Addr)(ks:List Str):Prop:=∃ o es ep t xs,cE prog w h a ks o es ep t xs
def dd(σ:List Str)(v:Str):List Str:=if v ∈ σ then σ else σ ++ [v]
def fm(val:Nat->Str)(i:Nat):List Str:=((Wd i).map val).foldl dd []
theorem Ef(val:Nat->Str)(i:Nat):fm val (i + 1)=dd (fm val i) (val i):=by
 unfold fm;simp[QU,List.foldl_append]
theorem S_(v:Str)(h:σ.Nodup):(dd σ v).Nodup:=by
 unfold dd;split
 ·exact h
 ·rename_i hv;exact JE.mpr ⟨h,U',λx hx y hy e=>hv (by simp at hy; rw[<- hy,<- e]; exact hx)⟩
theorem Ta(σ:List Str)(v:Str):(dd σ v).length<=σ.length + 1:=by
 unfold dd;split
 ·lia
 ·simp
theorem Eg(val:Nat->Str):∀ i,(fm val i).length<=i
 | 0=>Wa _
 | i + 1=>by
  rw[Ef];have:=Eg val i;have:=Ta (fm val i) (val i);lia
section
variable {prog:Wk} {w:Wn} {A:Wr} {E:Value->W2->Prop} {s:W2}
theorem Eh(h:(strKind prog w).is k v=true):∃ t,v = .str k t:=by
 cases v <;> simp[PySem.strKind,Value.isStrOf] at h
 rename_i y t;exact⟨t,by rw[h]⟩
theorem Ei(xs:List (Str×Tok)):ElemsOf (strKind prog w) (xs.map (i5 prog w)):=λe he=>by
 obtain⟨x,_,rfl⟩:=WD.mp he;exact⟨⟨x.1,strKind_is _ _ _ _,rfl⟩,rfl⟩
theorem Ej:∀ (l:List (Int×Value)),ElemsOf (strKind prog w) l->∃ xs:List (Str×Tok),l=xs.map (i5 prog w)
 | [],_=>⟨[],rfl⟩
 | e :: l,h=>by
  obtain⟨xs,e1⟩:=Ej l h.tail;obtain⟨⟨k,q,r⟩,_⟩:=h.head;obtain⟨t,et⟩:=Eh q;obtain⟨e0,ev⟩:=e;simp only at r et;subst r; subst et
  exact⟨(k,t) :: xs,by rw[We,<- e1]; rfl⟩
theorem xV{l:List (Int×Value)}{xs:List (Str×Tok)}(p:l.Perm (xs.map (i5 prog w))):∃ zs:List (Str×Tok),l=zs.map (i5 prog w)/\(zs.map (·.1)).Perm (xs.map (·.1)):=by
 obtain⟨zs,ez⟩:=Ej l λe he=>Ei xs e (p.mem_iff.mp he)
 refine⟨zs,ez,?_⟩;have q1:=p.map λe:Int×Value=>match e.2 with | .str k _=>k | _=>default
 rw[ez,Wu,Wu] at q1;exact q1
theorem xW(xs:List (Str×Tok))(k:Str):(∃ e ∈ xs.map (i5 prog w),(strKind prog w).is k e.2=true) ↔ k ∈ xs.map (·.1):=by
 constructor
 ·rintro ⟨e,he,q⟩;obtain⟨x,hx,rfl⟩:=WD.mp he;obtain⟨t,et⟩:=Eh q;have:x.1=k:=by injection et
  exact WD.mpr ⟨x,hx,this⟩
 ·intro h;obtain⟨x,hx,rfl⟩:=WD.mp h;exact⟨i5 prog w x,WK hx,strKind_is _ _ _ _⟩
section
variable {h:Heap} {a:Addr} {ks:List Str} {o:Obj} {es:Array (Int×Value)} {ep:Nat} {t:SetTable} {xs:List (Str×Tok)}
theorem cE.sz(x:cE prog w h a ks o es ep t xs):es.size=ks.length:=by
 rw[<- x.p.length_eq,Wx,<- Q2,x.e,Wx]
theorem cE.el(x:cE prog w h a ks o es ep t xs):ElemsOf (strKind prog w) es.toList:=by
 rw[x.e]; exact Ei _
theorem cE.so(x:cE prog w h a ks o es ep t xs):h.SetOf (strKind prog w) a (λk=>decide (k ∈ ks)) ks.length :=
 ⟨o,es,ep,t,x.g,x.ex,x.d,x.el,λk=>by rw[x.e,xW,x.p.mem_iff]; simp,x.b,x.f,x.sz⟩
theorem fF.so(x:fF prog w h a ks):h.SetOf (strKind prog w) a (λk=>decide (k ∈ ks)) ks.length:=by
 obtain⟨o,es,ep,t,xs,x⟩:=x;exact x.so
theorem fF.at'(x:fF prog w h a ks)(k:∀ o,h.get? a=some o->h'.get? a=some o):fF prog w h' a ks:=by
 obtain⟨o,es,ep,t,xs,x⟩:=x;exact⟨o,es,ep,t,xs,{ x with g:=k o x.g }⟩
end
theorem Ek(ho:s.heap.get? a=some o)(hex:o.ExactSet)(hd:o.data = .set es0 ep t0)
  (he:gv.toList=xs.map (i5 prog w)) (hp:(xs.map (·.1)).Perm ks) (nd:ks.Nodup) (hf:t'.fits gv.size=true) (hb:gv.size < Uu) (hl:bt w=false->t'.led=true) (hq:t'.plain=true->ks=[])
  (h:∀ h',Qk a s.heap h'->cE prog w h' a ks { o with data:=.set gv (ep + 1) t' } gv (ep + 1) t' xs->Q () { s with heap:=h' }) :
  W5 (model prog w) A (storeSet a gv t') Q E s:=by
 refine wpAny_storeSet_of ho hd ?_ (fits_of_scanBound hb);have g2:=WG (Obj.putSet gv t') ho (by rw[putSet_of _ _ hd]; rfl);rw[putSet_of _ _ hd] at g2;exact h _ (.update _ _ _) ⟨g2,hex,rfl,he,hp,nd,hf,hb,hl,hq⟩
theorem Tb(t:SetTable)(es:Array (Int×Value))(h:Int)(x:Value):(layNew t es h x).2.1.led=t.led:=by
 unfold layNew;split
 ·unfold SetTable.orStandIn;simp only;split <;> rfl
 ·rfl
theorem Tc(t:SetTable)(es:Array (Int×Value))(n:Nat):(relayAll t es n).2.1.led=t.led/\((relayAll t es n).2.1.plain=true->t.plain=true):=by
 unfold relayAll;split
 ·rename_i t' order e;have hl:t'.led=t.led/\t'.plain=t.plain:=by
   unfold SetTable.relaid SetTable.laid at e
   cases e1:SetTable.layClean (SetTable.sizeAbove n - 1) (es.map (·.1)) with
   | none=>rw[e1] at e; cases e
   | some ow =>
    rw[e1] at e;simp only[Option.bind_eq_bind,WH,Option.pure_def,Wg,Prod.mk.injEq] at e;rw[<- e.1];exact⟨rfl,rfl⟩
  simp only;split
  ·exact⟨hl.1,λz=>hl.2 ▸ z⟩
  ·exact⟨rfl,λz=>by cases z⟩
 ·exact⟨rfl,λz=>by cases z⟩
theorem Td(hS:fF prog w s.heap a ks)(hb:ks.length + 1 < Uu)
  (h:∀ h',Qk a s.heap h'->fF prog w h' a (dd ks k)->Q (!decide (k ∈ ks)) { s with heap:=h' }) :
  W5 (model prog w) A (setAddHashed a (.str k tk) ((strKind prog w).hash k)) Q E s:=by
 obtain⟨o,es,ep,t,xs,x⟩:=hS;have kk:(strKind prog w).is k (.str k tk)=true:=strKind_is _ _ _ _;have hz:=x.sz;unfold setAddHashed setAddHashedIn;refine WN (W0 (JF x.g x.d x.f ?_));dsimp only;rw[byScan_of (knd:=strKind prog w) (x:=.str k tk) rfl x.b x.el,if_pos rfl];unfold setAddByScan;refine W0 (W0 (Jb (W0 (wpAny_setScan_of kk x.g x.d x.f x.el ?_))))
 cases hr:List.findIdx? (λe=>(strKind prog w).is k e.2) es.toList with
 | some j =>
  dsimp only;obtain⟨hj,hp,_⟩:=List.findIdx?_eq_some_iff_getElem.mp hr;have hk:k ∈ ks:=x.p.mem_iff.mp ((xW (prog:=prog) (w:=w) xs k).mp ⟨_,by rw[<- x.e]; exact QY hj,hp⟩);have e:dd ks k=ks:=by unfold dd; rw[if_pos hk]
  have:=h s.heap (.refl _ _) (by rw[e]; exact⟨o,es,ep,t,xs,x⟩);rw[decide_eq_true hk] at this;exact W1 (W1 this)
 | none =>
  dsimp only;have hk:k ∉ ks:=λhk=>by
   obtain⟨e,he,q⟩:=(xW (prog:=prog) (w:=w) xs k).mpr (x.p.mem_iff.mpr hk);grind[cE.e]
  have e:dd ks k=ks ++ [k]:=by unfold dd; rw[if_neg hk]
  have nd:=S_ k x.nd;rw[decide_eq_false hk] at h;rw[e] at h nd;have qN:=layNew_perm t es ((strKind prog w).hash k) (.str k tk);have uo:=layNew_fits t es ((strKind prog w).hash k) (.str k tk);have uq:=Tb t es ((strKind prog w).hash k) (.str k tk);generalize layNew t es ((strKind prog w).hash k) (.str k tk)=L at qN uo uq ⊢;obtain⟨es1,t1,wd,gave⟩:=L;dsimp only at qN uo uq ⊢;rw[UB,x.e] at qN;have wa:es1.toList.Perm ((xs ++ [(k,tk)]).map (i5 prog w)):=by rw[Q6]; exact qN
  obtain⟨zs,ez,pz⟩:=xV wa;have El:(zs.map (·.1)).Perm (ks ++ [k]):=pz.trans (by rw[Q6]; exact x.p.append_right _);have Em:es1.size < Uu:=by rw[<- Q2,qN.length_eq,WT,Wx]; have:=x.p.length_eq; simp at this ⊢; lia
  have gw:∀ (b:Bool) (s₁:W2) (Q':Unit->W2->Prop),Q' () s₁->W5 (model prog w) A (match b with | true=>rule "set.scan.the-table-gave-way" | false=>pure ()) Q' E s₁ :=
   λb s₁ Q' hq=>by cases b <;> first | exact W1 hq | exact Jb hq
  refine W0 (gw _ _ _ ?_);have tail:∀ t2:SetTable,t2.fits es1.size=true->t2.led=t1.led->t2.plain=false->W5 (model prog w) A (do
    storeSet a es1 t2
    if (!wd && t2.tooFull)=true then do
      (match (relayAll t2 es1 (SetTable.grown es1.size)).2.2 with | true=>rule "set.scan.the-table-gave-way" | false=>pure ())
      storeSet a (relayAll t2 es1 (SetTable.grown es1.size)).1 (relayAll t2 es1 (SetTable.grown es1.size)).2.1
      pure (some true)
     else pure (some true)) (λr s'=>W5 (model prog w) A (match r with | some added=>pure added | none=>setAddHashedIn a (.str k tk) ((strKind prog w).hash k) 99999) Q E s') E s:=λt2 f2 l2 p2=>by
   refine W0 (Ek x.g x.ex x.d ez El nd f2 Em (λz=>by rw[l2,uq]; exact x.l z) (λz=>by grind) λh1 En x1=>?_);split
   ·have rp:=relayAll_perm t2 es1 (SetTable.grown es1.size);have rf:=relayAll_fits t2 es1 (SetTable.grown es1.size);obtain⟨rl,rq⟩:=Tc t2 es1 (SetTable.grown es1.size);generalize relayAll t2 es1 (SetTable.grown es1.size)=Rl at rp rf rl rq ⊢;obtain⟨es2,t3,gave2⟩:=Rl;dsimp only at rp rf rl rq ⊢;rw[ez] at rp;obtain⟨ys,ey,py⟩:=xV rp;have Te:es2.size < Uu:=by rw[<- Q2,rp.length_eq,<- ez,Q2]; exact Em
    refine W0 (gw _ _ _ ?_);refine W0 (Ek (s:={ s with heap:=h1 }) x1.g x1.ex x1.d ey (py.trans El) nd rf Te (λz=>by rw[rl,l2,uq]; exact x.l z) (λz=>by grind) λh2 Tf x2=>?_);exact W1 (W1 (h h2 (En.trans Tf) ⟨_,_,_,_,_,x2⟩))
   ·exact W1 (W1 (h h1 En ⟨_,_,_,_,_,x1⟩))
  split
  ·refine W0 ?_;rw[hashByValue_scannable 8 (x:=.str k tk) rfl];refine W1 ?_;exact tail _ (SetTable.fits_plain_off uo) rfl rfl
  ·rename_i dY;refine W0 (W1 ?_);simp only[if_true];exact tail _ uo rfl (by simpa using dY)
end
section
variable {prog:Wk} {w:Wn} {A:Wr} {R:Result->W2->Prop} {I:Addr} {fp wr:List Addr} {G:Array GenState->Array GenState->Prop} {n:Nat} {P:Nat->Value->Prop} {St:Nat->W2->Prop}
theorem Tg(W:WalksS prog w A.in1 I fp wr G n P St)(S:Addr)(lT:S ∉ fp)(val:Nat->Str)(xX:∀ i v,P i v->∃ t,v = .str (val i) t)(hb:n + 1 < Uu) :
  ∀ (k i:Nat) (s:W2),n - i=k->i<=n->St i s->fF prog w s.heap S (fm val i) ->
   (∀ s',Moved (S :: wr) G s s'->fF prog w s'.heap S (fm val n)->R (.ok (.ret .none)) s') ->
   QK (model prog w) A (.builtin "set.update.loop" ⟨[.ref S,.ref I],[]⟩) R s:=by
 have nw:S ∉ wr:=λz=>lT (W.sub _ z)
 have up:∀ b ∈ wr,b ∈ S :: wr:=λb z=>W9 _ z
 intro k;induction k with
 | zero =>
  intro i s e1 e2 st x fin;obtain rfl:i=n:=by lia
  refine Qd PyProof.Rows.F.entry_set_update_loop ?_;rw[Around.under_plainId PyProof.Rows.F.plain_set_update_loop _];show W5 _ A.in1 (Ql (.ref I) >>= _) _ _ s;refine W0 (W.done s _ _ st λs' mv=>?_);show W5 _ A.in1 (ret Value.none) _ _ s';exact W1 (fin s' (mv.mono up) (x.at' λo e=>mv.heap S _ nw e))
 | succ k ih =>
  intro i s e1 e2 st x fin;have lt:i < n:=by lia
  refine Qd PyProof.Rows.F.entry_set_update_loop ?_;rw[Around.under_plainId PyProof.Rows.F.plain_set_update_loop _];show W5 _ A.in1 (Ql (.ref I) >>= _) _ _ s;refine W0 (W.item i s _ _ lt st λv s' pv eL mv=>?_);obtain⟨t,rfl⟩:=xX i v pv;have x':fF prog w s'.heap S (fm val i):=x.at' λo e=>mv.heap S _ nw e
  show W5 _ A.in1 (holding [Value.str (val i) t] (setAdd S (.str (val i) t)) >>= _) _ _ s';refine W0 (WN ?_);unfold setAdd;refine WN ?_;refine W0 ((strKind prog w).pyHash (k:=val i) (strKind_is _ _ _ _) ?_);refine Td (s:={ s' with toks:=s'.toks + 1 }) x' (by have:=Eg val i; lia) λh' sb y=>?_
  rw[<- Ef] at y;refine W1 ⟨Qs PyProof.Rows.F.plain_set_update_loop _,ih (i + 1) _ Y' lt (W.frame _ s' _ _ eL (Up _) λb z o e=>?_) y λmr Th z=>?_⟩
  ·rw[sb.2 b (λq:b=S=>lT (by rw[<- q]; exact z))]; exact e
  ·refine fin mr (Moved.trans W.gtrans ((mv.mono up).then_heap (Up _) λb o z e=>?_) Th) z;rw[sb.2 b (λq:b=S=>z (by rw[q]; exact W7))]; exact e
end
abbrev lW (w:Wn):Obj:={ cls:=.type "set",dict:=none,data:=.set #[] 0 (.fresh 0 0 (!bt w)) }
section
variable {prog:Wk} {w:Wn} {A:Wr} {E:Value->W2->Prop} {s:W2}
theorem Ti(h:Heap):cE prog w (h.push (lW w)) h.objs.size [] (lW w) #[] 0 (.fresh 0 0 (!bt w)) [] :=
 ⟨Wi _ rfl,⟨rfl,rfl,rfl⟩,rfl,rfl,.refl _,Ux,rfl,Z',λz=>by rw[z]; rfl,λ_=>rfl⟩
theorem Tj(h:Heap):fF prog w (h.push (lW w)) h.objs.size []:=⟨_,_,_,_,_,Ti h⟩
theorem Tn(a:Value)(h:Q₁ (.ref s.heap.objs.size) { s with heap:=s.heap.push (lW w) }) :
  QK (model prog w) A (.call (.builtin "set.__new__") ⟨[.type "set",a],[]⟩) (wants Q₁ E) s:=by
 refine codeAny_of_tree ?_;show W5 _ A.in1 (do checkBuiltinCall "set.__new__" ⟨[.type "set",a],[]⟩; again (.builtin "set.__new__" ⟨[.type "set",a],[]⟩)) _ _ s;refine W0 (wpAny_of_eq (PySem.F.newCall_set_1 a) (W1 ⟨Qs PySem.F.plain_set_new _,Qd PySem.F.entry_set_new ?_⟩));rw[Around.under_plainId PySem.F.plain_set_new _];unfold Builtin.«set.__new__» Builtin.Frozenset.newClass;have e:=sub_set_self;obtain⟨hp,g,d,tk,os⟩:=s;dsimp only;wp_walk
 refine JL (W1 ?_);dsimp only;simp only[newObj];refine W0 (wpAny_alloc (W1 ?_));exact W1 h
theorem To
  (hi:W5 (model prog w) A.in1.in1 (Builtin.«set.__init__» ⟨[.ref s.heap.objs.size,v],[]⟩)
   (λfin s'=>match fin with | .done f=>wants (λr s₂=>r = .none/\Q (.ref s.heap.objs.size) s₂) E (.ok f) s' | .again c'=>c'.quiet=true/\QK (model prog w) A.in1 c' (wants (λr s₂=>r = .none/\Q (.ref s.heap.objs.size) s₂) E) s')
   (λe s'=>wants (λr s₂=>r = .none/\Q (.ref s.heap.objs.size) s₂) E (.error e) s') { s with heap:=s.heap.push (lW w) }) :
  W5 (model prog w) A (call (.type "set") [v]) Q E s:=by
 obtain⟨c,tl,hmro⟩:=PySem.F.called_set.mro;have g1:=PySem.F.called_set.made;have g2:=PySem.F.called_set.sub;refine wpAny_call (codeAny_of_tree ?_);show W5 _ _ (callAny (.type "set") _) _ _ _;refine W1 ⟨Code.quiet_builtin _ Re,Qd PySem.F.entry_type_call ?_⟩;rw[Around.under_plain (weight_type_call_type "set" [v] []) rfl];have g3:=PySem.F.called_set.notType;have g4:=PySem.F.called_set.canCreate;have g5:=PySem.F.typeCall_set_1 v;repeat (any_goals (first | assumption | wp_step))
 refine JJ (Tn v (E:=E) (Q₁:=λobj s₁=>obj = .ref s.heap.objs.size/\s₁ = { s with heap:=s.heap.push (lW w) }) ⟨rfl,rfl⟩) λr s₁ x=>?_
 cases r with
 | error e=>exact x
 | ok fl =>
  cases fl with
  | ret obj =>
   obtain⟨rfl,rfl⟩:=x;have hT:Shared.TypeIs { s with heap:=s.heap.push (lW w) } (.ref s.heap.objs.size) "set":=⟨_,Wi _ rfl,rfl⟩
   have g6:=PySem.F.called_set.init.lookup;have g7:=PySem.F.called_set.init.bind (.ref s.heap.objs.size);repeat (any_goals (first | assumption | wp_step))
   refine JJ (codeAny_call_builtin (R:=wants (λr s₂=>r = .none/\Q (.ref s.heap.objs.size) s₂) E) PySem.F.called_set.init.plain PySem.F.entry_set_init (check_set_init_1 hT hi)) λr₂ s₂ y=>?_
   cases r₂ with
   | error e=>exact y
   | ok f2 =>
    cases f2 with
    | ret r =>
     obtain⟨rfl,q⟩:=y;repeat (any_goals (first | assumption | wp_step))
    | _=>exact y.elim
  | _=>exact x.elim
theorem xY{α:Type}:∀ (l:List α) (i:Nat) (h:i < l.length),l.Perm (l[i] :: l.eraseIdx i)
 | [],i,h=>by simp at h
 | x :: l,0,h=>.refl _
 | x :: l,i + 1,h=>by
  have:=xY l i (by simpa using h);exact(this.cons x).trans (.swap _ _ _)
theorem Eo{α:Type}(next:Nat->Nat)(xs:Array α):(pickOrder next xs).toList.Perm xs.toList:=by
 have go:∀ (f k:Nat) (left:List α) (out:Array α),left.length=f->(pickOrder.go next f k left out).toList.Perm (out.toList ++ left):=by
  intro f;induction f with
  | zero =>
   intro k left out h;rw[List.eq_nil_of_length_eq_zero h];unfold pickOrder.go;simp
  | succ f ih =>
   intro k left out h;unfold pickOrder.go;have hi:next k % left.length < left.length:=Jd _ Y';rw[Wc hi];simp only;refine(ih _ _ _ (by rw[List.length_eraseIdx_of_lt hi]; lia)).trans ?_;rw[UB,List.append_assoc];exact List.Perm.append_left _ (xY _ _ hi).symm
 have:=go xs.size 0 xs.toList #[] U';simpa[pickOrder] using this
end
theorem Tp:entryFor table "set.__iter__" = some Builtin.«frozenset.__iter__» :=
 entryFor_alias (id':="frozenset.__iter__") (by kernel_rfl) rfl Re (by kernel_rfl)
theorem slot_next:Slot "set_iterator" "__next__" "set_iterator.__next__" :=
 .of (owner:="set_iterator") (n:="__next__") (by rw[typeLookup_type,Ua]; kernel_rfl) Re Re Re
  (by first | exact .inl Re | exact .inr Re) (by rw[isSubtype_type]; kernel_rfl)
theorem ur:entryFor table "set_iterator.__next__" = some Builtin.«set_iterator.__next__»:=entryFor_of_tree (by kernel_rfl)
theorem uu (a:Value):argsOk "set_iterator.__next__" ⟨[a],[]⟩:=by
 unfold argsOk; rw[signature?_of (id:="set_iterator.__next__") (n:="__txen__".toList) (o:="rotareti_tes".toList) (by kernel_rfl) (show Manifest.owners.lookup (String.ofList "rotareti_tes".toList.reverse)=some Manifest.sig_set_iterator by kernel_rfl)]; kernel_rfl
theorem Tq:typeLookup (.type "set") "__len__" = pure (some (.builtin "set.__len__")):=by rw[typeLookup_type,Ua]; kernel_rfl
abbrev bQ (f:Value) (i:Nat) (a:Addr) (n ep:Nat):Obj:={ cls:=.type "set_iterator",data:=.fields #[f,.int i 0,.ref a,.int n 0,.int ep 0] }
section
variable {prog:Wk} {w:Wn} {A:Wr} {E:Value->W2->Prop} {s:W2}
theorem Tr(h0:n≠0)(h:∀ i d,i < n->Q i { s with drawn:=d }):W5 (model prog w) A (choose src n) Q E s:=λΓ p hΓ=>by
 show Sem.wp _ Γ (.choose src n .pure) _ _ p s;rw[Sem.wp_choose];refine⟨h0,?_⟩;exact h _ _ (Jd _ Y')
theorem Ep:∀ (n:Nat) (l:List α) (s:W2) (Q:List α->W2->Prop),l.length=n->(∀ l' d,l'.Perm l->Q l' { s with drawn:=d })->W5 (model prog w) A (drawOrder n l) Q E s
 | 0,l,s,Q,hn,h=>by
  rw[List.eq_nil_of_length_eq_zero hn] at h;exact W1 (h [] s.drawn (.refl _))
 | n + 1,l,s,Q,hn,h=>by
  have e:drawOrder (n + 1) l=(do
    let i <- choose .order l.length
    match l[i]? with
    | some x=>return x :: (<- drawOrder n (l.eraseIdx i))
    | none=>unsupported "internal:drawOrder"):=by
   cases l with
   | nil=>simp at hn
   | cons=>rfl
  rw[e];refine W0 (Tr Y' λi d hi=>?_);rw[Wc hi];refine W0 (Ep n (l.eraseIdx i) _ _ (by rw[List.length_eraseIdx_of_lt hi]; lia) λl' d' pl=>?_);exact W1 (h _ d' ((pl.cons _).trans (xY l i hi).symm))
section
variable {a it:Addr} {ks:List Str} {o:Obj} {es:Array (Int×Value)} {ep:Nat} {t:SetTable} {xs:List (Str×Tok)} {i:Nat}
theorem Er{sl nx:Nat}{v:Value}{Q:Option Value->W2->Prop}(x:cE prog w s.heap a ks o es ep t xs)(hi:s.heap.get? it=some (bQ (.int sl 0) i a es.size ep))
  (hn:∀ E':Value->W2->Prop,W5 (model prog w) A.in1 (setNext a sl i ep) (λr s'=>r=some (v,nx)/\s'=s) E' s)
  (h:∀ h',Qk it s.heap h'->h'.get? it=some (bQ (.int nx 0) (i + 1) a es.size ep)->Q (some v) { s with heap:=h' }):W5 (model prog w) A (Ql (.ref it)) Q E s:=by
 have hT:s.TypeIs (.ref it) "set_iterator":=⟨_,hi,rfl⟩
 unfold Ql;refine W0 (Ul (WM (name:=Str.ofString "__next__") hT slot_next (WJ slot_next hT ur ?_ (uu _))));unfold Builtin.«set_iterator.__next__»;refine W0 (m:=slotArgs "__next__" 0 _) (W1 ?_);refine W0 (Uc hi rfl ?_);dsimp only;refine W0 (JT x.g x.d x.f ?_);rw[if_neg U'];simp only[Qq];refine W0 (WV (hn _) (λr s' ⟨e1,e2⟩=>?_) λ_ _ e=>e);subst e1; subst e2
 dsimp only;refine W0 (Jk hi rfl U' ?_);have g1:=WG (Obj.mapFields (·.setIfInBounds 0 (QQ (nx:Int)))) hi V';refine W0 (Jk (s:={ s' with heap:=_ }) g1 rfl U' ?_);have g2:=WG (Obj.mapFields (·.setIfInBounds 1 (QQ ((i:Int) + 1)))) g1 V';refine W1 ⟨_,rfl,W1 (h _ ((Qo ..).trans (Qo ..)) ?_)⟩;rw[g2];rfl
theorem Es{Q:Option Value->W2->Prop}{f:Value}{n' j:Nat}{v:Value}(hh:A.handled=none)(hi:s.heap.get? it=some (bQ f i a n' ep))(hj:j < 5)
  (h:∀ h',Heap.ExtBut it s.heap h'->Q none { s with heap:=h' }) :
  W5 (model prog w) A.in1 (do
   setField (.ref it) j v
   raiseNew (<- newExc (.type "StopIteration") [])) (λ(_:PySem.Fin) _=>False) (λe s'=>W5 (model prog w) A (do
    if <- isInstance e (.type "StopIteration") then pure none else throw e) Q E s') s:=by
 refine W0 (Jk hi rfl (by simpa using hj) ?_);refine W0 ?_;simp only[newExc,newTuple];refine W0 (WC ?_ (by size_fits));refine W0 (m:=Ub _ _) (wpAny_of_eq (a:=Value.none) (by first | rfl | (simp only[Ub]; rfl)) ?_);refine WC ?_ (by size_fits);simp only[raiseNew];refine W0 (wpAny_handled ?_);rw[show A.in1.handled=none from hh];refine W0 (W1 (wpAny_throw ?_));refine W0 (wpAny_isInstance (T:="StopIteration") (b:=true) ⟨_,Wi _ rfl,rfl⟩ isSubtype_stop ?_);exact W1 (h _ (((Qo ..).extBut.push _).push _))
end
end
section
variable {prog:Wk} {w:Wn} {A:Wr} {E:Value->W2->Prop} {s:W2}
variable {a it:Addr} {ks:List Str} {o:Obj} {es:Array (Int×Value)} {ep:Nat} {t:SetTable} {xs:List (Str×Tok)} {i:Nat}
theorem xZ{sl:Nat}{Q:Option Value->W2->Prop}(hh:A.handled=none)(x:cE prog w s.heap a ks o es ep t xs)(hi:s.heap.get? it=some (bQ (.int sl 0) i a es.size ep))
  (hn:∀ E':Value->W2->Prop,W5 (model prog w) A.in1 (setNext a sl i ep) (λr s'=>r=none/\s'=s) E' s)
  (h:∀ h',Heap.ExtBut it s.heap h'->Q none { s with heap:=h' }):W5 (model prog w) A (Ql (.ref it)) Q E s:=by
 have hT:s.TypeIs (.ref it) "set_iterator":=⟨_,hi,rfl⟩
 unfold Ql;refine W0 (Ul (WM (name:=Str.ofString "__next__") hT slot_next (WJ slot_next hT ur ?_ (uu _))));unfold Builtin.«set_iterator.__next__»;refine W0 (m:=slotArgs "__next__" 0 _) (W1 ?_);refine W0 (Uc hi rfl ?_);dsimp only;refine W0 (JT x.g x.d x.f ?_);rw[if_neg U'];simp only[Qq];refine W0 (WV (hn _) (λr s' ⟨e1,e2⟩=>?_) λ_ _ e=>e);subst e1; subst e2
 dsimp only;exact WV (Es hh hi Z' h) (by grind) λ_ _ e=>e
theorem Ts{T:Addr}{ps:List Nat}{oT:Obj}{nT p:Nat}{hv:Int}{v:Value}{Q:Option Value->W2->Prop}(x:cE prog w s.heap a ks o es ep t xs)(hi:s.heap.get? it=some (bQ (.ref T) i a es.size ep))
  (gT:s.heap.get? T=some oT) (dT:oT.data = .seq (ps.map λj:Nat=>QQ j).toArray nT) (hp:ps[i]? = some p) (x5:es[p]? = some (hv,v))
  (h:∀ h',Qk it s.heap h'->h'.get? it=some (bQ (.ref T) (i + 1) a es.size ep)->Q (some v) { s with heap:=h' }):W5 (model prog w) A (Ql (.ref it)) Q E s:=by
 have hT:s.TypeIs (.ref it) "set_iterator":=⟨_,hi,rfl⟩
 unfold Ql;refine W0 (Ul (WM (name:=Str.ofString "__next__") hT slot_next (WJ slot_next hT ur ?_ (uu _))));unfold Builtin.«set_iterator.__next__»;refine W0 (m:=slotArgs "__next__" 0 _) (W1 ?_);refine W0 (Uc hi rfl ?_);dsimp only;refine W0 (JT x.g x.d x.f ?_);rw[if_neg U'];refine W0 (Jj gT dT ?_);dsimp only;have e1:(ps.map λj:Nat=>QQ j).toArray[i]? = some (.int (p:Int) 0):=by simp[hp,QQ]
 rw[Qq,e1];dsimp only;refine W0 ?_;unfold setNextDrawn;refine W0 (JF x.g x.d x.f ?_);simp only[Qq,bne_self_eq_false,J4,if_false];rw[x5];refine W1 ?_;refine W0 (Jk hi rfl U' ?_);have g2:=WG (Obj.mapFields (·.setIfInBounds 1 (QQ ((i:Int) + 1)))) hi V';refine W1 ⟨_,rfl,W1 (h _ (Qo ..) ?_)⟩;rw[g2];rfl
theorem Tt{T:Addr}{ps:List Nat}{oT:Obj}{nT:Nat}{Q:Option Value->W2->Prop}(hh:A.handled=none)(x:cE prog w s.heap a ks o es ep t xs)(hi:s.heap.get? it=some (bQ (.ref T) i a es.size ep))
  (gT:s.heap.get? T=some oT) (dT:oT.data = .seq (ps.map λj:Nat=>QQ j).toArray nT) (hp:ps[i]? = none)
  (h:∀ h',Heap.ExtBut it s.heap h'->Q none { s with heap:=h' }):W5 (model prog w) A (Ql (.ref it)) Q E s:=by
 have hT:s.TypeIs (.ref it) "set_iterator":=⟨_,hi,rfl⟩
 unfold Ql;refine W0 (Ul (WM (name:=Str.ofString "__next__") hT slot_next (WJ slot_next hT ur ?_ (uu _))));unfold Builtin.«set_iterator.__next__»;refine W0 (m:=slotArgs "__next__" 0 _) (W1 ?_);refine W0 (Uc hi rfl ?_);dsimp only;refine W0 (JT x.g x.d x.f ?_);rw[if_neg U'];refine W0 (Jj gT dT ?_);dsimp only;have e1:(ps.map λj:Nat=>QQ j).toArray[i]? = none:=by simpa using hp
 rw[Qq,e1];dsimp only;refine W0 (Jk hi rfl U' ?_);have g1:(s.heap.update it (Obj.mapFields (·.setIfInBounds 0 (QQ 0)))).get? it=some (bQ (QQ 0) i a es.size ep):=by
  rw[WG (Obj.mapFields (·.setIfInBounds 0 (QQ 0))) hi V'];rfl
 refine WV (Es (s:={ s with heap:=s.heap.update it (Obj.mapFields (·.setIfInBounds 0 (QQ 0))) }) (j:=2) hh g1 Z' λh' eb=>h h' λb ob hb e=>?_) (by grind) λ_ _ e=>e
 exact eb b ob hb ((WF _ _ (Ne.symm hb)).trans e)
theorem Et(hb:bt w=true)(x:cE prog w s.heap a ks o es ep t xs)(E':Value->W2->Prop) :
  W5 (model prog w) A (setNext a 0 i ep) (λr s'=>r=((pickOrder (w.params.setOrder a ep) es)[i]?).map (λe=>(e.2,0))/\s'=s) E' s:=by
 unfold setNext setsByText;refine W0 (JF x.g x.d x.f ?_);dsimp only;refine W0 (W0 (JL (W1 ?_)));have cz:Params.followText w.params "set-order" = true:=hb;show W5 _ _ (if Params.followText w.params "set-order" = true then _ else _) _ _ _;rw[if_pos cz];simp only[bne_self_eq_false,J4,if_false];refine W0 ?_;unfold setWalk setsByText;refine W0 (JF x.g x.d x.f ?_);dsimp only;refine W0 (W0 (JL (W1 ?_)));show W5 _ _ (if Params.followText w.params "set-order" = true then _ else _) _ _ _;rw[if_pos cz];refine W0 (JL ?_);exact W1 (W1 ⟨rfl,rfl⟩)
theorem x6(hb:bt w=false)(x:cE prog w s.heap a ks o es ep t xs)(h1:es.size<=1)(sl:Nat)(E':Value->W2->Prop) :
  W5 (model prog w) A (setNext a sl i ep) (λr s'=>r=(match es[SetTable.below t.place sl]?,t.place[SetTable.below t.place sl]? with | some (_,v),some j=>some (v,j + 1) | _,_=>none)/\s'=s) E' s:=by
 unfold setNext setsByText;refine W0 (JF x.g x.d x.f ?_);dsimp only;refine W0 (W0 (JL (W1 ?_)));have cz:¬ Params.followText w.params "set-order" = true:=by rw[show Params.followText w.params "set-order" = false from hb]; decide
 show W5 _ _ (if Params.followText w.params "set-order" = true then _ else _) _ _ _;rw[if_neg cz];show W5 _ _ (if (!t.plain && decide (es.size > 1))=true then _ else _) _ _ _;rw[if_neg R'];refine W0 ?_;show W5 _ _ (if (!t.led && !es.isEmpty)=true then _ else _) _ _ _;rw[if_neg (by rw[x.l hb]; simp)];exact W1 (W1 ⟨rfl,rfl⟩)
theorem uv{St:Nat->Heap->Prop}{n:Nat}{val:Nat->Value}{S:Addr}{res:Value}{R:Result->W2->Prop}(cq:S≠it)(hn:n<=1000)
  (fr:∀ i h h',St i h->(∀ b ob,b≠S->h.get? b=some ob->h'.get? b=some ob)->St i h')
  (item:∀ (i:Nat) (s:W2) (Q:Option Value->W2->Prop) (E:Value->W2->Prop),i < n->St i s.heap->(∀ h',(∀ b ob,b≠it->s.heap.get? b=some ob->h'.get? b=some ob)->St (i + 1) h'->Q (some (val i)) { s with heap:=h' })->W5 (model prog w) A.in1 (Ql (.ref it)) Q E s)
  (done:∀ (s:W2) (Q:Option Value->W2->Prop) (E:Value->W2->Prop),St n s.heap->(∀ h',(∀ b ob,b≠it->s.heap.get? b=some ob->h'.get? b=some ob)->Q none { s with heap:=h' })->W5 (model prog w) A.in1 (Ql (.ref it)) Q E s) :
  ∀ (k i:Nat) (s:W2) (acc:Array Value) (c:Nat),n - i=k->i<=n->St i s.heap->s.heap.get? S=some { cls:=.type "list",data:=.seq acc c }->acc.toList=(Wd i).map val ->
   (∀ h' fG c',(∀ b ob,b≠S->b≠it->s.heap.get? b=some ob->h'.get? b=some ob)->h'.get? S=some { cls:=.type "list",data:=.seq fG c' }->fG.toList=(Wd n).map val->R (.ok (.ret res)) { s with heap:=h' }) ->
   QK (model prog w) A (.builtin "list.extend.loop" ⟨[.ref S,.ref it,res],[]⟩) R s:=by
 intro k;induction k with
 | zero =>
  intro i s acc c e1 e2 st g ea fin;obtain rfl:i=n:=by lia
  refine Qd PySem.F.entry_extend_loop ?_;rw[Around.under_plainId J7 _];show W5 _ A.in1 (Ql (.ref it) >>= _) _ _ _;refine W0 (done s _ _ st λh' kp=>?_);exact W1 (fin h' acc c (λb ob _ hb e=>kp b ob hb e) (kp S _ cq g) ea)
 | succ k ih =>
  intro i s acc c e1 e2 st g ea fin;refine Qd PySem.F.entry_extend_loop ?_;rw[Around.under_plainId J7 _];show W5 _ A.in1 (Ql (.ref it) >>= _) _ _ _;refine W0 (item i s _ _ Y' st λh' kp eL=>?_);have g':=kp S _ cq g;have za:acc.size=i:=by rw[<- Q2,ea]; simp
  show W5 _ A.in1 (updateSeq S (·.push (val i)) >>= _) _ _ _;refine W0 (Jc (hz:=by rw[za,Jn]; lia) g' rfl ?_);have g2:=WG (Obj.mapSeq (·.push (val i))) g' rfl;refine W1 ⟨Qs J7 _,ih (i + 1) _ (acc.push (val i)) _ Y' Y' (fr _ _ _ eL λb ob hb e=>(WF _ _ (Ne.symm hb)).trans e) g2 (by rw[UB,ea,QU,Q6]; rfl) λh2 fG c' xg g3 bV=>?_⟩;exact fin h2 fG c' (λb ob hb hi e=>xg b ob hb hi ((WF _ _ (Ne.symm hb)).trans (kp b ob hi e))) g3 bV
abbrev fH (ps:List Nat):Obj:={ cls:=.type "tuple",data:=.seq (ps.map λj:Nat=>QQ j).toArray }
theorem Tu(x:cE prog w s.heap a ks o es ep t xs)(hz:es.size<=1000)
  (hI:(bt w=true\/es.size<=1)->Q (.ref s.heap.objs.size) { s with heap:=s.heap.push (bQ (.int 0 0) 0 a es.size ep) })
  (hD:∀ ps d,ps.Perm (Wd es.size)->Q (.ref (s.heap.push (fH ps)).objs.size) { s with heap:=(s.heap.push (fH ps)).push (bQ (.ref s.heap.objs.size) 0 a es.size ep),drawn:=d }):W5 (model prog w) A (pyIter (.ref a)) Q E s:=by
 refine wpAny_pyIter_slot x.so.typeIs PySem.F.slot_set_iter (WJ PySem.F.slot_set_iter x.so.typeIs Tp ?_ (PySem.F.args_set_iter_1 _));unfold Builtin.«frozenset.__iter__»;refine W0 (m:=Builtin.Frozenset.slot0 "__iter__" _) (W1 ?_);unfold Builtin.Frozenset.sizeOf;refine W0 (W0 (JT x.g x.d x.f (W1 ?_)));unfold setDrawn setsByText;refine W0 (W0 (JF x.g x.d x.f ?_));dsimp only;refine W0 (W0 (JL (W1 ?_)));refine W1 ?_;show W5 _ _ (if (!bt w && (!t.plain && decide (es.size > 1)))=true then _ else _) _ _ _;by_cases hc:(!bt w && (!t.plain && decide (es.size > 1)))=true
 ·rw[if_pos hc];refine W0 (Ep es.size (Wd es.size) s _ U' λps d pp=>?_);have hl:ps.length=es.size:=by rw[pp.length_eq,JC]
  unfold newTuple;refine W0 (WC ?_ (by show(ps.map λj:Nat=>QQ j).toArray.size<=Wb; rw[Ws,Wx,hl,Jn]; lia));have x1:cE prog w (s.heap.push (fH ps)) a ks o es ep t xs:={ x with g:=W3 _ x.g }
  refine W0 (wpAny_setEpoch_of (s:={ s with heap:=s.heap.push (fH ps),drawn:=d }) x1.g x1.d x1.f ?_);refine W0 (WC (W1 ⟨_,rfl,"set_iterator",_,⟨_,Wi _ rfl,rfl⟩,slot_next.lookup,?_⟩));exact hD ps d pp
 ·rw[if_neg hc];refine W0 (W1 ?_);refine W0 (wpAny_setEpoch_of x.g x.d x.f ?_);refine W0 (WC (W1 ⟨_,rfl,"set_iterator",_,⟨_,Wi _ rfl,rfl⟩,slot_next.lookup,?_⟩));refine hI ?_
  cases hb:bt w with
  | true=>exact .inl rfl
  | false =>
   right
   rw[hb] at hc;refine Nat.le_of_not_lt λTv=>hc ?_
   have hp:t.plain=false:=by
    cases e:t.plain with
    | false=>rfl
    | true =>
     have hs:es.size=0:=by rw[x.sz,x.q e]; rfl
     lia
   rw[hp];simpa using Tv
theorem Eu(x:fF prog w s.heap a ks)(h:Q false s):W5 (model prog w) A (Builtin.List.listLengthHint (.ref a)) Q E s:=by
 have hT:=x.so.typeIs;unfold Builtin.List.listLengthHint;refine W0 (wpAny_specialOf hT Tq ?_);generalize hid:("set.__len__" : String)=id0;wp_delta
 rw[show splitId id0=some ("set","__len__") from by subst hid; decide +kernel];subst hid;refine W0 (wpAny_isInstance (T:="set") (b:=true) hT (by rw[isSubtype_type]; kernel_rfl) ?_);refine wpAny_ite_split (by grind) (λ_=>?_);refine wpAny_ite_split (λ_=>?_) (λm7=>absurd Re m7);refine W0 (Jt hT ?_);exact W1 h
theorem Tw(hh:A.handled=none)(x:cE prog w s.heap a ks o es ep t xs)(hz:es.size<=1000)(hS:S≠it)(kM:S≠a)(jX:a≠it)(hc:bt w=true\/es.size<=1)
  (hi:s.heap.get? it=some (bQ (.int 0 0) 0 a es.size ep)) (gS:s.heap.get? S=some { cls:=.type "list",data:=.seq #[] c })
  (fin:∀ h' fG c' (zs:List (Str×Tok)),(∀ b ob,b≠S->b≠it->s.heap.get? b=some ob->h'.get? b=some ob)->h'.get? S=some { cls:=.type "list",data:=.seq fG c' }->fG.toList=zs.map (λz=>Value.str z.1 z.2)->(zs.map (·.1)).Perm ks->R (.ok (.ret res)) { s with heap:=h' }) :
  QK (model prog w) A (.builtin "list.extend.loop" ⟨[.ref S,.ref it,res],[]⟩) R s:=by
 have fr:∀ (F:Nat->Value) (i:Nat) (h h':Heap),(h.get? it=some (bQ (F i) i a es.size ep)/\cE prog w h a ks o es ep t xs)->(∀ b ob,b≠S->h.get? b=some ob->h'.get? b=some ob)->(h'.get? it=some (bQ (F i) i a es.size ep)/\cE prog w h' a ks o es ep t xs) :=
  λF i h h' ⟨q1,q2⟩ k=>⟨k _ _ (Ne.symm hS) q1,{ q2 with g:=k _ _ (Ne.symm kM) q2.g }⟩
 cases hb:bt w with
 | true =>
  have pp:=Eo (w.params.setOrder a ep) es;rw[x.e] at pp;obtain⟨zs,ez,pz⟩:=xV pp;have hl:zs.length=es.size:=by
   have:=congrArg QP ez;have q:=(Eo (w.params.setOrder a ep) es).length_eq;simp at this q;lia
  have gt:∀ i,(pickOrder (w.params.setOrder a ep) es)[i]? = (zs[i]?).map (i5 prog w):=λi=>by
   rw[<- QL,ez,Wp]
  refine uv (it:=it) (St:=λi h=>h.get? it=some (bQ (.int 0 0) i a es.size ep)/\cE prog w h a ks o es ep t xs) (n:=es.size) (val:=λi=>((zs[i]?).map λz=>Value.str z.1 z.2).getD .none) hS hz (fr λ_=>.int 0 0) ?item ?done es.size 0 s #[] c Y' (Qn _) ⟨hi,x⟩ gS rfl ?fin
  case item =>
   rintro i s Q E' aP ⟨q1,q2⟩ k;have df:i < zs.length:=by lia
   refine Er (A:=A.in1) (sl:=0) (nx:=0) (v:=Value.str zs[i].1 zs[i].2) q2 q1 (λE2=>WV (Et (i:=i) hb q2 E2) (λr s' ⟨e1,e2⟩=>⟨by rw[e1,gt i,Wc df]; rfl,e2⟩) λ_ _ e=>e) λh' sb g=>?_
   have:((zs[i]?).map λz=>Value.str z.1 z.2).getD .none=Value.str zs[i].1 zs[i].2:=by rw[Wc df]; rfl
   rw[<- this];exact k h' (λb ob cz e=>(sb.2 b cz).trans e) ⟨g,{ q2 with g:=(sb.2 a jX).trans q2.g }⟩
  case done =>
   rintro s Q E' ⟨q1,q2⟩ k;refine xZ (A:=A.in1) (sl:=0) hh q2 q1 (λE2=>WV (Et hb q2 E2) (λr s' ⟨e1,e2⟩=>⟨by rw[e1,gt,WR Y']; rfl,e2⟩) λ_ _ e=>e) λh' eb=>k h' λb ob cz e=>eb b ob cz e
  case fin =>
   intro h' fG c' k g ea;refine fin h' fG c' zs k g ?_ (pz.trans x.p);rw[ea,<- hl];refine Uh U' λi h1 h2=>?_
   simp at h1 h2;simp[h2]
 | false =>
  have h1:es.size<=1:=hc.resolve_left (by rw[hb]; decide);have jW:t.place.size=es.size:=by
   have:=x.f;unfold SetTable.fits at this;simp at this;exact this.1
  have uw:xs.length=es.size:=by
   have:=congrArg QP x.e;simp at this;lia
  by_cases h0:es.size=0
  ·refine uv (it:=it) (St:=λi h=>h.get? it=some (bQ (.int 0 0) i a es.size ep)/\cE prog w h a ks o es ep t xs) (n:=0) (val:=λi=>.none) hS Z' (fr λ_=>.int 0 0) (λi s Q E' aP=>by lia) ?done 0 0 s #[] c rfl (Wa _) ⟨hi,x⟩ gS rfl ?fin
   case done =>
    rintro s Q E' ⟨q1,q2⟩ k;refine xZ (A:=A.in1) (sl:=0) hh q2 q1 (λE2=>WV (x6 hb q2 h1 0 E2) (λr s' ⟨e1,e2⟩=>⟨by
     rw[e1,Array.getElem?_eq_none Y'],e2⟩) λ_ _ e=>e) λh' eb=>k h' λb ob cz e=>eb b ob cz e
   case fin =>
    intro h' fG c' k g ea;have:xs=[]:=List.eq_nil_of_length_eq_zero Y';refine fin h' fG c' xs k g ?_ x.p;rw[ea,this]; rfl
  ·have qaB:es.size=1:=by lia
   obtain⟨z,ez⟩:∃ z,xs=[z]:=by
    match xs,uw with
    | [z],_=>exact⟨z,rfl⟩
    | [],h=>simp at h; lia
    | _ :: _ :: _,h=>simp at h; lia
   obtain⟨j,ej⟩:∃ j,t.place = #[j]:=by
    have:t.place.toList.length=1:=by simp; lia
    match hp:t.place.toList,this with
    | [j],_=>exact⟨j,by rw[<- Array.toArray_toList (xs:=t.place),hp]⟩
   have e0:es[0]? = some (i5 prog w z):=by rw[<- QL,x.e,ez]; rfl
   have b0:SetTable.below t.place 0=0:=by rw[ej]; simp[SetTable.below,SetTable.below.go]
   have b1:SetTable.below t.place (j + 1)=1:=by rw[ej]; simp[SetTable.below,SetTable.below.go]
   refine uv (it:=it) (St:=λi h=>h.get? it=some (bQ (.int ((if i=0 then 0 else j + 1:Nat):Int) 0) i a es.size ep)/\cE prog w h a ks o es ep t xs) (n:=1) (val:=λi=>Value.str z.1 z.2) hS Z' (fr λi=>.int ((if i=0 then 0 else j + 1:Nat):Int) 0) ?item ?done 1 0 s #[] c rfl Z' ⟨hi,x⟩ gS rfl ?fin
   case item =>
    rintro i s Q E' aP ⟨q1,q2⟩ k;obtain rfl:i=0:=by lia
    refine Er (A:=A.in1) (sl:=0) (nx:=j + 1) (v:=Value.str z.1 z.2) q2 q1 (λE2=>WV (x6 (i:=0) hb q2 h1 0 E2) (λr s' ⟨e1,e2⟩=>⟨by
     rw[e1,b0,e0,ej]; rfl,e2⟩) λ_ _ e=>e) λh' sb g=>?_
    exact k h' (λb ob cz e=>(sb.2 b cz).trans e) ⟨g,{ q2 with g:=(sb.2 a jX).trans q2.g }⟩
   case done =>
    rintro s Q E' ⟨q1,q2⟩ k;refine xZ (A:=A.in1) (sl:=j + 1) hh q2 q1 (λE2=>WV (x6 hb q2 h1 (j + 1) E2) (λr s' ⟨e1,e2⟩=>⟨by
     rw[e1,b1,Array.getElem?_eq_none Y'],e2⟩) λ_ _ e=>e) λh' eb=>k h' λb ob cz e=>eb b ob cz e
   case fin =>
    intro h' fG c' k g ea;refine fin h' fG c' xs k g ?_ x.p;rw[ea,ez]; rfl
theorem Tz{S T:Addr}{res:Value}{R:Result->W2->Prop}{c:Nat}{ps:List Nat}(hh:A.handled=none)(x:cE prog w s.heap a ks o es ep t xs)(hz:es.size<=1000)(hS:S≠it)(kM:S≠a)(jX:a≠it)(TB:S≠T)(TC:T≠it)(pp:ps.Perm (Wd es.size))
  (hi:s.heap.get? it=some (bQ (.ref T) 0 a es.size ep)) (gT:s.heap.get? T=some (fH ps)) (gS:s.heap.get? S=some { cls:=.type "list",data:=.seq #[] c })
  (fin:∀ h' fG c' (zs:List (Str×Tok)),(∀ b ob,b≠S->b≠it->s.heap.get? b=some ob->h'.get? b=some ob)->h'.get? S=some { cls:=.type "list",data:=.seq fG c' }->fG.toList=zs.map (λz=>Value.str z.1 z.2)->(zs.map (·.1)).Perm ks->R (.ok (.ret res)) { s with heap:=h' }) :
  QK (model prog w) A (.builtin "list.extend.loop" ⟨[.ref S,.ref it,res],[]⟩) R s:=by
 have hl:ps.length=es.size:=by rw[pp.length_eq,JC]
 have uw:xs.length=es.size:=by
  have:=congrArg QP x.e;simp at this;lia
 have eZ:∀ i (h:i < ps.length),ps[i] < xs.length:=λi h=>by
  have:=WP.mp (pp.mem_iff.mp (QY h));lia
 have ge:∀ p (h:p < xs.length),es[p]? = some (i5 prog w xs[p]):=λp h=>by
  rw[<- QL,x.e,Wp,Wc h]; rfl
 refine uv (it:=it) (St:=λi h=>h.get? it=some (bQ (.ref T) i a es.size ep)/\cE prog w h a ks o es ep t xs/\h.get? T=some (fH ps)) (n:=es.size) (val:=λi=>((ps[i]?).bind λp=>(xs[p]?).map λz=>Value.str z.1 z.2).getD .none) hS hz (λi h h' ⟨q1,q2,q3⟩ k=>⟨k _ _ (Ne.symm hS) q1,{ q2 with g:=k _ _ (Ne.symm kM) q2.g },k _ _ (Ne.symm TB) q3⟩) ?item ?done es.size 0 s #[] c Y' (Qn _) ⟨hi,x,gT⟩ gS rfl ?fin
 case item =>
  rintro i s Q E' aP ⟨q1,q2,q3⟩ k;have df:i < ps.length:=by lia
  have hp:=eZ i df;refine Ts (A:=A.in1) (T:=T) (ps:=ps) (p:=ps[i]) q2 q1 q3 rfl (Wc df) (ge _ hp) λh' sb g=>?_
  have:((ps[i]?).bind λp=>(xs[p]?).map λz=>Value.str z.1 z.2).getD .none=Value.str (xs[ps[i]]).1 (xs[ps[i]]).2:=by
   rw[Wc df,WH,Wc hp]; rfl
  have k2:=k h' (λb ob cz e=>(sb.2 b cz).trans e) ⟨g,{ q2 with g:=(sb.2 a jX).trans q2.g },(sb.2 T TC).trans q3⟩;rw[this] at k2;exact k2
 case done =>
  rintro s Q E' ⟨q1,q2,q3⟩ k;exact Tt (A:=A.in1) (T:=T) (ps:=ps) hh q2 q1 q3 rfl (WR Y') λh' eb=>k h' λb ob cz e=>eb b ob cz e
 case fin =>
  intro h' fG c' k g ea;refine fin h' fG c' (ps.filterMap (xs[·]?)) k g ?_ ?_
  ·rw[ea,<- hl];have all:∀ p ∈ ps,p < xs.length:=λp hp=>by have:=WP.mp (pp.mem_iff.mp hp); lia
   clear pp fin ea g k hl eZ ge hi gT;have:∀ ps:List Nat,(∀ p ∈ ps,p < xs.length)->(Wd ps.length).map (λi=>((ps[i]?).bind λp=>(xs[p]?).map λz=>Value.str z.1 z.2).getD .none)=(ps.filterMap (xs[·]?)).map λz=>Value.str z.1 z.2:=λps=>by
    induction ps with
    | nil=>intro _; rfl
    | cons p ps ih =>
     intro all;have hp:=all p W7;rw[WA,List.range_succ_eq_map,We,Wu];have qc:=ih λq hq=>all q (W9 _ hq)
     have e1:(p :: ps).filterMap (xs[·]?)=xs[p] :: ps.filterMap (xs[·]?):=List.filterMap_cons_some (Wc hp);rw[e1,We,<- qc];simp[Wc hp,Function.comp_def]
   exact this ps all
  ·have p1:(ps.filterMap (xs[·]?)).Perm xs:=by grind[List.filterMap_getElem?_range_length]
   exact(p1.map (·.1)).trans x.p
end
section
variable {prog:Wk} {w:Wn} {A:Wr} {E:Value->W2->Prop} {s:W2}
theorem TF (hh:A.handled=none) (x:cE prog w s.heap a ks o es ep t xs) (hz:es.size<=1000) (kM:S≠a) (gS:s.heap.get? S=some { cls:=.type "list",data:=.seq #[] c0 })
  (fin:∀ (h3:Heap) (d:Drawn) (acc:Array Value) (c:Nat) (ys:List (Str×Tok)),(∀ b ob,b≠S->s.heap.get? b=some ob->h3.get? b=some ob)->h3.get? S=some { cls:=.type "list",data:=.seq acc c }->acc.toList=ys.map (λz=>Value.str z.1 z.2)->(ys.map (·.1)).Perm ks->R (.ok (.ret res)) { s with heap:=h3,drawn:=d }) :
  W5 (model prog w) A.in1 (Builtin.List.listExtendWith (.ref S) (.ref a) res) (λfin s'=>match fin with | .done f=>R (.ok f) s' | .again c'=>c'.quiet=true/\QK (model prog w) A c' R s') (λe s'=>R (.error e) s') s:=by
 have lt:=Wj x.g;have lS:=Wj gS;unfold Builtin.List.listExtendWith;refine W0 (Jt (T:="set") x.so.typeIs ?_);have n1:Builtin.List.listSameRef (.ref S) (.ref a)=false:=by simp only[Builtin.List.listSameRef]; exact beq_eq_false_iff_ne.mpr kM
 have n2:(Value.type "set" == Value.type "list")=false:=by decide
 have n3:(Value.type "set" == Value.type "tuple")=false:=by decide
 simp only[n1,n2,n3,Bool.or_false,J4,if_false];refine W0 (Tu x hz (λhc=>?_) (λps d pp=>?_))
 ·have x2:cE prog w (s.heap.push (bQ (.int 0 0) 0 a es.size ep)) a ks o es ep t xs:={ x with g:=W3 _ x.g }
  have g1:(s.heap.push (bQ (.int 0 0) 0 a es.size ep)).get? S=some { cls:=.type "list",data:=.seq #[] c0 }:=W3 _ gS;have g2:(s.heap.push (bQ (.int 0 0) 0 a es.size ep)).get? s.heap.objs.size=some (bQ (.int 0 0) 0 a es.size ep):=Wi _ rfl;refine W0 (WN (Eu (s:={ s with heap:=s.heap.push (bQ (.int 0 0) 0 a es.size ep) }) ⟨_,_,_,_,_,x2⟩ ?_));refine wpAny_ite_split (λ_=>?_) (λhn=>absurd Z' hn);refine W0 (Jb ?_);refine W0 ?_;show W5 _ _ (updateSeq S (·.push .none) >>= λ_=>updateSeq S (·.pop)) _ _ _;refine W0 (Jc (s:={ s with heap:=s.heap.push (bQ (.int 0 0) 0 a es.size ep) }) g1 rfl ?_);have g4:=WG (Obj.mapSeq (·.push Value.none)) g1 rfl;refine Jc (hz:=by seq_fits) g4 rfl ?_;have g5:=WG (Obj.mapSeq (·.pop)) g4 rfl;have k2:∀ b ob,b≠S->(s.heap.push (bQ (.int 0 0) 0 a es.size ep)).get? b=some ob->(((s.heap.push (bQ (.int 0 0) 0 a es.size ep)).update S (Obj.mapSeq (·.push Value.none))).update S (Obj.mapSeq (·.pop))).get? b=some ob:=λb ob hb e =>
   (WF _ _ (Ne.symm hb)).trans ((WF _ _ (Ne.symm hb)).trans e)
  refine W1 ⟨Qs J7 _,?_⟩;refine Tw (s:={ s with heap:=_ }) hh { x2 with g:=k2 a _ (Ne.symm kM) x2.g } hz (Wo lS) kM (Wo lt) hc (k2 _ _ (QB lS) g2) g5 λh3 acc c' ys k3 g6 ea pp=>fin h3 s.drawn acc c' ys (λb ob hb e=>?_) g6 ea pp
  have lb:=Wj e;exact k3 b ob hb (Wo lb) (k2 b ob hb (W3 _ e))
 ·have zT:(s.heap.push (fH ps)).objs.size=s.heap.objs.size + 1:=QE _ _;have x2:cE prog w ((s.heap.push (fH ps)).push (bQ (.ref s.heap.objs.size) 0 a es.size ep)) a ks o es ep t xs:={ x with g:=W3 _ (W3 _ x.g) }
  have g1:((s.heap.push (fH ps)).push (bQ (.ref s.heap.objs.size) 0 a es.size ep)).get? S=some { cls:=.type "list",data:=.seq #[] c0 }:=W3 _ (W3 _ gS);have g2:((s.heap.push (fH ps)).push (bQ (.ref s.heap.objs.size) 0 a es.size ep)).get? (s.heap.push (fH ps)).objs.size=some (bQ (.ref s.heap.objs.size) 0 a es.size ep):=Wi _ rfl;have gT:((s.heap.push (fH ps)).push (bQ (.ref s.heap.objs.size) 0 a es.size ep)).get? s.heap.objs.size=some (fH ps):=W3 _ (Wi _ rfl);have lI:S < (s.heap.push (fH ps)).objs.size:=by rw[zT]; exact Qp lS
  refine W0 (WN (Eu (s:={ s with heap:=(s.heap.push (fH ps)).push (bQ (.ref s.heap.objs.size) 0 a es.size ep),drawn:=d }) ⟨_,_,_,_,_,x2⟩ ?_));refine wpAny_ite_split (λ_=>?_) (λhn=>absurd Z' hn);refine W0 (Jb ?_);refine W0 ?_;show W5 _ _ (updateSeq S (·.push .none) >>= λ_=>updateSeq S (·.pop)) _ _ _;refine W0 (Jc (s:={ s with heap:=(s.heap.push (fH ps)).push (bQ (.ref s.heap.objs.size) 0 a es.size ep),drawn:=d }) g1 rfl ?_);have g4:=WG (Obj.mapSeq (·.push Value.none)) g1 rfl;refine Jc (hz:=by seq_fits) g4 rfl ?_;have g5:=WG (Obj.mapSeq (·.pop)) g4 rfl;have k2:∀ b ob,b≠S->((s.heap.push (fH ps)).push (bQ (.ref s.heap.objs.size) 0 a es.size ep)).get? b=some ob->((((s.heap.push (fH ps)).push (bQ (.ref s.heap.objs.size) 0 a es.size ep)).update S (Obj.mapSeq (·.push Value.none))).update S (Obj.mapSeq (·.pop))).get? b=some ob:=λb ob hb e =>
   (WF _ _ (Ne.symm hb)).trans ((WF _ _ (Ne.symm hb)).trans e)
  refine W1 ⟨Qs J7 _,?_⟩;refine Tz (s:={ s with heap:=_,drawn:=d }) (T:=s.heap.objs.size) (ps:=ps) hh { x2 with g:=k2 a _ (Ne.symm kM) x2.g } hz (Wo lI) kM (Wo (by rw[zT]; exact Qp lt)) (Wo lS) (by rw[zT]; exact Wo (Nat.lt_succ_self _)) pp (k2 _ _ (QB lI) g2) (k2 _ _ (QB lS) gT) g5 λh3 acc c' ys k3 g6 ea pp=>fin h3 d acc c' ys (λb ob hb e=>?_) g6 ea pp
  have lb:=Wj e;exact k3 b ob hb (Wo (by rw[zT]; exact Qp lb)) (k2 b ob hb (W3 _ (W3 _ e)))
theorem TJ(hh:A.handled=none)(hA:fF prog w s.heap a ks)(hn:ks.length<=1000)
  (h:∀ (h':Heap) (d:Drawn) (zs:List (Str×Tok)),(zs.map (·.1)).Perm ks->(∀ b o,s.heap.get? b=some o->h'.get? b=some o)->s.heap.objs.size < h'.objs.size->Q (zs.map λz=>Value.str z.1 z.2) { s with heap:=h',drawn:=d }):W5 (model prog w) A (collect (.ref a)) Q E s:=by
 obtain⟨o,es,ep,t,xs,x⟩:=hA;have hz:es.size<=1000:=by rw[x.sz]; exact hn
 have lt:=Wj x.g;unfold collect;refine W0 (wpAny_runValue (Qd PySem.F.entry_proto_collect ?_));rw[Around.under_plainId PySem.F.plain_proto_collect _];show W5 _ A.in1 (newList [] >>= λl=>again (.builtin "list.__iadd__" ⟨[l,.ref a],[]⟩)) _ _ s;refine W0 (WC ?_);refine W1 ⟨Qs PySem.F.plain_list_iadd _,Qd PySem.F.entry_list_iadd ?_⟩;rw[Around.under_plainId PySem.F.plain_list_iadd _];generalize hL:({ cls:=.type "list",data:=.seq ([]:List Value).toArray }:Obj)=L0;have g0:(s.heap.push L0).get? s.heap.objs.size=some { cls:=.type "list",data:=.seq #[] }:=by rw[<- hL]; exact Wi _ rfl
 have x1:cE prog w (s.heap.push L0) a ks o es ep t xs:={ x with g:=W3 _ x.g }
 show W5 _ A.in1 (Builtin.List.listExtendWith (.ref s.heap.objs.size) (.ref a) (.ref s.heap.objs.size)) _ _ _;have key:=TF (A:=A) (s:={ s with heap:=s.heap.push L0 }) (res:=.ref s.heap.objs.size) (R:=λq s'=>∃ (h3:Heap) (d:Drawn) (acc:Array Value) (c:Nat) (ys:List (Str×Tok)),q = .ok (.ret (.ref s.heap.objs.size))/\s' = { s with heap:=h3,drawn:=d }/\(∀ b ob,s.heap.get? b=some ob->h3.get? b=some ob)/\h3.get? s.heap.objs.size=some { cls:=.type "list",data:=.seq acc c }/\acc.toList=ys.map (λz=>Value.str z.1 z.2)/\(ys.map (·.1)).Perm ks) hh x1 hz (QB lt) g0 λh3 d acc c ys k3 g3 ea pp =>
  ⟨h3,d,acc,c,ys,rfl,rfl,λb ob e=>k3 b ob (Wo (Wj e)) (W3 _ e),g3,ea,pp⟩
 have last:∀ (h3:Heap) (d:Drawn) (acc:Array Value) (c:Nat) (ys:List (Str×Tok)),(∀ b ob,s.heap.get? b=some ob->h3.get? b=some ob)->h3.get? s.heap.objs.size=some { cls:=.type "list",data:=.seq acc c }->acc.toList=ys.map (λz=>Value.str z.1 z.2)->(ys.map (·.1)).Perm ks ->
   W5 (model prog w) A (do
    match (<- load s.heap.objs.size).data with
    | .seq xs _=>pure xs.toList
    | _=>unsupported "internal:collect") Q E { s with heap:=h3,drawn:=d }:=λh3 d acc c ys k3 g3 ea pp=>by
  refine W0 (wpAny_load g3 ?_);refine W1 ?_;show Q acc.toList _;rw[ea];exact h h3 d ys pp k3 (Wj g3)
 refine WV key (λfin s' z=>?_) λe s' z=>?_
 ·cases fin with
  | done f =>
   obtain⟨h3,d,acc,c,ys,e,rfl,k3,g3,ea,pp⟩:=z
   cases e;exact last h3 d acc c ys k3 g3 ea pp
  | again c₁ =>
   refine⟨z.1,JJ z.2 λq s₂ y=>?_⟩;obtain⟨h3,d,acc,c,ys,rfl,rfl,k3,g3,ea,pp⟩:=y;exact last h3 d acc c ys k3 g3 ea pp
 ·obtain⟨_,_,_,_,_,e',_⟩:=z
  cases e'
theorem TK(zs:List (Str×Tok)):StrsAre (zs.map λz=>Value.str z.1 z.2) (zs.map (·.1)):=by
 induction zs with
 | nil=>exact .nil
 | cons z zs ih=>exact .cons _ _ ih
theorem TL(hh:A.handled=none)(hA:fF prog w s.heap a ks)(hn:ks.length < 64)
  (h:∀ (h':Heap) (d:Drawn) (p:Addr) (e:Nat) (out:Array Value) (ss:List Str),StrsAre out.toList ss->ss.Perm ks->sortedS ss=true->(∀ b o,s.heap.get? b=some o->h'.get? b=some o)->s.heap.objs.size<=p->h'.get? p=some (seqObj "list" out e)->Q (.ref p) { s with heap:=h',drawn:=d }) :
  W5 (model prog w) A (call (.builtin "sorted") [.ref a]) Q E s:=by
 refine Calls.call_function_entry kind_sorted plain_sorted entry_sorted (args_sorted1 _) ?_;unfold Builtin.«sorted»;refine W0 (m:=checkCount "sorted" 1 1 _) (W1 (W0 (TJ (A:=A.in1) hh hA Y' λh1 d zs pz k1 hz=>?_)));have hl:(zs.map λz=>Value.str z.1 z.2).length < 64:=by have:=pz.length_eq; simp at this ⊢; lia
 refine W0 (wpAny_newList ?_ (by rw[Jn]; lia));have hS:=TK zs;generalize (zs.map λz=>Value.str z.1 z.2)=vs at hl hS ⊢;have ho:(h1.push (seqObj "list" vs.toArray 0)).get? h1.objs.size=some (seqObj "list" vs.toArray 0):=Wi _ rfl;refine W0 (WN (WJ slot_list_sort ⟨_,ho,rfl⟩ entry_list_sort (list_sort_treeK (s:={ s with heap:=h1.push (seqObj "list" vs.toArray 0),drawn:=d }) strKind_oneLt ho hS.keysOf (λv₁ v₂ rest e=>keyKind_strs (by rw[<- e]; exact hS)) hl λeL hp hs=>⟨_,rfl,?_⟩) (args_list_sort _)));obtain⟨ss',q1,q2,q3⟩:=sorted_out_str hS hp hs;obtain⟨e,he⟩:=sortedHeap_at (out:=(arrOf eL).map (·.2)) ho;refine W1 ⟨_,rfl,h _ d h1.objs.size e _ ss' q1 (q2.trans pz) q3 (λb o q=>?_) (J9 hz) he⟩;have r1:=k1 b o q;have lb:=Wj r1;rw[sortedHeap_old (Wo lb) (by rw[size_push']; exact Qp lb)];exact W3 _ r1
end
end SU
set_option maxHeartbeats 400000
namespace L2
open PySem PySem.Spec PyProof.Rows PySem.W DV SU
def lX(X:Cx)(a:Addr)(ks:List Str):HO:=.ext λh=>fF X.prog X.w h a ks
theorem TM(x:fF X.prog X.w h a ks):bF X.prog X.w H h a (lX X a ks):=by
 refine⟨x,?_,λh1 h2 y k=>y.at' k⟩;obtain⟨o,es,ep,t,xs,z⟩:=x;exact⟨o,z.g⟩
theorem TN(ok:bN X.prog X.w H h)(e:H a=some (lX X a ks)):fF X.prog X.w h a ks :=
 (show bF X.prog X.w H h a (lX X a ks) from ok a _ e).1
section
variable {X:Cx}
theorem Inv.drawn(I:Inv X pins σ H s)(d:Drawn):Inv X pins σ H { s with drawn:=d } :=
 ⟨I.ok,I.os,I.bare,I.base,I.loc,I.cell,I.free,I.hV,I.pin,I.ax,I.len⟩
theorem Ew:∀ {vs:List Value} {ss:List Str},StrsAre vs ss->Vals (ss.map V.str) vs
 | _,_,.nil=>.nil
 | _,_,.cons x t h=>.cons ⟨t,rfl⟩ (Ew h)
theorem TQ (hc:X.calm=true):eA X (.builtin "sorted") (λxs H Q=>∃ (a:Addr) (ts:List Tx),xs=[.ref a]/\H a=some (lX X a (ts.map toS))/\ts.length < 64/\∀ p,H p=none->Q (.ref p) (upd H p (.lst ((iQ ts).map λz=>V.str (toS z))))):=by
 intro pins s σ H xs us Q I r h;obtain⟨a,ts,rfl,ha,hz,q⟩:=h;obtain⟨u,rfl,ru⟩:=h_ r
 cases ru;refine TL (I.ok.hd hc) (TN I.ax ha) (by simpa using hz) λh' d p e out ss hS hp hs k Ex g=>?_
 have e2:ss=(iQ ts).map toS:=by
  have TR:(ss.map λz:Str=>z.cps.toList).Pairwise iR:=by
   cases ss with
   | nil=>simp
   | cons x r=>exact Cd x r hs
  have TU:(ss.map λz:Str=>z.cps.toList).Perm ts:=by
   have:=hp.map λz:Str=>z.cps.toList
   rw[Wu] at this;have e2:ts.map ((λz:Str=>z.cps.toList) ∘ toS)=ts:=by
    rw[show((λz:Str=>z.cps.toList) ∘ toS)=id from funext λz=>sZ z,List.map_id]
   rw[e2] at this;exact this
  rw[<- OD TU TR,Wu];rw[show(toS ∘ λz:Str=>z.cps.toList)=id from funext λz=>(BW z).symm,List.map_id]
 have rv:Vals ((iQ ts).map λz=>V.str (toS z)) out.toList:=by
  have:=Ew hS;rw[e2,Wu] at this;exact this
 have hl:(iQ ts).length=ts.length:=(wL ts).length_eq;have I1:=(I.drawn d).laid (h':=h') (t':=s.toks) (o:=.lst ((iQ ts).map λz=>V.str (toS z))) k Ex (show bF X.prog X.w _ _ _ (.lst _) from⟨by rw[Wx,hl,Jn]; lia,out.toList,e,rv,g⟩);exact⟨.ref _,_,I1,rfl,q _ (I.ax.fresh Ex)⟩
end
end L2
namespace DV
open PySem PySem.Spec PyProof.Rows L2
theorem TV(c:Nat)(z:List Nat):(m5 c z 0 z.length).length=z.count c:=by
 have key:∀ (z pre:List Nat),((List.range' pre.length z.length).filter λi=>decide ((pre ++ z)[i]? = some c)).length=z.count c:=λz=>by
  induction z with
  | nil=>intro pre; rfl
  | cons x z ih =>
   intro pre;have h:=ih (pre ++ [x]);rw[WT,List.length_singleton] at h;rw[WA,UI,List.filter_cons];have e:(pre ++ x :: z)[pre.length]? = some x:=by simp
   have e2:pre ++ [x] ++ z=pre ++ x :: z:=by simp
   rw[e2] at h;rw[e,List.count_cons];by_cases hc:x=c
   ·subst hc;simp[h]
   ·have:¬ (some x=some c):=by simpa using hc
    simp[hc,h]
 exact key z []
section
variable {X:Cx}
theorem TY:v3 X "str.count" (λx vs H Q=>∃ (z:Tx) (c:Nat),x = .str (toS z)/\vs=[.str (toS [c])]/\Q (.int (z.count c:Nat)) H):=by
 intro pins s σ H x vs v us Q I rx rv h;obtain⟨z,c,rfl,rfl,q⟩:=h;obtain⟨t,rfl⟩:=rx;obtain⟨u,rfl,ru⟩:=rv.one;obtain⟨tu,rfl⟩:=ru;refine call_gives PySem.F.slot_str_count (typeIs_str _ _ _) PySem.F.entry_str_count (PySem.F.args_str_count_2 _ _) (gives_str_count (toS z) (toS [c]) t tu) ?_;have e:(PySem.Builtin.Str.occurrences (toS z) (toS [c]) 0 (toS z).length ((toS z).length + 1)).length=z.count c:=by
  have:=SD c z;have e1:toS z = ⟨z.toArray⟩:=rfl;have e2:toS [c] = ⟨#[c]⟩:=rfl;rw[iP,e1,e2,this,TV]
 rw[e];exact⟨.int (z.count c:Nat),H,I.tok _,⟨_,rfl⟩,q⟩
end
noncomputable def Ey:D->D->Option S
 | .str z,.str [c]=>some (.pure (.int (z.count c:Nat)))
 | _,_=>none
noncomputable def Ez:D->Bool
 | .str _=>true
 | _=>false
def lY(fa fb:DE):DE:=λδ=>(fa δ).bind λx δ1=>if Ez x.d=true then(fb δ1).bind λy δ2=>p2 Ey x.d y.d δ2 else .stuck
section
variable {X:Cx} {c:Fc} {o e:Expr} {fa fb:DE}
theorem TZ(he:SE X c o fa)(hx:SE X c e fb)
  (mx:Qr o "count" X.env (eval o X.env)=eval o X.env:=by rfl)
  (my:((Qi aO (Wh [e] X.env)).all (λx=>!x.1) && (Uf aO (Jo [] X.env)).all (λx=>x.1.isSome)
   && decide ([e].length + ([]:List Keyword).length + (if ([]:List Keyword).isEmpty then 0 else 1) < 30))=true:=by rfl)
  (gQ:(apos.endLine == aO.line)=true:=by rfl) (hs:Wh [e] X.env=(false,eval e X.env) :: Wh [] X.env:=by rfl) :
  SE X c (.Call (.Attribute o "count" apos) [e] [] aO) (lY fa fb):=by
 refine PE.weak (v7 PySem.F.plainAttrs_str PySem.F.slot_str_count PySem.F.type_str_count TY he (fw hx gz hs) mx my gQ hs rfl) λσ H Q h=>?_
 obtain⟨δ,k,q⟩:=h;unfold lY at q;rw[aU] at q;refine⟨δ,k,aJ q λr δ1 q1 v H1 a1 r1=>?_⟩;split at q1
 case isFalse=>exact q1.elim
 rename_i hL;obtain⟨z,ez⟩:∃ z,r.d = .str z:=by
  cases hd:r.d <;> first | exact⟨_,rfl⟩ | (rw[hd] at hL; cases hL)
 have T4:bU c σ δ1 H1 v (.str z):=by rw[<- ez]; exact .inl r1.rep
 have ev:=T4.str;subst ev;rw[aU] at q1;refine⟨rfl,δ1,a1.ok,aJ q1 λy δ2 q2 u H2 a2 r2=>?_⟩;rw[ez] at q2;unfold p2 at q2;have hy:=r2.b;generalize y.d=dy at q2 hy
 cases dy with
 | str w =>
  match w,q2,hy with
  | [n],q2,hy =>
   have eu:=hy.str;subst eu;exact⟨z,n,rfl,rfl,q2 _ H2 (a1.trans a2) (.int _)⟩
  | [],q2,_=>exact q2.elim
  | _ :: _ :: _,q2,_=>exact q2.elim
 | _=>exact q2.elim
end
end DV
set_option maxHeartbeats 3200000
namespace SU
open PySem PyProof.Rows
theorem T5:isSubtype (.type "str") (.type "set")=pure false:=by rw[isSubtype_type]; kernel_rfl
theorem T6:isSubtype (.type "str") (.type "frozenset")=pure false:=by rw[isSubtype_type]; kernel_rfl
section
variable {prog:Wk} {w:Wn} {A:Wr} {E:Value->W2->Prop} {s:W2}
theorem T7(hh:A.handled=none)(hb:x.cps.size + 1 < Uu)
  (h:∀ (h':Heap) (tk:Nat),fF prog w h' s.heap.objs.size (fm (λi=>⟨#[x.cps.getD i 0]⟩) x.cps.size)->(∀ b o,s.heap.get? b=some o->h'.get? b=some o)->Q (.ref s.heap.objs.size) { s with heap:=h',toks:=tk }) :
  W5 (model prog w) A (call (.type "set") [.str x t]) Q E s:=by
 refine To ?_;have e1:=T5;have e2:=T6;have e3:(Value.type "str" == Value.type "dict")=false:=by decide
 unfold Builtin.«set.__init__» noKeywords Builtin.Frozenset.updateFrom;generalize hPI:pyIter=PI;wp_walk
 subst hPI;refine wpAny_pyIter_str λo St W cU=>?_
 refine W0 (wpAny_runValue ?_);have T8:A.in1.in1.in1.handled=none:=by simp[hh]
 have T9:s.heap.objs.size ∉ [(s.heap.push (lW w)).objs.size]:=by
  rw[QE,QM];exact Wo (Nat.lt_succ_self _)
 refine Tg ((W _ T8).toS) s.heap.objs.size T9 (λi=>⟨#[x.cps.getD i 0]⟩) (λi v ⟨c,u,e,ev⟩=>⟨u,by rw[ev,Array.getD_eq_getD_getElem?,e]; rfl⟩) hb (x.cps.size - 0) 0 _ Y' (Qn _) cU ((Tj s.heap).at' λo' e=>W3 _ e) λs' mv z=>?_
 obtain⟨h',g',d',mW,os'⟩:=s';have q1:g'=s.gens:=mv.gens;have q2:d'=s.drawn:=mv.drawn;have q3:os'=s.os:=mv.os;subst q1; subst q2; subst q3
 show W5 _ _ _ _ _ _;refine W1 ?_;show W5 _ _ (ret Value.none) _ _ _;refine W1 ⟨rfl,h h' mW z λb ob e=>?_⟩;have lb:=Wj e;refine mv.heap b ob ?_ (W3 _ (W3 _ e));rw[QE];simp only[Wq,List.not_mem_nil,or_false,not_or];exact⟨Wo lb,Wo (Qp lb)⟩
end
end SU
set_option maxHeartbeats 1000000
namespace DV
open PySem (sizeLine)
open L2
section
variable {α β:Type}
@[simp] theorem jY (a:α) (δ:Dl) (f:α->Dl->Rs β):(Rs.ok a δ).bind f=f a δ:=id rfl
@[simp] theorem zdJ (f:α->Dl->Rs β):(Rs.stuck:Rs α).bind f = .stuck:=id rfl
@[simp] theorem T_ (d:D):(S.pure d).d=d:=id rfl
@[simp] theorem qaC (d:D):(S.own d).d=d:=id rfl
end
section
variable (δ:Dl) (i:Nat) (d e:D) (f g:DE) (fb:BE) (t u:DT) (p:D->D->Option S)
@[simp] theorem qaD:eD d δ = .ok (.pure d) δ:=id rfl
@[simp] theorem UP:aw f δ=(f δ).bind λr δ'=>.ok r.d δ':=id rfl
@[simp] theorem UQ:aE p f fb δ=(f δ).bind λx δ1=>(fb δ1).bind λy δ2=>p2 p x.d y δ2:=id rfl
@[simp] theorem qaE:kz t u δ=(t δ).bind λb δ1=>if b then u δ1 else .ok false δ1:=id rfl
@[simp] theorem qaF:gF t u δ=(t δ).bind λb δ1=>if b then .ok true δ1 else u δ1:=id rfl
@[simp] theorem qaG:fA t δ=(t δ).bind λb δ1=>.ok (!b) δ1:=id rfl
@[simp] theorem qaH:ON t f g δ=(t δ).bind λb δ1=>if b then f δ1 else g δ1:=id rfl
@[simp] theorem qaI:cC δ = .ok .next δ:=id rfl
@[simp] theorem qaJ:bW δ = .ok true δ:=id rfl
@[simp] theorem qaK:du f δ=(f δ).bind λ_ δ1=>.ok .next δ1:=id rfl
@[simp] theorem qaL:bA f δ=(f δ).bind λr δ1=>.ok (.ret r) δ1:=id rfl
@[simp] theorem qaM (a b:DS):cx t a b δ=(t δ).bind λx δ1=>if x then a δ1 else b δ1:=id rfl
@[simp] theorem UR (it:DI) (gg:DG) (b:DS):bx it gg b δ=(it δ).bind λds δ1=>forL gg b ds δ1:=id rfl
@[simp] theorem qaN (a:DA):cj a δ=(a δ).bind λds δ'=>.ok (.pure (.tup ds)) δ':=id rfl
@[simp] theorem qaO (a:DA):fD a δ=(a δ).bind λds δ'=>.ok (.own (.lst ds)) δ':=id rfl
@[simp] theorem qaP (ds:List D):ub ds δ = .ok (.own (.lst ds)) δ:=id rfl
@[simp] theorem qaQ:bG δ = .ok [] δ:=id rfl
@[simp] theorem qaR (a:DA):aT f a δ=(f δ).bind λx δ1=>(a δ1).bind λxs δ2=>.ok (x.d :: xs) δ2:=id rfl
@[simp] theorem US (q:D->Option S):aR q fb δ=(fb δ).bind λx δ1=>p1 q x δ1:=id rfl
@[simp] theorem qaS:qo f g δ=(f δ).bind λx δ1=>(g δ1).bind λy δ2=>p2 wV x.d y.d δ2:=id rfl
@[simp] theorem qaT (fl fh:lJ):qq f fl fh δ=(f δ).bind λx δ1=>(fl δ1).bind λl δ2=>(fh δ2).bind λh δ3=>p1 (gH l h) x.d δ3:=id rfl
@[simp] theorem qaU:qp δ = .ok none δ:=id rfl
@[simp] theorem x8 (cs:List Nat) (it:DI) (gg:DG) (el:DE):cV cs it gg t el δ=(it δ).bind λds δ1=>if cs.any (bC δ1) then .stuck else
 (cK cs gg t el ds (bj cs δ1) []).bind λacc δ2=>.ok (.own (.lst acc)) (cJ cs δ1 δ2):=id rfl
@[simp] theorem qaV (np:List Nat) (r:S):ae np i r δ=if np.contains i then none else some (δ.set i (some r)):=id rfl
@[simp] theorem zgZ (gg:DG) (b:DS):forL gg b [] δ = .ok .next δ:=id rfl
end
section
variable (δ:Dl) (i:Nat) (d e:D) (f g:DE) (fb:BE) (p:D->D->Option S) (s:S)
@[simp] theorem UT (x y:D):p2 p x y δ=match p x y with | some s=>.ok s δ | none=>.stuck:=id rfl
@[simp] theorem UU (q:D->Option S) (x:D):p1 q x δ=match q x with | some s=>.ok s δ | none=>.stuck:=id rfl
@[simp] theorem EA (a b:DS):aq a b δ=(a δ).bind λfl δ1=>match fl with | .next=>b δ1 | .ret r=>.ok (.ret r) δ1 | .brk=>.ok .brk δ1 | .cont=>.ok .cont δ1:=id rfl
@[simp] theorem zhl {α β:Type} (c:Prop) [Decidable c] (x y:Rs α) (k:α->Dl->Rs β):(if c then x else y).bind k=if c then x.bind k else y.bind k:=by split <;> rfl
end
theorem dA:Wb=16777216:=rfl
theorem m_(xs:List α)(i:Nat):eE xs (i:Int)=xs[i]?:=by
 unfold eE ib;by_cases h:i < xs.length
 ·rw[if_pos Y',if_pos Y'];simp
 ·rw[if_pos Y',if_neg Y'];simp[WR (Nat.le_of_not_lt h)]
theorem ux(xs:List α):eE xs 2=xs[2]?:=m_ xs 2
theorem oE(xs:List α):eE xs 0=xs[0]?:=m_ xs 0
theorem uy(xs:List α):eE xs 1=xs[1]?:=m_ xs 1
theorem x9(I:Dl->Prop)(R:D->D->Prop) :
  ∀ (ds:List D) (δ:Dl) (acc:List D),I δ->acc.length + ds.length<=Wb ->
   (∀ d ∈ ds,∀ δ,I δ->∃ δ1 δ2 x δ3,g (.pure d) δ=some δ1/\t δ1 = .ok true δ2/\el δ2 = .ok x δ3/\I (bj cs δ3)/\R d x.d) ->
   ∃ xs δ',cK cs g t el ds δ acc = .ok (acc ++ xs) δ'/\I δ'/\xs.length=ds.length/\∀ (i:Nat) d x,ds[i]? = some d->xs[i]? = some x->R d x
 | [],δ,acc,h,_,_=>⟨[],δ,by simp[cK],h,rfl,λi d x e=>by simp at e⟩
 | d :: r,δ,acc,h,hl,hs=>by
  obtain⟨δ1,δ2,x,δ3,e1,e2,e3,h3,hr⟩:=hs d W7 δ h;have jK:acc.length < Wb:=by simp at hl; lia
  obtain⟨xs,δ',e4,h4,hn,hf⟩:=x9 (g:=g) (t:=t) (el:=el) I R r (bj cs δ3) (acc ++ [x.d]) h3 P3 (λd hd=>hs d (W9 _ hd));refine⟨x.d :: xs,δ',?_,h4,by simp[hn],λi d' x' f1 f2=>?_⟩
  ·unfold cK;simp_all
  ·cases i with
   | zero=>simp at f1 f2; subst f1 f2; exact hr
   | succ i=>exact hf i d' x' (by simpa using f1) (by simpa using f2)
theorem UW(F:D->D)(δ:Dl) :
  ∀ (ds:List D) (acc:List D),acc.length + ds.length<=Wb ->
   (∀ d ∈ ds,∃ δ1 δ2 x δ3,g (.pure d) δ=some δ1/\t δ1 = .ok true δ2/\el δ2 = .ok x δ3/\bj cs δ3=δ/\x.d=F d) ->
   cK cs g t el ds δ acc = .ok (acc ++ ds.map F) δ:=by
 intro ds acc hl hs;obtain⟨xs,δ',e,h,hn,hf⟩:=x9 (cs:=cs) (g:=g) (t:=t) (el:=el) (λδ'=>δ'=δ) (λd x=>x=F d) ds δ acc rfl hl (λd hd δ' h=>by
  subst h;obtain⟨δ1,δ2,x,δ3,a,b,c,d,e⟩:=hs d hd;exact⟨δ1,δ2,x,δ3,a,b,c,d,e⟩)
 subst h;rw[e];congr 2
 apply U8;intro i;by_cases hi:i < ds.length
 ·have:=hf i ds[i] (xs[i]' Y') (by simp[hi]) (by simp[hn,hi]);simp[hn,hi,this]
 ·rw[WR Y',WR R']
theorem jZ(I:Nat->Dl->Prop) :
  ∀ (ds:List D) (n:Nat) (δ:Dl),I n δ ->
   (∀ (i:Nat) d δ,ds[i]? = some d->I (n + i) δ->∃ δ1 δ2,g (.pure d) δ=some δ1/\b δ1 = .ok .next δ2/\I (n + i + 1) δ2) ->
   ∃ δ',forL g b ds δ = .ok .next δ'/\I (n + ds.length) δ'
 | [],n,δ,h,_=>⟨δ,rfl,h⟩
 | d :: r,n,δ,h,hs=>by
  obtain⟨δ1,δ2,e1,e2,h2⟩:=hs 0 d δ rfl h;obtain⟨δ',e3,h3⟩:=jZ (g:=g) (b:=b) I r (n + 1) δ2 h2 (λi d' δ' e hi=>by
   have:=hs (i + 1) d' δ' (by simpa using e) (by rw[show n + (i + 1)=n + 1 + i by lia]; exact hi);rw[show n + (i + 1) + 1=n + 1 + i + 1 by lia] at this;exact this)
  refine⟨δ',?_,by rw[WA,show n + (r.length + 1)=n + 1 + r.length by lia]; exact h3⟩;unfold forL;rw[e1];simp only[e2,jY,e3]
theorem x_(xs:List Tx):gX (xs.map .str)=some xs:=by
 induction xs with
 | nil=>rfl
 | cons x r ih=>simp[gX,ih]
theorem uz:∀ ts:List Tx,ji [] ts=ts.flatten
 | []=>rfl
 | [x]=>by simp[ji]
 | x :: y :: r=>by rw[ji,uz (y :: r)]; simp
theorem UX(xs:List Nat):gI (xs.map λn=>[n])=xs.length:=by
 unfold gI;induction xs with
 | nil=>rfl
 | cons x r ih=>simp at ih ⊢; lia
theorem UY(xs:List Nat):(xs.map λn=>[n]).flatten=xs:=by
 induction xs with
 | nil=>rfl
 | cons x r ih=>simp[ih]
theorem UZ(xs:List Nat)(h:xs.length<=16777216):dQ [] (.lst (xs.map λn=>.str [n]))=some (.pure (.str xs)):=by
 have e:(xs.map λn=>D.str [n])=(xs.map λn=>[n]).map D.str:=by simp
 unfold dQ;simp only[e,x_,UX,uz,UY];rw[if_pos (by simpa using h)]
theorem EB(r:Tx)(c:Nat)(h:c < r.length)(hl:r.length<=64):az (.str r) (.int c)=some (.pure (.str [r.getD c 0])):=by
 unfold az;have:Wb=16777216:=rfl;simp only;rw[if_pos Y',m_];simp[h]
theorem U_(r:Tx)(hl:r.length<=64):cN (.str r)=some (.pure (.int r.length)):=by
 unfold cN;have:Wb=16777216:=rfl;simp only;rw[if_pos Y']
abbrev bR(fl:List Tx):D:=.tup (fl.map .str)
def k8(r:S)(δ1:Dl):Rs (List D):=match r with
 | .pure (.int j)=>if ot j then .ok (bI 0 j.toNat) δ1 else .stuck
 | _=>.stuck
@[simp] theorem zjt (f:DE) (δ:Dl):dz f δ=(f δ).bind λr δ1=>k8 r δ1:=id rfl
theorem Va(w:Nat)(hw:w<=1000000):ot (w:Int)=true:=by
 have h1 : -(4611686018427387904:Int)<=(w:Int):=by lia
 have h2:(w:Int) < 4611686018427387904:=by lia
 unfold ot;rw[Wy];exact⟨decide_eq_true h1,decide_eq_true h2⟩
theorem Vb(j:Int)(hs:ot j=true)(δ:Dl):k8 (.pure (.int j)) δ = .ok (bI 0 j.toNat) δ:=by unfold k8; grind
theorem jo(w:Nat)(hw:w<=1000000)(δ:Dl):k8 (.pure (.int w)) δ = .ok (bI 0 w) δ:=by
 have:=Vb (w:Int) (Va w hw) δ;rwa [Qq] at this
theorem uA(h:(bI 0 n)[i]? = some d):i < n/\d = .int (i:Int):=by
 unfold bI at h;rw[Wp] at h;by_cases hi:i < n
 ·rw[JS hi] at h;simp at h;exact⟨hi,h.symm⟩
 ·rw[WR (by simpa using hi)] at h
  cases h
theorem Vc(h:d ∈ bI 0 n):∃ i:Nat,i < n/\d = .int (i:Int):=by
 obtain⟨i,hi⟩:=List.getElem?_of_mem h;exact⟨i,uA hi⟩
@[simp] theorem ED (lo:Int) (n:Nat):(bI lo n).length=n:=by simp[bI]
def i6(x:Nat):List Nat->List Nat
 | []=>[x]
 | y :: r=>if y < x then y :: i6 x r else x :: y :: r
def gk:List Nat->List Nat
 | []=>[]
 | x :: r=>i6 x (gk r)
theorem EE(a b:Nat):(([a]:Tx) < [b]) ↔ a < b:=by
 constructor
 ·intro h
  cases h<;>simp_all
 ·intro h; exact List.Lex.rel h
theorem EF(x:Nat):∀ xs:List Nat,ku [x] (xs.map λn=>[n])=(i6 x xs).map λn=>[n]
 | []=>rfl
 | y :: r=>by
  simp only[We,ku,i6];by_cases h:y < x
  ·rw[if_pos ((EE y x).mpr h),if_pos h,EF x r]; rfl
  ·rw[if_neg λz=>h ((EE y x).mp z),if_neg h]; rfl
theorem EG:∀ xs:List Nat,iQ (xs.map λn=>[n])=(gk xs).map λn=>[n]
 | []=>rfl
 | x :: r=>by rw[We,iQ,EG r,EF]; rfl
theorem ya:∀ {xs:List Nat},y ∈ i6 x xs ↔ y=x\/y ∈ xs
 | []=>by simp[i6]
 | z :: r=>by
  unfold i6;split
  ·simp[ya (xs:=r)]; all_goals grind
  ·simp
theorem uB:∀ {xs:List Nat},y ∈ gk xs ↔ y ∈ xs
 | []=>by simp[gk]
 | x :: r=>by rw[gk,ya,uB (xs:=r)]; simp
theorem EH(x:Nat):∀ xs:List Nat,(i6 x xs).length=xs.length + 1
 | []=>rfl
 | y :: r=>by unfold i6; split <;> simp[EH x r]
theorem yb:∀ xs:List Nat,(gk xs).length=xs.length
 | []=>rfl
 | x :: r=>by rw[gk,EH,yb r]; rfl
theorem EI:∀ {xs:List Nat},xs.Pairwise (· < ·)->x ∉ xs->(i6 x xs).Pairwise (· < ·)
 | [],_,_=>by simp[i6]
 | y :: r,h,hx=>by
  rw[Qa] at h;simp at hx;unfold i6;split
  ·rename_i hl;rw[Qa];refine⟨λz hz=>?_,EI h.2 hx.2⟩;rcases ya.mp hz with rfl | hz
   ·exact hl
   ·exact h.1 z hz
  ·rename_i hl;rw[Qa];refine⟨λz hz=>?_,List.pairwise_cons.mpr h⟩;rcases Wq.mp hz with rfl | hz
   ·lia
   ·have:=h.1 z hz; lia
theorem yc:∀ {xs:List Nat},xs.Nodup->(gk xs).Pairwise (· < ·)
 | [],_=>by simp[gk]
 | x :: r,h=>by
  rw[WI] at h;exact EI (yc h.2) λz=>h.1 (uB.mp z)
theorem EJ{P:Nat->Prop}:∀ {xs:List D},(∀ x ∈ xs,∃ n,P n/\x = .str [n])->∃ row:List Nat,xs=row.map (λn=>.str [n])/\∀ n ∈ row,P n
 | [],_=>⟨[],rfl,U'⟩
 | x :: r,h=>by
  obtain⟨n,hn,rfl⟩:=h x W7;obtain⟨row,rfl,hr⟩:=EJ (xs:=r) λy hy=>h y (W9 _ hy)
  exact⟨n :: row,rfl,by simpa using ⟨hn,hr⟩⟩
theorem Vd{R:D->D->Prop}{ds xs:List D}{Q:D->Prop}(hn:xs.length=ds.length)(hf:∀ (i:Nat) d x,ds[i]? = some d->xs[i]? = some x->R d x)(hq:∀ d x,d ∈ ds->R d x->Q x):∀ x ∈ xs,Q x:=λx hx=>by
 obtain⟨i,hi⟩:=List.getElem?_of_mem hx;have h1:=(W6.mp hi).1;have h2:ds[i]? = some (ds[i]' Y'):=by simp[show i < ds.length by lia]
 exact hq _ x (QY _) (hf i _ x h2 hi)
abbrev cX(b:Nat×List Tx):D:=.tup [.str [b.1],bR b.2]
abbrev aC(h w:Nat)(bs:List (Nat×List Tx)):D:=.tup [.int h,.int w,.tup (bs.map cX)]
structure aG(h w:Nat)(bs:List (Nat×List Tx)):Prop where
 h0:0 < h
 h1:h<=4
 w0:0 < w
 w1:w<=4
 hw:2 < h + w
 n0:0 < bs.length
 n1:bs.length<=26
 up:(bs.map (·.1)).Pairwise (· < ·)
 Ve:∀ b ∈ bs,97<=b.1/\b.1<=122
 aV:∀ b ∈ bs,b.2.length=h/\∀ r ∈ b.2,r.length=w/\∀ n ∈ r,n ∈ bs.map (·.1)
theorem j0(f F:A->D)(δ:Dl):∀ (as:List A) (acc:List D),acc.length + as.length<=Wb ->
  (∀ a ∈ as,∃ δ1 δ2 x δ3,g (.pure (f a)) δ=some δ1/\t δ1 = .ok true δ2/\el δ2 = .ok x δ3/\bj cs δ3=δ/\x.d=F a)->cK cs g t el (as.map f) δ acc = .ok (acc ++ as.map F) δ
 | [],acc,_,_=>by simp[cK]
 | a :: r,acc,hl,hs=>by
  obtain⟨δ1,δ2,x,δ3,e1,e2,e3,e4,e5⟩:=hs a W7;have jK:acc.length < Wb:=by simp at hl; lia
  have ih:=j0 (cs:=cs) (g:=g) (t:=t) (el:=el) f F δ r (acc ++ [x.d]) P3 (λa ha=>hs a (W9 _ ha));rw[We];unfold cK;simp_all
end DV
set_option maxHeartbeats 400000
namespace L2
open PySem PySem.Spec PyProof.Rows PySem.W DV SU
section
variable {X:Cx}
theorem Vf (hc:X.calm=true):eA X (.type "set") (λxs H Q=>∃ z:Tx,xs=[.str (toS z)]/\z.length < 1000/\∀ p,H p=none->Q (.ref p) (upd H p (lX X p ((z.map λn=>toS [n]).foldl dd [])))):=by
 intro pins s σ H xs us Q I r h;obtain⟨z,rfl,hz,q⟩:=h;obtain⟨u,rfl,ru⟩:=h_ r;obtain⟨t,rfl⟩:=ru;have sz:(toS z).cps.size=z.length:=by simp[toS]
 refine T7 (I.ok.hd hc) (by rw[sz]; unfold Uu; lia) λh' tk y k=>?_
 have e:fm (λi=>⟨#[(toS z).cps.getD i 0]⟩) (toS z).cps.size=(z.map λn=>toS [n]).foldl dd []:=by
  unfold fm;congr 1
  rw[sz];refine Uh U' λi h1 h2=>?_
  simp at h1 h2;simp[toS,h2]
 rw[e] at y;exact⟨.ref _,_,I.laid (t':=tk) k (Wa _) (TM y),rfl,q _ (I.ax.fresh (Wa _))⟩
end
end L2
namespace DV
open PySem PySem.Spec PyProof.Rows L2 SU
def dB:List Nat->List Nat->List Nat
 | σ,[]=>σ
 | σ,n :: r=>if n ∈ σ then dB σ r else dB (σ ++ [n]) r
theorem yd:∀ (z σ:List Nat),(z.map λn=>toS [n]).foldl dd (σ.map λn=>toS [n])=(dB σ z).map λn=>toS [n]
 | [],σ=>rfl
 | n :: z,σ=>by
  rw[We,Qw];unfold dB;by_cases h:n ∈ σ
  ·rw[if_pos h];have e:dd (σ.map λn=>toS [n]) (toS [n])=σ.map λn=>toS [n]:=by
    unfold dd;rw[if_pos (WK h)]
   rw[e];exact yd z σ
  ·rw[if_neg h];have e:dd (σ.map λn=>toS [n]) (toS [n])=(σ ++ [n]).map λn=>toS [n]:=by
    unfold dd;rw[if_neg (λy=>by
     obtain⟨m,hm,e⟩:=WD.mp y;have:=wD e;simp at this;exact h (this ▸ hm)),Q6]
    rfl
   rw[e];exact yd z (σ ++ [n])
theorem qO:∀ (z σ:List Nat),(dB σ z).length<=σ.length + z.length
 | [],σ=>by simp[dB]
 | n :: z,σ=>by
  unfold dB;split
  ·have:=qO z σ; simp; lia
  ·have:=qO z (σ ++ [n]); simp at this ⊢; lia
noncomputable def jq:D->Option S
 | .str z=>if z.length < 64 then some (.own (.lst ((gk (dB [] z)).map λn=>.str [n]))) else none
 | _=>none
section
variable {X:Cx} {c:Fc} {e:Expr} {fb:BE} {pp pos ye yf:Pos}
theorem Vg (hc:X.calm=true) (hg:Gl X "sorted") (hm:X.mg "sorted" = none) (lC:Gl X "set") (uC:X.mg "set" = none) (he:SB X c e fb)
  (h1:Wh [e] X.env=(false,eval e X.env) :: Wh [] X.env:=by rfl)
  (h3:Wh [.Call (.Name "set" ye) [e] [] yf] X.env=(false,eval (.Call (.Name "set" ye) [e] [] yf) X.env) :: Wh [] X.env:=by rfl) :
  SE X c (.Call (.Name "sorted" pp) [.Call (.Name "set" ye) [e] [] yf] [] pos) (aR jq fb) :=
 PE.weak (sJ (TQ hc) hg hm PyProof.Rows.boot_sorted (fw (A9 (Vf hc) lC uC PyProof.Rows.boot_set (fw he gz h1) Z' Z' h1) gz h3) Z' Z' h3) λσ H Q ⟨δ,k,q⟩=>by
  unfold aR at q;rw[aU] at q;refine⟨δ,k,aJ q λx δ1 q1 v H1 a1 r1=>?_⟩;unfold p1 at q1
  cases ex:jq x with
  | none=>rw[ex] at q1; exact q1.elim
  | some s =>
   rw[ex] at q1
   cases x with
   | str z =>
    simp only[jq] at ex;split at ex
    ·rename_i hz
     cases ex;have ev:=r1.str;subst ev;refine⟨z,rfl,Y',λp hp=>?_⟩;have e0:=yd z [];rw[U9] at e0;rw[e0];have b1:=aM.alloc a1.ok hp (lX X p ((dB [] z).map λn=>toS [n]));have l1:=qO z [];simp at l1;refine⟨p,(dB [] z).map λn=>[n],rfl,by rw[Wu]; exact cf,by simp; lia,λp4 EK=>?_⟩;have e5:(iQ ((dB [] z).map λn=>[n])).map (λz=>V.str (toS z))=(gk (dB [] z)).map λn=>V.str (toS [n]):=by
      rw[EG,Wu]; rfl
     rw[e5];have e6:aD (upd H1 p (lX X p ((dB [] z).map λn=>toS [n]))) (Av c σ δ1) ((gk (dB [] z)).map λn=>V.str (toS [n])) ((gk (dB [] z)).map λn=>D.str [n]):=by
      have:=Cz (H:=upd H1 p (lX X p ((dB [] z).map λn=>toS [n]))) (O:=Av c σ δ1) ((gk (dB [] z)).map λn=>[n]);rw[Wu,Wu] at this;exact this
     exact q1 _ _ (a1.trans (b1.trans (.alloc b1.ok EK _))) (aY.back (aY.n8 b1.ok e6 EK) (a1.trans b1))
    ·cases ex
   | _=>cases ex
end
end DV
namespace PySem
theorem Vh:entryFor table "dict_itemiterator.__iter__" = some Builtin.«dict_keyiterator.__iter__» :=
 entryFor_alias (id':="dict_keyiterator.__iter__") (by kernel_rfl) rfl Re (by kernel_rfl)
theorem EL(hit:IsItemIter s.heap it d i n ep ok ov)(h:Q (.ref it) s):W5 (model prog w) A (pyIter (.ref it)) Q E s:=by
 have hT:s.TypeIs (.ref it) "dict_itemiterator":=⟨_,hit,rfl⟩
 refine wpAny_pyIter_slot hT F.slot_dict_itemiterator_iter (WJ F.slot_dict_itemiterator_iter hT Vh ?_ (F.args_dict_itemiterator_iter_1 _));show W5 _ _ (ret (.ref it)) _ _ s;exact W1 ⟨_,rfl,"dict_itemiterator",_,hT,F.slot_dict_itemiterator_next.lookup,h⟩
end PySem
namespace L2
open PySem PySem.Spec PyProof.Rows
theorem Vi(h:(bX P w).is k u=true):RelV (kV k) u:=by
 rw[vE] at h;rcases jG h with ⟨i,t,rfl,rfl⟩ | ⟨x,t,rfl,rfl⟩
 ·exact⟨t,rfl⟩
 ·exact⟨t,rfl⟩
def EM(a:Addr)(ob:Obj)(kvs:List (Key×V)):It :=
 ⟨λi H=>H a=some (.frz ob (.dK kvs))/\i < kvs.length,
  λi H v H'=>∃ p k x,H p=none/\kvs[i]? = some (k,x)/\H'=upd H p (.tup [kV k,x])/\v = .ref p,
  λi H=>H a=some (.frz ob (.dK kvs))/\i=kvs.length⟩
theorem KV.get{κ:Type}{kvs:List (κ×V)}{vs:List (κ×Value)}(r:KV kvs vs):∀ {i:Nat} {k:κ} {x:V},kvs[i]? = some (k,x)->∃ u,vs[i]? = some (k,u)/\RelV x u:=by
 unfold KV at r;induction r with
 | nil=>intro i k x e; simp at e
 | cons h t ih =>
  intro i k x e
  cases i with
  | zero =>
   simp at e;subst e;rename_i q _ _;obtain⟨q1,q2⟩:=q;obtain⟨h1,h2⟩:=h;simp at h1 h2;subst h1;exact⟨q2,U',h2⟩
  | succ i=>exact ih (by simpa using e)
theorem Vj{P:Wk}{w:Wn}{K:W4}{elts:List Expr}{ctx}{pos:Pos}(a it:Addr)(ob:Obj)(kvs:List (Key×V))(es:Array DictEntry)(ep:Nat)(he:ob.data = .dict es ep) :
  Turn P w K (.Tuple elts ctx pos) (EM a ob kvs) [it] it (λi h=>∃ ok ov,IsItemIter h it a i kvs.length ep ok ov):=by
 have at_:∀ {X:Cx} {pins s σ H},X.prog=P->X.w=w->Inv X pins σ H s->H a=some (.frz ob (.dK kvs))->∃ vs,KV kvs vs/\s.heap.DictAt (bX P w) a vs ep:=by
  intro X pins s σ H hP hw I e;subst hP hw;obtain⟨h1,h2⟩:s.heap.get? a=some ob/\bF X.prog X.w H s.heap a (.dK kvs):=I.ax a _ e;obtain⟨_,_,vs,r,o,gv,gx,q1,q2,q3,q4⟩:=h2;rw[h1] at q1
  cases q1;rw[he] at q3
  cases q3;exact⟨vs,r,ob,es,h1,q2,he,q4⟩
 refine⟨U',?_,?_,?_,?_,?_⟩
 ·grind
 ·rintro i h h' ⟨ok,ov,q⟩ k;exact⟨ok,ov,k it U' _ q⟩
 ·intro X hP hw hK hc i pins s σ H E I hf ⟨ok,ov,st⟩ ⟨hg,hi⟩;obtain⟨vs,r,hd⟩:=at_ hP hw I hg;subst hP hw hK;have hl:=r.length;have hx:kvs[i]? = some (kvs[i].1,kvs[i].2):=by simp[hi]
  obtain⟨u,hu,ru⟩:=KV.get r hx;have jk:it < s.heap.objs.size:=Wj st;rw[hl] at st;refine wpAny_pyNext_items_item st hd hu λkey h' hk hit hT hsz kp=>⟨_,rfl,wpAny_letOwnedTupleGo_items hit λh2 yg sb=>?_⟩
  have nz:s.heap.objs.size≠it:=QB jk;have aP:∀ b ∈ [it],b < s.heap.objs.size:=λb hb=>by
   have e:b=it:=by simpa using hb
   subst e;exact jk
  have I2:Inv X pins σ (upd H s.heap.objs.size (.tup [kV kvs[i].1,kvs[i].2])) { s with heap:=h2,toks:=s.toks } :=
   Inv.D5 (t':=s.toks) [it] I hf aP (Vi hk) ru ((sb.2 _ nz).trans hT) λb o hb e=>by
    have g:b≠it:=λz=>hb (by simp[z])
    exact(sb.2 b g).trans (kp b o g e)
  refine⟨.ref s.heap.objs.size,_,I2,rfl,⟨s.heap.objs.size,_,_,I.ax.fresh (Wa _),hx,rfl,rfl⟩,⟨_,_,by rw[hl]; exact yg⟩,λb hb=>?_⟩;have e:b=it:=by simpa using hb
  subst e;rw[aH (Ne.symm nz)];exact(hf _ hb).1
 ·intro X hP hw hK hc i pins s σ H E I hf ⟨ok,ov,st⟩ ⟨hg,hi⟩;obtain⟨vs,r,hd⟩:=at_ hP hw I hg;subst hP hw hK;have hl:=r.length;rw[hl] at st;refine wpAny_pyNext_items_end (I.ok.hd hc) st hd R' λh' eb=>⟨rfl,Inv.uf (t':=s.toks) [it] I (λb o hb e=>eb b o (by grind) e) hf⟩
 ·intro A i s Q E ⟨ok,ov,st⟩ h;exact EL st h
section
variable {X:Cx} {o:Expr} {apos aO:Pos} {elts:List Expr} {ctx:Nat} {tp:Pos} {td:TE}
def Vk(td:TE):TI:=λσ H R=>td σ H λv H1=>∃ a kvs,v = .ref a/\H1 a=some (.dK kvs)/\∀ ob,R (EM a ob kvs) (upd H1 a (.frz ob (.dK kvs)))
theorem Vl (ho:PE X o td) (hb:Qr o "items" X.env (eval o X.env)=eval o X.env:=by rfl) (hl:(apos.endLine == aO.line)=true:=by rfl) :
  PI X (.Tuple elts ctx tp) (.Call (.Attribute o "items" apos) [] [] aO) (Vk td):=by
 intro pins s σ H R I h;refine JB (T:="dict") (id:="dict.items") hb rfl hl F.plainAttrs_dict UC F.type_dict_items (aF (ho pins s σ H _ I h) λu s1 ⟨x,H1,I1,rx,a,kvs,ex,ea,q⟩=>?_);subst ex;obtain rfl:u=Value.ref a:=rx;obtain⟨z,hS,vs,r,hm⟩:=nZ I1.ax ea;refine⟨hm.typeIs,hm.mapOf.noDict,?_⟩;refine method_meetsIn UC F.entry_dict_items rfl (PySem.evalArgs_none ⟨rfl,hm.typeIs,F.args_dict_items_1 _,_,meets_dict_items (bX X.prog X.w) a hS,⟨vs,hm⟩,?_⟩);obtain⟨ob,es,ep,g1,g2,g3,g4⟩:=id hm;have Vm:s1.heap.DictAt (bX X.prog X.w) a vs ep:=⟨ob,es,g1,g2,g3,g4⟩
 refine wpAny_pyIter_items (knd:=bX X.prog X.w) (d:=a) (kvs:=vs) (ep:=ep) ⟨_,Wi _ rfl,rfl,rfl⟩ (Vm.push _) ?_;generalize hh1:s1.heap.push { cls:=.type "dict_items",data:=.fields #[.ref a] } = h1;have up1:∀ b u,s1.heap.get? b=some u->h1.get? b=some u:=λb u e=>by rw[<- hh1]; exact W3 _ e
 have oF:s1.heap.objs.size<=h1.objs.size:=by rw[<- hh1,QE]; exact Up _
 generalize hh2:h1.push { cls:=.type "dict_itemiterator",data:=.fields #[.none,.bool false,.ref a,.int 0 0,.int vs.length 0,.int ep 0,.none,.none] } = h2;have lZ:∀ b u,s1.heap.get? b=some u->h2.get? b=some u:=λb u e=>by rw[<- hh2]; exact W3 _ (up1 b u e)
 have hit:IsItemIter h2 h1.objs.size a 0 kvs.length ep .none .none:=by rw[r.length,<- hh2]; exact Wi _ rfl
 have I2:Inv X pins σ (upd H1 a (.frz ob (.dK kvs))) { s1 with heap:=h2,toks:=s1.toks } :=
  I1.write (x:=a) (e:=a) (o:=.frz ob (.dK kvs)) (t':=s1.toks) (by rw[ea]; trivial) (.inl rfl) (λb u _ e=>lZ b u e) ⟨ob,lZ a ob g1⟩
   ⟨lZ a ob g1,z,hS,vs,r,ob,es,ep,lZ a ob g1,g2,g3,g4⟩
 refine⟨h1.objs.size,[h1.objs.size],_,_,_,rfl,I2,Vj a h1.objs.size ob kvs es ep g3,⟨_,_,hit⟩,λb hb=>?_,q ob⟩;have e:b=h1.objs.size:=by simpa using hb
 subst e;refine I1.iJ oF ?_;rw[aH (QB (WE (Wj g1) oF))];exact I1.ax.fresh oF
end
end L2
namespace DV
open PySem PySem.Spec PyProof.Rows L2
def EO:aB->D
 | .inl i=>.int i
 | .inr x=>.str x
theorem Vn(k:aB):Rep H O (kV (bZ k)) (EO k):=by
 cases k with
 | inl i=>exact .int i
 | inr x=>exact .str x
def nc(ds:List (aB×D)):List D:=ds.map λp=>D.tup [EO p.1,p.2]
section
variable {X:Cx} {c:Fc} {o:Expr} {i:Nat} {apos aO:Pos} {elts:List Expr} {ctx:Nat} {tp:Pos}
def ng(i:Nat):DI:=λδ=>match δ[i]? with
 | some (some (.own (.au ds)))=>.ok (nc ds) (δ.set i none)
 | _=>.stuck
theorem Ok.freeze(k:Ok c σ δ H)(e:δ[i]? = some (some (.own (.au ds))))(ea:σ[i]? = some (some (.ref a))) :
  aM c σ δ H σ (δ.set i none) (upd H a u):=by
 obtain⟨a',bV,oa,hI,nB⟩:=k.own i _ e;rw[ea] at bV
 cases bV;have hO:Own σ δ a:=⟨i,_,e,ea⟩
 have hi:i < δ.length:=(W6.mp e).1;have sub:∀ b,Own σ (δ.set i none) b->Own σ δ b:=λb ⟨j,d,f1,f2⟩=>by
  by_cases hj:i=j
  ·grind
  ·rw[W8 hj] at f1;exact⟨j,d,f1,f2⟩
 have jV:∀ b,Av c σ (δ.set i none) b->Av c σ δ b:=λb z=>z.elim .inl λz=>.inr (sub b z)
 have kp:∀ b o,H b=some o->¬ Av c σ δ b->upd H a u b=some o:=λb o h n=>by
  rw[aH λz=>n (.inr (by rw[z]; exact hO))];exact h
 have th:∀ b o,H b=some o->∃ o',upd H a u b=some o':=λb o h=>by
  by_cases hb:b=a;all_goals grind[cf,aH]
 have up:∀ {v d},Rep H (Av c σ δ) v d->Rep (upd H a u) (Av c σ (δ.set i none)) v d:=λr=>(r.keep kp).aK λb z=>.inl (jV b z)
 refine⟨⟨λb o h n=>?_,λb h=>?_,λb h=>?_,by rw[Qc]; exact k.len,λj d f=>?_,λj d f=>?_,λj l b d1 d2 f1 f2 g1 g2=>?_,k.pinned⟩,λb o h n=>?_,λb z=>.inl (sub b z),th⟩
 ·have hb:b≠a:=λz=>by grind
  rw[aH hb];exact k.keep b o h n
 ·obtain⟨o,h'⟩:=k.bd b h;exact th b o h'
 ·obtain⟨o,h'⟩:=k.dO b h;exact th b o h'
 ·have hj:i≠j:=λz=>by subst z; rw[Wl hi] at f; cases f
  rw[W8 hj] at f;obtain⟨v,g1,g2⟩:=k.slot j d f;exact⟨v,g1,up g2⟩
 ·have hj:i≠j:=λz=>by subst z; rw[Wl hi] at f; cases f
  rw[W8 hj] at f;obtain⟨b,g1,g2,g3⟩:=k.own j d f;have hb:b≠a:=λz=>by subst z; exact hj (k.inj i j b _ _ e f ea g1)
  exact⟨b,g1,(g2.keep kp λo h=>by rw[aH hb]; exact h).aK λb z=>.inl (jV b z),g3⟩
 ·have h1:i≠j:=λz=>by subst z; rw[Wl hi] at f1; cases f1
  have h2:i≠l:=λz=>by subst z; rw[Wl hi] at f2; cases f2
  rw[W8 h1] at f1;rw[W8 h2] at f2;exact k.inj j l b d1 d2 f1 f2 g1 g2
 ·rw[aH λz=>n (by rw[z]; exact hO)];exact h
theorem Vo (ho:PE X o (cM i)) (hb:Qr o "items" X.env (eval o X.env)=eval o X.env:=by rfl) (hl:(apos.endLine == aO.line)=true:=by rfl) :
  SI X c (.Tuple elts ctx tp) (.Call (.Attribute o "items" apos) [] [] aO) (ng i) :=
 PI.weak (Vl ho hb hl) λσ H R ⟨δ,k,q⟩=>by
  unfold ng at q;split at q
  case h_2=>exact q.elim
  rename_i ds e;obtain⟨a,ea,⟨ws,hw,hk,hr⟩,hI,nB⟩:=k.own i _ e;refine⟨.ref a,ea,a,ws,rfl,hw,λob=>?_⟩;have af:=k.freeze (u:=.frz ob (.dK ws)) e ea;refine q _ _ af λH2 kp=>?_
  have hi:i < δ.length:=(W6.mp e).1;have na:¬ Own σ (δ.set i none) a:=λ⟨j,d,f1,f2⟩=>by
   by_cases hj:i=j
   ·subst hj;rw[Wl hi] at f1
    cases f1
   ·rw[W8 hj] at f1;exact hj (k.inj i j a _ _ e f1 ea f2)
  have h2:H2 a=some (.frz ob (.dK ws)):=kp a _ cf na;have hlen:ws.length=ds.length:=by simpa using congrArg QP hk
  refine⟨⟨h2,by simp[nc,hlen]⟩,λj d f=>?_⟩;unfold nc at f;rw[Wp] at f
  cases ej:ds[j]? with
  | none=>rw[ej] at f; cases f
  | some qd =>
   rw[ej] at f
   cases f;have hj:j < ws.length:=by rw[hlen]; exact(W6.mp ej).1
   refine⟨⟨h2,hj⟩,λx H3 ⟨p,kk,xv,hp,hkv,e3,ex⟩=>.inr ⟨p,_,_,hp,e3,ex,rfl,?_⟩⟩;have vR:kk=bZ qd.1:=by
    have:=congrArg (λl=>l[j]?) hk;simp only[Wp,hkv,ej,Wz] at this;exact WS this
   subst vR;have rv:Rep H (Av c σ δ) xv qd.2:=hr j _ _ hkv ej;have hO:Own σ δ a:=⟨i,_,e,ea⟩
   have Vp:Rep (upd H a (.frz ob (.dK ws))) (Av c σ (δ.set i none)) xv qd.2:=(rv.keep λb o h n=>by
    rw[aH λz=>n (.inr (by rw[z]; exact hO))];exact h).aK λb z=>.inl (z.elim .inl λ⟨j,d,f1,f2⟩=>.inr (by
     by_cases hj:i=j
     ·grind
     ·rw[W8 hj] at f1;exact⟨j,d,f1,f2⟩))
   exact aD.two (Vn _) Vp
end
end DV
namespace DV
open PySem PySem.Spec PyProof.Rows L2
section
variable {X:Cx} {c:Fc} {σ:St} {δ:Dl} {H:Hp} {x y:Nat} {a:Addr} {d:D}
theorem Ok.move(k:Ok c σ δ H)(cD:Np c np)(hx:np.contains x=false)(qg:x≠y)(e:δ[y]? = some (some (.own d)))(ea:σ[y]? = some (some (.ref a)))(hl:x < δ.length) :
  aM c σ δ H (σ.set x (some (.ref a))) ((δ.set y none).set x (some (.own d))) H:=by
 have Vq:y < δ.length:=(W6.mp e).1;have Vr:x < σ.length:=by rw[<- k.len]; exact hl
 have at_:∀ j r,((δ.set y none).set x (some (.own d)))[j]? = some (some r)->(j=x/\r = .own d)\/(j≠x/\j≠y/\δ[j]? = some (some r)):=λj r q=>by
  by_cases hj:x=j
  ·subst hj;rw[Wl (by rw[Qc]; exact hl)] at q
   cases q;exact .inl ⟨rfl,rfl⟩
  ·rw[W8 hj] at q;by_cases hy:y=j
   ·subst hy;rw[Wl Vq] at q
    cases q
   ·rw[W8 hy] at q;exact .inr ⟨Ne.symm hj,Ne.symm hy,q⟩
 have sx:(σ.set x (some (.ref a)))[x]? = some (some (.ref a)):=Wl Vr;have so:∀ j,j≠x->(σ.set x (some (.ref a)))[j]? = σ[j]?:=λj hj=>W8 (Ne.symm hj)
 have own:∀ b,Own (σ.set x (some (.ref a))) ((δ.set y none).set x (some (.own d))) b->Own σ δ b:=λb ⟨j,r,q1,q2⟩=>by
  rcases at_ j _ q1 with ⟨z,z'⟩ | ⟨h1,h2,q⟩
  ·subst z
   cases z';rw[sx] at q2
   cases q2;exact⟨y,d,e,ea⟩
  ·rw[so j h1] at q2;exact⟨j,r,q,q2⟩
 have av:∀ b,Av c (σ.set x (some (.ref a))) ((δ.set y none).set x (some (.own d))) b->Av c σ δ b:=λb z=>z.elim .inl λz=>.inr (own b z)
 obtain⟨a',bV,oa,hI,nB⟩:=k.own y _ e;rw[ea] at bV
 cases bV;refine⟨⟨k.keep,k.bd,k.dO,by simp only[Qc]; exact k.len,λj r q=>?_,λj r q=>?_,λj l b d1 d2 q1 q2 s1 s2=>?_,λp hp=>?_⟩,λ_ _ h _=>h,λb z=>.inl (own b z),λ_ o h=>⟨o,h⟩⟩
 ·rcases at_ j _ q with ⟨_,z⟩ | ⟨h1,h2,q⟩
  ·cases z
  ·obtain⟨v,g1,g2⟩:=k.slot j r q;exact⟨v,by rw[so j h1]; exact g1,g2.aK λb z=>.inl (av b z)⟩
 ·rcases at_ j _ q with ⟨z,z'⟩ | ⟨h1,h2,q⟩
  ·subst z
   cases z';exact⟨a,sx,oa.aK λb z=>.inl (av b z),hI,nB⟩
  ·obtain⟨b,g1,g2,g3⟩:=k.own j r q;exact⟨b,by rw[so j h1]; exact g1,g2.aK λb z=>.inl (av b z),g3⟩
 ·rcases at_ j _ q1 with ⟨z,_⟩ | ⟨h1,h2,p1⟩ <;> rcases at_ l _ q2 with ⟨z',_⟩ | ⟨h1',h2',p2⟩
  ·rw[z,z']
  ·subst z;rw[sx] at s1
   cases s1;rw[so l h1'] at s2;exact absurd (k.inj y l a _ _ e p2 ea s2).symm h2'
  ·subst z';rw[sx] at s2
   cases s2;rw[so j h1] at s1;exact absurd (k.inj y j a _ _ e p1 ea s1).symm h2
  ·rw[so j h1] at s1;rw[so l h1'] at s2;exact k.inj j l b _ _ p1 p2 s1 s2
 ·have h:=cD p hp;have cq:p.1≠x:=λz=>by rw[z,hx] at h; cases h
  rw[so p.1 cq];exact k.pinned p hp
def nh(np:List Nat)(x y:Nat):DS:=λδ=>if np.contains x || x == y || !decide (x < δ.length) then .stuck else match δ[y]? with
 | some (some (.own d))=>.ok .next ((δ.set y none).set x (some (.own d)))
 | _=>.stuck
theorem Vs(cD:Np c np)(hN:X.N.Nodup)(hi:X.N[x]? = some nm)(hx:Loc X.env.scope nm)(he:PE X e (cM y))(hs:QZ e (some (.Name nm pos')) pos.line X.env=pure false:=by rfl)
  (hf:X.fn nm=true\/X.env.scope.names.lookup nm=some .local:=by first | exact .inl rfl | exact .inr rfl | assumption):SS X c (.Assign [.Name nm pos'] e pos) (nh np x y) :=
 PS.weak (AE hN hi hx he hs hf) λD σ H ⟨δ,k,q⟩=>by
  unfold nh dR at q;split at q
  case isTrue=>exact q.elim
  rename_i hc;simp only[Bool.or_eq_true,not_or,Bool.not_eq_true,beq_eq_false_iff_ne,Bool.not_eq_false',decide_eq_true_eq] at hc;obtain⟨⟨h1,h2⟩,h3⟩:=hc;split at q
  case h_2=>exact q.elim
  rename_i d e';obtain⟨a,ea,_⟩:=k.own y _ e';exact⟨.ref a,ea,q _ H (k.move cD h1 h2 e' ea h3)⟩
end
end DV
namespace L2
open PySem PySem.Spec PyProof.Rows
structure yj(P:Wk)(w:Wn)(K:W4)(mg:Str->Option Value)(base:Heap)(k:Nat)(f:Addr)(fd:Q7)(ps:List Str)(sp:List Env->W2->Sp):Prop where
 len:∀ outer s vs H Q E,sp outer s vs H Q E->vs.length=ps.length
 run:∀ (A:Wr) (outer:List Env) (s:W2) (H:Hp) (args:Args) (us:List Value) (vs:List V) (Q:VK) (E:XK),bY k A->pT P w K mg base A outer s H->BindsTo s fd args (ps.zip us)->Vals vs us->sp outer s vs H Q E ->
  QK (model P w) A (.call (.ref f) args) (CR de outer P w H s Q E) s
section
variable {P:Wk} {w:Wn} {K:W4} {mg:Str->Option Value} {base:Heap}
theorem dH.Vt{x qual:Str}{st:Stmt}{f:Addr}{fd:Q7}{N ps:List Str}{k:Nat}{sp:List Env->W2->Sp}(F:dH K x qual st f fd)(S:f_ N ps (bw st))(len:∀ outer s vs H Q E,sp outer s vs H Q E->vs.length=ps.length)
  (dJ:∀ (aN:Value) (A:Wr) (outer:List Env) (s:W2) (H:Hp) (vs:List V) (Q:VK) (E:XK),bY k (A.deeper (JA qual (bw st) s.heap.objs.size f aN))->A.frames=some outer->sp outer s vs H Q E ->
   ∃ t,dX (fz de P w K mg base N qual (bw st) f aN A outer s H E).f6 (dM st) t/\t { nx:=λ_ H'=>Q .ay H',rt:=Q } (fP N vs) H):yj P w K mg base (k + 1) f fd ps sp:=by
 obtain⟨oc,od,kV,doc,pm,an,aN,ct,eB,rfl,lk,gy⟩:=F.ex;refine⟨len,λA outer s H args us vs Q E hr e0 hb r mw=>?_⟩;have hl:=len _ _ _ _ _ _ mw;have KX:K.In s.heap:=e0.mod.pH.keeps λb o e=>(e0.bs b o e).1
 have lim:s.heap.NoLimit:=e0.mod.nolimit.keeps λb o e=>(e0.bs b o e).1
 have vW:∀ y ∈ ps.zip us,(bw st).names.lookup y.1=some .local\/((bw st).names.lookup y.1=some .cell/\((QT (s.heap.objs.size + 1) (bw st).names []).lookup y.1).isSome=true):=λ⟨n,v⟩ hy=>by
  rcases S.par n (UK hy).1 with q | q
  ·exact .inl q
  ·exact .inr ⟨q,U5 _ _ _ (.inl q)⟩
 refine codeAny_call_function hr.depth (KX _ _ lk) rfl S.co S.gen rfl (PySem.W.codeRec_of KX gy) (hb _ _ _ _ ?_);refine wpAny_newFunctionEnv_cells S.kind vW λenv he s1 x=>?_
 subst he;refine⟨lim.keeps x.toInCall.keep,codeAny_func ?_⟩;obtain⟨t,ht0,hq⟩:=dJ aN A outer s H vs Q E (hr.deeper _) e0.frames mw;have ht:=ht0.f6;have I:Inv (fz de P w K mg base N qual (bw st) f aN A outer s H E) [] (fP N vs) H s1:=A5 S hr.hd e0 hl r x;refine WV (ht [] s1 (fP N vs) H _ I hq) (λfl s' hs=>?_) λe s' hs=>hs
 have fin:∀ {σ':St} {H':Hp} {v:V} {u:Value},Inv (fz de P w K mg base N qual (bw st) f aN A outer s H E) [] σ' H' s'->RelV v u->Q v H'->CE outer P w H s Q u s' :=
  λ{σ' H' v u} J rv q=>⟨v,H',J.os,J.bare,J.base,J.ax,rv,q⟩
 cases fl with
 | ret u =>
  obtain⟨v,σ',H',J,rv,q⟩:=hs;exact fin J rv q
 | next =>
  obtain⟨σ',H',J,q⟩:=hs;exact fin (v:=V.ay) (u:=Value.none) J rfl q
 | brk =>
  obtain⟨_,_,_,q⟩:=hs;exact False.elim q
 | cont =>
  obtain⟨_,_,_,q⟩:=hs;exact False.elim q
end
structure ni(H:Hp)(fs:List Addr)(h:Heap)(fa:Addr)(qual:Str)(params:Arguments)(body:Expr)(scope:Scope)(cl:List (Str×Addr))(fr:List Str)(fv:List V):Prop where
 obj:∃ pm c' d9 oc,h.get? fa=some (Uq "<lambda>" qual params body scope cl pm c' d9)/\H fa=none/\fa ∉ fs/\H c'=some (.frz oc (.ext λ_=>True))/\∃ vs tq,oc.data = .fields vs/\vs[1]? = some (.str qual tq)
 cell:∀ x c,cl.lookup x=some c->(∃ v,h.IsCell c v)/\H c=none/\c ∉ fs
 inj:∀ x y c,cl.lookup x=some c->cl.lookup y=some c->x=y
 val:∀ (i:Nat) x v,fr[i]? = some x->fv[i]? = some v->∃ c u,cl.lookup x=some c/\h.IsCell c (some u)/\RelV v u
 yk:fv.length=fr.length
theorem ni.keep(C:ni H fs h fa qual params body scope cl fr fv)
  (k:∀ b o,h.get? b=some o->H b=none->b ∉ fs->h'.get? b=some o/\H' b=none) (kf:∀ b o u,H b=some (.frz o u)->H' b=some (.frz o u)):ni H' fs h' fa qual params body scope cl fr fv:=by
 have kc:∀ x c v,cl.lookup x=some c->h.IsCell c v->h'.IsCell c v:=λx c v e ⟨o,ho,hd⟩=>⟨o,(k c o ho (C.cell x c e).2.1 (C.cell x c e).2.2).1,hd⟩
 obtain⟨pm,c',d9,oc,h1,h2,h3,h4,h5⟩:=C.obj;refine⟨⟨pm,c',d9,oc,(k _ _ h1 h2 h3).1,(k _ _ h1 h2 h3).2,h3,kf _ _ _ h4,h5⟩,λx c e=>?_,C.inj,λi x v e1 e2=>?_,C.yk⟩
 ·obtain⟨⟨v,o,ho,hd⟩,q1,q2⟩:=C.cell x c e;exact⟨⟨v,o,(k c o ho q1 q2).1,hd⟩,(k c o ho q1 q2).2,q2⟩
 ·obtain⟨c,u,q1,q2,q3⟩:=C.val i x v e1 e2;exact⟨c,u,q1,kc x c _ q1 q2,q3⟩
def qP(P:Wk)(w:Wn)(K:W4)(mg:Str->Option Value)(base:Heap)(N:List Str)(qual:Str)(scope:Scope)(f:Addr)(cd:Value)(cl:List (Str×Addr))(A:Wr)(outer:List Env)(s:W2)(H:Hp):Cx where
 prog:=P
 w:=w
 K:=K
 mg:=mg
 base:=base
 A:=A.deeper (Ud qual scope s.heap.objs.size f cd cl)
 N:=N
 s₀:=s
 H₀:=H
 env:=Ud qual scope s.heap.objs.size f cd cl
 outer:=outer
 stack:=Ud qual scope s.heap.objs.size f cd cl :: outer
 ex:=[]
 calm:=true
 fn:=λ_=>false
 pn:=[]
 xe:=λ_ _=>False
structure uD(p:Str)(fr:List Str)(sc:Scope):Prop where
 kind:sc.kind = .function
 co:sc.isCoroutine=false
 gen:sc.isGenerator=false
 loc:sc.names.lookup p=some .local
 ER:∀ y ∈ sc.names,y.2≠.cell
 free:∀ x,sc.names.lookup x=some .free->x ∈ fr
 Vu:∀ x ∈ fr,sc.names.lookup x=some .free
section
variable {X:Cx} {pins:List (Addr×Obj)} {σ:St} {H:Hp} {s:W2} {fa:Addr} {qual:Str} {params:Arguments} {body:Expr} {scope:Scope} {cl:List (Str×Addr)} {fr:List Str} {fv:List V} {p:Str} {u:Value} {v:V} {k:Nat} {t:TE} {Q:VK}
theorem Vv(I:Inv X pins σ H s)(C:ni H X.fs s.heap fa qual params body scope cl fr fv)(L:uD p fr scope)(hr:bY (k + 1) X.A)(rv:RelV v u)
  (hb:∀ pm aN d9 (u:Value),bindArgs (PySem.W.kla_fn "<lambda>" qual params body scope cl pm aN d9) ⟨[u],[]⟩=pure [(p,u)])
  (dJ:∀ cd,bY k (X.A.deeper (Ud qual scope s.heap.objs.size fa cd cl))->PE (qP X.prog X.w X.K X.mg X.base (p :: fr) qual scope fa cd cl X.A X.stack s H) body t)
  (q:t (some v :: fv.map some) H Q):W5 (model X.prog X.w) X.A (call (.ref fa) [u]) (EP X pins σ Q) X.xe s:=by
 obtain⟨pm,c',d9,oc,h1,h2,h3,h4',vs,tq,h5,h6⟩:=C.obj;have h4:s.heap.get? c'=some oc:=(I.ax c' _ h4').1;have e0:=I.vT;have lim:s.heap.NoLimit:=e0.mod.nolimit.keeps λb o e=>(e0.bs b o e).1
 refine wpAny_call (JJ (R:=CR de X.stack X.prog X.w H s Q E0) ?_ λr s' hq=>?_)
 ·refine PySem.W.kla_callFunE hr.depth h1 rfl L.co L.gen rfl ⟨c',oc,vs,tq,rfl,h4,h5,h6⟩ ?_;rw[hb];refine W1 ?_;refine wpAny_newFunctionEnv L.ER (λy hy=>by
   have:y=(p,u):=by simpa using hy
   subst this;exact L.loc) (λh' qQ wB=>?_) L.kind
  have hk:∀ b o,s.heap.get? b=some o->h'.get? b=some o:=λb o e=>wB.extBut b o (Wo (Wj e)) (W3 _ e)
  refine⟨lim.keeps hk,?_⟩;show QK _ _ (.expr body (Ud qual scope s.heap.objs.size fa (.ref c') cl)) _ _;refine PySem.W.kla_codeExpr ?_;have J:Inv (qP X.prog X.w X.K X.mg X.base (p :: fr) qual scope fa (.ref c') cl X.A X.stack s H) [] (some v :: fv.map some) H { s with heap:=h',toks:=s.toks + [(p,u)].length }:=by
   have kj:∀ b:Addr,b ∉ (qP X.prog X.w X.K X.mg X.base (p :: fr) qual scope fa (.ref c') cl X.A X.stack s H).ex:=λb z=>absurd (show b ∈ ([]:List Addr) from z) U'
   refine⟨⟨e0.mod,L.kind,rfl,rfl,Wa _,C.inj,λy hy=>?_,λy c z _=>by (have z':false=true:=z; cases z'),λ_=>hr.hd,Around.frames_deeper e0.frames,.inr ⟨rfl,rfl⟩,λb z=>absurd z (kj b),e0.bs,e0.kh,λb _ _=>kj b,λb z=>absurd z (kj b),e0.hU,e0.ml⟩,
    rfl,e0.bare,Un.kept hk,⟨_,qQ,λi y w e1 e2 e3=>?_⟩,λy c e=>?_,e0.ax.fresh (Wa _),λy c e=>(C.cell y c e).2.1,λz hz=>absurd (show z ∈ ([]:List (Addr×Obj)) from hz) U',e0.ax.kept hk,?_⟩
   ·have hy:scope.names.lookup y=some .cell\/scope.names.lookup y=some .free:=hy;rcases hy with hy | hy
    ·exact absurd rfl (L.ER _ (WB hy))
    ·obtain⟨i,hi,rfl⟩:=List.getElem_of_mem (L.free y hy);have Vw:i < fv.length:=by rw[C.yk]; exact hi
     obtain⟨c,u',q1,_⟩:=C.val i fr[i] fv[i] (by simp[hi]) (by simp[Vw]);exact⟨c,q1⟩
   ·cases i with
    | zero =>
     simp at e2;have e1:some p=some y:=e1
     cases e1;subst e2;refine⟨u,rv,.inl ⟨L.loc,?_⟩⟩;simp
    | succ i =>
     have e1:fr[i]? = some y:=e1;have e2:fv[i]? = some w:=by
      have oG:(fv.map some)[i]? = some (some w):=e2;rw[Wp] at oG
      cases z:fv[i]? with
      | none=>rw[z] at oG; cases oG
      | some a=>rw[z] at oG; cases oG; rfl
     obtain⟨c,u',q1,⟨o,ho,hd⟩,q3⟩:=C.val i y w e1 e2;exact⟨u',q3,.inr ⟨.inr (L.Vu y (Q4 e1)),c,q1,o,hk c o ho,hd⟩⟩
   ·obtain⟨⟨w,o,ho,hd⟩,_⟩:=C.cell y c e;exact⟨w,o,hk c o ho,hd⟩
   ·show(some v :: fv.map some).length=(p :: fr).length;simp[C.yk]
  refine WV (dJ (.ref c') (hr.deeper _) [] _ _ H Q J q) (λu' s' ⟨v',H',J',r',q'⟩=>?_) λe s' z=>z.elim
  exact⟨v',H',J'.os,J'.bare,J'.base,J'.ax,r',q'⟩
 ·cases r with
  | error e=>exact hq.elim
  | ok fl =>
   cases fl with
   | ret u=>exact I.after hq
   | next=>exact False.elim hq
   | brk=>exact False.elim hq
   | cont=>exact False.elim hq
end
end L2
namespace DV
open PySem PySem.Spec PyProof.Rows L2
section
variable {c:Fc} {σ:St} {δ:Dl} {H H':Hp}
theorem Ok.mono(k:Ok c σ δ H)(up:∀ a o,H a=some o->H' a=some o):Ok c σ δ H' :=
 ⟨λa o e n=>up _ _ (k.keep a o e n),λa z=>(k.bd a z).elim λw e=>⟨w,up _ _ e⟩,λa z=>(k.dO a z).elim λw e=>⟨w,up _ _ e⟩,k.len,λi d e=>let ⟨v,e1,r⟩:=k.slot i d e; ⟨v,e1,r.keep λa o q _=>up a o q⟩,
  λi d e=>let ⟨a,e1,r,q⟩:=k.own i d e; ⟨a,e1,r.keep (λb o q _=>up b o q) (λo q=>up a o q),q⟩,k.inj,k.pinned⟩
theorem aM.mono(k:Ok c σ δ H)(up:∀ a o,H a=some o->H' a=some o):aM c σ δ H σ δ H':=⟨k.mono up,λa o e _=>up a o e,λa h=>.inl h,λa o e=>⟨o,up a o e⟩⟩
end
structure uE(X:Cx)(c:Fc)(fa:Addr)(F:D->Option D):Prop where
 there:∀ pins σ H s,Inv X pins σ H s->∃ fd,s.heap.get? fa=some { cls:=.type "function",data:=.func fd }
 run:∀ pins s σ δ H v u d d' Q,Inv X pins σ H s->Ok c σ δ H->Rep H (Av c σ δ) v d->RelV v u->F d=some d'->(∀ v' H',aM c σ δ H σ δ H'->Rep H' (Av c σ δ) v' d'->Q v' H')->W5 (model X.prog X.w) X.A (call (.ref fa) [u]) (EP X pins σ Q) X.xe s
noncomputable def g8(fb:DE)(dv:List D):D->Option D:=λd=>match fb (some (.pure d) :: dv.map λx=>some (.pure x)) with
 | .ok r _=>some r.d
 | _=>none
theorem Vx
  (hex:X.ex=[]) (hH:c.H₀=X.H₀) (hp:c.pin=[]) (C:ni X.H₀ X.fs X.s₀.heap fa qual params body scope cl fr fv) (L:uD p fr scope) (hr:bY (k + 1) X.A)
  (hb:∀ pm aN d9 (u:Value),bindArgs (PySem.W.kla_fn "<lambda>" qual params body scope cl pm aN d9) ⟨[u],[]⟩=pure [(p,u)]) (rv:aD X.H₀ c.B fv dv)
  (dJ:∀ (c':Fc) (cd:Value) (s:W2) (H:Hp),bY k (X.A.deeper (Ud qual scope s.heap.objs.size fa cd cl))->c'.pin=[]->SE (qP X.prog X.w X.K X.mg X.base (p :: fr) qual scope fa cd cl X.A X.stack s H) c' body fb) :
  uE X c fa (g8 fb dv):=by
 have ES:∀ a,¬ c.I a:=λa ⟨i,z⟩=>by rw[hp] at z; simp at z
 have CC:∀ pins σ H s,Inv X pins σ H s->ni H X.fs s.heap fa qual params body scope cl fr fv:=λpins σ H s I =>
  C.keep (λb o e n hb=>⟨I.base.keep b o e n hb (by rw[hex]; simp),I.base.free b o e n (by rw[hex]; simp)⟩) I.base.jH
 refine⟨λpins σ H s I=>?_,λpins s σ δ H v u d d' Q I ok rd ru hF q=>?_⟩
 ·obtain⟨pm,c',d9,oc,h1,_⟩:=(CC pins σ H s I).obj;exact⟨_,h1⟩
 ·have key:∀ (i:Nat) w x,fv[i]? = some w->dv[i]? = some x->Rep H (Av c σ δ) w x:=λi w x e1 e2=>by
   have r0:=rv.2 i w x e1 e2;have r1:Rep X.H₀ (Av c σ δ) w x:=r0.aK λa z=>by
    rcases z with z | ⟨j,d,z1,z2⟩
    ·exact .inl z
    ·obtain⟨b,z3,_,z4,_⟩:=ok.own j d z1;rw[z2] at z3; cases z3
     rcases z4 with z4 | z4
     ·exact absurd z4 (ES _)
     ·exact .inr (by rw[<- hH]; exact z4)
   exact r1.keep λa o e _=>ok.keep a o (by rw[hH]; exact e) (ES a)
  have c'':Fc:=⟨H,Av c σ δ,[],λ_ _=>False⟩
  refine Vv (t:=tD ⟨H,Av c σ δ,[],λ_ _=>False⟩ fb) I (CC pins σ H s I) L hr ru hb (λcd nj=>dJ _ cd s H nj rfl) ?_;have iI:∀ (i:Nat) x,(some (S.pure d) :: dv.map λx=>some (S.pure x))[i]? = some (some (.own x))->False:=λi x e=>by
   cases i with
   | zero=>simp at e
   | succ i =>
    rw[JX,Wp] at e
    cases z:dv[i]? with
    | none=>rw[z] at e; cases e
    | some y=>rw[z] at e; cases e
  have uF:∀ b,Av ⟨H,Av c σ δ,[],λ_ _=>False⟩ (some v :: fv.map some) (some (S.pure d) :: dv.map λx=>some (S.pure x)) b->Av c σ δ b:=λb z=>by
   rcases z with z | ⟨i,x,z1,_⟩
   ·exact z
   ·exact(iI i x z1).elim
  refine⟨some (.pure d) :: dv.map λx=>some (.pure x),⟨λa o e _=>e,λa z=>ok.s_ z,λa ⟨i,z⟩=>by simp at z,?_,λi x e=>?_,λi x e=>(iI i x e).elim,λi j a x x' e=>(iI i x e).elim,λz hz=>by simp at hz⟩,?_⟩
  ·simp[rv.1]
  ·cases i with
   | zero =>
    simp at e;subst e;exact⟨v,rfl,rd.aK λb z=>.inl (uF b z)⟩
   | succ i =>
    rw[JX,Wp] at e
    cases z:dv[i]? with
    | none=>rw[z] at e; cases e
    | some y =>
     rw[z] at e; cases e
     have hi:i < fv.length:=by rw[rv.1]; exact(W6.mp z).1
     refine⟨fv[i],?_,(key i fv[i] x (by simp[hi]) z).aK λb z=>.inl (uF b z)⟩;rw[JX,Wp];simp[hi]
  ·unfold g8 at hF
   cases e:fb (some (.pure d) :: dv.map λx=>some (.pure x)) with
   | exc x δx=>rw[e] at hF; cases hF
   | stuck=>rw[e] at hF; cases hF
   | ok r δ' =>
    rw[e] at hF
    cases hF;intro v' H' a rs;have up:∀ b o,H b=some o->H' b=some o:=λb o eb=>a.ok.keep b o eb λ⟨i,z⟩=>by simp at z
    exact q v' H' (.mono ok up) (rs.rep.aK λb z=>.inl (.inl z))
end DV
namespace L2
open PySem PySem.Spec PyProof.Rows
theorem ET:∀ {kvs:List (Key×V)} {vs:List (Key×Value)} {us:List Value},KV kvs vs->us.length=vs.length->(∀ (j:Nat) v,us[j]? = some v->∃ k x,vs[j]? = some (k,x)/\(bX P w).is k v=true)->Vals (kvs.map λp=>kV p.1) us
 | [],_,[],.nil,_,_=>.nil
 | [],_,_ :: _,.nil,h,_=>by simp at h
 | p :: r,_,[],.cons _ _,h,_=>by simp at h
 | p :: r,q :: vs,u :: us,.cons h1 h2,hl,hk=>by
  refine .cons ?_ (ET h2 (by simpa using hl) λj v e=>by simpa using hk (j + 1) v (by simpa using e));obtain⟨k,x,e,z⟩:=hk 0 u rfl;simp at e;rw[vE] at z;rcases jG z with ⟨i,t,e1,e2⟩ | ⟨y,t,e1,e2⟩
  ·show RelV (kV p.1) u;rw[h1.1,e];subst e1;exact⟨t,e2⟩
  ·show RelV (kV p.1) u;rw[h1.1,e];subst e1;exact⟨t,e2⟩
theorem Vy (hc:X.calm=true):eA X (.type "list") (λxs H Q=>∃ a kvs,xs=[V.ref a]/\H a=some (.dK kvs)/\∀ l,H l=none->Q (.ref l) (upd H l (.lst (kvs.map λp=>kV p.1)))):=by
 intro pins s σ H xs us Q I r h;obtain⟨a,kvs,rfl,ha,q⟩:=h;obtain⟨u,rfl,ru⟩:=h_ r
 cases ru;obtain⟨z,lo,vs,kv,hD⟩:=I.ax a _ ha;obtain⟨ep,hat⟩:=hD.dictAt;have hl:kvs.length=vs.length:=Paired.length kv;refine PySem.W.kdl_call (PySem.W.kdl_dict (knd:=bX X.prog X.w) (kvs:=vs) (ep:=ep) lo) (I.ok.hd hc) hat Y' λh' tk acc c' kp e EU=>?_
 have hv:Vals (kvs.map λp=>kV p.1) acc.toList:=ET (P:=X.prog) (w:=X.w) kv (by simp[EU.1]) λj v e=>EU.2 j v (by simpa using e)
 exact⟨.ref s.heap.objs.size,_,I.laid (t':=tk) kp (Wa _) (show bF X.prog X.w _ h' _ (.lst _) from⟨by simpa using z,acc.toList,c',hv,by simpa using e⟩),rfl,q _ (I.ax.fresh (Wa _))⟩
end L2
namespace DV
open PySem PySem.Spec PyProof.Rows L2
def nq:aB->D
 | .inl i=>.int i
 | .inr x=>.str x
noncomputable def uG:D->Option S
 | .au ds=>some (.own (.lst (ds.map λp=>nq p.1)))
 | _=>none
theorem EV:∀ {ws:List (Key×V)} {ds:List (aB×D)},ws.map (·.1)=ds.map (λp=>bZ p.1)->aD H O (ws.map λp=>kV p.1) (ds.map λp=>nq p.1)
 | [],[],_=>.nil
 | [],_ :: _,h=>by simp at h
 | _ :: _,[],h=>by simp at h
 | p :: ws,q :: ds,h=>by
  simp only[We,List.cons.injEq] at h;refine .cons ?_ (EV h.2);show Rep H O (kV p.1) (nq q.1);rw[h.1]
  cases q.1 with
  | inl i=>exact .int i
  | inr x=>exact .str x
section
variable {X:Cx} {c:Fc} {e:Expr} {fb:BE} {pos pp p:Pos}
theorem Vz (hc:X.calm=true) (hg:Gl X "list") (hm:X.mg "list" = none) (he:SB X c e fb) (hs:mV e=true:=by rfl):SE X c (.Call (.Name "list" pp) [e] [] pos) (aR uG fb) :=
 tO (r:=λv H Q=>∃ a kvs,v=V.ref a/\H a=some (.dK kvs)/\∀ l,H l=none->Q (.ref l) (upd H l (.lst (kvs.map λp=>kV p.1)))) (Vy hc) (λv H Q ⟨a,kvs,e,h⟩=>⟨a,kvs,by rw[e],h⟩)
  (λc σ δ H x d s Q k rx hp q=>by
   cases d with
   | au ds =>
    cases hp;obtain⟨a,ws,ex,ha,r1,_⟩:=rx.au;exact⟨a,ws,ex,ha,λl hl=>q _ _ (.alloc k hl _) (aY.n8 k (EV r1) hl)⟩
   | _=>simp[uG] at hp) hg hm PyProof.Rows.boot_list he Z' Z' (oB hs)
end
noncomputable def oH(fa:Addr)(F:D->Option D)(i:Nat)(fe:DE):DE:=λδ=>match δ[i]? with
 | some (some (.pure (.fn a)))=>if a=fa then(fe δ).bind λr δ1=>match F r.d with
   | some d'=>.ok (.pure d') δ1
   | none=>.stuck
  else .stuck
 | _=>.stuck
theorem VA{M:Model}{A:Wr}{E:Value->W2->Prop}{s:W2}{env:Env}{pos:Pos}{a:Addr}{first:List Value}{Q:Value->W2->Prop}{e:Expr}{rest:List Expr}
  (h:W5 M A (spliced (Qi pos (Wh (e :: rest) env))) (λvs s₁=>(∃ fd,s₁.heap.get? a=some { cls:=.type "function",data:=.func fd })/\W5 M A (call (.ref a) (first ++ vs)) Q E s₁) E s)
  (he:Wh (e :: rest) env=(false,eval e env) :: Wh rest env:=by rfl) (v8:(Qi pos (Wh rest env)).any (·.1)=false:=by rfl) :
  W5 M A (callWith pos (.ref a) first (Qi pos (Wh (e :: rest) env)) []) Q E s:=by
 rw[he] at h ⊢;exact PySem.W.callWith_of (P:=λh=>∃ fd,h.get? a=some { cls:=.type "function",data:=.func fd }) (by show((false || (Qi pos (Wh rest env)).any (·.1)) || false)=false; rw[v8]; rfl)
  (λh ⟨fd,hf⟩=>⟨.frame,.inl rfl,(PySem.W.Looks.ld (part:=none) hf).andThen .now⟩) (Calls.evalArgs_plain h)
theorem VB{X:Cx}{c:Fc}{fa:Addr}{F:D->Option D}{i:Nat}{x:Str}{e:Expr}{fe:DE}{p pos:Pos}(hc:uE X c fa F)(hv:PE X (.Name x p) (cM i))(he:SE X c e fe)
  (hs:Wh [e] X.env=(false,eval e X.env) :: Wh [] X.env:=by rfl):SE X c (.Call (.Name x p) [e] [] pos) (oH fa F i fe):=by
 intro pins s σ H Q I ⟨δ,k,q⟩;unfold oH at q;split at q
 ·rename_i a e1;split at q
  ·rename_i ea;subst ea;obtain⟨v,e2,r⟩:=k.slot i (.fn a) e1
   cases r;refine U0 (WV (hv pins s σ H (λv' H'=>v' = .ref a/\H'=H) I ⟨.ref a,e2,rfl,rfl⟩) (λu s1 ⟨v',H',I1,ru,ev,eH⟩=>?_) λ_ _ z=>z);subst ev eH;obtain rfl:u=Value.ref a:=ru;have ha:=fw he gz hs;refine VA (aF (ha pos pins s1 σ H' (λvs H2=>∃ r δ1 d',vs.length=1/\F r=some d'/\(∀ v ∈ vs,Rep H2 (Av c σ δ1) v r)/\aM c σ δ H' σ δ1 H2/\∀ v' H3,aM c σ δ H' σ δ1 H3->Rep H3 (Av c σ δ1) v' d'->Q v' H3) I1 ⟨δ,k,?_⟩) λus s2 ⟨vs,H2,I2,rr,r,δ1,d',hl,hF,hr,af,hq⟩=>⟨hc.there _ _ _ _ I2,?_⟩) hs rfl
   ·rw[aU] at q;refine aJ q λr δ1 q1 v H1 a1 r1=>?_
    cases hF:F r.d with
    | none=>rw[hF] at q1; exact q1.elim
    | some d' =>
     rw[hF] at q1;exact⟨r.d,δ1,d',rfl,hF,λv' x5=>by
      have:v'=v:=by simpa using x5
      subst this;exact r1.rep,a1,λv' H3 a3 r3=>q1 v' H3 a3 r3⟩
   ·obtain⟨v,rfl⟩:∃ v,vs=[v]:=by
     match vs,hl with
     | [v],_=>exact⟨v,rfl⟩
    obtain⟨u,rfl,ru⟩:=h_ rr;exact hc.run pins s2 σ δ1 H2 v u r d' Q I2 af.ok (hr v U') ru hF λv' H3 a3 r3=>hq v' H3 (af.trans a3) r3
  ·exact q.elim
 ·exact q.elim
end DV
namespace L2
open PySem PySem.Spec PyProof.Rows
theorem EW{a b:Value}{x y:Int}{t u:Tok}:∀ {l:List Value},TriplesOk l->TriplesOk (l ++ [.int x t,.int y u,b])
 | [],_=>trivial
 | .int _ _ :: .int _ _ :: _ :: r,h=>EW (a:=a) (l:=r) h
theorem EX:∀ {l:List Value},TriplesOk l->codeAmong pos l=none->codeAmong pos (l ++ [.int x t,.int y u,b])=some cv->cv=b
 | [],_,_,h=>by
  simp only[Qm,codeAmong] at h;split at h
  ·exact(WS h).symm
  ·cases h
 | .int i _ :: .int j _ :: c :: r,h,hn,e=>by
  simp only[codeAmong] at hn;split at hn
  ·cases hn
  ·rename_i q;simp only[JM,codeAmong] at e;rw[if_neg q] at e;exact EX (l:=r) h hn e
section
variable {X:Cx} {pins:List (Addr×Obj)} {σ:St} {H:Hp} {s:W2} {params:Arguments} {body:Expr} {scope:Scope} {pos:Pos} {cl:List (Str×Addr)} {c P:Addr} {fr:List Str} {fv:List V} {js:List Nat} {Q:Value->W2->Prop} {E:Value->W2->Prop}
theorem Inv.VC(I:Inv X pins σ H s)(h:s.heap.objs.size<=a):a ∉ fY X.stack:=λz=>by
 rcases Wq.mp (I.pK a z) with e | e
 ·have:=I.lt;rw[<- e] at this;exact absurd (WE this h) (QN _)
 ·exact I.Af h e
theorem Inv.VD(I:Inv X pins σ H s)(jd:∀ x,X.fn x=true)(h:X.env.cells.lookup x=some c):c ∉ fY X.stack:=λz=>by
 rcases Wq.mp (I.pK c z) with e | e
 ·exact I.la x c h e
 ·obtain⟨_,o,ho,_⟩:=I.ok.hU.mem e;exact absurd (WE (Wj ho) (I.ok.nU x c (jd x) h)) (QN _)
theorem VE (I:Inv X pins σ H s) (hP:H P=some (.ctab pos (X.env.qual ++ "<lambda>"))) (jd:∀ x,X.fn x=true) (yl:defaultsOf params X.env=([],[])) (iA:closureFor scope X.env=pure cl) (uH:X.env.code = .ref c)
  (CH:JN X.K c P=true) (ym:Wv≠P) (hB:X.base.BuiltinsAt X.mg P)
  (iZ:∀ x a,cl.lookup x=some a->X.env.cells.lookup x=some a) (hlen:fv.length=fr.length)
  (xX:∀ (i:Nat) x v,fr[i]? = some x->fv[i]? = some v->∃ (j:Nat) (a:Addr),X.N[j]? = some x/\σ[j]? = some (some v)/\X.env.scope.names.lookup x=some .cell/\cl.lookup x=some a)
  (h:∀ fa H' s',Inv X pins σ H' s'->(∀ a o,H a=some o->H' a=some o)->ni H' (fY X.stack) s'.heap fa (X.env.qual ++ "<lambda>") params body scope cl fr fv->Q (.ref fa) s') :
  W5 (model X.prog X.w) X.A (eval (.Lambda params body scope pos) X.env) Q E s:=by
 obtain⟨ps,hp,ht,hr⟩:=I.ax P _ hP;have EY:=PySem.W.codeHd_of_K I.eJ CH;have hg:s.heap.Ns Wv X.mg:=I.mod.glob.keeps I.bk;have hb:=hB.keeps I.bk;-- the closure,once all is laid
 have fin:∀ (H':Hp) (h':Heap) (tk:Tok) (pm d9:Value) (c':Addr) (oc:Obj),(∀ b o,b≠P->s.heap.get? b=some o->h'.get? b=some o)->s.heap.objs.size<=h'.objs.size->(∀ a o,H a=some o->H' a=some o)->(∀ b,H b=none->b < s.heap.objs.size->H' b=none)->H' h'.objs.size=none ->
   H' c'=some (.frz oc (.ext λ_=>True))->(∃ vs tq,oc.data = .fields vs/\vs[1]? = some (.str (X.env.qual ++ "<lambda>") tq))->bN X.prog X.w H' (h'.push (Uq "<lambda>" (X.env.qual ++ "<lambda>") params body scope cl pm c' d9))->(∃ o,h'.get? P=some o) ->
   Q (.ref h'.objs.size) { s with heap:=h'.push (Uq "<lambda>" (X.env.qual ++ "<lambda>") params body scope cl pm c' d9),toks:=tk }:=by
  intro H' h' tk pm d9 c' oc hk hsz up dn yn fZ hoc ax hPo;have kp:∀ b o,b≠P->s.heap.get? b=some o->(h'.push (Uq "<lambda>" (X.env.qual ++ "<lambda>") params body scope cl pm c' d9)).get? b=some o:=λb o nb e=>W3 _ (hk b o nb e)
  have nP:∀ b,H b=none->b≠P:=λb n z=>by grind
  have J:Inv X pins σ H' { s with heap:=h'.push (Uq "<lambda>" (X.env.qual ++ "<lambda>") params body scope cl pm c' d9),toks:=tk }:=I.un ⟨λb o e n _ _=>kp b o (nP b n) e,λb o e n _ _=>⟨o.slots,kp b o (nP b n) e⟩,λb o e n _=>dn b n (Wj e),
   λb o e _=>by
    by_cases z:b=P
    ·obtain⟨o',q⟩:=hPo;exact⟨o',by rw[z]; exact W3 _ q⟩
    ·exact⟨o,kp b o z e⟩,λb xs e=>up _ _ e,λb o u e=>up _ _ e,λb ps e=>⟨#[],by rw[up _ _ e]; simp⟩⟩ ax
  refine h _ H' _ J up ⟨⟨pm,c',d9,oc,Wi _ rfl,yn,I.VC hsz,fZ,hoc⟩,λx a e=>?_,λx y a e1 e2=>I.ok.inj x y a (iZ x a e1) (iZ y a e2),λi x v e1 e2=>?_,hlen⟩
  ·exact⟨J.cell x a (iZ x a e),J.hV x a (iZ x a e),J.VD jd (iZ x a e)⟩
  ·obtain⟨j,a,q1,q2,q3,q4⟩:=xX i x v e1 e2;obtain⟨m,_,hl⟩:=J.loc;obtain⟨u,r1,r2⟩:=hl j x v q1 q2 (.inr (.inl q3));rcases r2 with ⟨z,_⟩ | ⟨_,a',z1,z2⟩
   ·have z':X.env.scope.names.lookup x=some .local:=z;rw[q3] at z'; cases z'
   ·rw[iZ x a q4] at z1; cases z1
    exact⟨a,u,q4,z2,r1⟩
 refine PySem.W.kla_eval yl ?_
 cases e:codeAmong pos ps.toList with
 | some cv =>
  obtain⟨c',oc,rfl,q1,q2⟩:=hr cv e;refine PySem.W.kla_makeFunctionHit iA I.ok.glob hg uH EY hp ht e hb λd9 h' tk hk hsz=>?_
  exact fin H h' tk _ d9 c' oc (λb o _ q=>hk b o q) hsz (λ_ _ q=>q) (λ_ n _=>n) (I.ax.fresh hsz) q1 q2 (I.ax.kept λb u q=>W3 _ (hk b u q)) ⟨_,hk _ _ hp⟩
 | none =>
  refine PySem.W.kla_makeFunction iA I.ok.glob hg uH EY hp ht e ym hb λc' d9 h' tk hx yo aP VF EZ=>?_
  obtain⟨c2,oc,vs,tq,ec,hoc,hd,hv⟩:=VF
  cases ec;have hn:H c'=none:=I.ax.fresh yo;have up:∀ a o,H a=some o->upd H c' (.frz oc (.ext λ_=>True)) a=some o:=λa o q=>by rw[aH (fO q hn)]; exact q
  have hsz:s.heap.objs.size<=h'.objs.size:=Qe yo (J9 aP);refine fin (upd H c' (.frz oc (.ext λ_=>True))) h' tk _ d9 c' oc (λb o nb q=>hx b o nb q) hsz up (λb n hb=>by rw[aH (Wo (WE hb yo))]; exact n) (by rw[aH (QB aP)]; exact I.ax.fresh hsz) cf ⟨vs,tq,hd,hv⟩ ?_ ⟨_,EZ⟩;intro a o ea;by_cases h1:a=c'
  ·subst h1;rw[cf] at ea; cases ea
   exact⟨W3 _ hoc,trivial,⟨_,W3 _ hoc⟩,by grind⟩
  ·rw[aH h1] at ea;by_cases h2:a=P
   ·subst h2;rw[hP] at ea; cases ea
    refine⟨_,W3 _ EZ,?_,λcv z=>?_⟩
    ·rw[Array.toList_append];exact EW (a:=.none) ht
    ·rw[Array.toList_append] at z;have:=EX ht e z;subst this;exact⟨c',oc,rfl,cf,vs,tq,hd,hv⟩
   ·refine(I.ax a o ea).mh (λb u hb q=>W3 _ (hx b u (λz=>?_) q)) (λb q=>up _ _ q) (λb xs q=>up _ _ q) λb o u q=>up _ _ q
    grind
end
end L2
namespace DV
open PySem PySem.Spec PyProof.Rows L2
abbrev kO:=List (Addr×Pos×Str)
def TH(ts:kO)(H:Hp):Prop:=∀ t ∈ ts,H t.1=some (.ctab t.2.1 t.2.2)
structure FT(ts:kO)(c:Fc):Prop where
 h:TH ts c.H₀
 n:∀ t ∈ ts,¬ c.I t.1
theorem FT.now(f:FT ts c)(k:Ok c σ δ H):TH ts H:=λt ht=>k.keep _ _ (f.h t ht) (f.n t ht)
section
variable {P:Wk} {w:Wn} {K:W4} {mg:Str->Option Value} {base:Heap}
def spS(P:Wk)(w:Wn)(K:W4)(mg:Str->Option Value)(base:Heap)(N:List Str)(qual:Str)(scope:Scope)(f:Addr)(k:Nat)(i7:Addr->(D->Option D)->DS):List Env->W2->Sp:=λouter s vs H Q _ =>
 ∃ (d:D) (fa:Addr) (F:D->Option D) (B:Addr->Prop) (v:V),vs=[v,.ref fa]/\Ok ⟨H,B,[],λ_ _=>False⟩ [some v,some (.ref fa)] [some (.pure d),some (.pure (.fn fa))] H /\
  (∀ aN A E,bY k (A.deeper (JA qual scope s.heap.objs.size f aN))->A.frames=some outer->uE (fz de P w K mg base N qual scope f aN A outer s H E).f6 ⟨H,B,[],λ_ _=>False⟩ fa F) /\
  ∃ r aL,eN (i7 fa F) N.length [.pure d,.pure (.fn fa)]=some (r,aL) /\
   ∀ v' H',aM ⟨H,B,[],λ_ _=>False⟩ [some v,some (.ref fa)] [some (.pure d),some (.pure (.fn fa))] H [some v,some (.ref fa)] (cn aL) H'->aY ⟨H,B,[],λ_ _=>False⟩ [some v,some (.ref fa)] (cn aL) H H' v' r->Q v' H'
theorem VG{x qual:Str}{st:Stmt}{f:Addr}{fd:Q7}{N ps:List Str}{k:Nat}{i7:Addr->(D->Option D)->DS}(F:dH K x qual st f fd)(S:f_ N ps (bw st))(h2:ps.length=2)
  (dJ:∀ (c:Fc) (aN:Value) (A:Wr) (outer:List Env) (s:W2) (H:Hp) (E:XK) (fa:Addr) (Fn:D->Option D),bY k (A.deeper (JA qual (bw st) s.heap.objs.size f aN))->Np c []->uE (fz de P w K mg base N qual (bw st) f aN A outer s H E).f6 c fa Fn->fT (fz de P w K mg base N qual (bw st) f aN A outer s H E).f6 c (dM st) (i7 fa Fn)) :
  yj P w K mg base (k + 1) f fd ps (spS P w K mg base N qual (bw st) f k i7):=by
 refine F.Vt S (λouter s vs H Q E h=>?_) λaN A outer s H vs Q E hr jO h=>?_
 ·obtain⟨d,fa,Fn,B,v,rfl,_⟩:=h;exact h2.symm
 ·obtain⟨d,fa,Fn,B,v,rfl,ok,yp,r,aL,hrun,q⟩:=h;refine⟨oo ⟨H,B,[],λ_ _=>False⟩ (i7 fa Fn),dJ ⟨H,B,[],λ_ _=>False⟩ aN A outer s H E fa Fn hr (λp hp=>by simp at hp) (yp aN A E hr jO),?_⟩;have cU:fP N [v,.ref fa]=ck [v,.ref fa] ++ Wm (N.length - 2) none:=rfl;refine⟨bc N.length [.pure d,.pure (.fn fa)],by rw[cU]; exact ok.ext _,?_⟩;unfold eN at hrun;unfold dR;have tV:cy 0 [.pure d,.pure (.fn fa)] [v,.ref fa]=[]:=by simp[cy]
  cases e:i7 fa Fn (bc N.length [.pure d,.pure (.fn fa)]) with
  | exc x δx=>rw[e] at hrun; cases hrun
  | stuck=>rw[e] at hrun; cases hrun
  | ok fl δ' =>
   rw[e] at hrun;show ∀ σ' H',aM _ (fP N [v,.ref fa]) (bc N.length [.pure d,.pure (.fn fa)]) H σ' δ' H'->fin _ _ σ' δ' H' fl;intro σ' H' a;rw[cU] at a;simp only at hrun
   cases fl with
   | brk=>cases hrun
   | cont=>cases hrun
   | next =>
    simp only[bP,WH] at hrun
    cases eo:bJ 0 [.pure d,.pure (.fn fa)] δ' with
    | none=>rw[eo] at hrun; cases hrun
    | some os =>
     rw[eo] at hrun
     cases hrun;obtain⟨l1,l2⟩:=ox (vs:=[v,.ref fa]) (by rw[tV]) ok a eo;exact q .ay H' l1 .ay
   | ret r' =>
    simp only[bP,WH] at hrun
    cases eo:bJ 0 [.pure d,.pure (.fn fa)] δ' with
    | none=>rw[eo] at hrun; cases hrun
    | some os =>
     rw[eo] at hrun
     cases hrun;obtain⟨l1,l2⟩:=ox (vs:=[v,.ref fa]) (by rw[tV]) ok a eo;exactλv' rv=>q v' H' l1 (l2 v' _ rv)
end
def nr(ts:kO)(n:Nat)(G:DF):Sp:=λvs H Q E=>TH ts H/\t4 n G vs H Q E
def l0(P:Wk)(w:Wn)(K:W4)(mg:Str->Option Value)(base:Heap)(ts:kO)(k:Nat)(x:Str)(n:Nat)(G:DF):Prop :=
 ∃ (f:Addr) (fd:Q7) (ps:List Str),mg x=some (.ref f)/\JI K (.ref f)=true/\Binds K fd ps []/\iM P w K mg base de k f fd ps (nr ts n G)
section
variable {P:Wk} {w:Wn} {K:W4} {mg:Str->Option Value} {base:Heap}
theorem E1{ts:kO}{x qual:Str}{st:Stmt}{f:Addr}{fd:Q7}{N ps:List Str}{k:Nat}{np:List Nat}{fb:DS}{G:DF}(F:dH K x qual st f fd)(S:f_ N ps (bw st))
  (dJ:∀ (c:Fc) (aN:Value) (A:Wr) (outer:List Env) (s:W2) (H:Hp) (E:XK),bY k (A.deeper (JA qual (bw st) s.heap.objs.size f aN))->Np c np->FT ts c->(∃ oc od kV doc pm an ct eB,K.lookup f=some ⟨oc,od,.func (Qf x qual (gR st) (dM st) (bw st) .none kV doc pm an aN ct),eB⟩)->fT (fz de P w K mg base N qual (bw st) f aN A outer s H E).f6 c (dM st) fb)
  (hG:∀ ss y,G ss=some y->bO np 0 ss=true/\eN fb N.length ss=some y):iM P w K mg base de (k + 1) f fd ps (nr ts ps.length G):=by
 obtain⟨oc,od,kV,doc,pm,an,aN,ct,eB,rfl,lk,gy⟩:=F.ex;refine A7 lk gy S (λvs H Q E h=>?_) λA outer s H vs Q E hr h=>?_
 ·obtain⟨_,ss,B,hl,_⟩:=h;exact hl
 ·obtain⟨hT,ss,B,hl,ok,r,aL,hg,q⟩:=h;obtain⟨gJ,hrun⟩:=hG ss _ hg;have mR:ss.length=vs.length:=by have:=ok.len; simpa using this
  have xj:Np ⟨H,B,cy 0 ss vs,λ_ _=>False⟩ np:=λp hp=>by
   obtain⟨j,d,e,h1,_⟩:=mQ (i:=p.1) (a:=p.2) hp;rw[e];exact xi gJ h1
  have ft:FT ts ⟨H,B,cy 0 ss vs,λ_ _=>False⟩:=⟨hT,λt ht ⟨i,z⟩=>by
   obtain⟨j,d,_,h1,h2⟩:=mQ z;obtain⟨a,e1,o,_⟩:=ok.own j d (eX.mpr h1);rw[fE.mpr h2] at e1
   cases e1;have:=hT t ht
   cases d with
   | lst ds=>obtain⟨_,e,_⟩:=o; grind
   | au ds=>obtain⟨_,e,_⟩:=o; grind
   | dic ds=>obtain⟨_,_,e,_⟩:=o; grind
   | _=>exact o.elim⟩
  have hb:=dJ ⟨H,B,cy 0 ss vs,λ_ _=>False⟩ aN A outer s H E hr xj ft ⟨oc,od,kV,doc,pm,an,ct,eB,lk⟩;refine⟨oo ⟨H,B,cy 0 ss vs,λ_ _=>False⟩ fb,hb.f6,?_⟩;have cU:fP N vs=ck vs ++ Wm (N.length - ss.length) none:=by rw[mR]; rfl
  refine⟨bc N.length ss,by rw[cU]; exact ok.ext _,?_⟩;unfold eN at hrun;unfold dR
  cases e:fb (bc N.length ss) with
  | exc x δx=>rw[e] at hrun; cases hrun
  | stuck=>rw[e] at hrun; cases hrun
  | ok fl δ' =>
   rw[e] at hrun;show ∀ σ' H',aM _ (fP N vs) (bc N.length ss) H σ' δ' H'->fin _ _ σ' δ' H' fl;intro σ' H' a;rw[cU] at a;simp only at hrun
   cases fl with
   | brk=>cases hrun
   | cont=>cases hrun
   | next =>
    simp only[bP,WH] at hrun
    cases eo:bJ 0 ss δ' with
    | none=>rw[eo] at hrun; cases hrun
    | some os =>
     rw[eo] at hrun
     cases hrun;obtain⟨l1,l2⟩:=ox rfl ok a eo;exact q .ay H' l1 .ay
   | ret r' =>
    simp only[bP,WH] at hrun
    cases eo:bJ 0 ss δ' with
    | none=>rw[eo] at hrun; cases hrun
    | some os =>
     rw[eo] at hrun
     cases hrun;obtain⟨l1,l2⟩:=ox rfl ok a eo;exactλv rv=>q v H' l1 (l2 v _ rv)
end
section
variable {X:Cx} {c:Fc} {e:Expr} {es:List Expr} {as:List Ak} {k n:Nat} {x:Str} {G:DF} {pp pos:Pos} {ts:kO}
theorem VH (F:l0 X.prog X.w X.K X.mg X.base ts k x n G) (ft:FT ts c) (hK:oz G) (hr:bY k X.A) (hg:Gl X x) (ha:SX X c (e :: es) as) (hl:as.length=n) (gC:(x == ("__debug__" : Str))=false:=by decide)
  (he:Wh (e :: es) X.env=(false,eval e X.env) :: Wh es X.env:=by rfl) (dY:(Qi pos (Wh es X.env)).any (·.1)=false:=by rfl):SE X c (.Call (.Name x pp) (e :: es) [] pos) (ao G as):=by
 obtain⟨f,fd,ps,hm,hk,hb,ok⟩:=F;refine PE.weak (AY ok hr hg hm hk hb .nil Bz ha gC he dY) λσ H Q h=>?_
 obtain⟨δ,kk,gJ,q⟩:=Df (ps:=ps) hK hl h;exact⟨δ,kk,gJ,aJ q λds δ1 q1 vs H1 a1 r1=>⟨ft.now a1.ok,q1 vs H1 a1 r1⟩⟩
end
def jr:List Nat->Dl->Option (List D×Dl)
 | [],δ=>some ([],δ)
 | j :: js,δ=>match δ[j]? with
  | some (some (.pure d))=>(jr js δ).map λp=>(d :: p.1,p.2)
  | some (some (.own d))=>(jr js (δ.set j (some (.pure d)))).map λp=>(d :: p.1,p.2)
  | _=>none
theorem E3:∀ {js:List Nat} {δ δ2:Dl} {dv:List D},Ok c σ δ H->jr js δ=some (dv,δ2)->aM c σ δ H σ δ2 H/\∃ fv:List V,fv.length=js.length/\(∀ (i:Nat) j,js[i]? = some j->∃ v,fv[i]? = some v/\σ[j]? = some (some v))/\aD H (Av c σ δ2) fv dv
 | [],δ,δ2,dv,k,h=>by
  simp only[jr,Wg,Prod.mk.injEq] at h;obtain⟨rfl,rfl⟩:=h;exact⟨.refl k,[],rfl,λi j e=>by simp at e,.nil⟩
 | j :: js,δ,δ2,dv,k,h=>by
  have core:∀ {δ1:Dl} {d:D} {v:V},aM c σ δ H σ δ1 H->Rep H (Av c σ δ1) v d->σ[j]? = some (some v)->(jr js δ1).map (λp=>(d :: p.1,p.2))=some (dv,δ2)->aM c σ δ H σ δ2 H/\∃ fv:List V,fv.length=(j :: js).length/\(∀ (i:Nat) j',(j :: js)[i]? = some j'->∃ v,fv[i]? = some v/\σ[j']? = some (some v))/\aD H (Av c σ δ2) fv dv:=by
   intro δ1 d v a1 r1 e1 hm
   cases e:jr js δ1 with
   | none=>rw[e] at hm; cases hm
   | some p =>
    obtain⟨dv',δ'⟩:=p;rw[e] at hm;simp only[Wz,Wg,Prod.mk.injEq] at hm;obtain⟨rfl,rfl⟩:=hm;obtain⟨a2,fv,h1,h2,h3⟩:=E3 a1.ok e;refine⟨a1.trans a2,v :: fv,by simp[h1],λi j' ej=>?_,.cons (Rep.dq r1 a2) h3⟩
    cases i with
    | zero=>simp at ej; subst ej; exact⟨v,rfl,e1⟩
    | succ i =>
     obtain⟨v',q1,q2⟩:=h2 i j' (by simpa using ej);exact⟨v',by simpa using q1,q2⟩
  simp only[jr] at h;split at h
  ·rename_i d e;obtain⟨v,e1,r⟩:=k.slot j d e;exact core (.refl k) r e1 h
  ·rename_i d e;obtain⟨a,e1,af,r⟩:=k.give e;exact core af r e1 h
  ·cases h
def uI(fe:DE)(js:List Nat)(fb:DE)(W:(D->Option D)->D->Option D):DE:=λδ=>(fe δ).bind λr δ1=>match jr js δ1 with
 | some (dv,δ2)=>match W (g8 fb dv) r.d with
  | some d'=>.ok (.pure d') δ2
  | none=>.stuck
 | none=>.stuck
def yq(P:Wk)(w:Wn)(K:W4)(mg:Str->Option Value)(base:Heap)(k:Nat)(x:Str)(m:Nat)(i7:Addr->(D->Option D)->DS):Prop :=
 ∃ (f:Addr) (fd:Q7) (ps:List Str) (qual:Str) (scope:Scope) (N:List Str),N.length=m/\mg x=some (.ref f)/\JI K (.ref f)=true/\Binds K fd ps []/\ps.length=2/\yj P w K mg base (k + 1) f fd ps (spS P w K mg base N qual scope f k i7)
theorem VI{cl cells:List (Str×Addr)}(h:∀ q ∈ cl,cells.lookup q.1=some q.2):∀ x a,cl.lookup x=some a->cells.lookup x=some a:=λx a e=>h (x,a) (WB e)
theorem VJ(h1:sc.kind = .function:=by rfl)(h2:sc.isCoroutine=false:=by rfl)(h3:sc.isGenerator=false:=by rfl)(h4:sc.names.lookup p=some .local:=by rfl)(h5:∀ y ∈ sc.names,y.2≠.cell:=by decide +kernel)
  (h6:∀ y ∈ sc.names,y.2 = .free->y.1 ∈ fr:=by decide +kernel) (h7:∀ x ∈ fr,sc.names.lookup x=some .free:=by decide +kernel):uD p fr sc:=⟨h1,h2,h3,h4,h5,λx e=>h6 _ (WB e) rfl,h7⟩
section
variable {X:Cx} {c:Fc} {e:Expr} {fe fb:DE} {params:Arguments} {body:Expr} {scope:Scope} {nu pos pp:Pos} {P code:Addr} {cl:List (Str×Addr)} {fr:List Str} {js:List Nat} {p x:Str} {kl kw m:Nat} {i7:Addr->(D->Option D)->DS} {W:(D->Option D)->D->Option D} {ts:kO}
theorem VL(F:yq X.prog X.w X.K X.mg X.base kw x m i7)(hW:∀ fa Fn d r,W Fn d=some r->∃ aL,eN (i7 fa Fn) m [.pure d,.pure (.fn fa)]=some (.pure r,aL))
  (ft:FT ts c) (VM:(P,nu,X.env.qual ++ "<lambda>") ∈ ts) (hr:bY (kw + 1) X.A) (VN:kl + 1<=kw) (hg:Gl X x) (he:SE X c e fe) (jd:∀ x,X.fn x=true)
  (yl:defaultsOf params X.env=([],[])) (iA:closureFor scope X.env=pure cl) (uH:X.env.code = .ref code) (CH:JN X.K code P=true) (ym:Wv≠P) (hB:X.base.BuiltinsAt X.mg P)
  (iZ:∀ x a,cl.lookup x=some a->X.env.cells.lookup x=some a) (L:uD p fr scope) (E4:js.length=fr.length)
  (hN:∀ (i:Nat) x j,fr[i]? = some x->js[i]? = some j->X.N[j]? = some x/\X.env.scope.names.lookup x=some .cell/\∃ a,cl.lookup x=some a)
  (hb:∀ pm aN d9 (u:Value),bindArgs (PySem.W.kla_fn "<lambda>" (X.env.qual ++ "<lambda>") params body scope cl pm aN d9) ⟨[u],[]⟩=pure [(p,u)])
  (dJ:∀ (c':Fc) (fa:Addr) (cd:Value) (A:Wr) (outer:List Env) (s:W2) (H:Hp),bY kl (A.deeper (Ud (X.env.qual ++ "<lambda>") scope s.heap.objs.size fa cd cl))->c'.pin=[]->SE (qP X.prog X.w X.K X.mg X.base (p :: fr) (X.env.qual ++ "<lambda>") scope fa cd cl A outer s H) c' body fb)
  (gC:(x == ("__debug__" : Str))=false:=by decide)
  (hs:Wh [e,.Lambda params body scope nu] X.env=(false,eval e X.env) :: Wh [.Lambda params body scope nu] X.env:=by rfl)
  (tR:Wh [.Lambda params body scope nu] X.env=[(false,eval (.Lambda params body scope nu) X.env)]:=by rfl):SE X c (.Call (.Name x pp) [e,.Lambda params body scope nu] [] pos) (uI fe js fb W):=by
 obtain⟨f,fd,ps,qual,sc,N,hNm,mF,hk,hbi,h2,ok⟩:=F;intro pins s σ H Q I ⟨δ,k,q⟩;refine U0 (vI I hg mF ?_ gC);refine PySem.W.callWith_K (h₀:=X.base) I.ok.mod.pH hk ?_ hs (by rw[tR]; rfl);rw[hs,tR];show W5 _ _ (spliced ((false,eval e X.env) :: [(false,eval (.Lambda params body scope nu) X.env)])) _ _ s;unfold uI at q;rw[aU] at q;refine Calls.spliced_cons (aF (he pins s σ H (λv H1=>∃ r δ1 dv δ2 d',aM c σ δ H σ δ1 H1/\Rep H1 (Av c σ δ1) v r/\jr js δ1=some (dv,δ2)/\W (g8 fb dv) r=some d'/\∀ v' H3,aM c σ δ H σ δ2 H3->Rep H3 (Av c σ δ2) v' d'->Q v' H3) I ⟨δ,k,aJ q λr δ1 q1 v H1 a1 r1=>?_⟩) λu s1 ⟨v,H1,I1,ru,r,δ1,dv,δ2,d',a1,r1,eg,ew,hq⟩=>?_)
 ·cases eg:jr js δ1 with
  | none=>rw[eg] at q1; exact q1.elim
  | some z =>
   obtain⟨dv,δ2⟩:=z;rw[eg] at q1;simp only at q1
   cases ew:W (g8 fb dv) r.d with
   | none=>rw[ew] at q1; exact q1.elim
   | some d' =>
    rw[ew] at q1;exact⟨r.d,δ1,dv,δ2,d',a1,r1.rep,eg,ew,λv' H3 a3 r3=>q1 v' H3 a3 r3⟩
 ·obtain⟨a2,fv,l1,l2,rf⟩:=E3 a1.ok eg;have k2:=a2.ok;have hv:∀ (i:Nat) x v,fr[i]? = some x->fv[i]? = some v->∃ (j:Nat) (a:Addr),X.N[j]? = some x/\σ[j]? = some (some v)/\X.env.scope.names.lookup x=some .cell/\cl.lookup x=some a:=λi y w e1 e2=>by
   have hi:i < js.length:=by rw[E4]; exact(W6.mp e1).1
   obtain⟨w',q1,q2⟩:=l2 i js[i] (by simp[hi]);rw[e2] at q1; cases q1
   obtain⟨z1,z2,a,z3⟩:=hN i y js[i] e1 (by simp[hi]);exact⟨_,a,z1,q2,z2,z3⟩
  refine Calls.spliced_cons (VE I1 (ft.now k2 _ VM) jd yl iA uH CH ym hB iZ (by rw[l1,E4]) hv λfa H2 s2 I2 up C=>Calls.spliced_nil ⟨I2.eJ,?_⟩);have k3:Ok c σ δ2 H2:=k2.mono up;have sp:spS X.prog X.w X.K X.mg X.base N qual sc f kw i7 X.stack s2 [v,.ref fa] H2 Q E0:=by
   obtain⟨aL,hrun⟩:=hW fa (g8 fb dv) r d' ew;have r3:Rep H2 (Av c σ δ2) v r:=(Rep.dq r1 a2).keep λa o e _=>up a o e
   refine⟨r,fa,g8 fb dv,Av c σ δ2,v,rfl,?_,λaN A E nj jO=>?_,.pure d',aL,by rw[hNm]; exact hrun,λv' H' a r'=>?_⟩
   ·have iI:∀ (i:Nat) z,([some (S.pure r),some (S.pure (.fn fa))]:Dl)[i]? = some (some (.own z))->False:=λi z e=>by
     match i with
     | 0=>simp at e
     | 1=>simp at e
     | i + 2=>simp at e
    have uF:∀ b,Av ⟨H2,Av c σ δ2,[],λ_ _=>False⟩ [some v,some (.ref fa)] [some (.pure r),some (.pure (.fn fa))] b->Av c σ δ2 b:=λb z=>by
     rcases z with z | ⟨i,y,z1,_⟩
     ·exact z
     ·exact(iI i y z1).elim
    refine⟨λa o e _=>e,λa z=>k3.s_ z,λa ⟨i,z⟩=>by simp at z,rfl,λi z e=>?_,λi z e=>(iI i z e).elim,λi j a z z' e=>(iI i z e).elim,λz hz=>by simp at hz⟩;match i with
    | 0 =>
     simp at e;subst e;exact⟨v,rfl,r3.aK λb z=>.inl (uF b z)⟩
    | 1 =>
     simp at e;subst e;exact⟨.ref fa,rfl,.fn fa⟩
    | i + 2=>simp at e
   ·exact Vx (X:=(fz de X.prog X.w X.K X.mg X.base N qual sc f aN A X.stack s2 H2 E).f6) (k:=kl) rfl rfl rfl C L (nj.mono VN) hb (aD.keep rf λa o e _=>up a o e) λc' cd s' H' VO hp=>dJ c' fa cd _ _ s' H' VO hp
   ·have lZ:∀ b o,H2 b=some o->H' b=some o:=λb o eb=>a.ok.keep b o eb λ⟨i,z⟩=>by simp at z
    exact hq v' H' (((a1.trans a2).trans (.mono k2 up)).trans (.mono k3 lZ)) (Rep.aK (show Rep H' _ v' d' from r') λb z=>.inl (.inl z))
  have rr:Vals [v,.ref fa] [u,.ref fa]:=.cons ru (.cons rfl .nil);have l5:=hbi s2 [u,.ref fa] I2.eJ (by rw[Qb,h2]; rfl);rw[Qb] at l5;refine wpAny_call (JJ (ok.run X.A X.stack s2 H2 ⟨[u,.ref fa],[]⟩ [u,.ref fa] [v,.ref fa] Q E0 hr I2.vT l5 rr sp) λr s' qR=>?_)
  cases r with
  | error e=>exact qR.elim
  | ok fl =>
   cases fl with
   | ret u=>exact I2.after qR
   | next=>exact False.elim qR
   | brk=>exact False.elim qR
   | cont=>exact False.elim qR
end
theorem VP{P:Wk}{w:Wn}{K:W4}{mg mb:Str->Option Value}{k:Nat}{fa a T c:Addr}{tpos:Pos}{tq:Str}{fd:Q7}{x:Str}{G:DF}{s₁:W2}{vs:List Value}{ns:List Int}
  (KX:K.In s₁.heap) (qQ:s₁.heap.Ns Wv mg) (hb:s₁.heap.Ns builtinsNs mb) (yr:∀ x:Str,x≠"__name__"->mb x=QW x) (VQ:s₁.heap.NoLimit) (hg:s₁.gens = #[])
  (ha:s₁.heap.get? a=some { cls:=.type "list",data:=.seq vs.toArray }) (hi:IntsAre vs ns) (hl:ns.length<=Wb) (hr:bY k callerA)
  (hL:xx K=true) (hT:s₁.heap.get? T=some (PySem.W.tabObj #[])) (hC:PySem.W.CodeHd s₁.heap c T) (hB:∃ bm o,mg "__builtins__" = some (.ref bm)/\bm≠builtinsNs/\s₁.heap.get? bm=some o/\o.cls = .type "module"/\o.dict=some builtinsNs/\o.data = .plain) (E5:K.lookup T=none)
  (F:∀ base:Heap,K.In base->base.Ns Wv mg->base.BuiltinsAt mg T->iM P w K mg base de k fa fd [x] (nr [(T,tpos,tq)] 1 G)) (VR:∀ (s:W2) (u:Value),BindsTo s fd ⟨[u],[]⟩ [(x,u)])
  (hG:∃ aL,G [.pure (.lst (ns.map .int))]=some (.pure (.bl true),aL)) :
  QK (model P w) callerA (.call (.ref fa) ⟨[.ref a],[]⟩) (λr s'=>r = .ok (.ret (.bool true))/\OldK s₁.heap s'.heap/\s'.os=s₁.os/\AllBare s'.gens) s₁:=by
 have rv:=L2.By hi;have qaW:=hi.length;have VS:T≠a:=λz=>by grind
 have hka:K.lookup a=none:=by
  cases hk:K.lookup a with
  | none=>rfl
  | some o =>
   have e:=KX a o hk;rw[ha] at e
   cases e;exact(RE hL hk rfl).elim
 let H:Hp:=λb=>if b=a then some (.frz { cls:=.type "list",data:=.seq vs.toArray } (.lst (ns.map V.int))) else if b=T then some (.ctab tpos tq) else none
 have Ha:H a=some (.frz { cls:=.type "list",data:=.seq vs.toArray } (.lst (ns.map V.int))):=if_pos rfl;have HT:H T=some (.ctab tpos tq):=by show(if T=a then _ else _)=_; rw[if_neg VS,if_pos rfl]
 have Hn:∀ b,b≠a->b≠T->H b=none:=λb h1 h2=>by show(if b=a then _ else _)=_; rw[if_neg h1,if_neg h2]
 have ax:bN P w H s₁.heap:=λb u z=>by
  by_cases h1:b=a
  ·subst h1;rw[Ha] at z; cases z
   exact⟨ha,by rw[Wx]; exact hl,vs,_,rv,ha⟩
  ·by_cases h2:b=T
   ·subst h2;rw[HT] at z; cases z
    exact⟨#[],hT,trivial,λcv q=>by cases q⟩
   ·rw[Hn b h1 h2] at z; cases z
 have yt:∀ {b:Addr} {o:Obj},s₁.heap.get? b=some o->H b=none->(jI s₁.heap H).get? b=some o:=λe n=>Ll e n
 have kj:∀ {b:Addr} {o:Obj} {es:Array DictEntry} {ep:Nat},s₁.heap.get? b=some o->o.data = .dict es ep->H b=none:=λ{b o es ep} e d=>by grind
 have uJ:∀ {b:Addr} {m:Str->Option Value},s₁.heap.Ns b m->(jI s₁.heap H).Ns b m:=λ{b m} ⟨o,es,ep,e,d,r⟩=>⟨o,es,ep,yt e (kj e d),d,r⟩
 have E6:K.In (jI s₁.heap H):=λb o e=>yt (KX b o e) (Hn b (λz=>by grind) λz=>by grind)
 have hM:Mod K mg (jI s₁.heap H):=⟨E6,uJ qQ,⟨mb,uJ hb,yr⟩,let ⟨mc,h1,h2⟩:=VQ; ⟨mc,uJ h1,h2⟩⟩
 have e0:pT P w K mg (jI s₁.heap H) callerA [] s₁ H:=⟨rfl,hM,λb o e=>Lm e,Nat.le_of_eq (Lk _ _),trivial,λb hb=>absurd (show b ∈ ([]:List Addr) from hb) U',ax,.of_eq hg⟩
 have VT:TH [(T,tpos,tq)] H:=λt ht=>by
  have:t=(T,tpos,tq):=by simpa using ht
  subst this;exact HT
 have hR:Rd H a (.lst (ns.map V.int)):=.inr ⟨_,Ha⟩;have sp:nr [(T,tpos,tq)] 1 G [.ref a] H (λv H'=>v = .bl true/\H' T=some (.ctab tpos tq)) E0:=by
  obtain⟨aL,hg⟩:=hG;have rep:∀ O:Addr->Prop,¬ O a->Rep H O (.ref a) (.lst (ns.map D.int)):=λO hO=>.lst hO hR U' λi v d e1 e2=>by
   rw[Wp] at e1 e2
   cases e:ns[i]? with
   | none=>rw[e] at e1; cases e1
   | some k=>rw[e] at e1 e2; cases e1; cases e2; exact .int k
  refine⟨VT,[.pure (.lst (ns.map .int))],λ_=>False,rfl,⟨λb o e _=>e,λb z=>z.elim,λb ⟨i,z⟩=>?_,rfl,λi d e=>?_,λi d e=>?_,λi j b d d' e1 e2 e3 e4=>?_,λp z=>?_⟩,_,aL,hg,λv H' x r=>?_⟩
  ·simp[cy] at z
  ·cases i with
   | zero =>
    simp at e;subst e;refine⟨.ref a,rfl,rep _ λz=>?_⟩;rcases z with z | ⟨j,d',z1,z2⟩
    ·exact z
    ·cases j with
     | zero=>simp at z1
     | succ j=>simp at z1
   | succ i=>simp at e
  ·cases i with
   | zero=>simp at e
   | succ i=>simp at e
  ·cases i with
   | zero=>simp at e1
   | succ i=>simp at e1
  ·simp[cy] at z
  ·cases r;exact⟨rfl,x.ok.keep T _ HT λ⟨i,z⟩=>by simp[cy] at z⟩
 have VU:(jI s₁.heap H).BuiltinsAt mg T:=by
  obtain⟨bm,o,b1,b2,b3,b4,b5,b6⟩:=hB;refine⟨bm,o,b1,b2,λz=>?_,λz=>?_,yt b3 (Hn bm (λz=>?_) λz=>?_),b4,b5,b6⟩
  ·obtain⟨o2,es,ep,e,d,_⟩:=qQ;grind
  all_goals grind
 refine JJ ((F _ E6 (uJ qQ) VU).run callerA [] s₁ H ⟨[.ref a],[]⟩ [.ref a] [.ref a] _ _ hr e0 (VR s₁ (.ref a)) (.cons rfl .nil) sp) λr s' h=>?_
 cases r with
 | error e=>exact h.elim
 | ok fl =>
  cases fl with
  | next=>exact False.elim h
  | brk=>exact False.elim h
  | cont=>exact False.elim h
  | ret u =>
   obtain⟨v,H',os,bare,un,hok',r',q⟩:=h;obtain⟨q1,q2⟩:=q;subst q1;obtain rfl:u=Value.bool true:=r';have old:∀ b o,s₁.heap.get? b=some o->asItWas s₁.heap s'.heap b o/\∃ o',s'.heap.get? b=some o':=λb o e=>by
    by_cases h1:b=a
    ·subst h1;have z2:=un.jH b _ _ Ha;obtain⟨e2,_⟩:=hok' b _ z2;rw[ha] at e; cases e
     exact⟨.inl e2,_,e2⟩
    ·by_cases h2:b=T
     ·subst h2;obtain⟨ps,e2,_⟩:=hok' b _ q2;rw[hT] at e; cases e
      exact⟨.inr (.inl ⟨(hC.tab hT).isCodeTable,rfl,#[],ps,rfl,by rw[e2]; simp⟩),_,e2⟩
     ·have:=un.keep b o e (Hn b h1 h2) (by intro z; exact absurd (show b ∈ ([]:List Addr) from z) U') U';exact⟨.inl this,_,this⟩
   exact⟨rfl,⟨λb o e=>(old b o e).1,λb o e=>(old b o e).2⟩,os,bare⟩
theorem VW{l:PySem.W.OpenLaw}{q:Wk}{loose:List Str}{XP:(Str->Option Value)->Heap->Prop}{YP:Wn->Heap->Prop}{d:DefRec}{K:Params->W4}{k:Nat}{G:DF}{T:Addr}{tpos:Pos}{tq:Str}(hn:l.most=some 63)(wj:d.params.defaults=[])(hr:bY k callerA)
  (hY:∀ (w:Wn) (h:Heap),YP w h->(K w.params).In h/\h.get? T=some (PySem.W.tabObj #[])) (hL:∀ p:Params,xx (K p)=true) (E5:∀ p:Params,(K p).lookup T=none)
  (hG:∀ ns:List Int,ns.length<=63->∃ aL,G [.pure (.lst (ns.map .int))]=some (.pure (.bl true),aL))
  (F:∀ (w:Wn) (mg:Str->Option Value) (fa:Addr) (h:Heap),(K w.params).In h->h.Ns Wv mg->mg d.name=some (.ref fa) ->
   (∃ c,JN (K w.params) c T=true)/\∃ fd:Q7,(∀ (s:W2) (u:Value),BindsTo s fd ⟨[u],[]⟩ [("script",u)])/\∀ base:Heap,(K w.params).In base->base.Ns Wv mg->base.BuiltinsAt mg T->iM l.prog w (K w.params) mg base de k fa fd ["script"] (nr [(T,tpos,tq)] 1 G)) :
  PySem.W.WalkO q loose XP YP l.row.toRowW d [] (λf vs=>PySem.call f vs):=by
 refine Att.NO hn wj λw s₀ s₁ mg mb fa o pm cd doc a vs ns G' Y ho hd gy mF wm hints hlen hg=>?_
 obtain⟨KX,hT⟩:=hY w _ Y;obtain⟨⟨c,hC⟩,fd,hb,hF⟩:=F w mg fa _ KX G'.T.g mF;exact VP KX G'.T.g G'.T.b G'.T.builtins G'.T.nolimit hg wm hints (Qe hlen Z') hr (hL _) hT (PySem.W.codeHd_of_K KX hC) G'.T.bmain (E5 _) hF hb (hG ns hlen)
open PySem (sizeLine)
noncomputable def uK(fa:PySem.Addr)(F:D->Option D):DS:=aq (ak gL (ae [] 2)) (aq (ak (aa 0) (ae [] 3)) (aq (iu (aI (aE (eF true) (aa 3) (aj 2))) (aq (eO 2 (aa 3) (aR cN (aj 2))) (ak (oH fa F 1 (aa 3)) (ae [] 3))) 1000000) (bA (cj (aT (aR uG (aj 2)) (aT (ah cp 2 (aj 3)) bG))))))
noncomputable def wk(F:D->Option D):Nat->List Tx->Tx->Option (List Tx×Nat)
 | 0,_,_=>none
 | n + 1,seen,here=>if here ∈ seen then some (seen,seen.idxOf here) else match F (.str here) with
  | some (.str y)=>wk F n (seen ++ [here]) y
  | _=>none
noncomputable def qS(F:D->Option D):D->Option D
 | .str x=>(wk F 1000000 [] x).map λp=>.tup [.lst (p.1.map .str),.int (p.2:Nat)]
 | _=>none
def bS:Nat->List Tx->List (aB×D)
 | _,[]=>[]
 | n,x :: r=>(.inr x,.int (n:Int)) :: bS (n + 1) r
theorem E7:∀ (n:Nat) (a b:List Tx),bS n (a ++ b)=bS n a ++ bS (n + a.length) b
 | n,[],b=>by simp[bS]
 | n,x :: r,b=>by
  rw[JM,bS,bS,E7,JM,WA];grind
theorem yu:∀ (n:Nat) (a:List Tx),(bS n a).length=a.length
 | _,[]=>rfl
 | n,x :: r=>by rw[bS,WA,yu,WA]
theorem yv:∀ (n:Nat) (a:List Tx),(bS n a).map (λp=>nq p.1)=a.map .str
 | _,[]=>rfl
 | n,x :: r=>by rw[bS,We,yv,We]; rfl
theorem yw(x:Tx):∀ (n:Nat) (a:List Tx),a0 (bS n a) (.inr x)=if x ∈ a then some (.int ((n + a.idxOf x:Nat):Int)) else none
 | _,[]=>rfl
 | n,y :: r=>by
  unfold a0 bS;rw[WW];by_cases h:y=x
  ·subst h;simp
  ·have h':¬ x=y:=λe=>h e.symm
   have e:(decide ((Sum.inr y:aB) = .inr x))=false:=by simp[h]
   have ih:=yw x (n + 1) r;unfold a0 at ih;simp only[e];rw[ih,List.idxOf_cons];have hb:(y == x)=false:=by simp[h]
   simp only[hb,Wq,h',false_or];by_cases hm:x ∈ r
   ·simp only[hm,if_true,cond_false];congr 2
    lia
   ·simp[hm]
theorem VX(h:x ∉ a):putD (bS 0 a) (.inr x) v=bS 0 a ++ [(.inr x,v)]:=by
 have hn:((bS 0 a).any λkv=>decide (kv.1 = .inr x))=false:=by
  rw[Uz];intro kv hkv;have:nq kv.1 ∈ a.map D.str:=by rw[<- yv 0 a]; exact WK hkv
  simp only[decide_eq_true_eq];intro e;rw[e] at this;simp[nq] at this;exact h this
 unfold putD;rw[hn];simp
theorem E8(fa:PySem.Addr)(F:D->Option D)(d:D):∀ (n:Nat) (seen:List Tx) (here:Tx) (p:List Tx×Nat),seen.length + n<=1000000->wk F n seen here=some p ->
  ∃ last:Tx,last ∈ p.1/\p.1.idxOf last=p.2/\p.1.length<=1000000/\iu (aI (aE (eF true) (aa 3) (aj 2))) (aq (eO 2 (aa 3) (aR cN (aj 2))) (ak (oH fa F 1 (aa 3)) (ae [] 3))) n [some (.pure d),some (.pure (.fn fa)),some (.own (.au (bS 0 seen))),some (.pure (.str here))]
   = .ok .next [some (.pure d),some (.pure (.fn fa)),some (.own (.au (bS 0 p.1))),some (.pure (.str last))]
 | 0,_,_,_,_,h=>by simp[wk] at h
 | n + 1,seen,here,p,hl,h=>by
  unfold wk at h;have eZ:eF true (.str here) (.au (bS 0 seen))=some (.pure (.bl (!decide (here ∈ seen)))):=by
   show((bD (.str here)).map λk=>S.pure (.bl (if true then !(a0 (bS 0 seen) k).isSome else(a0 (bS 0 seen) k).isSome)))=_;simp only[bD,Wz,yw,if_true];by_cases hm:here ∈ seen <;> simp[hm]
  by_cases hm:here ∈ seen
  ·rw[if_pos hm] at h
   cases h;refine⟨here,hm,rfl,by show seen.length<=_; lia,?_⟩;simp only[hm,decide_true,Bool.not_true] at eZ;show iu _ _ (n + 1) _=_;generalize bS 0 seen=L at *;simp[iu,aI,aa,aj,eZ]
  ·rw[if_neg hm] at h
   cases hF:F (.str here) with
   | none=>rw[hF] at h; cases h
   | some y =>
    rw[hF] at h
    cases y with
    | str y =>
     simp only at h;obtain⟨last,h1,h2,h3,h4⟩:=E8 fa F d n (seen ++ [here]) y p R' h;refine⟨last,h1,h2,h3,?_⟩;rw[<- h4];simp only[hm,decide_false,Bool.not_false] at eZ;have hz:(bS 0 seen).length < Wb:=by rw[yu,dA]; lia
     have hp:putD (bS 0 seen) (.inr here) (.int ((bS 0 seen).length:Nat))=bS 0 (seen ++ [here]):=by
      rw[VX hm,E7,yu];simp[bS]
     generalize bS 0 (seen ++ [here])=L1 at *;generalize bS 0 seen=L at *;have e1:aI (aE (eF true) (aa 3) (aj 2)) [some (.pure d),some (.pure (.fn fa)),some (.own (.au L)),some (.pure (.str here))] = .ok true [some (.pure d),some (.pure (.fn fa)),some (.own (.au L)),some (.pure (.str here))]:=by
      simp[aI,aa,aj,eZ]
     have e2:eO 2 (aa 3) (aR cN (aj 2)) [some (.pure d),some (.pure (.fn fa)),some (.own (.au L)),some (.pure (.str here))] = .ok .next [some (.pure d),some (.pure (.fn fa)),some (.own (.au L1)),some (.pure (.str here))]:=by
      simp[eO,i4,aa,aj,cN,bD,hz,hp]
     have e3:ak (oH fa F 1 (aa 3)) (ae [] 3) [some (.pure d),some (.pure (.fn fa)),some (.own (.au L1)),some (.pure (.str here))] = .ok .next [some (.pure d),some (.pure (.fn fa)),some (.own (.au L1)),some (.pure (.str y))]:=by
      simp[ak,oH,aa,hF]
     simp only[iu,e1,jY,if_true];simp_all
    | _=>simp at h
theorem VY(fa:PySem.Addr)(F:D->Option D)(d r:D)(h:qS F d=some r):∃ aL,eN (uK fa F) 4 [.pure d,.pure (.fn fa)]=some (.pure r,aL):=by
 unfold qS at h;split at h
 ·rename_i x
  cases e:wk F 1000000 [] x with
  | none=>rw[e] at h; cases h
  | some p =>
   rw[e] at h;simp only[Wz,Wg] at h;subst h;obtain⟨last,h1,h2,h3,h4⟩:=E8 fa F (.str x) 1000000 [] x p U' e;have hx:cp (.au (bS 0 p.1)) (.str last)=some (.pure (.int (p.2:Nat))):=by
    show((bD (.str last)).bind λk=>(a0 (bS 0 p.1) k).map S.pure)=_;simp only[bD,WH,yw,h1,if_true,Wz,h2,Q3]
   have hk:uG (.au (bS 0 p.1))=some (.own (.lst (p.1.map .str))):=by
    show some (S.own (D.lst ((bS 0 p.1).map λp=>nq p.1)))=_;rw[yv]
   have h0:bS 0 []=[]:=rfl;rw[h0] at h4;generalize bS 0 p.1=L at *;refine⟨[.pure (.str x),.pure (.fn fa)],?_⟩;unfold eN uK;simp[bc,ak,gL,aa];rw[h4];simp[aj,hk,ah,bu,hx,bP,bJ]
 ·cases h
section
variable {P:Wk} {w:Wn} {K:W4} {mg:Str->Option Value} {base:Heap}
theorem yx{ts:kO}{x qual:Str}{st:Stmt}{f:Addr}{fd:Q7}{N ps:List Str}{k:Nat}{np:List Nat}{fb:DS}{G:DF}(F:dH K x qual st f fd)(hm:mg x=some (.ref f))(hb:Binds K fd ps [])(S:f_ N ps (bw st))
  (dJ:∀ (c:Fc) (aN:Value) (A:Wr) (outer:List Env) (s:W2) (H:Hp) (E:XK),bY k (A.deeper (JA qual (bw st) s.heap.objs.size f aN))->Np c np->FT ts c->(∃ oc od kV doc pm an ct eB,K.lookup f=some ⟨oc,od,.func (Qf x qual (gR st) (dM st) (bw st) .none kV doc pm an aN ct),eB⟩)->fT (fz de P w K mg base N qual (bw st) f aN A outer s H E).f6 c (dM st) fb)
  (hG:∀ ss y,G ss=some y->bO np 0 ss=true/\eN fb N.length ss=some y):l0 P w K mg base ts (k + 1) x ps.length G:=⟨f,fd,ps,hm,F.kp,hb,E1 F S dJ hG⟩
theorem VZ{x qual:Str}{st:Stmt}{f code:Addr}{aN:Value}(h1:∃ oc od kV doc pm an ct eB,K.lookup f=some ⟨oc,od,.func (Qf x qual (gR st) (dM st) (bw st) .none kV doc pm an aN ct),eB⟩)
  (h2:∃ oc od kV doc pm an ct eB,K.lookup f=some ⟨oc,od,.func (Qf x qual (gR st) (dM st) (bw st) .none kV doc pm an (.ref code) ct),eB⟩):aN = .ref code:=by
 obtain⟨_,_,_,_,_,_,_,_,e1⟩:=h1;obtain⟨_,_,_,_,_,_,_,_,e2⟩:=h2;rw[e1] at e2
 cases e2;rfl
end
end DV
namespace L2
open PySem PySem.Spec PyProof.Rows
section
variable {X:Cx} {pins:List (Addr×Obj)} {σ:St} {H:Hp} {s:W2} {a:Addr} {kvs:List (Key×V)} {k:Key} {u:Value} {A:Wr} {E:Value->W2->Prop}
theorem V0(I:Inv X pins σ H s)(e:H a=some (.dK kvs))(ry:RelV (kV k) u)(rv:RelV v r)(lz:kvs.length < Wb)
  (h1:∀ v' w' s',c_ kvs k=some v'->Inv X pins σ H s'->RelV v' w'->Q w' s') (h2:c_ kvs k=none->∀ s',Inv X pins σ (upd H a (.dK (putK kvs k v))) s'->Q r s') :
  W5 (model X.prog X.w) A (call (.builtin "dict.setdefault") [.ref a,u,r]) Q E s:=by
 obtain⟨z,hd,vs,rel,dd⟩:=nZ I.ax e;have rk:=rel.val k;refine call_meetsIn PySem.F.slot_dict_setdefault dd.typeIs PySem.F.entry_dict_setdefault (PySem.F.args_dict_setdefault_3 _ _ _) (kt_meets_setdefault (bX X.prog X.w) a (jf ry) hd r) ⟨vs,dd,by rw[<- rel.length]; exact z,λw' hw=>?_,λhn h' ie hs=>?_⟩
 ·cases l:c_ kvs k with
  | none =>
   rw[l] at rk;rw[dG.none_of rk] at hw
   cases hw
  | some v' =>
   rw[l] at rk;obtain⟨w2,e2,r2⟩:=dG.some_of rk;rw[hw] at e2
   cases e2;exact h1 v' w' _ l (I.tok _) r2
 ·have l:c_ kvs k=none:=by cases l:c_ kvs k<;>grind[c_,dG.some_of]
  have hl:(putK kvs k v).length<=Wb:=by have:=nY kvs k v; lia
  have he:∃ q,h'.get? a=some q:=let ⟨q,_,_,hq,_⟩:=ie; ⟨q,hq⟩
  exact h2 l _ (n4 I (by rw[e]; exact True.intro) hs he (sR hl hd (rel.put k rv) ie))
end
def V1(td ty tx:TE):TE:=λσ H Q=>td σ H λx H1=>∃ a,x = .ref a/\sT H1 a/\ty σ H1 λy H2=>tx σ H2 λz H3=>∃ kvs k,H3 a=some (.dK kvs)/\y=kV k/\kvs.length < Wb /\
 (∀ v,c_ kvs k=some v->Q v H3)/\(c_ kvs k=none->Q z (upd H3 a (.dK (putK kvs k z))))
section
variable {X:Cx} {o e f:Expr} {apos aO:Pos} {td ty tx:TE}
theorem V2 (ho:PE X o td) (he:PE X e ty) (hf:PE X f tx) (m:M2 X o "setdefault" apos e f aO):PE X (.Call (.Attribute o "setdefault" apos) [e,f] [] aO) (V1 td ty tx):=by
 intro pins s σ H Q I h;refine JB m.base m.pZ m.line JW PySem.F.slot_dict_setdefault PySem.F.type_dict_setdefault (aF (ho pins s σ H _ I h) λu s1 ⟨x,H1,I1,rx,a,ex,d,q1⟩=>?_);subst ex;obtain rfl:u=Value.ref a:=rx;obtain⟨t1,t2,_⟩:=we I1 d;refine⟨t1,t2,?_⟩;rw[m.trees];refine Calls.callWith_builtin rfl (Calls.evalArgs_plain (Calls.spliced_cons (aF (he pins s1 σ H1 _ I1 q1) λiv s2 ⟨y,H2,I2,ry,q2⟩ =>
  Calls.spliced_cons (aF (hf pins s2 σ H2 _ I2 q2) λfv s3 ⟨z,H3,I3,rz,kvs,k,ea,ey,lz,q3,q4⟩=>Calls.spliced_nil ?_))))
 subst ey;exact V0 I3 ea ry rz lz (λv' w' s' l I4 r4=>⟨v',_,I4,r4,q3 v' l⟩) λl s' I4=>⟨z,_,I4,rz,q4 l⟩
end
end L2
namespace DV
open PySem PySem.Spec PyProof.Rows L2
section
variable {X:Cx} {c:Fc} {e:Expr} {fe:DE} {pos:Pos}
def j3(i:Nat)(fk fv:DE):DS:=λδ=>if i4 δ i then(fk δ).bind λk δ1=>(fv δ1).bind λr δ2=>match δ2[i]? with
  | some (some (.own (.au ds)))=>match bD k.d with
   | some kk=>if ds.length < Wb then .ok .next (match a0 ds kk with
    | some _=>δ2
    | none=>δ2.set i (some (.own (.au (putD ds kk r.d))))) else .stuck
   | none=>.stuck
  | _=>.stuck else .stuck
theorem V3 (ho:PE X o (cM i)) (hk:SE X c ke fk) (hv:SE X c ve fv) (m:M2 X o "setdefault" apos ke ve aO)
  (mI:QZ (.Call (.Attribute o "setdefault" apos) [ke,ve] [] aO) none pos.line X.env=pure false:=by rfl):SS X c (.Expr (.Call (.Attribute o "setdefault" apos) [ke,ve] [] aO) pos) (j3 i fk fv) :=
 PS.weak (vK (V2 ho hk hv m) mI) λD σ H ⟨δ,k,q⟩=>by
  unfold j3 dR at q;split at q
  case isFalse=>exact q.elim
  rename_i iX;obtain⟨ds0,e0⟩:=DY iX;obtain⟨a,ea,oa,_⟩:=k.own i _ e0;rw[aU] at q;refine⟨.ref a,ea,a,rfl,?_,δ,k,aJ q λkx δ1 q1 u H1 a1 r1=>?_⟩
  ·obtain⟨ws,ha,_⟩:=oa;exact .inl ⟨ws,.of ha⟩
  rw[aU] at q1;refine⟨δ1,a1.ok,aJ q1 λr δ2 q2 v H2 a2 r2=>?_⟩;split at q2
  ·rename_i ds e2;split at q2
   ·rename_i kk hk;split at q2
    ·rename_i hz;obtain⟨a',bV,oa,_⟩:=a2.ok.own i _ e2;rw[ea] at bV; cases bV
     obtain⟨ws,ha,hk1,hk2⟩:=id oa;have dr:DR H2 (Av c σ δ2) ws ds:=DR.of hk1 hk2;have xO:=mZ hk r1.b;have hlen:ws.length=ds.length:=by have:=congrArg QP hk1; simpa using this
     have rv:Rep H2 (Av c σ δ2) v r.d:=r2.rep;refine⟨ws,bZ kk,ha,xO,by rw[hlen]; exact hz,λv' l=>?_,λl=>?_⟩
     ·rcases dr.val kk with ⟨n1,n2⟩ | ⟨v2,d2,m1,m2,_⟩
      ·grind
      ·rw[m1] at q2;exact q2 σ _ (a1.trans a2)
     ·rcases dr.val kk with ⟨n1,n2⟩ | ⟨v2,d2,m1,m2,_⟩
      ·rw[n1] at q2;exact q2 σ _ (a1.trans (a2.trans (Ok.DW a2.ok e2 ea (dr.put rv))))
      grind
    ·exact q2.elim
   ·exact q2.elim
  ·exact q2.elim
end
end DV
namespace L2
open PySem PySem.Spec PyProof.Rows PySem.SeqAt
mutual
def iC:NK->Nat
 | .i _=>1
 | .s _=>1
 | .t ks=>i8 ks + 1
def i8:List NK->Nat
 | []=>0
 | k :: ks=>iC k + i8 ks
end
inductive cO (h:Heap):Nat->NK->Value->Prop
 | int {n:Nat} (z:Int) (t:Tok):cO h n (.i z) (.int z t)
 | bl {n:Nat} (b:Bool):cO h n (.i (if b then 1 else 0)) (.bool b)
 | str {n:Nat} (x:Str) (t:Tok):cO h n (.s x) (.str x t)
 | tup {n:Nat} {a:Addr} {ag:Array Value} {ks:List NK}:h.IsTuple a ag->ks.length=ag.toList.length->(∀ (i:Nat) k v,ks[i]? = some k->ag.toList[i]? = some v->cO h n k v)->cO h (n + 1) (.t ks) (.ref a)
section
variable {h h':Heap} {n:Nat}
theorem V4{α β:Type}{xs ys:List α}{vs:List β}(h1:xs.length=vs.length)(h2:ys.length=vs.length)(q:∀ (i:Nat) x y v,xs[i]? = some x->ys[i]? = some y->vs[i]? = some v->x=y):xs=ys:=by
 apply Uh Y';intro i a b;exact q i _ _ vs[i] (Wc a) (Wc b) (Wc Y')
theorem cO.inj{x:NK}{v:Value}(r:cO h n x v):∀ {m:Nat} {y:NK},cO h m y v->x=y:=by
 induction r with
 | int z t=>intro m y k; cases k; rfl
 | bl b=>intro m y k; cases k; rfl
 | str x t=>intro m y k; cases k; rfl
 | @tup n a ag ks h1 h2 h3 ih =>
  intro m y k
  cases k with
  | @tup m _ its' ks' k1 k2 k3 =>
   obtain⟨o,e,c,q,d⟩:=h1;obtain⟨o',e',c',q',d'⟩:=k1;rw[e] at e'; cases e'
   rw[d] at d'; cases d'
   rw[V4 h2 k2 λi x y v e1 e2 e3=>ih i x v e1 e3 (k3 i y v e2 e3)]
theorem cO.kept(r:cO h n x v)(k:∀ b ag,h.IsTuple b ag->h'.IsTuple b ag):cO h' n x v:=by
 induction r with
 | int z t=>exact .int z t
 | bl b=>exact .bl b
 | str x t=>exact .str x t
 | tup h1 h2 h3 ih=>exact .tup (k _ _ h1) h2 ih
theorem cO.up(r:cO h n x v):∀ {m:Nat},n<=m->cO h m x v:=by
 induction r with
 | int z t=>intro m _; exact .int z t
 | bl b=>intro m _; exact .bl b
 | str x t=>intro m _; exact .str x t
 | tup h1 h2 h3 ih =>
  intro m l;obtain⟨m,rfl⟩:∃ m',m=m' + 1:=⟨m - 1,Y'⟩
  exact .tup h1 h2 λi k v e1 e2=>ih i k v e1 e2 Y'
end
section
variable {prog:Wk} {w:Wn} {E:Value->W2->Prop}
theorem V5(h:Q (hashInt (if b then 1 else 0)) { s with toks:=s.toks + 1 }):W5 (model prog w) A (PySem.pyHash (.bool b)) Q E s:=by
 have z:reduceHash (if b then 1 else 0)=hashInt (if b then 1 else 0):=by cases b <;> decide +kernel
 refine PySem.W.pyHash_slot (id:="int.__hash__") (T:="bool") (hT:=rfl) (slot:=F.slot_bool_hash) (entry:=entry_int_hash) (args:=args_int_hash _) (hid:=beq_builtin_none _) (hu:=.inl rfl) (body:=?_)
 cases b
 ·exact(show W5 _ _ (mkInt 0 >>= λv=>ret v) _ _ _ from W0 (wpAny_mkInt (W1 ⟨_,_,rfl,z ▸ h⟩)))
 ·exact(show W5 _ _ (mkInt 1 >>= λv=>ret v) _ _ _ from W0 (wpAny_mkInt (W1 ⟨_,_,rfl,z ▸ h⟩)))
theorem E9(w:Wn):∀ ks:List NK,sf w ks=ks.map (fN w)
 | []=>rfl
 | k :: ks=>by simp only[sf,We,E9 w ks]
theorem E_:∀ xs ys:List NK,i8 (xs ++ ys)=i8 xs + i8 ys
 | [],ys=>by simp[i8]
 | x :: xs,ys=>by simp only[JM,i8,E_ xs ys]; lia
theorem cO.pyHash(r:cO h n k v):∀ {A:Wr} {s:W2} {Q:Int->W2->Prop},s.heap=h->A.units + n < WZ->Q (fN w k) { s with toks:=s.toks + iC k }->W5 (model prog w) A (PySem.pyHash v) Q E s:=by
 induction r with
 | int z t=>intro A s Q _ _ q; exact wpAny_pyHash_int q
 | bl b=>intro A s Q _ _ q; exact V5 q
 | str x t=>intro A s Q _ _ q; exact wpAny_pyHash_str q
 | @tup n a ag ks h1 h2 h3 ih =>
  intro A s Q hs hu q;subst hs;obtain⟨o,ho,hc,m,hd⟩:=id h1;have hT:s.TypeIs (.ref a) "tuple":=⟨o,ho,hc⟩
  refine PySem.W.pyHash_slot (T:="tuple") hT F.slot_tuple_hash F.entry_tuple_hash (F.args_tuple_hash_1 _) (beq_builtin_none _) (.inr Y') ?_;show W5 _ _ (Jx (.ref a) >>= _) _ _ s;refine W0 (wpAny_tupleItemsOf ho hd ?_);refine W0 ?_;rw[<- Array.forIn_toList];refine wpAny_forIn_list _ (λrest (b:Array Int) s'=>∃ i,i<=ks.length/\rest=ag.toList.drop i/\b.toList=(ks.take i).map (fN w)/\s' = { s with toks:=s.toks + i8 (ks.take i) })
   _ ?_ ?_ _ _ ⟨0,Qn _,rfl,rfl,by simp[i8]⟩
  ·rintro x rest b s' ⟨i,hi,hr,hb,rfl⟩;have aP:i < ag.toList.length:=by
    rcases Nat.lt_or_ge i ag.toList.length with z | z
    ·exact z
    ·rw[List.drop_eq_nil_of_le z] at hr; cases hr
   rw[QJ aP] at hr;injection hr with hx hr
   have jm:i < ks.length:=by lia
   refine W0 (ih i ks[i] x (Wc jm) (by rw[hx]; exact Wc aP) rfl (show A.units + 1 + n < WZ by lia) ?_);have ht:ks.take (i + 1)=ks.take i ++ [ks[i]]:=by simp_all
   have fin:∃ j,j<=ks.length/\rest=ag.toList.drop j/\(b.push (fN w ks[i])).toList=(ks.take j).map (fN w)/\({ s with toks:=s.toks + i8 (ks.take i) + iC ks[i] }:W2) = { s with toks:=s.toks + i8 (ks.take j) }:=by
    refine⟨i + 1,jm,hr,by rw[ht,Q6,UB,hb]; rfl,?_⟩;rw[ht,E_];simp only[i8];rw[UL,Nat.add_assoc]
   first
    | exact W1 fin
    | exact W0 (W1 (W1 fin))
  ·rintro b s' ⟨i,hi,hr,hb,rfl⟩;have hz:i=ks.length:=by
    have:=congrArg QP hr;simp at this;simp at h2;lia
   subst hz;rw[List.take_length] at hb ⊢;show W5 _ _ (retInt (Builtin.Tuple.tupleHashOf b.toList)) _ _ _;rw[hb];refine W0 (wpAny_mkInt (W1 ⟨_,_,rfl,?_⟩));simp only[fN,iC,E9] at q;simpa[Nat.add_assoc] using q
theorem cO.quiet(r:cO s.heap n k v):∀ {A:Wr} {m:Nat} {Q:Bool->W2->Prop},n<=m->Q true s->W5 (model prog w) A (eqIsQuiet m v) Q E s:=by
 induction r with
 | int z t=>intro A m Q _ q; rw[eqIsQuiet_byValue _ rfl]; exact W1 q
 | bl b=>intro A m Q _ q; rw[eqIsQuiet_byValue _ rfl]; exact W1 q
 | str x t=>intro A m Q _ q; rw[eqIsQuiet_byValue _ rfl]; exact W1 q
 | @tup n a ag ks h1 h2 h3 ih =>
  intro A m Q hm q;obtain⟨o,ho,hc,mm,hd⟩:=id h1;have hT:s.TypeIs (.ref a) "tuple":=⟨o,ho,hc⟩
  obtain⟨m,rfl⟩:∃ m',m=m' + 1:=⟨m - 1,Y'⟩
  unfold eqIsQuiet;refine W0 (wpAny_specialOf hT F.slot_tuple_eq.lookup ?_);show W5 _ _ (isInstance (.ref a) (.type "tuple") >>= _) _ _ s;refine W0 (wpAny_isInstance hT isSubtype_tuple_tuple ?_);simp only[Bool.not_true,J4,if_false];refine W0 (Jj ho hd ?_);refine W0 ?_;show W5 _ _ (forIn ag _ _) _ _ s;rw[<- Array.forIn_toList];refine wpAny_forIn_list _ (λrest r s'=>r.1=none/\s'=s/\∃ i,rest=ag.toList.drop i) _ ?_ ?_ _ _ ⟨rfl,rfl,0,rfl⟩
  ·rintro x rest r s' ⟨hr,rfl,i,hi⟩;have aP:i < ag.toList.length:=by grind[List.drop_eq_nil_of_le]
   rw[QJ aP] at hi;injection hi with hx hi
   have jm:i < ks.length:=by lia
   refine W0 (ih i ks[i] x (Wc jm) (by rw[hx]; exact Wc aP) Y' ?_);simp only[Bool.not_true,J4,if_false];exact W1 ⟨rfl,rfl,i + 1,hi⟩
  grind[W1]
theorem l8(a b:Int):decide (NK.i a=NK.i b)=(a == b):=by grind
theorem yy(a b:Str):decide (NK.s a=NK.s b)=(a == b):=by grind
theorem yz(a b:Bool):(a == b)=(((if a then 1 else 0:Int)) == (if b then 1 else 0:Int)):=by cases a <;> cases b <;> rfl
theorem V6(he:∀ (j:Nat) x y,xs[j]? = some x->ys[j]? = some y->e j=decide (x=y)):((Wd (min xs.length ys.length)).all e && xs.length == ys.length)=decide (NK.t xs=NK.t ys):=by
 by_cases hl:xs.length=ys.length
 ·rw[<- hl,Nat.min_self];simp only[beq_self_eq_true,Bool.and_true];by_cases hx:xs=ys
  ·simp_all
  ·rw[decide_eq_false λq=>hx (NK.t.inj q)];rw[List.all_eq_false];apply Classical.byContradiction;intro hn;apply hx;apply Uh hl;intro j a b;apply Classical.byContradiction;intro cq;refine hn ⟨j,WP.mpr a,?_⟩;rw[he j _ _ (Wc a) (Wc b)];simpa using cq
 grind
theorem cO.V7(r:cO s.heap n x u):∀ {A:Wr} {m:Nat} {y:NK} {v:Value},cO s.heap m y v->A.units + n < WZ->EqAt A s u v (decide (x=y)):=by
 induction r with
 | int z t =>
  intro A m y v k hu
  cases k with
  | int z' t'=>rw[l8]; exact EqAt.int_int _ _ _ _
  | bl b=>rw[l8]; exact EqAt.int_bool _ _ _
  | str x t'=>rw[decide_eq_false (λq=>nomatch q)]; exact EqAt.int_str _ _ _ _
  | tup k1 k2 k3=>rw[decide_eq_false (λq=>nomatch q)]; exact EqAt.int_tuple _ _ k1 Y'
 | bl b =>
  intro A m y v k hu
  cases k with
  | int z' t'=>rw[l8]; exact EqAt.bool_int _ _ _
  | bl b=>rw[l8,<- yz]; exact EqAt.bool_bool _ _
  | str x t'=>rw[decide_eq_false (λq=>nomatch q)]; exact EqAt.bool_str _ _ _
  | tup k1 k2 k3=>rw[decide_eq_false (λq=>nomatch q)]; exact EqAt.bool_tuple _ k1 Y'
 | str x t =>
  intro A m y v k hu
  cases k with
  | int z' t'=>rw[decide_eq_false (λq=>nomatch q)]; exact EqAt.str_int _ _ _ _
  | bl b=>rw[decide_eq_false (λq=>nomatch q)]; exact EqAt.str_bool _ _ _
  | str x t'=>rw[yy]; exact EqAt.str_str _ _ _ _
  | tup k1 k2 k3=>rw[decide_eq_false (λq=>nomatch q)]; exact EqAt.str_tuple _ _ k1 Y'
 | @tup n a ag ks h1 h2 h3 ih =>
  intro A m y v k hu
  cases k with
  | int z' t'=>rw[decide_eq_false (λq=>nomatch q)]; exact EqAt.tuple_int _ _ h1 Y'
  | bl b=>rw[decide_eq_false (λq=>nomatch q)]; exact EqAt.tuple_bool _ h1 Y'
  | str x t'=>rw[decide_eq_false (λq=>nomatch q)]; exact EqAt.tuple_str _ _ h1 Y'
  | @tup m' b its' ks' k1 k2 k3 =>
   by_cases m7:a=b
   ·subst m7;have e:NK.t ks=NK.t ks':=cO.inj (cO.tup h1 h2 h3) (cO.tup k1 k2 k3);rw[decide_eq_true e];exact EqAt.same _
   ·refine EqAt.of_refs m7 ?_;let e:Nat->Bool:=λj=>match ks[j]?,ks'[j]? with
     | some x,some y=>decide (x=y)
     | _,_=>false
    have z1:ag.size=ks.length:=by simpa using h2.symm
    have z2:its'.size=ks'.length:=by simpa using k2.symm
    have q:=RcAt.tuples (A:=A) (s:=s) (e:=e) h1 k1 Y' λj j1 j2=>by
     have l1:j < ks.length:=by lia
     have l2:j < ks'.length:=by lia
     have ee:e j=decide (ks[j]=ks'[j]):=by simp only[e,Wc l1,Wc l2]
     rw[ee];exact ih j ks[j] ag[j] (Wc l1) (by simp[j1]) (k3 j ks'[j] its'[j] (Wc l2) (by simp[j2])) (show A.units + 1 + n < WZ by lia)
    rw[z1,z2,V6 λj x y e1 e2=>by simp only[e,e1,e2]] at q;exact q
end
theorem V8{es ep}(ho:h.get? d=some o)(hd:o.data = .dict es ep)(hs:Qk d h h'):∀ b ag,h.IsTuple b ag->h'.IsTuple b ag:=λb ag ⟨o',e,c,n,q⟩=>by
 have cq:b≠d:=by grind
 exact⟨o',(hs.2 b cq).trans e,c,n,q⟩
noncomputable def nkKind (prog:Wk) (w:Wn):HeapKind prog w NK where
 is:=λh k a=>cO h 6 k (.ref a)
 hash:=fN w
 draws:=iC
 room:=λA=>A.units + 6 < WZ
 inj:=λhx hy=>hx.inj hy
 keeps:=λx ho hd hs=>x.kept (V8 ho hd hs)
 pyHash:=λhu hk h=>hk.pyHash rfl hu h
 eqBool:=λhu hx hy h=>hx.V7 hy hu _ _ _ _ h
 quiet:=λhk h=>hk.quiet Y' h
def kN:Key->NK
 | .inl z=>.i z
 | .inr x=>.s x
theorem V9(h:kN p=kN q):p=q:=by
 cases p <;> cases q <;> first | (cases h; rfl) | cases h
def j4(h:Heap)(m:Bool)(k:NK)(u:Value):Prop:=match m with
 | true=>∃ a,u = .ref a/\cO h 6 k u
 | false=>∃ q:Key,iH q u=true/\k=kN q
theorem V_(h1:iH p u=true)(h2:iH q u=true):p=q:=by all_goals grind[jG]
def ent(w:Wn)(x:NK×Value×Value):DictEntry:=⟨fN w x.1,x.2.1,x.2.2⟩
section
variable {prog:Wk} {w:Wn} {A:Wr} {E:Value->W2->Prop} {s:W2}
theorem Fb(hu:A.units + 6 < WZ)(hk:j4 s.heap m k u)(h:Q (fN w k) { s with toks:=s.toks + iC k }):W5 (model prog w) A (PySem.pyHash u) Q E s:=by
 cases m with
 | true=>obtain⟨a,rfl,r⟩:=hk; exact r.pyHash rfl hu h
 | false =>
  obtain⟨q,h1,rfl⟩:=hk;refine(bX prog w).pyHash (k:=q) h1 ?_
  cases q <;> exact h
theorem Fd:∀ {xs:List (NK×Value×Value)},(∀ x ∈ xs,j4 h true x.1 x.2.1)->∃ ys:List (NK×Addr×Value),xs=ys.map λy=>(y.1,Value.ref y.2.1,y.2.2)
 | [],_=>⟨[],rfl⟩
 | x :: xs,q=>by
  obtain⟨ys,e⟩:=Fd (xs:=xs) λy hy=>q y (W9 _ hy)
  obtain⟨a,e1,_⟩:=q x W7;exact⟨(x.1,a,x.2.2) :: ys,by rw[We,<- e]; simp only[<- e1]⟩
theorem Fe{m:Bool}{k:NK}{u:Value}{d:Addr}{o:Obj}{es ep}{xs:List (NK×Value×Value)}{Q:Option Nat->W2->Prop}(hu:A.units + 6 < WZ)(hk:j4 s.heap m k u)
  (ho:s.heap.get? d=some o) (hd:o.data = .dict es ep) (he:es.toList=xs.map (ent w)) (hx:∀ x ∈ xs,j4 s.heap m x.1 x.2.1) (hn:(xs.map (·.1)).Nodup)
  (Ff:(∀ (j:Nat) p,xs[j]?≠some (k,p))->Q none s) (W_:∀ (j:Nat) p,xs[j]? = some (k,p)->Q (some j) s):W5 (model prog w) A (dictFind d u (fN w k)) Q E s:=by
 cases m with
 | true =>
  obtain⟨a,rfl,r⟩:=hk;obtain⟨ys,rfl⟩:=Fd hx;refine wpAny_dictFind_heap (knd:=nkKind prog w) (xs:=ys) hu r ho hd (by rw[he,Wu]; rfl) (λy hy=>?_) (by rw[Wu] at hn; exact hn) (λeC=>Ff λj p e=>?_) λj p e=>?_
  ·obtain⟨b,e1,e2⟩:=hx _ (WK hy)
   cases e1;exact e2
  ·rw[Wp] at e
   cases q:ys[j]? with
   | none=>rw[q] at e; cases e
   | some y =>
    rw[q] at e;simp only[Wz,Wg] at e;exact eC j y.2 (by rw[q,<- show y.1=k from congrArg Prod.fst e])
  ·exact W_ j (.ref p.1,p.2) (by rw[Wp,e]; rfl)
 | false =>
  obtain⟨q,h1,rfl⟩:=hk;have oC:∀ (j:Nat) e,es[j]? = some e->∃ x,xs[j]? = some x/\e=ent w x:=λj e z=>by
   rw[<- QL,he,Wp] at z
   cases y:xs[j]? with
   | none=>rw[y] at z; cases z
   | some x=>rw[y] at z; simp only[Wz,Wg] at z; exact⟨x,rfl,z.symm⟩
  have ks:KeysOf (bX prog w) es:=λe eZ=>by
   obtain⟨j,hj⟩:=List.mem_iff_getElem?.mp (Array.mem_toList_iff.mpr eZ);obtain⟨x,e1,rfl⟩:=oC j e (by rw[<- QL]; exact hj);obtain⟨q',e2,e3⟩:=hx x (Q4 e1);refine⟨q',e2,?_⟩;show fN w x.1=_;rw[e3]
   cases q' <;> rfl
  have hh:fN w (kN q)=(bX prog w).hash q:=by cases q <;> rfl
  rw[hh];refine wpAny_dictFind_of (knd:=bX prog w) (k:=q) h1 ho hd ks ?_
  cases hf:es.findIdx? λe=>(bX prog w).is q e.key with
  | none =>
   refine Ff λj p e=>?_
   have hj:j < xs.length:=(W6.mp e).1;have hz:es.size=xs.length:=by rw[<- Q2,he,Wx]
   obtain⟨x,e1,e2⟩:=oC j es[j] (by simp[hz,hj]);rw[e] at e1; cases e1
   have:=Array.findIdx?_eq_none_iff.mp hf es[j] (Array.getElem_mem _);obtain⟨q',e3,e4⟩:=hx _ (Q4 e);rw[V9 e4] at this;rw[e2] at this;have z:iH q' p.1=false:=this;grind
  | some j =>
   obtain⟨aP,hp,_⟩:=Array.findIdx?_eq_some_iff_getElem.mp hf;obtain⟨x,e1,e2⟩:=oC j es[j] (by simp[aP]);obtain⟨q',e3,e4⟩:=hx x (Q4 e1);rw[e2] at hp;have:q=q':=V_ (show iH q x.2.1=true from hp) e3;grind
noncomputable def atN (xs:List (NK×Value×Value)) (k:NK):Option (Value×Value):=(xs.find? λx=>decide (x.1=k)).map (·.2)
noncomputable def stN (xs:List (NK×Value×Value)) (k:NK) (u v:Value):List (NK×Value×Value):=if (xs.any λx=>decide (x.1=k))=true then xs.map λx=>if x.1=k then(x.1,x.2.1,v) else x else xs ++ [(k,u,v)]
theorem Fg(h:∀ (j:Nat) p,xs[j]?≠some (k,p)):atN xs k=none/\(xs.any λx=>decide (x.1=k))=false:=by
 have z:∀ x ∈ xs,decide (x.1=k)=false:=λx hx=>by grind[List.mem_iff_getElem?]
 grind[atN]
theorem yA:∀ {xs:List (NK×Value×Value)} {k:NK} {j:Nat} {p:Value×Value},(xs.map (·.1)).Nodup->xs[j]? = some (k,p)->atN xs k=some p/\(xs.any λx=>decide (x.1=k))=true
 | [],k,j,p,_,e=>by simp at e
 | x :: xs,k,j,p,hn,e=>by
  rw[We,WI] at hn
  cases j with
  | zero=>simp at e; subst e; simp[atN]
  | succ j =>
   have e':xs[j]? = some (k,p):=by simpa using e
   have cq:¬ x.1=k:=λz=>hn.1 (by rw[z]; exact WD.mpr ⟨_,Q4 e',rfl⟩)
   obtain⟨h1,h2⟩:=yA hn.2 e';grind[atN]
theorem Xa{m:Bool}{k:NK}{u:Value}{d:Addr}{o:Obj}{es ep}{xs:List (NK×Value×Value)}{Q:Option Value->W2->Prop}(hu:A.units + 6 < WZ)(hk:j4 s.heap m k u)
  (ho:s.heap.get? d=some o) (hd:o.data = .dict es ep) (he:es.toList=xs.map (ent w)) (hx:∀ x ∈ xs,j4 s.heap m x.1 x.2.1) (hn:(xs.map (·.1)).Nodup)
  (h:Q ((atN xs k).map (·.2)) { s with toks:=s.toks + iC k }):W5 (model prog w) A (dictGet d u) Q E s:=by
 unfold dictGet;try with_reducible refine WN ?_
 refine W0 (Fb hu hk (W0 (Fe (s:={ s with toks:=s.toks + iC k }) hu hk ho hd he hx hn ?_ ?_)))
 ·intro eC;rw[(Fg eC).1] at h;exact W1 h
 ·intro j p hj;rw[(yA hn hj).1] at h;refine W0 (UD (s:={ s with toks:=s.toks + iC k }) ho hd ?_);rw[<- QL,he,Wp,hj];exact W1 h
theorem Xb(hn:(xs.map (·.1)).Nodup):((stN xs k u v).map (·.1)).Nodup:=by
 unfold stN;split
 ·rw[Wu];rw[show((λx:NK×Value×Value=>x.1) ∘ λx=>if x.1=k then(x.1,x.2.1,v) else x)=(·.1) from funext λx=>by simp only[Function.comp]; split <;> rfl];exact hn
 ·rename_i hh;rw[Q6,List.nodup_append];refine⟨hn,U',λx hx y hy e=>?_⟩;simp only[We,U9,QM] at hy;subst hy e;obtain⟨z,hz,e⟩:=WD.mp hx;exact hh (List.any_eq_true.mpr ⟨z,hz,decide_eq_true e⟩)
theorem Fh:∀ {xs:List (NK×Value×Value)} {j:Nat} {p:Value×Value},(xs.map (·.1)).Nodup->xs[j]? = some (k,p) ->
  (xs.map (ent w)).modify j (λe=>{ e with val:=v })=(xs.map λx=>if x.1=k then(x.1,x.2.1,v) else x).map (ent w)
 | [],j,p,_,e=>by simp at e
 | x :: xs,j,p,hn,e=>by
  rw[We,WI] at hn
  cases j with
  | zero =>
   simp at e;subst e;have z:(xs.map λx=>if x.1=k then(x.1,x.2.1,v) else x)=xs:=by
    conv=>rhs; rw[<- List.map_id xs]
    refine WO λy hy=>?_
    rw[if_neg λq=>hn.1 (WD.mpr ⟨y,hy,q⟩)];rfl
   rw[We,We,We,z,if_pos rfl];rfl
  | succ j =>
   have e':xs[j]? = some (k,p):=by simpa using e
   have cq:¬ x.1=k:=λz=>hn.1 (by rw[z]; exact WD.mpr ⟨_,Q4 e',rfl⟩)
   rw[We,We,We,if_neg cq];show ent w x :: (xs.map (ent w)).modify j _=_;rw[Fh hn.2 e']
theorem Xd{m:Bool}{k:NK}{u v:Value}{d:Addr}{o:Obj}{es ep}{xs:List (NK×Value×Value)}{Q:Unit->W2->Prop}(hu:A.units + 6 < WZ)(hk:j4 s.heap m k u)
  (ho:s.heap.get? d=some o) (hc:o.ExactDict) (hd:o.data = .dict es ep) (he:es.toList=xs.map (ent w)) (hx:∀ x ∈ xs,j4 s.heap m x.1 x.2.1) (hn:(xs.map (·.1)).Nodup) (hz:xs.length<=Wb)
  (hQ:∀ h' o' gv gx,h'.get? d=some o'->o'.ExactDict->o'.data = .dict gv gx->gv.toList=(stN xs k u v).map (ent w)->Qk d s.heap h'->Q () { s with heap:=h',toks:=s.toks + iC k }) :
  W5 (model prog w) A (dictSet d u v) Q E s:=by
 have hsz:es.size=xs.length:=by rw[<- Q2,he,Wx]
 unfold dictSet;try with_reducible refine WN ?_
 refine W0 (Fb hu hk ?_);unfold dictSetHashed;try with_reducible refine WN ?_
 refine W0 (Fe (s:={ s with toks:=s.toks + iC k }) hu hk ho hd he hx hn ?_ ?_)
 ·intro eC;refine W0 (Jb (wpAny_updateDictKeys (hz:=by lia) (s:={ s with toks:=s.toks + iC k }) ho hd
   (hQ _ _ _ (ep + 1) (WG _ ho (Obj.isFreed_of_dict (Obj.data_mapDictKeys hd _))) (hc.mapDictKeys _) (Obj.data_mapDictKeys hd _) ?_ (Qo ..))))
  unfold stN;rw[if_neg (by rw[(Fg eC).2]; simp)];simp[he,ent]
 ·intro j p hj;refine W0 (Jb (W0 (wpAny_updateDict (s:={ s with toks:=s.toks + iC k }) ho hd
   (wpAny_point (hQ _ _ _ ep (WG _ ho (Obj.isFreed_of_dict (Obj.data_mapDict hd _))) (hc.mapDict _) (Obj.data_mapDict hd _) ?_ (Qo ..))))))
  unfold stN;rw[if_pos (yA hn hj).2,<- Fh hn hj,<- he];grind
end
inductive kP (H:Hp):Nat->NK->V->Prop
 | int {n:Nat} (z:Int):kP H n (.i z) (.int z)
 | bl {n:Nat} (b:Bool):kP H n (.i (if b then 1 else 0)) (.bl b)
 | str {n:Nat} (x:Str):kP H n (.s x) (.str x)
 | tup {n:Nat} {a:Addr} {vs:List V} {ks:List NK}:H a=some (.tup vs)->ks.length=vs.length->(∀ (i:Nat) k v,ks[i]? = some k->vs[i]? = some v->kP H n k v)->kP H (n + 1) (.t ks) (.ref a)
def kQ(H:Hp)(m:Bool)(k:NK)(v:V):Prop:=match m with
 | true=>(∃ a,v = .ref a)/\kP H 6 k v
 | false=>∃ q:Key,k=kN q/\v=kV q
theorem Vals.Xe{xs:List V}{us:List Value}(r:Vals xs us){i:Nat}{u:Value}(e:us[i]? = some u):∃ x,xs[i]? = some x/\RelV x u:=by
 have h1:=r.length;have h2:i < xs.length:=by have:=(W6.mp e).1; lia
 obtain⟨u',e',rr⟩:=r.get (Wc h2);rw[e] at e'; cases e'
 exact⟨_,Wc h2,rr⟩
theorem kP.nk{P:Wk}{w:Wn}{H:Hp}{h:Heap}{n:Nat}{k:NK}{v:V}(ok:bN P w H h)(r:kP H n k v):∀ {u:Value},RelV v u->cO h n k u:=by
 induction r with
 | int z=>intro u q; obtain⟨t,rfl⟩:=q; exact .int z t
 | bl b=>intro u q; cases q; exact .bl b
 | str x=>intro u q; obtain⟨t,rfl⟩:=q; exact .str x t
 | @tup n a vs ks h1 h2 h3 ih =>
  intro u q
  cases q;obtain⟨_,ag,r,p⟩:=(show bF P w H h a (.tup vs) from ok a _ h1)
  have ht:h.IsTuple a ag.toArray:=p.tup;refine .tup ht (by rw[h2]; simpa using r.length) λi k u e1 e2=>?_
  obtain⟨x,e3,rx⟩:=r.Xe (u:=u) (i:=i) (by simpa using e2);exact ih i k x e1 e3 rx
theorem kQ.key(ok:bN P w H h)(r:kQ H m k v)(q:RelV v u):j4 h m k u:=by
 cases m with
 | true=>obtain⟨⟨a,rfl⟩,r⟩:=r; cases q; exact⟨a,rfl,r.nk ok rfl⟩
 | false=>obtain⟨q',rfl,rfl⟩:=r; exact⟨q',by rw[<- vE P w]; exact jf q,rfl⟩
abbrev NE:=NK×V×V
def cQ:List NE->List (NK×Value×Value)->Prop:=Paired λ(p:NE) (x:NK×Value×Value)=>p.1=x.1/\RelV p.2.1 x.2.1/\RelV p.2.2 x.2.2
theorem Fi:∀ {kvs:List NE} {es:List DictEntry},Paired (λ(p:NE) (e:DictEntry)=>e.hash=fN w p.1/\RelV p.2.1 e.key/\RelV p.2.2 e.val) kvs es->∃ xs,cQ kvs xs/\es=xs.map (ent w)
 | _,_,.nil=>⟨[],.nil,rfl⟩
 | p :: _,e :: _,.cons r t=>by
  obtain⟨xs,h1,h2⟩:=Fi t;refine⟨(p.1,e.key,e.val) :: xs,.cons ⟨rfl,r.2.1,r.2.2⟩ h1,?_⟩;rw[We,<- h2];unfold ent;rw[<- r.1]
theorem Fj:∀ {kvs:List NE} {xs:List (NK×Value×Value)},cQ kvs xs->Paired (λ(p:NE) (e:DictEntry)=>e.hash=fN w p.1/\RelV p.2.1 e.key/\RelV p.2.2 e.val) kvs (xs.map (ent w))
 | _,_,.nil=>.nil
 | p :: _,x :: _,.cons r t=>.cons ⟨by show fN w x.1=_; rw[r.1],r.2.1,r.2.2⟩ (Fj t)
theorem cQ.keys:∀ {kvs:List NE} {xs:List (NK×Value×Value)},cQ kvs xs->kvs.map (·.1)=xs.map (·.1)
 | _,_,.nil=>rfl
 | p :: _,x :: _,.cons r t=>by rw[We,We,r.1,cQ.keys t]
noncomputable def valN (kvs:List NE) (k:NK):Option V:=(kvs.find? λp=>decide (p.1=k)).map (·.2.2)
noncomputable def putN (kvs:List NE) (k:NK) (y v:V):List NE:=if (kvs.any λp=>decide (p.1=k))=true then kvs.map λp=>if p.1=k then(p.1,p.2.1,v) else p else kvs ++ [(k,y,v)]
theorem cQ.val(k:NK):∀ {kvs:List NE} {xs:List (NK×Value×Value)},cQ kvs xs->dG (valN kvs k) ((atN xs k).map (·.2))/\(kvs.any λp=>decide (p.1=k))=xs.any λx=>decide (x.1=k)
 | _,_,.nil=>⟨trivial,rfl⟩
 | p :: kvs,x :: xs,.cons r t=>by
  obtain⟨i1,i2⟩:=cQ.val k t;rw[QC,QC,i2,r.1];refine⟨?_,rfl⟩;unfold valN atN at i1 ⊢;rw[WW,WW,r.1];by_cases e:x.1=k
  ·rw[decide_eq_true e]; exact r.2.2
  ·rw[decide_eq_false e]; exact i1
theorem cQ.st(rv:RelV v r):∀ {kvs:List NE} {xs:List (NK×Value×Value)},cQ kvs xs->cQ (kvs.map λp=>if p.1=k then(p.1,p.2.1,v) else p) (xs.map λx=>if x.1=k then(x.1,x.2.1,r) else x)
 | _,_,.nil=>.nil
 | p :: _,x :: _,.cons q t=>by
  rw[We,We];refine .cons ?_ (cQ.st rv t);rw[q.1];by_cases e:x.1=k
  ·rw[if_pos e,if_pos e]; exact⟨rfl,q.2.1,rv⟩
  ·rw[if_neg e,if_neg e]; exact q
theorem cQ.app(ry:RelV y u)(rv:RelV v r):∀ {kvs:List NE} {xs:List (NK×Value×Value)},cQ kvs xs->cQ (kvs ++ [(k,y,v)]) (xs ++ [(k,u,r)])
 | _,_,.nil=>.cons ⟨rfl,ry,rv⟩ .nil
 | p :: _,x :: _,.cons q t=>.cons q (cQ.app ry rv t)
theorem cQ.put(ry:RelV y u)(rv:RelV v r)(h:cQ kvs xs):cQ (putN kvs k y v) (stN xs k u r):=by
 unfold putN stN;rw[(cQ.val k h).2];split
 ·exact h.st rv
 ·exact h.app ry rv
section
variable {P:Wk} {w:Wn} {H:Hp} {h:Heap} {a:Addr} {ep:Nat} {kvs:List NE}
structure nv(w:Wn)(h:Heap)(a:Addr)(ep:Nat)(xs:List (NK×Value×Value))(o:Obj)(es:Array DictEntry):Prop where
 get:h.get? a=some o
 ex:o.ExactDict
 data:o.data = .dict es ep
 ents:es.toList=xs.map (ent w)
 uL:(xs.map (·.1)).Nodup
theorem ny(ok:bN P w H h)(e:H a=some (.dN ep kvs)):kvs.length<=Wb/\(a == Qy)=false/\∃ xs o es,cQ kvs xs/\nv w h a ep xs o es:=by
 obtain⟨z,hS,o,es,h1,h2,h3,h4,h5⟩:=(show bF P w H h a (.dN ep kvs) from ok a _ e)
 obtain⟨xs,q1,q2⟩:=Fi h4;exact⟨z,hS,xs,o,es,q1,h1,h2,h3,q2,by rw[<- q1.keys]; exact h5⟩
theorem Xf(z:kvs.length<=Wb)(hS:(a == Qy)=false)(r:cQ kvs xs)(d:nv w h a ep xs o es):bF P w H h a (.dN ep kvs) :=
 ⟨z,hS,o,es,d.get,d.ex,d.data,by rw[d.ents]; exact Fj r,by rw[r.keys]; exact d.uL⟩
theorem nv.typeIs {s:W2} {xs:List (NK×Value×Value)} {o:Obj} {es:Array DictEntry} (d:nv w s.heap a ep xs o es):s.TypeIs (.ref a) "dict":=⟨o,d.get,d.ex.1⟩
theorem nv.noDict(d:nv w h a ep xs o es):∀ b,Value.ref a = .ref b->∃ ob,h.get? b=some ob/\ob.dict=none:=λb e=>by cases e; exact⟨o,d.get,d.ex.2.1⟩
theorem Fm(ok:bN P w H h)(r:cQ kvs xs)(hk:∀ p ∈ kvs,kQ H m p.1 p.2.1):∀ x ∈ xs,j4 h m x.1 x.2.1:=by
 induction r with
 | nil=>intro x hx; simp at hx
 | cons q t ih =>
  intro x hx;rcases Wq.mp hx with rfl | hx
  ·rw[<- q.1]; exact(hk _ W7).key ok q.2.1
  ·exact ih (λp hp=>hk p (W9 _ hp)) x hx
end
def oI(H:Hp)(a:Addr)(y:V)(r:Option V):Prop:=∃ m ep kvs k,H a=some (.dN ep kvs)/\(∀ p ∈ kvs,kQ H m p.1 p.2.1)/\kQ H m k y/\r=valN kvs k
section
variable {X:Cx} {pins:List (Addr×Obj)} {σ:St} {H:Hp} {s:W2} {a:Addr} {y v:V} {u r:Value} {o:Option V} {A:Wr} {E:Value->W2->Prop}
theorem Fo(hu:A.units + 6 < WZ)(I:Inv X pins σ H s)(g:oI H a y o)(ry:RelV y u)(h:∀ w' s',Inv X pins σ H s'->dG o w'->Q w' s') :
  W5 (model X.prog X.w) A (dictGet a u) Q E s:=by
 obtain⟨m,ep,kvs,k,e,hk,ky,rfl⟩:=g;obtain⟨z,hS,xs,ob,es,rx,d⟩:=ny I.ax e;exact Xa hu (ky.key I.ax ry) d.get d.data d.ents (Fm I.ax rx hk) d.uL (h _ _ (I.tok _) (rx.val k).1)
theorem Fp (I:Inv X pins σ H s) (g:oI H a y o):s.TypeIs (.ref a) "dict"/\(∀ b,Value.ref a = .ref b->∃ ob,s.heap.get? b=some ob/\ob.dict=none)/\(a == Qy)=false:=by
 obtain⟨m,ep,kvs,k,e,hk,ky,rfl⟩:=g;obtain⟨z,hS,xs,ob,es,rx,d⟩:=ny I.ax e;exact⟨d.typeIs,d.noDict,hS⟩
theorem ziY(hu:A.units + 8 < WZ)(I:Inv X pins σ H s)(g:oI H a y (some v))(ry:RelV y u)(h:∀ w' s',Inv X pins σ H s'->RelV v w'->Q w' s') :
  W5 (model X.prog X.w) A (JZ (.ref a) u) Q E s:=by
 obtain⟨hT,_,_⟩:=Fp I g;unfold JZ;try with_reducible refine WN ?_
 refine W0 (U7 hT Z' ?_);refine W0 (WM (name:=Str.ofString "__getitem__") hT slot_dict_getitem (WJ slot_dict_getitem hT entry_dict_getitem ?_ (args_dict_getitem _ _)));show W5 _ _ (dictGet a u >>= _) _ _ s;refine W0 (Fo (show A.units + 1 + 6 < WZ by lia) I g ry λw' s' I' rr=>?_);obtain⟨w2,rfl,r2⟩:=dG.some_of rr;exact W1 ⟨w2,rfl,W1 (h w2 s' I' r2)⟩
theorem Xg(hu:A.units + 8 < WZ)(I:Inv X pins σ H s)(g:oI H a y o)(ry:RelV y u)(rd:RelV d r)(h:∀ w' s',Inv X pins σ H s'->RelV (o.getD d) w'->Q w' s') :
  W5 (model X.prog X.w) A (call (.builtin "dict.get") [.ref a,u,r]) Q E s:=by
 obtain⟨hT,_,hS⟩:=Fp I g;refine WJ Qt hT Jp ?_ (PySem.F.args_dict_get_3 _ _ _);show W5 _ _ (dictGet a u >>= _) _ _ s;refine W0 (Fo (show A.units + 1 + 6 < WZ by lia) I g ry λw' s' I' rr=>?_)
 cases o with
 | some x =>
  obtain⟨w2,rfl,r2⟩:=dG.some_of rr;exact W1 ⟨_,rfl,h w2 s' I' r2⟩
 | none =>
  obtain rfl:=dG.none_of rr;show W5 _ _ (Builtin.Dict.missed a u >>= _) _ _ _;exact W0 (wpAny_missed_other hS (W1 ⟨_,rfl,h _ s' I' rd⟩))
def uM(H:Hp)(a:Addr)(y v:V)(R:Hp->Prop):Prop:=∃ m ep kvs k,H a=some (.dN ep kvs)/\(∀ p ∈ kvs,kQ H m p.1 p.2.1)/\kQ H m k y/\kvs.length < Wb/\∀ gx,R (upd H a (.dN gx (putN kvs k y v)))
theorem Xh(kvs:List NE)(k:NK)(y v:V):(putN kvs k y v).length<=kvs.length + 1:=by
 unfold putN;split
 ·simp
 ·simp
theorem Fq(hu:A.units + 6 < WZ)(I:Inv X pins σ H s)(g:uM H a y v R)(ry:RelV y u)(rv:RelV v r)(h:∀ H' s',Inv X pins σ H' s'->R H'->Q () s') :
  W5 (model X.prog X.w) A (dictSet a u r) Q E s:=by
 obtain⟨m,ep,kvs,k,e,hk,ky,hz,hR⟩:=g;obtain⟨z,hS,xs,ob,es,rx,d⟩:=ny I.ax e;have hl:xs.length<=Wb:=by rw[<- Paired.length rx]; exact z
 refine Xd hu (ky.key I.ax ry) d.get d.ex d.data d.ents (Fm I.ax rx hk) d.uL hl λh' o' gv gx q1 q2 q3 q4 hs=>h _ _ ?_ (hR gx)
 have jK:(putN kvs k y v).length<=Wb:=by have:=Xh kvs k y v; lia
 exact n4 I (by rw[e]; exact True.intro) hs ⟨o',q1⟩ (Xf jK hS (rx.put ry rv) ⟨q1,q2,q3,q4,Xb d.uL⟩)
theorem Xi{R:Hp->Prop}{Q:Unit->W2->Prop}(hu:A.units + 8 < WZ)(I:Inv X pins σ H s)(g:uM H a y v R)(ry:RelV y u)(rv:RelV v r)(h:∀ H' s',Inv X pins σ H' s'->R H'->Q () s') :
  W5 (model X.prog X.w) A (setItem (.ref a) u r) Q E s:=by
 have hT:s.TypeIs (.ref a) "dict":=by
  obtain⟨m,ep,kvs,k,e,_⟩:=g;obtain⟨z,hS,xs,ob,es,rx,d⟩:=ny I.ax e;exact d.typeIs
 unfold setItem;try with_reducible refine WN ?_
 refine W0 (U7 hT Z' ?_);refine W0 (WM (name:=Str.ofString "__setitem__") hT slot_dict_setitem (WJ slot_dict_setitem hT entry_dict_setitem ?_ (args_dict_setitem _ _ _)));show W5 _ _ (Builtin.Dict.notOrdered "__setitem__" ⟨[.ref a,u,r],[]⟩ >>= _) _ _ s;refine W0 (wpAny_notOrdered_dict hT ?_);show W5 _ _ (dictSet a u r >>= _) _ _ s;exact W0 (Fq (show A.units + 1 + 6 < WZ by lia) I g ry rv λH' s' I' hR=>W1 ⟨.none,rfl,W1 (h H' s' I' hR)⟩)
end
end L2
namespace DV
open PySem PySem.Spec PyProof.Rows L2
theorem Xj(n:Nat)(i:Int):cg n (.int i)=some (.i i):=by cases n <;> rfl
theorem Xk(n:Nat)(b:Bool):cg n (.bl b)=some (.i (if b then 1 else 0)):=by cases n <;> rfl
theorem Xl(n:Nat)(x:Tx):cg n (.str x)=some (.s (toS x)):=by cases n <;> rfl
theorem Xm(n:Nat)(xs:List D):cg (n + 1) (.tup xs)=(ig n xs).map .t:=rfl
theorem uN(h:cg n d=some x):(∃ i,d = .int i/\x = .i i)\/(∃ b,d = .bl b/\x = .i (if b then 1 else 0))\/(∃ s,d = .str s/\x = .s (toS s))\/∃ m xs ks,n=m + 1/\d = .tup xs/\ig m xs=some ks/\x = .t ks:=by
 cases d with
 | int i=>rw[Xj] at h; exact .inl ⟨i,rfl,(WS h).symm⟩
 | bl b=>rw[Xk] at h; exact .inr (.inl ⟨b,rfl,(WS h).symm⟩)
 | str s=>rw[Xl] at h; exact .inr (.inr (.inl ⟨s,rfl,(WS h).symm⟩))
 | tup xs =>
  cases n with
  | zero=>cases h
  | succ m =>
   rw[Xm,Ww] at h;obtain⟨ks,hk,e⟩:=h;exact .inr (.inr (.inr ⟨m,xs,ks,rfl,rfl,hk,e.symm⟩))
 | _=>cases n <;> cases h
theorem Fs(ih:∀ (d e:D) (x y:NK),cg n d=some x->cg n e=some y->gf d e=decide (x=y)):∀ (xs ys:List D) (ks ls:List NK),ig n xs=some ks->ig n ys=some ls->kr xs ys=decide (ks=ls)
 | [],[],ks,ls,h1,h2=>by grind[kr]
 | [],y :: ys,ks,ls,h1,h2=>by
  simp only[ig,Wg,JY,Ww] at h1 h2;subst h1;obtain⟨k,_,l,_,rfl⟩:=h2;simp[kr]
 | x :: xs,[],ks,ls,h1,h2=>by
  simp only[ig,Wg,JY,Ww] at h1 h2;subst h2;obtain⟨k,_,l,_,rfl⟩:=h1;simp[kr]
 | x :: xs,y :: ys,ks,ls,h1,h2=>by
  simp only[ig,JY,Ww] at h1 h2;obtain⟨k,hk,k',p_,rfl⟩:=h1;obtain⟨l,hl,l',jK,rfl⟩:=h2;simp only[kr];rw[ih x y k l hk hl,Fs ih xs ys k' l' p_ jK];grind
theorem Ft:∀ (n:Nat) (d e:D) (x y:NK),cg n d=some x->cg n e=some y->gf d e=decide (x=y):=by
 intro n;induction n with
 | zero =>
  intro d e x y h1 h2;rcases uN h1 with ⟨i,rfl,rfl⟩ | ⟨b,rfl,rfl⟩ | ⟨s,rfl,rfl⟩ | ⟨m,xs,ks,e,_⟩ <;> rcases uN h2 with ⟨i,rfl,rfl⟩ | ⟨b,rfl,rfl⟩ | ⟨s,rfl,rfl⟩ | ⟨m,xs,ks,e,_⟩ <;>
   first | (cases e; done) | (simp only[gf]; first | (rw[decide_eq_false (λq=>nomatch q)]; done) | (rw[l8,<- yz]; done) | (rw[l8]; done) | (rw[yy,wH]; done))
 | succ n ih =>
  intro d e x y h1 h2;rcases uN h1 with ⟨i,rfl,rfl⟩ | ⟨b,rfl,rfl⟩ | ⟨s,rfl,rfl⟩ | ⟨m,xs,ks,e1,rfl,hk,rfl⟩ <;> rcases uN h2 with ⟨i,rfl,rfl⟩ | ⟨b,rfl,rfl⟩ | ⟨s,rfl,rfl⟩ | ⟨m,ys,ls,e2,rfl,hl,rfl⟩ <;>
   first | (simp only[gf]; first | (rw[decide_eq_false (λq=>nomatch q)]; done) | (rw[l8,<- yz]; done) | (rw[l8]; done) | (rw[yy,wH]; done)) | skip
  cases e1
  cases e2;simp only[gf];rw[Fs ih xs ys ks ls hk hl];grind
theorem Fu:∀ {xs:List D} {ks:List NK},ig n xs=some ks->ks.length=xs.length/\∀ (i:Nat) d k,xs[i]? = some d->ks[i]? = some k->cg n d=some k
 | [],ks,h=>by simp[ig] at h; subst h; exact⟨rfl,λi d k e=>by simp at e⟩
 | x :: xs,ks,h=>by
  simp only[ig,JY,Ww] at h;obtain⟨k,hk,k',p_,rfl⟩:=h;obtain⟨h1,h2⟩:=Fu p_;refine⟨by simp[h1],λi d kk e1 e2=>?_⟩
  cases i with
  | zero=>simp at e1 e2; subst e1; subst e2; exact hk
  | succ i=>exact h2 i d kk (by simpa using e1) (by simpa using e2)
theorem Xn(r:Rep H O v d):∀ {n:Nat} {k:NK},cg n d=some k->kP H n k v:=by
 induction r with
 | int i=>intro n k h; cases n <;> (simp[cg] at h; subst h; exact .int i)
 | bl b=>intro n k h; cases n <;> (simp only[cg,Wg] at h; subst h; exact .bl b)
 | str x=>intro n k h; cases n <;> (simp[cg] at h; subst h; exact .str _)
 | @tup a vs ds h1 h2 h3 h4 ih =>
  intro n k h
  cases n with
  | zero=>simp[cg] at h
  | succ n =>
   simp only[cg,Ww] at h;obtain⟨ks,hk,rfl⟩:=h;obtain⟨l,g⟩:=Fu hk;refine .tup h2 Y' λi k v e1 e2=>?_
   have hi:i < ds.length:=by have:=(W6.mp e1).1; lia
   exact ih i v ds[i] e2 (Wc hi) (g i ds[i] k (Wc hi) e1)
 | _=>intro n k h; cases n <;> simp[cg] at h
def i9(m:Bool)(d:D):Bool:=match d with
 | .tup _=>m
 | .int _=>!m
 | .str _=>!m
 | _=>false
theorem uO(hm:i9 m d=true)(hk:cg 6 d=some k)(r:Rep H O v d):kQ H m k v:=by
 cases m with
 | true =>
  have r':=Xn r hk
  cases r <;> simp[i9] at hm
  exact⟨⟨_,rfl⟩,r'⟩
 | false =>
  cases r <;> simp[i9] at hm
  ·simp[cg] at hk; subst hk; exact⟨.inl _,rfl,rfl⟩
  ·simp[cg] at hk; subst hk; exact⟨.inr _,rfl,rfl⟩
def j5(m:Bool)(ds:List (D×D))(k:D):Bool:=i9 m k && (cg 6 k).isSome && ds.all λq=>i9 m q.1
def kR(k:D):Bool:=i9 true k
def jt(ds:List (D×D))(k:D):Option D:=(ds.find? λq=>gf q.1 k).map (·.2)
def qT(ds:List (D×D))(k d:D):List (D×D):=if (ds.any λq=>gf q.1 k)=true then ds.map λq=>if gf q.1 k=true then(q.1,d) else q else ds ++ [(k,d)]
section
variable {H H':Hp} {O:Addr->Prop} {ws:List NE} {ds:List (D×D)} {p:NE} {q:D×D}
theorem DN.nil:DN H O [] []:=⟨rfl,λi p q e=>by simp at e,λi p q e=>by simp at e,λi p q e=>by simp at e⟩
theorem DN.cons(h1:Rep H O p.2.1 q.1)(h2:Rep H O p.2.2 q.2)(h3:cg 6 q.1=some p.1)(r:DN H O ws ds):DN H O (p :: ws) (q :: ds):=by
 refine⟨by simp[r.len],λi a b e1 e2=>?_,λi a b e1 e2=>?_,λi a b e1 e2=>?_⟩ <;> cases i <;> simp at e1 e2
 ·subst e1; subst e2; exact h1
 ·exact r.key _ a b e1 e2
 ·subst e1; subst e2; exact h2
 ·exact r.val _ a b e1 e2
 ·subst e1; subst e2; exact h3
 ·exact r.mJ _ a b e1 e2
theorem DN.un(r:DN H O (p :: ws) (q :: ds)):Rep H O p.2.1 q.1/\Rep H O p.2.2 q.2/\cg 6 q.1=some p.1/\DN H O ws ds :=
 ⟨r.key 0 p q rfl rfl,r.val 0 p q rfl rfl,r.mJ 0 p q rfl rfl,by simpa using r.len,λi a b e1 e2=>r.key (i + 1) a b (by simpa using e1) (by simpa using e2),λi a b e1 e2=>r.val (i + 1) a b (by simpa using e1) (by simpa using e2),λi a b e1 e2=>r.mJ (i + 1) a b (by simpa using e1) (by simpa using e2)⟩
theorem DN.get(hk:cg 6 k=some kk):∀ {ws:List NE} {ds:List (D×D)},DN H O ws ds->((jt ds k=none/\valN ws kk=none)\/∃ v d,jt ds k=some d/\valN ws kk=some v/\Rep H O v d)/\(ds.any λq=>gf q.1 k)=ws.any λp=>decide (p.1=kk)
 | [],[],_=>⟨.inl ⟨rfl,rfl⟩,rfl⟩
 | [],_ :: _,r=>by have:=r.len; simp at this
 | _ :: _,[],r=>by have:=r.len; simp at this
 | p :: ws,q :: ds,r=>by
  obtain⟨r1,r2,r3,r4⟩:=r.un;obtain⟨i1,i2⟩:=DN.get hk r4;have e:=Ft 6 q.1 k p.1 kk r3 hk;refine⟨?_,by rw[QC,QC,i2,e]⟩;unfold jt valN at i1 ⊢;rw[WW,WW,e];by_cases z:p.1=kk
  ·rw[decide_eq_true z]; exact .inr ⟨_,_,rfl,rfl,r2⟩
  ·rw[decide_eq_false z]; exact i1
theorem DN.app(hk:cg 6 k=some kk)(ry:Rep H O y k)(rv:Rep H O v d):∀ {ws:List NE} {ds:List (D×D)},DN H O ws ds->DN H O (ws ++ [(kk,y,v)]) (ds ++ [(k,d)])
 | [],[],_=>.cons ry rv hk .nil
 | [],_ :: _,r=>by have:=r.len; simp at this
 | _ :: _,[],r=>by have:=r.len; simp at this
 | p :: ws,q :: ds,r=>by
  obtain⟨r1,r2,r3,r4⟩:=r.un;exact .cons r1 r2 r3 (DN.app hk ry rv r4)
theorem DN.st(hk:cg 6 k=some kk)(rv:Rep H O v d):∀ {ws:List NE} {ds:List (D×D)},DN H O ws ds->DN H O (ws.map λp=>if p.1=kk then(p.1,p.2.1,v) else p) (ds.map λq=>if gf q.1 k=true then(q.1,d) else q)
 | [],[],_=>.nil
 | [],_ :: _,r=>by have:=r.len; simp at this
 | _ :: _,[],r=>by have:=r.len; simp at this
 | p :: ws,q :: ds,r=>by
  obtain⟨r1,r2,r3,r4⟩:=r.un;have e:=Ft 6 q.1 k p.1 kk r3 hk;rw[We,We,e];by_cases z:p.1=kk
  ·rw[decide_eq_true z,if_pos z,if_pos rfl]; exact .cons r1 rv r3 (DN.st hk rv r4)
  ·rw[decide_eq_false z,if_neg z,if_neg U']; exact .cons r1 r2 r3 (DN.st hk rv r4)
theorem DN.put(hk:cg 6 k=some kk)(ry:Rep H O y k)(rv:Rep H O v d)(r:DN H O ws ds):DN H O (putN ws kk y v) (qT ds k d):=by
 unfold putN qT;rw[(DN.get hk r).2];split
 ·exact r.st hk rv
 ·exact r.app hk ry rv
theorem DN.Fv(hm:(ds.all λq=>i9 m q.1)=true)(r:DN H O ws ds):∀ p ∈ ws,kQ H m p.1 p.2.1:=λp hp=>by
 obtain⟨i,e⟩:=List.mem_iff_getElem?.mp hp;have hi:i < ds.length:=by have:=(W6.mp e).1; have:=r.len; lia
 exact uO (JK.mp hm ds[i] (QY hi)) (r.mJ i p ds[i] e (Wc hi)) (r.key i p ds[i] e (Wc hi))
end
theorem Fw(r:bU c σ δ H v (.dic ds)):∃ a ep ws,v = .ref a/\H a=some (.dN ep ws)/\DN H (Av c σ δ) ws ds:=by
 rcases r with r | ⟨a,rfl,ep,ws,h1,h2⟩
 ·cases r with
  | dic h1 h2 h3 h4 h5 h6=>exact⟨_,_,_,rfl,h2,h3,h4,h5,h6⟩
 ·exact⟨a,ep,ws,rfl,h1,h2⟩
theorem Xo(h:i9 m d=true)(r:bU c σ δ H v d):Rep H (Av c σ δ) v d:=by
 rcases r with r | ⟨a,rfl,r⟩
 ·exact r
 ·cases d <;> first | exact r.elim | simp[i9] at h
theorem yB(h:j5 m ds k=true):i9 m k=true/\(∃ kk,cg 6 k=some kk)/\(ds.all λq=>i9 m q.1)=true:=by
 unfold j5 at h;simp only[Wy] at h;exact⟨h.1.1,Option.isSome_iff_exists.mp h.1.2,h.2⟩
theorem Xp(rx:bU c σ δ H x (.dic ds))(ry:bU c σ δ H y k)(h:j5 m ds k=true) :
  ∃ a o,x = .ref a/\oI H a y o/\((jt ds k=none/\o=none)\/∃ v d,jt ds k=some d/\o=some v/\Rep H (Av c σ δ) v d):=by
 obtain⟨a,ep,ws,e,ha,dn⟩:=Fw rx;obtain⟨h1,⟨kk,hk⟩,h2⟩:=yB h;exact⟨a,valN ws kk,e,⟨m,ep,ws,kk,ha,dn.Fv h2,uO h1 hk (Xo h1 ry),rfl⟩,(dn.get hk).1⟩
noncomputable def qaX(neg:Bool)(x y:D):Option S:=match y with
 | .dic ds=>if j5 (kR x) ds x then some (.pure (.bl (if neg then !(jt ds x).isSome else(jt ds x).isSome))) else none
 | _=>none
section
variable {X:Cx} {c:Fc} {e:Expr} {fe:DE} {pos:Pos}
theorem Ok.Xq(k:Ok c σ δ H)(e:δ[i]? = some (some (.own d0)))(ea:σ[i]? = some (some (.ref a)))(r:fS (upd H a o) (Av c σ δ) a d') :
  aM c σ δ H σ (δ.set i (some (.own d'))) (upd H a o):=by
 have hi:i < δ.length:=(W6.mp e).1;obtain⟨a',bV,oa,ia,nb⟩:=k.own i _ e;rw[ea] at bV; cases bV
 have qv:Own σ δ a:=⟨i,_,e,ea⟩
 have qw:Av c σ δ a:=.inr qv;have lK:∀ b,Own σ (δ.set i (some (.own d'))) b ↔ Own σ δ b:=λb=>by
  constructor
  ·rintro ⟨j,d,e1,e2⟩;by_cases hj:i=j
   ·subst hj;exact⟨i,_,e,e2⟩
   ·rw[W8 hj] at e1;exact⟨j,d,e1,e2⟩
  ·rintro ⟨j,d,e1,e2⟩;by_cases hj:i=j
   ·subst hj;exact⟨i,_,by rw[Wl hi],e2⟩
   ·exact⟨j,d,by rw[W8 hj]; exact e1,e2⟩
 have jj:∀ b,Av c σ (δ.set i (some (.own d'))) b->Av c σ δ b:=λb z=>z.elim .inl λz=>.inr ((lK b).mp z)
 have kp:∀ b w,H b=some w->¬ Av c σ δ b->upd H a o b=some w:=λb w h n=>by rw[aH λz=>n (by rw[z]; exact qw)]; exact h
 have fU:∀ b w,H b=some w->∃ o',upd H a o b=some o':=λb w h=>by
  by_cases hb:b=a
  ·exact⟨_,by rw[hb]; exact cf⟩
  ·exact⟨w,by rw[aH hb]; exact h⟩
 refine⟨⟨λb w h n=>?_,λb z=>?_,λb z=>?_,by rw[Qc]; exact k.len,λj d h=>?_,λj d h=>?_,λj l b d d2 h1 h2 h3 h4=>?_,k.pinned⟩,λb w h n=>?_,λb z=>.inl ((lK b).mp z),fU⟩
 ·have hb:b≠a:=λz=>by grind
  rw[aH hb];exact k.keep b w h n
 ·obtain⟨w,h⟩:=k.bd b z;exact fU b w h
 ·obtain⟨w,h⟩:=k.dO b z;exact fU b w h
 ·have hj:i≠j:=λz=>by subst z; rw[Wl hi] at h; cases h
  rw[W8 hj] at h;obtain⟨v,h1,h2⟩:=k.slot j d h;exact⟨v,h1,(h2.keep kp).aK λb z=>.inl (jj b z)⟩
 ·by_cases hj:i=j
  ·subst hj;rw[Wl hi] at h
   cases h;exact⟨a,ea,r.aK λb z=>.inl (jj b z),ia,nb⟩
  ·rw[W8 hj] at h;obtain⟨b,h1,h2,h3,h4⟩:=k.own j d h;have hb:b≠a:=λz=>by subst z; exact hj (k.inj i j b _ d e h ea h1)
   exact⟨b,h1,(h2.keep kp λw q=>by rw[aH hb]; exact q).aK λb z=>.inl (jj b z),h3,h4⟩
 ·have f1:∃ d,δ[j]? = some (some (.own d)):=by grind
  have f2:∃ d,δ[l]? = some (some (.own d)):=by grind
  obtain⟨_,f1⟩:=f1;obtain⟨_,f2⟩:=f2;exact k.inj j l b _ _ f1 f2 h3 h4
 grind[aH]
theorem Ok.Xr(k:Ok c σ δ H)(e:δ[i]? = some (some (.own (.dic ds))))(ea:σ[i]? = some (some (.ref a)))(r:DN H (Av c σ δ) ws b8) :
  aM c σ δ H σ (δ.set i (some (.own (.dic b8)))) (upd H a (.dN ep ws)) :=
 Ok.Xq k e ea ⟨ep,ws,cf,r.keep λb w h n=>by rw[aH λz=>n (by rw[z]; exact .inr ⟨i,_,e,ea⟩)]; exact h⟩
def uP(δ:Dl)(i:Nat):Bool:=match δ[i]? with
 | some (some (.own (.dic _)))=>true
 | _=>false
theorem Xs(h:uP δ i=true):∃ ds,δ[i]? = some (some (.own (.dic ds))):=by
 unfold uP at h;split at h
 ·rename_i ds e; exact⟨ds,e⟩
 ·cases h
def oJ(i:Nat)(fi fe:DE):DS:=λδ=>(fe δ).bind λr δ1=>if uP δ1 i then(fi δ1).bind λk δ2=>match δ2[i]? with
  | some (some (.own (.dic ds)))=>if j5 (kR k.d) ds k.d && decide (ds.length < Wb) then .ok .next (δ2.set i (some (.own (.dic (qT ds k.d r.d))))) else .stuck
  | _=>.stuck else .stuck
end
end DV
namespace L2
open PySem PySem.Spec PyProof.Rows
def Xt(td ty tv:TE):TS:=λD σ H=>tv σ H λv H1=>td σ H1 λx H2=>ty σ H2 λy H3=>∃ a,x = .ref a/\uM H3 a y v λH4=>D.nx σ H4
theorem Xu(hu:X.A.units + 8 < WZ)(ho:PE X o td)(hi:PE X i ty)(hv:PE X value tv)(hs:QZ value (some (.Subscript o i pos')) pos.line X.env=pure false) :
  PS X (.Assign [.Subscript o i pos'] value pos) (Xt td ty tv):=by
 intro pins s σ H D I h;refine wpAny_Assign_Subscript (aF (hv pins s σ H _ I h) λr s1 ⟨v,H1,I1,rv,q1⟩=>aF (ho pins s1 σ H1 _ I1 q1) λu s2 ⟨x,H2,I2,rx,q2⟩=>aF (hi pins s2 σ H2 _ I2 q2) λiv s3 ⟨y,H3,I3,ry,a,ex,g⟩=>?_) hs;subst ex;obtain rfl:u=Value.ref a:=rx;exact Xi hu I3 g ry rv λH4 s4 I4 q4=>⟨σ,H4,I4,q4⟩
end L2
namespace DV
open PySem PySem.Spec PyProof.Rows L2
section
variable {X:Cx} {c:Fc} {e:Expr} {fe:DE} {pos:Pos}
theorem Xv(hu:X.A.units + 64 < WZ)(ho:PE X o (cM i))(hi:SE X c ix fi)(he:SE X c e fe)
  (hs:QZ e (some (.Subscript o ix sp)) pos.line X.env=pure false:=by rfl):SS X c (.Assign [.Subscript o ix sp] e pos) (oJ i fi fe) :=
 PS.weak (Xu Y' ho hi he hs) λD σ H ⟨δ,k,q⟩=>by
  unfold oJ dR at q;rw[aU] at q;refine⟨δ,k,aJ q λr δ1 q1 v H1 a1 r1=>?_⟩;split at q1
  case isFalse=>exact q1.elim
  rename_i hown1;obtain⟨ds1,e1⟩:=Xs hown1;obtain⟨a,ea,_,_⟩:=a1.ok.own i _ e1;refine⟨.ref a,ea,δ1,a1.ok,?_⟩;rw[aU] at q1;refine aJ q1 λkx δ2 q2 u H2 a2 r2=>?_
  split at q2
  ·rename_i ds e2;split at q2
   ·rename_i hz;simp only[Wy,decide_eq_true_eq] at hz;obtain⟨hg,hz⟩:=hz;obtain⟨a',bV,oa,_⟩:=a2.ok.own i _ e2;rw[ea] at bV; cases bV
    obtain⟨ep,ws,ha,dn⟩:=id oa;obtain⟨h1,⟨kk,hk⟩,h2⟩:=yB hg;have ry:Rep H2 (Av c σ δ2) u kx.d:=r2.rep;have rv:Rep H2 (Av c σ δ2) v r.d:=Rep.dq r1.rep a2;refine⟨a,rfl,kR kx.d,ep,ws,kk,ha,dn.Fv h2,uO h1 hk ry,by rw[dn.len]; exact hz,λgx=>?_⟩;exact q2 σ _ (a1.trans (a2.trans (Ok.Xr a2.ok e2 ea (dn.put hk ry rv))))
   ·exact q2.elim
  ·exact q2.elim
end
end DV
namespace L2
open PySem PySem.Spec PyProof.Rows
section
variable {prog:Wk} {w:Wn} {A:Wr} {E:Value->W2->Prop} {s:W2}
theorem Xw (hd:(d == Qy)=false) (hT:s.TypeIs (.ref d) "dict")
  (h:Q (.ref s.heap.objs.size) { s with heap:=s.heap.push { cls:=.type "dict_items",data:=.fields #[.ref d] } }):W5 (model prog w) A (call (.builtin "dict.items") [.ref d]) Q E s:=by
 refine WJ UC hT F.entry_dict_items ?_ (F.args_dict_items_1 _);unfold Builtin.«dict.items» Builtin.Dict.noArgs;refine W0 (W0 (wpAny_notOrdered_dict hT (show W5 _ _ (pure d) _ _ s from W1 ?_)));show W5 _ _ (Builtin.Dict.showsAll d >>= _) _ _ s;unfold Builtin.Dict.showsAll;rw[if_neg (by rw[hd]; exact Q0)];exact W0 (W1 (W0 (WC (W1 ⟨_,rfl,h⟩))))
theorem Xx(hv:s.heap.IsItemsView v d)(ho:s.heap.get? d=some o)(lP:o.data = .dict es ep)
  (hQ:Q (.ref s.heap.objs.size) { s with heap:=s.heap.push { cls:=.type "dict_itemiterator",data:=.fields #[.none,.bool false,.ref d,.int 0 0,.int es.size 0,.int ep 0,.none,.none] } }):W5 (model prog w) A (pyIter (.ref v)) Q E s:=by
 obtain⟨ov,hov,hcv,hdv⟩:=id hv;refine wpAny_pyIter_slot hv.typeIs F.slot_dict_items_iter (WJ F.slot_dict_items_iter hv.typeIs F.entry_dict_items_iter ?_ (F.args_dict_items_iter_1 _));unfold Builtin.«dict_items.__iter__»;refine W0 (W1 (W0 ?_));unfold Builtin.Dict_items.dictOf;refine W0 (QD hov hdv (x:=.ref d) rfl (W1 (W0 ?_)));unfold Builtin.Dict_items.newIterator;refine W0 (UD ho lP (W0 (wpAny_dictEpoch ho lP ?_)));have iX:Builtin.Dict_items.ownsTuple "dict_itemiterator" = true:=by decide
 simp only[iX,if_true];refine WC (W1 ⟨_,rfl,"dict_itemiterator",_,⟨_,Wi _ rfl,rfl⟩,F.slot_dict_itemiterator_next.lookup,?_⟩)
  (by simp only[sizeOk,Builtin.Dict_items.ownedTupleFields,Ws,WT,WA,U1,Jn]; lia)
 simpa[QQ,Builtin.Dict_items.ownedTupleFields] using hQ
theorem Xy(hit:IsItemIter s.heap it d i es.size ep ok ov)
  (qU:s.heap.get? d=some od) (gi:od.data = .dict es ep) (hx:es[i]? = some e)
  (hQ:∀ h',IsItemIterOut h' it d (i + 1) es.size ep e.key e.val s.heap.objs.size->h'.get? s.heap.objs.size=some { cls:=.type "tuple",data:=.seq #[e.key,e.val] }->h'.objs.size=s.heap.objs.size + 1 ->
   (∀ b o,b≠it->s.heap.get? b=some o->h'.get? b=some o)->Q (some (.ref s.heap.objs.size)) { s with heap:=h' }):W5 (model prog w) A (Ql (.ref it)) Q E s:=by
 obtain⟨hp,g,dr,tk,os⟩:=s;have hT:Shared.TypeIs ⟨hp,g,dr,tk,os⟩ (.ref it) "dict_itemiterator":=⟨_,hit,rfl⟩
 have qaY:i < es.size:=by grind
 unfold Ql;refine W0 (Ul (WM (name:=Str.ofString "__next__") hT Jh (WJ Jh hT F.entry_dict_itemiterator_next ?_ (F.args_dict_itemiterator_next_1 _))));refine W0 (W1 (W0 (W0 ?_)));first | refine W0 (Je hT (W1 ?_)) | refine W0 (JH hT (W1 ?_))
 refine W0 (Uc hit rfl ?_);have iX:Builtin.Dict_items.ownsTuple "dict_itemiterator" = true:=by decide
 simp only[iX,if_true];show W5 _ _ (if (Value.ref d == Value.none)=true then _ else _) _ _ _;rw[if_neg (show ¬ ((Value.ref d == Value.none)=true) from Q0)];refine W0 (W1 (W0 (UD qU gi ?_)));rw[if_neg U'];refine W0 (W1 (W0 (wpAny_dictEpoch qU gi ?_)));rw[if_neg U'];refine W1 ?_;simp only[show ¬ ((i:Int) < 0) from Y',if_false,Qq,hx];refine W0 ?_;first | refine W0 (Je hT (W1 ?_)) | refine W0 (JH hT (W1 ?_))
 refine W0 (wpAny_isOneOf_itemiter hT ?_);show W5 _ _ (setField (.ref it) 3 (QQ ((i:Int) + 1)) >>= _) _ _ ⟨hp,g,dr,tk,os⟩;refine W0 (U3 hit U' λh1 e1 s1=>?_);replace s1:Qk it hp h1:=s1;replace e1:IsItemIter h1 it d (i + 1) es.size ep ok ov:=by
  have z:((i + 1:Nat):Int)=(i:Int) + 1:=by lia
  unfold IsItemIter; rw[z]; simpa[QQ] using e1
 have yC:Shared.TypeIs ⟨h1,g,dr,tk,os⟩ (.ref it) "dict_itemiterator":=⟨_,e1,rfl⟩
 refine W0 (WN (W0 (wpAny_isOneOf_itemiter yC (W0 (wpAny_isOneOf_itemiter yC ?_)))));show W5 _ _ (Builtin.Dict_items.pairFromOwner (.ref it) 6 e.key e.val) _ _ ⟨h1,g,dr,tk,os⟩;unfold Builtin.Dict_items.pairFromOwner;refine W0 (wpAny_newTuple ?_);have e2:IsItemIter (h1.push { cls:=.type "tuple",data:=.seq #[e.key,e.val] }) it d (i + 1) es.size ep ok ov:=W3 _ e1;generalize hh2:h1.push { cls:=.type "tuple",data:=.seq #[e.key,e.val] } = h2 at e2;have z1:h1.objs.size=hp.objs.size:=s1.1;have jk:it < hp.objs.size:=Wj hit;have t2:h2.get? hp.objs.size=some { cls:=.type "tuple",data:=.seq #[e.key,e.val] }:=by rw[<- hh2,<- z1]; exact Wi _ rfl
 have z2:h2.objs.size=hp.objs.size + 1:=by rw[<- hh2,QE,z1]
 have k2:∀ b o,b≠it->hp.get? b=some o->h2.get? b=some o:=λb o hb q=>by rw[<- hh2]; exact W3 _ (s1.extBut b o hb q)
 show W5 _ _ (Builtin.Dict_items.ownedTupleIsFree (.ref it) >>= _) _ _ ⟨h2,g,dr,tk,os⟩;rw[z1];clear hh2 e1 s1 yC z1 h1;refine W0 ?_;unfold Builtin.Dict_items.ownedTupleIsFree;refine W0 (QD e2 rfl (x:=.none) rfl (W1 ?_));simp only[if_true];refine W0 (QD e2 rfl (x:=ok) rfl (W0 (QD e2 rfl (x:=ov) rfl ?_)));refine W0 (U3 e2 U' λh3 e3 s3=>?_);replace s3:Qk it h2 h3:=s3;replace e3:IsItemIter h3 it d (i + 1) es.size ep e.key ov:=e3;refine W0 (U3 e3 U' λh4 e4 s4=>?_);replace s4:Qk it h3 h4:=s4;replace e4:IsItemIter h4 it d (i + 1) es.size ep e.key e.val:=e4;refine W0 (U3 e4 U' λh5 e5 s5=>?_);replace s5:Qk it h4 h5:=s5;replace e5:IsItemIterOut h5 it d (i + 1) es.size ep e.key e.val hp.objs.size:=e5;refine W0 (U3 e5 U' λh6 e6 s6=>?_);replace s6:Qk it h5 h6:=s6;replace e6:IsItemIterOut h6 it d (i + 1) es.size ep e.key e.val hp.objs.size:=e6;have up:∀ b o,b≠it->h2.get? b=some o->h6.get? b=some o:=λb o hb q=>s6.extBut b o hb (s5.extBut b o hb (s4.extBut b o hb (s3.extBut b o hb q)))
 refine W0 (wpAny_letGo (W1 (W1 ⟨_,rfl,W1 (hQ h6 e6 (up _ _ (QB jk) t2) ?_ λb o hb q=>up b o hb (k2 b o hb q))⟩)));show h6.objs.size=hp.objs.size + 1;rw[s6.1,s5.1,s4.1,s3.1,z2]
theorem Xz(hh:A.handled=none)(hit:IsItemIter s.heap it d i es.size ep ok ov)
  (qU:s.heap.get? d=some od) (gi:od.data = .dict es ep) (hx:es.size<=i) (hQ:∀ h',Heap.ExtBut it s.heap h'->Q none { s with heap:=h' }):W5 (model prog w) A (Ql (.ref it)) Q E s:=by
 have hT:s.TypeIs (.ref it) "dict_itemiterator":=⟨_,hit,rfl⟩
 unfold Ql;refine W0 (Ul (WM (name:=Str.ofString "__next__") hT Jh (WJ Jh hT F.entry_dict_itemiterator_next ?_ (F.args_dict_itemiterator_next_1 _))));refine W0 (W1 (W0 (W0 ?_)));first | refine W0 (Je hT (W1 ?_)) | refine W0 (JH hT (W1 ?_))
 refine W0 (Uc hit rfl ?_);have iX:Builtin.Dict_items.ownsTuple "dict_itemiterator" = true:=by decide
 simp only[iX,if_true];show W5 _ _ (if (Value.ref d == Value.none)=true then _ else _) _ _ s;rw[if_neg (show ¬ ((Value.ref d == Value.none)=true) from Q0)];refine W0 (W1 (W0 (UD qU gi ?_)));rw[if_neg U'];refine W0 (W1 (W0 (wpAny_dictEpoch qU gi ?_)));rw[if_neg U'];refine W1 ?_;simp only[show ¬ ((i:Int) < 0) from Y',if_false,Qq,Array.getElem?_eq_none hx];refine W0 ?_;first | refine W0 (Je hT (W1 ?_)) | refine W0 (JH hT (W1 ?_))
 show W5 _ _ (setField (.ref it) 2 .none >>= _) _ _ s;refine W0 (Jk hit rfl U' ?_);show W5 _ _ (newExc (.type "StopIteration") [] >>= _) _ _ _;refine W0 ?_;simp only[newExc,newTuple];refine W0 (WC ?_ (by size_fits));refine W0 (m:=Ub _ _) (wpAny_of_eq (a:=Value.none) (by first | rfl | (simp only[Ub]; rfl)) ?_);refine WC ?_ (by size_fits);simp only[raiseNew];refine W0 (wpAny_handled ?_);rw[show A.in1.handled=none from hh];refine W0 (W1 (wpAny_throw ?_));refine W0 (wpAny_isInstance (T:="StopIteration") (b:=true) ⟨_,Wi _ rfl,rfl⟩ isSubtype_stop ?_);exact W1 (hQ _ (((Qo ..).extBut.push _).push _))
end
def yD(a:Addr)(ep:Nat)(kvs:List NE):It :=
 ⟨λi H=>H a=some (.dN ep kvs)/\i < kvs.length,
  λi H v H'=>∃ p k y x,H p=none/\kvs[i]? = some (k,y,x)/\H'=upd H p (.tup [y,x])/\v = .ref p,
  λi H=>H a=some (.dN ep kvs)/\i=kvs.length⟩
theorem cQ.get(r:cQ kvs xs):∀ {i:Nat} {p:NE},kvs[i]? = some p->∃ x,xs[i]? = some x/\RelV p.2.1 x.2.1/\RelV p.2.2 x.2.2:=by
 unfold cQ at r;induction r with
 | nil=>intro i p e; simp at e
 | cons h t ih =>
  intro i p e
  cases i with
  | zero=>simp at e; subst e; exact⟨_,rfl,h.2⟩
  | succ i=>obtain⟨x,e1,e2⟩:=ih (i:=i) (by simpa using e); exact⟨x,by simpa using e1,e2⟩
theorem XA{P:Wk}{w:Wn}{K:W4}{elts:List Expr}{ctx}{pos:Pos}(a it:Addr)(kvs:List NE)(ep:Nat) :
  Turn P w K (.Tuple elts ctx pos) (yD a ep kvs) [it] it (λi h=>∃ ok ov,IsItemIter h it a i kvs.length ep ok ov):=by
 have at_:∀ {X:Cx} {pins s σ H},X.prog=P->X.w=w->Inv X pins σ H s->H a=some (.dN ep kvs)->∃ xs o es,cQ kvs xs/\nv w s.heap a ep xs o es/\es.size=kvs.length:=by
  intro X pins s σ H hP hw I e;subst hP hw;obtain⟨_,_,xs,o,es,r,d⟩:=ny I.ax e;exact⟨xs,o,es,r,d,by rw[<- Q2,d.ents,Wx]; exact(Paired.length r).symm⟩
 refine⟨U',?_,?_,?_,?_,?_⟩
 ·grind
 ·rintro i h h' ⟨ok,ov,q⟩ k;exact⟨ok,ov,k it U' _ q⟩
 ·intro X hP hw hK hc i pins s σ H E I hf ⟨ok,ov,st⟩ ⟨hg,hi⟩;obtain⟨xs,o,es,r,d,hz⟩:=at_ hP hw I hg;subst hP hw hK;have hx:kvs[i]? = some (kvs[i].1,kvs[i].2.1,kvs[i].2.2):=by simp[hi]
  obtain⟨x,hu,ry,rv⟩:=r.get hx;have XB:es[i]? = some (ent X.w x):=by rw[<- QL,d.ents,Wp,hu]; rfl
  have jk:it < s.heap.objs.size:=Wj st;rw[<- hz] at st;refine Xy st d.get d.data XB λh' hit hT hsz kp=>⟨_,rfl,wpAny_letOwnedTupleGo_items hit λh2 yg sb=>?_⟩
  have nz:s.heap.objs.size≠it:=QB jk;have aP:∀ b ∈ [it],b < s.heap.objs.size:=λb hb=>by
   have e:b=it:=by simpa using hb
   subst e;exact jk
  have I2:Inv X pins σ (upd H s.heap.objs.size (.tup [kvs[i].2.1,kvs[i].2.2])) { s with heap:=h2,toks:=s.toks } :=
   Inv.D5 (t':=s.toks) [it] I hf aP ry rv ((sb.2 _ nz).trans hT) λb o hb e=>by
    have g:b≠it:=λz=>hb (by simp[z])
    exact(sb.2 b g).trans (kp b o g e)
  refine⟨.ref s.heap.objs.size,_,I2,rfl,⟨s.heap.objs.size,_,_,_,I.ax.fresh (Wa _),hx,rfl,rfl⟩,⟨_,_,by rw[<- hz]; exact yg⟩,λb hb=>?_⟩;have e:b=it:=by simpa using hb
  subst e;rw[aH (Ne.symm nz)];exact(hf _ hb).1
 ·intro X hP hw hK hc i pins s σ H E I hf ⟨ok,ov,st⟩ ⟨hg,hi⟩;obtain⟨xs,o,es,r,d,hz⟩:=at_ hP hw I hg;subst hP hw hK;rw[<- hz] at st;refine Xz (I.ok.hd hc) st d.get d.data Y' λh' eb=>⟨rfl,Inv.uf (t':=s.toks) [it] I (λb o hb e=>eb b o (by grind) e) hf⟩
 ·intro A i s Q E ⟨ok,ov,st⟩ h;exact EL st h
section
variable {X:Cx} {o:Expr} {apos aO:Pos} {elts:List Expr} {ctx:Nat} {tp:Pos} {td:TE}
def XD(td:TE):TI:=λσ H R=>td σ H λv H1=>∃ a ep kvs,v = .ref a/\H1 a=some (.dN ep kvs)/\R (yD a ep kvs) H1
theorem XE (ho:PE X o td) (hb:Qr o "items" X.env (eval o X.env)=eval o X.env:=by rfl) (hl:(apos.endLine == aO.line)=true:=by rfl) :
  PI X (.Tuple elts ctx tp) (.Call (.Attribute o "items" apos) [] [] aO) (XD td):=by
 intro pins s σ H R I h;refine JB (T:="dict") (id:="dict.items") hb rfl hl F.plainAttrs_dict UC F.type_dict_items (aF (ho pins s σ H _ I h) λu s1 ⟨x,H1,I1,rx,a,ep,kvs,ex,ea,q⟩=>?_);subst ex;obtain rfl:u=Value.ref a:=rx;obtain⟨z,hS,xs,ob,es,r,d⟩:=ny I1.ax ea;have hz:es.size=kvs.length:=by rw[<- Q2,d.ents,Wx]; exact(Paired.length r).symm
 refine⟨d.typeIs,d.noDict,?_⟩;refine Calls.callWith_builtin rfl (PySem.evalArgs_none (Xw hS d.typeIs ?_));have XF:∀ b u,s1.heap.get? b=some u->(s1.heap.push { cls:=.type "dict_items",data:=.fields #[.ref a] }).get? b=some u:=λb u e=>W3 _ e
 refine Xx (d:=a) ⟨_,Wi _ rfl,rfl,rfl⟩ (XF _ _ d.get) d.data ?_;generalize hh1:s1.heap.push { cls:=.type "dict_items",data:=.fields #[.ref a] } = h1;have up1:∀ b u,s1.heap.get? b=some u->h1.get? b=some u:=λb u e=>by rw[<- hh1]; exact W3 _ e
 have oF:s1.heap.objs.size<=h1.objs.size:=by rw[<- hh1,QE]; exact Up _
 generalize hh2:h1.push { cls:=.type "dict_itemiterator",data:=.fields #[.none,.bool false,.ref a,.int 0 0,.int es.size 0,.int ep 0,.none,.none] } = h2;have lZ:∀ b u,s1.heap.get? b=some u->h2.get? b=some u:=λb u e=>by rw[<- hh2]; exact W3 _ (up1 b u e)
 have hit:IsItemIter h2 h1.objs.size a 0 kvs.length ep .none .none:=by rw[<- hz,<- hh2]; exact Wi _ rfl
 have I2:Inv X pins σ H1 { s1 with heap:=h2,toks:=s1.toks }:=I1.kept (t':=s1.toks) lZ;refine⟨h1.objs.size,[h1.objs.size],_,_,_,rfl,I2,XA a h1.objs.size kvs ep,⟨_,_,hit⟩,λb hb=>?_,q⟩;have e:b=h1.objs.size:=by simpa using hb
 subst e;exact I1.iJ oF (I1.ax.fresh oF)
end
section
variable {X:Cx} {pos:Pos}
theorem Fx (h:Heap) (hb:Qy < h.objs.size):bF P w H (h.push { cls:=.type "dict",data:=.dict #[] }) h.objs.size (.dN 0 []) :=
 ⟨Qn _,beq_eq_false_iff_ne.mpr (Ne.symm (Wo hb)),_,#[],Wi _ rfl,⟨rfl,rfl,rfl⟩,rfl,.nil,Ux⟩
def XG:TE:=λ_ H Q=>∀ p,H p=none->Q (.ref p) (upd H p (.dN 0 []))
theorem XH:PE X (.Dict [] [] pos) XG:=by
 intro pins s σ H Q I h;exact wpAny_Dict_empty ⟨.ref s.heap.objs.size,_,I.laid (a:=s.heap.objs.size) (o:=.dN 0 []) (t':=s.toks) (λ_ _ q=>W3 _ q) (Wa _) (Fx s.heap I.big),rfl,h _ (I.ax.fresh (Wa _))⟩
end
end L2
namespace DV
open PySem PySem.Spec PyProof.Rows L2
theorem aY.XI(k:Ok c σ δ H)(hp:H p=none)(r:DN H (Av c σ δ) ws ds):aY c σ δ H (upd H p (.dN ep ws)) (.ref p) (.own (.dic ds)):=by
 refine⟨p,rfl,⟨ep,ws,cf,?_⟩,λz=>k.ik hp (.inl z),k.lD hp,k.plus hp _,hp⟩;exact(r.aK λb z=>by
  rcases z with (z | z) | z
  ·exact .inl (.inl z)
  ·exact .inr (by rw[z]; exact hp)
  ·exact .inl (.inr z)).keep λb w e _=>by rw[aH (fO e hp)]; exact e
def uQ:DE:=λδ=>.ok (.own (.dic [])) δ
theorem XJ:SE X c (.Dict [] [] pos) uQ:=PE.weak XH λσ H Q ⟨δ,k,q⟩=>λp hp=>q _ _ (.alloc k hp _) (aY.XI k hp .nil)
def ju(ds:List (D×D)):List D:=ds.map λp=>D.tup [p.1,p.2]
def j6(fe:DE):DI:=λδ=>(fe δ).bind λr δ1=>match r.d with
 | .dic ds=>.ok (ju ds) δ1
 | _=>.stuck
section
variable {X:Cx} {c:Fc} {o:Expr} {fe:DE} {apos aO:Pos} {elts:List Expr} {ctx:Nat} {tp:Pos}
theorem XM(h:H a=some (.dN ep ws))(n:¬ Own σ δ a)(r:DN H (Av c σ δ) ws ds):mO c σ δ H (yD a ep ws) (ju ds):=by
 intro H2 kp;have h2:=kp a _ h n;refine⟨⟨h2,by simp[ju,r.len]⟩,λi d e=>?_⟩;unfold ju at e;rw[Wp] at e
 cases ej:ds[i]? with
 | none=>rw[ej] at e; cases e
 | some q =>
  rw[ej] at e
  cases e;have hi:i < ws.length:=by rw[r.len]; exact(W6.mp ej).1
  refine⟨⟨h2,hi⟩,λx H3 ⟨p,kk,y,xv,hp,hkv,e3,ex⟩=>.inr ⟨p,_,_,hp,e3,ex,rfl,?_⟩⟩;exact aD.two (r.key i _ q hkv ej) (r.val i _ q hkv ej)
theorem XN (ho:SE X c o fe) (hb:Qr o "items" X.env (eval o X.env)=eval o X.env:=by rfl) (hl:(apos.endLine == aO.line)=true:=by rfl) :
  SI X c (.Tuple elts ctx tp) (.Call (.Attribute o "items" apos) [] [] aO) (j6 fe) :=
 PI.weak (XE ho hb hl) λσ H R ⟨δ,k,q⟩=>by
  unfold j6 at q;rw[aU] at q;refine⟨δ,k,aJ q λr δ1 q1 v H1 a1 r1=>?_⟩;have rp:=r1.rep;generalize r.d=d at q1 rp
  cases d <;> first | exact q1.elim | skip
  rename_i ds
  cases rp with
  | dic h1 h2 h3 h4 h5 h6 =>
   exact⟨_,_,_,rfl,h2,q1 _ _ a1 (XM h2 (λz=>h1 (.inr z)) ⟨h3,h4,h5,h6⟩)⟩
end
end DV
namespace L2
open PySem PySem.Spec PyProof.Rows
section
variable {X:Cx} {k v o e f:Expr} {pos apos aO:Pos} {tk tv td ty tx:TE}
def XO(tk tv:TE):TE:=λσ H Q=>∀ p,H p=none->tk σ (upd H p (.dN 0 [])) λx H1=>tv σ H1 λy H2=>uM H2 p x y λH3=>Q (.ref p) H3
theorem XQ(hu:X.A.units + 8 < WZ)(hk:PE X k tk)(hv:PE X v tv):PE X (.Dict [some k] [v] pos) (XO tk tv):=by
 intro pins s σ H Q I h;have hn:=I.ax.fresh (Wa s.heap.objs.size);have I1:=I.laid (a:=s.heap.objs.size) (o:=.dN 0 []) (h':=s.heap.push { cls:=.type "dict",data:=.dict #[] }) (t':=s.toks) (λ_ _ q=>W3 _ q) (Wa _) (Fx s.heap I.big);refine wpAny_Dict_any rfl rfl U' U' (pairTrees_cons_walk (aF (hk pins _ σ _ _ I1 (h _ hn)) λu s1 ⟨x,H1,J1,rx,q1⟩=>aF (hv pins s1 σ H1 _ J1 q1) λr s2 ⟨y,H2,J2,ry,g⟩=>pairTrees_nil_walk ?_));unfold storeAll;rw[List.forIn_cons];refine W0 (W0 (Fq Y' J2 g rx ry λH3 s3 J3 q3=>W1 ?_));show W5 _ _ (forIn ([]:List (Value×Value)) PUnit.unit _) _ _ s3;rw[List.forIn_nil];exact W1 ⟨.ref s.heap.objs.size,H3,J3,rfl,q3⟩
def yE(H:Hp)(a:Addr):Prop:=∃ ep kvs,H a=some (.dN ep kvs)
theorem XR (I:Inv X pins σ H s) (d:yE H a):s.TypeIs (.ref a) "dict"/\(∀ b,Value.ref a = .ref b->∃ ob,s.heap.get? b=some ob/\ob.dict=none):=by
 obtain⟨ep,kvs,e⟩:=d;obtain⟨_,_,xs,ob,es,_,d⟩:=ny I.ax e;exact⟨d.typeIs,d.noDict⟩
def XS(td ty tx:TE):TE:=λσ H Q=>td σ H λx H1=>∃ a,x = .ref a/\yE H1 a/\ty σ H1 λy H2=>tx σ H2 λz H3=>∃ r,oI H3 a y r/\Q (r.getD z) H3
theorem XT (hu:X.A.units + 8 < WZ) (ho:PE X o td) (he:PE X e ty) (hf:PE X f tx) (m:M2 X o "get" apos e f aO):PE X (.Call (.Attribute o "get" apos) [e,f] [] aO) (XS td ty tx):=by
 intro pins s σ H Q I h;refine JB m.base m.pZ m.line JW Qt PySem.F.type_dict_get (aF (ho pins s σ H _ I h) λu s1 ⟨x,H1,I1,rx,a,ex,d,q1⟩=>?_);subst ex;obtain rfl:u=Value.ref a:=rx;obtain⟨t1,t2⟩:=XR I1 d;refine⟨t1,t2,?_⟩;rw[m.trees];refine Calls.callWith_builtin rfl (Calls.evalArgs_plain (Calls.spliced_cons (aF (he pins s1 σ H1 _ I1 q1) λiv s2 ⟨y,H2,I2,ry,q2⟩ =>
  Calls.spliced_cons (aF (hf pins s2 σ H2 _ I2 q2) λfv s3 ⟨z,H3,I3,rz,r,g,q3⟩=>Calls.spliced_nil ?_))))
 exact Xg hu I3 g ry rz λw' s4 I4 gD=>⟨_,H3,I4,gD,q3⟩
end
end L2
namespace DV
open PySem PySem.Spec PyProof.Rows L2
def qV(fk fv:DE):DE:=λδ=>(fk δ).bind λr δ1=>(fv δ1).bind λs δ2=>match r,s with
 | .pure dk,.pure d=>if j5 (kR dk) [] dk then .ok (.own (.dic [(dk,d)])) δ2 else .stuck
 | _,_=>.stuck
theorem XU(hu:X.A.units + 64 < WZ)(hk:∀ c',SE X c' k fk)(hv:∀ c',SE X c' v fv):SE X c (.Dict [some k] [v] pos) (qV fk fv):=by
 have PK:PE X k (λσ H Q=>∃ c',tD c' fk σ H Q):=λpins s σ H Q I ⟨c',h⟩=>hk c' pins s σ H Q I h
 have PV:PE X v (λσ H Q=>∃ c',tD c' fv σ H Q):=λpins s σ H Q I ⟨c',h⟩=>hv c' pins s σ H Q I h
 refine PE.weak (XQ Y' PK PV) λσ H Q ⟨δ,kk,q⟩=>?_
 intro p hp;unfold qV at q;rw[aU] at q;refine⟨c.plus p,δ,kk.plus hp _,uj q λr δ1 q1 x H1 a1 rx=>?_⟩;rw[aU] at q1;refine⟨c.plus p,δ1,a1.ok,uj q1 λs δ2 q2 y H2 a2 ry=>?_⟩;have A:=a1.trans a2;have h0:=kk.lD hp;have nb:¬ c.B p:=λz=>kk.ik hp (.inl z)
 have xU:H2 p=some (.dN 0 []):=A.keep p _ cf λz=>kk.ik hp (.inr z)
 cases r with
 | own d=>exact q2.elim
 | pure dk =>
  cases s with
  | own d=>exact q2.elim
  | pure d =>
   simp only at q2;split at q2
   case isFalse=>exact q2.elim
   rename_i hg;obtain⟨g1,⟨kd,g2⟩,g3⟩:=yB hg;have Fy:Rep H2 (Av (c.plus p) σ δ2) x dk:=Rep.dq (show Rep H1 (Av (c.plus p) σ δ1) x dk from rx) a2;refine⟨kR dk,0,[],kd,xU,λ_ z=>by simp at z,uO g1 g2 Fy,by rw[PySem.sizeLine_eq]; decide,λgx=>?_⟩;have em:putN [] kd x y=[(kd,x,y)]:=rfl;rw[em];have qM:=A.ok.Eb h0 (.dN gx [(kd,x,y)]);have ne:∀ {a w},H a=some w->a≠p:=λe z=>by rw[z,hp] at e; cases e
   have kp:∀ b w,H2 b=some w->¬ Av (c.plus p) σ δ2 b->upd H2 p (.dN gx [(kd,x,y)]) b=some w:=λb w e n=>by rw[aH (λz:b=p=>n (.inl (.inr z)))]; exact e
   refine q2 (.ref p) _ ⟨qM.less,λa w e n=>?_,λa z=>?_,λa w e=>?_⟩ ⟨p,rfl,⟨gx,[(kd,x,y)],cf,DN.cons (Fy.keep kp) (Rep.keep (show Rep H2 (Av (c.plus p) σ δ2) y d from ry) kp) g2 .nil⟩,nb,h0,qM,hp⟩
   ·rw[aH (ne e)];exact A.keep a w (by rw[aH (ne e)]; exact e) n
   ·by_cases zp:a=p
    ·rw[zp]; exact .inr hp
    ·rcases A.own a z with z | z
     ·exact .inl z
     ·rw[aH zp] at z; exact .inr z
   ·obtain⟨w',e'⟩:=A.there a w (by rw[aH (ne e)]; exact e);exact⟨w',by rw[aH (ne e)]; exact e'⟩
section
variable {X:Cx} {c:Fc} {o e f:Expr} {fe ff:DE} {i:Nat} {apos aO:Pos}
def uR(δ:Dl)(i:Nat):Bool:=match δ[i]? with
 | some (some s)=>match s.d with
  | .dic _=>true
  | _=>false
 | _=>false
theorem XW(k:Ok c σ δ H)(h:uR δ i=true):∃ a,σ[i]? = some (some (.ref a))/\yE H a:=by
 unfold uR at h;split at h
 ·rename_i s e;split at h
  ·rename_i ds hs;obtain⟨v,ev⟩:=qh k e;have rb:=om k e ev;rw[hs] at rb;obtain⟨a,ep,ws,rfl,ha,_⟩:=Fw rb;exact⟨a,ev,ep,ws,ha⟩
  ·cases h
 ·cases h
def oK(i:Nat)(fe ff:DE):DE:=λδ=>if uR δ i then(fe δ).bind λk δ1=>(ff δ1).bind λz δ2=>match δ2[i]? with
  | some (some s)=>match s.d with
   | .dic ds=>if j5 (kR k.d) ds k.d then .ok (.pure ((jt ds k.d).getD z.d)) δ2 else .stuck
   | _=>.stuck
  | _=>.stuck else .stuck
theorem XX (hu:X.A.units + 64 < WZ) (ho:PE X o (cM i)) (he:SE X c e fe) (hx:SE X c f ff) (hb:Qr o "get" X.env (eval o X.env)=eval o X.env:=by rfl)
  (hf:((Qi aO (Wh [e,f] X.env)).all (λx=>!x.1) && (Uf aO (Jo [] X.env)).all (λx=>x.1.isSome)
   && decide (([e,f]:List Expr).length + ([]:List Keyword).length + (if ([]:List Keyword).isEmpty then 0 else 1) < 30))=true:=by rfl) (hl:(apos.endLine == aO.line)=true:=by rfl)
  (ht:Qi aO (Wh [e,f] X.env)=[(false,eval e X.env),(false,eval f X.env)]:=by rfl):SE X c (.Call (.Attribute o "get" apos) [e,f] [] aO) (oK i fe ff) :=
 PE.weak (XT Y' ho he hx ⟨hb,hf,hl,ht⟩) λσ H Q ⟨δ,k,q⟩=>by
  unfold oK at q;split at q
  case isFalse=>exact q.elim
  rename_i hd;obtain⟨a,e3,hn⟩:=XW k hd;rw[aU] at q;refine⟨.ref a,e3,a,rfl,hn,δ,k,aJ q λkx δ1 q1 v H1 a1 r1=>⟨δ1,a1.ok,?_⟩⟩;rw[aU] at q1;refine aJ q1 λzx δ2 q2 u H2 a2 r2=>?_
  split at q2
  ·rename_i s1 es1;split at q2
   ·rename_i ds1 hs1;split at q2
    ·rename_i hg;have rb:=om a2.ok es1 e3;rw[hs1] at rb;obtain⟨a',r,ea,g,rr⟩:=Xp rb (show bU c σ δ2 H2 v kx.d from .inl (Rep.dq r1.rep a2)) hg
     cases ea;refine⟨r,g,?_⟩;rcases rr with ⟨z1,rfl⟩ | ⟨v',d,z1,rfl,z3⟩
     ·rw[z1] at q2; exact q2 _ H2 (a1.trans a2) r2.rep
     ·rw[z1] at q2; exact q2 _ H2 (a1.trans a2) z3
    ·exact q2.elim
   ·exact q2.elim
  ·exact q2.elim
end
end DV
namespace DV
open PySem PySem.Spec PyProof.Rows L2
abbrev GE:=Int×Addr×List Tx
variable {X:Cx}
def cR:=fB (λi j=>i == j) λx y=>x == y
def nA:=fB (λi j=>!(i == j)) λx y=>!(x == y)
theorem Fz(i j:Str):(i == j)=(i.cps.toList == j.cps.toList):=by
 rw[Bool.eq_iff_iff]
 cases i; cases j
 simp
theorem uS:bp X (WQ .Eq) (lG (λi j=>i == j) λx y=>x == y) :=
 (nW (g:=λi j=>(i == j)) λ_ _ _ _ _ _ _ q=>PyProof.Rows.eq_int q).or (ql λi j t u Q s q=>PyProof.Rows.eq_str (by rw[Fz]; exact q))
theorem FA:bp X (WQ .NotEq) (lG (λi j=>!(i == j)) λx y=>!(x == y)) :=
 (nW (g:=λi j=>!(i == j)) λ_ _ _ _ _ _ _ q=>PyProof.Rows.ne_int q).or (ql (g:=λx y=>!(x == y)) λi j t u Q s q=>PyProof.Rows.ne_str (by rw[bne,Fz]; exact q))
end DV
namespace K16
open PySem.W (nsIn keepIn codeIn findIn mroIn kitOne mg_of)
open PySem PySem.Spec PyProof.Rows L2 DV
theorem eQ{a b:Prop}(h:a\/b:=by first|exact Or.inl rfl|exact Or.inr rfl):a\/b:=h
def top(i:Nat):Stmt:=PySem.Challenge.pw_tilegrow_k16_whole_first_places_and_coun.main.body.getD i (.Pass ⟨0,0,0,0⟩)
abbrev FC:Stmt:=top 33
abbrev FD:Stmt:=top 35
abbrev FE:Stmt:=top 34
abbrev FF:Stmt:=top 36
abbrev FG:Stmt:=top 37
abbrev FH:Stmt:=top 38
abbrev FI:Stmt:=top 9
abbrev FJ:Stmt:=top 29
abbrev yF:Stmt:=top 28
abbrev j7:Stmt:=top 30
abbrev FK:Stmt:=top 11
abbrev yG:Stmt:=top 31
abbrev FL:Stmt:=top 6
abbrev FN:Stmt:=top 7
abbrev FO:Stmt:=top 14
abbrev FP:Stmt:=top 20
abbrev FQ:Stmt:=top 19
abbrev yH:Stmt:=top 42
abbrev FR:Stmt:=top 40
abbrev FU:Stmt:=top 23
abbrev FV:Stmt:=top 22
abbrev FW:Stmt:=top 24
abbrev FX:Stmt:=top 10
abbrev FY:Stmt:=top 15
abbrev FZ:Stmt:=top 16
abbrev F1:Stmt:=top 17
abbrev F2:Stmt:=top 18
abbrev F3:Stmt:=top 39
abbrev F4:Stmt:=top 26
abbrev F5:Stmt:=top 25
abbrev F6:Stmt:=top 41
abbrev kS:Stmt:=top 43
def kT:Pos:=match (dM j7).getLast? with | some (.Return (some (.Call _ [_,.Lambda _ _ _ p] _ _)) _)=>p | _=>⟨0,0,0,0⟩
def kU:Str:=("tile_sets" : Str) ++ ".<locals>." ++ "<lambda>"
structure Txt(K:W4)(mg:Str->Option Value):Prop where
 qW:mg "all" = none
 qX:mg "bool" = none
 oM:mg "dict" = none
 oN:mg "enumerate" = none
 oO:mg "int" = none
 nC:mg "isinstance" = none
 oP:mg "len" = none
 qY:mg "list" = none
 qZ:mg "max" = none
 q0:mg "min" = none
 q_:mg "range" = none
 rg:mg "set" = none
 rh:mg "sorted" = none
 rj:mg "str" = none
 rm:mg "tuple" = none
 ty_bool:kA K "bool"
 ty_int:kA K "int"
 ty_str:kA K "str"
 rn:∃ t,mg "MOST_GROWINGS" = some (.int 60 t)
abbrev F7:DS:=(aq (cx (aI (ah iS 1 (aw (aR cN (aj 0))))) (bA (ah az 0 (aj 1))) cC) (bA (eD (.int 0))))
def oQ:DF:=bf [] 2 F7
abbrev F_:DS:=(aq (ak (qo (aa 0) (aE jP (eD (.int 0)) (aj 0))) (ae [] 1)) (bA (fD (aT (aa 1) (aT (aR mM (aw (ah wQ 1 (aw (aE tJ (eD (.int 10)) (aw (eD (.int 18)))))))) (aT (ah dP 1 (aw (eD (.int 1000003)))) bG))))))
def oR:DF:=bf [] 2 F_
abbrev Ga:DS:=(aq (ak (aE dP (ah bH 0 (aw (eD (.int 7919)))) (aw (eD (.int 2147483647)))) (ae [] 0)) (bA (aE dP (aE bH (aE bH (ah b9 0 (aj 0)) (aw (aE b9 (eD (.int 48271)) (aj 0)))) (aw (eD (.int 12345)))) (aw (eD (.int 2147483629))))))
def oS:DF:=bf [] 1 Ga
noncomputable abbrev Gb:DS:=(aq (cx (aI (aE cR (ah az 0 (aw (eD (.int 1)))) (aw (eD (.int 1))))) (aq (ak (aE dP (ah az 0 (aw (eD (.int 0)))) (aj 1)) (ae [0] 2)) (aq (kC 0 (eD (.int 0)) (aE eM (ah az 0 (aw (eD (.int 0)))) (aj 1))) (bA (aa 2)))) cC) (aq (kC 0 (eD (.int 2)) (ao oS [.val (aE bH (ao oS [.val (ah az 0 (aw (eD (.int 2))))]) (aw (eD (.int 7))))])) (bA (aE dP (aE eM (ah az 0 (aw (eD (.int 2)))) (aw (eD (.int 64)))) (aj 1)))))
def fI:DF:=bf [0] 3 Gb
noncomputable abbrev Gd:DS:=(aq (ak (eD (.str [97,98,99,100,101,102,103,104,105,106,107,108,109,110,111,112,113,114,115,116,117,118,119,120,121,122])) (ae [0] 2)) (aq (ak (aE az (ub [.tup [.int 2,.int 2],.tup [.int 1,.int 2],.tup [.int 2,.int 1],.tup [.int 2,.int 2],.tup [.int 1,.int 3],.tup [.int 2,.int 3],.tup [.int 3,.int 1],.tup [.int 3,.int 2],.tup [.int 4,.int 4],.tup [.int 2,.int 2]]) (aw (ao fI [.io 0,.val (eD (.int 10))]))) (a_ 2 (aA (ae [0] 3) (aA (ae [0] 4) ba)))) (aq (ak (ao fI [.io 0,.val (aE jP (eD (.int 27)) (aj 1))]) (ae [0] 5)) (aq (ak (jT 2 (gY (aa 5)) (gY (aE bH (ah bH 5 (aw (eD (.int 1)))) (aw (ao fI [.io 0,.val (aa 1)]))))) (ae [0] 6)) (aq (ak (aE bH (eD (.int 1)) (aw (ao fI [.io 0,.val (eD (.int 3))]))) (ae [0] 7)) (aq (ak (fD bG) (ae [0] 8)) (aq (bx (bM (aa 6)) (ae [0] 9) (aq (ak (fD bG) (ae [0] 10)) (aq (bx (dz (aa 3)) (ae [0] 11) (aq (ak (cV [14] (dz (aa 4)) (ae [0] 14) bW (ah az 6 (aw (aE eM (ao fI [.io 0,.val (aR cN (aj 6))]) (aj 7))))) (ae [0] 12)) (eW 10 (aR (dQ []) (aj 12))))) (eW 8 (cj (aT (aa 9) (aT (aR iT (aj 10)) bG))))))) (aq (cx (aI (aE cR (ao fI [.io 0,.val (eD (.int 2))]) (aw (eD (.int 0))))) (aq (ak (ah az 8 (aw (eD (.int 0)))) (a_ 2 (aA (ae [0] 9) (aA (ae [0] 13) ba)))) (kC 8 (eD (.int 0)) (cj (aT (aa 9) (aT (aE bH (cj (aT (ah bH 9 (aw (qq (ah az 13 (aw (eD (.int 0)))) (gY (eD (.int 1))) qp))) bG)) (aw (jT 13 (gY (eD (.int 1))) qp))) bG))))) cC) (bA (cj (aT (aa 3) (aT (aa 4) (aT (aR iT (aj 8)) bG)))))))))))))
def nD:DF:=bf [0] 15 Gd
abbrev Ge:DS:=(bA (cV [1,2] (bM (ah az 0 (aw (eD (.int 2))))) (a_ 2 (aA (ae [] 1) (aA (ae [] 2) ba))) bW (aa 1)))
def oU:DF:=bf [] 3 Ge
abbrev yI:DS:=(cx (gF (fA (aI (iU "str" (aj 1)))) (aI (aE (eF true) (aa 1) (aw (aR cW (aw (ah az 0 (aw (eD (.int 2)))))))))) jU cC)
def eR:DF:=bf [] 2 yI
abbrev Gf:DS:=(bA (aR (dQ []) (aw (aR jq (aw (aR (dQ []) (aw (cV [2] (bM (aa 1)) (ae [] 2) bW (ah cp 0 (aj 2))))))))))
def jv:DF:=bf [] 3 Gf
theorem Gg:oz jv:=xq
theorem uT:f_ ["first","step","number_of","here"] ["first","step"] (bw yF):=scc
noncomputable def yJ:DS:=(aq (ak (aR cW (aw (cV [3,4] (bM (ah az 0 (aw (eD (.int 2))))) (a_ 2 (aA (ae [] 3) (aA (ae [] 4) ba))) bW (cj (aT (aa 3) (aT (ao jv [.val (iB (aa 3) (aR (dQ []) (aj 4))),.val (aa 3)]) bG)))))) (ae [] 2)) (bA (uI (aa 1) [2] (ao jv [.val (aa 1),.val (aa 0)]) qS)))
def rA:DF:=bf [] 5 yJ
theorem uU:f_ ["rule","tile","text_of","own","block"] ["rule","tile"] (bw j7):=scc
abbrev yK:DS:=(bA (cV [1,2] (bM (ah az 0 (aw (eD (.int 2))))) (a_ 2 (aA (ae [] 1) (aA (ae [] 2) ba))) bW (aa 1)))
def jw:DF:=bf [] 3 yK
noncomputable abbrev yL:DS:=(aq (du (ao eR [.val (aa 0),.val (aa 1)])) (aq (ak (ao rA [.val (aa 0),.val (aa 1)]) (a_ 2 (aA (ae [] 2) (aA (ae [] 3) ba)))) (aq (ak gL (ae [] 4)) (aq (bx (i3 (aa 2)) (a_ 2 (aA (ae [] 5) (aA (ae [] 6) ba))) (bx (bM (aa 6)) (ae [] 7) (j3 4 (aa 7) (aa 5)))) (bA (cV [7] (bM (ao jw [.val (aa 0)])) (ae [] 7) bW (cj (aT (aa 7) (aT (kK 4 (aa 7)) bG)))))))))
def nE:DF:=bf [] 8 yL
theorem Gh:f_ ["rule","tile","sets","start","often_of","often","tiles","other"] ["rule","tile"] (bw yG):=scc
abbrev yM:DS:=(bA (gG (iU "int" (aj 0)) (gG (oh (iU "bool" (aj 0))) (ah jR 1 (aj 0)))))
def nF:DF:=bf [] 2 yM
abbrev yN:DS:=(bA (gG (ao nF [.val (aa 0),.val (aa 1)]) (ah jR 0 (aj 2))))
def gm:DF:=bf [] 3 yN
abbrev Gi:DS:=(cx (fA (aI (ao gm [.val (aa 0),.val (eD (.int 0)),.val (eD (.int 60))]))) jU cC)
def kW:DF:=bf [] 1 Gi
noncomputable abbrev Gj:DS:=(aq (ak gL (ae [] 4)) (aq (bx (bM (ah az 0 (aw (eD (.int 2))))) (a_ 2 (aA (ae [] 5) (aA (ae [] 6) ba))) (aq (ak (fD bG) (ae [] 7)) (aq (bx (i3 (aa 6)) (a_ 2 (aA (ae [] 8) (aA (ae [] 9) ba))) (bx (kL (aa 9)) (a_ 2 (aA (ae [] 10) (aA (ae [] 11) ba))) (cx (aI (aE (eF false) (aa 11) (aj 1))) (aq (ak (ah cp 1 (aj 11)) (a_ 2 (aA (ae [] 12) (aA (ae [] 13) ba)))) (eW 7 (cj (aT (aE bH (ah b9 8 (aj 2)) (aj 12)) (aT (aE bH (ah b9 10 (aj 3)) (aj 13)) bG))))) cC))) (cx (aI (aE oj (aR cN (aj 7)) (aw (eD (.int 0))))) (eO 4 (aa 5) (aR lV (aj 7))) cC)))) (gZ [] 4)))
def oV:DF:=bf [] 14 Gj
noncomputable abbrev Gk:DS:=(aq (du (ao eR [.val (aa 0),.val (aa 1)])) (aq (du (ao kW [.val (aa 2)])) (aq (du (ao eR [.val (aa 0),.val (aa 3)])) (aq (ak (iB (aa 3) (eD (.tup [.int 0,.int 0]))) (ae [] 4)) (aq (ak (eD (.int 1)) (ae [] 5)) (aq (ak (eD (.int 1)) (ae [] 6)) (aq (bx (dz (aa 2)) (ae [] 7) (aq (ak (ao oV [.val (aa 0),.val (aa 4),.val (aa 5),.val (aa 6)]) (ae [] 4)) (aq (ak (ah b9 5 (aw (ah az 0 (aw (eD (.int 0)))))) (ae [] 5)) (ak (ah b9 6 (aw (ah az 0 (aw (eD (.int 1)))))) (ae [] 6))))) (bA (kK 4 (aa 1))))))))))
def g9:DF:=bf [] 8 Gk
noncomputable abbrev yO:DS:=(aq (ak (aE cp (aR cW (aw (ao nE [.val (aa 0),.val (aa 1)]))) (aj 2)) (ae [] 3)) (aq (cx (aI (aE (dZ false) (aa 3) (aw (eD .ay)))) (bA (aR jh (aw (cV [4] (dz (eD (.int 7))) (ae [] 4) bW (aE (dZ false) (ao g9 [.val (aa 0),.val (aa 1),.val (aa 4),.val (aa 2)]) (aw (eD .ay))))))) cC) (aq (cx (aI (aE (dZ false) (ao g9 [.val (aa 0),.val (aa 1),.val (aa 3),.val (aa 2)]) (aw (eD .ay)))) (bA (eD (.bl false))) cC) (bA (aR jh (aw (cV [4] (dz (aa 3)) (ae [] 4) bW (aE (dZ false) (ao g9 [.val (aa 0),.val (aa 1),.val (aa 4),.val (aa 2)]) (aw (eD .ay))))))))))
def oW:DF:=bf [] 5 yO
theorem Gm:f_ ["rule","tile","other","often","growings"] ["rule","tile","other"] (bw yH):=scc
abbrev Gn:DS:=(bA (aE cp (aR cW (aj 0)) (aj 1)))
def j8:DF:=bf [] 2 Gn
noncomputable abbrev Gp:DS:=(aq (ak gL (ae [] 1)) (aq (bx (bM (ah az 0 (aw (eD (.int 2))))) (a_ 2 (aA (ae [] 2) (aA (ae [] 3) ba))) (aq (ak (aR (dQ []) (aj 3)) (ae [] 4)) (eO 1 (aa 2) (cV [5] (bM (aR jq (aj 4))) (ae [] 5) bW (cj (aT (aa 5) (aT (lY (aa 4) (aa 5)) bG))))))) (gZ [] 1)))
def oX:DF:=bf [] 6 Gp
abbrev yP:DS:=(bA (cV [2] (bM (ao jw [.val (aa 0)])) (ae [] 2) bW (cj (aT (aa 2) (aT (iz 1 (aa 2) (eD (.int 0))) bG)))))
def j9:DF:=bf [] 3 yP
noncomputable abbrev Gq:DS:=(aq (du (ao eR [.val (aa 0),.val (aa 1)])) (aq (ak (ao oX [.val (aa 0)]) (ae [] 3)) (aq (ak (iB (aa 1) (eD (.int 1))) (ae [] 4)) (aq (bx (dz (aa 2)) (ae [] 5) (aq (ak gL (ae [] 6)) (aq (bx (ng 4) (a_ 2 (aA (ae [] 7) (aA (ae [] 8) ba))) (bx (bM (ah cp 3 (aj 7))) (a_ 2 (aA (ae [] 9) (aA (ae [] 10) ba))) (eO 6 (aa 9) (aE bH (iz 6 (aa 9) (eD (.int 0))) (aw (ah b9 8 (aj 10))))))) (nh [] 4 6)))) (bA (ao j9 [.val (aa 0),.val (aa 4)]))))))
def nG:DF:=bf [] 11 Gq
abbrev yQ:DS:=(aq (bx (dz (aa 2)) (ae [] 3) (ak (ah b9 0 (aj 1)) (ae [] 0))) (bA (aa 0)))
def gq:DF:=bf [] 4 yQ
noncomputable abbrev Gr:DS:=(aq (cx (fA (aI (ao gm [.val (aa 2),.val (eD (.int 0)),.val (aE jP (ao gq [.val (eD (.int 1)),.val (ah az 0 (aw (eD (.int 0)))),.val (aa 1)]) (aw (eD (.int 1))))]))) jU cC) (cx (fA (aI (ao gm [.val (aa 3),.val (eD (.int 0)),.val (aE jP (ao gq [.val (eD (.int 1)),.val (ah az 0 (aw (eD (.int 1)))),.val (aa 1)]) (aw (eD (.int 1))))]))) jU cC))
def oY:DF:=bf [] 4 Gr
noncomputable abbrev Gs:DS:=(aq (du (ao kW [.val (aa 1)])) (aq (du (ao oY [.val (aa 0),.val (aa 1),.val (aa 2),.val (aa 3)])) (aq (ak (aa 0) (a_ 3 (aA (ae [] 4) (aA (ae [] 5) (aA (ae [] 6) ba))))) (aq (ak (fD bG) (ae [] 7)) (aq (bx (dz (aa 1)) (ae [] 8) (aq (eW 7 (cj (aT (ah dP 2 (aj 4)) (aT (ah dP 3 (aj 5)) bG)))) (aq (ak (ah eM 2 (aj 4)) (ae [] 2)) (ak (ah eM 3 (aj 5)) (ae [] 3))))) (bA (aR kH (aj 7))))))))
def oZ:DF:=bf [] 9 Gs
noncomputable abbrev Gu:DS:=(aq (du (ao eR [.val (aa 0),.val (aa 1)])) (aq (ak (aR cW (aw (ah az 0 (aw (eD (.int 2)))))) (ae [] 5)) (aq (ak (fD (aT (aa 1) bG)) (ae [] 6)) (aq (bx (bM (ao oZ [.val (aa 0),.val (aa 2),.val (aa 3),.val (aa 4)])) (a_ 2 (aA (ae [] 7) (aA (ae [] 8) ba))) (eW 6 (aE az (aE az (ah cp 5 (aw (ah az 6 (aw (aR kI (aw (eD (.int 1)))))))) (aj 7)) (aj 8)))) (gZ [] 6)))))
def o_:DF:=bf [] 9 Gu
abbrev Gv:DS:=(bA (aE az (ao o_ [.val (aa 0),.val (aa 1),.val (aa 2),.val (aa 3),.val (aa 4)]) (aw (aR kI (aw (eD (.int 1)))))))
def nH:DF:=bf [] 5 Gv
abbrev Gw:DS:=(aq (ak (eD (.int 1)) (ae [] 2)) (aq (bx (dz (aa 1)) (ae [] 3) (ak (ah b9 2 (aj 0)) (ae [] 2))) (bA (aa 2))))
def nJ:DF:=bf [] 4 Gw
noncomputable abbrev Gx:DS:=(aq (ak uQ (ae [] 4)) (aq (bx (j6 (aa 1)) (a_ 2 (aA (ae [] 5) (aA (ae [] 6) ba))) (aq (ak (aa 5) (a_ 3 (aA (ae [] 7) (aA (ae [] 8) (aA (ae [] 9) ba))))) (bx (i3 (ah cp 0 (aj 9))) (a_ 2 (aA (ae [] 10) (aA (ae [] 11) ba))) (bx (kL (aa 11)) (a_ 2 (aA (ae [] 12) (aA (ae [] 13) ba))) (cx (kz (gF (aI (aa 7)) (aI (ah jR 10 (aj 2)))) (gF (aI (aa 8)) (aI (ah jR 12 (aj 3))))) (aq (ak (cj (aT (lF (aa 7) (ah iS 10 (aj 2))) (aT (lF (aa 8) (ah iS 12 (aj 3))) (aT (aa 13) bG)))) (ae [] 14)) (oJ 4 (aa 14) (aE bH (oK 4 (aa 14) (eD (.int 0))) (aj 6)))) cC))))) (gZ [] 4)))
def pb:DF:=bf [] 15 Gx
noncomputable abbrev Gy:DS:=(aq (du (ao eR [.val (aa 0),.val (aa 1)])) (aq (ak (ao gq [.val (eD (.int 1)),.val (ah az 0 (aw (eD (.int 0)))),.val (aa 2)]) (ae [] 5)) (aq (ak (ao gq [.val (eD (.int 1)),.val (ah az 0 (aw (eD (.int 1)))),.val (aa 2)]) (ae [] 6)) (aq (cx (gF (fA (aI (ao gm [.val (aa 3),.val (eD (.int 0)),.val (aa 5)]))) (fA (aI (ao gm [.val (aa 4),.val (eD (.int 0)),.val (aa 6)])))) jU cC) (aq (ak (aR cW (aw (ah az 0 (aw (eD (.int 2)))))) (ae [] 7)) (aq (ak (qV (cj (aT (ah cR 3 (aj 5)) (aT (ah cR 4 (aj 6)) (aT (aa 1) bG)))) (eD (.int 1))) (ae [] 8)) (aq (bx (dz (aa 2)) (ae [] 9) (aq (ak (ah eM 5 (aw (ah az 0 (aw (eD (.int 0)))))) (ae [] 5)) (aq (ak (ah eM 6 (aw (ah az 0 (aw (eD (.int 1)))))) (ae [] 6)) (ak (ao pb [.val (aa 7),.val (aa 8),.val (aE dP (ah lR 3 (aj 5)) (aw (ah az 0 (aw (eD (.int 0)))))),.val (aE dP (ah lR 4 (aj 6)) (aw (ah az 0 (aw (eD (.int 1))))))]) (ae [] 8))))) (bA (ao j9 [.val (aa 0),.val (aR cW (aw (cV [10,11] (j6 (aa 8)) (a_ 2 (aA (ae [] 10) (aA (ae [] 11) ba))) (kz (aI (ah az 10 (aw (eD (.int 0))))) (aI (ah az 10 (aw (eD (.int 1)))))) (cj (aT (ah az 10 (aw (eD (.int 2)))) (aT (aa 11) bG))))))])))))))))
def j_:DF:=bf [] 12 Gy
noncomputable abbrev Gz:DS:=(aq (ak (ao g9 [.val (aa 0),.val (aa 1),.val (aa 2),.val (aa 3)]) (ae [] 4)) (aq (ak (ao j8 [.val (ao nG [.val (aa 0),.val (aa 1),.val (aa 2)]),.val (aa 3)]) (ae [] 5)) (aq (cx (aI (aE (dZ false) (aa 4) (aw (eD .ay)))) (bA (ah cR 5 (aw (eD (.int 0))))) cC) (aq (ak (aa 4) (a_ 2 (aA (ae [] 6) (aA (ae [] 7) ba)))) (aq (cx (gF (aI (ah cR 5 (aw (eD (.int 0))))) (aI (aE nA (ao nH [.val (aa 0),.val (aa 1),.val (aa 2),.val (aa 6),.val (aa 7)]) (aj 3)))) (bA (eD (.bl false))) cC) (aq (ak (ao nJ [.val (ah az 0 (aw (eD (.int 1)))),.val (aa 2)]) (ae [] 8)) (aq (ak (ao j8 [.val (ao j_ [.val (aa 0),.val (aa 1),.val (aa 2),.val (aa 6),.val (aa 8)]),.val (aa 3)]) (ae [] 9)) (aq (ak (ao j8 [.val (ao j_ [.val (aa 0),.val (aa 1),.val (aa 2),.val (ah bH 6 (aw (eD (.int 1)))),.val (aa 7)]),.val (aa 3)]) (ae [] 10)) (aq (ak (ao j8 [.val (ao j_ [.val (aa 0),.val (aa 1),.val (aa 2),.val (aa 6),.val (aa 7)]),.val (aa 3)]) (ae [] 11)) (bA (gG (ah cR 9 (aw (eD (.int 0)))) (ah cR 10 (aj 11)))))))))))))
def pe:DF:=bf [] 12 Gz
noncomputable abbrev yR:DS:=(aq (bx (bM (aE bH (fD (aT (ao oQ [.val (aa 0),.val (eD (.int 0))]) bG)) (aw (jT 0 (gY (eD (.int 1))) (gY (eD (.int 4))))))) (ae [] 1) (aq (ak (ao oR [.val (aa 1)]) (ae [] 2)) (aq (ak (ao nD [.io 2,.val (eD (.int 6))]) (ae [] 3)) (aq (ak (ao oU [.val (aa 3)]) (ae [] 4)) (aq (ak (ah az 4 (aw (ao fI [.io 2,.val (aR cN (aj 4))]))) (ae [] 5)) (bx (bM (aa 4)) (ae [] 6) (aq (ak (aE az (fD (aT (ao fI [.io 2,.val (eD (.int 6))]) (aT (ao fI [.io 2,.val (eD (.int 61))]) bG))) (aw (ao fI [.io 2,.val (eD (.int 2))]))) (ae [] 7)) (cx (gF (fA (aI (ao pe [.val (aa 3),.val (aa 5),.val (aa 7),.val (aa 6)]))) (fA (aI (ao oW [.val (aa 3),.val (aa 5),.val (aa 6)])))) (bA (eD (.bl false))) cC)))))))) (bA (eD (.bl true))))
def rC:DF:=bf [] 8 yR
theorem GH:f_ ["script","cell","pen","rule","tiles","tile","other","growings"] ["script"] (bw kS):=scc
set_option hygiene false in
local macro_rules | `(tactic| infer_instance)=>`(tactic| (
  repeat' first
   | ((with_reducible show SE _ _ _ _); first
     | ((with_reducible show SE _ _ _ (iU "int" _)); refine @wW _ _ _ _ _ _ _ _ _ T.ty_int rfl T.nC rfl T.oO boot_int ?_ Z' Z' V' V')
     | ((with_reducible show SE _ _ _ (ah lR _ _)); refine @qi _ _ _ _ _ _ _ _ _ _ Sw Sx (pv _) ?_)
     | ((with_reducible show SE _ _ _ (aE nA _ _)); refine @og _ _ _ _ _ _ _ _ _ _ FA gW ?_ ?_ (h9 _))
     | ((with_reducible show SE _ _ _ (ah cR _ _)); refine @tG _ _ _ _ _ _ _ _ _ _ uS gW (pv _) ?_ (h9 _))
     | ((with_reducible show SE _ _ _ (aE cR _ _)); refine @og _ _ _ _ _ _ _ _ _ _ uS gW ?_ ?_ (h9 _))
     | ((with_reducible show SE _ _ _ (aE (eF false) _ _)); refine @og _ _ _ _ _ _ _ _ _ _ (DK hq) (qE false) ?_ ?_ rfl)
     | ((with_reducible show SE _ _ _ (aE (eF true) _ _)); refine @og _ _ _ _ _ _ _ _ _ _ (xH hq) (qE true) ?_ ?_ rfl)
     | ((with_reducible show SE _ _ _ (aE (dZ false) _ _)); refine @og _ _ _ _ _ _ _ _ _ _ AQ DU ?_ ?_ rfl)
     | ((with_reducible show SE _ _ _ (ah jR _ _)); refine @tG _ _ _ _ _ _ _ _ _ _ tL gW (pv _) ?_ (h9 _))
     | ((with_reducible show SE _ _ _ (aR jq _)); refine Vg rfl rfl T.rh rfl T.rg ?_)
     | ((with_reducible show SE _ _ _ (lF _ _)); refine @OP _ _ _ _ _ _ _ _ ?_ ?_)
     | ((with_reducible show SE _ _ _ (oh _)); refine @OQ _ _ _ _ _ ?_)
     | ((with_reducible show SE _ _ _ (aR kI _)); refine @So _ _ _ _ _ ?_)
     | ((with_reducible show SE _ _ _ (aR lV _)); refine @SR _ _ _ _ _ _ rfl hq rfl T.q0 ?_ V')
     | ((with_reducible show SE _ _ _ uQ); exact XJ)
     | ((with_reducible show SE _ _ _ (lY _ _)); refine TZ ?_ ?_)
     | ((with_reducible show SE _ _ _ (qV _ _)); refine XU hq (λc=>?_) (λc=>?_))
     | ((with_reducible show SE _ _ _ (iB _ _)); refine @Ec _ _ _ _ _ _ _ (λc=>?_) (λc=>?_))
     | ((with_reducible show SE _ _ _ (oK _ _ _)); refine XX hq (pv _) ?_ ?_)
     | ((with_reducible show SE _ _ _ (iz _ _ _)); refine @Su _ _ _ _ _ _ _ _ _ _ hq (pv _) ?_ ?_ V' V' V' V')
     | ((with_reducible show SE _ _ _ (kK _ _)); refine @Ss _ _ _ _ _ _ _ _ hq (pv _) ?_ V' V' V' V')
     | ((with_reducible show SE _ _ _ (aa _)); exact @jg _ _ _ _ (pv _))
     | ((with_reducible show SE _ _ _ (eD (.int _))); first | exact @wG _ _ _ _ _ | exact @RA _ _ _ _ _ rfl T.rn Z')
     | ((with_reducible show SE _ _ _ (eD (.bl _))); exact @BY _ _ _ _ _)
     | ((with_reducible show SE _ _ _ (eD .ay)); exact @BZ _ _ _ _)
     | ((with_reducible show SE _ _ _ (eD (.str _))); exact @B0 _ _ _ _ _ _ Re)
     | ((with_reducible show SE _ _ _ (eD _)); exact @Ry _ _ _ _ V')
     | ((with_reducible show SE _ _ _ (ub _)); exact @Rz _ _ _ _ _ V' Z')
     | ((with_reducible show SE _ _ _ (cj _)); refine @tN _ _ _ _ _ _ ?_ Z')
     | ((with_reducible show SE _ _ _ (fD _)); refine @Cv _ _ _ _ _ ?_ Z')
     | ((with_reducible show SE _ _ _ gL); exact @Dv _ _ _)
     | ((with_reducible show SE _ _ _ (aE az _ _)); refine @Cf _ _ _ _ _ _ _ _ _ sN tK ?_ ?_ (λ_ _=>rfl))
     | ((with_reducible show SE _ _ _ (aE cp _ _)); refine @Cf _ _ _ _ _ _ _ _ _ (xN hq) xJ ?_ ?_ (λ_ _=>rfl))
     | ((with_reducible show SE _ _ _ (ah az _ _)); refine @tH _ _ _ _ _ _ _ _ _ sN tK (pv _) ?_ (λ_ _=>rfl))
     | ((with_reducible show SE _ _ _ (ah cp _ _)); refine @tH _ _ _ _ _ _ _ _ _ (xN hq) xJ (pv _) ?_ (λ_ _=>rfl))
     | ((with_reducible show SE _ _ _ (aE bH _ _)); refine @n_ _ _ _ _ _ _ _ _ _ _ Cj Ck ?_ ?_)
     | ((with_reducible show SE _ _ _ (ah bH _ _)); refine @qi _ _ _ _ _ _ _ _ _ _ Cj Ck (pv _) ?_)
     | ((with_reducible show SE _ _ _ (aE jP _ _)); refine @n_ _ _ _ _ _ _ _ _ _ _ Mn OT ?_ ?_)
     | ((with_reducible show SE _ _ _ (aE b9 _ _)); refine @n_ _ _ _ _ _ _ _ _ _ _ Dt Du ?_ ?_)
     | ((with_reducible show SE _ _ _ (ah b9 _ _)); refine @qi _ _ _ _ _ _ _ _ _ _ Dt Du (pv _) ?_)
     | ((with_reducible show SE _ _ _ (aE dP _ _)); refine @n_ _ _ _ _ _ _ _ _ _ _ AN Cn ?_ ?_)
     | ((with_reducible show SE _ _ _ (ah dP _ _)); refine @qi _ _ _ _ _ _ _ _ _ _ AN Cn (pv _) ?_)
     | ((with_reducible show SE _ _ _ (aE eM _ _)); refine @n_ _ _ _ _ _ _ _ _ _ _ AM Cm ?_ ?_)
     | ((with_reducible show SE _ _ _ (ah eM _ _)); refine @qi _ _ _ _ _ _ _ _ _ _ AM Cm (pv _) ?_)
     | ((with_reducible show SE _ _ _ (aE tJ _ _)); refine @n_ _ _ _ _ _ _ _ _ _ _ Mp OV ?_ ?_)
     | ((with_reducible show SE _ _ _ (ah wQ _ _)); refine @tG _ _ _ _ _ _ _ _ _ _ OW gW (pv _) ?_ (h9 _))
     | ((with_reducible show SE _ _ _ (ah iS _ _)); refine @tG _ _ _ _ _ _ _ _ _ _ Co Cp (pv _) ?_ (h9 _))
     | ((with_reducible show SE _ _ _ (aE oj _ _)); refine @og _ _ _ _ _ _ _ _ _ _ Cr gW ?_ ?_ (h9 _))
     | ((with_reducible show SE _ _ _ (aR cN _)); refine @Cw _ _ _ _ _ _ rfl T.oP ?_ V')
     | ((with_reducible show SE _ _ _ (aR iT _)); refine @O2 _ _ _ _ _ _ rfl T.rm ?_ V')
     | ((with_reducible show SE _ _ _ (aR jh _)); refine @O5 _ _ _ _ _ _ rfl rfl T.qW ?_ V')
     | ((with_reducible show SE _ _ _ (aR cW _)); refine @DJ _ _ _ _ _ _ rfl rfl T.oM ?_ V')
     | ((with_reducible show SE _ _ _ (aR mM _)); refine @O3 _ _ _ _ _ _ rfl T.oO ?_ V')
     | ((with_reducible show SE _ _ _ (aR (dQ _) _)); refine @CI _ _ _ _ _ _ _ _ _ _ ?_ Re V' V' V' V')
     | ((with_reducible show SE _ _ _ (aR kH _)); refine @Sn _ _ _ _ _ _ _ ?_ Ot)
     | ((with_reducible show SE _ _ _ (qo _ _)); refine @O6 _ _ _ _ _ _ _ _ rfl rfl T.qZ ?_ ?_ V' V' V')
     | ((with_reducible show SE _ _ _ (qq _ _ _)); refine @Pg _ _ _ _ _ _ _ _ _ _ ?_ ?_ ?_)
     | ((with_reducible show SE _ _ _ (jT _ _ _)); refine @Pj _ _ _ _ _ _ _ _ _ _ (pv _) ?_ ?_)
     | ((with_reducible show SE _ _ _ (cV _ _ _ _ _)); refine @C3 _ _ _ _ _ _ _ _ _ _ _ _ _ rfl (xu rfl rfl) ?_ (λl s0 H0 ex=>?_) (λl s0 H0 ex=>?_) (λl s0 H0 ex=>?_) (xr cD rfl) P')
     | ((with_reducible show SE _ _ _ (ao _ _)); first | refine @xp _ _ _ _ _ _ _ _ _ _ _ (by assumption) xq (hr.mono Z') rfl ?_ rfl Z' V' V' | refine VH (by assumption) ft xq (hr.mono Z') rfl ?_ rfl)
     | ((with_reducible show SE _ _ _ (iU "bool" _)); refine @wW _ _ _ _ _ _ _ _ _ T.ty_bool rfl T.nC rfl T.qX boot_bool ?_ Z' Z' V' V')
     | ((with_reducible show SE _ _ _ (iU "str" _)); refine @wW _ _ _ _ _ _ _ _ _ T.ty_str rfl T.nC rfl T.rj boot_str ?_ Z' Z' V' V')
     | ((with_reducible show SE _ _ _ (gG _ _)); refine @OO _ _ _ _ _ _ _ _ ?_ ?_)
     | (refine @se_one _ _ _ _ _ _ ?_))
   | ((with_reducible show ST _ _ _ _); first
     | ((with_reducible show ST _ _ _ (aI (aE nA _ _))); refine @mL _ _ _ _ _ _ _ _ _ _ FA gW ?_ ?_ (h9 _))
     | ((with_reducible show ST _ _ _ (aI (ah cR _ _))); refine @wN _ _ _ _ _ _ _ _ _ _ uS gW (pv _) ?_ (h9 _))
     | ((with_reducible show ST _ _ _ (aI (aE cR _ _))); refine @mL _ _ _ _ _ _ _ _ _ _ uS gW ?_ ?_ (h9 _))
     | ((with_reducible show ST _ _ _ (aI (ah iS _ _))); refine @wN _ _ _ _ _ _ _ _ _ _ Co Cp (pv _) ?_ (h9 _))
     | ((with_reducible show ST _ _ _ (aI (aE oj _ _))); refine @mL _ _ _ _ _ _ _ _ _ _ Cr gW ?_ ?_ (h9 _))
     | ((with_reducible show ST _ _ _ (aI (ah jR _ _))); refine @wN _ _ _ _ _ _ _ _ _ _ tL gW (pv _) ?_ (h9 _))
     | ((with_reducible show ST _ _ _ (aI (aE (eF true) _ _))); refine @mL _ _ _ _ _ _ _ _ _ _ (xH hq) (qE true) ?_ ?_ rfl)
     | ((with_reducible show ST _ _ _ (aI (aE (eF false) _ _))); refine @mL _ _ _ _ _ _ _ _ _ _ (DK hq) (qE false) ?_ ?_ rfl)
     | ((with_reducible show ST _ _ _ (aI (aE (dZ false) _ _))); refine @mL _ _ _ _ _ _ _ _ _ _ AQ DU ?_ ?_ rfl)
     | ((with_reducible show ST _ _ _ (aI (eChain _ _ _ _ _))); refine @st_chain _ _ _ _ _ _ _ _ _ _ _ _ _ _ _ tL tL gW gW ?_ ?_ ?_ Pi)
     | ((with_reducible show ST _ _ _ (aI _)); refine @OG _ _ _ _ ?_ P')
     | ((with_reducible show ST _ _ _ (fA _)); refine @OM _ _ _ _ _ ?_)
     | (refine @OL _ _ _ _ ?_))
   | ((with_reducible show SI _ _ _ _ _); first
     | ((with_reducible show SI _ _ _ _ (j6 _)); refine XN ?_)
     | ((with_reducible show SI _ _ _ _ (ng _)); exact Vo (pv _))
     | ((with_reducible show SI _ _ _ _ (kL _)); refine @S4 _ _ _ _ _ _ _ _ _ rfl T.oN ?_ V')
     | ((with_reducible show SI _ _ _ _ (i3 _)); refine @Sf _ _ _ _ _ _ _ _ _ rfl T.oN ?_ V')
     | ((with_reducible show SI _ _ _ _ (bM _)); refine @Dn _ _ _ _ _ ?_)
     | ((with_reducible show SI _ _ _ _ (dz _)); refine @PQ _ _ _ _ _ _ _ rfl T.q_ ?_ V'))
   | ((with_reducible show SS _ _ _ _); first
     | ((with_reducible show SS _ _ _ (oJ _ _ _)); refine Xv hq (pv _) ?_ ?_)
     | ((with_reducible show SS _ _ _ (eO _ _ _)); refine @DZ _ _ _ _ _ _ _ _ _ _ hq (pv _) ?_ ?_ V')
     | ((with_reducible show SS _ _ _ (gZ _ _)); exact @Sr _ _ _ _ _ _ cD (pv _))
     | ((with_reducible show SS _ _ _ (nh _ _ _)); exact Vs cD jx rfl eQ (pv _) rfl eQ)
     | ((with_reducible show SS _ _ _ (j3 _ _ _)); refine V3 (pv _) ?_ ?_ ⟨rfl,rfl,rfl,rfl⟩)
     | ((with_reducible show SS _ _ _ (bA _)); refine @wX _ _ _ _ _ ?_)
     | ((with_reducible show SS _ _ _ (cx _ _ _)); refine @Pp _ _ _ _ _ _ _ _ _ ?_ ?_ ?_)
     | ((with_reducible show SS _ _ _ (ak (cV _ _ _ _ _) (ae _ _))); refine @Q_ _ _ _ _ _ _ _ _ _ _ _ _ _ _ _ _ _ _ cD rfl (xu rfl rfl) jx rfl rfl ?_ (λl s0 H0 ex=>?_) (λl s0 H0 ex=>?_) (λl s0 H0 ex=>?_) (xr cD rfl) V' P')
     | ((with_reducible show SS _ _ _ (ak _ (ae _ _))); refine @qu _ _ _ _ _ _ _ _ _ cD jx rfl eQ ?_ rfl eQ)
     | ((with_reducible show SS _ _ _ (ak _ _)); refine @Pz _ _ _ _ _ _ _ ?_ ?_ V' V' V')
     | ((with_reducible show SS _ _ _ (bx _ _ _)); refine @PR _ _ _ _ _ _ _ _ _ PassesOwn.never rfl ?_ ?_ ?_ P')
     | ((with_reducible show SS _ _ _ (eW _ _)); refine @RC _ _ _ _ _ _ _ _ _ (pv _) ?_ V' V' V' V' V')
     | ((with_reducible show SS _ _ _ (kC _ _ _)); refine @PH _ _ _ _ _ _ _ _ _ _ (pv _) ?_ ?_ P' V' V' V')
     | ((with_reducible show SS _ _ _ jU); exact @Po _ _ _)
     | ((with_reducible show SS _ _ _ (du _)); refine @RB _ _ _ _ _ ?_ V'))
   | ((with_reducible show fT _ _ _ _); first
     | ((with_reducible show fT _ _ _ cC); exact Pn)
     | ((with_reducible show fT _ _ _ (aq _ _)); refine @oq _ _ _ _ _ _ ?_ ?_)
     | (refine @tS _ _ _ _ ?_))
   | ((with_reducible show SB _ _ _ _); first
     | ((with_reducible show SB _ _ _ (aj _)); exact @n9 _ _ _ _ (pv _))
     | ((with_reducible show SB _ _ _ (aw _)); refine @wF _ _ _ _ ?_))
   | ((with_reducible show SA _ _ _ _); first
     | ((with_reducible show SA _ _ _ bG); exact @tM _ _)
     | ((with_reducible show SA _ _ _ (aT _ _)); refine @qA _ _ _ _ _ _ ?_ ?_ V'))
   | ((with_reducible show SX _ _ _ _); first
     | ((with_reducible show SX _ _ _ []); exact @xk _ _)
     | ((with_reducible show SX _ _ _ (.io _ :: _)); refine @Rv _ _ _ _ _ _ (pv _) ?_ V')
     | ((with_reducible show SX _ _ _ (.val _ :: _)); refine @qB _ _ _ _ _ _ ?_ ?_ V'))
   | ((with_reducible show SO _ _ _ _); first
     | ((with_reducible show SO _ _ _ qp); exact @Pe _ _)
     | ((with_reducible show SO _ _ _ (gY _)); refine @Pf _ _ _ _ ?_))
   | ((with_reducible show SG _ _ _ _); first
     | ((with_reducible show SG _ _ _ (ae _ _)); exact @Pt _ _ _ _ _ _ cD jx rfl eQ eQ)
     | ((with_reducible show SG _ _ _ (a_ _ _)); refine @Py _ _ _ _ _ _ _ rfl ?_ V' V'))
   | ((with_reducible show mN _ _ _ _); first
     | ((with_reducible show mN _ _ _ ba); exact @Pw _ _)
     | ((with_reducible show mN _ _ _ (aA _ _)); refine @Px _ _ _ _ _ _ ?_ ?_ V'))
   | ((with_reducible show lL _ _ _ _ _); first
     | ((with_reducible show lL _ _ _ _ (ae _ _)); exact @xa _ _ _ _ _ _ _ cD jx rfl eQ eQ Z')
     | ((with_reducible show lL _ _ _ _ (a_ _ _)); refine @CS _ _ _ _ _ _ _ _ rfl ?_ V' V'))
   | ((with_reducible show mP _ _ _ _ _); first
     | ((with_reducible show mP _ _ _ _ ba); exact @CQ _ _ _)
     | ((with_reducible show mP _ _ _ _ (aA _ _)); refine @xb _ _ _ _ _ _ _ ?_ ?_ V'))
   | ((with_reducible show SW _ _ _ _); first
     | ((with_reducible show SW _ _ _ (gF _ _)); refine @OK _ _ _ _ _ _ _ _ ?_ ?_)
     | ((with_reducible show SW _ _ _ (kz _ _)); refine @OJ _ _ _ _ _ _ _ _ ?_ ?_)
     | (first | refine @OI _ _ _ _ _ ?_ | refine @OH _ _ _ _ _ ?_))
   | ((with_reducible show ou _ _ _ _); first
     | ((with_reducible show ou _ _ _ bW); exact @CP _ _)
     | (refine @P1 _ _ _ _ ?_))
))
section
variable {P:Wk} {w:Wn} {K:W4} {mg:Str->Option Value} {base h:Heap} {x:Str} {st:Stmt} {N:List Str} {n k:Nat} {np:List Nat} {fb:DS} {G:DF}
theorem cT(Y:K.In h)(Z:h.Ns Wv mg)(d:bb K x st)(hG:G=bf np N.length fb:=by rfl)(hn:(N.take n).length=n:=by rfl)(S:f_ N (N.take n) (bw st):=by exact⟨rfl,rfl,rfl,Re,rfl,Re,Re⟩)
  (hb:∀ {f fd},dH K x x st f fd->Binds K fd (N.take n) []:=by intro f fd F; first | exact S6 F λ_ _ _ _ _ _ _=>rfl | exact um F λ_ _ _ _ _ _ _ _=>rfl | exact Ee F λ_ _ _ _ _ _ _ _ _=>rfl | exact S7 F λ_ _ _ _ _ _ _ _ _ _=>rfl | exact S8 F λ_ _ _ _ _ _ _ _ _ _ _=>rfl | exact bd6 F λ_ _ _ _ _ _ _ _ _ _ _ _=>rfl)
  (dJ:∀ (f:Addr) (c:Fc) (aN:Value) (A:Wr) (outer:List Env) (s:W2) (H:Hp) (E:XK),bY k (A.deeper (JA x (bw st) s.heap.objs.size f aN))->Np c np->N.Nodup->fT (fz de P w K mg base N x (bw st) f aN A outer s H E).f6 c (dM st) fb:=by
  intro f c aN A outer s H E hr cD jx;have hq:=mU hr;infer_instance):aX P w K mg base (k + 1) x n G:=by
 obtain⟨f,fd,F,m⟩:=uk Y Z d;subst hG;have:=Rb F m (hb F) S (λc aN A outer s H E hr cD=>dJ f c aN A outer s H E hr cD S.nd) λss y h=>oA h
 rwa [hn] at this
end
section
variable {P:Wk} {w:Wn} {K:W4} {mg:Str->Option Value} {base h:Heap} (T:Txt K mg) (Y:K.In h) (Z:h.Ns Wv mg)
include T Y Z
theorem XY (d:bb K "_law_cell_at" FC):aX P w K mg base 1 "_law_cell_at" 2 oQ:=cT (N:=["script","k"]) Y Z d
theorem XZ (d:bb K "_law_pen_of" FD):aX P w K mg base 1 "_law_pen_of" 1 oR:=cT (N:=["cell","left"]) Y Z d
theorem X0 (d:bb K "_law_next" FE):aX P w K mg base 1 "_law_next" 1 oS:=cT (N:=["seed"]) Y Z d
theorem X1 (d:bb K "_law_draw" FF) (GI:aX P w K mg base 1 "_law_next" 1 oS):aX P w K mg base 2 "_law_draw" 2 fI:=cT (N:=["pen","many","found"]) Y Z d
theorem X2 (d:bb K "_law_rule_by" FG) (uV:aX P w K mg base 2 "_law_draw" 2 fI):aX P w K mg base 3 "_law_rule_by" 2 nD:=cT (N:=["pen","most","letters","high","wide","start","tiles","alike","blocks","tile","rows","row","signs","block","column"]) Y Z d
theorem X3 (d:bb K "_law_tiles_of" FH):aX P w K mg base 1 "_law_tiles_of" 1 oU:=cT (N:=["rule","tile","block"]) Y Z d
theorem X4 (d:bb K "refuse_no_tile" FI):aX P w K mg base 1 "refuse_no_tile" 2 eR:=cT (N:=["rule","thing"]) Y Z d
theorem X5 (d:bb K "tiles_grown" FJ):aX P w K mg base 1 "tiles_grown" 2 jv:=cT (N:=["text_of","tiles","tile"]) Y Z d
end
theorem X6 {K:W4} (F:dH K "walked" "walked" yF f fd) (hm:mg "walked" = some (.ref f)) (hb:Binds K fd ["first","step"] []) (T:Txt K mg):yq P w K mg base 2 "walked" 4 uK :=
 ⟨f,fd,_,_,_,["first","step","number_of","here"],rfl,hm,F.kp,hb,rfl,VG F uT rfl (λc aN A outer s H E fa Fn hr cD yp=>by
  have hq:=mU hr;refine(oq ?_ ?_)
  ·exact(@qu _ _ _ _ _ _ ([]) (2) _ cD uT.nd rfl eQ Dv rfl eQ)
  refine(oq ?_ ?_)
  ·exact(@qu _ _ _ _ _ _ ([]) (3) _ cD uT.nd rfl eQ (jg (pv 0)) rfl eQ)
  refine(oq ?_ ?_)
  ·refine(PX 1000000 (λh1 h2=>Mb PassesOwn.never h1 h2) ?_ ?_)
   ·exact(mL (xH hq) (qE true) (jg (pv 3)) (n9 (pv 2)) rfl)
   ·refine(oq ?_ ?_)
    ·exact(DZ hq (pv 2) (jg (pv 3)) (Cw rfl T.oP (n9 (pv 2)) V') V')
    refine(tS ?_);exact(@qu _ _ _ _ _ _ ([]) (3) _ cD uT.nd rfl eQ (VB yp (pv 1) (jg (pv 3))) rfl eQ)
  refine(tS ?_);refine(wX ?_);exact(tN (qA (Vz rfl rfl T.qY (n9 (pv 2))) (qA (tH (xN hq) xJ (pv 2) (n9 (pv 3)) (λ_ _=>rfl)) tM V') V') Z'))⟩
theorem X7 {K:W4} {e_ rE:Addr} (F:dH K "tile_sets" "tile_sets" j7 f fd) (hm:mg "tile_sets" = some (.ref f)) (hb:Binds K fd ["rule","tile"] []) (T:Txt K mg) (X8:∃ oc od kV doc pm an ct eB,K.lookup f=some ⟨oc,od,.func (Qf "tile_sets" "tile_sets" (gR j7) (dM j7) (bw j7) .none kV doc pm an (.ref rE) ct),eB⟩) (dT:JN K rE e_=true) (gT:Wv≠e_) (tT:base.BuiltinsAt mg e_) (uW:aX P w K mg base 1 "tiles_grown" 2 jv) (yS:yq P w K mg base 2 "walked" 4 uK):l0 P w K mg base [(e_,kT,kU)] 4 "tile_sets" 2 rA :=
 yx (np:=[]) (fb:=yJ) F hm hb uU (λc aN A outer s H E hr cD ft jm=>by
  have hq:=mU hr;refine(oq ?_ ?_)
  ·exact(@qu _ _ _ _ _ _ ([]) (2) _ cD uU.nd rfl eQ (DJ rfl rfl T.oM (wF (@C3 _ _ ([3,4]) _ _ _ _ _ _ _ _ _ _ rfl (xu rfl rfl) (Dn (tH sN tK (pv 0) (wF wG) (λ_ _=>rfl))) (λl s0 H0 ex=>(CS rfl (xb (@xa _ _ _ _ ([]) (3) _ cD uU.nd rfl eQ eQ Z') (xb (@xa _ _ _ _ ([]) (4) _ cD uU.nd rfl eQ eQ Z') CQ V') V') V' V')) (λl s0 H0 ex=>CP) (λl s0 H0 ex=>(tN (qA (jg (pv 3)) (qA (@xp _ _ _ _ _ (1) _ _ _ _ _ uW Gg (hr.mono Z') rfl (qB (Ec (λc=>(jg (pv 3))) (λc=>(CI [] (n9 (pv 4)) Re V' V' V' V'))) (qB (jg (pv 3)) xk V') V') rfl Z' V' V') tM V') V') Z')) (xr cD rfl) P')) V') rfl eQ)
  refine(tS ?_);refine(wX ?_);exact(VL (P:=e_) (kl:=1) (kw:=2) (fr:=["text_of"]) (js:=[2]) (p:="tiles") yS VY ft W7 (hr.mono Z') Z' rfl (jg (pv 1)) (λ_=>rfl) rfl rfl (VZ jm X8) dT gT tT (VI (S9 rfl)) VJ rfl (λi x j e1 e2=>by rcases i with _ | i; (cases e1; cases e2; exact⟨rfl,rfl,_,rfl⟩); cases e1) (λ_ _ _ _=>rfl) (λc fa cd A outer s H hr hp=>by have hq:=mU hr; exact(@xp _ _ _ _ _ (1) _ _ _ _ _ uW Gg (hr.mono Z') rfl (qB (jg (pv 1)) (qB (jg (pv 0)) xk V') V') rfl Z' V' V')))) λss y h=>oA h
section
variable {P:Wk} {w:Wn} {K:W4} {mg:Str->Option Value} {base h:Heap} (T:Txt K mg) (Y:K.In h) (Z:h.Ns Wv mg)
include T Y Z
theorem X9 (d:bb K "rule_tiles" FK):aX P w K mg base 1 "rule_tiles" 1 jw:=cT (N:=["rule","tile","block"]) Y Z d
end
theorem X_ {K:W4} {e_:Addr} (F:dH K "comes_after" "comes_after" yG f fd) (hm:mg "comes_after" = some (.ref f)) (hb:Binds K fd ["rule","tile"] []) (T:Txt K mg) (ka:aX P w K mg base 1 "refuse_no_tile" 2 eR) (GJ:l0 P w K mg base [(e_,kT,kU)] 4 "tile_sets" 2 rA) (uX:aX P w K mg base 1 "rule_tiles" 1 jw):l0 P w K mg base [(e_,kT,kU)] 5 "comes_after" 2 nE :=
 yx (np:=[]) (fb:=yL) F hm hb Gh (λc aN A outer s H E hr cD ft jm=>by
  have hq:=mU hr;have jx:=Gh.nd;infer_instance) λss y h=>oA h
section
variable {P:Wk} {w:Wn} {K:W4} {mg:Str->Option Value} {base h:Heap} (T:Txt K mg) (Y:K.In h) (Z:h.Ns Wv mg)
include T Y Z
theorem Ya (d:bb K "whole_from" FL):aX P w K mg base 1 "whole_from" 2 nF:=cT (N:=["thing","least"]) Y Z d
theorem Yb (d:bb K "whole_within" FN) (GK:aX P w K mg base 1 "whole_from" 2 nF):aX P w K mg base 2 "whole_within" 3 gm:=cT (N:=["thing","least","most"]) Y Z d
theorem Yc (d:bb K "refuse_growings" FO) (pf:aX P w K mg base 2 "whole_within" 3 gm):aX P w K mg base 3 "refuse_growings" 1 kW:=cT (N:=["growings"]) Y Z d
theorem Yd (d:bb K "grown_places" FP):aX P w K mg base 1 "grown_places" 4 oV:=cT (N:=["rule","place_of","tall","broad","grown","tile","block","places","i","tiles","j","part","row","column"]) Y Z d
theorem Ye (d:bb K "first_far" FQ) (ka:aX P w K mg base 1 "refuse_no_tile" 2 eR) (uY:aX P w K mg base 3 "refuse_growings" 1 kW) (GO:aX P w K mg base 1 "grown_places" 4 oV):aX P w K mg base 4 "first_far" 4 g9:=cT (N:=["rule","tile","growings","other","place_of","tall","broad","growing"]) Y Z d
end
theorem Yf {K:W4} {e_:Addr} (F:dH K "_law_comes_right" "_law_comes_right" yH f fd) (hm:mg "_law_comes_right" = some (.ref f)) (hb:Binds K fd ["rule","tile","other"] []) (T:Txt K mg) (GQ:l0 P w K mg base [(e_,kT,kU)] 5 "comes_after" 2 nE) (uZ:aX P w K mg base 4 "first_far" 4 g9):l0 P w K mg base [(e_,kT,kU)] 6 "_law_comes_right" 3 oW :=
 yx (np:=[]) (fb:=yO) F hm hb Gm (λc aN A outer s H E hr cD ft jm=>by
  have hq:=mU hr;have jx:=Gm.nd;infer_instance) λss y h=>oA h
section
variable {P:Wk} {w:Wn} {K:W4} {mg:Str->Option Value} {base h:Heap} (T:Txt K mg) (Y:K.In h) (Z:h.Ns Wv mg)
include T Y Z
theorem Yg (d:bb K "_law_count" FR):aX P w K mg base 1 "_law_count" 2 j8:=cT (N:=["pairs","tile"]) Y Z d
theorem Yh (d:bb K "parts_of_blocks" FU):aX P w K mg base 1 "parts_of_blocks" 1 oX:=cT (N:=["rule","parts_of","tile","block","text","part"]) Y Z d
theorem Yi (d:bb K "counts_listed" FV) (uX:aX P w K mg base 1 "rule_tiles" 1 jw):aX P w K mg base 2 "counts_listed" 2 j9:=cT (N:=["rule","many_of","tile"]) Y Z d
theorem Yj (d:bb K "tile_counts" FW) (ka:aX P w K mg base 1 "refuse_no_tile" 2 eR) (GU:aX P w K mg base 1 "parts_of_blocks" 1 oX) (u0:aX P w K mg base 2 "counts_listed" 2 j9):aX P w K mg base 3 "tile_counts" 3 nG:=cT (N:=["rule","tile","growings","parts_of","many_of","growing","grown","ahead","many","part","often"]) Y Z d
theorem Yk (d:bb K "grown_size" FX):aX P w K mg base 1 "grown_size" 3 gq:=cT (N:=["size","factor","often","growing"]) Y Z d
theorem Yl (d:bb K "refuse_place" FY) (pf:aX P w K mg base 2 "whole_within" 3 gm) (u3:aX P w K mg base 1 "grown_size" 3 gq):aX P w K mg base 3 "refuse_place" 4 oY:=cT (N:=["rule","growings","row","column"]) Y Z d
theorem Ym (d:bb K "digits_far" FZ) (uY:aX P w K mg base 3 "refuse_growings" 1 kW) (GV:aX P w K mg base 3 "refuse_place" 4 oY):aX P w K mg base 4 "digits_far" 4 oZ:=cT (N:=["rule","growings","row","column","high","wide","blocks","digits","growing"]) Y Z d
theorem Yn (d:bb K "line_far" F1) (ka:aX P w K mg base 1 "refuse_no_tile" 2 eR) (GY:aX P w K mg base 4 "digits_far" 4 oZ):aX P w K mg base 5 "line_far" 5 o_:=cT (N:=["rule","tile","growings","row","column","block_of","line","i","j"]) Y Z d
theorem Yo (d:bb K "tile_far" F2) (GZ:aX P w K mg base 5 "line_far" 5 o_):aX P w K mg base 6 "tile_far" 5 nH:=cT (N:=["rule","tile","growings","row","column"]) Y Z d
theorem Yp (d:bb K "_law_power" F3):aX P w K mg base 1 "_law_power" 2 nJ:=cT (N:=["number","often","found","turn"]) Y Z d
theorem Yq (d:bb K "held_grown" F4):aX P w K mg base 1 "held_grown" 4 pb:=cT (N:=["block_of","held","down","right","grown","key","many","all_rows","all_columns","tile","i","tiles","j","part","place"]) Y Z d
theorem Yr (d:bb K "counts_within" F5) (ka:aX P w K mg base 1 "refuse_no_tile" 2 eR) (pf:aX P w K mg base 2 "whole_within" 3 gm) (u0:aX P w K mg base 2 "counts_listed" 2 j9) (u3:aX P w K mg base 1 "grown_size" 3 gq) (G0:aX P w K mg base 1 "held_grown" 4 pb):aX P w K mg base 3 "counts_within" 5 j_:=cT (N:=["rule","tile","growings","rows","columns","tall","broad","block_of","held","growing","key","many"]) Y Z d
theorem Ys (d:bb K "_law_right" F6) (uZ:aX P w K mg base 4 "first_far" 4 g9) (G1:aX P w K mg base 1 "_law_count" 2 j8) (G2:aX P w K mg base 3 "tile_counts" 3 nG) (G3:aX P w K mg base 6 "tile_far" 5 nH) (G4:aX P w K mg base 1 "_law_power" 2 nJ) (G5:aX P w K mg base 3 "counts_within" 5 j_):aX P w K mg base 7 "_law_right" 4 pe:=cT (N:=["rule","tile","growings","other","found","every","row","column","wide","ahead","line","inside"]) Y Z d
end
theorem Yt {K:W4} {e_:Addr} (F:dH K "law" "law" kS f fd) (T:Txt K mg) (G6:aX P w K mg base 1 "_law_cell_at" 2 oQ) (G7:aX P w K mg base 1 "_law_pen_of" 1 oR) (uV:aX P w K mg base 2 "_law_draw" 2 fI) (G8:aX P w K mg base 3 "_law_rule_by" 2 nD) (G9:aX P w K mg base 1 "_law_tiles_of" 1 oU) (G_:l0 P w K mg base [(e_,kT,kU)] 6 "_law_comes_right" 3 oW) (Hb:aX P w K mg base 7 "_law_right" 4 pe):iM P w K mg base de 8 f fd ["script"] (nr [(e_,kT,kU)] 1 rC) :=
 E1 (np:=[]) (fb:=yR) F GH (λc aN A outer s H E hr cD ft jm=>by
  have hq:=mU hr;have jx:=GH.nd;infer_instance) λss y h=>oA h
theorem all_mk {l:PySem.W.OpenLaw} {w:Wn} {K:W4} {h:Heap} {mg:Str->Option Value} {fa:Addr} (X:K.In h) (G:h.Ns Wv mg) (yn:mg "law" = some (.ref fa))
  (d0:bb K "_law_cell_at" FC)
  (d1:bb K "_law_pen_of" FD)
  (d2:bb K "_law_next" FE)
  (d3:bb K "_law_draw" FF)
  (d4:bb K "_law_rule_by" FG)
  (d5:bb K "_law_tiles_of" FH)
  (d6:bb K "refuse_no_tile" FI)
  (d7:bb K "tiles_grown" FJ)
  (d8:bb K "walked" yF)
  (a9:nsIn K Wv "tile_sets" = some (some (.ref f9)))
  (l9:K.lookup f9=some ⟨oc9,od9,.func (Qf "tile_sets" "tile_sets" (gR j7) (dM j7) (bw j7) .none kV9 dc9 pm9 an9 (.ref rE) ct9),sl9⟩)
  (c9:codeIn K (.ref rE) "tile_sets" = true)
  (k9:keepIn K (.ref f9)=true)
  (dT:JN K rE e_=true)
  (gT:(Wv == e_)=false)
  (yT:bb K "rule_tiles" FK)
  (yU:bb K "comes_after" yG)
  (yV:bb K "whole_from" FL)
  (yW:bb K "whole_within" FN)
  (yX:bb K "refuse_growings" FO)
  (yY:bb K "grown_places" FP)
  (yZ:bb K "first_far" FQ)
  (y6:bb K "_law_comes_right" yH)
  (y8:bb K "_law_count" FR)
  (y9:bb K "parts_of_blocks" FU)
  (y_:bb K "counts_listed" FV)
  (zb:bb K "tile_counts" FW)
  (zc:bb K "grown_size" FX)
  (zd:bb K "refuse_place" FY)
  (ze:bb K "digits_far" FZ)
  (zf:bb K "line_far" F1)
  (zg:bb K "tile_far" F2)
  (zh:bb K "_law_power" F3)
  (zj:bb K "held_grown" F4)
  (zk:bb K "counts_within" F5)
  (zm:bb K "_law_right" F6)
  (zo:nsIn K Wv "law" = some (some (.ref f31)))
  (zq:K.lookup f31=some ⟨oc31,od31,.func (Qf "law" "law" (gR kS) (dM kS) (bw kS) .none kV31 dc31 pm31 an31 cd31 ct31),sl31⟩)
  (zr:codeIn K cd31 "law" = true)
  (zt:keepIn K (.ref f31)=true)
  (qW:nsIn K Wv "all" = some none)
  (qX:nsIn K Wv "bool" = some none)
  (oM:nsIn K Wv "dict" = some none)
  (oN:nsIn K Wv "enumerate" = some none)
  (oO:nsIn K Wv "int" = some none)
  (nC:nsIn K Wv "isinstance" = some none)
  (oP:nsIn K Wv "len" = some none)
  (qY:nsIn K Wv "list" = some none)
  (qZ:nsIn K Wv "max" = some none)
  (q0:nsIn K Wv "min" = some none)
  (q_:nsIn K Wv "range" = some none)
  (rg:nsIn K Wv "set" = some none)
  (rh:nsIn K Wv "sorted" = some none)
  (rj:nsIn K Wv "str" = some none)
  (rm:nsIn K Wv "tuple" = some none)
  (rn:nsIn K Wv "MOST_GROWINGS" = some (some (.int 60 t_MOST_GROWINGS)))
  : (∃ c,JN K c e_=true)/\∃ fd:Q7,(∀ (s:W2) (v:Value),BindsTo s fd ⟨[v],[]⟩ [("script",v)])/\∀ base:Heap,K.In base->base.Ns Wv mg->base.BuiltinsAt mg e_->iM l.prog w K mg base de 8 fa fd ["script"] (nr [(e_,kT,kU)] 1 rC):=by
 have e:=yn.symm.trans (mg_of X G zo)
 cases e;have T:Txt K mg:=⟨WU X G qW,WU X G qX,WU X G oM,WU X G oN,WU X G oO,WU X G nC,WU X G oP,WU X G qY,WU X G qZ,WU X G q0,WU X G q_,WU X G rg,WU X G rh,WU X G rj,WU X G rm,Rq,Rp,Rr,⟨_,mg_of X G rn⟩⟩
 obtain⟨f8,fd8,F8,m8⟩:=uk X G d8;have F9:=wo (st:=j7) l9 c9 k9;have m9:=mg_of X G a9;obtain⟨f11,fd11,F11,m11⟩:=uk X G yU;obtain⟨f17,fd17,F17,m17⟩:=uk X G y6;have Yu:=wo (st:=kS) zq zr zt;refine⟨⟨_,dT⟩,Qf "law" "law" (gR kS) (dM kS) (bw kS) .none kV31 dc31 pm31 an31 cd31 ct31,λs v=>.of_eq rfl,λbase _ _ tT=>?_⟩;have G6:=XY (P:=l.prog) (w:=w) (base:=base) T X G d0;have G7:=XZ (P:=l.prog) (w:=w) (base:=base) T X G d1;have GI:=X0 (P:=l.prog) (w:=w) (base:=base) T X G d2;have uV:=X1 T X G d3 GI;have G8:=X2 T X G d4 uV;have G9:=X3 (P:=l.prog) (w:=w) (base:=base) T X G d5;have ka:=X4 (P:=l.prog) (w:=w) (base:=base) T X G d6;have uW:=X5 (P:=l.prog) (w:=w) (base:=base) T X G d7;have yS:=X6 (P:=l.prog) (w:=w) (base:=base) F8 m8 (um F8 λ_ _ _ _ _ _ _ _=>rfl) T;have GJ:=X7 F9 m9 (um F9 λ_ _ _ _ _ _ _ _=>rfl) T ⟨_,_,_,_,_,_,_,_,l9⟩ dT (λz=>by rw[z] at gT; simp at gT) tT uW yS;have uX:=X9 (P:=l.prog) (w:=w) (base:=base) T X G yT;have GQ:=X_ F11 m11 (um F11 λ_ _ _ _ _ _ _ _=>rfl) T ka GJ uX;have GK:=Ya (P:=l.prog) (w:=w) (base:=base) T X G yV;have pf:=Yb T X G yW GK;have uY:=Yc T X G yX pf;have GO:=Yd (P:=l.prog) (w:=w) (base:=base) T X G yY;have uZ:=Ye T X G yZ ka uY GO;have G_:=Yf F17 m17 (Ee F17 λ_ _ _ _ _ _ _ _ _=>rfl) T GQ uZ;have G1:=Yg (P:=l.prog) (w:=w) (base:=base) T X G y8;have GU:=Yh (P:=l.prog) (w:=w) (base:=base) T X G y9;have u0:=Yi T X G y_ uX;have G2:=Yj T X G zb ka GU u0;have u3:=Yk (P:=l.prog) (w:=w) (base:=base) T X G zc;have GV:=Yl T X G zd pf u3;have GY:=Ym T X G ze uY GV;have GZ:=Yn T X G zf ka GY;have G3:=Yo T X G zg GZ;have G4:=Yp (P:=l.prog) (w:=w) (base:=base) T X G zh;have G0:=Yq (P:=l.prog) (w:=w) (base:=base) T X G zj;have G5:=Yr T X G zk ka pf u0 u3 G0;have Hb:=Ys T X G zm uZ G1 G2 G3 G4 G5;exact Yt Yu T G6 G7 uV G8 G9 G_ Hb
open PySem (sizeLine)
abbrev Rt(G:DF)(a:List S)(v:S):Prop:=G a=some (v,a)
noncomputable abbrev pS(d:D):Option S:=some (.pure d)
noncomputable abbrev pO(d:D):Option S:=some (.own d)
theorem fW(f:DE)(δ:Dl):bM f δ=(f δ).bind λr δ1=>match r.d with
 | .lst ds=>.ok ds δ1
 | .tup ds=>.ok ds δ1
 | .str x=>.ok (x.map λn=>.str [n]) δ1
 | _=>.stuck:=id rfl
def nx(s:Int):Int:=(((s + 7919) % 2147483647) * ((s + 7919) % 2147483647) + 48271 * ((s + 7919) % 2147483647) + 12345) % 2147483629
theorem Yv(s:Int):Rt oS [.pure (.int s)] (.pure (.int (nx s))):=by
 unfold oS bf Ga eN;have h1:=Int.emod_nonneg (s + 7919) (b:=2147483647) Z';have h2:=Int.emod_lt_of_pos (s + 7919) (b:=2147483647) Z';have c1:jQ ((s + 7919) % 2147483647) ((s + 7919) % 2147483647)=true:=by unfold jQ; simp; lia
 have c2:jQ 48271 ((s + 7919) % 2147483647)=true:=by unfold jQ; simp
 simp[bO,bc,ak,ah,bu,aj,bH,dP,eV,b9,qk,c1,c2,bP,bJ];rfl
def dC(d:D):Prop:=∃ l f s:Int,d = .lst [.int l,.int f,.int s]/\0<=l
theorem u4(hp:dC d)(m:Nat)(h0:0 < m)(h1:m < 1073741824):∃ (r:Nat) (d':D),fI [.own d,.pure (.int m)]=some (.pure (.int r),[.own d',.pure (.int m)])/\r < m/\dC d':=by
 obtain⟨l,f,s,rfl,hl⟩:=hp;have hm:(0:Int) < (m:Int):=by lia
 have hd:il l m=true:=by unfold il; simp; lia
 unfold fI bf Gb eN;by_cases hf:f=1
 ·subst hf;have e1:=Int.emod_nonneg l (b:=(m:Int)) Y';have e2:=Int.emod_lt_of_pos l hm;refine⟨(l % (m:Int)).toNat,.lst [.int (l / m),.int 1,.int s],?_,Y',⟨_,_,_,rfl,Int.ediv_nonneg hl Y'⟩⟩;simp[bO,bc,ak,ah,bu,aj,aa,az,cR,fB,oE,uy,ux,aI,dP,eM,eV,h0,hd,kC,iW,putL,bP,bJ,ib];lia
 ·have e1:=Int.emod_nonneg (nx (nx s + 7) / 64) (b:=(m:Int)) Y';have e2:=Int.emod_lt_of_pos (nx (nx s + 7) / 64) hm;refine⟨(nx (nx s + 7) / 64 % (m:Int)).toNat,.lst [.int l,.int f,.int (nx (nx s + 7))],?_,Y',⟨_,_,_,rfl,hl⟩⟩;simp[bO,bc,ak,ah,bu,aj,aa,az,cR,fB,oE,uy,ux,aI,dP,eM,eV,h0,hd,kC,iW,putL,bP,bJ,ib,hf,ao,aZ,bC,bB,bz,bh,Yv,bH,aS,il];lia
theorem Yw(c:Int):∃ d,Rt oR [.pure (.int c)] (.own d)/\dC d:=by
 unfold oR bf F_ eN;refine⟨.lst [.int (if 0 - c > c then 0 - c else c),.int (if decide (1000000000000000000<=(if 0 - c > c then 0 - c else c)) then 1 else 0),.int ((if 0 - c > c then 0 - c else c) % 1000003)],?_,⟨_,_,_,rfl,by split <;> lia⟩⟩;simp[bO,bc,ak,ah,bu,aj,aa,wV,jP,eV,mM,wQ,fB,tJ,wO,dP,bP,bJ]
theorem Yx(ns:List Int):∃ c:Int,Rt oQ [.pure (.lst (ns.map .int)),.pure (.int 0)] (.pure (.int c)):=by
 unfold oQ bf F7 eN
 cases ns with
 | nil=>exact⟨0,by simp[bO,bc,ah,bu,aj,iS,fB,aI,cN,bP,bJ]⟩
 | cons n r=>exact⟨n,by
   have:(0:Int) < (r.length:Int) + 1:=by lia
   simp[bO,bc,ah,bu,aj,iS,fB,aI,cN,bP,bJ,az,oE,this]⟩
theorem u5(hp:dC d)(m:Nat)(i:Int)(hi:i=m)(h0:0 < m)(h1:m < 1073741824):∃ (r:Nat) (d':D),fI [.own d,.pure (.int i)]=some (.pure (.int r),[.own d',.pure (.int i)])/\r < m/\dC d':=by
 subst hi;exact u4 hp m h0 h1
def l_:Tx:=[97,98,99,100,101,102,103,104,105,106,107,108,109,110,111,112,113,114,115,116,117,118,119,120,121,122]
def kb(s n:Nat):Tx:=(Wd n).map λk=>97 + s + k
theorem Yy:∀ s,s < 26->∀ r,r < 26->s + 1 + r<=26->(l_.drop s).take (1 + r)=kb s (1 + r):=by decide
theorem Yz{s r:Nat}(h:s + 1 + r<=26):cu l_ (some (s:Int)) (some ((s:Int) + 1 + (r:Int)))=kb s (1 + r):=by
 rw[<- Yy s Y' r Y' h];have h1:¬ (s:Int) < 0:=by lia
 have h2:¬ (s:Int) + 1 + (r:Int) < 0:=by lia
 have h3:((s:Int) + 1 + (r:Int)).toNat=s + 1 + r:=by lia
 have hl:l_.length=26:=rfl;unfold cu HT.aQ;simp only[h1,h2,if_false,h3,hl];have e1:min ((s:Int).toNat) 26=s:=by lia
 have e2:min (s + 1 + r) 26 - min ((s:Int).toNat) 26=1 + r:=by lia
 rw[e1] at e2 ⊢;rw[e2]
theorem YA(s n:Nat):(kb s n).length=n:=by simp[kb]
theorem YB(s n:Nat):(kb s n).Pairwise (· < ·):=by
 unfold kb;rw[QF];exact(List.pairwise_lt_range (n:=n)).imp λh=>by lia
theorem YC(h:s + n<=26)(ht:t ∈ kb s n):97<=t/\t<=122:=by
 simp[kb] at ht;obtain⟨k,hk,rfl⟩:=ht;lia
def fJ(pd:D)(m h w s:Nat)(ts:Tx)(al:Nat)(blocks:List D)(o9 aW bE bo bK:Option S):Dl :=
 [pO pd,pS (.int m),pS (.str l_),pS (.int h),pS (.int w),pS (.int s),pS (.str ts),pS (.int (1 + (al:Int))),pO (.lst blocks),o9,aW,bE,bo,bK,none]
abbrev u6:DE:=ah az 6 (aw (aE eM (ao fI [.io 0,.val (aR cN (aj 6))]) (aj 7)))
theorem YD(rF:0 < ts.length)(eS:ts.length<=26)(lM:al < 3)(hw:w<=4)(jy:dC pd)(blocks:List D)(o9 aW bE bo bK:Option S) :
  ∃ (x:Tx) (cY:D),cK [14] (ae [0] 14) bW u6 (bI 0 w) (fJ pd m h w s ts al blocks o9 aW bE bo bK) [] = .ok (x.map λn=>.str [n]) (fJ cY m h w s ts al blocks o9 aW bE bo bK)/\x.length=w/\(∀ n ∈ x,n ∈ ts)/\dC cY:=by
 obtain⟨xs,δ',e,⟨cY,hpd',rfl⟩,hn,hf⟩:=x9 (cs:=[14]) (g:=ae [0] 14) (t:=bW) (el:=u6) (λδ=>∃ pd,dC pd/\δ=fJ pd m h w s ts al blocks o9 aW bE bo bK)
  (λ_ x=>∃ n,n ∈ ts/\x = .str [n]) (bI 0 w) _ [] ⟨pd,jy,rfl⟩ (by rw[dA]; simp; lia) (λd hd δ ⟨pd,jy,e⟩=>by
   subst e;obtain⟨i,hi,rfl⟩:=Vc hd;obtain⟨r,d',e,l,p⟩:=u4 jy ts.length rF Y';have hd:eM (.int r) (.int (1 + (al:Int)))=pS (.int ((r / (1 + al):Nat):Int)):=by
    have hc:il (r:Int) (1 + (al:Int))=true:=by unfold il; simp; lia
    show(if il (r:Int) (1 + (al:Int)) then _ else _)=_;rw[if_pos hc];simp
   have aP:r / (1 + al) < ts.length:=Nat.lt_of_le_of_lt (Nat.div_le_self _ _) l;refine⟨_,_,.pure (.str [ts.getD (r / (1 + al)) 0]),(fJ d' m h w s ts al blocks o9 aW bE bo bK).set 14 (pS (.int i)),rfl,rfl,?_,⟨d',p,rfl⟩,⟨_,?_,rfl⟩⟩
   ·have hx:=EB ts (r / (1 + al)) aP Y';simp only[fJ,u6,ah,bu,UP,UQ,List.set_cons_succ,List.set_cons_zero,JX,List.getElem?_cons_zero,ao,aZ,bB,UH,List.all_nil,bC,Bool.and_true,if_true,bz,US,aj,jY,UU,T_,U_ ts Y',List.contains_nil,Bool.not_false,bh,Wz,e,aS,UT,hd,hx]
   ·simp[aP])
 obtain⟨x,rfl,hx⟩:=EJ (P:=λn=>n ∈ ts) (Vd hn hf λd x _ h=>h);exact⟨x,cY,by simpa using e,by simp_all,hx,hpd'⟩
abbrev u7:DS:=(aq (ak (cV [14] (dz (aa 4)) (ae [0] 14) bW u6) (ae [0] 12)) (eW 10 (aR (dQ []) (aj 12))))
theorem YE(rF:0 < ts.length)(eS:ts.length<=26)(lM:al < 3)(hw:w<=4)(hh:h<=4)(jy:dC pd)(blocks:List D)(o9 bE bo bK:Option S) :
  ∃ (fl:List Tx) (cY:D) (kX jz:Option S),forL (ae [0] 11) u7 (bI 0 h) (fJ pd m h w s ts al blocks o9 (pO (.lst [])) bE bo bK) = .ok .next (fJ cY m h w s ts al blocks o9 (pO (.lst (fl.map .str))) kX jz bK)/\fl.length=h/\(∀ r ∈ fl,r.length=w/\∀ n ∈ r,n ∈ ts)/\dC cY:=by
 obtain⟨δ',e3,cY,fl,kX,jz,hpd',iO,fQ,rfl⟩:=jZ (g:=ae [0] 11) (b:=u7) (λk δ=>∃ (pd:D) (fl:List Tx) (bE bo:Option S),dC pd/\fl.length=k/\(∀ r ∈ fl,r.length=w/\∀ n ∈ r,n ∈ ts)/\δ=fJ pd m h w s ts al blocks o9 (pO (.lst (fl.map .str))) bE bo bK)
  (bI 0 h) 0 _ ⟨pd,[],bE,bo,jy,rfl,U',rfl⟩ (λi d δ hd ⟨pd,fl,bE,bo,jy,iO,fQ,e⟩=>by
   subst e;obtain⟨hi,rfl⟩:=uA hd;obtain⟨x,cY,e,hx,hxt,hpd'⟩:=YD (m:=m) (h:=h) (s:=s) rF eS lM hw jy blocks o9 (pO (.lst (fl.map .str))) (pS (.int i)) bo bK;have hz:fl.length < Wb:=by rw[dA]; lia
   have ej:=UZ x Y';refine⟨_,fJ cY m h w s ts al blocks o9 (pO (.lst ((fl ++ [x]).map .str))) (pS (.int i)) (pO (.lst (x.map λn=>.str [n]))) bK,rfl,?_,⟨cY,fl ++ [x],_,_,hpd',by simp[iO],?_,rfl⟩⟩
   ·unfold fJ at e ⊢;simp[u7,ak,aa,jo w Y',bC,bj];rw[e];simp[cJ,eW,iW,aj,ej,putL,hz]
   ·intro r hr;rcases Ja.mp hr with hr | hr
    ·exact fQ r hr
    ·simp at hr; subst hr; exact⟨hx,hxt⟩)
 exact⟨fl,cY,kX,jz,e3,by simp_all,fQ,hpd'⟩
abbrev zu:DS:=(aq (ak (fD bG) (ae [0] 10)) (aq (bx (dz (aa 3)) (ae [0] 11) u7) (eW 8 (cj (aT (aa 9) (aT (aR iT (aj 10)) bG))))))
theorem YF(rF:0 < ts.length)(eS:ts.length<=26)(lM:al < 3)(hw:w<=4)(hh:h<=4)(jy:dC pd) :
  ∃ (bs:List (Nat×List Tx)) (cY:D) (o9 aW bE bo:Option S),forL (ae [0] 9) zu (ts.map λn=>.str [n]) (fJ pd m h w s ts al [] none none none none none) = .ok .next (fJ cY m h w s ts al (bs.map cX) o9 aW bE bo none)/\bs.map (·.1)=ts/\(∀ b ∈ bs,b.2.length=h/\∀ r ∈ b.2,r.length=w/\∀ n ∈ r,n ∈ ts)/\dC cY:=by
 obtain⟨δ',e3,cY,bs,o9,aW,bE,bo,hpd',l5,fQ,rfl⟩:=jZ (g:=ae [0] 9) (b:=zu) (λk δ=>∃ (pd:D) (bs:List (Nat×List Tx)) (o9 aW bE bo:Option S),dC pd/\bs.map (·.1)=ts.take k/\(∀ b ∈ bs,b.2.length=h/\∀ r ∈ b.2,r.length=w/\∀ n ∈ r,n ∈ ts)/\δ=fJ pd m h w s ts al (bs.map cX) o9 aW bE bo none)
  (ts.map λn=>D.str [n]) 0 _ ⟨pd,[],none,none,none,none,jy,rfl,U',rfl⟩ (λi d δ hd ⟨pd,bs,o9,aW,bE,bo,jy,l5,fQ,e⟩=>by
   subst e;rw[Wp,Ww] at hd;obtain⟨n,hn,rfl⟩:=hd;have hi:i < ts.length:=(W6.mp hn).1;rw[Q3] at l5;have nK:bs.length=i:=by have:=congrArg QP l5; simp at this; lia
   obtain⟨fl,cY,kX,jz,e,iO,hflt,hpd'⟩:=YE (m:=m) (h:=h) (s:=s) rF eS lM hw hh jy (bs.map cX) (pS (.str [n])) bE bo none;have hz:bs.length < Wb:=by rw[dA]; lia
   refine⟨_,fJ cY m h w s ts al ((bs ++ [(n,fl)]).map cX) (pS (.str [n])) (pO (.lst (fl.map .str))) kX jz none,rfl,?_,⟨cY,bs ++ [(n,fl)],_,_,_,_,hpd',?_,?_,rfl⟩⟩
   ·unfold fJ at e ⊢;simp[zu,ak,aa,jo h Y'];rw[e];simp[eW,iW,aa,aj,iT,putL,hz,cX]
   ·rw[Q3,Q6,l5,List.take_add_one,hn];simp
   ·intro b hb;rcases Ja.mp hb with hb | hb
    ·exact fQ b hb
    ·simp at hb; subst hb; exact⟨iO,hflt⟩)
 refine⟨bs,cY,o9,aW,bE,bo,e3,?_,fQ,hpd'⟩;rw[l5,Jq];simp
theorem YG:∀ r:Nat,r < 10->∃ h w:Nat,az (.lst [.tup [.int 2,.int 2],.tup [.int 1,.int 2],.tup [.int 2,.int 1],.tup [.int 2,.int 2],.tup [.int 1,.int 3],.tup [.int 2,.int 3],.tup [.int 3,.int 1],.tup [.int 3,.int 2],.tup [.int 4,.int 4],.tup [.int 2,.int 2]]) (.int r)=pS (.tup [.int h,.int w])/\0 < h/\h<=4/\0 < w/\w<=4/\2 < h + w:=by
 intro r hr;have:r=0\/r=1\/r=2\/r=3\/r=4\/r=5\/r=6\/r=7\/r=8\/r=9:=by lia
 rcases this with rfl | rfl | rfl | rfl | rfl | rfl | rfl | rfl | rfl | rfl
 ·exact⟨2,2,rfl,Z'⟩
 ·exact⟨1,2,rfl,Z'⟩
 ·exact⟨2,1,rfl,Z'⟩
 ·exact⟨2,2,rfl,Z'⟩
 ·exact⟨1,3,rfl,Z'⟩
 ·exact⟨2,3,rfl,Z'⟩
 ·exact⟨3,1,rfl,Z'⟩
 ·exact⟨3,2,rfl,Z'⟩
 ·exact⟨4,4,rfl,Z'⟩
 ·exact⟨2,2,rfl,Z'⟩
theorem Hc(i j:Int):jP (.int i) (.int j)=pS (.int (i - j)):=rfl
theorem YH(x:Tx)(h:x.length<=1000):gH (some 1) none (.str x)=pS (.str x.tail):=by
 unfold gH;have hz:Wb=16777216:=rfl;simp only;rw[if_pos Y'];have:cu x (some 1) none=x.tail:=by
  unfold cu HT.aQ;simp
  cases x with
  | nil=>simp
  | cons a r=>simp
 rw[this]
theorem YI(ds:List D):gH (some 1) none (.tup ds)=pS (.tup ds.tail):=by
 have:cu ds (some 1) none=ds.tail:=by
  unfold cu HT.aQ;simp
  cases ds with
  | nil=>simp
  | cons a r=>simp
 show some (S.pure (.tup (cu ds (some 1) none)))=_;rw[this]
theorem YJ(x y:Tx)(h:x.length + y.length<=1000):bH (.str x) (.str y)=pS (.str (x ++ y)):=by
 have hz:Wb=16777216:=rfl;simp only[bH];rw[if_pos Y']
theorem YK(x y:List D)(h:x.length + y.length<=1000):bH (.tup x) (.tup y)=pS (.tup (x ++ y)):=by
 have hz:Wb=16777216:=rfl;simp only[bH];rw[if_pos Y']
def pj:List (Nat×List Tx)->List (Nat×List Tx)
 | (n,r :: q) :: bs=>(n,(n :: r.tail) :: q) :: bs
 | bs=>bs
theorem Hd(bs:List (Nat×List Tx)):(pj bs).map (·.1)=bs.map (·.1):=by
 match bs with
 | []=>rfl
 | (n,[]) :: bs=>rfl
 | (n,r :: q) :: bs=>rfl
theorem YL(R:aG h w bs):aG h w (pj bs):=by
 have hf:=Hd bs;have hl:(pj bs).length=bs.length:=by have:=congrArg QP hf; simpa using this
 refine⟨R.h0,R.h1,R.w0,R.w1,R.hw,by rw[hl]; exact R.n0,by rw[hl]; exact R.n1,by rw[hf]; exact R.up,λb hb=>?_,λb hb=>?_⟩
 ·have:b.1 ∈ (pj bs).map (·.1):=WK hb;rw[hf] at this;obtain⟨b',cz,e⟩:=WD.mp this;rw[<- e]; exact R.Ve b' cz
 ·rw[hf];match bs,R,hb with
  | [],R,hb=>have:=R.n0; simp at this
  | (n,[]) :: bs,R,hb=>exact R.aV b hb
  | (n,r :: q) :: bs,R,hb =>
   rcases Wq.mp hb with e | hb
   ·subst e;have:=R.aV _ W7;refine⟨this.1,λx hx=>?_⟩;rcases Wq.mp hx with e | hx
    ·subst e;have h1:=this.2 r W7;refine⟨by have:=R.w0; simp; lia,λk hk=>?_⟩;grind[List.mem_of_mem_tail]
    ·exact this.2 x (W9 _ hx)
   ·exact R.aV b (W9 _ hb)
theorem YM(hp:dC d)(m:Nat)(YN:0 < m)(hm1:m<=26):∃ (h w:Nat) (bs:List (Nat×List Tx)) (d':D),
  nD [.own d,.pure (.int m)]=some (.pure (aC h w bs),[.own d',.pure (.int m)])/\aG h w bs/\bs.length<=m/\dC d':=by
 obtain⟨r1,d1,e1,l1,p1⟩:=u5 hp 10 10 rfl Z' Z';obtain⟨h,w,hx,h0,h1,w0,w1,hw⟩:=YG r1 l1;obtain⟨s,d2,e2,l2,p2⟩:=u5 p1 (27 - m) (27 - (m:Int)) Y' Y' Y';obtain⟨r3,d3,e3,l3,p3⟩:=u4 p2 m YN Y';obtain⟨al,d4,e4,l4,p4⟩:=u5 p3 3 3 rfl Z' Z';have hc:=Yz (s:=s) (r:=r3) Y';have hlen:=YA s (1 + r3);have fU:=YB s (1 + r3);have He:∀ t ∈ kb s (1 + r3),97<=t/\t<=122:=λt ht=>YC Y' ht
 generalize kb s (1 + r3)=ts at hc hlen fU He;obtain⟨bs,d5,o9,aW,bE,bo,e5,hfst,fQ,p5⟩:=YF (m:=m) (h:=h) (w:=w) (s:=s) (ts:=ts) (al:=al) Y' Y' l4 w1 h1 p4;obtain⟨r6,d6,e6,l6,p6⟩:=u5 p5 2 2 rfl Z' Z';have nK:bs.length=1 + r3:=by have:=congrArg QP hfst; simp at this; lia
 have R:aG h w bs:=⟨h0,h1,w0,w1,hw,Y',Y',by rw[hfst]; exact fU,λb hb=>He _ (by rw[<- hfst]; exact WK hb),λb hb=>by rw[hfst]; exact fQ b hb⟩
 have qx:gH (some (s:Int)) (some ((s:Int) + 1 + (r3:Int))) (.str l_)=pS (.str ts):=by rw[<- hc]; rfl
 have hsz:[some (S.own d4),pS (.int m),pS (.str l_),pS (.int h),pS (.int w),pS (.int s),pS (.str ts),pS (.int (1 + (al:Int))),pO (.lst []),none,none,none,none,none,none]=fJ d4 m h w s ts al [] none none none none none:=rfl;have YO:D.str [97,98,99,100,101,102,103,104,105,106,107,108,109,110,111,112,113,114,115,116,117,118,119,120,121,122] = .str l_:=rfl;generalize hG:nD [.own d,.pure (.int m)]=out;unfold nD bf Gd eN at hG;rw[YO] at hG;generalize l_=LT at *;generalize [D.tup [.int 2,.int 2],.tup [.int 1,.int 2],.tup [.int 2,.int 1],.tup [.int 2,.int 2],.tup [.int 1,.int 3],.tup [.int 2,.int 3],.tup [.int 3,.int 1],.tup [.int 3,.int 2],.tup [.int 4,.int 4],.tup [.int 2,.int 2]]=SZ at *;simp[bO,bc,ak,ao,aZ,bB,bC,bz,bh,e1,aS,hx,a_,aA,ba,Hc,aj,e2,jT,gY,aa,ah,bu,bH,e3,qx,e4,fW] at hG;simp only[hsz] at hG;rw[e5] at hG;clear e5;by_cases hr6:r6=0
 ·match bs,R,nK,hG,fQ with
  | [],R,nK,hG,fQ=>simp at nK; lia
  | (n,[]) :: q,R,nK,hG,fQ=>have:=(R.aV _ W7).1; simp at this; lia
  | (n,x :: fl) :: q,R,nK,hG,fQ =>
   have uw:=(R.aV _ W7).2 x W7;have iO:=(R.aV _ W7).1;simp only at uw iO;refine⟨h,w,pj ((n,x :: fl) :: q),d6,?_,YL R,?_,p6⟩
   ·have a1:bH (.str [n]) (.str x.tail)=pS (.str (n :: x.tail)):=YJ [n] x.tail R';have a2:bH (.tup [.str (n :: x.tail)]) (.tup (fl.map .str))=pS (.tup (.str (n :: x.tail) :: fl.map .str)):=YK [.str (n :: x.tail)] (fl.map .str) (by simp at iO ⊢; lia);have s1:=YH x Y';have s2:gH (some 1) none (bR (x :: fl))=pS (.tup (fl.map .str)):=YI ((x :: fl).map D.str);rw[<- hG];simp[fJ,aI,ao,aZ,bB,bC,bz,bh,e6,aS,hr6,cR,fB,ah,bu,aj,az,oE,a_,aA,ba,kC,iW,aa,jT,gY,s1,a1,s2,a2,ib,putL,cX,iT,bP,bJ,pj]
   ·have:=congrArg QP (Hd ((n,x :: fl) :: q));simp at this nK ⊢;lia
 ·refine⟨h,w,bs,d6,?_,R,Y',p6⟩;rw[<- hG];simp[fJ,aI,ao,aZ,bB,bC,bz,bh,e6,aS,hr6,cR,fB,aj,iT,bP,bJ,aa]
theorem Hf(nL:A->D)(mk:B->J->Dl)(f:B->A->B)(P:B->Prop)(Q:A->Prop)(hf:∀ x a,P x->Q a->P (f x a))(step:∀ x j a,P x->Q a->∃ δ1 j',g (.pure (nL a)) (mk x j)=some δ1/\b δ1 = .ok .next (mk (f x a) j')) :
  ∀ (as:List A) (x:B) (j:J),P x->(∀ a ∈ as,Q a)->∃ j',forL g b (as.map nL) (mk x j) = .ok .next (mk (as.foldl f x) j')/\P (as.foldl f x)
 | [],x,j,hp,_=>⟨j,rfl,hp⟩
 | a :: r,x,j,hp,hq=>by
  obtain⟨δ1,j',e1,e2⟩:=step x j a hp (hq a W7);obtain⟨j'',e3,h3⟩:=Hf nL mk f P Q hf step r (f x a) j' (hf x a hp (hq a W7)) (by grind);refine⟨j'',?_,h3⟩;rw[We];unfold forL;rw[e1];simp only[e2,jY,e3];rfl
theorem Hg(n:Nat):bI 0 n=(Wd n).map λk:Nat=>D.int (k:Int):=by simp[bI]
theorem rG(i j:Int)(h0:0<=j)(h1:j<=1000):b9 (.int i) (.int j)=pS (.int (i * j)):=by
 unfold b9 qk eV;have:jQ i j=true:=by unfold jQ; simp; lia
 grind
theorem Hh(r h:Nat)(h0:0 < h)(h1:h<=1000):dP (.int r) (.int h)=pS (.int ((r % h:Nat):Int)):=by
 simp only[dP,eV];rw[if_pos R'];simp
theorem Hi(r h:Nat)(h0:0 < h)(h1:h<=1000):eM (.int r) (.int h)=pS (.int ((r / h:Nat):Int)):=by
 have hc:il (r:Int) (h:Int)=true:=by unfold il; simp; lia
 show(if il (r:Int) (h:Int) then _ else _)=_;rw[if_pos hc];simp
theorem rH(i j:Int):jR (.int i) (.int j)=pS (.bl (decide (i<=j))):=rfl
theorem dS(np:List Nat)(n:Nat)(b:DS)(ss:List S):bf np n b ss=if bO np 0 ss then(match b (bc n ss) with
 | .ok fl δ=>(bP fl).bind λr=>(bJ 0 ss δ).map λaL=>(r,aL)
 | _=>none) else none:=rfl
theorem Hj(h:Nat):∀ (as:List Nat) (x:Nat),as.foldl (λx _=>x * h) x=x * h ^ as.length
 | [],x=>by simp
 | a :: r,x=>by rw[Qw,Hj h r,WA,WL,Um,WY h]
theorem Hk(h t:Nat)(h1:h<=1000)(t1:t<=1000):Rt gq [.pure (.int 1),.pure (.int h),.pure (.int t)] (.pure (.int ((h ^ t:Nat):Int))):=by
 rw[Rt,gq,dS,yQ];obtain⟨j',e,_⟩:=Hf (g:=ae [] 3) (b:=ak (ah b9 0 (aj 1)) (ae [] 0)) (λk:Nat=>D.int (k:Int)) (λ(x:Nat) (j:Option S)=>[pS (.int (x:Int)),pS (.int h),pS (.int t),j]) (λx _=>x * h) (λ_=>True) (λ_=>True) (by grind) (λx j a _ _=>⟨_,pS (.int a),rfl,by
  have:=rG x h Y' Y';simp[ak,ah,bu,aj,this]⟩) (Wd t) 1 none trivial (by grind)
 rw[Hj,JC,J8,<- Hg] at e;simp[bO,bc,aa,jo t Y'];simp only[Int.natCast_one] at e;rw[e];simp[aa,bP,bJ]
theorem YQ(i l:Int):Rt nF [.pure (.int i),.pure (.int l)] (.pure (.bl (decide (l<=i)))):=by
 rw[Rt,nF,dS,yM];simp[bO,bc,gG,oh,iU,ip,aj,aa,ah,bu,rH,bP,bJ]
theorem zv(i l m:Int)(h1:l<=i):Rt gm [.pure (.int i),.pure (.int l),.pure (.int m)] (.pure (.bl (decide (i<=m)))):=by
 rw[Rt,gm,dS,yN];have e:=YQ i l;simp[h1] at e;simp[bO,bc,gG,ao,aZ,bB,bC,bz,bh,e,aS,aj,aa,ah,bu,rH,bP,bJ]
theorem Hl(t:Nat)(h:t<=60):Rt kW [.pure (.int t)] (.pure .ay):=by
 rw[Rt,kW,dS,Gi];have e:=zv t 0 60 Y';have h':(t:Int)<=60:=by lia
 simp[h'] at e;simp[bO,bc,aI,ao,aZ,bB,bC,bz,bh,e,aS,aa,bP,bJ]
theorem fc(h w:Nat)(bs:List (Nat×List Tx)):az (aC h w bs) (.int 0)=pS (.int h)/\az (aC h w bs) (.int 1)=pS (.int w)/\az (aC h w bs) (.int 2)=pS (.tup (bs.map cX)):=by grind[az,oE,uy,ux]
theorem YR(GG GW:DF)(ru:D)(t r c h w A B:Int)(x0:az ru (.int 0)=pS (.int h))(x1:az ru (.int 1)=pS (.int w))
  (gh:Rt GG [.pure (.int 1),.pure (.int h),.pure (.int t)] (.pure (.int A))) (gw:Rt GG [.pure (.int 1),.pure (.int w),.pure (.int t)] (.pure (.int B)))
  (eh:Rt GW [.pure (.int r),.pure (.int 0),.pure (.int (A - 1))] (.pure (.bl true))) (ew:Rt GW [.pure (.int c),.pure (.int 0),.pure (.int (B - 1))] (.pure (.bl true))) :
  bf [] 4 (aq (cx (fA (aI (ao GW [.val (aa 2),.val (eD (.int 0)),.val (aE jP (ao GG [.val (eD (.int 1)),.val (ah az 0 (aw (eD (.int 0)))),.val (aa 1)]) (aw (eD (.int 1))))]))) jU cC) (cx (fA (aI (ao GW [.val (aa 3),.val (eD (.int 0)),.val (aE jP (ao GG [.val (eD (.int 1)),.val (ah az 0 (aw (eD (.int 1)))),.val (aa 1)]) (aw (eD (.int 1))))]))) jU cC)) [.pure ru,.pure (.int t),.pure (.int r),.pure (.int c)]=some (.pure .ay,[.pure ru,.pure (.int t),.pure (.int r),.pure (.int c)]):=by
 rw[dS];simp[bO,bc,aI,ao,aZ,bB,bC,bz,bh,aS,aa,ah,bu,x0,x1,gh,gw,Hc,eh,ew,aj,bP,bJ]
theorem YS{h w t r c:Nat}{bs:List (Nat×List Tx)}(R:aG h w bs)(ht:t<=60)(hr:r < h ^ t)(hc:c < w ^ t):Rt oY [.pure (aC h w bs),.pure (.int t),.pure (.int r),.pure (.int c)] (.pure .ay):=by
 have h1:=R.h1;have w1:=R.w1;have eh:=zv r 0 (((h ^ t:Nat):Int) - 1) Y';have ew:=zv c 0 (((w ^ t:Nat):Int) - 1) Y';rw[decide_eq_true Y'] at eh ew;rw[oY,Gr];exact YR gq gm _ _ _ _ _ _ _ _ (fc h w bs).1 (fc h w bs).2.1 (Hk h t Y' Y') (Hk w t Y' Y') eh ew
def b_(bs:List (Nat×List Tx)):D:=.au (bs.map λb=>(Sum.inr [b.1],bR b.2))
theorem Hm:∀ bs:List (Nat×List Tx),gj (bs.map cX)=some (bs.map λb=>(Sum.inr [b.1],bR b.2))
 | []=>rfl
 | b :: r=>by
  have:=Hm r;simp only[We];simp[gj,bD,this]
theorem rJ:∀ (kps acc:List (aB×D)),((acc ++ kps).map (·.1)).Nodup->mX kps acc=acc ++ kps
 | [],acc,_=>by simp[mX]
 | p :: r,acc,h=>by
  have hn:(acc.any λkv=>decide (kv.1=p.1))=false:=by grind
  have hp:putD acc p.1 p.2=acc ++ [p]:=by
   unfold putD;rw[hn];simp
  show mX r (putD acc p.1 p.2)=_;rw[hp,rJ r (acc ++ [p]) (by simpa using h)];simp
theorem u9(R:aG h w bs):cW (.tup (bs.map cX))=pO (b_ bs):=by
 unfold cW;simp only[Hm,WH,Wx];have hz:Wb=16777216:=rfl;rw[if_pos (by have:=R.n1; lia),rJ]
 ·rfl
 ·simp only[Qm,Wu];rw[QX,QF];have:=R.up;rw[QF] at this;exact this.imp λ{a b} m7=>by simp; lia
def aV(bs:List (Nat×List Tx))(n:Nat):List Tx:=((bs.find? λb=>decide (b.1=n)).map (·.2)).getD []
theorem gM(h:n ∈ bs.map (·.1)):∃ b ∈ bs,b.1=n/\(bs.find? λb=>decide (b.1=n))=some b/\aV bs n=b.2:=by
 cases e:bs.find? λb=>decide (b.1=n) with
 | none =>
  grind
 | some b =>
  have h1:=List.mem_of_find?_eq_some e;have h2:=List.find?_some e;refine⟨b,h1,by simpa using h2,rfl,?_⟩;unfold aV;rw[e];rfl
theorem Ho(bs:List (Nat×List Tx))(n:Nat):a0 (bs.map λb=>((Sum.inr [b.1]:aB),bR b.2)) (.inr [n])=(bs.find? λb=>decide (b.1=n)).map λb=>bR b.2:=by
 unfold a0;rw[Ue];simp[Function.comp_def]
theorem Hq(h:n ∈ bs.map (·.1)):cp (b_ bs) (.str [n])=pS (bR (aV bs n)):=by
 obtain⟨b,hb,_,e,e2⟩:=gM h;show((bD (.str [n])).bind λk=>(a0 (bs.map λb=>((Sum.inr [b.1]:aB),bR b.2)) k).map S.pure)=_;simp only[bD,WH,Ho,e,Wz,e2]
theorem Hr(h:n ∈ bs.map (·.1)):eF true (.str [n]) (b_ bs)=pS (.bl false):=by
 obtain⟨b,hb,_,e,e2⟩:=gM h;show((bD (.str [n])).map λk=>S.pure (.bl (if true then !(a0 (bs.map λb=>((Sum.inr [b.1]:aB),bR b.2)) k).isSome else(a0 (bs.map λb=>((Sum.inr [b.1]:aB),bR b.2)) k).isSome)))=_;simp only[bD,Wz,Ho,e,Wz];rfl
theorem YT(R:aG h w bs)(hn:n ∈ bs.map (·.1)):Rt eR [.pure (aC h w bs),.pure (.str [n])] (.pure .ay):=by
 obtain⟨x0,x1,x2⟩:=fc h w bs;have hd:=u9 R;have hi:=Hr hn;generalize aC h w bs=ru at *;generalize D.tup (bs.map cX)=bl at *;rw[Rt,eR,dS,yI];simp[bO,bc,aI,iU,ip,aj,aa,ah,bu,x2,hd,hi,bP,bJ]
def nt(bs:List (Nat×List Tx))(n i j:Nat):Nat:=((aV bs n).getD i []).getD j 0
theorem pk(R:aG h w bs)(hn:n ∈ bs.map (·.1))(hi:i < h)(hj:j < w) :
  nt bs n i j ∈ bs.map (·.1)/\az (bR (aV bs n)) (.int i)=pS (.str ((aV bs n).getD i []))/\az (.str ((aV bs n).getD i [])) (.int j)=pS (.str [nt bs n i j]):=by
 obtain⟨b,hb,_,_,e2⟩:=gM hn;have hB:=R.aV b hb;have h1:=R.h1;have w1:=R.w1;have df:i < b.2.length:=by lia
 have hm:b.2.getD i [] ∈ b.2:=by
  rw[Q8,Wc df];exact QY df
 have hr:=hB.2 _ hm;unfold nt;rw[e2];refine⟨hr.2 _ ?_,?_,?_⟩
 ·have zw:j < (b.2.getD i []).length:=by lia
  generalize b.2.getD i []=row at zw;rw[Q8,Wc zw];exact QY zw
 ·simp[az,m_,df]
 ·exact EB _ j Y' Y'
abbrev Ht:DS:=(aq (eW 7 (cj (aT (ah dP 2 (aj 4)) (aT (ah dP 3 (aj 5)) bG)))) (aq (ak (ah eM 2 (aj 4)) (ae [] 2)) (ak (ah eM 3 (aj 5)) (ae [] 3))))
abbrev Hu:DS:=(eW 6 (aE az (aE az (ah cp 5 (aw (ah az 6 (aw (aR kI (aw (eD (.int 1)))))))) (aj 7)) (aj 8)))
theorem rK(nL:A->D)(mk:B->J->Dl)(f:B->A->B)(P:Nat->B->Prop)(Q:A->Prop)(N:Nat)(step:∀ k x j a,k < N->P k x->Q a->P (k + 1) (f x a)/\∃ δ1 j',g (.pure (nL a)) (mk x j)=some δ1/\b δ1 = .ok .next (mk (f x a) j')) :
  ∀ (as:List A) (k:Nat) (x:B) (j:J),k + as.length<=N->P k x->(∀ a ∈ as,Q a)->∃ j',forL g b (as.map nL) (mk x j) = .ok .next (mk (as.foldl f x) j')/\P (k + as.length) (as.foldl f x)
 | [],k,x,j,_,hp,_=>⟨j,rfl,hp⟩
 | a :: r,k,x,j,hN,hp,hq=>by
  simp only[WA] at hN;obtain⟨uc,δ1,j',e1,e2⟩:=step k x j a Y' hp (hq a W7);obtain⟨j'',e3,h3⟩:=rK nL mk f P Q N step r (k + 1) (f x a) j' Y' uc (by grind);grind[forL,jY]
abbrev Pr:=Nat×Nat
abbrev rL(p:Pr):D:=.tup [.int p.1,.int p.2]
def eT(h w:Nat):Nat->Nat->Nat->List Pr
 | 0,_,_=>[]
 | t + 1,r,c=>(r % h,c % w) :: eT h w t (r / h) (c / w)
theorem Hv(h w:Nat):∀ t r c,(eT h w t r c).length=t
 | 0,_,_=>rfl
 | t + 1,r,c=>by simp[eT,Hv h w t]
theorem zy(h0:0 < h)(w0:0 < w):∀ t r c,∀ p ∈ eT h w t r c,p.1 < h/\p.2 < w
 | 0,_,_=>by simp[eT]
 | t + 1,r,c=>λp hp=>by
  rcases Wq.mp hp with e | hp
  ·subst e; exact⟨Jd _ h0,Jd _ w0⟩
  ·exact zy h0 w0 t _ _ p hp
abbrev u_:=List Pr×Nat×Nat
def rM(h w:Nat)(x:u_)(_:Nat):u_:=(x.1 ++ [(x.2.1 % h,x.2.2 % w)],x.2.1 / h,x.2.2 / w)
theorem Hw(h w:Nat):∀ (as:List Nat) (x:u_),(as.foldl (rM h w) x).1=x.1 ++ eT h w as.length x.2.1 x.2.2
 | [],x=>by simp[eT]
 | a :: r,x=>by rw[Qw,Hw h w r]; simp[rM,eT]
theorem YU(GG GP:DF)(bl:D)(h w t r c:Nat)(h0:0 < h)(h1:h<=4)(w0:0 < w)(w1:w<=4)(ht:t<=60)(gg:Rt GG [.pure (.int t)] (.pure .ay))(gp:Rt GP [.pure (.tup [.int h,.int w,bl]),.pure (.int t),.pure (.int r),.pure (.int c)] (.pure .ay)) :
  bf [] 9 (aq (du (ao GG [.val (aa 1)])) (aq (du (ao GP [.val (aa 0),.val (aa 1),.val (aa 2),.val (aa 3)])) (aq (ak (aa 0) (a_ 3 (aA (ae [] 4) (aA (ae [] 5) (aA (ae [] 6) ba))))) (aq (ak (fD bG) (ae [] 7)) (aq (bx (dz (aa 1)) (ae [] 8) Ht) (bA (aR kH (aj 7)))))))) [.pure (.tup [.int h,.int w,bl]),.pure (.int t),.pure (.int r),.pure (.int c)]=some (.own (.lst ((eT h w t r c).reverse.map rL)),[.pure (.tup [.int h,.int w,bl]),.pure (.int t),.pure (.int r),.pure (.int c)]):=by
 obtain⟨j',e,_⟩:=rK (g:=ae [] 8) (b:=Ht) (λk:Nat=>D.int (k:Int))
  (λ(x:u_) (j:Option S)=>[pS (.tup [.int h,.int w,bl]),pS (.int t),pS (.int (x.2.1:Int)),pS (.int (x.2.2:Int)),pS (.int h),pS (.int w),pS bl,pO (.lst (x.1.map rL)),j]) (rM h w) (λk x=>x.1.length=k) (λ_=>True) 1000
  (λk x j a hk hp _=>⟨by simp[rM,hp],_,pS (.int a),rfl,by
   have m1:=Hh x.2.1 h h0 Y';have m2:=Hh x.2.2 w w0 Y';have m3:=Hi x.2.1 h h0 Y';have m4:=Hi x.2.2 w w0 Y';have hz:x.1.length < Wb:=by rw[dA]; lia
   simp only[rM];simp[eW,iW,ah,bu,aj,m1,m2,putL,hz,ak,m3,m4]⟩) (Wd t) 0 ([],r,c) none R' rfl (by grind)
 have hx:=Hw h w (Wd t) ([],r,c);rw[JC,Qm] at hx;rw[hx,<- Hg] at e;generalize (eT h w t r c)=L at *;rw[dS];simp[bO,bc,ak,ao,aZ,bB,bC,bz,bh,gg,gp,aS,aa,a_,aA,ba,jo t Y'];simp only[U9] at e;rw[e];simp[aj,kH,qr,bP,bJ,List.map_reverse]
theorem YV{h w t r c:Nat}{bs:List (Nat×List Tx)}(R:aG h w bs)(ht:t<=60)(hr:r < h ^ t)(hc:c < w ^ t):Rt oZ [.pure (aC h w bs),.pure (.int t),.pure (.int r),.pure (.int c)] (.own (.lst ((eT h w t r c).reverse.map rL))):=by
 rw[oZ,Gs];exact YU kW oY _ h w t r c R.h0 R.h1 R.w0 R.w1 ht (Hl t ht) (YS R ht hr hc)
def jA(bs:List (Nat×List Tx))(acc:List Nat)(p:Pr):List Nat:=acc ++ [nt bs (acc.getLastD 0) p.1 p.2]
def line(bs:List (Nat×List Tx))(n:Nat)(ds:List Pr):List Nat:=ds.foldl (jA bs) [n]
abbrev fg(n:Nat):D:=.str [n]
theorem Hx(acc:List Nat)(h:0 < acc.length):az (.lst (acc.map fg)) (.int (-1))=pS (.str [acc.getLastD 0]):=by
 have:eE (acc.map fg) (-1)=some (.str [acc.getLastD 0]):=by
  unfold eE ib;rw[if_neg Y',if_pos R'];have e:(-1 + ((acc.map fg).length:Int)).toNat=acc.length - 1:=by simp; lia
  simp only[WH,e,Wp,List.getLastD_eq_getLast?,List.getLast?_eq_getElem?]
  cases hh:acc[acc.length - 1]? with
  | none=>rw[List.getElem?_eq_none_iff] at hh; lia
  | some v=>rfl
 grind[az]
theorem Hy{bs:List (Nat×List Tx)}{acc:List Nat}(h:0 < acc.length)(ha:∀ n ∈ acc,n ∈ bs.map (·.1)):acc.getLastD 0 ∈ bs.map (·.1):=by
 apply ha;rw[List.getLastD_eq_getLast?]
 cases hh:acc.getLast? with
 | none=>simp at hh; subst hh; simp at h
 | some v=>exact List.mem_of_getLast? hh
abbrev LP(bs:List (Nat×List Tx))(k:Nat)(acc:List Nat):Prop:=acc.length=k + 1/\∀ n ∈ acc,n ∈ bs.map (·.1)
theorem Hz{h w:Nat}{bs:List (Nat×List Tx)}(R:aG h w bs){k:Nat}{acc:List Nat}{p:Pr}(hp:LP bs k acc)(hq:p.1 < h/\p.2 < w):LP bs (k + 1) (jA bs acc p):=by
 refine⟨by simp[jA,hp.1],λn hn=>?_⟩;rcases Ja.mp hn with hn | hn
 ·exact hp.2 n hn
 ·rw[QM] at hn; subst hn
  exact(pk R (Hy Y' hp.2) hq.1 hq.2).1
theorem HA(R:aG h w bs):∀ (ds:List Pr) (k:Nat) (acc:List Nat),LP bs k acc->(∀ p ∈ ds,p.1 < h/\p.2 < w)->LP bs (k + ds.length) (ds.foldl (jA bs) acc)
 | [],k,acc,hp,_=>hp
 | p :: r,k,acc,hp,hq=>by
  have:=HA R r (k + 1) (jA bs acc p) (Hz R hp (hq p W7)) λb hb=>hq b (W9 _ hb)
  rw[WA,show k + (r.length + 1)=k + 1 + r.length by lia];exact this
theorem YW{h w:Nat}{bs:List (Nat×List Tx)}(R:aG h w bs){k:Nat}{acc:List Nat}{p:Pr}(hp:LP bs k acc)(hq:p.1 < h/\p.2 < w) :
  az (.lst (acc.map fg)) (.int (-1))=pS (.str [acc.getLastD 0])/\cp (b_ bs) (.str [acc.getLastD 0])=pS (bR (aV bs (acc.getLastD 0)))/\az (bR (aV bs (acc.getLastD 0))) (.int p.1)=pS (.str ((aV bs (acc.getLastD 0)).getD p.1 []))/\az (.str ((aV bs (acc.getLastD 0)).getD p.1 [])) (.int p.2)=pS (.str [nt bs (acc.getLastD 0) p.1 p.2]):=by
 have hl:0 < acc.length:=by have:=hp.1; lia
 have hm:=Hy hl hp.2;have hn:=pk R hm hq.1 hq.2;exact⟨Hx acc hl,Hq hm,hn.2.1,hn.2.2⟩
theorem YX(GR GD:DF){h w t r c n:Nat}{bs:List (Nat×List Tx)}(ru:D)(R:aG h w bs)(hn:n ∈ bs.map (·.1))(ht:t<=60)(ds:List Pr)(je:ds.length=t)(iy:∀ p ∈ ds,p.1 < h/\p.2 < w)(x2:az ru (.int 2)=pS (.tup (bs.map cX)))
  (gr:Rt GR [.pure ru,.pure (.str [n])] (.pure .ay)) (gd:Rt GD [.pure ru,.pure (.int t),.pure (.int r),.pure (.int c)] (.own (.lst (ds.map rL)))) :
  bf [] 9 (aq (du (ao GR [.val (aa 0),.val (aa 1)])) (aq (ak (aR cW (aw (ah az 0 (aw (eD (.int 2)))))) (ae [] 5)) (aq (ak (fD (aT (aa 1) bG)) (ae [] 6)) (aq (bx (bM (ao GD [.val (aa 0),.val (aa 2),.val (aa 3),.val (aa 4)])) (a_ 2 (aA (ae [] 7) (aA (ae [] 8) ba))) Hu) (gZ [] 6))))) [.pure ru,.pure (.str [n]),.pure (.int t),.pure (.int r),.pure (.int c)]=some (.own (.lst ((line bs n ds).map fg)),[.pure ru,.pure (.str [n]),.pure (.int t),.pure (.int r),.pure (.int c)]):=by
 have hd:=u9 R;obtain⟨j',e,_⟩:=rK (g:=(a_ 2 (aA (ae [] 7) (aA (ae [] 8) ba)))) (b:=Hu) rL
  (λ(x:List Nat) (j:Option S×Option S)=>[pS ru,pS (.str [n]),pS (.int t),pS (.int r),pS (.int c),pO (b_ bs),pO (.lst (x.map fg)),j.1,j.2]) (jA bs) (LP bs) (λp=>p.1 < h/\p.2 < w) 1000
  (λk x j p hk hp hq=>⟨Hz R hp hq,_,(pS (.int p.1),pS (.int p.2)),rfl,by
   obtain⟨y1,y2,y3,y4⟩:=YW R hp hq;have hz:x.length < Wb:=by rw[dA]; have:=hp.1; lia
   simp only[jA];generalize nt bs (x.getLastD 0) p.1 p.2=nx at *;generalize D.str ((aV bs (x.getLastD 0)).getD p.1 [])=dr at *;generalize bR (aV bs (x.getLastD 0))=db at *;generalize x.getLastD 0=xl at *;generalize b_ bs=dd at *;simp[eW,iW,ah,bu,aj,kI,y1,y2,y3,y4,putL,hz]⟩) ds 0 [n] (none,none) Y' ⟨rfl,by grind⟩ iy
 have hL:ds.foldl (jA bs) [n]=line bs n ds:=rfl;rw[hL] at e;generalize line bs n ds=L at *;generalize gi:b_ bs=dd at *;rw[dS];simp[bO,bc,ak,ao,aZ,bB,bC,bz,bh,gr,gd,aS,aa,ah,bu,aj,x2,hd,fW];simp only[We,U9] at e;rw[e];simp[gZ,bP,bJ]
theorem YY{h w t r c n:Nat}{bs:List (Nat×List Tx)}(R:aG h w bs)(hn:n ∈ bs.map (·.1))(ht:t<=60)(hr:r < h ^ t)(hc:c < w ^ t):Rt o_ [.pure (aC h w bs),.pure (.str [n]),.pure (.int t),.pure (.int r),.pure (.int c)] (.own (.lst ((line bs n (eT h w t r c).reverse).map fg))):=by
 rw[o_,Gu];exact YX eR oZ _ R hn ht (eT h w t r c).reverse (by simp[Hv]) (λp hp=>zy R.h0 R.w0 t r c p (List.mem_reverse.mp hp)) (fc h w bs).2.2 (YT R hn) (YV R ht hr hc)
theorem YZ(δ:Dl)(ds:List D)(hl:ds.length<=1000)(step:∀ d ∈ ds,∃ δ1 δ3,g (.pure d) δ=some δ1/\el δ1 = .ok (.pure (.bl true)) δ3/\bj cs δ3=δ):cK cs g bW el ds δ [] = .ok (ds.map λ_=>.bl true) δ:=by
 have:=UW (cs:=cs) (g:=g) (t:=bW) (el:=el) (λ_=>.bl true) δ ds [] (by rw[dA]; simp; lia) (λd hd=>by
  obtain⟨δ1,δ3,e1,e2,e3⟩:=step d hd;exact⟨δ1,δ1,.pure (.bl true),δ3,e1,rfl,e2,e3,rfl⟩)
 simpa using this
theorem Y0{h w t r c n:Nat}{bs:List (Nat×List Tx)}(R:aG h w bs)(hn:n ∈ bs.map (·.1))(ht:t<=60)(hr:r < h ^ t)(hc:c < w ^ t):Rt nH [.pure (aC h w bs),.pure (.str [n]),.pure (.int t),.pure (.int r),.pure (.int c)] (.pure (.str [(line bs n (eT h w t r c).reverse).getLastD 0])):=by
 have e:=YY R hn ht hr hc;have hl:=HA R (eT h w t r c).reverse 0 [n] ⟨rfl,by simpa using hn⟩ (λp hp=>zy R.h0 R.w0 t r c p (List.mem_reverse.mp hp));have hx:=Hx (line bs n (eT h w t r c).reverse) (by have:=hl.1; unfold line; lia);generalize line bs n (eT h w t r c).reverse=L at *;generalize aC h w bs=ru at *;rw[Rt,nH,dS,Gv];generalize o_=GL at *;generalize L.map fg=LD at *;simp[bO,bc,ao,aZ,bB,bC,bz,aa,bh,e,aS,kI,hx,bP,bJ]
theorem Y1(R:aG h w bs):Rt oU [.pure (aC h w bs)] (.own (.lst ((bs.map (·.1)).map fg))):=by
 have x2:=(fc h w bs).2.2;have hn:=R.n1;generalize aC h w bs=ru at *;have e:=j0 (cs:=[1,2]) (g:=(a_ 2 (aA (ae [] 1) (aA (ae [] 2) ba)))) (t:=bW) (el:=aa 1) cX (λb:Nat×List Tx=>fg b.1) [pS ru,none,none] bs [] (by rw[dA]; simp; lia) (λb hb=>⟨_,_,.pure (fg b.1),[pS ru,pS (fg b.1),pS (bR b.2)],rfl,rfl,rfl,rfl,rfl⟩);rw[Rt,oU,dS,Ge];simp[bO,bc,ah,bu,aj,x2,fW,bC,bj];rw[e];simp[cJ,bP,bJ,Function.comp_def]
theorem Y2(n:Nat):nA (.str [n]) (.str [n])=pS (.bl false):=by simp[nA,fB]
def fX(bs:List (Nat×List Tx))(l:Nat)(row:Tx):Tx:=(row.map λn=>(aV bs n).getD l []).flatten
def layR(h:Nat)(bs:List (Nat×List Tx))(row:Tx):List Tx:=(Wd h).map λl=>fX bs l row
def lay(h:Nat)(bs:List (Nat×List Tx))(fl:List Tx):List Tx:=fl.flatMap (layR h bs)
theorem HB(R:aG h w bs)(hn:n ∈ bs.map (·.1))(hl:l < h):((aV bs n).getD l []).length=w/\(∀ k ∈ (aV bs n).getD l [],k ∈ bs.map (·.1))/\az (bR (aV bs n)) (.int l)=pS (.str ((aV bs n).getD l [])):=by
 obtain⟨b,hb,_,_,e2⟩:=gM hn;have hB:=R.aV b hb;have df:l < b.2.length:=by lia
 have hm:b.2.getD l [] ∈ b.2:=by
  rw[Q8,Wc df];exact QY df
 have hr:=hB.2 _ hm;rw[e2];exact⟨hr.1,hr.2,by simp[az,m_,df]⟩
def fo(h w:Nat)(bs:List (Nat×List Tx))(n:Nat):Nat->Nat->Nat->Nat
 | 0,_,_=>n
 | t + 1,r,c=>nt bs (fo h w bs n t (r / h) (c / w)) (r % h) (c % w)
theorem HC(h w:Nat)(bs:List (Nat×List Tx))(n:Nat):∀ t r c,(line bs n (eT h w t r c).reverse).getLastD 0=fo h w bs n t r c
 | 0,r,c=>by simp[eT,line,fo]
 | t + 1,r,c=>by
  have ih:=HC h w bs n t (r / h) (c / w);unfold line at ih ⊢;rw[eT,List.reverse_cons,List.foldl_append];have hl:∀ (X:List Nat) (p:Pr),(jA bs X p).getLastD 0=nt bs (X.getLastD 0) p.1 p.2:=λX p=>by grind[jA]
  show(jA bs _ _).getLastD 0=_;rw[hl,ih];rfl
theorem zz(R:aG h w bs)(hn:n ∈ bs.map (·.1)):∀ t r c,fo h w bs n t r c ∈ bs.map (·.1)
 | 0,_,_=>hn
 | t + 1,r,c=>(pk R (zz R hn t _ _) (Jd _ R.h0) (Jd _ R.w0)).1
def i_(f:Nat->Nat->Nat)(A C:Nat):List Tx:=(Wd A).map λi=>(Wd C).map (f i)
theorem HD(a:Nat):∀ b,Wd (a + b)=Wd a ++ (Wd b).map (a + ·)
 | 0=>by simp
 | b + 1=>by
  rw[<- Nat.add_assoc,QU,HD a b,QU];simp
theorem zA(φ:Nat->Nat->α)(w0:0 < w):∀ C,(Wd C).flatMap (λj=>(Wd w).map (φ j))=(Wd (C * w)).map λb=>φ (b / w) (b % w)
 | 0=>by simp
 | C + 1=>by
  rw[QU,List.flatMap_append,zA φ w0 C,JO,HD,Q6];congr 1
  simp only[UE,List.flatMap_nil,Qb,Wu];refine WO λm hm=>?_
  have uC:m < w:=by simpa using hm
  simp only[Function.comp_def];rw[show(C * w + m) / w=C by rw[UM,Nat.add_mul_div_right _ _ w0,UJ uC,Q3],show(C * w + m) % w=m by rw[UM,Nat.add_mul_mod_self_right,Jm uC]]
theorem HE(R:aG h w bs)(hx:x ∈ bs.map (·.1))(hl:l < h):(aV bs x).getD l []=(Wd w).map (nt bs x l):=by
 have h1:=(HB R hx hl).1;apply Uh
 ·simpa using h1
 ·intro j h2 h3;rw[List.getElem_map,List.getElem_range];unfold nt;generalize (aV bs x).getD l []=row at *;simp[h2]
theorem Y3(R:aG h w bs)(f:Nat->Nat->Nat)(A C:Nat)(hf:∀ i j,f i j ∈ bs.map (·.1)):lay h bs (i_ f A C)=i_ (λa b=>nt bs (f (a / h) (b / w)) (a % h) (b % w)) (A * h) (C * w):=by
 have e1:∀ i l,l < h->fX bs l ((Wd C).map (f i))=(Wd (C * w)).map λb=>nt bs (f i (b / w)) l (b % w):=λi l hl=>by
  unfold fX;rw[Wu];have:(Wd C).map ((λn=>(aV bs n).getD l []) ∘ f i)=(Wd C).map λj=>(Wd w).map (nt bs (f i j) l):=WO λj _=>HE R (hf i j) hl
  rw[this,<- Ui,zA (λj m=>nt bs (f i j) l m) R.w0 C]
 have e2:∀ i,layR h bs ((Wd C).map (f i))=(Wd h).map λl=>(Wd (C * w)).map λb=>nt bs (f i (b / w)) l (b % w):=λi=>by
  unfold layR;exact WO λl hl=>e1 i l (by simpa using hl)
 unfold lay i_;rw[List.flatMap_map];have e3:(Wd A).flatMap (λi=>layR h bs ((Wd C).map (f i)))=(Wd A).flatMap λi=>(Wd h).map λl=>(Wd (C * w)).map λb=>nt bs (f i (b / w)) l (b % w):=by
  rw[Ui,Ui];congr 1
  exact WO λi _=>e2 i
 rw[e3,zA (λi l=>(Wd (C * w)).map λb=>nt bs (f i (b / w)) l (b % w)) R.h0 A]
def cG(h:Nat)(bs:List (Nat×List Tx))(fl:List Tx):Nat->List Tx
 | 0=>fl
 | k + 1=>lay h bs (cG h bs fl k)
theorem HF(R:aG h w bs)(hn:n ∈ bs.map (·.1)):∀ t,cG h bs [[n]] t=i_ (fo h w bs n t) (h ^ t) (w ^ t)
 | 0=>by simp[cG,i_,fo]
 | t + 1=>by
  rw[cG,HF R hn t,Y3 R _ _ _ (zz R hn t),WL,WL];rfl
structure rN(bs:List (Nat×List Tx))(R C:Nat)(fl:List Tx):Prop where
 rows:fl.length=R
 cols:∀ r ∈ fl,r.length=C
 tl:∀ r ∈ fl,∀ n ∈ r,n ∈ bs.map (·.1)
theorem zB(R:aG h w bs)(hl:l < h):∀ row:Tx,(∀ n ∈ row,n ∈ bs.map (·.1))->(fX bs l row).length=row.length * w/\∀ k ∈ fX bs l row,k ∈ bs.map (·.1)
 | [],_=>by simp[fX]
 | n :: r,h'=>by
  have ih:=zB R hl r λk hk=>h' k (W9 _ hk)
  have h1:=HB R (h' n W7) hl;have e:fX bs l (n :: r)=(aV bs n).getD l [] ++ fX bs l r:=rfl;rw[e];refine⟨by rw[WT,h1.1,ih.1,WA,JO,UM],λk hk=>?_⟩;rcases Ja.mp hk with hk | hk
  ·exact h1.2.1 k hk
  ·exact ih.2 k hk
theorem Y4(R:aG h w bs)(F:rN bs A C fl):rN bs (A * h) (C * w) (lay h bs fl):=by
 refine⟨?_,λr hr=>?_,λr hr=>?_⟩
 ·rw[<- F.rows];clear F;induction fl with
  | nil=>simp[lay]
  | cons x q ih =>
   have e:lay h bs (x :: q)=layR h bs x ++ lay h bs q:=rfl;rw[e,WT,ih,WA,JO];simp[layR,UM]
 ·simp only[lay,Uj,layR,WD,WP] at hr;obtain⟨x,hx,l,hl,rfl⟩:=hr;rw[(zB R hl x (F.tl x hx)).1,F.cols x hx]
 ·simp only[lay,Uj,layR,WD,WP] at hr;obtain⟨x,hx,l,hl,rfl⟩:=hr;exact(zB R hl x (F.tl x hx)).2
def sm:List Nat->(Nat->Nat)->Nat
 | [],_=>0
 | t :: r,f=>f t + sm r f
theorem rO(f:Nat->Nat):sm [] f=0:=rfl
theorem jB(t:Nat)(r:List Nat)(f:Nat->Nat):sm (t :: r) f=f t + sm r f:=rfl
theorem ma:∀ {ts:List Nat} {f g:Nat->Nat},(∀ t ∈ ts,f t=g t)->sm ts f=sm ts g
 | [],_,_,_=>rfl
 | t :: r,f,g,h=>by
  rw[jB,jB,h t W7,ma λx hx=>h x (W9 _ hx)]
theorem rP(f g:Nat->Nat):∀ ts:List Nat,sm ts (λt=>f t + g t)=sm ts f + sm ts g
 | []=>rfl
 | t :: r=>by
  rw[jB,jB,jB,rP f g r];grind
theorem pq:∀ {ts:List Nat} {f:Nat->Nat},(∀ t ∈ ts,f t=0)->sm ts f=0
 | [],_,_=>rfl
 | t :: r,f,h=>by
  rw[jB,h t W7,pq λx hx=>h x (W9 _ hx)]
theorem HG(f:Nat->Nat):∀ a b:List Nat,sm (a ++ b) f=sm a f + sm b f
 | [],b=>by rw[Qm,rO,Q3]
 | t :: r,b=>by
  rw[JM,jB,jB,HG f r b];lia
theorem zC(f:Nat->Nat)(n:Nat):∀ ts:List Nat,ts.Nodup->n ∈ ts->sm ts (λt=>(if t=n then 1 else 0) * f t)=f n
 | [],_,h=>by simp at h
 | t :: r,nd,h=>by
  obtain⟨n1,n2⟩:=WI.mp nd;rw[jB];rcases Wq.mp h with e | h
  ·subst e;rw[pq λt ht=>by rw[if_neg (λe=>n1 (by rw[<- e]; exact ht)),UN]];simp
  ·have:t≠n:=λe=>n1 (by rw[e]; exact h)
   rw[zC f n r n2 h];simp[this]
theorem HI(f:Nat->Nat)(nd:ts.Nodup):∀ row:List Nat,(∀ n ∈ row,n ∈ ts)->sm row f=sm ts λt=>row.count t * f t
 | [],_=>by
  rw[rO,pq λt _=>by rw[List.count_nil,UN]]
 | n :: r,h=>by
  have ih:=HI f nd r (by grind);have e:sm ts (λt=>(n :: r).count t * f t)=sm ts (λt=>r.count t * f t + (if t=n then 1 else 0) * f t):=ma λt _=>by
   rw[List.count_cons];by_cases q:n=t
   ·subst q;simp[U6]
   ·simp[q,Ne.symm q]
  rw[e,rP,zC f n ts nd (h n W7),<- ih,jB];lia
def M(bs:List (Nat×List Tx))(t s:Nat):Nat:=(aV bs t).flatten.count s
def Y5(bs:List (Nat×List Tx))(v:Nat->Nat):Nat->Nat:=λs=>sm (bs.map (·.1)) λt=>v t * M bs t s
def vec(bs:List (Nat×List Tx))(t0:Nat):Nat->Nat->Nat
 | 0=>λs=>if s=t0 then 1 else 0
 | k + 1=>Y5 bs (vec bs t0 k)
theorem HJ(bs:List (Nat×List Tx))(l s:Nat):∀ row:Tx,(fX bs l row).count s=sm row λn=>((aV bs n).getD l []).count s
 | []=>rfl
 | n :: r=>by
  have e:fX bs l (n :: r)=(aV bs n).getD l [] ++ fX bs l r:=rfl;rw[e,QG,HJ bs l s r];rfl
theorem Y6(s:Nat):∀ (k:Nat) (b:List Tx),b.length=k->sm (Wd k) (λl=>(b.getD l []).count s)=b.flatten.count s:=by
 intro k;induction k with
 | zero =>
  intro b hb;have:b=[]:=by grind
  subst this;rfl
 | succ k ih =>
  intro b hb;have hk:k < b.length:=by lia
  have e1:b=b.take k ++ [b[k]]:=by
   have:=List.take_append_drop k b;rw[QJ hk,List.drop_eq_nil_of_le Y'] at this;exact this.symm
  rw[QU,HG];have e2:sm (Wd k) (λl=>(b.getD l []).count s)=sm (Wd k) λl=>((b.take k).getD l []).count s:=ma λl hl=>by
   have hl:l < k:=WP.mp hl;simp[Q8,List.getElem?_take,hl]
  rw[e2,ih (b.take k) R'];have e3:b.flatten.count s=(b.take k).flatten.count s + (b[k]).count s:=by
   have:=congrArg (λz:List Tx=>z.flatten.count s) e1;simpa only[JU,QG,Jg,List.flatten_nil,Qb] using this
  rw[e3,jB,rO];simp[Q8,hk]
theorem HL(f:Nat->Nat->Nat)(b:List Nat):∀ a:List Nat,sm a (λx=>sm b λy=>f x y)=sm b λy=>sm a λx=>f x y
 | []=>by
  rw[rO,pq λt _=>rO _]
 | x :: r=>by
  show sm b (λy=>f x y) + sm r (λx=>sm b λy=>f x y)=_;rw[HL f b r,<- rP];rfl
theorem Y7(R:aG h w bs)(s:Nat)(row:Tx)(hr:∀ n ∈ row,n ∈ bs.map (·.1)):(layR h bs row).flatten.count s=sm row λn=>M bs n s:=by
 have e:∀ ls:List Nat,((ls.map λl=>fX bs l row).flatten).count s=sm ls λl=>sm row λn=>((aV bs n).getD l []).count s:=by
  intro ls;induction ls with
  | nil=>rfl
  | cons l q ih =>
   rw[We,Jg,QG,ih,HJ];rfl
 unfold layR;rw[e,HL];refine ma λn hn=>?_
 obtain⟨b,hb,_,_,e2⟩:=gM (hr n hn);unfold M;rw[e2];exact Y6 s h b.2 (R.aV b hb).1
theorem zD(R:aG h w bs):(bs.map (·.1)).Nodup:=R.up.imp λh=>Wo h
theorem HM(R:aG h w bs)(s:Nat):∀ fl:List Tx,(∀ r ∈ fl,∀ n ∈ r,n ∈ bs.map (·.1))->(lay h bs fl).flatten.count s=sm (bs.map (·.1)) λt=>fl.flatten.count t * M bs t s
 | [],_=>by
  rw[pq λt _=>by rw[List.flatten_nil,List.count_nil,UN]];rfl
 | x :: q,hf=>by
  have e:lay h bs (x :: q)=layR h bs x ++ lay h bs q:=rfl;rw[e,JU,QG,Y7 R s x (hf x W7),HM R s q λr hr=>hf r (W9 _ hr),HI _ (zD R) x (hf x W7),<- rP];refine ma λt _=>?_
  rw[Jg,QG,U6]
theorem rQ(R:aG h w bs)(F:rN bs A C fl):∀ k,rN bs (A * h ^ k) (C * w ^ k) (cG h bs fl k)
 | 0=>by simpa[cG] using F
 | k + 1=>by
  have:=Y4 R (rQ R F k);rw[WL,WL,<- Um,<- Um];exact this
theorem Y8(R:aG h w bs)(ht:t0 ∈ bs.map (·.1))(s:Nat):∀ k,(cG h bs [[t0]] k).flatten.count s=vec bs t0 k s:=by
 have F0:rN bs 1 1 [[t0]]:=⟨rfl,U',by grind⟩
 intro k;induction k generalizing s with
 | zero =>
  show([[t0]]:List Tx).flatten.count s=if s=t0 then 1 else 0
  by_cases h:s=t0
  ·subst h; simp
  ·simp[h,List.count_cons,Ne.symm h]
 | succ k ih =>
  show(lay h bs (cG h bs [[t0]] k)).flatten.count s=_;rw[HM R s _ (rQ R F0 k).tl];exact ma λt _=>by rw[ih]
abbrev HK:=Bool×Bool×Nat
abbrev HV:=List (HK×Nat)
def bL(k:HK):D:=.tup [.bl k.1,.bl k.2.1,.str [k.2.2]]
def hD(kvs:HV):List (D×D):=kvs.map λp=>(bL p.1,D.int (p.2:Nat))
def cb(kvs:HV)(k:HK):Nat:=((kvs.find? λp=>decide (p.1=k)).map (·.2)).getD 0
def kY(kvs:HV)(k:HK)(m:Nat):HV:=if (kvs.any λp=>decide (p.1=k))=true then kvs.map λp=>if p.1=k then(p.1,cb kvs k + m) else p else kvs ++ [(k,m)]
theorem zE(a b:HK):gf (bL a) (bL b)=decide (a=b):=by
 obtain⟨a1,a2,a3⟩:=a;obtain⟨b1,b2,b3⟩:=b;unfold bL;simp only[gf,kr];grind
theorem HP(kvs:HV)(k:HK):j5 (kR (bL k)) (hD kvs) (bL k)=true:=by
 unfold j5 kR hD bL;simp[i9,cg,ig]
theorem Y9(kvs:HV)(k:HK):jt (hD kvs) (bL k)=(kvs.find? λp=>decide (p.1=k)).map λp=>D.int (p.2:Nat):=by
 unfold jt hD;rw[Ue];have:((λq:D×D=>gf q.1 (bL k)) ∘ λp:HK×Nat=>(bL p.1,D.int (p.2:Nat)))=λp=>decide (p.1=k):=by
  funext p
  exact zE p.1 k
 rw[this,Option.map_map];rfl
theorem Y_(kvs:HV)(k:HK):(jt (hD kvs) (bL k)).getD (.int 0) = .int (cb kvs k:Nat):=by
 rw[Y9];unfold cb
 cases kvs.find? λp=>decide (p.1=k) <;> rfl
theorem Za(kvs:HV)(k:HK):((hD kvs).any λq=>gf q.1 (bL k))=kvs.any λp=>decide (p.1=k):=by
 unfold hD;rw[List.any_map];congr 1
 funext p
 exact zE p.1 k
theorem HQ(h:(kvs.any λp=>decide (p.1=k))=false):cb kvs k=0:=by grind[cb,List.find?_eq_none]
theorem Zb(kvs:HV)(k:HK)(m:Nat):qT (hD kvs) (bL k) (.int ((cb kvs k:Nat) + (m:Nat):Int))=hD (kY kvs k m):=by
 unfold qT kY;rw[Za];split
 ·unfold hD;rw[Wu,Wu];refine WO λp hp=>?_
  simp only[Function.comp,zE];by_cases h:p.1=k
  ·simp[h]
  ·simp[h]
 ·rename_i h;rw[HQ (WX.mpr h)];unfold hD;simp
structure dI(ts:List Nat)(kvs:HV):Prop where
 nd:(kvs.map (·.1)).Nodup
 ts:∀ p ∈ kvs,p.1.2.2 ∈ ts
theorem HR(kvs:HV)(k:HK)(m:Nat):(kY kvs k m).map (·.1)=if (kvs.any λp=>decide (p.1=k))=true then kvs.map (·.1) else kvs.map (·.1) ++ [k]:=by
 unfold kY;split
 ·rw[Wu];refine WO λp hp=>?_
  simp only[Function.comp];split <;> rfl
 ·simp
theorem Zc(h:dI ts kvs)(hk:k.2.2 ∈ ts):dI ts (kY kvs k m):=by
 have hm:∀ q ∈ (kY kvs k m).map (·.1),q.2.2 ∈ ts:=λq hq=>by
  rw[HR] at hq;split at hq
  ·obtain⟨p,hp,rfl⟩:=WD.mp hq;exact h.ts p hp
  ·rcases Ja.mp hq with hq | hq
   ·obtain⟨p,hp,rfl⟩:=WD.mp hq;exact h.ts p hp
   ·have:q=k:=by simpa using hq
    rw[this]; exact hk
 refine⟨?_,λp hp=>hm p.1 (WK hp)⟩;rw[HR];split
 ·exact h.nd
 ·rename_i q;refine JE.mpr ⟨h.nd,U',λx hx y hy e=>q ?_⟩;have zF:y=k:=by simpa using hy
  obtain⟨p,hp,e2⟩:=WD.mp hx;exact List.any_eq_true.mpr ⟨p,hp,decide_eq_true (by rw[e2,e,zF])⟩
theorem HS[DecidableEq α]:∀ {l ts:List α},l.Nodup->(∀ x ∈ l,x ∈ ts)->l.length<=ts.length
 | [],_,_,_=>Qn _
 | a :: r,ts,nd,h=>by
  obtain⟨n1,n2⟩:=WI.mp nd;have ha:=h a W7;have:=HS (l:=r) (ts:=ts.erase a) n2 λx hx=>by
   have:x≠a:=λe=>n1 (by rw[<- e]; exact hx)
   exact(Uk this).mpr (h x (W9 _ hx))
  rw[JP ha] at this;have:=Jr ha;simp;lia
theorem dI.len{ts:List Nat}{kvs:HV}(h:dI ts kvs):kvs.length<=4 * ts.length:=by
 have:=HS h.nd (ts:=ts.flatMap λn=>[(true,true,n),(true,false,n),(false,true,n),(false,false,n)]) λq hq=>by
  obtain⟨p,hp,rfl⟩:=WD.mp hq;have:=h.ts p hp;rw[Uj];refine⟨p.1.2.2,this,?_⟩;obtain⟨⟨a,b,c⟩,m⟩:=p
  cases a <;> cases b <;> simp
 rw[Wx] at this;have e:∀ l:List Nat,(l.flatMap λn=>[((true,true,n):HK),(true,false,n),(false,true,n),(false,false,n)]).length=4 * l.length:=λl=>by
  induction l with
  | nil=>rfl
  | cons a r ih=>rw[UE,WT,ih]; simp; lia
 rw[e] at this;exact this
def kZ(dn rt:Nat)(key:HK)(m i j n:Nat)(acc:HV):HV:=if ((key.1 || decide (i<=dn)) && (key.2.1 || decide (j<=rt)))=true then kY acc (key.1 || decide (i < dn),key.2.1 || decide (j < rt),n) m else acc
def md(dn rt:Nat)(key:HK)(m i:Nat):Nat->Tx->HV->HV
 | _,[],acc=>acc
 | j,n :: r,acc=>md dn rt key m i (j + 1) r (kZ dn rt key m i j n acc)
def me(dn rt:Nat)(key:HK)(m:Nat):Nat->List Tx->HV->HV
 | _,[],acc=>acc
 | i,row :: r,acc=>me dn rt key m (i + 1) r (md dn rt key m i 0 row acc)
def gN(bs:List (Nat×List Tx))(dn rt:Nat):HV->HV->HV
 | [],acc=>acc
 | p :: r,acc=>gN bs dn rt r (me dn rt p.1 p.2 0 (aV bs p.1.2.2) acc)
theorem zG(h:dI ts acc)(hn:n ∈ ts):dI ts (kZ dn rt key m i j n acc):=by
 unfold kZ;split
 ·exact Zc h hn
 ·exact h
theorem vc:∀ {j:Nat} {row:Tx} {acc:HV},dI ts acc->(∀ n ∈ row,n ∈ ts)->dI ts (md dn rt key m i j row acc)
 | _,[],_,h,_=>h
 | j,n :: r,acc,h,q=>by
  unfold md;exact vc (zG h (q n W7)) (by grind)
theorem vd:∀ {i:Nat} {B:List Tx} {acc:HV},dI ts acc->(∀ row ∈ B,∀ n ∈ row,n ∈ ts)->dI ts (me dn rt key m i B acc)
 | _,[],_,h,_=>h
 | i,row :: r,acc,h,q=>by
  unfold me;exact vd (vc h (q row W7)) λx hx=>q x (W9 _ hx)
theorem px(R:aG h w bs)(hn:n ∈ bs.map (·.1)):(aV bs n).length=h/\∀ row ∈ aV bs n,row.length=w/\∀ x ∈ row,x ∈ bs.map (·.1):=by
 obtain⟨b,hb,_,_,e⟩:=gM hn;rw[e];exact R.aV b hb
theorem HU(R:aG h w bs):∀ {l acc:HV},(∀ p ∈ l,p.1.2.2 ∈ bs.map (·.1))->dI (bs.map (·.1)) acc->dI (bs.map (·.1)) (gN bs dn rt l acc)
 | [],_,_,h=>h
 | p :: r,acc,q,h=>by
  unfold gN;exact HU R (λx hx=>q x (W9 _ hx)) (vd h λrow hr n hn=>((px R (q p W7)).2 row hr).2 n hn)
def dE(bs:List (Nat×List Tx))(h w g R C:Nat)(t:Nat):Nat->HV
 | 0=>[((decide (R=h ^ g),decide (C=w ^ g),t),1)]
 | k + 1=>gN bs (R / h ^ (g - (k + 1)) % h) (C / w ^ (g - (k + 1)) % w) (dE bs h w g R C t k) []
theorem pA(Ru:aG h w bs)(ht:t ∈ bs.map (·.1)):∀ k,dI (bs.map (·.1)) (dE bs h w g R C t k)
 | 0=>⟨by simp[dE],λp hp=>by simp[dE] at hp; rw[hp]; exact ht⟩
 | k + 1=>HU Ru (pA Ru ht k).ts ⟨U',λp hp=>by simp at hp⟩
def rs(f:Nat->Nat->Nat):Nat->Tx->Nat
 | _,[]=>0
 | j,n :: r=>f j n + rs f (j + 1) r
def gO(f:Nat->Nat->Nat->Nat):Nat->List Tx->Nat
 | _,[]=>0
 | i,row :: r=>rs (f i) 0 row + gO f (i + 1) r
theorem vf:∀ {j:Nat} {row:Tx},(∀ k,j<=k->k < j + row.length->∀ n ∈ row,f k n=f' k n)->rs f j row=rs f' j row
 | _,[],_=>rfl
 | j,n :: r,h=>by
  unfold rs;rw[h j (Wa _) U' n W7,vf λk h1 h2 x hx=>h k Y' (by rw[WA]; lia) x (W9 _ hx)]
theorem HW(f:Nat->Nat->Nat):∀ (j:Nat) (row:Tx),rs f (j + 1) row=rs (λk=>f (k + 1)) j row
 | _,[]=>rfl
 | j,n :: r=>by
  unfold rs;rw[HW f (j + 1) r]
theorem HX(f:Nat->Nat->Nat->Nat):∀ (j:Nat) (B:List Tx),gO f (j + 1) B=gO (λk=>f (k + 1)) j B
 | _,[]=>rfl
 | j,n :: r=>by
  unfold gO;rw[HX f (j + 1) r]
theorem zH:∀ {i:Nat} {B:List Tx},(∀ k,i<=k->k < i + B.length->∀ row ∈ B,rs (f k) 0 row=rs (f' k) 0 row)->gO f i B=gO f' i B
 | _,[],_=>rfl
 | i,row :: r,h=>by
  unfold gO;rw[h i (Wa _) U' row W7,zH λk h1 h2 x hx=>h k Y' (by rw[WA]; lia) x (W9 _ hx)]
def pc(ρ γ:Nat)(fl:List Tx)(y:Nat):Nat:=(((fl.take ρ).map λr=>r.take γ).flatten).count y
def cl(b ρ k:Nat):Nat:=min (ρ - k * b) b
theorem HY(b ρ k:Nat):cl b ρ (k + 1)=cl b (ρ - b) k:=by
 unfold cl;rw[JO,Nat.sub_sub,UM b]
theorem HZ(b ρ:Nat):cl b ρ 0=min ρ b:=by unfold cl; simp
theorem Zd(ρ γ A y:Nat)(a b:List Tx)(h:a.length=A):pc ρ γ (a ++ b) y=pc (min ρ A) γ a y + pc (ρ - A) γ b y:=by
 unfold pc;subst h;rw[List.take_append,Q6,JU,QG,<- List.take_take,Jq (l:=a) (i:=a.length) (Wa _)]
theorem rR(ρ γ y:Nat):pc ρ γ [] y=0:=by unfold pc; simp
theorem vh(ρ γ y:Nat)(r:Tx)(fl:List Tx):pc (ρ + 1) γ (r :: fl) y=(r.take γ).count y + pc ρ γ fl y:=by
 unfold pc;simp[QG]
theorem rT(γ y:Nat)(fl:List Tx):pc 0 γ fl y=0:=by unfold pc; simp
theorem H_(y:Nat):∀ (ρ:Nat) (fl:List Tx),pc ρ 0 fl y=0
 | 0,fl=>rT 0 y fl
 | ρ + 1,[]=>rR _ _ _
 | ρ + 1,r :: fl=>by rw[vh,H_ y ρ fl]; simp
theorem zev(γ C y:Nat):∀ (ρ:Nat) (a b:List Tx),a.length=b.length->(∀ r ∈ a,r.length=C)->pc ρ γ (JQ (· ++ ·) a b) y=pc ρ (min γ C) a y + pc ρ (γ - C) b y
 | 0,a,b,_,_=>by rw[rT,rT,rT]
 | ρ + 1,[],[],_,_=>by rw[List.zipWith_nil_left,rR,rR,rR]
 | ρ + 1,[],_ :: _,h,_=>by simp at h
 | ρ + 1,_ :: _,[],h,_=>by simp at h
 | ρ + 1,p :: a,q :: b,h,hc=>by
  rw[List.zipWith_cons_cons,vh,vh,vh,zev γ C y ρ a b (by simpa using h) λr hr=>hc r (W9 _ hr)];have e:=hc p W7;rw[List.take_append,QG,<- e];grind
theorem Ze(y R C:Nat)(fl:List Tx)(h:fl.length<=R)(hc:∀ r ∈ fl,r.length<=C):pc R C fl y=fl.flatten.count y:=by
 unfold pc;rw[Jq h];congr 2
 have:(fl.map λr=>r.take C)=fl.map id:=WO λr hr=>Jq (hc r hr)
 rw[this,List.map_id]
theorem Zf(h:Nat)(bs:List (Nat×List Tx))(a b:List Tx):lay h bs (a ++ b)=lay h bs a ++ lay h bs b:=by
 unfold lay;rw[List.flatMap_append]
theorem Ia(h:Nat)(bs:List (Nat×List Tx))(a b:List Tx):∀ k,cG h bs (a ++ b) k=cG h bs a k ++ cG h bs b k
 | 0=>rfl
 | k + 1=>by
  show lay h bs (cG h bs (a ++ b) k)=_;rw[Ia h bs a b k,Zf];rfl
theorem Zg(h:Nat)(bs:List (Nat×List Tx))(x y:Tx):layR h bs (x ++ y)=JQ (· ++ ·) (layR h bs x) (layR h bs y):=by
 unfold layR;rw[List.zipWith_map];have:∀ l:List Nat,l.map (λl=>fX bs l (x ++ y))=JQ (λa b=>fX bs a x ++ fX bs b y) l l:=λl=>by
  induction l with
  | nil=>rfl
  | cons a r ih =>
   rw[We,List.zipWith_cons_cons,ih];congr 1
   unfold fX;rw[Q6,JU]
 exact this _
theorem Ib(h:Nat)(bs:List (Nat×List Tx)):∀ a b:List Tx,a.length=b.length->lay h bs (JQ (· ++ ·) a b)=JQ (· ++ ·) (lay h bs a) (lay h bs b)
 | [],[],_=>rfl
 | [],_ :: _,h=>by simp at h
 | _ :: _,[],h=>by simp at h
 | p :: a,q :: b,e=>by
  have c:∀ (x:Tx) (l:List Tx),lay h bs (x :: l)=layR h bs x ++ lay h bs l:=λ_ _=>rfl
  rw[List.zipWith_cons_cons,c,c,c,Ib h bs a b (by simpa using e),Zg,List.zipWith_append (by unfold layR; simp)]
theorem Ic(h:Nat)(bs:List (Nat×List Tx)):∀ a:List Tx,(lay h bs a).length=a.length * h
 | []=>by simp[lay]
 | x :: l=>by
  have c:lay h bs (x :: l)=layR h bs x ++ lay h bs l:=rfl;rw[c,WT,Ic h bs l,WA,JO];grind[layR]
theorem nM(h:Nat)(bs:List (Nat×List Tx))(a:List Tx):∀ k,(cG h bs a k).length=a.length * h ^ k
 | 0=>by simp[cG]
 | k + 1=>by
  show(lay h bs (cG h bs a k)).length=_;rw[Ic,nM h bs a k,WL,Um]
theorem Ie(h:Nat)(bs:List (Nat×List Tx))(a b:List Tx)(e:a.length=b.length):∀ k,cG h bs (JQ (· ++ ·) a b) k=JQ (· ++ ·) (cG h bs a k) (cG h bs b k)
 | 0=>rfl
 | k + 1=>by
  show lay h bs (cG h bs _ k)=_;rw[Ie h bs a b e k,Ib]
  ·rfl
  ·rw[nM,nM,e]
theorem Ig(h:Nat)(bs:List (Nat×List Tx))(a:List Tx):∀ k,cG h bs a (k + 1)=cG h bs (lay h bs a) k
 | 0=>rfl
 | k + 1=>by
  show lay h bs (cG h bs a (k + 1))=lay h bs (cG h bs (lay h bs a) k);rw[Ig h bs a k]
theorem Zh(R:aG h w bs)(hn:n ∈ bs.map (·.1)):lay h bs [[n]]=aV bs n:=by
 have hl:=(px R hn).1;unfold lay layR fX;rw[UE,List.flatMap_nil,Qb];refine U8 λi=>?_
 rw[Wp];by_cases hi:i < h
 ·rw[Wc (by simpa using hi)];simp[Q8,hl,hi]
 ·rw[WR (by simpa using hi),WR Y'];rfl
def cZ(h:Nat)(bs:List (Nat×List Tx))(m n ρ γ y:Nat):Nat:=pc ρ γ (cG h bs [[n]] m) y
theorem Ih(R:aG h w bs)(m ρ y:Nat):∀ (row:Tx) (γ:Nat),(∀ n ∈ row,n ∈ bs.map (·.1))->pc ρ γ (cG h bs [row] m) y=rs (λj n=>cZ h bs m n ρ (cl (w ^ m) γ j) y) 0 row
 | [],γ,_=>by
  have:∀ x ∈ cG h bs [[]] m,x.length=0:=by
   have F:=rQ R (A:=1) (C:=0) (fl:=[[]]) ⟨rfl,U',U'⟩ m;intro x hx;rw[F.cols x hx,UN]
  unfold rs pc;grind[List.count_eq_zero]
 | n :: r,γ,hr=>by
  have e:([n :: r]:List Tx)=JQ (· ++ ·) [[n]] [r]:=rfl;have hn:=hr n W7;have F:=rQ R (A:=1) (C:=1) (fl:=[[n]]) ⟨rfl,U',by grind⟩ m;rw[e,Ie h bs [[n]] [r] rfl m,zev γ (w ^ m) y ρ _ _ (by rw[nM,nM]; rfl) (λx hx=>by rw[F.cols x hx,J8]),Ih R m ρ y r (γ - w ^ m) λx hx=>hr x (W9 _ hx)];show _=cZ h bs m n ρ (cl (w ^ m) γ 0) y + rs (λj n=>cZ h bs m n ρ (cl (w ^ m) γ j) y) (0 + 1) r;rw[HW,HZ];congr 1
  exact vf λk _ _ x _=>by rw[HY]
theorem Ii(R:aG h w bs)(m γ y:Nat):∀ (B:List Tx) (ρ:Nat),(∀ row ∈ B,∀ n ∈ row,n ∈ bs.map (·.1))->pc ρ γ (cG h bs B m) y=gO (λi j n=>cZ h bs m n (cl (h ^ m) ρ i) (cl (w ^ m) γ j) y) 0 B
 | [],ρ,_=>by
  have:cG h bs [] m=[]:=List.length_eq_zero_iff.mp (by rw[nM]; simp);rw[this,rR];rfl
 | row :: r,ρ,hr=>by
  have e:row :: r=[row] ++ r:=rfl;rw[e,Ia,Zd ρ γ (h ^ m) y _ _ (by rw[nM]; simp),Ih R m _ y row γ (hr row W7),Ii R m γ y r (ρ - h ^ m) λx hx=>hr x (W9 _ hx)];show _=rs (λj n=>cZ h bs m n (cl (h ^ m) ρ 0) (cl (w ^ m) γ j) y) 0 row + gO (λi j n=>cZ h bs m n (cl (h ^ m) ρ i) (cl (w ^ m) γ j) y) (0 + 1) r;rw[HX,HZ];congr 1
  exact zH λk _ _ x _=>by
   exact vf λk' _ _ z _=>by rw[HY]
theorem Zi(R:aG h w bs)(hn:n ∈ bs.map (·.1))(m ρ γ y:Nat):cZ h bs (m + 1) n ρ γ y=gO (λi j x=>cZ h bs m x (cl (h ^ m) ρ i) (cl (w ^ m) γ j) y) 0 (aV bs n):=by
 unfold cZ;rw[Ig,Zh R hn];exact Ii R m γ y (aV bs n) ρ λrow hr x hx=>((px R hn).2 row hr).2 x hx
theorem Zj(h:Nat)(bs:List (Nat×List Tx))(n y:Nat)(a b:Bool):cZ h bs 0 n (if a then 1 else 0) (if b then 1 else 0) y=if (a && b && decide (n=y))=true then 1 else 0:=by
 unfold cZ pc cG
 cases a <;> cases b <;> simp
 by_cases e:n=y <;> simp[e]
theorem Zk(m n γ y:Nat):cZ h bs m n 0 γ y=0:=rT γ y _
theorem Zl(m n ρ y:Nat):cZ h bs m n ρ 0 y=0:=H_ y ρ _
theorem Ij(R:aG h w bs)(hn:n ∈ bs.map (·.1))(m y:Nat):cZ h bs m n (h ^ m) (w ^ m) y=vec bs n m y:=by
 have F:=rQ R (A:=1) (C:=1) (fl:=[[n]]) ⟨rfl,U',by grind⟩ m;unfold cZ;rw[Ze y _ _ _ (by rw[F.rows,J8]; exact Wa _) (λr hr=>by rw[F.cols r hr,J8]; exact Wa _),Y8 R hn]
def ws(W:HK->Nat):HV->Nat
 | []=>0
 | p :: r=>p.2 * W p.1 + ws W r
theorem Ik(W:HK->Nat):∀ a b:HV,ws W (a ++ b)=ws W a + ws W b
 | [],b=>by simp[ws]
 | p :: r,b=>by
  show p.2 * W p.1 + ws W (r ++ b)=p.2 * W p.1 + ws W r + ws W b;rw[Ik W r b];lia
theorem Il(W:HK->Nat)(k:HK)(c:Nat):∀ l:HV,(l.map (·.1)).Nodup->(l.any λp=>decide (p.1=k))=true->ws W (l.map λp=>if p.1=k then(p.1,cb l k + c) else p)=ws W l + c * W k
 | [],_,h=>by simp at h
 | (a,m) :: r,nd,h=>by
  rw[We] at nd;obtain⟨n1,n2⟩:=WI.mp nd;by_cases e:a=k
  ·subst e;have hr:(r.map λp:HK×Nat=>if p.1=a then(p.1,cb ((a,m) :: r) a + c) else p)=r:=by
    have:r.map (λp:HK×Nat=>if p.1=a then(p.1,cb ((a,m) :: r) a + c) else p)=r.map id:=WO λp hp=>by
     rw[if_neg λe=>n1 (WD.mpr ⟨p,hp,e⟩)];rfl
    rw[this,List.map_id]
   have hg:cb ((a,m) :: r) a=m:=by unfold cb; simp
   rw[We,hr,hg];simp only[if_true];show(m + c) * W a + ws W r=m * W a + ws W r + c * W a;rw[U6];lia
  ·have hr:(r.any λp=>decide (p.1=k))=true:=by grind
   have hg:cb ((a,m) :: r) k=cb r k:=by unfold cb; simp[e]
   have ih:=Il W k c r n2 hr;rw[We,hg];simp only[e,if_false];show m * W a + ws W _=m * W a + ws W r + c * W k;rw[ih];lia
theorem Zm(W:HK->Nat)(nd:(l.map (·.1)).Nodup)(k:HK)(c:Nat):ws W (kY l k c)=ws W l + c * W k:=by
 unfold kY;split
 ·rename_i h;exact Il W k c l nd h
 ·rw[Ik];show ws W l + (c * W k + 0)=_;lia
theorem Im(k:HK):∀ l:HV,(l.map (·.1)).Nodup->ws (λq=>if q=k then 1 else 0) l=cb l k
 | [],_=>rfl
 | (a,m) :: r,nd=>by
  rw[We] at nd;obtain⟨n1,n2⟩:=WI.mp nd;have ih:=Im k r n2;show m * (if a=k then 1 else 0) + ws _ r=_;rw[ih];by_cases e:a=k
  ·subst e;have hz:cb r a=0:=HQ (by
    rw[Uz];intro p hp e;exact n1 (WD.mpr ⟨p,hp,by simpa using e⟩))
   have hg:cb ((a,m) :: r) a=m:=by unfold cb; simp
   rw[hz,hg];simp
  ·have hg:cb ((a,m) :: r) k=cb r k:=by unfold cb; simp[e]
   rw[hg];simp[e]
theorem zI:∀ {l:HV},(∀ p ∈ l,W p.1=W' p.1)->ws W l=ws W' l
 | [],_=>rfl
 | p :: r,h=>by
  show p.2 * W p.1 + ws W r=p.2 * W' p.1 + ws W' r;rw[h p W7,zI λq hq=>h q (W9 _ hq)]
section
variable {ts:List Nat} (W:HK->Nat) (dn rt:Nat) (key:HK) (m:Nat)
def cw(i j n:Nat):Nat:=if ((key.1 || decide (i<=dn)) && (key.2.1 || decide (j<=rt)))=true then W (key.1 || decide (i < dn),key.2.1 || decide (j < rt),n) else 0
theorem Zn(ha:dI ts acc)(i j n:Nat):ws W (kZ dn rt key m i j n acc)=ws W acc + m * cw W dn rt key i j n:=by
 unfold kZ cw;split
 ·exact Zm W ha.nd _ _
 ·lia
theorem Io(i:Nat):∀ (row:Tx) (j:Nat) {acc:HV},dI ts acc->(∀ n ∈ row,n ∈ ts)->ws W (md dn rt key m i j row acc)=ws W acc + m * rs (cw W dn rt key i) j row
 | [],j,acc,_,_=>by unfold md rs; lia
 | n :: r,j,acc,ha,hr=>by
  unfold md rs;rw[Io i r (j + 1) (zG ha (hr n W7)) λx hx=>hr x (W9 _ hx),Zn W dn rt key m ha,Nat.mul_add];lia
theorem Ip:∀ (B:List Tx) (i:Nat) {acc:HV},dI ts acc->(∀ row ∈ B,∀ n ∈ row,n ∈ ts)->ws W (me dn rt key m i B acc)=ws W acc + m * gO (cw W dn rt key) i B
 | [],i,acc,_,_=>by unfold me gO; lia
 | row :: r,i,acc,ha,hr=>by
  unfold me gO;rw[Ip r (i + 1) (vc ha (hr row W7)) λx hx=>hr x (W9 _ hx),Io W dn rt key m i row 0 ha (hr row W7),Nat.mul_add];lia
end
theorem Iq(R:aG h w bs)(W:HK->Nat)(dn rt:Nat):∀ (l:HV) {acc:HV},(∀ p ∈ l,p.1.2.2 ∈ bs.map (·.1))->dI (bs.map (·.1)) acc->ws W (gN bs dn rt l acc)=ws W acc + ws (λk=>gO (cw W dn rt k) 0 (aV bs k.2.2)) l
 | [],acc,_,_=>by unfold gN ws; lia
 | p :: r,acc,q,ha=>by
  have rV:=λrow hr n hn=>((px R (q p W7)).2 row hr).2 n hn
  unfold gN;rw[Iq R W dn rt r (λx hx=>q x (W9 _ hx)) (vd ha rV),Ip W dn rt p.1 p.2 (aV bs p.1.2.2) 0 ha rV];grind[ws]
def tl(b X:Nat)(a:Bool):Nat:=if a=true then b else X % b
theorem Ir(X:Nat)(hP:0 < P)(hi:i < h)(a:Bool):(a || decide (i<=X / P % h))=true->cl P (tl (P * h) X a) i=tl P X (a || decide (i < X / P % h)):=by
 intro hc
 cases a with
 | true =>
  show min (P * h - i * P) P=P;have:(i + 1) * P<=h * P:=Jf P hi;rw[JO] at this;rw[WY P h];lia
 | false =>
  have e:X % (P * h)=X % P + P * (X / P % h):=Nat.mod_mul;have aP:=Jd X hP;have df:i<=X / P % h:=by simpa using hc
  have e2:P * (X / P % h)=i * P + (X / P % h - i) * P:=by
   rw[<- U6,WY];congr 1
   lia
  show min (X % (P * h) - i * P) P=tl P X (false || decide (i < X / P % h));rw[e,e2];by_cases h2:i < X / P % h
  ·rw[decide_eq_true h2];show _=P;have:1 * P<=(X / P % h - i) * P:=Jf P Y';lia
  ·rw[decide_eq_false h2];show _=X % P;have:X / P % h - i=0:=by lia
   rw[this];lia
theorem Iu(X:Nat)(hP:0 < P)(a:Bool):(a || decide (i<=X / P % h))=false->cl P (tl (P * h) X a) i=0:=by
 intro hc
 cases a with
 | true=>simp at hc
 | false =>
  have e:X % (P * h)=X % P + P * (X / P % h):=Nat.mod_mul;have aP:=Jd X hP;have df:X / P % h < i:=by simpa using hc
  show min (X % (P * h) - i * P) P=0;have:(X / P % h + 1) * P<=i * P:=Jf P df;rw[JO,WY (X / P % h)] at this;lia
def Wt(h w:Nat)(bs:List (Nat×List Tx))(R C y m:Nat)(k:HK):Nat:=cZ h bs m k.2.2 (tl (h ^ m) R k.1) (tl (w ^ m) C k.2.1) y
theorem Zo(Ru:aG h w bs)(R C y m:Nat)(k:HK)(hk:k.2.2 ∈ bs.map (·.1)):gO (cw (Wt h w bs R C y m) (R / h ^ m % h) (C / w ^ m % w) k) 0 (aV bs k.2.2)=Wt h w bs R C y (m + 1) k:=by
 have ph:0 < h ^ m:=UG Ru.h0;have pw:0 < w ^ m:=UG Ru.w0;obtain⟨hl,hrw⟩:=px Ru hk;unfold Wt;rw[Zi Ru hk,WL,WL];refine zH λi _ hi row hr=>vf λj _ hj n hn=>?_
 rw[Q3] at hi hj;rw[hl] at hi;rw[(hrw row hr).1] at hj;unfold cw;by_cases c1:(k.1 || decide (i<=R / h ^ m % h))=true
 ·by_cases c2:(k.2.1 || decide (j<=C / w ^ m % w))=true
  ·rw[c1,c2,Ir R ph hi k.1 c1,Ir C pw hj k.2.1 c2];rfl
  ·rw[Iu C pw k.2.1 (WX.mpr c2),Zl,WX.mpr c2,Bool.and_false];rfl
 ·rw[Iu R ph k.1 (WX.mpr c1),Zk,WX.mpr c1,Bool.false_and];rfl
theorem Iw(Ru:aG h w bs)(ht:t ∈ bs.map (·.1))(g R C y:Nat)(hR:R<=h ^ g)(hC:C<=w ^ g):∀ k m,k + m=g->ws (Wt h w bs R C y m) (dE bs h w g R C t k)=cZ h bs g t R C y
 | 0,m,e=>by
  have e':m=g:=by lia
  subst e';show 1 * Wt h w bs R C y m (decide (R=h ^ m),decide (C=w ^ m),t) + 0=_;have q:∀ b X,X<=b->tl b X (decide (X=b))=X:=λb X hX=>by
   unfold tl;by_cases e:X=b
   ·simp[e]
   ·simp[e];exact Jm Y'
  show 1 * cZ h bs m t (tl (h ^ m) R (decide (R=h ^ m))) (tl (w ^ m) C (decide (C=w ^ m))) y + 0=_;rw[q _ _ hR,q _ _ hC,J8,UL]
 | k + 1,m,e=>by
  have ih:=Iw Ru ht g R C y hR hC k (m + 1) Y';show ws _ (gN bs (R / h ^ (g - (k + 1)) % h) (C / w ^ (g - (k + 1)) % w) (dE bs h w g R C t k) [])=_;rw[show g - (k + 1)=m by lia,Iq Ru _ _ _ _ (pA Ru ht k).ts ⟨U',λp hp=>by simp at hp⟩,<- ih];show 0 + _=_;rw[Q3];exact zI λp hp=>Zo Ru R C y m p.1 ((pA Ru ht k).ts p hp)
theorem Zp(Ru:aG h w bs)(ht:t ∈ bs.map (·.1))(g R C y:Nat)(hR:R<=h ^ g)(hC:C<=w ^ g):cb (dE bs h w g R C t g) (true,true,y)=cZ h bs g t R C y:=by
 rw[<- Iw Ru ht g R C y hR hC g 0 Y',<- Im (true,true,y) _ (pA Ru ht g).nd];refine zI λp hp=>?_
 obtain⟨⟨a,b,n⟩,c⟩:=p;unfold Wt tl;simp only[UO,Nat.mod_one];rw[Zj];all_goals grind
theorem zJ(f F:A->D)(p:A->Bool)(δ:Dl):∀ (as:List A) (acc:List D),acc.length + as.length<=Wb ->
  (∀ a ∈ as,∃ δ1 δ2 x δ3,g (.pure (f a)) δ=some δ1/\t δ1 = .ok (p a) δ2/\bj cs δ2=δ/\el δ2 = .ok x δ3/\bj cs δ3=δ/\x.d=F a)->cK cs g t el (as.map f) δ acc = .ok (acc ++ (as.filter p).map F) δ
 | [],acc,_,_=>by simp[cK]
 | a :: r,acc,hl,hs=>by
  obtain⟨δ1,δ2,x,δ3,e1,e2,oG,e3,e4,e5⟩:=hs a W7;have jK:acc.length < Wb:=by simp at hl; lia
  rw[We];unfold cK;rw[e1]
  cases hp:p a with
  | true =>
   have ih:=zJ (cs:=cs) (g:=g) (t:=t) (el:=el) f F p δ r (acc ++ [x.d]) P3 (λa ha=>hs a (W9 _ ha));simp_all
  | false =>
   have ih:=zJ (cs:=cs) (g:=g) (t:=t) (el:=el) f F p δ r acc P3 (λa ha=>hs a (W9 _ ha));simp_all
def iE(ts:List Nat):D:=.lst (ts.map λn=>.str [n])
theorem zK(i j:Int):cR (.int i) (.int j)=pS (.bl (i == j)):=rfl
theorem nN(e:b (bc n [.pure x,.pure y]) = .ok (.ret v) δ1):bf [] n b [.pure x,.pure y]=some (v,[.pure x,.pure y]):=by
 rw[dS,e]; rfl
theorem Zq(e:b (bc n [.pure x,.pure y]) = .ok .next δ1):bf [] n b [.pure x,.pure y]=some (.pure .ay,[.pure x,.pure y]):=by
 rw[dS,e]; rfl
theorem zL(e:b (bc n [.pure x,.pure y,.pure z]) = .ok (.ret v) δ1):bf [] n b [.pure x,.pure y,.pure z]=some (v,[.pure x,.pure y,.pure z]):=by
 rw[dS,e]; rfl
theorem Iy(e:b (bc n [.pure x]) = .ok (.ret v) δ1):bf [] n b [.pure x]=some (v,[.pure x]):=by
 rw[dS,e]; rfl
theorem dF(h:a δ = .ok .next δ1):aq a b δ=b δ1:=by simp_all
theorem nO(h:it δ = .ok ds δ1):bx it g b δ=forL g b ds δ1:=by simp_all
theorem zM(k t:Nat):bI (k:Int) (t + 1) = .int (k:Int) :: bI ((k + 1:Nat):Int) t:=by
 unfold bI;rw[List.range_succ_eq_map,We,Wu];simp only[Function.comp_def,List.cons.injEq,D.int.injEq];refine⟨U',WO λi _=>?_⟩;simp only[D.int.injEq];push_cast;lia
def res(bs:List (Nat×List Tx))(v:Nat->Nat):List D:=bs.map λb=>D.tup [.str [b.1],.int ((v b.1:Nat):Int)]
theorem k6(h1:g (.pure d) δ=some δ1)(h2:b δ1 = .ok .next δ2):forL g b (d :: r) δ=forL g b r δ2:=by grind[forL,jY]
theorem rW(R:aG h w bs)(ht:t0 ∈ bs.map (·.1)):Rt eR [.pure (aC h w bs),.pure (.str [t0])] (.pure .ay):=by
 have x2:=(fc h w bs).2.2;have hd:=u9 R;have hi:=Hr ht;rw[eR,yI];generalize aC h w bs=ru at *;generalize D.tup (bs.map cX)=bd at *;generalize b_ bs=dd at *;refine Zq (δ1:=[pS ru,pS (.str [t0])]) ?_;simp[bc,aI,iU,ip,aj,aa,ah,bu,x2,hd,hi]
theorem Iz(R:aG h w bs):Rt jw [.pure (aC h w bs)] (.own (iE (bs.map (·.1)))):=by
 have n1:=R.n1;have x2:=(fc h w bs).2.2;have c:=j0 (cs:=[1,2]) (g:=a_ 2 (aA (ae [] 1) (aA (ae [] 2) ba))) (t:=bW) (el:=aa 1) cX (λb=>D.str [b.1]) [pS (aC h w bs),none,none] bs [] (by rw[dA]; simp; lia) (λb hb=>⟨[pS (aC h w bs),pS (.str [b.1]),pS (bR b.2)],_,.pure (.str [b.1]),[pS (aC h w bs),pS (.str [b.1]),pS (bR b.2)],rfl,rfl,by simp[aa],rfl,rfl⟩);have et:iE (bs.map (·.1)) = .lst (bs.map λb=>D.str [b.1]):=by unfold iE; rw[Wu]; rfl
 rw[jw,yK,et];generalize aC h w bs=ru at *;generalize hB:bs.map cX=B at *;generalize (bs.map λb=>D.str [b.1])=Y at *;refine Iy (δ1:=[pS ru,none,none]) ?_;have i:bM (ah az 0 (aw (eD (.int 2)))) [pS ru,none,none] = .ok B [pS ru,none,none]:=by
  simp[fW,ah,bu,aj,x2]
 simp only[bc];simp[i,bC,bj];rw[c];simp[cJ]
abbrev c7(bd hd:D)(dn rt:Nat)(acc:HV)(o5 o6 o7 o8 o9 aW bE bo bK cF:Option D):Dl :=
 [pS bd,pS hd,pS (.int (dn:Nat)),pS (.int (rt:Nat)),pO (.dic (hD acc)),o5.map .pure,o6.map .pure,o7.map .pure,o8.map .pure,o9.map .pure,aW.map .pure,bE.map .pure,bo.map .pure,bK.map .pure,cF.map .pure]
abbrev cI:DT:=(kz (gF (aI (aa 7)) (aI (ah jR 10 (aj 2)))) (gF (aI (aa 8)) (aI (ah jR 12 (aj 3)))))
abbrev cP:DE:=(cj (aT (lF (aa 7) (ah iS 10 (aj 2))) (aT (lF (aa 8) (ah iS 12 (aj 3))) (aT (aa 13) bG))))
abbrev cS:DS:=(oJ 4 (aa 14) (aE bH (oK 4 (aa 14) (eD (.int 0))) (aj 6)))
abbrev cB:DS:=(cx cI (aq (ak cP (ae [] 14)) cS) cC)
theorem IA(i j:Nat):jR (.int (i:Nat)) (.int (j:Nat))=pS (.bl (decide (i<=j))):=by
 simp[rH]
theorem IB(i j:Nat):iS (.int (i:Nat)) (.int (j:Nat))=pS (.bl (decide (i < j))):=by
 have:iS (.int (i:Nat)) (.int (j:Nat))=pS (.bl (decide ((i:Int) < (j:Int)))):=rfl;simp_all
theorem Zr(bd hd:D)(dn rt:Nat)(acc:HV)(ts:List Nat)(eS:ts.length<=26)(ha:dI ts acc)(kd:D)(ar ac:Bool)(td:D)(m i j n:Nat)(sd:D)(cF:Option D) :
  ∃ o14',cB (c7 bd hd dn rt acc (some kd) (some (.int (m:Nat))) (some (.bl ar)) (some (.bl ac)) (some td) (some (.int (i:Nat))) (some sd) (some (.int (j:Nat))) (some (.str [n])) cF) =
   .ok .next (c7 bd hd dn rt (kZ dn rt (ar,ac,0) m i j n acc) (some kd) (some (.int (m:Nat))) (some (.bl ar)) (some (.bl ac)) (some td) (some (.int (i:Nat))) (some sd) (some (.int (j:Nat))) (some (.str [n])) o14'):=by
 have l1:=IA i dn;have l2:=IA j rt;have l3:=IB i dn;have l4:=IB j rt;have hl:=ha.len;have hz:(hD acc).length < Wb:=by unfold hD; rw[Wx,dA]; lia
 generalize hN1:D.int (m:Nat)=mD at *;generalize hN2:D.int (i:Nat)=iD at *;generalize hN3:D.int (j:Nat)=jD at *;generalize hN4:D.int (dn:Nat)=dD at *;generalize hN5:D.int (rt:Nat)=rD at *;have tI:cI (c7 bd hd dn rt acc (some kd) (some mD) (some (.bl ar)) (some (.bl ac)) (some td) (some iD) (some sd) (some jD) (some (.str [n])) cF) = .ok ((ar || decide (i<=dn)) && (ac || decide (j<=rt))) (c7 bd hd dn rt acc (some kd) (some mD) (some (.bl ar)) (some (.bl ac)) (some td) (some iD) (some sd) (some jD) (some (.str [n])) cF):=by
  unfold c7 cI;rw[hN4,hN5];generalize decide (i<=dn)=b1 at *;generalize decide (j<=rt)=b2 at *
  cases ar <;> cases ac <;> cases b1 <;> simp[aI,aa,aj,ah,bu,l1,l2]
 have tP:cP (c7 bd hd dn rt acc (some kd) (some mD) (some (.bl ar)) (some (.bl ac)) (some td) (some iD) (some sd) (some jD) (some (.str [n])) cF) = .ok (.pure (bL (ar || decide (i < dn),ac || decide (j < rt),n))) (c7 bd hd dn rt acc (some kd) (some mD) (some (.bl ar)) (some (.bl ac)) (some td) (some iD) (some sd) (some jD) (some (.str [n])) cF):=by
  unfold c7 cP bL;rw[hN4,hN5];generalize decide (i < dn)=b1 at *;generalize decide (j < rt)=b2 at *
  cases ar <;> cases ac <;> simp[lF,aa,aj,ah,bu,l3,l4]
 unfold kZ;by_cases hc:((ar || decide (i<=dn)) && (ac || decide (j<=rt)))=true
 ·rw[if_pos hc];rw[hc] at tI;refine⟨some (bL (ar || decide (i < dn),ac || decide (j < rt),n)),?_⟩;generalize (ar || decide (i < dn),ac || decide (j < rt),n)=K at *;have g:=HP acc K;have v:=Y_ acc K;have p:=Zb acc K m;have ad:bH (.int (cb acc K:Nat)) mD=pS (.int ((cb acc K:Nat) + (m:Nat):Int)):=by rw[<- hN1]; rfl
  rw[cB];show((cI _).bind _)=_;rw[tI];simp only[jY,if_true];rw[dF (δ1:=c7 bd hd dn rt acc (some kd) (some mD) (some (.bl ar)) (some (.bl ac)) (some td) (some iD) (some sd) (some jD) (some (.str [n])) (some (bL K))) (by
   unfold ak;rw[tP];simp)]
  unfold c7;rw[<- p];clear tI tP p;generalize ((cb acc K:Nat) + (m:Nat):Int)=sm at *;generalize hD acc=ds at *;generalize bL K=kk at *;generalize D.int (cb acc K:Nat)=gg at *;simp[cS,oJ,oK,uR,uP,aa,aj,S.d,g,v,ad,hz]
 ·rw[if_neg hc];rw[WX.mpr hc] at tI;refine⟨cF,?_⟩;rw[cB];show((cI _).bind _)=_;rw[tI];simp
def mf(k:Nat)(ds:List D):List D:=ds.mapIdx λi d=>D.tup [.int ((i + k:Nat):Int),d]
theorem IC(ds:List D):eG ds=mf 0 ds:=rfl
theorem ID(k:Nat)(d:D)(r:List D):mf k (d :: r) = .tup [.int (k:Nat),d] :: mf (k + 1) r:=by
 unfold mf;rw[List.mapIdx_cons];congr 1
 ·rw[Q3]
 ·congr 1
  funext i d
  rw[show i + 1 + k=i + (k + 1) by lia]
abbrev gB:DG:=(a_ 2 (aA (ae [] 12) (aA (ae [] 13) ba)))
theorem IE(bd hd:D)(dn rt:Nat)(ts:List Nat)(eS:ts.length<=26)(kd:D)(ar ac:Bool)(td:D)(m i t:Nat)(sd:D):∀ (row:Tx) (j:Nat) (acc:HV) (bo bK cF:Option D),dI ts acc->(∀ n ∈ row,n ∈ ts) ->
  ∃ jz o13' o14',forL gB cB (mf j (row.map λn=>D.str [n])) (c7 bd hd dn rt acc (some kd) (some (.int (m:Nat))) (some (.bl ar)) (some (.bl ac)) (some td) (some (.int (i:Nat))) (some sd) bo bK cF) =
   .ok .next (c7 bd hd dn rt (md dn rt (ar,ac,t) m i j row acc) (some kd) (some (.int (m:Nat))) (some (.bl ar)) (some (.bl ac)) (some td) (some (.int (i:Nat))) (some sd) jz o13' o14')
 | [],j,acc,bo,bK,cF,_,_=>⟨bo,bK,cF,rfl⟩
 | n :: r,j,acc,bo,bK,cF,ha,hr=>by
  obtain⟨q14,e1⟩:=Zr bd hd dn rt acc ts eS ha kd ar ac td m i j n sd cF;have ec:kZ dn rt (ar,ac,0) m i j n acc=kZ dn rt (ar,ac,t) m i j n acc:=rfl;rw[ec] at e1;obtain⟨p12,p13,p14,e2⟩:=IE bd hd dn rt ts eS kd ar ac td m i t sd r (j + 1) _ (some (.int (j:Nat))) (some (.str [n])) q14 (zG (dn:=dn) (rt:=rt) (key:=(ar,ac,t)) (m:=m) (i:=i) (j:=j) ha (hr n W7)) λx hx=>hr x (W9 _ hx)
  refine⟨p12,p13,p14,?_⟩;rw[We,ID,k6 (δ1:=c7 bd hd dn rt acc (some kd) (some (.int (m:Nat))) (some (.bl ar)) (some (.bl ac)) (some td) (some (.int (i:Nat))) (some sd) (some (.int (j:Nat))) (some (.str [n])) cF) rfl e1];exact e2
abbrev gA:DG:=(a_ 2 (aA (ae [] 10) (aA (ae [] 11) ba)))
abbrev rB:DS:=(bx (kL (aa 11)) gB cB)
theorem IF(bd hd:D)(dn rt:Nat)(ts:List Nat)(eS:ts.length<=26)(kd:D)(ar ac:Bool)(td:D)(m t:Nat):∀ (B:List Tx) (i:Nat) (acc:HV) (aW bE bo bK cF:Option D),dI ts acc->(∀ row ∈ B,∀ n ∈ row,n ∈ ts) ->
  ∃ o10' kX jz o13' o14',forL gA rB (mf i (B.map .str)) (c7 bd hd dn rt acc (some kd) (some (.int (m:Nat))) (some (.bl ar)) (some (.bl ac)) (some td) aW bE bo bK cF) =
   .ok .next (c7 bd hd dn rt (me dn rt (ar,ac,t) m i B acc) (some kd) (some (.int (m:Nat))) (some (.bl ar)) (some (.bl ac)) (some td) o10' kX jz o13' o14')
 | [],i,acc,aW,bE,bo,bK,cF,_,_=>⟨aW,bE,bo,bK,cF,rfl⟩
 | row :: r,i,acc,aW,bE,bo,bK,cF,ha,hr=>by
  obtain⟨gu,q13,q14,e1⟩:=IE bd hd dn rt ts eS kd ar ac td m i t (.str row) row 0 acc bo bK cF ha (hr row W7);obtain⟨fK,p11,p12,p13,p14,e2⟩:=IF bd hd dn rt ts eS kd ar ac td m t r (i + 1) _ (some (.int (i:Nat))) (some (.str row)) gu q13 q14 (vc (dn:=dn) (rt:=rt) (key:=(ar,ac,t)) (m:=m) (i:=i) (j:=0) ha (hr row W7)) λx hx=>hr x (W9 _ hx)
  refine⟨fK,p11,p12,p13,p14,?_⟩;rw[We,ID,k6 (δ1:=c7 bd hd dn rt acc (some kd) (some (.int (m:Nat))) (some (.bl ar)) (some (.bl ac)) (some td) (some (.int (i:Nat))) (some (.str row)) bo bK cF) rfl]
  ·exact e2
  ·refine(nO (ds:=mf 0 (row.map λn=>D.str [n])) ?_).trans e1;rw[<- IC];simp[kL,aa,S.d]
abbrev kB:DS:=(aq (ak (aa 5) (a_ 3 (aA (ae [] 7) (aA (ae [] 8) (aA (ae [] 9) ba))))) (bx (i3 (ah cp 0 (aj 9))) gA rB))
abbrev gK:DG:=(a_ 2 (aA (ae [] 5) (aA (ae [] 6) ba)))
theorem IG(R:aG h w bs)(hd:D)(dn rt:Nat):∀ (kvs acc:HV) (o5 o6 o7 o8 o9 aW bE bo bK cF:Option D),(∀ p ∈ kvs,p.1.2.2 ∈ bs.map (·.1))->dI (bs.map (·.1)) acc ->
  ∃ o5' o6' o7' o8' o9' o10' kX jz o13' o14',forL gK kB (ju (hD kvs)) (c7 (b_ bs) hd dn rt acc o5 o6 o7 o8 o9 aW bE bo bK cF) =
   .ok .next (c7 (b_ bs) hd dn rt (gN bs dn rt kvs acc) o5' o6' o7' o8' o9' o10' kX jz o13' o14')
 | [],acc,o5,o6,o7,o8,o9,aW,bE,bo,bK,cF,_,_=>⟨o5,o6,o7,o8,o9,aW,bE,bo,bK,cF,rfl⟩
 | ((ar,ac,t),m) :: r,acc,o5,o6,o7,o8,o9,aW,bE,bo,bK,cF,hk,ha=>by
  have n1:=R.n1;have ht:t ∈ bs.map (·.1):=hk _ W7;have rV:=λrow hr n hn=>((px R ht).2 row hr).2 n hn
  obtain⟨q10,q11,gu,q13,q14,e1⟩:=IF (b_ bs) hd dn rt (bs.map (·.1)) (by simpa using n1) (bL (ar,ac,t)) ar ac (.str [t]) m t (aV bs t) 0 acc aW bE bo bK cF ha rV;obtain⟨p5,p6,p7,p8,p9,fK,p11,p12,p13,p14,e2⟩:=IG R hd dn rt r _ (some (bL (ar,ac,t))) (some (.int (m:Nat))) (some (.bl ar)) (some (.bl ac)) (some (.str [t])) q10 q11 gu q13 q14 (λp hp=>hk p (W9 _ hp)) (vd (dn:=dn) (rt:=rt) (key:=(ar,ac,t)) (m:=m) (i:=0) ha rV);refine⟨p5,p6,p7,p8,p9,fK,p11,p12,p13,p14,?_⟩;have ei:ju (hD (((ar,ac,t),m) :: r)) = .tup [bL (ar,ac,t),.int (m:Nat)] :: ju (hD r):=rfl;rw[ei,k6 (δ1:=c7 (b_ bs) hd dn rt acc (some (bL (ar,ac,t))) (some (.int (m:Nat))) o7 o8 o9 aW bE bo bK cF) rfl]
  ·exact e2
  ·have x:=Hq ht;rw[kB,dF (δ1:=c7 (b_ bs) hd dn rt acc (some (bL (ar,ac,t))) (some (.int (m:Nat))) (some (.bl ar)) (some (.bl ac)) (some (.str [t])) aW bE bo bK cF) (by
    unfold bL;simp[ak,aa,a_,aA,ba,S.d])]
   refine(nO (ds:=mf 0 ((aV bs t).map .str)) ?_).trans e1;rw[<- IC];have ef:bR (aV bs t) = .tup ((aV bs t).map .str):=rfl;rw[ef] at x;generalize (aV bs t).map D.str=BS at *;generalize b_ bs=DD at *;simp[i3,aa,aj,ah,bu,x,S.d]
theorem zN(e:b (bc n [.pure x,.pure y,.pure z,.pure u]) = .ok (.ret v) δ1):bf [] n b [.pure x,.pure y,.pure z,.pure u]=some (v,[.pure x,.pure y,.pure z,.pure u]):=by
 rw[dS,e]; rfl
theorem Zs(R:aG h w bs)(kvs:HV)(hk:∀ p ∈ kvs,p.1.2.2 ∈ bs.map (·.1))(dn rt:Nat) :
  Rt pb [.pure (b_ bs),.pure (.dic (hD kvs)),.pure (.int (dn:Nat)),.pure (.int (rt:Nat))] (.own (.dic (hD (gN bs dn rt kvs [])))):=by
 obtain⟨p5,p6,p7,p8,p9,fK,p11,p12,p13,p14,e⟩:=IG R (.dic (hD kvs)) dn rt kvs [] none none none none none none none none none none hk ⟨U',λp hp=>by simp at hp⟩;rw[pb,Gx];generalize gN bs dn rt kvs []=RS at *;generalize b_ bs=DD at *;have i:j6 (aa 1) (c7 DD (.dic (hD kvs)) dn rt [] none none none none none none none none none none) = .ok (ju (hD kvs)) (c7 DD (.dic (hD kvs)) dn rt [] none none none none none none none none none none):=by
  generalize hD kvs=HH at *;simp[j6,aa,S.d]
 generalize ju (hD kvs)=IT at *;generalize D.dic (hD kvs)=HH at *;refine zN (δ1:=(c7 DD HH dn rt RS p5 p6 p7 p8 p9 fK p11 p12 p13 p14).set 4 none) ?_;rw[dF (δ1:=c7 DD HH dn rt [] none none none none none none none none none none) (by
  simp[bc,ak,uQ,c7,hD])]
 rw[dF ((nO i).trans e)];unfold c7;generalize hD RS=RD at *;simp[gZ]
theorem IH(a b:Nat)(h:b<=1000):b9 (.int (a:Nat)) (.int (b:Nat))=pS (.int ((a * b:Nat):Int)):=by
 rw[rG _ _ Y' Y'];rw[Qx]
theorem II(h:Nat)(hh:h<=1000)(o2:Option S):∀ (n k a:Nat) (o3:Option S),∃ o3',forL (ae [] 3) (ak (ah b9 0 (aj 1)) (ae [] 0)) (bI (k:Nat) n) [pS (.int (a:Nat)),pS (.int (h:Nat)),o2,o3] = .ok .next [pS (.int ((a * h ^ n:Nat):Int)),pS (.int (h:Nat)),o2,o3']
 | 0,k,a,o3=>⟨o3,by simp[bI]⟩
 | n + 1,k,a,o3=>by
  have m:=IH a h hh;obtain⟨o3',ih⟩:=II h hh o2 n (k + 1) (a * h) (pS (.int (k:Nat)));refine⟨o3',?_⟩;rw[zM,k6 (δ1:=[pS (.int (a:Nat)),pS (.int (h:Nat)),o2,pS (.int (k:Nat))]) (δ2:=[pS (.int ((a * h:Nat):Int)),pS (.int (h:Nat)),o2,pS (.int (k:Nat))]) rfl (by
   generalize D.int (a:Nat)=A at *;generalize D.int (h:Nat)=B at *;generalize ((a * h:Nat):Int)=C at *;simp[ak,ah,bu,aj,m]),ih]
  rw[WL,WY (h ^ n) h,Um]
theorem IJ(h g:Nat)(hh:h<=1000)(hg:g<=1000):Rt gq [.pure (.int 1),.pure (.int (h:Nat)),.pure (.int (g:Nat))] (.pure (.int ((h ^ g:Nat):Int))):=by
 obtain⟨o3,e⟩:=II h hh (pS (.int (g:Nat))) g 0 1 none;rw[J8] at e;have e':forL (ae [] 3) (ak (ah b9 0 (aj 1)) (ae [] 0)) (bI 0 g) [pS (.int 1),pS (.int (h:Nat)),pS (.int (g:Nat)),none] = .ok .next [pS (.int ((h ^ g:Nat):Int)),pS (.int (h:Nat)),pS (.int (g:Nat)),o3]:=e;rw[gq,yQ];have i:dz (aa 2) [pS (.int 1),pS (.int (h:Nat)),pS (.int (g:Nat)),none] = .ok (bI 0 g) [pS (.int 1),pS (.int (h:Nat)),pS (.int (g:Nat)),none]:=by
  have:=jo g Y';simp[aa,this]
 generalize ((h ^ g:Nat):Int)=P at *;refine zL (δ1:=[pS (.int P),pS (.int (h:Nat)),pS (.int (g:Nat)),o3]) ?_;refine(dF ((nO i).trans e')).trans ?_;simp[aa]
theorem IK(h:Nat)(hh:h<=1000)(o1:Option S):∀ (n k a:Nat) (o3:Option S),∃ o3',forL (ae [] 3) (ak (ah b9 2 (aj 0)) (ae [] 2)) (bI (k:Nat) n) [pS (.int (h:Nat)),o1,pS (.int (a:Nat)),o3] = .ok .next [pS (.int (h:Nat)),o1,pS (.int ((a * h ^ n:Nat):Int)),o3']
 | 0,k,a,o3=>⟨o3,by simp[bI]⟩
 | n + 1,k,a,o3=>by
  have m:=IH a h hh;obtain⟨o3',ih⟩:=IK h hh o1 n (k + 1) (a * h) (pS (.int (k:Nat)));refine⟨o3',?_⟩;rw[zM,k6 (δ1:=[pS (.int (h:Nat)),o1,pS (.int (a:Nat)),pS (.int (k:Nat))]) (δ2:=[pS (.int (h:Nat)),o1,pS (.int ((a * h:Nat):Int)),pS (.int (k:Nat))]) rfl (by
   generalize D.int (a:Nat)=A at *;generalize D.int (h:Nat)=B at *;generalize ((a * h:Nat):Int)=C at *;simp[ak,ah,bu,aj,m]),ih]
  rw[WL,WY (h ^ n) h,Um]
theorem Zt(h g:Nat)(hh:h<=1000)(hg:g<=1000):Rt nJ [.pure (.int (h:Nat)),.pure (.int (g:Nat))] (.pure (.int ((h ^ g:Nat):Int))):=by
 obtain⟨o3,e⟩:=IK h hh (pS (.int (g:Nat))) g 0 1 none;rw[J8] at e;have e':forL (ae [] 3) (ak (ah b9 2 (aj 0)) (ae [] 2)) (bI 0 g) [pS (.int (h:Nat)),pS (.int (g:Nat)),pS (.int 1),none] = .ok .next [pS (.int (h:Nat)),pS (.int (g:Nat)),pS (.int ((h ^ g:Nat):Int)),o3]:=e;rw[nJ,Gw];have i:dz (aa 1) [pS (.int (h:Nat)),pS (.int (g:Nat)),pS (.int 1),none] = .ok (bI 0 g) [pS (.int (h:Nat)),pS (.int (g:Nat)),pS (.int 1),none]:=by
  have:=jo g Y';simp[aa,this]
 generalize ((h ^ g:Nat):Int)=P at *;refine nN (δ1:=[pS (.int (h:Nat)),pS (.int (g:Nat)),pS (.int P),o3]) ?_;rw[dF (δ1:=[pS (.int (h:Nat)),pS (.int (g:Nat)),pS (.int 1),none]) (by simp[bc,ak])];rw[dF ((nO i).trans e')];simp[aa]
def pB(d:D)(M:Nat):Bool:=match d with
 | .int i=>decide (0<=i) && decide (i<=(M:Int))
 | _=>false
theorem IL (d:D) (M:Nat) (hd:ip "int" d≠none):Rt gm [.pure d,.pure (.int 0),.pure (.int (M:Nat))] (.pure (.bl (pB d M))):=by
 have f:Rt nF [.pure d,.pure (.int 0)] (.pure (.bl (match d with | .int i=>decide (0<=i) | _=>false))):=by
  rw[nF,yM];refine nN (δ1:=[pS d,pS (.int 0)]) ?_
  cases d <;> first | (exact absurd rfl hd) | simp[bc,gG,oh,iU,ip,aj,ah,bu,rH,S.d]
 rw[gm,yN];refine zL (δ1:=[pS d,pS (.int 0),pS (.int (M:Nat))]) ?_
 cases d with
 | int i =>
  have l:=rH i (M:Nat);simp only at f;generalize D.int (M:Nat)=MM at *;have ew:pB (.int i) M=(decide (0<=i) && decide (i<=(M:Int))):=rfl;rw[ew];by_cases h0:0<=i
  ·rw[decide_eq_true h0] at f ⊢;simp[bc,gG,ao,aZ,bB,bz,aa,bh,f,aS,ah,bu,aj,l,S.d]
  ·rw[decide_eq_false h0] at f ⊢;simp[bc,gG,ao,aZ,bB,bz,aa,bh,f,aS,S.d]
 | _ =>
  first
   | exact absurd rfl hd
   | (simp only at f; unfold pB; simp[bc,gG,ao,aZ,bB,bz,aa,bh,f,aS,S.d])
abbrev fL(ru tt:D)(g R C tl br:Nat)(b7:S)(hv:HV)(o9:Option S):Dl :=
 [pS ru,pS tt,pS (.int (g:Nat)),pS (.int (R:Nat)),pS (.int (C:Nat)),pS (.int (tl:Nat)),pS (.int (br:Nat)),some b7,pO (.dic (hD hv)),o9,none,none]
noncomputable abbrev vB:DS:=(aq (ak (ah eM 5 (aw (ah az 0 (aw (eD (.int 0)))))) (ae [] 5)) (aq (ak (ah eM 6 (aw (ah az 0 (aw (eD (.int 1)))))) (ae [] 6)) (ak (ao pb [.val (aa 7),.val (aa 8),.val (aE dP (ah lR 3 (aj 5)) (aw (ah az 0 (aw (eD (.int 0)))))),.val (aE dP (ah lR 4 (aj 6)) (aw (ah az 0 (aw (eD (.int 1))))))]) (ae [] 8))))
theorem IM(a b:Nat)(h0:0 < b)(h1:b<=1000):eM (.int (a:Nat)) (.int (b:Nat))=pS (.int ((a / b:Nat):Int)):=by
 show(if il (a:Int) (b:Int) then some (S.pure (.int ((a:Int) / (b:Int)))) else none)=_;rw[if_pos (by unfold il; simp; lia)];rfl
theorem IQ(a b:Nat)(h0:0 < b):dP (.int (a:Nat)) (.int (b:Nat))=pS (.int ((a % b:Nat):Int)):=by
 show(if decide (0 < (b:Int)) then some (S.pure (.int ((a:Int) % (b:Int)))) else none)=_;rw[if_pos R'];rfl
theorem IS(a b:Nat)(h0:0 < b)(h1:(b:Int) < lQ):lR (.int (a:Nat)) (.int (b:Nat))=pS (.int ((a / b:Nat):Int)):=by
 rw[Sy _ _ Y' h1];rfl
theorem IU(hh:h<=4)(hn:n<=60):((h ^ n:Nat):Int) < lQ:=by
 have h1:h ^ n<=4 ^ 60:=Qe (Nat.pow_le_pow_left hh n) (Nat.pow_le_pow_right Z' hn);have h2:((4 ^ 60:Nat):Int) < lQ:=by decide +kernel
 lia
theorem Zu(Ru:aG h w bs)(h0:0 < h)(h4:h<=4)(w0:0 < w)(w4:w<=4)(tt:D)(g R C m:Nat)(hm:m < 60)(b7:S)(hb:b7 = .own (b_ bs)\/b7 = .pure (b_ bs))(hv:HV)(hk:∀ p ∈ hv,p.1.2.2 ∈ bs.map (·.1))(o9:Option S) :
  vB (fL (aC h w bs) tt g R C (h ^ (m + 1)) (w ^ (m + 1)) b7 hv o9) = .ok .next (fL (aC h w bs) tt g R C (h ^ m) (w ^ m) (.pure (b_ bs)) (gN bs (R / h ^ m % h) (C / w ^ m % w) hv []) o9):=by
 have x0:=(fc h w bs).1;have x1:=(fc h w bs).2.1;have ph:0 < h ^ m:=UG h0;have pw:0 < w ^ m:=UG w0;have d1:=IM (h ^ (m + 1)) h h0 Y';rw[WL,Nat.mul_div_cancel _ h0] at d1;have d2:=IM (w ^ (m + 1)) w w0 Y';rw[WL,Nat.mul_div_cancel _ w0] at d2;have d3:=IS R (h ^ m) ph (IU h4 Y');have d4:=IS C (w ^ m) pw (IU w4 Y');have d5:=IQ (R / h ^ m) h h0;have d6:=IQ (C / w ^ m) w w0;have gh:=Zs Ru hv hk (R / h ^ m % h) (C / w ^ m % w);rw[WL h,WL w];generalize D.int ((R / h ^ m % h:Nat):Int)=e1 at *;generalize D.int ((C / w ^ m % w:Nat):Int)=e2 at *;generalize D.int ((R / h ^ m:Nat):Int)=e3 at *;generalize D.int ((C / w ^ m:Nat):Int)=e4 at *;unfold fL;generalize hD (gN bs (R / h ^ m % h) (C / w ^ m % w) hv [])=HN at *;generalize hD hv=HO at *;generalize D.int ((h ^ m:Nat):Int)=e5 at *;generalize D.int ((w ^ m:Nat):Int)=e6 at *;generalize D.int ((h ^ m * h:Nat):Int)=e7 at *;generalize D.int ((w ^ m * w:Nat):Int)=e8 at *;generalize D.int (R:Nat)=RD at *;generalize D.int (C:Nat)=CD at *;generalize D.int (h:Nat)=hd at *;generalize D.int (w:Nat)=wd at *;generalize aC h w bs=ru at *;generalize b_ bs=DD at *;rw[vB,dF (δ1:=[pS ru,pS tt,pS (.int (g:Nat)),pS RD,pS CD,pS e5,pS e8,some b7,pO (.dic HO),o9,none,none]) (by simp[ak,ah,bu,aj,x0,d1])];rw[dF (δ1:=[pS ru,pS tt,pS (.int (g:Nat)),pS RD,pS CD,pS e5,pS e6,some b7,pO (.dic HO),o9,none,none]) (by simp[ak,ah,bu,aj,x1,d2])];rcases hb with rfl | rfl <;> simp[ak,ao,aZ,bB,bz,aa,aj,bh,ah,bu,x0,x1,d3,d4,d5,d6,gh,aS,S.d]
theorem IV(Ru:aG h w bs)(h0:0 < h)(h4:h<=4)(w0:0 < w)(w4:w<=4)(ht:t ∈ bs.map (·.1))(tt:D)(g R C:Nat)(hg:g<=60):∀ (n k:Nat),k + n=g->∀ (b7:S) (o9:Option S),(b7 = .own (b_ bs)\/b7 = .pure (b_ bs)) ->
  ∃ b7' o9',(b7' = .own (b_ bs)\/b7' = .pure (b_ bs))/\forL (ae [] 9) vB (bI (k:Nat) n) (fL (aC h w bs) tt g R C (h ^ n) (w ^ n) b7 (dE bs h w g R C t k) o9) = .ok .next (fL (aC h w bs) tt g R C 1 1 b7' (dE bs h w g R C t g) o9')
 | 0,k,e,b7,o9,hb=>⟨b7,o9,hb,by
   have:k=g:=by lia
   subst this;simp[bI]⟩
 | n + 1,k,e,b7,o9,hb=>by
  have s1:=Zu Ru h0 h4 w0 w4 tt g R C n Y' b7 hb (dE bs h w g R C t k) (pA Ru ht k).ts (pS (.int (k:Nat)));have en:gN bs (R / h ^ n % h) (C / w ^ n % w) (dE bs h w g R C t k) []=dE bs h w g R C t (k + 1):=by
   show _=gN bs (R / h ^ (g - (k + 1)) % h) (C / w ^ (g - (k + 1)) % w) (dE bs h w g R C t k) [];rw[show g - (k + 1)=n by lia]
  rw[en] at s1;obtain⟨b7',o9',cz,ih⟩:=IV Ru h0 h4 w0 w4 ht tt g R C hg n (k + 1) Y' (.pure (b_ bs)) (pS (.int (k:Nat))) (.inr rfl);refine⟨b7',o9',cz,?_⟩;rw[zM,k6 (δ1:=fL (aC h w bs) tt g R C (h ^ (n + 1)) (w ^ (n + 1)) b7 (dE bs h w g R C t k) (pS (.int (k:Nat)))) rfl s1];exact ih
def ja(p:HK×Nat):Bool:=p.1.1 && p.1.2.1
def iF(kvs:HV):List (aB×D):=(kvs.filter ja).map λp=>(.inr [p.1.2.2],D.int (p.2:Nat))
theorem IW:∀ l:HV,gj (l.map λp=>D.tup [.str [p.1.2.2],.int (p.2:Nat)])=some (l.map λp=>((.inr [p.1.2.2]:aB),D.int (p.2:Nat)))
 | []=>rfl
 | p :: r=>by
  have:=IW r;simp only[We];simp[gj,bD,this]
theorem Zv(h:dI ts kvs):((iF kvs).map (·.1)).Nodup:=by
 unfold iF;rw[Wu,QX,QF];have h1:=h.nd;rw[QX,QF] at h1;have h2:=h1.filter ja;refine(List.pairwise_of_forall_mem_list (l:=kvs.filter ja) (r:=λa b=>a.1≠b.1->(Sum.inr [a.1.2.2]:aB)≠Sum.inr [b.1.2.2]) ?_).imp₂ ?_ h2
 ·intro a ha b hb cq e;have a2:=(List.mem_filter.mp ha).2;have b2:=(List.mem_filter.mp hb).2;unfold ja at a2 b2;simp only[Wy] at a2 b2;apply cq;obtain⟨⟨x1,x2,x3⟩,_⟩:=a;obtain⟨⟨y1,y2,y3⟩,_⟩:=b;simp at a2 b2 e;simp[a2,b2,e]
 ·intro a b q1 q2;exact q1 q2
theorem Zw(h:dI ts kvs)(eS:ts.length<=26):cW (.lst ((kvs.filter ja).map λp=>D.tup [.str [p.1.2.2],.int (p.2:Nat)]))=pO (.au (iF kvs)):=by
 have hl:=h.len;have hf:=List.length_filter_le ja kvs;unfold cW;simp only[IW,WH,Wx];rw[if_pos (by rw[dA]; lia),rJ]
 ·rfl
 ·exact Zv h
theorem Zx(kvs:HV)(n:Nat):(a0 (iF kvs) (.inr [n])).getD (.int 0) = .int (cb kvs (true,true,n):Nat):=by
 have:a0 (iF kvs) (.inr [n])=(kvs.find? λp=>decide (p.1=(true,true,n))).map λp=>D.int (p.2:Nat):=by
  unfold a0 iF;rw[Ue,List.find?_filter,Option.map_map];have e:(λa:HK×Nat=>decide (ja a=true/\((λkv:aB×D=>decide (kv.1=Sum.inr [n])) ∘ λp:HK×Nat=>((Sum.inr [p.1.2.2]:aB),D.int (p.2:Nat))) a=true))=λp=>decide (p.1=(true,true,n)):=by
   funext p
   grind[ja]
  rw[e];rfl
 rw[this];unfold cb
 cases kvs.find? λp=>decide (p.1=(true,true,n)) <;> rfl
def rX(bs:List (Nat×List Tx))(kvs:HV):List D:=bs.map λb=>D.tup [.str [b.1],.int (cb kvs (true,true,b.1):Nat)]
theorem Zy(R:aG h w bs)(kvs:HV):Rt j9 [.pure (aC h w bs),.pure (.au (iF kvs))] (.own (.lst (rX bs kvs))):=by
 have n1:=R.n1;have gt:=Iz R;have c:=j0 (cs:=[2]) (g:=ae [] 2) (t:=bW) (el:=cj (aT (aa 2) (aT (iz 1 (aa 2) (eD (.int 0))) bG))) (λb:Nat×List Tx=>D.str [b.1]) (λb=>D.tup [.str [b.1],.int (cb kvs (true,true,b.1):Nat)]) [pS (aC h w bs),pS (.au (iF kvs)),none] bs [] (by rw[dA]; simp; lia) (λb hb=>by
  have q:=Zx kvs b.1;refine⟨[pS (aC h w bs),pS (.au (iF kvs)),pS (.str [b.1])],_,.pure (.tup [.str [b.1],.int (cb kvs (true,true,b.1):Nat)]),[pS (aC h w bs),pS (.au (iF kvs)),pS (.str [b.1])],rfl,rfl,?_,rfl,rfl⟩;rw[<- q];generalize iF kvs=CC at *;generalize aC h w bs=ru at *;simp[aa,iz,kJ,S.d,bD])
 have et:iE (bs.map (·.1)) = .lst (bs.map λb=>D.str [b.1]):=by unfold iE; rw[Wu]; rfl
 have eY:rX bs kvs=bs.map λb=>D.tup [.str [b.1],.int (cb kvs (true,true,b.1):Nat)]:=rfl
 rw[j9,yP,eY];generalize (bs.map λb=>D.tup [.str [b.1],.int (cb kvs (true,true,b.1):Nat)])=Y at *;generalize hT:iE (bs.map (·.1))=T at *;generalize (bs.map λb:Nat×List Tx=>D.str [b.1])=TS at *;generalize D.au (iF kvs)=CD at *;generalize aC h w bs=ru at *;refine nN (δ1:=[pS ru,pS CD,none]) ?_;have i:bM (ao jw [.val (aa 0)]) [pS ru,pS CD,none] = .ok TS [pS ru,pS CD,none]:=by
  simp[fW,ao,aZ,bB,bz,aa,bh,gt,aS,S.d,et]
 simp only[bc];show((cV _ _ _ _ _ _).bind _)=_;have cU:(([S.pure ru,S.pure CD].map some) ++ Wm (3 - [S.pure ru,S.pure CD].length) none:Dl)=[pS ru,pS CD,none]:=rfl;rw[cU,x8,i];simp only[jY];have eC:([2]:List Nat).any (bC [pS ru,pS CD,none])=false:=rfl;have iA:bj [2] [pS ru,pS CD,none]=[pS ru,pS CD,none]:=rfl;rw[eC,iA,c];rfl
theorem Zz(e:b (bc n [.pure x,.pure y,.pure z,.pure u,.pure v]) = .ok (.ret r) δ1):bf [] n b [.pure x,.pure y,.pure z,.pure u,.pure v]=some (r,[.pure x,.pure y,.pure z,.pure u,.pure v]):=by
 rw[dS,e]; rfl
abbrev wC:DE:=(cV [10,11] (j6 (aa 8)) (a_ 2 (aA (ae [] 10) (aA (ae [] 11) ba))) (kz (aI (ah az 10 (aw (eD (.int 0))))) (aI (ah az 10 (aw (eD (.int 1)))))) (cj (aT (ah az 10 (aw (eD (.int 2)))) (aT (aa 11) bG))))
abbrev jb(ru tt:D)(g R C tl br:Nat)(b7:S)(hd:D)(o9:Option S):Dl :=
 [pS ru,pS tt,pS (.int (g:Nat)),pS (.int (R:Nat)),pS (.int (C:Nat)),pS (.int (tl:Nat)),pS (.int (br:Nat)),some b7,pS hd,o9,none,none]
theorem ZA(h:dI ts kvs)(eS:ts.length<=26)(ru tt:D)(g R C tl br:Nat)(b7:S)(o9:Option S):wC (fL ru tt g R C tl br b7 kvs o9) = .ok (.own (.lst ((kvs.filter ja).map λp=>D.tup [.str [p.1.2.2],.int (p.2:Nat)]))) (jb ru tt g R C tl br b7 (.dic (hD kvs)) o9):=by
 have hl:=h.len;have c:=zJ (cs:=[10,11]) (g:=a_ 2 (aA (ae [] 10) (aA (ae [] 11) ba))) (t:=kz (aI (ah az 10 (aw (eD (.int 0))))) (aI (ah az 10 (aw (eD (.int 1)))))) (el:=cj (aT (ah az 10 (aw (eD (.int 2)))) (aT (aa 11) bG)))
  (λp:HK×Nat=>D.tup [bL p.1,.int (p.2:Nat)]) (λp=>D.tup [.str [p.1.2.2],.int (p.2:Nat)]) ja (jb ru tt g R C tl br b7 (.dic (hD kvs)) o9) kvs [] (by rw[dA]; simp; lia) (λp hp=>by
   obtain⟨⟨a,b,n⟩,m⟩:=p;have y0:az (bL (a,b,n)) (.int 0)=pS (.bl a):=by grind[bL,az,oE]
   have y1:az (bL (a,b,n)) (.int 1)=pS (.bl b):=by unfold bL; simp[az,uy]
   have y2:az (bL (a,b,n)) (.int 2)=pS (.str [n]):=by unfold bL; simp[az,ux]
   unfold jb;generalize D.dic (hD kvs)=HH at *;refine⟨[pS ru,pS tt,pS (.int (g:Nat)),pS (.int (R:Nat)),pS (.int (C:Nat)),pS (.int (tl:Nat)),pS (.int (br:Nat)),some b7,pS HH,o9,pS (bL (a,b,n)),pS (.int (m:Nat))],
    [pS ru,pS tt,pS (.int (g:Nat)),pS (.int (R:Nat)),pS (.int (C:Nat)),pS (.int (tl:Nat)),pS (.int (br:Nat)),some b7,pS HH,o9,pS (bL (a,b,n)),pS (.int (m:Nat))],.pure (.tup [.str [n],.int (m:Nat)]),
    [pS ru,pS tt,pS (.int (g:Nat)),pS (.int (R:Nat)),pS (.int (C:Nat)),pS (.int (tl:Nat)),pS (.int (br:Nat)),some b7,pS HH,o9,pS (bL (a,b,n)),pS (.int (m:Nat))],rfl,?_,rfl,?_,rfl,rfl⟩
   ·generalize bL (a,b,n)=KK at *
    cases a <;> cases b <;> simp[ja,aI,ah,bu,aj,y0,y1]
   ·generalize bL (a,b,n)=KK at *;simp[ah,bu,aj,y2,aa])
 have eI:ju (hD kvs)=kvs.map λp=>D.tup [bL p.1,.int (p.2:Nat)]:=by unfold ju hD; rw[Wu]; rfl
 have i:j6 (aa 8) (fL ru tt g R C tl br b7 kvs o9) = .ok (kvs.map λp=>D.tup [bL p.1,.int (p.2:Nat)]) (jb ru tt g R C tl br b7 (.dic (hD kvs)) o9):=by
  rw[<- eI];unfold fL jb;generalize hD kvs=HH at *;simp[j6,aa,S.d]
 unfold wC;rw[x8,i];simp only[jY];have eC:([10,11]:List Nat).any (bC (jb ru tt g R C tl br b7 (.dic (hD kvs)) o9))=false:=rfl;have iA:bj [10,11] (jb ru tt g R C tl br b7 (.dic (hD kvs)) o9)=jb ru tt g R C tl br b7 (.dic (hD kvs)) o9:=rfl;rw[eC,iA,c];rfl
abbrev gu(ru tt:D)(gd:D)(rd cd:D)(o5 o6:Option S):Dl:=[pS ru,pS tt,pS gd,pS rd,pS cd,o5,o6,none,none,none,none,none]
abbrev k1:DS:=(du (ao eR [.val (aa 0),.val (aa 1)]))
abbrev k2:DS:=(ak (ao gq [.val (eD (.int 1)),.val (ah az 0 (aw (eD (.int 0)))),.val (aa 2)]) (ae [] 5))
abbrev k3:DS:=(ak (ao gq [.val (eD (.int 1)),.val (ah az 0 (aw (eD (.int 1)))),.val (aa 2)]) (ae [] 6))
abbrev k4:DS:=(cx (gF (fA (aI (ao gm [.val (aa 3),.val (eD (.int 0)),.val (aa 5)]))) (fA (aI (ao gm [.val (aa 4),.val (eD (.int 0)),.val (aa 6)])))) jU cC)
theorem ZC(R:aG h w bs)(ht:t ∈ bs.map (·.1))(rd cd:D):k1 (gu (aC h w bs) (.str [t]) (.int (g:Nat)) rd cd none none) = .ok .next (gu (aC h w bs) (.str [t]) (.int (g:Nat)) rd cd none none):=by
 have g0:=rW R ht;generalize aC h w bs=ru at *;simp[k1,du,ao,aZ,bB,bz,aa,bh,g0,aS]
theorem ZD(GS:DF)(x0:az ru (.int 0)=pS hh)(s:Rt GS [.pure (.int 1),.pure hh,.pure gg] (.pure PP))(tt rd cd:D):(ak (ao GS [.val (eD (.int 1)),.val (ah az 0 (aw (eD (.int 0)))),.val (aa 2)]) (ae [] 5)) (gu ru tt gg rd cd none none) = .ok .next (gu ru tt gg rd cd (pS PP) none):=by
 simp[ak,ao,aZ,bB,bz,aa,bh,ah,bu,aj,x0,s,aS]
theorem ZE(GS:DF)(x0:az ru (.int 1)=pS hh)(s:Rt GS [.pure (.int 1),.pure hh,.pure gg] (.pure PP))(tt rd cd:D)(o5:Option S):(ak (ao GS [.val (eD (.int 1)),.val (ah az 0 (aw (eD (.int 1)))),.val (aa 2)]) (ae [] 6)) (gu ru tt gg rd cd o5 none) = .ok .next (gu ru tt gg rd cd o5 (pS PP)):=by
 simp[ak,ao,aZ,bB,bz,aa,bh,ah,bu,aj,x0,s,aS]
theorem ZF(h4:h<=4)(hg:g<=60)(tt rd cd:D):k2 (gu (aC h w bs) tt (.int (g:Nat)) rd cd none none) = .ok .next (gu (aC h w bs) tt (.int (g:Nat)) rd cd (pS (.int ((h ^ g:Nat):Int))) none) :=
 ZD gq (fc h w bs).1 (IJ h g Y' Y') tt rd cd
theorem ZG(w4:w<=4)(hg:g<=60)(tt rd cd:D)(o5:Option S):k3 (gu (aC h w bs) tt (.int (g:Nat)) rd cd o5 none) = .ok .next (gu (aC h w bs) tt (.int (g:Nat)) rd cd o5 (pS (.int ((w ^ g:Nat):Int)))) :=
 ZE gq (fc h w bs).2.1 (IJ w g Y' Y') tt rd cd o5
theorem IX(a b:Nat):cR (.int (a:Nat)) (.int (b:Nat))=pS (.bl (decide (a=b))):=by
 rw[zK];have:((a:Int) == (b:Int))=decide (a=b):=by
  rw[Bool.eq_iff_iff];simp only[beq_iff_eq,decide_eq_true_eq];lia
 rw[this]
theorem ZH (ru tt rd cd:D) (g A B:Nat) (hr:ip "int" rd≠none) (hc:ip "int" cd≠none) (h1:pB rd A=true) (h2:pB cd B=true):k4 (gu ru tt (.int (g:Nat)) rd cd (pS (.int (A:Nat))) (pS (.int (B:Nat)))) = .ok .next (gu ru tt (.int (g:Nat)) rd cd (pS (.int (A:Nat))) (pS (.int (B:Nat)))):=by
 have e1:=IL rd A hr;have e2:=IL cd B hc;rw[h1] at e1;rw[h2] at e2;generalize D.int (A:Nat)=AA at *;generalize D.int (B:Nat)=BB at *;simp[k4,aI,ao,aZ,bB,bz,aa,bh,e1,e2,aS]
theorem IY(h:a<=b):pB (.int (a:Nat)) b=true:=by
 show(decide (0<=(a:Int)) && decide ((a:Int)<=(b:Int)))=true;simp only[Wy,decide_eq_true_eq];lia
theorem ZI(Ru:aG h w bs)(h0:0 < h)(h4:h<=4)(w0:0 < w)(w4:w<=4)(ht:t ∈ bs.map (·.1))(g R C:Nat)(hg:g<=60)(hR:R<=h ^ g)(hC:C<=w ^ g) :
  Rt j_ [.pure (aC h w bs),.pure (.str [t]),.pure (.int (g:Nat)),.pure (.int (R:Nat)),.pure (.int (C:Nat))] (.own (.lst (rX bs (dE bs h w g R C t g)))):=by
 have n1:=Ru.n1;have eS:(bs.map (·.1)).length<=26:=by simpa using n1
 have x2:=(fc h w bs).2.2;have hd:=u9 Ru;have ax:=pA (g:=g) (R:=R) (C:=C) Ru ht g;have s1:=ZC (g:=g) Ru ht (.int (R:Nat)) (.int (C:Nat));have s2:=ZF (bs:=bs) (w:=w) h4 hg (.str [t]) (.int (R:Nat)) (.int (C:Nat));have s3:=ZG (bs:=bs) (h:=h) w4 hg (.str [t]) (.int (R:Nat)) (.int (C:Nat)) (pS (.int ((h ^ g:Nat):Int)));have s4:=ZH (aC h w bs) (.str [t]) (.int (R:Nat)) (.int (C:Nat)) g (h ^ g) (w ^ g) (by simp[ip]) (by simp[ip]) (IY hR) (IY hC);obtain⟨b7,o9,hb7,lp⟩:=IV Ru h0 h4 w0 w4 ht (.str [t]) g R C hg g 0 Y' (.own (b_ bs)) none (.inl rfl);have c:=ZA ax eS (aC h w bs) (.str [t]) g R C 1 1 b7 o9;have dc:=Zw ax eS;have gl:=Zy Ru (dE bs h w g R C t g);have e1:=IX R (h ^ g);have e2:=IX C (w ^ g);have IZ:=HP [] (decide (R=h ^ g),decide (C=w ^ g),t);have z0:[(bL (decide (R=h ^ g),decide (C=w ^ g),t),D.int 1)]=hD (dE bs h w g R C t 0):=rfl;have I0:forL (ae [] 9) vB (bI 0 g) (fL (aC h w bs) (.str [t]) g R C (h ^ g) (w ^ g) (.own (b_ bs)) (dE bs h w g R C t 0) none) = .ok .next (fL (aC h w bs) (.str [t]) g R C 1 1 b7 (dE bs h w g R C t g) o9):=lp;rw[j_,Gy];refine Zz (δ1:=jb (aC h w bs) (.str [t]) g R C 1 1 b7 (.dic (hD (dE bs h w g R C t g))) o9) ?_;refine(dF s1).trans ?_;refine(dF s2).trans ?_;refine(dF s3).trans ?_;refine(dF s4).trans ?_;clear s1 s2 s3 s4 lp hR hC ax;rw[dF (δ1:=[pS (aC h w bs),pS (.str [t]),pS (.int (g:Nat)),pS (.int (R:Nat)),pS (.int (C:Nat)),pS (.int ((h ^ g:Nat):Int)),pS (.int ((w ^ g:Nat):Int)),pO (b_ bs),none,none,none,none]) (by
  generalize aC h w bs=ru at *;generalize D.tup (bs.map cX)=bd at *;generalize b_ bs=DD at *;simp[ak,ah,bu,aj,x2,hd])]
 rw[dF (δ1:=fL (aC h w bs) (.str [t]) g R C (h ^ g) (w ^ g) (.own (b_ bs)) (dE bs h w g R C t 0) none) (by
  unfold fL;rw[<- z0];have I_:j5 (kR (bL (decide (R=h ^ g),decide (C=w ^ g),t))) [] (bL (decide (R=h ^ g),decide (C=w ^ g),t))=true:=IZ;have eK:bL (decide (R=h ^ g),decide (C=w ^ g),t) = .tup [.bl (decide (R=h ^ g)),.bl (decide (C=w ^ g)),.str [t]]:=rfl;rw[eK] at I_ ⊢;generalize decide (R=h ^ g)=B1 at *;generalize decide (C=w ^ g)=B2 at *;generalize D.int ((h ^ g:Nat):Int)=I1 at *;generalize D.int ((w ^ g:Nat):Int)=I2 at *;generalize aC h w bs=ru at *;generalize b_ bs=DD at *;simp[ak,qV,ah,bu,aj,e1,e2,aa,I_])]
 have i:dz (aa 2) (fL (aC h w bs) (.str [t]) g R C (h ^ g) (w ^ g) (.own (b_ bs)) (dE bs h w g R C t 0) none) = .ok (bI 0 g) (fL (aC h w bs) (.str [t]) g R C (h ^ g) (w ^ g) (.own (b_ bs)) (dE bs h w g R C t 0) none):=by
  have:=jo g Y';simp[aa,this]
 rw[dF ((nO i).trans I0)];clear I0 i e1 e2 IZ z0;generalize dE bs h w g R C t g=HN at *;generalize ((HN.filter ja).map λp=>D.tup [.str [p.1.2.2],.int (p.2:Nat)])=PL at *;generalize hCT:D.au (iF HN)=CT at *;have c':aR cW (aw wC) (fL (aC h w bs) (.str [t]) g R C 1 1 b7 HN o9) = .ok (.own CT) (jb (aC h w bs) (.str [t]) g R C 1 1 b7 (.dic (hD HN)) o9):=by
  unfold aR aw;rw[c];simp[S.d,dc]
 generalize aR cW (aw wC)=EC at *;unfold fL at c';unfold fL jb;unfold jb at c';generalize D.int ((1:Nat):Int)=ONE at *;generalize aC h w bs=ru at *;generalize rX bs HN=Y at *;simp[ao,aZ,bB,bz,aa,bh,c',gl,aS,S.d]
theorem zO(Ru:aG h w bs)(ht:t ∈ bs.map (·.1))(g R C:Nat)(hg:g<=60)(hR:R<=h ^ g)(hC:C<=w ^ g) :
  Rt j_ [.pure (aC h w bs),.pure (.str [t]),.pure (.int (g:Nat)),.pure (.int (R:Nat)),.pure (.int (C:Nat))] (.own (.lst (res bs (cZ h bs g t R C)))):=by
 have e:rX bs (dE bs h w g R C t g)=res bs (cZ h bs g t R C):=WO λb _=>by rw[Zp Ru ht g R C b.1 hR hC]
 rw[Rt,ZI Ru Ru.h0 Ru.h1 Ru.w0 Ru.w1 ht g R C hg hR hC,e]
def val(dm:List (Nat×Nat))(s:Nat):Nat:=((dm.find? λp=>decide (p.1=s)).map (·.2)).getD 0
def put(dm:List (Nat×Nat))(s m:Nat):List (Nat×Nat):=if (dm.any λp=>decide (p.1=s))=true then dm.map (λp=>if p.1=s then(p.1,m) else p) else dm ++ [(s,m)]
theorem vk(h:s ∉ dm.map (·.1)):val dm s=0:=by
 have:dm.find? (λp=>decide (p.1=s))=none:=List.find?_eq_none.mpr λp hp e=>h (WD.mpr ⟨p,hp,by simpa using e⟩)
 unfold val;rw[this];rfl
theorem k7(k m s:Nat)(r:List (Nat×Nat)):val ((k,m) :: r) s=if k=s then m else val r s:=by
 unfold val;rw[WW];by_cases h:k=s
 ·simp[h]
 ·simp[h]
theorem ZJ(s m x:Nat):∀ dm:List (Nat×Nat),val (put dm s m) x=if s=x then m else val dm x:=by
 intro dm;have key:∀ r:List (Nat×Nat),val (r.map λp=>if p.1=s then(p.1,m) else p) x=if s=x/\s ∈ r.map (·.1) then m else val r x:=by
  intro r;induction r with
  | nil=>grind
  | cons p r ih =>
   obtain⟨k,q⟩:=p;rw[We];by_cases hk:k=s
   ·subst hk;rw[if_pos rfl,k7,k7];grind
   ·rw[if_neg hk,k7,k7,ih];grind
 unfold put;split
 ·grind
 ·rename_i h;have hs:s ∉ dm.map (·.1):=λhm=>by grind
  have app:∀ r:List (Nat×Nat),s ∉ r.map (·.1)->val (r ++ [(s,m)]) x=if s=x then m else val r x:=by
   intro r;induction r with
   | nil=>intro _; rw[Qm,k7]
   | cons p r ih =>
    obtain⟨k,q⟩:=p;intro hr;have hk:k≠s:=by grind
    rw[JM,k7,k7,ih λz=>hr (by grind)];by_cases hx:s=x
    ·subst hx;simp[hk]
    ·simp[hx]
  exact app dm hs
theorem J_(s m:Nat)(dm:List (Nat×Nat)):(put dm s m).map (·.1)=if s ∈ dm.map (·.1) then dm.map (·.1) else dm.map (·.1) ++ [s]:=by
 have ZK:(dm.any λp=>decide (p.1=s))=true ↔ s ∈ dm.map (·.1):=by grind
 unfold put;by_cases h:s ∈ dm.map (·.1)
 ·rw[if_pos (ZK.mpr h),if_pos h,Wu];refine WO λp _=>?_
  grind
 grind
structure Dm(ts:List Nat)(dm:List (Nat×Nat)):Prop where
 nd:(dm.map (·.1)).Nodup
 sub:∀ k ∈ dm.map (·.1),k ∈ ts
theorem Dm.put(D:Dm ts dm)(m:Nat)(hs:s ∈ ts):Dm ts (put dm s m):=by
 constructor
 ·rw[J_];split
  ·exact D.nd
  ·rename_i h;refine JE.mpr ⟨D.nd,U',λa ha b hb e=>h ?_⟩;have hb:b=s:=by simpa using hb
   rw[<- hb,<- e]; exact ha
 ·rw[J_];intro k hk;split at hk
  ·exact D.sub k hk
  ·rcases Ja.mp hk with hk | hk
   ·exact D.sub k hk
   grind
def jC(f:Nat->Nat)(m:Nat):List Nat->List (Nat×Nat)->List (Nat×Nat)
 | [],dm=>dm
 | p :: r,dm=>jC f m r (put dm p (val dm p + m * f p))
theorem zP(f:Nat->Nat)(m:Nat):∀ (ps:List Nat) (dm:List (Nat×Nat)),Dm ts dm->ps.Nodup->(∀ p ∈ ps,p ∈ ts)->Dm ts (jC f m ps dm)/\∀ s,val (jC f m ps dm) s=val dm s + if s ∈ ps then m * f s else 0
 | [],dm,D,_,_=>⟨D,λs=>by simp[jC]⟩
 | p :: r,dm,D,nd,hp=>by
  obtain⟨n1,n2⟩:=WI.mp nd;obtain⟨h1,h2⟩:=zP f m r (put dm p (val dm p + m * f p)) (D.put _ (hp p W7)) n2 (by grind);refine⟨h1,λs=>?_⟩;show val (jC f m r (put dm p (val dm p + m * f p))) s=_;rw[h2,ZJ];by_cases hs:p=s
  ·subst hs;simp[n1]
  ·simp[hs,Ne.symm hs]
def rY(bs:List (Nat×List Tx))(ps:Nat->List Nat):List (Nat×Nat)->List (Nat×Nat)->List (Nat×Nat)
 | [],dm=>dm
 | p :: r,dm=>rY bs ps r (jC (M bs p.1) p.2 (ps p.1) dm)
theorem Ka(jx:(bs.map (·.1)).Nodup)(h1:∀ t ∈ bs.map (·.1),(ps t).Nodup/\(∀ p ∈ ps t,p ∈ bs.map (·.1))/\∀ s,s ∉ ps t->M bs t s=0):∀ (ag dm:List (Nat×Nat)),(∀ k ∈ ag.map (·.1),k ∈ bs.map (·.1))->(ag.map (·.1)).Nodup->Dm (bs.map (·.1)) dm ->
  Dm (bs.map (·.1)) (rY bs ps ag dm)/\∀ s,val (rY bs ps ag dm) s=val dm s + sm (bs.map (·.1)) λt=>val ag t * M bs t s
 | [],dm,_,_,D=>⟨D,λs=>by
   rw[pq λt _=>by rw[vk U',UN]];rfl⟩
 | (k,m) :: r,dm,hk,nd,D=>by
  have pC:k ∈ bs.map (·.1):=by grind
  obtain⟨p1,p2,p3⟩:=h1 k pC;obtain⟨D1,v1⟩:=zP (M bs k) m (ps k) dm D p1 p2;rw[We] at nd;obtain⟨n1,n2⟩:=WI.mp nd;obtain⟨D2,v2⟩:=Ka jx h1 r (jC (M bs k) m (ps k) dm) (λq hq=>hk q (by rw[We]; exact W9 _ hq)) n2 D1;refine⟨D2,λs=>?_⟩;show val (rY bs ps r (jC (M bs k) m (ps k) dm)) s=_;have e:sm (bs.map (·.1)) (λt=>val ((k,m) :: r) t * M bs t s)=sm (bs.map (·.1)) (λt=>val r t * M bs t s) + m * M bs k s:=by
   have e0:sm (bs.map (·.1)) (λt=>val ((k,m) :: r) t * M bs t s)=sm (bs.map (·.1)) (λt=>val r t * M bs t s + (if t=k then 1 else 0) * (m * M bs t s)):=ma λt _=>by
    rw[k7];by_cases q:k=t
    ·subst q;rw[vk n1];simp
    ·simp[q,Ne.symm q]
   rw[e0,rP,zC (λt=>m * M bs t s) k _ jx pC]
  rw[v2,v1,e];by_cases hs:s ∈ ps k
  ·simp[hs];lia
  ·simp[hs,p3 s hs]
theorem vm(i j:Int):bH (.int i) (.int j)=pS (.int (i + j)):=rfl
theorem Kb(xs:List Tx)(m:Nat)(h:∀ x ∈ xs,x.length<=m):gI xs<=xs.length * m:=by
 induction xs with
 | nil=>simp[gI]
 | cons x r ih =>
  have h1:=h x W7;have h2:=ih λy hy=>h y (W9 _ hy)
  have e:gI (x :: r)=x.length + gI r:=by simp[gI]
  rw[e,WA,JO];lia
theorem ZL(R:aG h w bs):Rt jw [.pure (aC h w bs)] (.own (iE (bs.map (·.1)))):=by
 have n1:=R.n1;obtain⟨_,_,x2⟩:=fc h w bs;have e:=j0 (cs:=[1,2]) (g:=a_ 2 (aA (ae [] 1) (aA (ae [] 2) ba))) (t:=bW) (el:=aa 1) cX (λb=>.str [b.1]) [pS (aC h w bs),none,none] bs [] (by rw[dA]; simp; lia) (λb hb=>by
  refine⟨[pS (aC h w bs),pS (.str [b.1]),pS (bR b.2)],_,.pure (.str [b.1]),[pS (aC h w bs),pS (.str [b.1]),pS (bR b.2)],rfl,rfl,?_,rfl,rfl⟩;simp[aa])
 simp only[Qm] at e;rw[jw];refine Iy (δ1:=[pS (aC h w bs),none,none]) ?_;rw[yK];have et:iE (bs.map (·.1)) = .lst (bs.map λb=>D.str [b.1]):=by simp[iE,Function.comp_def]
 rw[et];show bA (cV [1,2] (bM (ah az 0 (aw (eD (.int 2))))) (a_ 2 (aA (ae [] 1) (aA (ae [] 2) ba))) bW (aa 1)) [pS (aC h w bs),none,none]=_;generalize aC h w bs=U at *;simp[fW,ah,bu,aj,x2,bC,bj,e,cJ]
theorem Kc(xs:List Tx)(h:gI xs<=16777216):dQ [] (bR xs)=pS (.str xs.flatten):=by
 unfold dQ;simp only[x_,uz];rw[if_pos (by simpa using h)]
theorem ZM(R:aG h w bs)(F:Nat×List Tx->D)(hb:bs[i]? = some b):putD ((bs.take i).map λb=>((Sum.inr [b.1]:aB),F b)) (.inr [b.1]) (F b)=(bs.take (i + 1)).map λb=>((Sum.inr [b.1]:aB),F b):=by
 have hi:=(W6.mp hb).1;have hn:(((bs.take i).map λb=>((Sum.inr [b.1]:aB),F b)).any λkv=>decide (kv.1 = .inr [b.1]))=false:=by
  rw[Uz];intro kv hkv;obtain⟨c,hc,rfl⟩:=WD.mp hkv;simp only[decide_eq_true_eq];intro e;simp at e;obtain⟨j,hj⟩:=List.getElem?_of_mem hc;have Kd:j < i:=by have:=(W6.mp hj).1; simp at this; lia
  rw[List.getElem?_take_of_lt Kd] at hj;have:=List.pairwise_iff_getElem.mp R.up j i R' (by simpa using hi) Kd;have e1:=(W6.mp hj).2;have e2:=(W6.mp hb).2;simp only[List.getElem_map,e1,e2] at this;lia
 grind[putD,List.take_add_one]
theorem vn(R:aG h w bs)(hb:b ∈ bs):dQ [] (bR b.2)=pS (.str b.2.flatten)/\b.2.flatten.length<=16/\∀ n ∈ b.2.flatten,n ∈ bs.map (·.1):=by
 obtain⟨h1,h2⟩:=R.aV b hb;have hh:=R.h1;have hw:=R.w1;have hs:=Kb b.2 w (λx hx=>Nat.le_of_eq (h2 x hx).1);have hm:b.2.length * w<=4 * 4:=Uy Y' hw;refine⟨Kc _ Y',?_,λn hn=>?_⟩
 ·have:b.2.flatten.length=gI b.2:=by rw[List.length_flatten]; rfl
  lia
 ·obtain⟨r,hr,hn⟩:=List.mem_flatten.mp hn;exact(h2 r hr).2 n hn
theorem ZN(R:aG h w bs)(ht:t ∈ bs.map (·.1))(s:Nat):M bs t s<=16:=by
 obtain⟨b,hb,_,_,e2⟩:=gM ht;unfold M;rw[e2];exact Qe List.count_le_length (vn R hb).2.1
abbrev Ke:DS:=(eO 1 (aa 2) (cV [5] (bM (aR jq (aj 4))) (ae [] 5) bW (cj (aT (aa 5) (aT (lY (aa 4) (aa 5)) bG)))))
theorem vo:∀ {z σ:List Nat},x ∈ dB σ z ↔ x ∈ σ\/x ∈ z
 | [],σ=>by simp[dB]
 | n :: r,σ=>by
  unfold dB;split
  ·rename_i h;rw[vo (z:=r)];grind
  ·rw[vo (z:=r)];simp[or_assoc]
theorem vp:∀ {z σ:List Nat},σ.Nodup->(dB σ z).Nodup
 | [],σ,h=>by simpa[dB] using h
 | n :: r,σ,h=>by
  unfold dB;split
  ·exact vp h
  ·rename_i q;refine vp (JE.mpr ⟨h,U',λa ha b hb e=>q ?_⟩);grind
def ps(b2:List Tx):List Nat:=gk (dB [] b2.flatten)
theorem zQ(b2:List Tx)(x:Nat):x ∈ ps b2 ↔ x ∈ b2.flatten:=by grind[ps,uB,vo]
theorem zR(b2:List Tx):(ps b2).Nodup:=(yc (vp Ux)).imp λh=>Wo h
def g_(b2:List Tx):List D:=(ps b2).map λp=>D.tup [.str [p],.int ((b2.flatten.count p:Nat):Int)]
def fM(bs:List (Nat×List Tx)):D:=.au (bs.map λb=>((Sum.inr [b.1]:aB),D.lst (g_ b.2)))
theorem ZO(ru dd:S)(tl bl:D)(z:Tx)(qs:List Nat)(hl:qs.length<=1000):cK [5] (ae [] 5) bW (cj (aT (aa 5) (aT (lY (aa 4) (aa 5)) bG))) (qs.map λn=>D.str [n]) [some ru,some dd,pS tl,pS bl,pS (.str z),none] [] = .ok (qs.map λp=>D.tup [.str [p],.int ((z.count p:Nat):Int)]) [some ru,some dd,pS tl,pS bl,pS (.str z),none]:=by
 have:=j0 (cs:=[5]) (g:=ae [] 5) (t:=bW) (el:=cj (aT (aa 5) (aT (lY (aa 4) (aa 5)) bG))) (λn=>D.str [n]) (λp=>D.tup [.str [p],.int ((z.count p:Nat):Int)]) [some ru,some dd,pS tl,pS bl,pS (.str z),none] qs [] (by rw[dA]; simp; lia) (λs hs=>by
  refine⟨[some ru,some dd,pS tl,pS bl,pS (.str z),pS (.str [s])],_,.pure (.tup [.str [s],.int ((z.count s:Nat):Int)]),[some ru,some dd,pS tl,pS bl,pS (.str z),pS (.str [s])],rfl,rfl,?_,rfl,rfl⟩;simp[aa,lY,Ez,Ey])
 rw[this];simp
theorem ZP(R:aG h w bs):Rt oX [.pure (aC h w bs)] (.own (fM bs)):=by
 have x2:=(fc h w bs).2.2;have n1:=R.n1;have loop:∃ o2 o3 o4:Option D,forL (a_ 2 (aA (ae [] 2) (aA (ae [] 3) ba))) (aq (ak (aR (dQ []) (aj 3)) (ae [] 4)) Ke) (bs.map cX) [pS (aC h w bs),pO (.au []),none,none,none,none]
   = .ok .next [pS (aC h w bs),pO (fM bs),o2.map .pure,o3.map .pure,o4.map .pure,none]:=by
  obtain⟨δ',e,o2,o3,o4,rfl⟩:=jZ (g:=a_ 2 (aA (ae [] 2) (aA (ae [] 3) ba))) (b:=aq (ak (aR (dQ []) (aj 3)) (ae [] 4)) Ke)
   (λk δ=>∃ o2 o3 o4:Option D,δ=[pS (aC h w bs),pO (.au ((bs.take k).map λb=>((Sum.inr [b.1]:aB),D.lst (g_ b.2)))),o2.map .pure,o3.map .pure,o4.map .pure,none]) (bs.map cX) 0 [pS (aC h w bs),pO (.au []),none,none,none,none] ⟨none,none,none,U'⟩ (λi d δ hd ⟨o2,o3,o4,e⟩=>by
   subst e;rw[Wp,Ww] at hd;obtain⟨b,hb,rfl⟩:=hd;rw[Q3];have hm:=Q4 hb;obtain⟨t1,t2,t3⟩:=vn R hm;have hz:((bs.take i).map λb=>((Sum.inr [b.1]:aB),D.lst (g_ b.2))).length < Wb:=by
    rw[dA]; simp; lia
   have hs:jq (.str b.2.flatten)=pO (.lst ((ps b.2).map λn=>.str [n])):=by
    unfold jq;dsimp only;rw[if_pos Y'];rfl
   have hl:(ps b.2).length<=1000:=by
    unfold ps;rw[yb];have:=qO b.2.flatten [];rw[U1] at this;lia
   have hc:=ZO (.pure (aC h w bs)) (.own (.au ((bs.take i).map λb=>((Sum.inr [b.1]:aB),D.lst (g_ b.2))))) (.str [b.1]) (bR b.2) b.2.flatten (ps b.2) hl;have hp:=ZM R (λb=>D.lst (g_ b.2)) hb;refine⟨[pS (aC h w bs),pO (.au ((bs.take i).map λb=>((Sum.inr [b.1]:aB),D.lst (g_ b.2)))),pS (.str [b.1]),pS (bR b.2),o4.map .pure,none],_,rfl,?_,some (.str [b.1]),some (bR b.2),some (.str b.2.flatten),rfl⟩;have dY:(ps b.2).map (λp=>D.tup [.str [p],.int ((b.2.flatten.count p:Nat):Int)])=g_ b.2:=rfl;rw[dY] at hc;generalize ((bs.take (i + 1)).map λb=>((Sum.inr [b.1]:aB),D.lst (g_ b.2)))=L1 at *;generalize ((bs.take i).map λb=>((Sum.inr [b.1]:aB),D.lst (g_ b.2)))=L0 at *;generalize ((ps b.2).map λn=>D.str [n])=QS at *;generalize g_ b.2=PL at *;generalize b.2.flatten=z at *;generalize aC h w bs=ru at *;generalize bR b.2=fb at *;generalize o4.map S.pure=p4 at *;simp[ak,aj,t1,eO,i4,fW,hs,bC,bj];rw[hc];simp[cJ,i4,aa,bD,hz,hp])
  refine⟨o2,o3,o4,?_⟩;rw[e];simp[fM]
 obtain⟨o2,o3,o4,e⟩:=loop;rw[Rt,oX,dS,Gp];generalize fM bs=DT at *;generalize hru:aC h w bs=ru at *;generalize o2.map S.pure=p2 at *;generalize o3.map S.pure=p3 at *;generalize o4.map S.pure=p4 at *;simp[bO,bc,ak,fW,gL,ah,bu,aj,x2];rw[e];simp[gZ,bP,bJ]
theorem ZQ(ht:t ∈ bs.map (·.1)):cp (fM bs) (.str [t])=pS (.lst ((ps (aV bs t)).map λp=>D.tup [.str [p],.int ((M bs t p:Nat):Int)])):=by
 obtain⟨b,hb,e0,e1,e2⟩:=gM ht;have hv:a0 (bs.map λb=>((Sum.inr [b.1]:aB),D.lst (g_ b.2))) (.inr [t])=some (.lst (g_ b.2)):=by
  unfold a0;rw[Ue];have:((λkv:aB×D=>decide (kv.1 = .inr [t])) ∘ λb:Nat×List Tx=>((Sum.inr [b.1]:aB),D.lst (g_ b.2)))=λb=>decide (b.1=t):=by
   funext b
   simp
  rw[this,e1];rfl
 unfold fM cp;simp only[bD,WH,hv,Wz];unfold g_ M;rw[e2]
abbrev vq:DE:=(aE bH (iz 6 (aa 9) (eD (.int 0))) (aw (ah b9 8 (aj 10))))
abbrev zS:DG:=(a_ 2 (aA (ae [] 9) (aA (ae [] 10) ba)))
def dL(dm:List (Nat×Nat)):List (aB×D):=dm.map λp=>((Sum.inr [p.1]:aB),D.int ((p.2:Nat):Int))
theorem Kf:∀ {l ts:List Nat},l.Nodup->(∀ x ∈ l,x ∈ ts)->l.length<=ts.length
 | [],_,_,_=>Qn _
 | a :: r,ts,nd,h=>by
  obtain⟨n1,n2⟩:=WI.mp nd;have ha:=h a W7;have:=Kf (l:=r) (ts:=ts.erase a) n2 λx hx=>by
   have:x≠a:=λe=>n1 (by rw[<- e]; exact hx)
   exact(Uk this).mpr (h x (W9 _ hx))
  rw[JP ha] at this;have:=Jr ha;simp;lia
theorem Dm.len(D:Dm ts dm):dm.length<=ts.length:=by
 have:=Kf D.nd D.sub;simpa using this
theorem Kg(dm:List (Nat×Nat))(s:Nat):(a0 (dL dm) (.inr [s])).getD (.int 0) = .int ((val dm s:Nat):Int):=by
 unfold a0 dL val;rw[Ue];have:((λkv:aB×D=>decide (kv.1 = .inr [s])) ∘ λp:Nat×Nat=>((Sum.inr [p.1]:aB),D.int ((p.2:Nat):Int)))=λp=>decide (p.1=s):=by
  funext p
  simp
 rw[this]
 cases dm.find? λp=>decide (p.1=s) with
 | none=>rfl
 | some p=>rfl
theorem ZR(dm:List (Nat×Nat))(s m:Nat):putD (dL dm) (.inr [s]) (.int ((m:Nat):Int))=dL (put dm s m):=by
 unfold putD put dL;rw[List.any_map];have e1:((λkv:aB×D=>decide (kv.1 = .inr [s])) ∘ λp:Nat×Nat=>((Sum.inr [p.1]:aB),D.int ((p.2:Nat):Int)))=λp=>decide (p.1=s):=by
  funext p
  simp
 rw[e1];by_cases h:(dm.any λp=>decide (p.1=s))=true
 ·rw[if_pos h,if_pos h,Wu,Wu];refine WO λp _=>?_
  grind
 grind
theorem ZT(d0 d1 d2 d3 d4 d5 d7:Option S)(L L':List (aB×D))(m p o:D)(mi oi old new:Int)(hm:m = .int mi)(ho:o = .int oi)(x:Tx)(hp:p = .str x)(hv:(a0 L (.inr x)).getD (.int 0) = .int old)(hmul:b9 (.int mi) (.int oi)=pS (.int new))(ZU:putD L (.inr x) (.int (old + new))=L')(hL:L.length < Wb) :
  eO 6 (aa 9) vq [d0,d1,d2,d3,d4,d5,pO (.au L),d7,pS m,pS p,pS o] = .ok .next [d0,d1,d2,d3,d4,d5,pO (.au L'),d7,pS m,pS p,pS o]:=by
 subst hm ho hp;simp[eO,i4,iz,kJ,aa,bD,hv,ah,bu,aj,hmul,vm,hL,ZU]
theorem Kh(eS:ts.length<=26)(d0 d1 d2 d3 d4 d5 d7:Option S)(f:Nat->Nat)(m:Nat)(hf:∀ s,f s<=16):∀ (qs:List Nat) (dm:List (Nat×Nat)) (o9 aW:Option S),Dm ts dm->qs.Nodup->(∀ p ∈ qs,p ∈ ts) ->
  ∃ p9 fK:Option S,forL zS (eO 6 (aa 9) vq) (qs.map λp=>D.tup [.str [p],.int ((f p:Nat):Int)]) [d0,d1,d2,d3,d4,d5,pO (.au (dL dm)),d7,pS (.int (m:Int)),o9,aW]
   = .ok .next [d0,d1,d2,d3,d4,d5,pO (.au (dL (jC f m qs dm))),d7,pS (.int (m:Int)),p9,fK]
 | [],dm,o9,aW,_,_,_=>⟨o9,aW,rfl⟩
 | q :: r,dm,o9,aW,Dd,nd,hq=>by
  obtain⟨n1,n2⟩:=WI.mp nd;have D1:=Dd.put (val dm q + m * f q) (hq q W7);obtain⟨p9,fK,ih⟩:=Kh eS d0 d1 d2 d3 d4 d5 d7 f m hf r (put dm q (val dm q + m * f q)) (pS (.str [q])) (pS (.int ((f q:Nat):Int))) D1 n2 (by grind);refine⟨p9,fK,?_⟩;have hb:=ZT d0 d1 d2 d3 d4 d5 d7 (dL dm) (dL (put dm q (val dm q + m * f q))) (.int (m:Int)) (.str [q]) (.int ((f q:Nat):Int)) (m:Int) ((f q:Nat):Int) ((val dm q:Nat):Int) ((m:Int) * ((f q:Nat):Int)) rfl rfl [q] rfl (Kg dm q) (rG _ _ Y' (by have:=hf q; lia)) (by
   rw[<- ZR];congr 2) (by
   have:=Dd.len;unfold dL;rw[dA,Wx];lia)
  rw[We,k6 (δ1:=[d0,d1,d2,d3,d4,d5,pO (.au (dL dm)),d7,pS (.int (m:Int)),pS (.str [q]),pS (.int ((f q:Nat):Int))]) rfl hb];exact ih
theorem Ki(R:aG h w bs)(d0 d1 d2 d4 d5:Option S):∀ (ag dm:List (Nat×Nat)) (o7 o8 o9 aW:Option S),(∀ k ∈ ag.map (·.1),k ∈ bs.map (·.1))->Dm (bs.map (·.1)) dm ->
  ∃ p7 p8 p9 fK:Option S,forL (a_ 2 (aA (ae [] 7) (aA (ae [] 8) ba))) (bx (bM (ah cp 3 (aj 7))) zS (eO 6 (aa 9) vq)) (nc (dL ag)) [d0,d1,d2,pO (fM bs),d4,d5,pO (.au (dL dm)),o7,o8,o9,aW]
   = .ok .next [d0,d1,d2,pO (fM bs),d4,d5,pO (.au (dL (rY bs (λt=>ps (aV bs t)) ag dm))),p7,p8,p9,fK]
 | [],dm,o7,o8,o9,aW,_,_=>⟨o7,o8,o9,aW,rfl⟩
 | (k,m) :: r,dm,o7,o8,o9,aW,hk,Dd=>by
  have n1:=R.n1;have eS:(bs.map (·.1)).length<=26:=by simpa using n1
  have pC:k ∈ bs.map (·.1):=by grind
  have iZ:∀ p ∈ ps (aV bs k),p ∈ bs.map (·.1):=λp hp=>by
   obtain⟨b,hb,_,_,e2⟩:=gM pC;rw[e2,zQ] at hp;exact(vn R hb).2.2 p hp
  obtain⟨q9,q10,e⟩:=Kh eS d0 d1 d2 (pO (fM bs)) d4 d5 (pS (.str [k])) (M bs k) m (ZN R pC) (ps (aV bs k)) dm o9 aW Dd (zR _) iZ;obtain⟨D1,_⟩:=zP (M bs k) m (ps (aV bs k)) dm Dd (zR _) iZ;obtain⟨p7,p8,p9,fK,ih⟩:=Ki R d0 d1 d2 d4 d5 r (jC (M bs k) m (ps (aV bs k)) dm) (pS (.str [k])) (pS (.int (m:Int))) q9 q10 (λq hq=>hk q (by rw[We]; exact W9 _ hq)) D1;refine⟨p7,p8,p9,fK,?_⟩;have hx:=ZQ pC;have hb:bx (bM (ah cp 3 (aj 7))) zS (eO 6 (aa 9) vq) [d0,d1,d2,pO (fM bs),d4,d5,pO (.au (dL dm)),pS (.str [k]),pS (.int (m:Int)),o9,aW] = .ok .next [d0,d1,d2,pO (fM bs),d4,d5,pO (.au (dL (jC (M bs k) m (ps (aV bs k)) dm))),pS (.str [k]),pS (.int (m:Int)),q9,q10]:=by
   rw[<- e];generalize dL dm=LL at *;generalize (ps (aV bs k)).map (λp=>D.tup [.str [p],.int ((M bs k p:Nat):Int)])=PP at *;generalize fM bs=PD at *;simp[fW,ah,bu,aj,hx]
  have hi:nc (dL ((k,m) :: r))=D.tup [.str [k],.int (m:Int)] :: nc (dL r):=rfl;rw[hi,k6 (δ1:=[d0,d1,d2,pO (fM bs),d4,d5,pO (.au (dL dm)),pS (.str [k]),pS (.int (m:Int)),o9,aW]) rfl hb];exact ih
abbrev zU:DG:=(a_ 2 (aA (ae [] 7) (aA (ae [] 8) ba)))
abbrev Kj:DS:=bx (bM (ah cp 3 (aj 7))) (a_ 2 (aA (ae [] 9) (aA (ae [] 10) ba))) (eO 6 (aa 9) (aE bH (iz 6 (aa 9) (eD (.int 0))) (aw (ah b9 8 (aj 10)))))
abbrev rZ:DS:=aq (ak gL (ae [] 6)) (aq (bx (ng 4) zU Kj) (nh [] 4 6))
theorem ZV(d0 d1 d2 d3 d5 o6 o7 o8 o9 aW p7 p8 p9 fK:Option S)(L L':List (aB×D))(B:DS)(hf:forL zU B (nc L) [d0,d1,d2,d3,none,d5,pO (.au []),o7,o8,o9,aW] = .ok .next [d0,d1,d2,d3,none,d5,pO (.au L'),p7,p8,p9,fK]) :
  (aq (ak gL (ae [] 6)) (aq (bx (ng 4) zU B) (nh [] 4 6))) [d0,d1,d2,d3,pO (.au L),d5,o6,o7,o8,o9,aW] = .ok .next [d0,d1,d2,d3,pO (.au L'),d5,none,p7,p8,p9,fK]:=by
 simp[ak,gL,ng];rw[hf];simp[nh]
theorem ZX(R:aG h w bs)(ht:t0 ∈ bs.map (·.1))(d0 d1 d2:Option S)(g:Nat) :
  ∃ (dm:List (Nat×Nat)) (o5 o6 o7 o8 o9 aW:Option S),Dm (bs.map (·.1)) dm/\(∀ s,val dm s=vec bs t0 g s)/\forL (ae [] 5) rZ (bI 0 g) [d0,d1,d2,pO (fM bs),pO (.au (dL [(t0,1)])),none,none,none,none,none,none]
   = .ok .next [d0,d1,d2,pO (fM bs),pO (.au (dL dm)),o5,o6,o7,o8,o9,aW]:=by
 obtain⟨δ',e,dm,o5,o6,o7,o8,o9,aW,hD,hv,rfl⟩:=jZ (g:=ae [] 5) (b:=rZ)
  (λk δ=>∃ (dm:List (Nat×Nat)) (o5 o6 o7 o8 o9 aW:Option S),Dm (bs.map (·.1)) dm/\(∀ s,val dm s=vec bs t0 k s)/\δ=[d0,d1,d2,pO (fM bs),pO (.au (dL dm)),o5,o6,o7,o8,o9,aW]) (bI 0 g) 0 _
  ⟨[(t0,1)],none,none,none,none,none,none,⟨U',by grind⟩,λs=>by
   show val [(t0,1)] s=if s=t0 then 1 else 0
   rw[k7,vk U'];grind,rfl⟩ (λi d δ hd ⟨dm,o5,o6,o7,o8,o9,aW,hD,hv,e⟩=>by
   subst e;rw[Q3] at *;have D0:Dm (bs.map (·.1)) []:=⟨U',U'⟩
   have jW:∀ t ∈ bs.map (·.1),(ps (aV bs t)).Nodup/\(∀ p ∈ ps (aV bs t),p ∈ bs.map (·.1))/\∀ s,s ∉ ps (aV bs t)->M bs t s=0:=λt ht=>by
    obtain⟨b,hb,_,_,e2⟩:=gM ht;refine⟨zR _,λp hp=>?_,λs hs=>?_⟩
    ·rw[e2,zQ] at hp;exact(vn R hb).2.2 p hp
    ·unfold M;rw[zQ] at hs;exact List.count_eq_zero.mpr hs
   obtain⟨D1,v1⟩:=Ka (zD R) jW dm [] hD.sub hD.nd D0;obtain⟨p7,p8,p9,fK,ef⟩:=Ki R d0 d1 d2 none (pS d) dm [] o7 o8 o9 aW hD.sub D0;have q:=ZV d0 d1 d2 (pO (fM bs)) (pS d) o6 o7 o8 o9 aW p7 p8 p9 fK (dL dm) _ Kj ef;refine⟨_,_,rfl,q,_,_,_,_,_,_,_,D1,λs=>?_,rfl⟩;rw[v1,vk U',Q3];exact ma λt _=>by rw[hv])
 refine⟨dm,o5,o6,o7,o8,o9,aW,hD,?_,e⟩;rw[ED,Q3] at hv;exact hv
theorem ZY(R:aG h w bs)(dm:List (Nat×Nat)):Rt j9 [.pure (aC h w bs),.pure (.au (dL dm))] (.own (.lst (res bs (val dm)))):=by
 have n1:=R.n1;have g:=ZL R;have hc:cK [2] (ae [] 2) bW (cj (aT (aa 2) (aT (iz 1 (aa 2) (eD (.int 0))) bG))) ((bs.map (·.1)).map λn=>D.str [n]) [pS (aC h w bs),pS (.au (dL dm)),none] [] = .ok (res bs (val dm)) [pS (aC h w bs),pS (.au (dL dm)),none]:=by
  have:=j0 (cs:=[2]) (g:=ae [] 2) (t:=bW) (el:=cj (aT (aa 2) (aT (iz 1 (aa 2) (eD (.int 0))) bG))) (λn:Nat=>D.str [n]) (λs=>D.tup [.str [s],.int ((val dm s:Nat):Int)]) [pS (aC h w bs),pS (.au (dL dm)),none] (bs.map (·.1)) [] (by rw[dA]; simp; lia) (λs hs=>by
   have hv:=Kg dm s;refine⟨[pS (aC h w bs),pS (.au (dL dm)),pS (.str [s])],_,.pure (.tup [.str [s],.int ((val dm s:Nat):Int)]),[pS (aC h w bs),pS (.au (dL dm)),pS (.str [s])],rfl,rfl,?_,rfl,rfl⟩;generalize dL dm=L at *;generalize ((val dm s:Nat):Int)=vv at *;simp[aa,iz,kJ,bD,hv])
  rw[this];unfold res;rw[Wu];rfl
 rw[j9,yP];have hT:iE (bs.map (·.1))=D.lst ((bs.map (·.1)).map λn=>.str [n]):=rfl;rw[hT] at g;generalize hTS:((bs.map (·.1)).map λn=>D.str [n])=TS at *;generalize res bs (val dm)=RR at *;generalize dL dm=L at *;generalize aC h w bs=ru at *;refine nN (δ1:=[pS ru,pS (.au L),none]) ?_;simp[bc,fW,ao,aZ,bB,bz,aa,bh,g,aS,bC,bj];rw[hc];simp[cJ]
theorem ZZ(GR:DF)(GP GL:DF)(ru P:D)(t0 g:Nat)(dm:List (Nat×Nat))(RR:List D)(o5 o6 o7 o8 o9 aW:Option S)(hg:g<=1000)
  (gr:Rt GR [.pure ru,.pure (.str [t0])] (.pure .ay)) (gp:Rt GP [.pure ru] (.own P))
  (hl:forL (ae [] 5) rZ (bI 0 g) [pS ru,pS (.str [t0]),pS (.int g),pO P,pO (.au (dL [(t0,1)])),none,none,none,none,none,none] = .ok .next [pS ru,pS (.str [t0]),pS (.int g),pO P,pO (.au (dL dm)),o5,o6,o7,o8,o9,aW])
  (gl:Rt GL [.pure ru,.pure (.au (dL dm))] (.own (.lst RR))) :
  ∃ δ',(aq (du (ao GR [.val (aa 0),.val (aa 1)])) (aq (ak (ao GP [.val (aa 0)]) (ae [] 3)) (aq (ak (iB (aa 1) (eD (.int 1))) (ae [] 4)) (aq (bx (dz (aa 2)) (ae [] 5) rZ) (bA (ao GL [.val (aa 0),.val (aa 4)])))))) [pS ru,pS (.str [t0]),pS (.int g),none,none,none,none,none,none,none,none] = .ok (.ret (.own (.lst RR))) δ':=by
 have e1:du (ao GR [.val (aa 0),.val (aa 1)]) [pS ru,pS (.str [t0]),pS (.int g),none,none,none,none,none,none,none,none] = .ok .next [pS ru,pS (.str [t0]),pS (.int g),none,none,none,none,none,none,none,none]:=by
  simp[ao,aZ,bB,bC,bz,aa,bh,gr,aS]
 have e2:ak (ao GP [.val (aa 0)]) (ae [] 3) [pS ru,pS (.str [t0]),pS (.int g),none,none,none,none,none,none,none,none] = .ok .next [pS ru,pS (.str [t0]),pS (.int g),pO P,none,none,none,none,none,none,none]:=by
  simp[ak,ao,aZ,bB,bz,aa,bh,gp,aS]
 have e3:ak (iB (aa 1) (eD (.int 1))) (ae [] 4) [pS ru,pS (.str [t0]),pS (.int g),pO P,none,none,none,none,none,none,none] = .ok .next [pS ru,pS (.str [t0]),pS (.int g),pO P,pO (.au (dL [(t0,1)])),none,none,none,none,none,none]:=by
  simp[ak,iB,aa,bD,dL]
 have e4:bx (dz (aa 2)) (ae [] 5) rZ [pS ru,pS (.str [t0]),pS (.int g),pO P,pO (.au (dL [(t0,1)])),none,none,none,none,none,none] = .ok .next [pS ru,pS (.str [t0]),pS (.int g),pO P,pO (.au (dL dm)),o5,o6,o7,o8,o9,aW]:=by
  rw[<- hl];simp[aa,jo g Y']
 rw[dF e1,dF e2,dF e3,dF e4];refine⟨[pS ru,pS (.str [t0]),pS (.int g),pO P,pS (.au (dL dm)),o5,o6,o7,o8,o9,aW],?_⟩;generalize dL dm=L at *;simp[ao,aZ,bB,bz,aa,bh,gl,aS]
theorem Z0{h w t0 g:Nat}{bs:List (Nat×List Tx)}(R:aG h w bs)(ht:t0 ∈ bs.map (·.1))(hg:g<=1000):Rt nG [.pure (aC h w bs),.pure (.str [t0]),.pure (.int g)] (.own (.lst (res bs (vec bs t0 g)))):=by
 obtain⟨dm,o5,o6,o7,o8,o9,aW,hD,hv,hl⟩:=ZX R ht (pS (aC h w bs)) (pS (.str [t0])) (pS (.int g)) g;have gl:=ZY R dm;have hr:res bs (val dm)=res bs (vec bs t0 g):=WO λb _=>by rw[hv]
 rw[hr] at gl;obtain⟨δ',e⟩:=ZZ eR oX j9 (aC h w bs) (fM bs) t0 g dm _ o5 o6 o7 o8 o9 aW hg (rW R ht) (ZP R) hl gl;rw[nG,Gq];exact zL e
def iG(z:Tx):Tx:=gk (dB [] z)
theorem vt:x ∈ iG z ↔ x ∈ z:=by grind[iG,uB,vo]
theorem Kk(z:Tx):(iG z).Pairwise (· < ·):=yc (vp Ux)
theorem Kl:∀ {a b:List Nat},a.Pairwise (· < ·)->b.Pairwise (· < ·)->(∀ x,x ∈ a ↔ x ∈ b)->a=b
 | [],[],_,_,_=>rfl
 | [],y :: b,_,_,h=>by grind[W7]
 | x :: a,[],_,_,h=>by grind[W7]
 | x :: a,y :: b,ha,hb,h=>by
  obtain⟨a1,a2⟩:=Qa.mp ha;obtain⟨b1,b2⟩:=Qa.mp hb;have e:x=y:=by
   rcases Wq.mp ((h x).mp W7) with q | q
   ·exact q
   ·rcases Wq.mp ((h y).mpr W7) with p | p
    ·exact p.symm
    ·have:=a1 y p;have:=b1 x q;lia
  subst e;congr 1
  refine Kl a2 b2 λz=>?_
  grind
theorem Km{a:List Nat}(h:a.Pairwise (· < ·)):a.Nodup:=h.imp λh=>Wo h
theorem vw:∀ {l ts:List Nat},l.Nodup->(∀ x ∈ l,x ∈ ts)->l.length<=ts.length
 | [],_,_,_=>Qn _
 | a :: r,ts,nd,h=>by
  obtain⟨n1,n2⟩:=WI.mp nd;have ha:=h a W7;have:=vw (l:=r) (ts:=ts.erase a) n2 λx hx=>by
   have:x≠a:=λe=>n1 (by rw[<- e]; exact hx)
   exact(Uk this).mpr (h x (W9 _ hx))
  rw[JP ha] at this;have:=Jr ha;simp;lia
theorem zV:∀ {l ts:List Tx},l.Nodup->(∀ x ∈ l,x ∈ ts)->l.length<=ts.length
 | [],_,_,_=>Qn _
 | a :: r,ts,nd,h=>by
  obtain⟨n1,n2⟩:=WI.mp nd;have ha:=h a W7;have:=zV (l:=r) (ts:=ts.erase a) n2 λx hx=>by
   have:x≠a:=λe=>n1 (by rw[<- e]; exact hx)
   exact(Uk this).mpr (h x (W9 _ hx))
  rw[JP ha] at this;have:=Jr ha;simp;lia
def tx(bs:List (Nat×List Tx))(n:Nat):Tx:=iG (aV bs n).flatten
def nQ(bs:List (Nat×List Tx))(S:Tx):Tx:=iG (S.flatMap (tx bs))
def sq(bs:List (Nat×List Tx))(t:Nat):Nat->Tx
 | 0=>[t]
 | k + 1=>nQ bs (sq bs t k)
theorem vx{bs:List (Nat×List Tx)}{S:Tx}{x:Nat}:x ∈ nQ bs S ↔ ∃ y ∈ S,x ∈ (aV bs y).flatten:=by
 unfold nQ;rw[vt,Uj];unfold tx;constructor
 ·rintro ⟨y,h1,h2⟩; exact⟨y,h1,vt.mp h2⟩
 ·rintro ⟨y,h1,h2⟩; exact⟨y,h1,vt.mpr h2⟩
theorem Kn(bs:List (Nat×List Tx))(t:Nat):∀ k,(sq bs t k).Pairwise (· < ·)
 | 0=>by simp[sq]
 | k + 1=>Kk _
theorem Ko(R:aG h w bs)(hn:n ∈ bs.map (·.1))(hx:x ∈ (aV bs n).flatten):x ∈ bs.map (·.1):=by
 obtain⟨b,hb,_,_,e⟩:=gM hn;rw[e] at hx;obtain⟨r,hr,hx⟩:=List.mem_flatten.mp hx;exact((R.aV b hb).2 r hr).2 x hx
theorem nR(R:aG h w bs)(ht:t ∈ bs.map (·.1)):∀ k,∀ x ∈ sq bs t k,x ∈ bs.map (·.1)
 | 0,x,hx=>by
  have:x=t:=by simpa[sq] using hx
  rw[this]; exact ht
 | k + 1,x,hx=>by
  obtain⟨y,hy,hx⟩:=vx.mp hx;exact Ko R (nR R ht k y hy) hx
theorem Kp{h w t:Nat}{bs:List (Nat×List Tx)}(R:aG h w bs)(ht:t ∈ bs.map (·.1))(k:Nat):(sq bs t k).length<=bs.length:=by
 have:=vw (Km (Kn bs t k)) (nR R ht k);simpa using this
theorem Kq{P:Nat->Prop}[DecidablePred P]:∀ i,P i->∃ j,j<=i/\P j/\∀ k,k < j->¬ P k
 | 0,h=>⟨0,Wa _,h,λk hk=>absurd hk (Nat.not_lt_zero _)⟩
 | i + 1,h=>by
  by_cases q:∃ k,k < i + 1/\P k
  ·obtain⟨k,hk,hp⟩:=q;obtain⟨j,a,b,c⟩:=Kq k hp;exact⟨j,Y',b,c⟩
  ·exact⟨i + 1,Wa _,h,λk hk hp=>q ⟨k,hk,hp⟩⟩
 termination_by i=>i
theorem Kr(R:aG h w bs)(ht:t ∈ bs.map (·.1)):∀ (i x:Nat),x ∈ sq bs t i->(∀ k,k < i->x ∉ sq bs t k)->∃ l:List Nat,l.length=i + 1/\l.Nodup/\(∀ y ∈ l,y ∈ bs.map (·.1))/\∀ y ∈ l,∃ j,j<=i/\y ∈ sq bs t j
 | 0,x,hx,_=>⟨[x],rfl,U',λy hy=>by grind[nR],λy hy=>by grind⟩
 | i + 1,x,hx,hn=>by
  obtain⟨y,hy,qg⟩:=vx.mp hx;have fy:∀ k,k < i->y ∉ sq bs t k:=λk hk Z1=>hn (k + 1) Y' (vx.mpr ⟨y,Z1,qg⟩)
  obtain⟨l,l1,l2,l3,l4⟩:=Kr R ht i y hy fy;refine⟨x :: l,by simp[l1],List.nodup_cons.mpr ⟨λoD=>?_,l2⟩,λz hz=>?_,λz hz=>?_⟩
  ·grind
  ·grind[nR]
  grind
theorem Z2{h w t:Nat}{bs:List (Nat×List Tx)}(R:aG h w bs)(ht:t ∈ bs.map (·.1)){x i:Nat}(hx:x ∈ sq bs t i):∃ j,j < bs.length/\x ∈ sq bs t j:=by
 obtain⟨j,_,hj,hm⟩:=Kq (P:=λi=>x ∈ sq bs t i) i hx;obtain⟨l,l1,l2,l3,_⟩:=Kr R ht j x hj hm;have:=vw l2 l3;rw[l1] at this;exact⟨j,by simp at this; lia,hj⟩
def dU(S:Nat->Tx)(x m:Nat):Option Nat:=(Wd m).find? λi=>decide (x ∈ S i)
theorem Z3(S:Nat->Tx)(x m:Nat):dU S x (m + 1)=match dU S x m with
  | some i=>some i
  | none=>if x ∈ S m then some m else none:=by
 unfold dU;rw[QU,List.find?_append]
 cases (Wd m).find? λi=>decide (x ∈ S i) with
 | some i=>rfl
 | none =>
  by_cases h:x ∈ S m <;> simp[h]
theorem Ks{F:D->Option D}{S:Nat->Tx}{L:List Tx}(hL:∀ k,S k ∈ L)(hF:∀ k,F (.str (S k))=some (.str (S (k + 1)))):∀ (n m:Nat),((Wd m).map S).Nodup->L.length + 1<=n + m->1<=n ->
  ∃ M s,wk F n ((Wd m).map S) (S m)=some ((Wd M).map S,s)/\s < M/\S M=S s/\M<=L.length
 | 0,m,_,_,h=>by lia
 | n + 1,m,nd,hl,_=>by
  have hs:=zV nd (ts:=L) λx hx=>by grind
  simp at hs;unfold wk;by_cases h:S m ∈ (Wd m).map S
  ·rw[if_pos h];have hi:=List.idxOf_lt_length_of_mem h;have e:=List.getElem_idxOf hi;refine⟨m,_,rfl,by simpa using hi,?_,hs⟩;simp only[List.getElem_map,List.getElem_range] at e;exact e.symm
  ·rw[if_neg h,hF m];have e:(Wd m).map S ++ [S m]=(Wd (m + 1)).map S:=by rw[QU,Q6]; rfl
   simp only[e];have mT:((Wd (m + 1)).map S).Nodup:=by
    rw[<- e];exact JE.mpr ⟨nd,U',λa ha b hb q=>h (by
     have:b=S m:=by simpa using hb
     rw[<- this,<- q]; exact ha)⟩
   have gU:=zV mT (ts:=L) λx hx=>by grind
   simp at gU;exact Ks hL hF n (m + 1) mT Y' Y'
theorem Kt{S:Nat->Tx}{M s:Nat}(hS:∀ i j,S i=S j->S (i + 1)=S (j + 1))(hs:s < M)(e:S M=S s):∀ k,∃ j,j < M/\S k=S j
 | k=>by
  by_cases h:k < M
  ·exact⟨k,h,rfl⟩
  ·have sh:∀ d,S (M + d)=S (s + d):=λd=>by
    induction d with
    | zero=>exact e
    | succ d ih=>exact hS _ _ ih
   obtain⟨j,hj,ej⟩:=Kt hS hs e (s + (k - M));refine⟨j,hj,?_⟩;rw[<- ej,<- sh,show M + (k - M)=k by lia]
 termination_by k=>k
 decreasing_by lia
def jE:List Nat->List Tx
 | []=>[[]]
 | a :: r=>jE r ++ (jE r).map (a :: ·)
theorem Ku:∀ l:List Nat,(jE l).length=2 ^ l.length
 | []=>rfl
 | a :: r=>by
  show(jE r ++ (jE r).map (a :: ·)).length=_;rw[WT,Wx,Ku r,WA,WL];lia
theorem zW(p:Nat->Bool):∀ l:List Nat,l.filter p ∈ jE l
 | []=>by simp[jE]
 | a :: r=>by
  show _ ∈ jE r ++ (jE r).map (a :: ·)
  cases h:p a with
  | true =>
   rw[List.filter_cons_of_pos h];exact Q1 _ (WD.mpr ⟨_,zW p r,rfl⟩)
  | false =>
   rw[List.filter_cons_of_neg (by simp[h])];exact List.mem_append_left _ (zW p r)
theorem Z4{S ts:List Nat}(h1:S.Pairwise (· < ·))(h2:ts.Pairwise (· < ·))(h:∀ x ∈ S,x ∈ ts):S ∈ jE ts:=by
 have:S=ts.filter λx=>decide (x ∈ S):=Kl h1 (h2.filter _) λx=>by
  rw[List.mem_filter];constructor
  ·intro hx; exact⟨h x hx,by simpa using hx⟩
  ·intro hx; simpa using hx.2
 rw[this];exact zW _ ts
structure r8(h w:Nat)(bs:List (Nat×List Tx)):Prop where
 R:aG h w bs
 fin:∀ t ∈ bs.map (·.1),∃ L:List Tx,L.length<=64/\∀ k,sq bs t k ∈ L
 len:∀ n ∈ bs.map (·.1),(tx bs n).length * bs.length < 64
theorem Z5(bs:List (Nat×List Tx))(n:Nat):(tx bs n).Pairwise (· < ·):=Kk _
theorem Z6(R:aG h w bs)(hn:n ∈ bs.map (·.1))(hx:x ∈ tx bs n):x ∈ bs.map (·.1):=Ko R hn (vt.mp hx)
theorem Z7(R:aG h w bs)(hn:n ∈ bs.map (·.1)):(tx bs n).length<=bs.length:=by
 have:=vw (Km (Z5 bs n)) λx hx=>Z6 R hn hx
 simpa using this
theorem Z8(R:aG h w bs)(h6:bs.length<=6):r8 h w bs:=by
 refine⟨R,λt ht=>⟨jE (bs.map (·.1)),?_,λk=>Z4 (Kn bs t k) R.up (nR R ht k)⟩,λn hn=>?_⟩
 ·rw[Ku,Wx];exact Qe (Nat.pow_le_pow_right Z' h6) Z'
 ·have:=Z7 R hn;have:=Uy this (Wa bs.length);have:=Uy h6 h6;lia
theorem Z9(G:r8 h w bs):∀ S:Tx,(∀ n ∈ S,n ∈ bs.map (·.1))->S.length<=bs.length->(S.flatMap (tx bs)).length < 64:=by
 have n0:=G.R.n0;have key:∀ (c:Nat) (S:Tx),(∀ n ∈ S,n ∈ bs.map (·.1))->(∀ n ∈ bs.map (·.1),(tx bs n).length<=c)->(S.flatMap (tx bs)).length<=c * S.length:=λc S=>by
  induction S with
  | nil=>intro _ _; simp
  | cons a r ih =>
   intro h1 h2;have:=ih (λn hn=>h1 n (W9 _ hn)) h2;have:=h2 a (h1 a W7);simp only[UE,WT,WA,Nat.mul_add,Nat.mul_one];lia
 intro S h1 h2;have hc:∀ n ∈ bs.map (·.1),(tx bs n).length<=63 / bs.length:=λn hn=>by
  have:=G.len n hn;exact(Nat.le_div_iff_mul_le n0).mpr Y'
 have a:=key _ S h1 hc;have b:=Uy (Wa (63 / bs.length)) h2;have c:=Nat.div_mul_le_self 63 bs.length;lia
theorem Kv(xs:List Tx)(h:gI xs<=16777216):dQ [] (.lst (xs.map .str))=pS (.str xs.flatten):=by
 unfold dQ;simp only[x_,uz];rw[if_pos (by simpa using h)]
theorem vy:∀ xs:List Tx,gI xs=xs.flatten.length
 | []=>rfl
 | x :: r=>by grind[gI]
theorem zX:∀ z:Tx,(z.map λn=>([n]:Tx)).flatten=z
 | []=>rfl
 | n :: r=>by simp[zX r]
theorem Z_(z:Tx)(h:z.length<=1000):dQ [] (.lst (z.map λn=>.str [n]))=pS (.str z):=by
 have:=Kv (z.map λn=>[n]) (by rw[vy,zX]; lia);rw[zX,Wu] at this;exact this
theorem zfw(z:Tx):(iG z).length<=z.length:=by
 unfold iG;rw[yb];have:=qO z [];simpa using this
theorem Kw(DD:D)(f:Nat->Tx)(z:Tx)(hd:∀ n ∈ z,cp DD (.str [n])=pS (.str (f n)))(hz:z.length<=100)(hl:(z.flatMap f).length < 64) :
  Rt jv [.pure DD,.pure (.str z)] (.pure (.str (iG (z.flatMap f)))):=by
 have c:=j0 (cs:=[2]) (g:=ae [] 2) (t:=bW) (el:=ah cp 0 (aj 2)) (λn:Nat=>D.str [n]) (λn=>D.str (f n)) [pS DD,pS (.str z),none] z [] (by rw[dA]; simp; lia) (λn hn=>by
  have q:=hd n hn;refine⟨[pS DD,pS (.str z),pS (.str [n])],_,.pure (.str (f n)),[pS DD,pS (.str z),pS (.str [n])],rfl,rfl,?_,rfl,rfl⟩;simp[ah,bu,aj,q])
 have j1:dQ [] (.lst (z.map λn=>D.str (f n)))=pS (.str (z.flatMap f)):=by
  have:=Kv (z.map f) (by rw[vy,<- Ui]; lia);rw[Wu,<- Ui] at this;exact this
 have s1:jq (.str (z.flatMap f))=pO (.lst ((iG (z.flatMap f)).map λn=>.str [n])):=by
  simp only[jq];rw[if_pos hl];rfl
 have j2:=Z_ (iG (z.flatMap f)) (by have:=zfw (z.flatMap f); lia);rw[jv,Gf];refine nN (δ1:=[pS DD,pS (.str z),none]) ?_;generalize iG (z.flatMap f)=W at *;generalize hY:(z.map λn=>D.str (f n))=Y at *;generalize z.flatMap f=X at *;generalize hZ:(z.map λn=>D.str [n])=ZS at *;have e:bM (aa 1) [pS DD,pS (.str z),none] = .ok ZS [pS DD,pS (.str z),none]:=by
  rw[<- hZ];simp[fW,aa]
 simp only[bc];simp[e,bC,bj];rw[c];simp[cJ,j1,s1,j2]
def kg(bs:List (Nat×List Tx)):D:=.au (bs.map λb=>(Sum.inr [b.1],.str (tx bs b.1)))
theorem Kx(g:Nat->Tx):∀ bs:List (Nat×List Tx),gj (bs.map λb=>.tup [.str [b.1],.str (g b.1)])=some (bs.map λb=>(Sum.inr [b.1],.str (g b.1)))
 | []=>rfl
 | b :: r=>by
  have:=Kx g r;simp only[We];simp[gj,bD,this]
theorem zh5(R:aG h w bs):cW (.lst (bs.map λb=>.tup [.str [b.1],.str (tx bs b.1)]))=pO (kg bs):=by
 unfold cW;simp only[Kx (tx bs),WH,Wx];have hz:Wb=16777216:=rfl;rw[if_pos (by have:=R.n1; lia),rJ]
 ·rfl
 ·simp only[Qm,Wu];rw[QX,QF];have:=R.up;rw[QF] at this;exact this.imp λ{a b} m7=>by simp; lia
theorem qaa(h:n ∈ bs.map (·.1)):cp (kg bs) (.str [n])=pS (.str (tx bs n)):=by
 have key:∀ l:List (Nat×List Tx),n ∈ l.map (·.1)->a0 (l.map λb=>((Sum.inr [b.1]:aB),D.str (tx bs b.1))) (.inr [n])=some (.str (tx bs n)):=λl=>by
  induction l with
  | nil=>grind
  | cons b r ih =>
   intro h;unfold a0 at ih ⊢;grind
 show((bD (.str [n])).bind λk=>(a0 (bs.map λb=>((Sum.inr [b.1]:aB),D.str (tx bs b.1))) k).map S.pure)=_;simp[bD,key bs h]
abbrev pE:DE:=ao jv [.val (aa 1),.val (aa 0)]
theorem zdV(G:r8 h w bs)(hz:∀ n ∈ z,n ∈ bs.map (·.1))(hl:z.length<=bs.length):g8 pE [kg bs] (.str z)=some (.str (nQ bs z)):=by
 have n1:=G.R.n1;have e:=Kw (kg bs) (tx bs) z (λn hn=>qaa (hz n hn)) Y' (Z9 G z hz hl);unfold g8 pE nQ;generalize kg bs=DD at *;generalize iG (z.flatMap (tx bs))=W at *;simp[ao,aZ,bB,bz,aa,bh,e,aS,S.d]
abbrev jF(bs:List (Nat×List Tx))(t M:Nat):D:=.lst ((Wd M).map λk=>.str (sq bs t k))
theorem Ky:∀ {l:List (Nat×List Tx)},(l.map (·.1)).Nodup->b ∈ l->l.find? (λx=>decide (x.1=b.1))=some b
 | a :: r,nd,hb=>by
  rw[We] at nd;obtain⟨n1,n2⟩:=WI.mp nd;rw[WW];rcases Wq.mp hb with rfl | hb
  ·simp
  ·have:a.1≠b.1:=λe=>n1 (by rw[e]; exact WK hb)
   simp only[this,decide_false];exact Ky n2 hb
theorem zhd(R:aG h w bs)(hb:b ∈ bs):b.2.flatten.length<=16/\aV bs b.1=b.2:=by
 obtain⟨h1,h2⟩:=R.aV b hb;have hh:=R.h1;have hw:=R.w1;refine⟨?_,?_⟩
 ·have:=Kb b.2 4 λr hr=>by have:=(h2 r hr).1; lia
  rw[vy] at this;lia
 ·obtain⟨b',cz,e1,e3,e2⟩:=gM (bs:=bs) (n:=b.1) (WK hb);rw[e2];have:=Ky (zD R) hb;grind
theorem zib(G:r8 h w bs)(ht:t ∈ bs.map (·.1)):∃ M s,s < M/\sq bs t M=sq bs t s/\M<=64 /\
  Rt rA [.pure (aC h w bs),.pure (.str [t])] (.pure (.tup [jF bs t M,.int (s:Nat)])):=by
 have R:=G.R;have n1:=R.n1;obtain⟨L,hL,eZ⟩:=G.fin t ht;obtain⟨M,s,hk,hs,e,hM⟩:=Ks (F:=g8 pE [kg bs]) eZ (λk=>zdV G (nR R ht k) (Kp R ht k)) 1000000 0 U' Y' Z';refine⟨M,s,hs,e,Y',?_⟩;have hW:qS (g8 pE [kg bs]) (.str [t])=some (.tup [jF bs t M,.int (s:Nat)]):=by
  show(wk (g8 pE [kg bs]) 1000000 [] [t]).map _=_;have:wk (g8 pE [kg bs]) 1000000 [] [t]=some ((Wd M).map (sq bs t),s):=hk;simp_all
 have x2:=(fc h w bs).2.2;have hd:=zh5 R;have c:=j0 (cs:=[3,4]) (g:=a_ 2 (aA (ae [] 3) (aA (ae [] 4) ba))) (t:=bW) (el:=cj (aT (aa 3) (aT (ao jv [.val (iB (aa 3) (aR (dQ []) (aj 4))),.val (aa 3)]) bG))) cX (λb=>D.tup [.str [b.1],.str (tx bs b.1)]) [pS (aC h w bs),pS (.str [t]),none,none,none] bs [] (by rw[dA]; simp; lia) (λb hb=>by
  obtain⟨l1,l2⟩:=zhd R hb;have j:dQ [] (bR b.2)=pS (.str b.2.flatten):=Kc b.2 (by rw[vy]; lia);have g:=Kw (.au [(Sum.inr [b.1],.str b.2.flatten)]) (λ_=>b.2.flatten) [b.1] (λn hn=>by
   have:n=b.1:=by simpa using hn
   rw[this];show((bD (.str [b.1])).bind λk=>(a0 [((Sum.inr [b.1]:aB),D.str b.2.flatten)] k).map S.pure)=_;simp[bD,a0]) U' (by rw[show([b.1].flatMap λ_=>b.2.flatten)=b.2.flatten by simp]; lia)
  have e:iG ([b.1].flatMap λ_=>b.2.flatten)=tx bs b.1:=by
   unfold tx;rw[l2];simp
  rw[e] at g;refine⟨[pS (aC h w bs),pS (.str [t]),none,pS (.str [b.1]),pS (bR b.2)],_,.pure (.tup [.str [b.1],.str (tx bs b.1)]),[pS (aC h w bs),pS (.str [t]),none,pS (.str [b.1]),pS (bR b.2)],rfl,rfl,?_,rfl,rfl⟩;generalize bR b.2=B at *;generalize b.2.flatten=BF at *;generalize tx bs b.1=TX at *;generalize aC h w bs=ru at *;simp[iB,aa,aj,j,bD,ao,aZ,bB,bz,bh,g,aS])
 rw[rA,yJ];generalize aC h w bs=ru at *;generalize hB:bs.map cX=B at *;generalize (bs.map λb=>D.tup [.str [b.1],.str (tx bs b.1)])=Y at *;generalize kg bs=DD at *;refine nN (δ1:=[pS ru,pS (.str [t]),pS DD,none,none]) ?_;rw[dF (δ1:=[pS ru,pS (.str [t]),pO DD,none,none]) (by
  have i:bM (ah az 0 (aw (eD (.int 2)))) [pS ru,pS (.str [t]),none,none,none] = .ok B [pS ru,pS (.str [t]),none,none,none]:=by
   simp[fW,ah,bu,aj,x2]
  simp only[bc];simp[ak,i,bC,bj];rw[c];simp[cJ,hd])]
 have hW':qS (g8 (ao jv [.val (aa 1),.val (aa 0)]) [DD]) (.str [t])=some (.tup [jF bs t M,.int (s:Nat)]):=hW;clear hW hk;generalize ao jv [.val (aa 1),.val (aa 0)]=FB at *;simp[uI,aa,jr,S.d,hW']
def iD(o:Option Nat):Option D:=o.map λj=>D.int (j:Int)
structure Iv(S:Nat->Tx)(ds:List (aB×D))(i:Nat)(l:Tx):Prop where
 val:∀ x,a0 ds (.inr [x])=iD (match dU S x i with
  | some j=>some j
  | none=>if x ∈ l then some i else none)
 len:ds.length<=26 * i + l.length
 ks:∃ K:List Nat,ds.map (·.1)=K.map (λn=>(Sum.inr [n]:aB))/\K.Nodup
def pN(ds:List (aB×D))(a i:Nat):List (aB×D):=match a0 ds (.inr [a]) with
 | some _=>ds
 | none=>ds ++ [(.inr [a],.int (i:Int))]
theorem zfc(ds:List (aB×D))(k:aB)(v:D)(k':aB):a0 (ds ++ [(k,v)]) k'=match a0 ds k' with
  | some d=>some d
  | none=>if k=k' then some v else none:=by
 unfold a0;rw[List.find?_append]
 cases ds.find? λkv=>decide (kv.1=k') with
 | some p=>rfl
 | none =>
  by_cases h:k=k' <;> simp[h]
theorem zd0(h:a0 ds k=none):putD ds k v=ds ++ [(k,v)]:=by
 unfold putD;rw[if_neg];intro q;obtain⟨kv,h1,h2⟩:=List.any_eq_true.mp q;unfold a0 at h;have:=List.find?_eq_none.mp (by
  cases e:ds.find? λkv=>decide (kv.1=k) with
  | none=>rfl
  | some p=>rw[e] at h; cases h) kv h1
 exact this h2
theorem zj7{ds:List (aB×D)}{a:Nat}{v:D}(h:∃ K:List Nat,ds.map (·.1)=K.map (λn=>(Sum.inr [n]:aB))/\K.Nodup)(e:a0 ds (.inr [a])=none):∃ K:List Nat,(ds ++ [((Sum.inr [a]:aB),v)]).map (·.1)=K.map (λn=>(Sum.inr [n]:aB))/\K.Nodup:=by
 obtain⟨K,h1,h2⟩:=h;refine⟨K ++ [a],by rw[Q6,Q6,h1]; rfl,JE.mpr ⟨h2,U',λx hx y hy q=>?_⟩⟩;have zF:y=a:=by grind
 subst zF q;have:(Sum.inr [x]:aB) ∈ ds.map (·.1):=by rw[h1]; exact WD.mpr ⟨x,hx,rfl⟩
 obtain⟨kv,hk,ek⟩:=WD.mp this;unfold a0 at e
 cases f:ds.find? λkv=>decide (kv.1=(Sum.inr [x]:aB)) with
 | none=>grind
 | some p=>grind
theorem Iv.put{S:Nat->Tx}{ds:List (aB×D)}{i:Nat}{l:Tx}(I:Iv S ds i l)(a:Nat):Iv S (pN ds a i) i (l ++ [a]):=by
 have va:=I.val a;have hl:=I.len;unfold pN
 cases e:a0 ds (.inr [a]) with
 | some d =>
  refine⟨λx=>?_,by simp; lia,I.ks⟩;simp only;rw[I.val x]
  cases f:dU S x i with
  | some j=>rfl
  | none =>
   simp only;by_cases hx:x ∈ l;all_goals grind[iD]
 | none =>
  refine⟨λx=>?_,by simp; lia,zj7 I.ks e⟩;simp only;rw[zfc,I.val x]
  cases f:dU S x i with
  | some j=>rfl
  | none =>
   simp only;by_cases hx:x ∈ l
   ·simp[hx,iD]
   ·by_cases z:x=a
    ·subst z;simp[hx,iD]
    ·have z':a≠x:=λq=>z q.symm
     simp[hx,iD,z,z']
theorem Iv.next{S:Nat->Tx}{ds:List (aB×D)}{i:Nat}(I:Iv S ds i (S i))(h:(S i).length<=26):Iv S ds (i + 1) []:=by
 have hl:=I.len;refine⟨λx=>?_,by simp; lia,I.ks⟩;rw[I.val x,Z3]
 cases dU S x i with
 | some j=>rfl
 | none =>
  by_cases hx:x ∈ S i <;> simp[hx]
abbrev s8(ru tt L st:D)(ds:List (aB×D))(o5 o6:Option S)(o7:Option D):Dl:=[pS ru,pS tt,pS L,pS st,pO (.au ds),o5,o6,o7.map .pure]
theorem zc5(ru tt L st:D)(ds:List (aB×D))(o6:Option S)(i a:Nat)(hz:ds.length < Wb):j3 4 (aa 7) (aa 5) (s8 ru tt L st ds (pS (.int (i:Int))) o6 (some (.str [a]))) = .ok .next (s8 ru tt L st (pN ds a i) (pS (.int (i:Int))) o6 (some (.str [a]))):=by
 unfold pN
 cases e:a0 ds (.inr [a]) with
 | some d=>simp[j3,i4,aa,S.d,bD,hz,e]
 | none=>simp[j3,i4,aa,S.d,bD,hz,e,zd0 e]
theorem Kz(ru tt L st:D)(S:Nat->Tx)(i:Nat)(hi:i<=100)(o6:Option DV.S):∀ (l done:Tx) (ds:List (aB×D)) (o7:Option D),Iv S ds i done->(done ++ l).length<=26 ->
  ∃ b8 o7',Iv S b8 i (done ++ l)/\forL (ae [] 7) (j3 4 (aa 7) (aa 5)) (l.map λn=>D.str [n]) (s8 ru tt L st ds (pS (.int (i:Int))) o6 o7) = .ok .next (s8 ru tt L st b8 (pS (.int (i:Int))) o6 o7')
 | [],done,ds,o7,I,_=>⟨ds,o7,by rw[Qb]; exact I,rfl⟩
 | a :: l,done,ds,o7,I,hl=>by
  have hd:=I.len;have jK:done.length + (l.length + 1)<=26:=by simpa using hl
  obtain⟨b8,o7',I',e⟩:=Kz ru tt L st S i hi o6 l (done ++ [a]) (pN ds a i) (some (.str [a])) (I.put a) (by rw[List.append_assoc]; exact hl);refine⟨b8,o7',by rw[List.append_assoc] at I'; exact I',?_⟩;rw[We,k6 (δ1:=s8 ru tt L st ds (pS (.int (i:Int))) o6 (some (.str [a]))) rfl (zc5 ru tt L st ds o6 i a (by rw[dA]; lia))];exact e
theorem z9R(ru tt L st:D)(S:Nat->Tx)(M:Nat)(hM:M<=100)(hS:∀ k,(S k).length<=26):∃ ds o5 o6 o7,Iv S ds M []/\forL (a_ 2 (aA (ae [] 5) (aA (ae [] 6) ba))) (bx (bM (aa 6)) (ae [] 7) (j3 4 (aa 7) (aa 5))) (eG ((Wd M).map λk=>D.str (S k))) (s8 ru tt L st [] none none none) = .ok .next (s8 ru tt L st ds o5 o6 o7):=by
 obtain⟨δ',e,ds,o5,o6,o7,I,rfl⟩:=jZ (g:=a_ 2 (aA (ae [] 5) (aA (ae [] 6) ba))) (b:=bx (bM (aa 6)) (ae [] 7) (j3 4 (aa 7) (aa 5)))
  (λn δ=>∃ ds o5 o6 o7,Iv S ds n []/\δ=s8 ru tt L st ds o5 o6 o7) (eG ((Wd M).map λk=>D.str (S k))) 0 (s8 ru tt L st [] none none none) ⟨[],none,none,none,⟨λx=>by simp[a0,dU,iD],U',[],rfl,Ux⟩,rfl⟩ (λi d δ hd ⟨ds,o5,o6,o7,I,e⟩=>by
   subst e;obtain⟨d',h1,rfl⟩:=ug hd;have hi:i < M:=by
    have:=(W6.mp h1).1;simpa using this
   have:d' = .str (S i):=by
    rw[Wp,JS hi] at h1;simpa using h1.symm
   subst this;rw[Q3] at I ⊢;obtain⟨b8,o7',I',e⟩:=Kz ru tt L st S i Y' (pS (.str (S i))) (S i) [] ds o7 I (by simpa using hS i);rw[Qm] at I';refine⟨s8 ru tt L st ds (pS (.int (i:Int))) (pS (.str (S i))) o7,s8 ru tt L st b8 (pS (.int (i:Int))) (pS (.str (S i))) o7',rfl,?_,b8,_,_,o7',I'.next (hS i),rfl⟩;have iq:bM (aa 6) (s8 ru tt L st ds (pS (.int (i:Int))) (pS (.str (S i))) o7) = .ok ((S i).map λn=>D.str [n]) (s8 ru tt L st ds (pS (.int (i:Int))) (pS (.str (S i))) o7):=by
    simp[fW,aa]
   simp_all)
 grind[eG]
def KA(bs:List (Nat×List Tx))(f:Nat->Option Nat):List D:=bs.map λb=>D.tup [.str [b.1],(iD (f b.1)).getD .ay]
theorem Iv.get{S:Nat->Tx}{ds:List (aB×D)}{i:Nat}(I:Iv S ds i [])(x:Nat):(a0 ds (.inr [x])).getD .ay=(iD (dU S x i)).getD .ay:=by
 rw[I.val x]
 cases dU S x i with
 | some j=>rfl
 | none=>rfl
theorem zg5{h w t:Nat}{bs:List (Nat×List Tx)}(G:r8 h w bs)(ht:t ∈ bs.map (·.1)):∃ M,(∀ k,∃ j,j < M/\sq bs t k=sq bs t j) /\
  Rt nE [.pure (aC h w bs),.pure (.str [t])] (.own (.lst (KA bs λx=>dU (sq bs t) x M))):=by
 have R:=G.R;have n1:=R.n1;obtain⟨M,s,hs,e,hM,gs⟩:=zib G ht;refine⟨M,Kt (λi j q=>by show nQ bs _=nQ bs _; rw[q]) hs e,?_⟩;have g0:=rW R ht;have gt:=Iz R;obtain⟨ds,o5,o6,o7,I,el⟩:=z9R (aC h w bs) (.str [t]) (jF bs t M) (.int (s:Nat)) (sq bs t) M Y' (λk=>Qe (Kp R ht k) n1);have c:=j0 (cs:=[7]) (g:=ae [] 7) (t:=bW) (el:=cj (aT (aa 7) (aT (kK 4 (aa 7)) bG))) (λb:Nat×List Tx=>D.str [b.1]) (λb=>D.tup [.str [b.1],(iD (dU (sq bs t) b.1 M)).getD .ay]) (s8 (aC h w bs) (.str [t]) (jF bs t M) (.int (s:Nat)) ds o5 o6 none) bs [] (by rw[dA]; simp; lia) (λb hb=>by
  have q:=I.get b.1;refine⟨s8 (aC h w bs) (.str [t]) (jF bs t M) (.int (s:Nat)) ds o5 o6 (some (.str [b.1])),_,.pure (.tup [.str [b.1],(iD (dU (sq bs t) b.1 M)).getD .ay]),s8 (aC h w bs) (.str [t]) (jF bs t M) (.int (s:Nat)) ds o5 o6 (some (.str [b.1])),rfl,rfl,?_,rfl,rfl⟩;rw[<- q];generalize jF bs t M=L at *;generalize aC h w bs=ru at *;simp[aa,kK,kJ,S.d,bD])
 have et:iE (bs.map (·.1)) = .lst (bs.map λb=>D.str [b.1]):=by unfold iE; rw[Wu]; rfl
 have hen:∀ δ:Dl,δ[2]? = some (pS (jF bs t M))->i3 (aa 2) δ = .ok (eG ((Wd M).map λk=>D.str (sq bs t k))) δ:=λδ hδ=>by
  have qaZ:δ.set 2 (pS (jF bs t M))=δ:=by
   apply U8;intro i;by_cases hi:2=i
   ·subst hi;rw[Wl (W6.mp hδ).1,hδ]
   ·rw[W8 hi]
  simp[i3,aa,hδ,S.d]
 rw[nE,yL];have hR:KA bs (λx=>dU (sq bs t) x M)=bs.map λb=>D.tup [.str [b.1],(iD (dU (sq bs t) b.1 M)).getD .ay]:=rfl
 rw[hR];generalize (bs.map λb=>D.tup [.str [b.1],(iD (dU (sq bs t) b.1 M)).getD .ay])=Y at *;generalize eG ((Wd M).map λk=>D.str (sq bs t k))=EN at *;generalize jF bs t M=L at *;generalize hTD:iE (bs.map (·.1))=T at *;generalize (bs.map λb:Nat×List Tx=>D.str [b.1])=TS at *;generalize aC h w bs=ru at *;refine nN (δ1:=s8 ru (.str [t]) L (.int (s:Nat)) ds o5 o6 o7) ?_;rw[dF (δ1:=[pS ru,pS (.str [t]),none,none,none,none,none,none]) (by
  simp[bc,du,ao,aZ,bB,bz,aa,bh,g0,aS])]
 rw[dF (δ1:=[pS ru,pS (.str [t]),pS L,pS (.int (s:Nat)),none,none,none,none]) (by
  simp[ak,ao,aZ,bB,bz,aa,bh,gs,aS,a_,aA,ba])]
 rw[dF (δ1:=s8 ru (.str [t]) L (.int (s:Nat)) [] none none none) (by simp[ak,gL])];rw[dF ((nO (hen _ rfl)).trans el)];have i:bM (ao jw [.val (aa 0)]) (s8 ru (.str [t]) L (.int (s:Nat)) ds o5 o6 o7) = .ok TS (s8 ru (.str [t]) L (.int (s:Nat)) ds o5 o6 o7):=by
  simp[fW,ao,aZ,bB,bz,aa,bh,gt,aS,S.d,et]
 have eC:([7]:List Nat).any (bC (s8 ru (.str [t]) L (.int (s:Nat)) ds o5 o6 o7))=false:=by cases o7 <;> rfl
 have iA:bj [7] (s8 ru (.str [t]) L (.int (s:Nat)) ds o5 o6 o7)=s8 ru (.str [t]) L (.int (s:Nat)) ds o5 o6 none:=rfl;show((cV _ _ _ _ _ _).bind _)=_;rw[x8,i];simp only[jY];rw[eC,iA,c];rfl
theorem qab(i j:Int):oj (.int i) (.int j)=pS (.bl (decide (j < i))):=rfl
theorem c8(h:a δ = .ok .next δ1)(h2:b δ1=x):aq a b δ=x:=by
 rw[EA,h];simpa using h2
theorem r9(h1:it δ = .ok ds δ1)(h2:forL g b ds δ1 = .ok fl δ2):bx it g b δ = .ok fl δ2:=by
 rw[UR,h1];exact h2
open PySem.SeqAt (ltP)
abbrev IP:=Int×Int
def cL(h w:Nat)(bs:List (Nat×List Tx))(A B:Nat)(f:Nat->Option IP)(n:Nat):List IP :=
 (Wd h).flatMap λi=>(Wd w).filterMap λj=>(f (nt bs n i j)).map λp=>((i:Int) * (A:Int) + p.1,(j:Int) * (B:Int) + p.2)
def fq:List IP->Option IP
 | []=>none
 | p :: ps=>some (e9 (p :: ps))
def pl(h w:Nat)(bs:List (Nat×List Tx))(o:Nat):Nat->Nat->Option IP
 | 0,n=>if n=o then some (0,0) else none
 | t + 1,n=>fq (cL h w bs (h ^ t) (w ^ t) (pl h w bs o t) n)
theorem KC(h:fq L=some p):p ∈ L/\∀ q ∈ L,ltP q.1 q.2 p.1 p.2=false:=by
 cases L with
 | nil=>cases h
 | cons a r =>
  have e:e9 (a :: r)=p:=WS h;rw[<- e];exact xT (a :: r) U'
theorem KD(h:fq L=none):L=[]:=by
 cases L with
 | nil=>rfl
 | cons a r=>cases h
theorem zY(h0:0 < h)(w0:0 < w)(bs:List (Nat×List Tx))(n:Nat):∀ t r c,r < h ^ (t + 1)->c < w ^ (t + 1)->fo h w bs n (t + 1) r c=fo h w bs (nt bs n (r / h ^ t) (c / w ^ t)) t (r % h ^ t) (c % w ^ t)
 | 0,r,c,hr,hc=>by
  rw[Nat.pow_one] at hr hc;show nt bs n (r % h) (c % w)=nt bs n (r / h ^ 0) (c / w ^ 0);rw[UO,UO,Nat.div_one,Nat.div_one,Jm hr,Jm hc]
 | t + 1,r,c,hr,hc=>by
  have i1:r / h < h ^ (t + 1):=by rw[J5 h0,<- WL]; exact hr
  have i2:c / w < w ^ (t + 1):=by rw[J5 w0,<- WL]; exact hc
  have ih:=zY h0 w0 bs n t (r / h) (c / w) i1 i2;show nt bs (fo h w bs n (t + 1) (r / h) (c / w)) (r % h) (c % w)=nt bs (fo h w bs (nt bs n (r / h ^ (t + 1)) (c / w ^ (t + 1))) t (r % h ^ (t + 1) / h) (c % w ^ (t + 1) / w)) (r % h ^ (t + 1) % h) (c % w ^ (t + 1) % w);grind[Nat.div_div_eq_div_mul,WY,Nat.mod_mul_right_div_self,Nat.mod_mod_of_dvd,Nat.dvd_mul_right]
def KG(f:Nat->Nat->Nat)(A B o:Nat)(p:IP):Prop :=
 ∃ r c:Nat,p=((r:Int),(c:Int))/\r < A/\c < B/\f r c=o/\∀ r' c':Nat,r' < A->c' < B->f r' c'=o->ltP (r':Int) (c':Int) (r:Int) (c:Int)=false
theorem KH:p ∈ cL h w bs A B f n ↔ ∃ i j q,i < h/\j < w/\f (nt bs n i j)=some q/\p=((i:Int) * (A:Int) + q.1,(j:Int) * (B:Int) + q.2):=by
 unfold cL;rw[Uj];constructor
 ·rintro ⟨i,hi,hp⟩;obtain⟨j,hj,e⟩:=Ur.mp hp;obtain⟨q,e1,e2⟩:=Ww.mp e;exact⟨i,j,q,WP.mp hi,WP.mp hj,e1,e2.symm⟩
 ·rintro ⟨i,j,q,hi,hj,e1,e2⟩;exact⟨i,WP.mpr hi,List.mem_filterMap.mpr ⟨j,WP.mpr hj,by rw[e1,e2]; rfl⟩⟩
theorem r_(R:aG h w bs):∀ t n,n ∈ bs.map (·.1)->(∀ p,pl h w bs o t n=some p->KG (fo h w bs n t) (h ^ t) (w ^ t) o p)/\(pl h w bs o t n=none->∀ r c,r < h ^ t->c < w ^ t->fo h w bs n t r c≠o)
 | 0,n,hn=>by
  refine⟨λp e=>?_,λe r c _ _ z=>?_⟩
  ·unfold pl at e;by_cases eC:n=o
   ·rw[if_pos eC] at e
    cases e;refine⟨0,0,rfl,U',U',eC,λr' c' hr hc _=>?_⟩;rw[UO] at hr hc;obtain rfl:r'=0:=by lia
    obtain rfl:c'=0:=by lia
    rfl
   grind
  ·unfold pl at e;have z:n=o:=z;grind
 | t + 1,n,hn=>by
  have h0:=R.h0;have w0:=R.w0;have se:0 < h ^ t:=UG h0;have zZ:0 < w ^ t:=UG w0;-- each place where it is has a candidate that is not behind it
  have key:∀ r c:Nat,r < h ^ (t + 1)->c < w ^ (t + 1)->fo h w bs n (t + 1) r c=o->∃ q ∈ cL h w bs (h ^ t) (w ^ t) (pl h w bs o t) n,ltP (r:Int) (c:Int) q.1 q.2=false:=λr c hr hc e=>by
   rw[zY h0 w0 bs n t r c hr hc] at e;have i1:r / h ^ t < h:=by rw[J5 se,WY,<- WL]; exact hr
   have j1:c / w ^ t < w:=by rw[J5 zZ,WY,<- WL]; exact hc
   have r1:r % h ^ t < h ^ t:=Jd _ se;have c1:c % w ^ t < w ^ t:=Jd _ zZ;obtain⟨k1,k2⟩:=r_ (o:=o) R t _ (pk R hn i1 j1).1
   cases hp:pl h w bs o t (nt bs n (r / h ^ t) (c / w ^ t)) with
   | none=>exact absurd e (k2 hp _ _ r1 c1)
   | some q =>
    obtain⟨r0,c0,rfl,_,_,_,mn⟩:=k1 q hp;have m:=mn _ _ r1 c1 e;refine⟨_,KH.mpr ⟨_,_,_,i1,j1,hp,rfl⟩,?_⟩;have er:(r:Int)=((r / h ^ t:Nat):Int) * ((h ^ t:Nat):Int) + ((r % h ^ t:Nat):Int):=by
     have:=Nat.div_add_mod' r (h ^ t);rw[<- Qx,<- U4,this]
    have ec:(c:Int)=((c / w ^ t:Nat):Int) * ((w ^ t:Nat):Int) + ((c % w ^ t:Nat):Int):=by
     have:=Nat.div_add_mod' c (w ^ t);rw[<- Qx,<- U4,this]
    rw[WX,Ne,PySem.jn] at m ⊢;rw[er,ec];simp only;generalize ((r / h ^ t:Nat):Int) * ((h ^ t:Nat):Int)=x at *;generalize ((c / w ^ t:Nat):Int) * ((w ^ t:Nat):Int)=y at *;generalize ((r % h ^ t:Nat):Int)=x1 at *;generalize ((c % w ^ t:Nat):Int)=y1 at *;lia
  refine⟨λp e=>?_,λe r c hr hc z=>?_⟩
  ·obtain⟨hm,hl⟩:=KC e;obtain⟨i,j,q,hi,hj,eq,rfl⟩:=KH.mp hm;obtain⟨k1,_⟩:=r_ (o:=o) R t _ (pk R hn hi hj).1;obtain⟨r0,c0,rfl,hr0,hc0,e0,_⟩:=k1 q eq;have hR:i * h ^ t + r0 < h ^ (t + 1):=by
    rw[WL,WY (h ^ t) h];have:(i + 1) * h ^ t<=h * h ^ t:=Jf _ hi;rw[U6,J8] at this;lia
   have hC:j * w ^ t + c0 < w ^ (t + 1):=by
    rw[WL,WY (w ^ t) w];have:(j + 1) * w ^ t<=w * w ^ t:=Jf _ hj;rw[U6,J8] at this;lia
   refine⟨i * h ^ t + r0,j * w ^ t + c0,by rw[U4,Qx,U4,Qx],hR,hC,?_,λr' c' nj fZ e'=>?_⟩
   ·rw[zY h0 w0 bs n t _ _ hR hC];have d1:(i * h ^ t + r0) / h ^ t=i:=by rw[WY,Nat.mul_add_div se,UJ hr0,UL]
    have d2:(j * w ^ t + c0) / w ^ t=j:=by rw[WY,Nat.mul_add_div zZ,UJ hc0,UL]
    have m1:(i * h ^ t + r0) % h ^ t=r0:=by rw[WY,Nat.mul_add_mod,Jm hr0]
    have m2:(j * w ^ t + c0) % w ^ t=c0:=by rw[WY,Nat.mul_add_mod,Jm hc0]
    rw[d1,d2,m1,m2];exact e0
   ·obtain⟨q,hq,hb⟩:=key r' c' nj fZ e';have hx:=hl q hq;rw[WX,Ne,PySem.jn] at hx hb ⊢;rw[U4,Qx,U4,Qx];simp only at hx;generalize (i:Int) * ((h ^ t:Nat):Int)=x at *;generalize (j:Int) * ((w ^ t:Nat):Int)=y at *;lia
  ·obtain⟨q,hq,_⟩:=key r c hr hc z;rw[KD e] at hq
   cases hq
abbrev dW(p:IP):D:=.tup [.int p.1,.int p.2]
theorem KI(i j:Int)(h0:0<=i)(h1:i<=1000):b9 (.int i) (.int j)=pS (.int (i * j)):=by
 unfold b9 qk eV;have:jQ i j=true:=by unfold jQ; simp; lia
 grind
theorem KJ(w:Nat)(g:Nat->D):eG ((Wd w).map g)=(Wd w).map λj:Nat=>D.tup [.int (j:Int),g j]:=by
 apply U8;intro i;unfold eG;rw[List.getElem?_mapIdx,Wp,Wp];by_cases h:i < w
 ·rw[JS h]; rfl
 ·rw[WR R']; rfl
theorem KL(g:Nat->Option α):∀ (l:List Nat) (a:List α),l.foldl (λa j=>a ++ (g j).toList) a=a ++ l.filterMap g
 | [],a=>by simp
 | j :: r,a=>by
  rw[Qw,KL g r]
  cases e:g j with
  | none=>simp[e]
  | some x=>simp[e]
theorem KN(g:Nat->List α):∀ (l:List Nat) (a:List α),l.foldl (λa j=>a ++ g j) a=a ++ l.flatMap g
 | [],a=>by simp
 | j :: r,a=>by rw[Qw,KN g r]; simp
theorem zh0(f:DE)(δ:Dl):i3 f δ=(f δ).bind λr δ1=>match r.d with
 | .lst ds=>.ok (eG ds) δ1
 | .tup ds=>.ok (eG ds) δ1
 | _=>.stuck:=rfl
theorem zdI(f:DE)(δ:Dl):kL f δ=(f δ).bind λr δ1=>match r.d with
 | .str x=>.ok (eG (x.map λn=>.str [n])) δ1
 | _=>.stuck:=rfl
def Holds(bs:List (Nat×List Tx))(f:Nat->Option IP)(ds:List (aB×D)):Prop:=∀ n ∈ bs.map (·.1),a0 ds (.inr [n])=(f n).map dW
abbrev z5:DS:=(cx (aI (aE (eF false) (aa 11) (aj 1))) (aq (ak (ah cp 1 (aj 11)) (a_ 2 (aA (ae [] 12) (aA (ae [] 13) ba)))) (eW 7 (cj (aT (aE bH (ah b9 8 (aj 2)) (aj 12)) (aT (aE bH (ah b9 10 (aj 3)) (aj 13)) bG))))) cC)
abbrev z6:DG:=(a_ 2 (aA (ae [] 10) (aA (ae [] 11) ba)))
abbrev z7:DS:=(bx (kL (aa 9)) z6 z5)
abbrev z8:DG:=(a_ 2 (aA (ae [] 8) (aA (ae [] 9) ba)))
abbrev z9:DG:=(a_ 2 (aA (ae [] 5) (aA (ae [] 6) ba)))
abbrev z_:DS:=(aq (ak (fD bG) (ae [] 7)) (aq (bx (i3 (aa 6)) z8 z7) (cx (aI (aE oj (aR cN (aj 7)) (aw (eD (.int 0))))) (eO 4 (aa 5) (aR lV (aj 7))) cC)))
abbrev hJ(ru pd ta tb:D)(G:List (aB×D))(o5 o6:Option S)(L:List IP)(o8 o9 aW bE bo bK:Option S):Dl:=[pS ru,pS pd,pS ta,pS tb,pO (.au G),o5,o6,pO (.lst (L.map dW)),o8,o9,aW,bE,bo,bK]
section
variable {h w:Nat} {bs:List (Nat×List Tx)} (R:aG h w bs) {A C:Nat} {f:Nat->Option IP} {ds:List (aB×D)} (hH:Holds bs f ds) (ru:D) {n:Nat} (hn:n ∈ bs.map (·.1)) (G:List (aB×D)) (o5 o6:Option S)
include R hH hn
theorem qac(hi:i < h)(L0:List IP)(hL:L0.length<=100)(o9:Option S)(J:Option S×Option S×Option S×Option S) :
  ∃ J':Option S×Option S×Option S×Option S,forL z6 z5 ((Wd w).map λj:Nat=>D.tup [.int (j:Int),.str [nt bs n i j]]) (hJ ru (.au ds) (.int (A:Int)) (.int (C:Int)) G o5 o6 L0 (pS (.int (i:Int))) o9 J.1 J.2.1 J.2.2.1 J.2.2.2) = .ok .next (hJ ru (.au ds) (.int (A:Int)) (.int (C:Int)) G o5 o6 (L0 ++ (Wd w).filterMap λj=>(f (nt bs n i j)).map λp=>((i:Int) * (A:Int) + p.1,(j:Int) * (C:Int) + p.2)) (pS (.int (i:Int))) o9 J'.1 J'.2.1 J'.2.2.1 J'.2.2.2):=by
 have w1:=R.w1;have h1:=R.h1;obtain⟨J',e,_⟩:=rK (g:=z6) (b:=z5) (λj:Nat=>D.tup [.int (j:Int),.str [nt bs n i j]]) (λ(L:List IP) (J:Option S×Option S×Option S×Option S)=>hJ ru (.au ds) (.int (A:Int)) (.int (C:Int)) G o5 o6 L (pS (.int (i:Int))) o9 J.1 J.2.1 J.2.2.1 J.2.2.2)
  (λL j=>L ++ ((f (nt bs n i j)).map λp=>((i:Int) * (A:Int) + p.1,(j:Int) * (C:Int) + p.2)).toList) (λk L=>L.length<=100 + k) (λj=>j < w) 1000 (λk L J j hk hp hj=>by
   have hm:=(pk R hn hi hj).1;have hv:=hH _ hm;have eZ:eF false (.str [nt bs n i j]) (.au ds)=pS (.bl (a0 ds (.inr [nt bs n i j])).isSome):=rfl;have Aa:cp (.au ds) (.str [nt bs n i j])=(a0 ds (.inr [nt bs n i j])).map S.pure:=rfl;rw[hv] at eZ Aa;generalize nt bs n i j=m at *
   cases e:f m with
   | none =>
    rw[e] at eZ;refine⟨by simp; lia,_,(pS (.int (j:Int)),pS (.str [m]),J.2.2.1,J.2.2.2),rfl,?_⟩;have Ab:eF false (.str [m]) (.au ds)=pS (.bl false):=eZ;simp only[Option.map_none,Option.toList_none,Qb];generalize D.int (j:Int)=dj at *;generalize D.int (i:Int)=di at *;generalize L.map dW=LD at *;generalize D.au ds=dd at *;generalize D.str [m]=dm at *;simp[hJ,aI,aa,aj,Ab]
   | some q =>
    rw[e] at eZ Aa;have Ab:eF false (.str [m]) (.au ds)=pS (.bl true):=eZ;have qad:cp (.au ds) (.str [m])=pS (dW q):=Aa;have m1:=KI (i:Int) (A:Int) Y' Y';have m2:=KI (j:Int) (C:Int) Y' Y';have a1:=vm ((i:Int) * (A:Int)) q.1;have a2:=vm ((j:Int) * (C:Int)) q.2;have hz:L.length < Wb:=by rw[dA]; lia
    refine⟨by simp; lia,_,(pS (.int (j:Int)),pS (.str [m]),pS (.int q.1),pS (.int q.2)),rfl,?_⟩;simp only[Wz,Option.toList_some];generalize (i:Int) * (A:Int) + q.1=x1 at *;generalize (j:Int) * (C:Int) + q.2=x2 at *;generalize (i:Int) * (A:Int)=x3 at *;generalize (j:Int) * (C:Int)=x4 at *;generalize D.au ds=dd at *;generalize D.str [m]=dm at *;simp[hJ,aI,aa,aj,Ab,ak,ah,bu,qad,a_,aA,ba,eW,iW,m1,m2,a1,a2,putL,hz]) (Wd w) 0 L0 J R' Y' (λj hj=>WP.mp hj)
 rw[KL] at e;exact⟨J',e⟩
theorem zjo(L6:D)(hb:∀ δ:Dl,True)(J:Option S×Option S×Option S×Option S×Option S×Option S) :
  ∃ J':Option S×Option S×Option S×Option S×Option S×Option S,forL z8 z7 ((Wd h).map λi:Nat=>D.tup [.int (i:Int),.str ((Wd w).map (nt bs n i))]) (hJ ru (.au ds) (.int (A:Int)) (.int (C:Int)) G o5 o6 [] J.1 J.2.1 J.2.2.1 J.2.2.2.1 J.2.2.2.2.1 J.2.2.2.2.2) = .ok .next (hJ ru (.au ds) (.int (A:Int)) (.int (C:Int)) G o5 o6 (cL h w bs A C f n) J'.1 J'.2.1 J'.2.2.1 J'.2.2.2.1 J'.2.2.2.2.1 J'.2.2.2.2.2):=by
 have w1:=R.w1;have h1:=R.h1;obtain⟨J',e,_⟩:=rK (g:=z8) (b:=z7) (λi:Nat=>D.tup [.int (i:Int),.str ((Wd w).map (nt bs n i))]) (λ(L:List IP) (J:Option S×Option S×Option S×Option S×Option S×Option S)=>hJ ru (.au ds) (.int (A:Int)) (.int (C:Int)) G o5 o6 L J.1 J.2.1 J.2.2.1 J.2.2.2.1 J.2.2.2.2.1 J.2.2.2.2.2)
  (λL i=>L ++ (Wd w).filterMap λj=>(f (nt bs n i j)).map λp=>((i:Int) * (A:Int) + p.1,(j:Int) * (C:Int) + p.2)) (λk L=>L.length<=k * w) (λi=>i < h) 4 (λk L J i hk hp hi=>by
   have hl:L.length<=100:=by
    have:k * w<=4 * 4:=Uy Y' w1;lia
   obtain⟨J',e⟩:=qac R (A:=A) (C:=C) hH ru hn G o5 o6 hi L hl (pS (.str ((Wd w).map (nt bs n i)))) J.2.2;refine⟨?_,_,(pS (.int (i:Int)),pS (.str ((Wd w).map (nt bs n i))),J'),rfl,?_⟩
   ·have:=List.length_filterMap_le (λj=>(f (nt bs n i j)).map λp=>((i:Int) * (A:Int) + p.1,(j:Int) * (C:Int) + p.2)) (Wd w);rw[WT,U6,J8];rw[JC] at this;lia
   ·refine r9 (ds:=(Wd w).map λj:Nat=>D.tup [.int (j:Int),.str [nt bs n i j]]) ?_ e;simp[hJ,zdI,aa];exact KJ w (λj=>D.str [nt bs n i j])) (Wd h) 0 [] J R' U' (λi hi=>WP.mp hi)
 rw[KN] at e;exact⟨J',e⟩
end
def d_(bs:List (Nat×List Tx))(g:Nat->Option IP):List (aB×D):=bs.filterMap λb=>(g b.1).map λp=>((.inr [b.1]:aB),dW p)
theorem zh3(bs:List (Nat×List Tx))(g:Nat->Option IP):(d_ bs g).length<=bs.length:=List.length_filterMap_le _ _
theorem KO(g:Nat->Option IP):∀ (bs:List (Nat×List Tx)),(bs.map (·.1)).Pairwise (· < ·)->∀ n ∈ bs.map (·.1),a0 (d_ bs g) (.inr [n])=(g n).map dW
 | [],_,n,hn=>by cases hn
 | b :: r,hu,n,hn=>by
  rw[We,Qa] at hu;have no:∀ m,(∀ b' ∈ r,b'.1≠m)->a0 (d_ r g) (.inr [m])=none:=λm hm=>by
   unfold a0;have:(d_ r g).find? (λkv=>decide (kv.1 = .inr [m]))=none:=by
    rw[List.find?_eq_none];intro x hx z;obtain⟨b',cz,e⟩:=Ur.mp hx;obtain⟨p,_,rfl⟩:=Ww.mp e;simp at z;exact hm b' cz z
   rw[this]; rfl
  by_cases hb:b.1=n
  ·have hr:=no n λb' cz z=>by
    have:=hu.1 b'.1 (WK cz);lia
   have hd:d_ (b :: r) g=((g b.1).map λp=>((.inr [b.1]:aB),dW p)).toList ++ d_ r g:=by
    unfold d_
    cases e:(g b.1).map λp=>((.inr [b.1]:aB),dW p) with
    | none=>simp[e]
    | some x=>simp[e]
   rw[hd,hb]
   cases e:g n with
   | none=>simpa using hr
   | some p=>simp[a0]
  ·have hm:n ∈ r.map (·.1):=by grind
   have ih:=KO g r hu.2 n hm;have hd:d_ (b :: r) g=((g b.1).map λp=>((.inr [b.1]:aB),dW p)).toList ++ d_ r g:=by
    unfold d_
    cases e:(g b.1).map λp=>((.inr [b.1]:aB),dW p) with
    | none=>simp[e]
    | some x=>simp[e]
   rw[hd,<- ih]
   cases e:g b.1 with
   | none=>simp
   | some p=>simp[a0,WW,hb]
theorem zgb(h:∀ x ∈ ds,x.1≠k):putD ds k v=ds ++ [(k,v)]:=by
 unfold putD;rw[if_neg];intro z;obtain⟨x,hx,e⟩:=List.any_eq_true.mp z;exact h x hx (by simpa using e)
theorem z86:∀ (L:List IP) (p:IP),fq L=some p->lV (.lst (L.map dW))=pS (dW p)
 | [],p,e=>by cases e
 | a :: r,p,e=>by
  have hp:∀ L:List IP,lU (L.map dW)=some L:=λL=>by
   induction L with
   | nil=>rfl
   | cons a r ih=>simp[lU,qL,ih]
  have e:e9 (a :: r)=p:=WS e;unfold lV;simp only[hp,e]
theorem KP:∀ {bs:List (Nat×List Tx)},(bs.map (·.1)).Pairwise (· < ·)->∀ {a b:Nat×List Tx},a ∈ bs->b ∈ bs->a.1=b.1->a=b
 | [],_,_,_,ha,_,_=>by cases ha
 | x :: r,h,a,b,ha,hb,e=>by
  rw[We,Qa] at h;rcases Wq.mp ha with ha | ha
  ·rcases Wq.mp hb with hb | hb
   ·rw[ha,hb]
   ·have:=h.1 b.1 (WK hb);rw[ha] at e;lia
  ·rcases Wq.mp hb with hb | hb
   ·have:=h.1 a.1 (WK ha);rw[hb] at e;lia
   ·exact KP h.2 ha hb e
theorem KQ:∀ {bs:List (Nat×List Tx)},(bs.map (·.1)).Pairwise (· < ·)->∀ {k:Nat} {b b':Nat×List Tx},bs[k]? = some b->b' ∈ bs.take k->b'.1=b.1->False
 | [],_,k,b,b',h,_,_=>by simp at h
 | x :: r,hu,0,b,b',h,h',_=>by simp at h'
 | x :: r,hu,k + 1,b,b',h,h',e=>by
  rw[We,Qa] at hu;have h:r[k]? = some b:=by simpa using h
  rw[List.take_succ_cons] at h';rcases Wq.mp h' with z | z
  ·have:=hu.1 b.1 (WK (Q4 h));rw[z] at e;lia
  ·exact KQ hu.2 h z e
theorem KR(R:aG h w bs)(hb:b ∈ bs):b.2=(Wd h).map λi=>(Wd w).map (nt bs b.1 i):=by
 have hn:b.1 ∈ bs.map (·.1):=WK hb;obtain⟨b',cz,e',_,k⟩:=gM hn;have hB:=R.aV b hb;have yr:b'=b:=KP R.up cz hb e';subst yr;apply U8;intro i;by_cases hi:i < h
 ·have:=HE R hn hi;rw[k] at this;rw[Wp,JS hi,Wz,<- this,Q8];have hl:i < b'.2.length:=by rw[hB.1]; exact hi
  rw[Wc hl];rfl
 ·rw[WR (by rw[hB.1]; lia),WR R']
theorem zcY{h w:Nat}{bs:List (Nat×List Tx)}(R:aG h w bs){A C:Nat}{f:Nat->Option IP}{ds:List (aB×D)}(hH:Holds bs f ds)(ru:D)(x2:az ru (.int 2)=pS (.tup (bs.map cX))) :
  bf [] 14 (aq (ak gL (ae [] 4)) (aq (bx (bM (ah az 0 (aw (eD (.int 2))))) z9 z_) (gZ [] 4))) [.pure ru,.pure (.au ds),.pure (.int (A:Int)),.pure (.int (C:Int))]=some (.own (.au (d_ bs λn=>fq (cL h w bs A C f n))),[.pure ru,.pure (.au ds),.pure (.int (A:Int)),.pure (.int (C:Int))]):=by
 have n1:=R.n1;obtain⟨δ',e,o5,o6,o7,o8,o9,aW,bE,bo,bK,rfl⟩:=jZ (g:=z9) (b:=z_) (λk δ=>∃ (o5 o6 o7 o8 o9 aW bE bo bK:Option S),δ=[pS ru,pS (.au ds),pS (.int (A:Int)),pS (.int (C:Int)),pO (.au (d_ (bs.take k) λn=>fq (cL h w bs A C f n))),o5,o6,o7,o8,o9,aW,bE,bo,bK]) (bs.map cX) 0 [pS ru,pS (.au ds),pS (.int (A:Int)),pS (.int (C:Int)),pO (.au []),none,none,none,none,none,none,none,none,none] ⟨none,none,none,none,none,none,none,none,none,rfl⟩ (λk d δ hd ⟨o5,o6,o7,o8,o9,aW,bE,bo,bK,e⟩=>by
  subst e;rw[Wp,Ww] at hd;obtain⟨b,hb,rfl⟩:=hd;have KS:=Q4 hb;have hn:b.1 ∈ bs.map (·.1):=WK KS;rw[Q3];obtain⟨J',e⟩:=zjo R (A:=A) (C:=C) hH ru hn (d_ (bs.take k) λn=>fq (cL h w bs A C f n)) (pS (.str [b.1])) (pS (bR b.2)) .ay (by grind) (o8,o9,aW,bE,bo,bK);have iO:eG (b.2.map D.str)=(Wd h).map λi:Nat=>D.tup [.int (i:Int),.str ((Wd w).map (nt bs b.1 i))]:=by
   rw[KR R KS,Wu];exact KJ h (λi=>D.str ((Wd w).map (nt bs b.1 i)))
  have sI:d_ (bs.take (k + 1)) (λn=>fq (cL h w bs A C f n))=d_ (bs.take k) (λn=>fq (cL h w bs A C f n)) ++ ((fq (cL h w bs A C f b.1)).map λp=>((.inr [b.1]:aB),dW p)).toList:=by
   unfold d_;rw[List.take_add_one,hb,List.filterMap_append]
   cases e:(fq (cL h w bs A C f b.1)).map λp=>((.inr [b.1]:aB),dW p) with
   | none=>simp[e]
   | some x=>simp[e]
  have qae:∀ x ∈ d_ (bs.take k) (λn=>fq (cL h w bs A C f n)),x.1≠(.inr [b.1]:aB):=λx hx z=>by
   obtain⟨b',cz,e⟩:=Ur.mp hx;obtain⟨p,_,rfl⟩:=Ww.mp e;have:b'.1=b.1:=by simpa using z
   exact KQ R.up hb cz this
  have hlen:(d_ (bs.take k) λn=>fq (cL h w bs A C f n)).length < Wb:=by
   have:=zh3 (bs.take k) λn=>fq (cL h w bs A C f n)
   rw[Ug] at this;rw[dA];lia
  rw[sI];generalize d_ (bs.take k) (λn=>fq (cL h w bs A C f n))=G at *;have ll:cN (.lst ((cL h w bs A C f b.1).map dW))=pS (.int ((cL h w bs A C f b.1).length:Int)):=by
   show some (S.pure (.int (((cL h w bs A C f b.1).map dW).length:Int)))=_;rw[Wx]
  have gt:=qab ((cL h w bs A C f b.1).length:Int) 0;refine⟨[pS ru,pS (.au ds),pS (.int (A:Int)),pS (.int (C:Int)),pO (.au G),pS (.str [b.1]),pS (bR b.2),o7,o8,o9,aW,bE,bo,bK],[pS ru,pS (.au ds),pS (.int (A:Int)),pS (.int (C:Int)),pO (.au (G ++ ((fq (cL h w bs A C f b.1)).map λp=>((.inr [b.1]:aB),dW p)).toList)),pS (.str [b.1]),pS (bR b.2),pO (.lst ((cL h w bs A C f b.1).map dW)),J'.1,J'.2.1,J'.2.2.1,J'.2.2.2.1,J'.2.2.2.2.1,J'.2.2.2.2.2],rfl,?_,_,_,_,_,_,_,_,_,_,rfl⟩;refine c8 (δ1:=hJ ru (.au ds) (.int (A:Int)) (.int (C:Int)) G (pS (.str [b.1])) (pS (bR b.2)) [] o8 o9 aW bE bo bK) rfl ?_;refine c8 (r9 (ds:=(Wd h).map λi:Nat=>D.tup [.int (i:Int),.str ((Wd w).map (nt bs b.1 i))]) ?_ e) ?_
  ·rw[<- iO];simp[hJ,zh0,aa]
  ·clear e iO
   cases hc:fq (cL h w bs A C f b.1) with
   | none =>
    have hz:=KD hc;rw[hz];have ll':cN (.lst [])=pS (.int 0):=rfl;have gt':oj (.int 0) (.int 0)=pS (.bl false):=rfl;simp only[Option.map_none,Option.toList_none,Qb];generalize D.au ds=dd at *;simp[hJ,aI,aj,ll',gt']
   | some p =>
    have mn:=z86 _ p hc;have se:(0:Int) < ((cL h w bs A C f b.1).length:Int):=by
     have:=(KC hc).1;have:=Jr this;lia
    rw[decide_eq_true se] at gt;have pn:=zgb (v:=dW p) qae;simp only[Wz,Option.toList_some];rw[<- pn];simp only[hJ];generalize D.int ((cL h w bs A C f b.1).length:Int)=dl at *;generalize (cL h w bs A C f b.1).map dW=LC at *;generalize hpi:dW p=dp at *;generalize D.au ds=dd at *;simp[hJ,aI,aj,ll,gt,eO,i4,aa,mn,bD,hlen])
 rw[Q3,Wx,List.take_length] at e;rw[dS];generalize (d_ bs λn=>fq (cL h w bs A C f n))=GG at *;have K:(aq (ak gL (ae [] 4)) (aq (bx (bM (ah az 0 (aw (eD (.int 2))))) z9 z_) (gZ [] 4))) (bc 14 [.pure ru,.pure (.au ds),.pure (.int (A:Int)),.pure (.int (C:Int))]) = .ok (.ret (.own (.au GG))) [pS ru,pS (.au ds),pS (.int (A:Int)),pS (.int (C:Int)),none,o5,o6,o7,o8,o9,aW,bE,bo,bK]:=by
  refine c8 (δ1:=[pS ru,pS (.au ds),pS (.int (A:Int)),pS (.int (C:Int)),pO (.au []),none,none,none,none,none,none,none,none,none]) rfl ?_;refine c8 (r9 (ds:=bs.map cX) ?_ e) ?_
  ·clear e;generalize hBD:bs.map cX=BD at *;simp[ah,bu,aj,x2,fW]
  ·simp[gZ]
 rw[K];simp[bO,bP,bJ]
theorem zcV{h w:Nat}{bs:List (Nat×List Tx)}(R:aG h w bs){A C:Nat}{f:Nat->Option IP}{ds:List (aB×D)}(hH:Holds bs f ds):Rt oV [.pure (aC h w bs),.pure (.au ds),.pure (.int (A:Int)),.pure (.int (C:Int))] (.own (.au (d_ bs λn=>fq (cL h w bs A C f n)))):=by
 rw[oV,Gj];exact zcY R hH _ (fc h w bs).2.2
abbrev KU:DS:=(aq (ak (ah b9 5 (aw (ah az 0 (aw (eD (.int 0)))))) (ae [] 5)) (ak (ah b9 6 (aw (ah az 0 (aw (eD (.int 1)))))) (ae [] 6)))
abbrev qaf:DS:=(ak (iB (aa 3) (eD (.tup [.int 0,.int 0]))) (ae [] 4))
abbrev KW(GG GN GR:DF):DS:=(aq (du (ao GR [.val (aa 0),.val (aa 1)])) (aq (du (ao GN [.val (aa 2)])) (aq (du (ao GR [.val (aa 0),.val (aa 3)])) (aq qaf (aq (ak (eD (.int 1)) (ae [] 5)) (aq (ak (eD (.int 1)) (ae [] 6)) (aq (bx (dz (aa 2)) (ae [] 7) (aq (ak (ao GG [.val (aa 0),.val (aa 4),.val (aa 5),.val (aa 6)]) (ae [] 4)) KU)) (bA (kK 4 (aa 1))))))))))
def vz(h w:Nat)(bs:List (Nat×List Tx))(o:Nat):Nat->List (aB×D)
 | 0=>[(.inr [o],.tup [.int 0,.int 0])]
 | k + 1=>d_ bs (pl h w bs o (k + 1))
theorem KY(R:aG h w bs):∀ k,Holds bs (pl h w bs o k) (vz h w bs o k)
 | 0,n,hn=>by
  unfold pl;by_cases e:n=o
  ·rw[if_pos e,e]; simp[vz,a0]
  ·rw[if_neg e];have:¬ o=n:=λz=>e z.symm
   simp[vz,a0,WW,this]
 | k + 1,n,hn=>KO _ bs R.up n hn
abbrev jc(ru:D)(n t o:Nat)(ds:List (aB×D))(a b:Nat)(o7:Option S):Dl:=[pS ru,pS (.str [n]),pS (.int (t:Int)),pS (.str [o]),pO (.au ds),pS (.int (a:Int)),pS (.int (b:Int)),o7]
theorem zg9(GR GN:DF)(GG:DF)(ru:D){h w n o t:Nat}(h1:h<=4)(w1:w<=4)(ht:t<=60)(DS:Nat->List (aB×D))(x0:az ru (.int 0)=pS (.int (h:Int)))(x1:az ru (.int 1)=pS (.int (w:Int)))(g:Rt GR [.pure ru,.pure (.str [n])] (.pure .ay))(g2:Rt GN [.pure (.int (t:Int))] (.pure .ay))(g3:Rt GR [.pure ru,.pure (.str [o])] (.pure .ay))
  (d0:DS 0=[(.inr [o],.tup [.int 0,.int 0])]) (gg:∀ k,Rt GG [.pure ru,.pure (.au (DS k)),.pure (.int ((h ^ k:Nat):Int)),.pure (.int ((w ^ k:Nat):Int))] (.own (.au (DS (k + 1))))) (y:D) (hy:(a0 (DS t) (.inr [n])).getD .ay=y) :
  bf [] 8 (KW GG GN GR) [.pure ru,.pure (.str [n]),.pure (.int (t:Int)),.pure (.str [o])]=some (.pure y,[.pure ru,.pure (.str [n]),.pure (.int (t:Int)),.pure (.str [o])]):=by
 obtain⟨δ',e,o7,rfl⟩:=jZ (g:=ae [] 7) (b:=(aq (ak (ao GG [.val (aa 0),.val (aa 4),.val (aa 5),.val (aa 6)]) (ae [] 4)) KU)) (λk δ=>∃ o7,δ=jc ru n t o (DS k) (h ^ k) (w ^ k) o7) (bI 0 t) 0 (jc ru n t o (DS 0) (h ^ 0) (w ^ 0) none) ⟨none,rfl⟩ (λk d δ hd ⟨o7,e⟩=>by
  subst e;obtain⟨hk,rfl⟩:=uA hd;rw[Q3];have q:=gg k;have m1:=rG ((h ^ k:Nat):Int) h Y' Y';have m2:=rG ((w ^ k:Nat):Int) w Y' Y';have s1:((h ^ k:Nat):Int) * (h:Int)=((h ^ (k + 1):Nat):Int):=by rw[WL,Qx]
  have s2:((w ^ k:Nat):Int) * (w:Int)=((w ^ (k + 1):Nat):Int):=by rw[WL,Qx]
  rw[s1] at m1;rw[s2] at m2;refine⟨jc ru n t o (DS k) (h ^ k) (w ^ k) (pS (.int (k:Int))),jc ru n t o (DS (k + 1)) (h ^ (k + 1)) (w ^ (k + 1)) (pS (.int (k:Int))),rfl,?_,_,rfl⟩;simp only[jc];generalize D.int ((h ^ k:Nat):Int)=a1 at *;generalize D.int ((w ^ k:Nat):Int)=b1 at *;generalize D.int ((h ^ (k + 1):Nat):Int)=a2 at *;generalize D.int ((w ^ (k + 1):Nat):Int)=b2 at *;generalize D.int (k:Int)=dk at *;generalize D.int (t:Int)=dt at *;generalize D.int (h:Int)=dh at *;generalize D.int (w:Int)=dw at *;generalize D.str [n]=dn at *;generalize D.str [o]=do' at *;generalize DS k=L1 at *;generalize DS (k + 1)=L2 at *;simp[jc,ak,ao,aZ,bB,bC,bz,bh,aS,aa,aj,q,ah,bu,x0,x1,m1,m2])
 rw[Q3,ED] at e;have K:(KW GG GN GR) (bc 8 [.pure ru,.pure (.str [n]),.pure (.int (t:Int)),.pure (.str [o])]) = .ok (.ret (.pure y)) (jc ru n t o (DS t) (h ^ t) (w ^ t) o7):=by
  refine c8 (δ1:=[pS ru,pS (.str [n]),pS (.int (t:Int)),pS (.str [o]),none,none,none,none]) ?_ ?_
  ·simp[bc,ao,aZ,bB,bC,bz,bh,aS,aa,g]
  refine c8 (δ1:=[pS ru,pS (.str [n]),pS (.int (t:Int)),pS (.str [o]),none,none,none,none]) ?_ ?_
  ·simp[ao,aZ,bB,bC,bz,bh,aS,aa,g2]
  refine c8 (δ1:=[pS ru,pS (.str [n]),pS (.int (t:Int)),pS (.str [o]),none,none,none,none]) ?_ ?_
  ·simp[ao,aZ,bB,bC,bz,bh,aS,aa,g3]
  refine c8 (δ1:=[pS ru,pS (.str [n]),pS (.int (t:Int)),pS (.str [o]),pO (.au (DS 0)),none,none,none]) ?_ ?_
  ·rw[d0];simp[ak,iB,aa,bD]
  refine c8 (δ1:=[pS ru,pS (.str [n]),pS (.int (t:Int)),pS (.str [o]),pO (.au (DS 0)),pS (.int 1),none,none]) rfl ?_;refine c8 (δ1:=jc ru n t o (DS 0) (h ^ 0) (w ^ 0) none) rfl ?_;refine c8 (r9 (ds:=bI 0 t) (δ1:=jc ru n t o (DS 0) (h ^ 0) (w ^ 0) none) ?_ e) ?_
  ·have hr:=jo t Y' (jc ru n t o (DS 0) (h ^ 0) (w ^ 0) none);simp only[jc] at hr ⊢;generalize D.int (t:Int)=dt at *;simp[aa];exact hr
  ·simp[jc,kK,kJ,aa,bD,hy]
 rw[dS,K];simp[bO,bP,bJ]
section
variable {h w n o t:Nat} {bs:List (Nat×List Tx)}
def pD:Option IP->D
 | none=>.ay
 | some p=>dW p
end
theorem vg(R:aG h w bs)(hn:n ∈ bs.map (·.1))(hρ:ρ<=h ^ g)(hγ:γ<=w ^ g):cZ h bs g n ρ γ y=(i_ (fo h w bs n g) ρ γ).flatten.count y:=by
 unfold cZ pc;rw[HF R hn];unfold i_;rw[<- List.map_take,List.take_range,Nat.min_eq_left hρ,Wu];congr 3
 funext i
 simp[<- List.map_take,List.take_range,Nat.min_eq_left hγ]
theorem g0:(i_ f ρ γ).flatten.count y=0 ↔ ∀ r,r < ρ->∀ c,c < γ->f r c≠y:=by
 rw[List.count_eq_zero];simp only[i_,List.mem_flatten,WD,WP];constructor
 ·intro z r hr c hc e;exact z ⟨_,⟨r,hr,rfl⟩,by simpa using ⟨c,hc,e⟩⟩
 ·rintro z ⟨l,⟨r,hr,rfl⟩,hl⟩;obtain⟨c,hc,e⟩:=WD.mp hl;exact z r hr c (WP.mp hc) e
theorem gS(f:Nat->Nat->Nat)(ρ γ y:Nat)(h:∀ c,c < γ->f ρ c≠y):(i_ f (ρ + 1) γ).flatten.count y=(i_ f ρ γ).flatten.count y:=by
 unfold i_;rw[QU,Q6,JU,QG];grind[List.count_eq_zero]
theorem KZ(R:aG h w bs)(hy:y ∈ bs.map (·.1)):x ∈ (aV bs y).flatten ↔ ∃ i j,i < h/\j < w/\nt bs y i j=x:=by
 obtain⟨b,hb,e,_,k⟩:=gM hy;subst e;rw[k,KR R hb];simp only[List.mem_flatten,WD,WP];constructor
 ·rintro ⟨l,⟨i,hi,rfl⟩,hl⟩;obtain⟨j,hj,e⟩:=WD.mp hl;exact⟨i,j,hi,WP.mp hj,e⟩
 ·rintro ⟨i,j,hi,hj,e⟩;exact⟨_,⟨i,hi,rfl⟩,WD.mpr ⟨j,WP.mpr hj,e⟩⟩
theorem Ac(R:aG h w bs)(hn:n ∈ bs.map (·.1)):∀ k x,x ∈ sq bs n k ↔ ∃ r c,r < h ^ k/\c < w ^ k/\fo h w bs n k r c=x
 | 0,x=>by
  simp only[sq,QM,fo,UO];exact⟨λe=>⟨0,0,Y',Y',e.symm⟩,λ⟨_,_,_,_,e⟩=>e.symm⟩
 | k + 1,x=>by
  have h0:=R.h0;have w0:=R.w0;rw[sq,vx];constructor
  ·rintro ⟨y,hy,hx⟩;obtain⟨r,c,hr,hc,e⟩:=(Ac R hn k y).mp hy;obtain⟨i,j,hi,hj,e2⟩:=(KZ R (nR R hn k y hy)).mp hx;have q:∀ {a b i m:Nat},a < b ^ k->i < b->(a * b + i) / b=a/\(a * b + i) % b=i/\a * b + i < b ^ (k + 1):=λ{a b i m} h1 h2=>by
    have hb:0 < b:=by lia
    refine⟨by rw[WY,Nat.mul_add_div hb,UJ h2,UL],by rw[WY,Nat.mul_add_mod,Jm h2],?_⟩;have:(a + 1) * b<=b ^ k * b:=Jf _ h1;rw[U6,J8] at this;rw[WL];lia
   obtain⟨a1,a2,a3⟩:=q (m:=0) hr hi;obtain⟨b1,b2,b3⟩:=q (m:=0) hc hj;refine⟨r * h + i,c * w + j,a3,b3,?_⟩;rw[fo,a1,a2,b1,b2,e,e2]
  ·rintro ⟨r,c,hr,hc,e⟩;rw[WL] at hr hc;have nj:r / h < h ^ k:=(J5 h0).mpr hr;have fZ:c / w < w ^ k:=(J5 w0).mpr hc;refine⟨_,(Ac R hn k _).mpr ⟨_,_,nj,fZ,rfl⟩,(KZ R (zz R hn k _ _)).mpr ⟨r % h,c % w,Jd _ h0,Jd _ w0,e⟩⟩
theorem K0(R:aG h w bs)(hn:n ∈ bs.map (·.1)):pl h w bs o t n=none ↔ o ∉ sq bs n t:=by
 obtain⟨k1,k2⟩:=r_ (o:=o) R t n hn;rw[Ac R hn]
 cases e:pl h w bs o t n with
 | none=>exact⟨λ_ ⟨r,c,hr,hc,z⟩=>k2 e r c hr hc z,λ_=>rfl⟩
 | some p =>
  obtain⟨r,c,_,hr,hc,z,_⟩:=k1 p e;exact⟨λz=>(by cases z),λq=>absurd ⟨r,c,hr,hc,z⟩ q⟩
theorem zdE{S:Nat->Tx}{x M:Nat}(h:dU S x M=none)(i:Nat)(hi:i < M):x ∉ S i:=λz=>by grind[dU]
theorem zdD{S:Nat->Tx}{x M j:Nat}(h:dU S x M=some j):x ∈ S j/\∀ i,i < j->x ∉ S i:=by grind[dU,List.find?_range_eq_some]
theorem nums{h w n o g r c:Nat}{bs:List (Nat×List Tx)}(R:aG h w bs)(hn:n ∈ bs.map (·.1))(F:KG (fo h w bs n g) (h ^ g) (w ^ g) o ((r:Int),(c:Int))) :
  r < h ^ g/\c < w ^ g/\fo h w bs n g r c=o/\vec bs n g o≠0/\cZ h bs g n r (w ^ g) o=0/\cZ h bs g n (r + 1) c o=cZ h bs g n r c o:=by
 obtain⟨r',c',e,hr,hc,hf,mn⟩:=F;have e1:r=r':=by injection e with e1 e2; lia
 have e2:c=c':=by injection e with e1 e2; lia
 subst e1 e2;refine⟨hr,hc,hf,?_,?_,?_⟩
 ·rw[<- Ij R hn,vg R hn (Wa _) (Wa _)];exactλz=>g0.mp z r hr c hc hf
 ·rw[vg R hn (J9 hr) (Wa _),g0];intro a ha b hb z;have:=mn a b Y' hb z;rw[WX,Ne,PySem.jn] at this;lia
 ·rw[vg R hn hr (J9 hc),vg R hn (J9 hr) (J9 hc)];refine gS _ _ _ _ λb hb z=>?_
  have:=mn r b hr Y' z;rw[WX,Ne,PySem.jn] at this;lia
theorem qag(R:aG h w bs)(hn:n ∈ bs.map (·.1))(e:pl h w bs o g n=none):vec bs n g o=0:=by
 rw[<- Ij R hn,vg R hn (Wa _) (Wa _),g0];exactλr hr c hc=>(r_ (o:=o) R g n hn).2 e r c hr hc
abbrev qah:DS:=(cx (aI (aE (dZ false) (aa 4) (aw (eD .ay)))) (bA (ah cR 5 (aw (eD (.int 0))))) cC)
abbrev qai:DS:=(bA (gG (ah cR 9 (aw (eD (.int 0)))) (ah cR 10 (aj 11))))
abbrev qaj:DS:=(ak (aa 4) (a_ 2 (aA (ae [] 6) (aA (ae [] 7) ba))))
abbrev K1(GC GF GP GT GW GX:DF):DS:=(aq (ak (ao GF [.val (aa 0),.val (aa 1),.val (aa 2),.val (aa 3)]) (ae [] 4)) (aq (ak (ao GC [.val (ao GT [.val (aa 0),.val (aa 1),.val (aa 2)]),.val (aa 3)]) (ae [] 5)) (aq qah (aq qaj (aq (cx (gF (aI (ah cR 5 (aw (eD (.int 0))))) (aI (aE nA (ao GX [.val (aa 0),.val (aa 1),.val (aa 2),.val (aa 6),.val (aa 7)]) (aj 3)))) (bA (eD (.bl false))) cC) (aq (ak (ao GP [.val (ah az 0 (aw (eD (.int 1)))),.val (aa 2)]) (ae [] 8)) (aq (ak (ao GC [.val (ao GW [.val (aa 0),.val (aa 1),.val (aa 2),.val (aa 6),.val (aa 8)]),.val (aa 3)]) (ae [] 9)) (aq (ak (ao GC [.val (ao GW [.val (aa 0),.val (aa 1),.val (aa 2),.val (ah bH 6 (aw (eD (.int 1)))),.val (aa 7)]),.val (aa 3)]) (ae [] 10)) (aq (ak (ao GC [.val (ao GW [.val (aa 0),.val (aa 1),.val (aa 2),.val (aa 6),.val (aa 7)]),.val (aa 3)]) (ae [] 11)) qai)))))))))
theorem K2(R:aG h w bs)(F:Nat->D):cW (.lst (bs.map λb=>D.tup [.str [b.1],F b.1]))=pO (.au (bs.map λb=>((.inr [b.1]:aB),F b.1))):=by
 have pr:∀ l:List (Nat×List Tx),gj (l.map λb=>D.tup [.str [b.1],F b.1])=some (l.map λb=>((.inr [b.1]:aB),F b.1)):=λl=>by
  induction l with
  | nil=>rfl
  | cons b r ih=>simp only[We]; simp[gj,bD,ih]
 unfold cW;simp only[pr,WH,Wx];have hz:Wb=16777216:=rfl;rw[if_pos (by have:=R.n1; lia),rJ]
 ·rfl
 ·simp only[Qm,Wu];rw[QX,QF];have:=R.up;rw[QF] at this;exact this.imp λ{a b} m7=>by simp; lia
theorem K3{bs:List (Nat×List Tx)}{n:Nat}(h:n ∈ bs.map (·.1))(F:Nat->D):cp (.au (bs.map λb=>((.inr [b.1]:aB),F b.1))) (.str [n])=pS (F n):=by
 obtain⟨b,hb,eb,e,_⟩:=gM h;have:a0 (bs.map λb=>((.inr [b.1]:aB),F b.1)) (.inr [n])=some (F n):=by
  unfold a0;rw[Ue];have q:(bs.find? ((λkv:aB×D=>decide (kv.1 = .inr [n])) ∘ λb=>((.inr [b.1]:aB),F b.1)))=some b:=by simpa[Function.comp_def] using e
  rw[q,<- eb]; rfl
 show((bD (.str [n])).bind λk=>(a0 _ k).map S.pure)=_;simp[bD,this]
theorem vA{h w o:Nat}{bs:List (Nat×List Tx)}(R:aG h w bs)(ho:o ∈ bs.map (·.1))(v:Nat->Nat):Rt j8 [.pure (.lst (res bs v)),.pure (.str [o])] (.pure (.int (v o:Nat))):=by
 have d:=K2 R λn=>.int ((v n:Nat):Int)
 have i:=K3 ho λn=>.int ((v n:Nat):Int)
 rw[Rt,j8,dS,Gn];unfold res;generalize (bs.map λb=>D.tup [.str [b.1],.int ((v b.1:Nat):Int)])=L at *;generalize D.au (bs.map λb=>((.inr [b.1]:aB),D.int ((v b.1:Nat):Int)))=K at *;simp[bO,bc,aj,d,i,bP,bJ]
theorem Ad{h w n o t:Nat}{bs:List (Nat×List Tx)}(R:aG h w bs)(hn:n ∈ bs.map (·.1))(ho:o ∈ bs.map (·.1))(ht:t<=60):Rt g9 [.pure (aC h w bs),.pure (.str [n]),.pure (.int (t:Int)),.pure (.str [o])] (.pure (pD (pl h w bs o t n))):=by
 rw[g9,Gk];refine zg9 eR kW oV _ R.h1 R.w1 ht (vz h w bs o) (fc h w bs).1 (fc h w bs).2.1 (rW R hn) (Hl t ht) (rW R ho) rfl (λk=>zcV R (KY R k)) _ ?_;rw[KY R t n hn]
 cases pl h w bs o t n <;> rfl
abbrev rS(ru tl g o:D)(l:Dl):Dl:=pS ru :: pS tl :: pS g :: pS o :: l
theorem qak{a b:DS}{δ δ1:Dl}{r:S}(h:a δ = .ok (.ret r) δ1):aq a b δ = .ok (.ret r) δ1:=by rw[EA,h]; rfl
theorem stH{p:Prop}(h:p:=by simp[*,rS,bc,ak,ao,aZ,bB,bC,bz,aa,bh,aS,aI,ah,bu,aj,a_,aA,ba,gG]):p:=h
theorem qal(GF GC GT GX GP GW:DF)(ru tl g o T E:D)(f1:Rt GF [.pure ru,.pure tl,.pure g,.pure o] (.pure .ay))(t1:Rt GT [.pure ru,.pure tl,.pure g] (.own T))(c1:Rt GC [.pure T,.pure o] (.pure E))(z:cR E (.int 0)=pS (.bl true)) :
  bf [] 12 (K1 GC GF GP GT GW GX) [.pure ru,.pure tl,.pure g,.pure o]=some (.pure (.bl true),[.pure ru,.pure tl,.pure g,.pure o]):=by
 have y:dZ false .ay .ay=pS (.bl true):=rfl;refine zN (c8 (δ1:=rS ru tl g o [pS .ay,none,none,none,none,none,none,none]) stH (c8 (δ1:=rS ru tl g o [pS .ay,pS E,none,none,none,none,none,none]) stH (qak (δ1:=rS ru tl g o [pS .ay,pS E,none,none,none,none,none,none]) stH)))
theorem qam(GF GC GT GX GP GW:DF)(ru tl g o T E r c wd W r1 T1 T2 T3 A L I:D)(f1:Rt GF [.pure ru,.pure tl,.pure g,.pure o] (.pure (.tup [r,c])))(t1:Rt GT [.pure ru,.pure tl,.pure g] (.own T))(c1:Rt GC [.pure T,.pure o] (.pure E))(z:cR E (.int 0)=pS (.bl false))
  (x1:Rt GX [.pure ru,.pure tl,.pure g,.pure r,.pure c] (.pure o)) (ne:nA o o=pS (.bl false)) (i1:az ru (.int 1)=pS wd) (p1:Rt GP [.pure wd,.pure g] (.pure W))
  (w1:Rt GW [.pure ru,.pure tl,.pure g,.pure r,.pure W] (.own T1)) (c2:Rt GC [.pure T1,.pure o] (.pure A)) (a1:bH r (.int 1)=pS r1)
  (w2:Rt GW [.pure ru,.pure tl,.pure g,.pure r1,.pure c] (.own T2)) (c3:Rt GC [.pure T2,.pure o] (.pure L))
  (w3:Rt GW [.pure ru,.pure tl,.pure g,.pure r,.pure c] (.own T3)) (c4:Rt GC [.pure T3,.pure o] (.pure I)) (za:cR A (.int 0)=pS (.bl true)) (zl:cR L I=pS (.bl true)) :
  bf [] 12 (K1 GC GF GP GT GW GX) [.pure ru,.pure tl,.pure g,.pure o]=some (.pure (.bl true),[.pure ru,.pure tl,.pure g,.pure o]):=by
 have y:dZ false (.tup [r,c]) .ay=pS (.bl false):=rfl;refine zN (δ1:=rS ru tl g o [pS (.tup [r,c]),pS E,pS r,pS c,pS W,pS A,pS L,pS I]) ?_;refine c8 (δ1:=rS ru tl g o [pS (.tup [r,c]),none,none,none,none,none,none,none]) stH ?_;refine c8 (δ1:=rS ru tl g o [pS (.tup [r,c]),pS E,none,none,none,none,none,none]) stH ?_;refine c8 (δ1:=rS ru tl g o [pS (.tup [r,c]),pS E,none,none,none,none,none,none]) stH ?_;refine c8 (δ1:=rS ru tl g o [pS (.tup [r,c]),pS E,pS r,pS c,none,none,none,none]) stH ?_;refine c8 (δ1:=rS ru tl g o [pS (.tup [r,c]),pS E,pS r,pS c,none,none,none,none]) stH ?_;refine c8 (δ1:=rS ru tl g o [pS (.tup [r,c]),pS E,pS r,pS c,pS W,none,none,none]) stH ?_;refine c8 (δ1:=rS ru tl g o [pS (.tup [r,c]),pS E,pS r,pS c,pS W,pS A,none,none]) stH ?_;refine c8 (δ1:=rS ru tl g o [pS (.tup [r,c]),pS E,pS r,pS c,pS W,pS A,pS L,none]) stH ?_;refine c8 (δ1:=rS ru tl g o [pS (.tup [r,c]),pS E,pS r,pS c,pS W,pS A,pS L,pS I]) stH ?_;exact stH
theorem Ae(v:Nat):cR (.int (v:Nat)) (.int 0)=pS (.bl (decide (v=0))):=by
 rw[zK];by_cases h:v=0 <;> simp[h]
theorem zg0{h w n o g:Nat}{bs:List (Nat×List Tx)}(R:aG h w bs)(hn:n ∈ bs.map (·.1))(ho:o ∈ bs.map (·.1))(hg:g<=60):Rt pe [.pure (aC h w bs),.pure (.str [n]),.pure (.int (g:Int)),.pure (.str [o])] (.pure (.bl true)):=by
 have f1:=Ad R hn ho hg;have t1:=Z0 R hn (g:=g) Y';have c1:=vA R ho (vec bs n g);rw[pe,Gz]
 cases e:pl h w bs o g n with
 | none =>
  rw[e] at f1;exact qal g9 j8 nG nH nJ j_ _ _ _ _ _ _ f1 t1 c1 (by rw[Ae,qag R hn e]; rfl)
 | some p =>
  rw[e] at f1;have F:=(r_ (o:=o) R g n hn).1 p e;obtain⟨r,c,rfl,_⟩:=id F;obtain⟨hr,hc,hf,k1,k2,k3⟩:=nums R hn F;have x1:=Y0 R hn hg hr hc;rw[HC,hf] at x1;have h1:=R.h1;have w1:=R.w1;exact qam g9 j8 nG nH nJ j_ _ _ _ _ _ _ _ _ _ _ _ _ _ _ _ _ _ f1 t1 c1 (by rw[Ae,decide_eq_false k1]) x1 (Y2 o) (fc h w bs).2.1 (Zt w g Y' Y')
   (zO R hn g r (w ^ g) hg Y' (Wa _)) (vA R ho _) (vm _ _) (zO R hn g (r + 1) c hg Y' Y') (vA R ho _) (zO R hn g r c hg Y' Y') (vA R ho _) (by rw[Ae,k2]; rfl) (by rw[k3,zK]; simp)
abbrev K4(GA GF:DF):DS:=(aq (ak (aE cp (aR cW (aw (ao GA [.val (aa 0),.val (aa 1)]))) (aj 2)) (ae [] 3)) (aq (cx (aI (aE (dZ false) (aa 3) (aw (eD .ay)))) (bA (aR jh (aw (cV [4] (dz (eD (.int 7))) (ae [] 4) bW (aE (dZ false) (ao GF [.val (aa 0),.val (aa 1),.val (aa 4),.val (aa 2)]) (aw (eD .ay))))))) cC) (aq (cx (aI (aE (dZ false) (ao GF [.val (aa 0),.val (aa 1),.val (aa 3),.val (aa 2)]) (aw (eD .ay)))) (bA (eD (.bl false))) cC) (bA (aR jh (aw (cV [4] (dz (aa 3)) (ae [] 4) bW (aE (dZ false) (ao GF [.val (aa 0),.val (aa 1),.val (aa 4),.val (aa 2)]) (aw (eD .ay))))))))))
theorem zjI(ds:List D):jh (.lst (ds.map λ_=>D.bl true))=pS (.bl true):=by
 have:jS (ds.map λ_=>D.bl true)=some (ds.map λ_=>true):=by
  induction ds with
  | nil=>rfl
  | cons d r ih=>simp[jS,ih]
 simp[jh,this]
theorem K5(GF:DF)(ru tl o d3:D)(m:Nat)(hm:m<=100)(f:∀ k:Nat,k < m->Rt GF [.pure ru,.pure tl,.pure (.int (k:Int)),.pure o] (.pure .ay)) :
  ∃ L,cK [4] (ae [] 4) bW (aE (dZ false) (ao GF [.val (aa 0),.val (aa 1),.val (aa 4),.val (aa 2)]) (aw (eD .ay))) (bI 0 m) [pS ru,pS tl,pS o,pS d3,none] [] = .ok L [pS ru,pS tl,pS o,pS d3,none]/\jh (.lst L)=pS (.bl true):=by
 refine⟨_,YZ _ _ (by simp[bI]; lia) (λd hd=>?_),zjI _⟩;obtain⟨k,hk⟩:=List.mem_iff_getElem?.mp hd;obtain⟨hl,rfl⟩:=uA hk;have e:=f k hl;have y:dZ false .ay .ay=pS (.bl true):=rfl;generalize D.int (k:Int)=dk at *;exact⟨_,[pS ru,pS tl,pS o,pS d3,pS dk],rfl,by simp[ao,aZ,bB,bC,bz,aa,bh,aS,e,y],rfl⟩
theorem qan(GA GF:DF)(ru tl o L K:D)(a1:Rt GA [.pure ru,.pure tl] (.own L))(d1:cW L=pO K)(i1:cp K o=pS (.ay))(f:∀ k:Nat,k < 7->Rt GF [.pure ru,.pure tl,.pure (.int (k:Int)),.pure o] (.pure .ay)) :
  bf [] 5 (K4 GA GF) [.pure ru,.pure tl,.pure o]=some (.pure (.bl true),[.pure ru,.pure tl,.pure o]):=by
 obtain⟨Z,e,al⟩:=K5 GF ru tl o .ay 7 Y' f;have y:dZ false .ay .ay=pS (.bl true):=rfl;have r:=λδ=>jo 7 Y' δ
 rw[dS];generalize (bI 0 7)=ds at *;simp only[Int.cast_ofNat_Int] at r;simp[bO,bc,ak,ao,aZ,bB,bC,bz,aa,bh,aS,a1,aj,d1,i1,aI,y,r,bj,cJ,e,al,bP,bJ]
theorem qao(GA GF:DF)(ru tl o L K p:D)(j:Nat)(hj:j<=100)(hp:dZ false p .ay=pS (.bl false))(a1:Rt GA [.pure ru,.pure tl] (.own L))(d1:cW L=pO K)(i1:cp K o=pS (.int (j:Int)))(fj:Rt GF [.pure ru,.pure tl,.pure (.int (j:Int)),.pure o] (.pure p))(f:∀ k:Nat,k < j->Rt GF [.pure ru,.pure tl,.pure (.int (k:Int)),.pure o] (.pure .ay)) :
  bf [] 5 (K4 GA GF) [.pure ru,.pure tl,.pure o]=some (.pure (.bl true),[.pure ru,.pure tl,.pure o]):=by
 obtain⟨Z,e,al⟩:=K5 GF ru tl o (.int (j:Int)) j hj f;have y:dZ false (.int (j:Int)) .ay=pS (.bl false):=rfl;have r:=λδ=>jo j Y' δ
 rw[dS];generalize (bI 0 j)=ds at *;generalize D.int (j:Int)=dj at *;simp[bO,bc,ak,ao,aZ,bB,bC,bz,aa,bh,aS,a1,aj,d1,i1,aI,y,fj,hp,r,bj,cJ,e,al,bP,bJ]
theorem zg4(R:aG h w bs)(h6:bs.length<=6)(hn:n ∈ bs.map (·.1))(ho:o ∈ bs.map (·.1)):Rt oW [.pure (aC h w bs),.pure (.str [n]),.pure (.str [o])] (.pure (.bl true)):=by
 obtain⟨M,hM,a1⟩:=zg5 (Z8 R h6) hn;have d1:=K2 R λx=>(iD (dU (sq bs n) x M)).getD .ay
 have i1:=K3 ho λx=>(iD (dU (sq bs n) x M)).getD .ay
 rw[oW,yO];have no:∀ k:Nat,k<=60->o ∉ sq bs n k->Rt g9 [.pure (aC h w bs),.pure (.str [n]),.pure (.int (k:Int)),.pure (.str [o])] (.pure .ay):=λk hk z=>by
  have:=Ad R hn ho hk;rw[(K0 R hn).mpr z] at this;exact this
 cases e:dU (sq bs n) o M with
 | none =>
  simp only[e] at i1;refine qan nE g9 _ _ _ _ _ a1 d1 i1 λk hk=>no k Y' λz=>?_
  obtain⟨j,hj,ej⟩:=hM k;rw[ej] at z;exact zdE e j hj z
 | some j =>
  simp only[e] at i1;obtain⟨k1,k2⟩:=zdD e;have hj:j < 6:=by
   obtain⟨i,hi,zi⟩:=Z2 R hn k1;have:¬ i < j:=λq=>k2 i q zi
   lia
  have fj:=Ad R hn ho (t:=j) Y';refine qao nE g9 _ _ _ _ _ _ j Y' ?_ a1 d1 i1 fj λk hk=>no k Y' (k2 k hk)
  cases ep:pl h w bs o j n with
  | none=>exact absurd k1 ((K0 R hn).mp ep)
  | some p=>rfl
abbrev vC(GA GB GD:DF):DS:=(aq (ak (aE az (fD (aT (ao GD [.io 2,.val (eD (.int 6))]) (aT (ao GD [.io 2,.val (eD (.int 61))]) bG))) (aw (ao GD [.io 2,.val (eD (.int 2))]))) (ae [] 7)) (cx (gF (fA (aI (ao GA [.val (aa 3),.val (aa 5),.val (aa 7),.val (aa 6)]))) (fA (aI (ao GB [.val (aa 3),.val (aa 5),.val (aa 6)])))) (bA (eD (.bl false))) cC))
theorem ix2(a b:D):∀ i:Nat,i < 2->az (.lst [a,b]) (.int (i:Int))=pS (if i=0 then a else b):=λi hi=>by
 rcases (by lia:i=0\/i=1) with rfl | rfl <;> rfl
abbrev lS(fu c pd ru ts tl:D)(o6 o7:Option S):Dl:=[pS fu,pS c,pO pd,pS ru,pS ts,pS tl,o6,o7]
theorem qap(GD GA GB:DF)(hd:∀ (d:D) (m:Nat),dC d->0 < m->m < 1073741824->∃ (r:Nat) (d':D),GD [.own d,.pure (.int m)]=some (.pure (.int r),[.own d',.pure (.int m)])/\r < m/\dC d')(fu c ru tl T:D)(ts:List D)
  (ga:∀ d ∈ ts,∀ g:Nat,g<=60->Rt GA [.pure ru,.pure tl,.pure (.int (g:Int)),.pure d] (.pure (.bl true))) (gb:∀ d ∈ ts,Rt GB [.pure ru,.pure tl,.pure d] (.pure (.bl true))) (pd:D) (hp:dC pd) (o6 o7:Option S) :
  ∃ cY q6 q7,forL (ae [] 6) (vC GA GB GD) ts (lS fu c pd ru T tl o6 o7) = .ok .next (lS fu c cY ru T tl q6 q7):=by
 obtain⟨δ',e,cY,q6,q7,_,rfl⟩:=jZ (g:=ae [] 6) (b:=(vC GA GB GD)) (λk δ=>∃ pd q6 q7,dC pd/\δ=lS fu c pd ru T tl q6 q7) ts 0 (lS fu c pd ru T tl o6 o7) ⟨pd,o6,o7,hp,rfl⟩ (λk d δ gi ⟨pd,q6,q7,hp,e⟩=>by
  subst e;have hm:=Q4 gi;obtain⟨a,d1,e1,l1,p1⟩:=hd pd 6 hp Y' Y';obtain⟨b,d2,e2,l2,p2⟩:=hd d1 61 p1 Y' Y';obtain⟨i,d3,e3,l3,p3⟩:=hd d2 2 p2 Y' Y';have x:=ix2 (.int (a:Int)) (.int (b:Int)) i l3;have hg:(if i=0 then D.int (a:Int) else .int (b:Int)) = .int ((if i=0 then a else b:Nat):Int):=by split <;> rfl
  rw[hg] at x;have ga:=ga d hm (if i=0 then a else b) (by split <;> lia);have gb:=gb d hm;generalize D.int ((if i=0 then a else b:Nat):Int)=dg at *;generalize D.int (a:Int)=da at *;generalize D.int (b:Int)=db at *;generalize D.int (i:Int)=di at *;simp only[Int.cast_ofNat_Int] at e1 e2 e3;refine⟨_,lS fu c d3 ru T tl (pS d) (pS dg),rfl,?_,_,_,_,p3,rfl⟩;simp[ak,ao,aZ,bB,bC,bz,aa,bh,aS,e1,e2,e3,aj,x,aI,ga,gb])
 exact⟨cY,q6,q7,e⟩
theorem qaq(GC GN GR GT GD GA GB:DF)(hd:∀ (d:D) (m:Nat),dC d->0 < m->m < 1073741824->∃ (r:Nat) (d':D),GD [.own d,.pure (.int m)]=some (.pure (.int r),[.own d',.pure (.int m)])/\r < m/\dC d')
  (gn:∀ c:Int,∃ d,Rt GN [.pure (.int c)] (.own d)/\dC d)
  (gr:∀ d,dC d->∃ (h w:Nat) (bs:List (Nat×List Tx)) (d':D),GR [.own d,.pure (.int 6)]=some (.pure (aC h w bs),[.own d',.pure (.int 6)])/\aG h w bs/\bs.length<=6/\dC d')
  (gt:∀ h w bs,aG h w bs->Rt GT [.pure (aC h w bs)] (.own (.lst ((bs.map (·.1)).map fg))))
  (ga:∀ h w bs n o g,aG h w bs->n ∈ bs.map (·.1)->o ∈ bs.map (·.1)->g<=60->Rt GA [.pure (aC h w bs),.pure (.str [n]),.pure (.int (g:Nat)),.pure (.str [o])] (.pure (.bl true)))
  (gb:∀ h w bs n o,aG h w bs->bs.length<=6->n ∈ bs.map (·.1)->o ∈ bs.map (·.1)->Rt GB [.pure (aC h w bs),.pure (.str [n]),.pure (.str [o])] (.pure (.bl true)))
  (ns:List Int) (hn:ns.length<=63) (gc:∃ c:Int,Rt GC [.pure (.lst (ns.map .int)),.pure (.int 0)] (.pure (.int c))) :
  ∃ aL,bf [] 8 (aq (bx (bM (aE bH (fD (aT (ao GC [.val (aa 0),.val (eD (.int 0))]) bG)) (aw (jT 0 (gY (eD (.int 1))) (gY (eD (.int 4))))))) (ae [] 1) (aq (ak (ao GN [.val (aa 1)]) (ae [] 2)) (aq (ak (ao GR [.io 2,.val (eD (.int 6))]) (ae [] 3)) (aq (ak (ao GT [.val (aa 3)]) (ae [] 4)) (aq (ak (ah az 4 (aw (ao GD [.io 2,.val (aR cN (aj 4))]))) (ae [] 5)) (bx (bM (aa 4)) (ae [] 6) (vC GA GB GD))))))) (bA (eD (.bl true)))) [.pure (.lst (ns.map .int))]=some (.pure (.bl true),aL):=by
 obtain⟨c0,e0⟩:=gc;generalize hS:D.lst (ns.map .int)=fu at e0 ⊢;obtain⟨δ2,ef,o1,o2,o3,o4,o5,o6,o7,rfl⟩:=jZ (g:=ae [] 1) (b:=(aq (ak (ao GN [.val (aa 1)]) (ae [] 2)) (aq (ak (ao GR [.io 2,.val (eD (.int 6))]) (ae [] 3)) (aq (ak (ao GT [.val (aa 3)]) (ae [] 4)) (aq (ak (ah az 4 (aw (ao GD [.io 2,.val (aR cN (aj 4))]))) (ae [] 5)) (bx (bM (aa 4)) (ae [] 6) (vC GA GB GD))))))) (λk δ=>∃ o1 o2 o3 o4 o5 o6 o7,δ=[pS fu,o1,o2,o3,o4,o5,o6,o7]) ((c0 :: cu ns (some 1) (some 4)).map .int) 0 [pS fu,none,none,none,none,none,none,none] ⟨_,_,_,_,_,_,_,rfl⟩ (λk d δ gi ⟨o1,o2,o3,o4,o5,o6,o7,e⟩=>by
  subst e;simp only[Wp,Ww] at gi;obtain⟨c,_,rfl⟩:=gi;obtain⟨d1,e1,p1⟩:=gn c;obtain⟨h,w,bs,d2,e2,R,h6,p2⟩:=gr d1 p1;have e3:=gt h w bs R;have n0:=R.n0;have n1:=R.n1;have tl:((bs.map (·.1)).map fg).length=bs.length:=by simp
  obtain⟨a7,d7,e7,l7,p7⟩:=hd d2 bs.length p2 n0 Y';have hm:(bs.map (·.1)).getD a7 0 ∈ bs.map (·.1):=by
   have:a7 < (bs.map (·.1)).length:=by simpa using l7
   rw[Q8,Wc this];exact QY this
  have K6:az (.lst ((bs.map (·.1)).map fg)) (.int a7)=pS (.str [(bs.map (·.1)).getD a7 0]):=by
   have:a7 < (bs.map (·.1)).length:=by simpa using l7
   simp[az,m_,l7]
  generalize (bs.map (·.1)).getD a7 0=nm at hm K6;obtain⟨cY,q6,q7,el⟩:=qap GD GA GB hd fu (.int c) (aC h w bs) (.str [nm]) (.lst ((bs.map (·.1)).map fg)) ((bs.map (·.1)).map fg) (λd hd g hg=>by
   obtain⟨o,ho,rfl⟩:=WD.mp hd;exact ga h w bs nm o g R hm ho hg) (λd hd=>by
   obtain⟨o,ho,rfl⟩:=WD.mp hd;exact gb h w bs nm o R h6 hm ho) d7 p7 o6 o7
  refine⟨_,lS fu (.int c) cY (aC h w bs) (.lst ((bs.map (·.1)).map fg)) (.str [nm]) q6 q7,rfl,?_,_,_,_,_,_,_,_,rfl⟩;generalize (bs.map (·.1)).map fg=TS at *;generalize aC h w bs=ru at *;rw[<- tl] at e7;refine c8 (δ1:=[pS fu,pS (.int c),pO d1,o3,o4,o5,o6,o7]) (by simp[ak,ao,aZ,bB,bC,bz,aa,bh,aS,e1]) ?_;refine c8 (δ1:=[pS fu,pS (.int c),pO d2,pS ru,o4,o5,o6,o7]) (by simp[ak,ao,aZ,bB,bC,bz,aa,bh,aS,e2]) ?_;refine c8 (δ1:=[pS fu,pS (.int c),pO d2,pS ru,pO (.lst TS),o5,o6,o7]) (by simp[ak,ao,aZ,bB,bC,bz,aa,bh,aS,e3]) ?_;refine c8 (δ1:=[pS fu,pS (.int c),pO d7,pS ru,pO (.lst TS),pS (.str [nm]),o6,o7]) (by simp[ak,ao,aZ,bB,bC,bz,aa,bh,aS,aj,cN,e7,ah,bu,K6]) ?_;exact r9 (δ1:=lS fu (.int c) d7 ru (.lst TS) (.str [nm]) o6 o7) (by simp[fW,aa]) el)
 have qx:gH (some 1) (some 4) fu=pO (.lst (cu (ns.map .int) (some 1) (some 4))):=by rw[<- hS]; rfl
 have cm:cu (ns.map D.int) (some 1) (some 4)=(cu ns (some 1) (some 4)).map D.int:=by grind[cu,List.map_drop,List.map_take]
 have ha:bH (.lst [.int c0]) (.lst (cu (ns.map .int) (some 1) (some 4)))=pO (.lst ((c0 :: cu ns (some 1) (some 4)).map .int)):=by
  rw[cm];have hl:(cu ns (some 1) (some 4)).length<=63:=by
   have:=B4 ns (some 1) (some 4);lia
  simp only[bH];rw[if_pos (by rw[dA]; simp; lia)];simp
 refine⟨[.pure fu],?_⟩;rw[dS];simp only[We] at ef ha;simp[bO,bc,ao,aZ,bB,bC,bz,aa,bh,aS,fW,e0,jT,gY,aj,qx,ha];rw[ef];simp[bP,bJ]
theorem qar(ns:List Int)(hn:ns.length<=63):∃ aL,rC [.pure (.lst (ns.map .int))]=some (.pure (.bl true),aL):=by
 rw[rC,yR];exact qaq oQ oR nD oU fI pe oW (λd m hp h0 h1=>u4 hp m h0 h1) Yw
  (λd hp=>YM hp 6 Z' Z') (λh w bs R=>Y1 R) (λh w bs n o g R hn ho hg=>zg0 R hn ho hg) (λh w bs n o R h6 hn ho=>zg4 R h6 hn ho) ns hn (Yx ns)
end K16
open PySem PySem.W PyProof.Rows
namespace PySem.W.Fast
def tw11526777901018892171:=0
def tw4917226405839725633:=0
def tw17670013499014167767:=0
def tw16588508754736582006:=0
def tw15503442875483758646:=0
def tw9768272746729631363:=0
def tw7863164070443435892:=0
def tw9329639919168486007:=0
def tw6048184759807501434:=0
def tw16766753247428322134:=0
def tw8770106936458518607:=0
def tw8877039470274175788:=0
def tw3181344465867812581:=0
def tw6402291545683575167:=0
def tw17569539818265452326:=0
def tw11692205456150207973:=0
def tw10572012277580148651:=0
def tw8235488498343898234:=0
def tw18299125640934458347:=0
def tw2543180615624189144:=0
def tw16764760802545576859:=0
def tw12762793171819506752:=0
def tw2979662625554708196:=0
def tw13594911374469867158:=0
def tw8350974207398338522:=0
def tw13456965294147189180:=0
def tw14264241891888804863:=0
def tw2394964669775326435:=0
def tw7512110795472690583:=0
def tw13633097576206779043:=0
def tw16326728241819289818:=0
def tw4650552064772896647:=0
def tw3210988885860326202:=0
def tw14019254045179406898:=0
def tw1587775389314402271:=0
def tw12468150778700558759:=0
def tw12621910431686699218:=0
def tw2887913203311453935:=0
def tw9857865889549608046:=0
def tw7971013270105491901:=0
def tw12073837655363083899:=0
def tw8780589207238076472:=0
def tw12448753378748307299:=0
def tw13051593673538005517:=0
def tw13174576996517749545:=0
def tw10020226669315024:=0
def tw14651681966383266226:=0
def tw17618248027851220157:=0
def tw15708195115445914328:=0
def tw1844653707140923182:=0
def tw1737354245894369223:=0
def tw692172149934252693:=0
def tw16519129653401338603:=0
def tw16056255376444551735:=0
def tw5805197457798979760:=0
def tw17318578315380255927:=0
def tw3048673240093342173:=0
def tw7047687175620645331:=0
def tw13262120163211314875:=0
def tw3433634733922720217:=0
def tw9262479508013502541:=0
def tw7345299377737634104:=0
def tw14233320036529093041:=0
def tw10691307192031048619:=0
def tw10549059381824387153:=0
def tw17509175413834640109:=0
def tw6825727058133804841:=0
def tw5484393885969045008:=0
def tw7059036239016504101:=0
def tw17852934174776332608:=0
def tw3857451562407742123:=0
def tw5803865820384846677:=0
def tw14320230545986581762:=0
def tw3369513041167862528:=0
def tw8477099391820208992:=0
def tw4763073009150430939:=0
def tw14724412471246651090:=0
def tw16500783413884529262:=0
def tw2186822924960470219:=0
def tw2672143466747079345:=0
def tw14436172236334131616:=0
def tw14960931506630449000:=0
def tw5821827358783379561:=0
def tw17435516404181376831:=0
def tw4709873523110448100:=0
def tw14449998174932629259:=0
def tw5519856151910350823:=0
def tw7156737815043805726:=0
def tw13502650855900207580:=0
def tw1440102014026977512:=0
def tw3404872238068850640:=0
def tw11115887710707871506:=0
def tw7862145452729991325:=0
def tw15543566066067248488:=0
def tw10167809767223270650:=0
def tw102162609471223722:=0
def tw8169141912203705165:=0
def tw12496402843098678124:=0
def tw9273144517627760138:=0
def tw779575893957002496:=0
def tw4872069137782141929:=0
def tw4675801045727392213:=0
def tw3275789533332636017:=0
def tw9436333429422116031:=0
def tw15729643530700726356:=0
def tw12573196625911678440:=0
def tw827495031495186820:=0
def tw9108110670167051678:=0
def tw6324130160941099090:=0
def tw5511792416769766199:=0
def tw6810609956575046817:=0
def tw9541887958903940453:=0
def tw3078213918977623616:=0
def tw7720829751044253610:=0
def tw5150251379867215627:=0
def tw9793985613009385011:=0
def tw9503052745131519796:=0
def tw7905848428728237455:=0
def tw15507770880940523259:=0
def tw16884047778947270495:=0
def tw11114946645543918217:=0
def tw15327507730468338342:=0
def tw5754484935659040276:=0
def tw6641629945722247324:=0
def tw15995899447355352023:=0
def tw17158199499297607288:=0
def tw14985673515341352908:=0
def tw15688801606303619737:=0
def tw12119913190014460976:=0
def tw6954150761835418621:=0
def tw11635565538847583217:=0
def tw6264937419202388772:=0
def tw14815947732387097758:=0
def tw12060884967528497200:=0
def tw16786857817542839030:=0
def tw5562638958002682108:=0
def tw8170147260181878595:=0
def tw3265230740789924121:=0
def tw1720362433734473763:=0
def tw4716319895928273318:=0
def tw5788752711851348128:=0
def tw2527578116150888956:=0
def tw12144024041434017504:=0
def tw262013006369639131:=0
def tw12353878487758373073:=0
def tw3672315499770009807:=0
def tw16315412527704080556:=0
def tw4847136549881735182:=0
def tw4827521962399904914:=0
def tw4793435905869656484:=0
def tw14114190954736380194:=0
end PySem.W.Fast
set_option maxRecDepth 100000 in
set_option maxHeartbeats 0 in
theorem PySem.Challenge.cw_tilegrow_k16_whole_first_places_and_coun_holds : PySem.Challenge.rw_tilegrow_k16_whole_first_places_and_coun.Holds := by
 w_on; o_law; k_head; (case hw=>w_witness2)
 k_fill
 refine DV.VW (l:=PySem.Challenge.rw_tilegrow_k16_whole_first_places_and_coun) (k:=8) (G:=K16.rC) (tpos:=K16.kT) (tq:=K16.kU) rfl rfl ⟨rfl,Z',Z'⟩ (λw h Y=>⟨PySem.W.km_in_of Y,PySem.W.km_tabs_of Y _ W7⟩) ?L ?KT K16.qar ?F
 case L=>intro p; exact Eq.refl true
 case KT=>intro p; exact Eq.refl none
 case F =>
  intro w mg fa h KX G mF;refine' K16.all_mk KX G mF ?d0 ?d1 ?d2 ?d3 ?d4 ?d5 ?d6 ?d7 ?d8 ?a9 ?l9 ?c9 ?k9 ?dT ?gT ?yT ?yU ?yV ?yW ?yX ?yY ?yZ ?y6 ?y8 ?y9 ?y_ ?zb ?zc ?zd ?ze ?zf ?zg ?zh ?zj ?zk ?zm ?zo ?zq ?zr ?zt ?qW ?qX ?oM ?oN ?oO ?nC ?oP ?qY ?qZ ?q0 ?q_ ?rg ?rh ?rj ?rm ?rn
  (case d0|d1|d2|d3|d4|d5|d6|d7|d8|yT|yU|yV|yW|yX|yY|yZ|y6|y8|y9|y_|zb|zc|zd|ze|zf|zg|zh|zj|zk|zm=>exact⟨_,_,_,_,_,_,_,_,_,_,by k_is,by k_is,by k_is,by k_is⟩)
  (case a9|l9|c9|k9|zo|zq|zr|zt|qW|qX|oM|oN|oO|nC|oP|qY|qZ|q0|q_|rg|rh|rj|rm|rn=>k_is)
  (case dT|gT=>kernel_rfl)
