import PyProof.Rows.All
import Wide.All
import OpenK.AllK
import Lean
import PyProof.FactsAll.zip
import PySem.Challenge.RW_tilegrow_k60_alike_by_anybody
noncomputable section
set_option compiler.extract_closed false
open PySem renaming wpAny_bind→W0,Shared→W1,wpAny_pure→W2,wpAny→W6,sizeLine→W9,starEach→Wa,Program→Wm,Spec→Wo,Around→Wp,World→Wu,mainGlobals→Wv,compareOp→WC,wpAny_holding→WD,wpAny_field→WF,mem_of_lookup→WH,wpAny_call_entry→WY,wpAny_newObj_type→WZ,cLine→Q3,rawInt→Q4,sizeLine_eq→Qb,wpAny_callSpecial?_slot→Qi,wpAny_mono→Qk,FuncData→Ql,wpAny_rule→Qn,backTo→Qy,wpAny_truthy_bool→Qz,wpAny_seqItems→QA,assignEach→QC,sysModules→QH,bootBuiltins→QK,wpAny_setField_rec→QO,pyNext→QR,cellsFrom→QU,binaryOp→QW,wpAny_typeOf→J3,wpAny_typeNameOfWhole_keyiter→Ja,codeAny→Jd,wpAny_passesOwn→Ji,foldedSetIterable→Jo,strIterType→Jt,wpAny_setField→Ju,plainId_quiet→JG,letOwnedTupleGo→JH,wpAny_Call_Name_kw→JI,wpAny_pyIter_list→JO,builtinLookup_eq_fast→JQ,behindInMarks→JW,attributeBase→JX,wpAny_attempt→JY,getItem→JZ,sliceBounds→U0,wpAny_execs_nil→U3,wpAny_loadPart'→U5,codeAny_builtin→U9,swapsWith→Ua,pushCells→Ub,noteFrame→Uc,wpAny_pyIter_tuple→Ud,getattributeRaised→Ue,wpAny_loadPart_at→Ui,wpAny_dictEntries→Uj,keywordEach→Ul
open PySem.W renaming Frag→W3,mg_none_of→Q2,kia_one→Qt,kitOne→QX,keepIn→QY,fnOf→J1,cellsFrom_some→JL
open List renaming getElem?_eq_getElem→W4,getElem?_eq_some_iff→W8,getElem?_set_ne→Wc,length_map→Wd,mem_cons_of_mem→Wf,mem_cons_self→Wi,map_cons→Wl,size_toArray→Wn,mem_cons→Wq,getElem?_map→Ws,range→Wx,mem_of_getElem?→Wz,mem_map→WA,getElem?_set_self→WE,append_assoc→WI,replicate→WJ,mem_append→WK,map_append→WN,pairwise_append→WT,map_map→WU,length_cons→WV,all_eq_true→WW,getElem?_eq_none→Q0,getD_eq_getElem?_getD→Q7,find?_cons→Qa,length_append→Qc,mem_singleton→Qe,mem_append_right→Qf,append_nil→Qg,getElem?_set→Qj,pairwise_map→Qr,getElem_mem→Qv,getElem?_append_left→Qw,drop_eq_getElem_cons→Qx,length→QB,lookup_cons→QD,any_cons→QF,take_of_length_le→QG,nil_append→QJ,mem_iff_getElem→J4,mem_map_of_mem→Jc,getElem?_append_right→Jj,length_range→Jq,mem_append_left→Jr,mem_of_mem_take→Js,toArray→Jy,filterMap_cons→Jz,map_congr_left→JA,nodup_cons→JJ,foldl_cons→JK,ext_getElem?→JN,all_map→JP,take_append_drop→JR,mem_of_mem_drop→JT,not_mem_nil→JV,of_mem_zip→U4,length_set→U6,length_nil→U7,forIn_cons→U8,zip_cons_cons→Uf,forIn_nil→Ug,nodup_append→Uk,all_cons→Um,length_take→Uo,any_eq_true→Uq
open PySem.Heap renaming get?_push_of_some→W5,get?_push_size→We,lt_size→Wj,get?_update_other→Q5,get?_update_self→Qh,size_push→Je,SameBut→Jh
open Nat renaming le_refl→W7,le_trans→Wy,lt_of_lt_of_le→WG,ne_of_lt→WQ,zero_le→Q6,lt_irrefl→QE,ne_of_gt→QL,lt_of_le_of_lt→QN,le_add_right→QP,le_of_lt→QV,pow_one→QZ,mul_le_mul→Jv,zero_add→Jx,pow_two→JM,add_le_add_left→U1,sub_zero→Ur,min_eq_left→Ut,succ_mul→Uu
open Option.some renaming injEq→Wb,inj→WL
open PyProof.Rows renaming arrOf→Wg,wpS_pure→Wh,wpS_bind→Wt,pendingOf→Ww,seqObj→WX,slot_tuple_getitem→Qs,wpS_forRange→QQ,callWith_type1→QT,wpS_mono→J5,envOfC→Jp,setPending→JU
open Bool renaming and_eq_true→Wr,false_eq_true→WO,false_ne_true→WR,eq_iff_iff→Qu,not_false→Jf,not_true→JF,not_eq_true'→Uh
open Option renaming bind_some→WB,map_some→WM,map_eq_some_iff→Qo,isSome_iff_exists→QM,getD_some→Jw,bind_eq_some_iff→JE
open PySem.Builtin.SmallTypes renaming nextOf→WP,ownedTupleIsFree→WS
open Array renaming length_toList→Q8,toList_append→Q9,getElem?_toList→Qq,getElem_mem→J9,getElem?_eq_some_iff→Jn,toList_reverse→JS
open PySem.Builtin.Str renaming strSliceIndices→Qd
open PySem.Builtin.Slice renaming slicePlaces→Qm,sliceAdjust→QI,sliceApplied→Jk
open PySem.Builtin.Tuple renaming tupleExact→Qp,tupleItemsOf→Jl
open Int renaming toNat_natCast→QS
open PySem.Heap.SameBut renaming update→Jb
open PySem.F renaming slot_dict_keyiterator_next→Jg,slot_tuple_iterator_next→Jm,plainAttrs_list→JB,slot_list_index→JD,plain_extend_loop→U2
open PySem.Builtin.Dict renaming updateFrom→JC
open List.cons renaming injEq→Us
set_option Elab.async false
set_option linter.all false
set_option tactic.hygienic false
set_option maxRecDepth 100000
set_option maxHeartbeats 4000000
theorem Y'{p:Prop}(h:p:=by lia):p:=h
theorem Z'{p:Prop}(h:p:=by decide):p:=h
theorem V'{p:Prop}(h:p:=by simp):p:=h
theorem Re{p:Prop}(h:p:=by simp;lia):p:=h
theorem P3{p:Prop}(h:p:=by simp at hl⊢;lia):p:=h
theorem Pi{p:Prop}(h:p:=by decide+kernel):p:=h
local macro_rules|`(~~~$x)=>`(by simpa using$x)
local macro_rules|`(#v[$xs,*])=>`(by simp[$[$xs:term],*])
local macro_rules|`(%[$xs,*|$k])=>`(by rw[$[$xs:term],*];exact$k)
local macro_rules|`(tactic|exists$s:str,$_,$_,$_)=>do let i(h:String):=(h.splitOn " ").toArray.map λx=>Lean.mkIdent x.toName;match s.getString.splitOn ";" with|[e,l]=>let e:=i e;let l:=i l;`(tactic|simp[*,$[-$e],*,$[$l:term],*])|_=>`(tactic|fail)
set_option hygiene false
local macro_rules|`(tactic|obtain $p:rcasesPatMed:=$e)=>`(tactic|first|(refine Classical.byContradiction fun v6=>?_;rcases $e:term with $p<;>(try refine v6 ?_)<;>(try clear v6))|rcases $e:term with $p)
set_option hygiene true
set_option backward.eqns.nonrecursive false
set_option genSizeOf false
set_option bootstrap.genMatcherCode false
set_option hygiene false
local macro_rules|`(8#$_)=>`(List (Nat×List Tx))|`(9#$x)=>`({s with heap:=$x})|`($n:num#$x)=>do let a:=(("some Lake.S.pure;ae eD Lake.D.int;;eD Lake.D.int;model prog w;model X.prog X.w;Inv X pins Y H s;aM P w K mg base".splitOn ";")[n.getNat]!.splitOn " ").map λx=>(Lean.mkIdent x.toName).1;return if 3<n.getNat then Lean.Syntax.mkApp ⟨a.head!⟩ (a.tail.map (⟨·⟩)).toArray else a.foldr (λf y=>(Lean.Syntax.mkApp ⟨f⟩ #[⟨y⟩]).1) x.1
local macro_rules|`(tactic|intros $x $[$xs]*)=>do let a:=(#[x]++xs).map λx=>(⟨x.raw⟩:Lean.TSyntax `term);`(tactic|intro pins s Y H $a*)
local macro_rules|`(command|universe H in $c)=>`(command|set_option tactic.hygienic true in $c)
set_option hygiene true
namespace Lake
open PySem PySem.Spec PyProof.Rows
variable{A:Wp}{B B' O O':Addr->Prop}{C L dl f i1 i2 it sl:Addr}{DZ body uS:List Stmt}{E xe:Value->W1->Prop}{K:W3}{M:Model}{N loose ps:List Str}{P prog:Wm}{P1 P2:Nat->Value->Prop}{R:Result->W1->Prop}{RR:Value->Addr->Result->W1->Prop}{S1 S2 tn:Nat->Heap->Prop}{T':String}{XP:(Str->Option Value)->Heap->Prop}{YP:Wu->Heap->Prop}{a_ cd ct doc oc pm u v0 vl vu:Value}{an dx od:Option Addr}{apos bV p0 pos pos' pp py qP qQ:Pos}{base h':Heap}{b₀:Stmt}{ch f1 f2:List Addr}{cs np:List Nat}{d':Drawn}{e elt tg:Expr}{env:Env}{ep i n n1 n2 t':Nat}{es ifs:List Expr}{fd:Ql}{g':Array GenState}{hi lo:Option Int}{ik op:CmpOp}{items:Array Value}{its its' us:List Value}{jW:Array (Option Value)}{m:Bool}{mA mb mg:Str->Option Value}{name qual:Str}{ns:List Int}{oa oe:Obj}{os:OsState}{outer:List Env}{params:Arguments}{pins pn:List (Addr×Obj)}{s:W1}{sc scope:Scope}{t0:Tok}{w:Wu}
abbrev Key:=Sum Int Str
def iR:Key->Value->Bool|.inl k,v=>Value.isInt k v|.inr x,v=>Value.isStrOf x v
def wj(w:Wu):Key->Int|.inl k=>hashInt k|.inr x=>hashStr w x
theorem jR:∀{k:Key}{v:Value},iR k v=true->(∃i t,k=Sum.inl i/\v=Value.int i t)\/∃x t,k=Sum.inr x/\v=Value.str x t|.inl i,v,h=>by obtain⟨t,e⟩:=Value.isInt_shape (k:=i) (v:=v) h;exact .inl ⟨i,t,rfl,e⟩|.inr x,v,h=>by obtain⟨t,e⟩:=Value.isStrOf_shape (x:=x) (v:=v) h;exact .inr ⟨x,t,rfl,e⟩
theorem Mv(i:Int)(t:Tok):iR (.inl i) (.int i t)=true:=#v[iR,Value.isInt]
theorem Mw(x:Str)(t:Tok):iR (.inr x) (.str x t)=true:=#v[iR,Value.isStrOf]
theorem Mx(a b:Int):decide ((Sum.inl a:Key)=Sum.inl b)=(a==b):=by
 by_cases e:a=b;.subst e;simp
 .have h:¬(Sum.inl a:Key)=Sum.inl b:=λq=>e (Sum.inl.inj q);rw[decide_eq_false h];exact(beq_eq_false_iff_ne.mpr e).symm
theorem My(a b:Str):decide ((Sum.inr a:Key)=Sum.inr b)=decide (a=b):=by
 by_cases e:a=b;.subst e;simp
 .have h:¬(Sum.inr a:Key)=Sum.inr b:=λq=>e (Sum.inr.inj q);rw[decide_eq_false h,decide_eq_false e]
theorem Mz(a:Int)(b:Str):decide ((Sum.inl a:Key)=Sum.inr b)=false:=decide_eq_false λq=>nomatch q
theorem MA(a:Str)(b:Int):decide ((Sum.inr a:Key)=Sum.inl b)=false:=decide_eq_false λq=>nomatch q
def fA(prog:Wm)(w:Wu):PySem.KeyKind prog w Key where
 is:=iR
 hash:=wj w
 inj:=λv a b ha hb=>by
  rcases jR ha with⟨i,t,rfl,rfl⟩|⟨x,t,rfl,rfl⟩
  .rcases jR hb with⟨j,u,rfl,e⟩|⟨y,u,rfl,e⟩;.injection e with e1 _;rw[e1]
   .exact nomatch e
  .rcases jR hb with⟨j,u,rfl,e⟩|⟨y,u,rfl,e⟩;.exact nomatch e
   .injection e with e1 _;rw[e1]
 byValue:=λk v h=>by rcases jR h with⟨i,t,rfl,rfl⟩|⟨x,t,rfl,rfl⟩<;>rfl
 pyHash:=λhv h=>by
  rcases jR hv with⟨i,t,rfl,rfl⟩|⟨x,t,rfl,rfl⟩;.exact wpAny_pyHash_int h
  .exact wpAny_pyHash_str h
 eqBool:=λhu hv h=>by
  rcases jR hu with⟨i,t,rfl,rfl⟩|⟨x,t,rfl,rfl⟩
  .rcases jR hv with⟨j,u,rfl,rfl⟩|⟨y,u,rfl,rfl⟩;.rw[Mx]at h;exact wpAny_eqBool_int h
   .rw[Mz]at h;exact SeqAt.EqAt.int_str i t y u _ _ _ _ h
  .rcases jR hv with⟨j,u,rfl,rfl⟩|⟨y,u,rfl,rfl⟩;.rw[MA]at h;exact SeqAt.EqAt.str_int x t j u _ _ _ _ h
   .rw[My]at h;exact wpAny_eqBool_str h
 «strs»:=λk x t v h=>by
  rcases jR h with⟨i,u,rfl,e⟩|⟨y,u,rfl,e⟩;.exact nomatch e
  .injection e with e1 _;subst e1;cases v<;>rfl
theorem MB(prog:Wm)(w:Wu)(k:Key)(v:Value):(fA prog w).is k v=iR k v:=rfl
theorem MC(prog:Wm)(w:Wu)(i:Int)(t:Tok):(fA prog w).is (.inl i) (.int i t)=true:=Mv i t
theorem MD(prog:Wm)(w:Wu)(x:Str)(t:Tok):(fA prog w).is (.inr x) (.str x t)=true:=Mw x t
inductive V where|aD|bl(b:Bool)|int(i:Int)|str(x:Str)|byt(b:Array UInt8)|flt(b:UInt64)|ref(a:Addr)|ty(n:String)deriving DecidableEq
variable{MG:List (Str×V)}{kps:List (Key×V)}{lD mU vs:List V}{v:V}
def RelV:V->Value->Prop|.aD,u=>u=Value.none|.bl b,u=>u=Value.bool b|.int i,u=>∃t,u=Value.int i t|.str x,u=>∃t,u=Value.str x t|.byt b,u=>∃t,u=Value.bytes b t|.flt b,u=>∃t,u=Value.float b t|.ref a,u=>u=Value.ref a|.ty n,u=>u=Value.type n
abbrev Vals:List V->List Value->Prop:=Paired RelV
theorem Vals.length(r:Vals xs us):xs.length=us.length:=Paired.length r
theorem Vals.get:∀{xs:List V}{us:List Value}{i:Nat}{x:V},Vals xs us->xs[i]?=some x->∃u,us[i]?=some u/\RelV x u|_,_,_,_,.nil,e=>by simp at e|_,_,0,_,.cons r _,e=>by simp at e;subst e;exact⟨_,rfl,r⟩|_,_,i+1,x,.cons _ t,e=>by obtain⟨u,h1,h2⟩:=Vals.get (i:=i) (x:=x) t (~~~e);exact⟨u,~~~h1,h2⟩
theorem Vals.set(r:RelV x u):∀{xs:List V}{us:List Value}(i:Nat),Vals xs us->Vals (xs.set i x) (us.set i u)|_,_,_,.nil=>.nil|_,_,0,.cons _ t=>.cons r t|_,_,i+1,.cons q t=>.cons q (Vals.set r i t)
theorem Vals.append{xs ys:List V}{us ws:List Value}(h:Vals xs us)(s:Vals ys ws):Vals (xs++ys) (us++ws):=by induction h with|nil=>exact s|cons r t ih=>exact .cons r ih
theorem Vals.take:∀{xs:List V}{us:List Value}(n:Nat),Vals xs us->Vals (xs.take n) (us.take n)|_,_,0,_=>.nil|_,_,_+1,.nil=>.nil|_,_,n+1,.cons r t=>.cons r (Vals.take n t)
theorem Vals.drop:∀{xs:List V}{us:List Value}(n:Nat),Vals xs us->Vals (xs.drop n) (us.drop n)|_,_,0,r=>r|_,_,_+1,.nil=>.nil|_,_,n+1,.cons _ t=>Vals.drop n t
def fB:Option V->Option Value->Prop|some v,some u=>RelV v u|none,none=>True|_,_=>False
def KV{κ:Type}:List (κ×V)->List (κ×Value)->Prop:=Paired λ(p:κ×V)(q:κ×Value)=>p.1=q.1/\RelV p.2 q.2
def kV:Key->V|.inl i=>.int i|.inr x=>.str x
inductive NK where|i(z:Int)|s(x:Str)|t(ks:List NK)
variable{xs:List (NK×Value×Value)}
noncomputable instance nkDec:DecidableEq NK:=λa b=>Classical.propDecidable (a=b)
mutual def fP(w:Wu):NK->Int|.i z=>wj w (.inl z)|.s x=>wj w (.inr x)|.t ks=>reduceHash (Builtin.Tuple.tupleHashOf (sR w ks))def sR(w:Wu):List NK->List Int|[]=>[]|k::ks=>fP w k::sR w ks end
inductive HO where|lst(xs:List V)|tup(xs:List V)|dK(aw:List (Key×V))|dT(aw:List (List Key×V))|set(S:Int->Bool)(n:Nat)|ins(C dx:Addr)(fs:List (Str×V))|own(x:Addr)|xd(fs:List (Str×V))|met(f x:Addr)|jS(lo hi:Int)|frz(o:Obj)(u:HO)|tbl(ps:Array Value)|ctab(pos:Pos)(q:Str)|dN(ep:Nat)(aw:List (NK×V×V))|ext(φ:Heap->Prop)
abbrev Hp:=Addr->Option HO
variable{H H':Hp}
def upd(H:Hp)(a:Addr)(o:HO):Hp:=λb=>if b=a then some o else H b
theorem cJ:upd H a o a=some o:=by unfold upd;rw[if_pos rfl]
theorem aY(h:b≠a):upd H a o b=H b:=by unfold upd;rw[if_neg h]
theorem nY{u}:upd (upd H a o) a u=upd H a u:=by funext b;unfold upd;split<;>rfl
theorem dZ{a b:Addr}{o:HO}(h:H a=some o)(h':H b=none):a≠b:=by intro e;subst e;rw[h]at h';cases h'
def iS(h:Heap)(a:Addr)(its:Array Value):Prop:=∃n,h.get? a=some {cls:=.type "tuple",dict:=none,data:=.seq its n,slots:=#[]}
theorem iS.tup{h a its}(x:iS h a its):IsTup h a its:=let⟨n,e⟩:=x;⟨_,e,rfl,n,rfl⟩
theorem iS.new(h:Heap)(its:Array Value):iS (h.push {cls:=.type "tuple",data:=.seq its}) h.objs.size its:=⟨_,We _ rfl⟩
theorem iS.lt{its}(x:iS h a its):a<h.objs.size:=let⟨_,e⟩:=x;Wj e
section
variable(P:Wm)(w:Wu)
def bz(H:Hp)(h:Heap)(a:Addr):HO->Prop|.lst xs=>xs.length<=W9/\∃(its:List Value)(n:Nat),Vals xs its/\h.get? a=some {cls:=.type "list",data:=.seq its.toArray n}|.tup xs=>xs.length<=W9/\∃its:List Value,Vals xs its/\iS h a its.toArray|.dK aw=>aw.length<=W9/\(a==QH)=false/\∃vs,KV aw vs/\h.DictOf (fA P w) a vs|.dT aw=>aw.length<=W9/\(a==QH)=false/\∃xs:List (List Key×Addr×Value),Paired (λ(p:List Key×V)(q:List Key×Addr×Value)=>p.1=q.1/\H q.2.1=some (.tup (p.1.map kV))/\RelV p.2 q.2.2) aw xs/\∃o es ep,h.get? a=some o/\o.ExactDict/\o.data=.dict es ep/\es.toList=xs.map (entryOfKey (tupleKind (fA P w)))/\(xs.map (·.1)).Nodup|.set S n=>h.SetOf (intKind P w) a S n|.ins C dx fs=>H dx=some (.own a)/\fs.length<=1000/\dx≠a/\h.get? a=some (PySem.W.instObj C dx)/\∃mA,h.Ns1 dx mA/\(∀f,fB (fs.lookup f) (mA f))/\PySem.Within mA (fs.map (·.1))|.own _=>∃o,h.get? a=some o|.xd fs=>∃mA,h.Ns1 a mA/\∀f,fB (fs.lookup f) (mA f)|.jS lo hi=>∃t u v,h.get? a=some {cls:=.type "range",data:=.fields #[.int lo t,.int hi u,.int 1 v]}|.frz o u=>h.get? a=some o/\bz H h a u|.tbl ps=>h.get? a=some {cls:=.none,data:=.fields ps}|.dN ep aw=>aw.length<=W9/\(a==QH)=false/\∃o es,h.get? a=some o/\o.ExactDict/\o.data=.dict es ep/\Paired (λ(p:NK×V×V)(e:DictEntry)=>e.hash=fP w p.1/\RelV p.2.1 e.key/\RelV p.2.2 e.val) aw es.toList/\(aw.map (·.1)).Nodup|.ctab pos q=>∃ps,h.get? a=some {cls:=.none,data:=.fields ps}/\TriplesOk ps.toList/\∀cv,codeAmong pos ps.toList=some cv->∃c' oc,cv=.ref c'/\H c'=some (.frz oc (.ext λj=>True))/\∃vs tq,oc.data=.fields vs/\vs[1]?=some (.str q tq)|.met f x=>h.get? a=some (PySem.W.methodObj (.ref f) (.ref x))|.ext φ=>φ h/\(∃o,h.get? a=some o)/\∀h1 h2:Heap,φ h1->(∀o,h1.get? a=some o->h2.get? a=some o)->φ h2
def cG(H:Hp)(h:Heap):Prop:=∀a o,H a=some o->bz P w H h a o
end
section
variable{h:Heap}{a:Addr}{o:HO}
theorem bz.lt(x:bz P w H h a o):a<h.objs.size:=by cases o with|lst xs=>obtain⟨_,_,_,_,e⟩:=x;exact Wj e|tup xs=>obtain⟨_,_,_,p⟩:=x;exact p.lt|dK aw=>obtain⟨_,_,_,_,o,_,_,e,_⟩:=x;exact Wj e|dT aw=>obtain⟨_,_,_,_,o,_,_,e,_⟩:=x;exact Wj e|set S n=>obtain⟨o,_,_,_,e,_⟩:=x;exact Wj e|ins C dx fs=>obtain⟨_,_,_,e,_⟩:=x;exact Wj e|own y=>obtain⟨_,e⟩:=x;exact Wj e|xd fs=>obtain⟨_,⟨_,_,_,e,_⟩,_⟩:=x;exact Wj e|jS lo hi=>obtain⟨_,_,_,e⟩:=x;exact Wj e|frz ob u=>obtain⟨e,_⟩:=x;exact Wj e|tbl ps=>exact Wj (show h.get? a=some _ from x)|ctab pos q=>obtain⟨_,e,_⟩:=x;exact Wj e|dN ep aw=>obtain⟨_,_,_,_,e,_⟩:=x;exact Wj e|met f y=>exact Wj (show h.get? a=some _ from x)|ext φ=>obtain⟨_,⟨_,e⟩,_⟩:=x;exact Wj e
theorem Paired.Bj{l₁:List α}{l₂:List β}(h:Paired F l₁ l₂)(f:∀a b,F a b->G a b):Paired G l₁ l₂:=by induction h with|nil=>exact .nil|cons r t ih=>exact .cons (f _ _ r) ih
theorem bz.e8(x:bz P w H h a o)(k:∀b u,b=a\/H b=some (.own a)->h.get? b=some u->h'.get? b=some u)(ho:∀b,H b=some (.own a)->H' b=some (.own a))(ht:∀b xs,H b=some (.tup xs)->H' b=some (.tup xs))(hf:∀b o u,H b=some (.frz o u)->H' b=some (.frz o u)):bz P w H' h' a o:=by induction o with|lst xs=>obtain⟨z,its,n,r,e⟩:=x;exact⟨z,its,n,r,k _ _ (.inl rfl) e⟩|tup xs=>obtain⟨z,its,r,n,e⟩:=x;exact⟨z,its,r,n,k _ _ (.inl rfl) e⟩|dK aw=>obtain⟨z,y,vs,r,ob,es,ep,e,c⟩:=x;exact⟨z,y,vs,r,ob,es,ep,k _ _ (.inl rfl) e,c⟩|dT aw=>obtain⟨z,y,xs,r,ob,es,ep,e,c⟩:=x;exact⟨z,y,xs,Paired.Bj r λp q z=>⟨z.1,ht _ _ z.2.1,z.2.2⟩,ob,es,ep,k _ _ (.inl rfl) e,c⟩|set S n=>obtain⟨ob,es,ep,t,e,c⟩:=x;exact⟨ob,es,ep,t,k _ _ (.inl rfl) e,c⟩|ins C dx fs=>obtain⟨d,z,ne,e,mA,⟨od,es,ep,e2,c⟩,r⟩:=x;exact⟨ho _ d,z,ne,k _ _ (.inl rfl) e,mA,⟨od,es,ep,k _ _ (.inr d) e2,c⟩,r⟩|own y=>obtain⟨ob,e⟩:=x;exact⟨ob,k _ _ (.inl rfl) e⟩|xd fs=>obtain⟨mA,⟨od,es,ep,e,c⟩,r⟩:=x;exact⟨mA,⟨od,es,ep,k _ _ (.inl rfl) e,c⟩,r⟩|jS lo hi=>obtain⟨t,u,v,e⟩:=x;exact⟨t,u,v,k _ _ (.inl rfl) e⟩|frz ob u ih=>obtain⟨e,q⟩:=x;exact⟨k _ _ (.inl rfl) e,ih q⟩|dN ep aw=>obtain⟨z,y,ob,es,e,c⟩:=x;exact⟨z,y,ob,es,k _ _ (.inl rfl) e,c⟩|ctab pos q=>obtain⟨ps,e,t,r⟩:=x;exact⟨ps,k _ _ (.inl rfl) e,t,λcv z=>let⟨c',oc,z1,z2,z3⟩:=r cv z;⟨c',oc,z1,hf _ _ _ z2,z3⟩⟩|tbl ps=>have e:h.get? a=some {cls:=.none,data:=.fields ps}:=x;show h'.get? a=some {cls:=.none,data:=.fields ps};exact k a _ (.inl rfl) e|met f y=>have e:h.get? a=some (PySem.W.methodObj (.ref f) (.ref y)):=x;show h'.get? a=some (PySem.W.methodObj (.ref f) (.ref y));exact k a _ (.inl rfl) e|ext φ=>obtain⟨p,⟨o,e⟩,st⟩:=x;exact⟨st _ _ p λo q=>k _ _ (.inl rfl) q,⟨o,k _ _ (.inl rfl) e⟩,st⟩
theorem cG.lt(x:cG P w H h)(e:H a=some o):a<h.objs.size:=(x a o e).lt
theorem cG.fresh(x:cG P w H h)(e:h.objs.size<=a):H a=none:=by cases q:H a with|none=>rfl|some u=>exact absurd (WG (x.lt q) e) (QE _)
theorem cG.kept(x:cG P w H h)(k:∀b u,h.get? b=some u->h'.get? b=some u):cG P w H h':=λa o e=>(x a o e).e8 (λb u j q=>k b u q) (λj q=>q) (λj j q=>q) λj j j q=>q
theorem cG.laid(x:cG P w H h)(k:∀b u,h.get? b=some u->h'.get? b=some u)(hp:h.objs.size<=a)(new:bz P w (upd H a o) h' a o):cG P w (upd H a o) h':=λb u e=>by
 have hn:=x.fresh hp;by_cases hb:b=a;.subst hb;rw[cJ]at e;cases e;exact new
 .rw[aY hb]at e;exact(x b u e).e8 (λc v j q=>k c v q) (λc q=>%[aY (dZ q hn)|q]) (λc xs q=>%[aY (dZ q hn)|q]) λc o u q=>%[aY (dZ q hn)|q]
end
def Rd(H:Hp)(a:Addr)(u:HO):Prop:=H a=some u\/∃o,H a=some (.frz o u)
theorem Rd.ok{u}(r:Rd H a u)(x:cG P w H h):bz P w H h a u:=by
 rcases r with r|⟨o,r⟩;.exact x a u r
 .obtain⟨_,q⟩:=x a _ r;exact q
def pF:Option HO->Prop|some (.lst _)=>True|some (.dK _)=>True|some (.dT _)=>True|some (.dN _ _)=>True|some (.set _ _)=>True|some (.ins _ _ _)=>True|some (.ext _)=>True|_=>False
section
variable{h:Heap}{x e:Addr}{o':HO}
theorem cG.write(ok:cG P w H h)(mu:pF (H x))(he:e=x\/H e=some (.own x))(k:∀b u,b≠e->h.get? b=some u->h'.get? b=some u)(nZ:∃u,h'.get? e=some u)(new:bz P w (upd H x o') h' x o'):cG P w (upd H x o') h':=λb u q=>by
 have pG:∀c y,H c=some (.own y)->c≠x:=λc y r z=>by subst z;rw[r]at mu;exact mu
 have ME:∀c xs,H c=some (.tup xs)->c≠x:=λc xs r z=>by subst z;rw[r]at mu;exact mu
 have MF:∀c o u,H c=some (.frz o u)->c≠x:=λc o u r z=>by subst z;rw[r]at mu;exact mu
 by_cases hb:b=x;.subst hb;rw[cJ]at q;cases q;exact new
 .rw[aY hb]at q;by_cases hbe:b=e
  .have q':H b=some (.own x):=by
    rcases he with z|z;.exact absurd (hbe.trans z) hb
    .rw[hbe];exact z
   rw[q]at q';cases q';obtain⟨v,hv⟩:=nZ;exact⟨v,%[hbe|hv]⟩
  .refine(ok b u q).e8 (λc v hc r=>k c v ?_ r) (λc r=>%[aY (pG c b r)|r]) (λc xs r=>%[aY (ME c xs r)|r]) λc o u r=>%[aY (MF c o u r)|r];rcases hc with rfl|hc;.exact hbe
   .rintro rfl;rcases he with z|z;.exact pG c b hc z
    .rw[hc]at z;cases z;exact hb rfl
end
structure Un(fs ex:List Addr)(H H':Hp)(h h':Heap):Prop where
 keep:∀b o,h.get? b=some o->H b=none->b∉fs->b∉ex->h'.get? b=some o
 slot:∀b o,h.get? b=some o->H b=none->b∈fs->b∉ex->∃sl,h'.get? b=some {o with slots:=sl}free:∀b o,h.get? b=some o->H b=none->b∉ex->H' b=none
 there:∀b o,h.get? b=some o->b∉ex->∃o',h'.get? b=some o'
 ji:∀b xs,H b=some (.tup xs)->H' b=some (.tup xs)iU:∀b o u,H b=some (.frz o u)->H' b=some (.frz o u)jj:∀b ps,H b=some (.tbl ps)->∃more,H' b=some (.tbl (ps++more))
section
variable{fs MG ex ex':List Addr}{H1 H2:Hp}{h h1 h2:Heap}{a x e:Addr}{o:HO}
theorem Un.any(u:Un fs ex H H1 h h1)(q:h.get? b=some ob)(n:H b=none)(hx:b∉ex):∃sl,h1.get? b=some {ob with slots:=sl}:=by
 by_cases hb:b∈fs;.exact u.slot b ob q n hb hx
 .exact⟨ob.slots,u.keep b ob q n hb hx⟩
theorem Un.kept(k:∀b u,h.get? b=some u->h'.get? b=some u):Un fs ex H H h h':=⟨λb ob q j j j=>k b ob q,λb ob q j j j=>⟨ob.slots,k b ob q⟩,λj j j n j=>n,λb ob q j=>⟨ob,k b ob q⟩,λj j q=>q,λj j j q=>q,λj ps q=>⟨#[],by rw[q];simp⟩⟩
theorem Un.refl:Un fs ex H H h h:=Un.kept λj j q=>q
theorem Un.laid(k:∀b u,h.get? b=some u->h'.get? b=some u)(hp:h.objs.size<=a)(hn:H a=none):Un fs ex H (upd H a o) h h' where
 keep:=λb u q j j j=>k b u q
 slot:=λb u q j j j=>⟨u.slots,k b u q⟩
 free:=λb u q n j=>%[aY (WQ (WG (Wj q) hp))|n]
 there:=λb u q j=>⟨u,k b u q⟩
 ji:=λb xs q=>%[aY (dZ q hn)|q]
 iU:=λb u xs q=>%[aY (dZ q hn)|q]
 jj:=λb ps q=>⟨#[],by rw[aY (dZ q hn),q];simp⟩
theorem Un.write(mu:pF (H x))(he:e=x\/H e=some (.own x))(k:∀b u,b≠e->h.get? b=some u->h'.get? b=some u)(nZ:∃u,h'.get? e=some u):Un fs ex H (upd H x o) h h':=by
 have hx:∀b,H b=none->b≠x:=λb n z=>by subst z;rw[n]at mu;exact mu
 have hb:∀b,H b=none->b≠e:=λb n z=>by
  subst z;rcases he with r|r;.exact hx b n r
  .rw[n]at r;cases r
 have hm:∀b u,H b=some u->¬pF (some u)->b≠x:=λb u q nm z=>by subst z;rw[q]at mu;exact nm mu
 refine⟨λb u q n j j=>k b u (hb b n) q,λb u q n j j=>⟨u.slots,k b u (hb b n) q⟩,λb u q n j=>%[aY (hx b n)|n],λb u q j=>?_,λb xs q=>%[aY (hm b _ q λz=>z)|q],λb u xs q=>%[aY (hm b _ q λz=>z)|q],λb ps q=>⟨#[],by rw[aY (hm b _ q λz=>z),q];simp⟩⟩;by_cases hbe:b=e;.subst hbe;exact nZ
 .exact⟨u,k b u hbe q⟩
end
def sS(h:Heap)(H:Hp):List Addr:=(Wx h.objs.size).filter λa=>(H a).isSome
def ko(h:Heap)(H:Hp):Heap:=PySem.W.hideAll h (sS h H)
theorem MI(h:Heap)(H:Hp):(ko h H).objs.size=h.objs.size:=PySem.W.hideAll_size _ _
theorem MJ(e:h.get? b=some o)(n:H b=none):(ko h H).get? b=some o:=PySem.W.hideAll_get _ e λhm=>by have q:(H b).isSome=true:=(List.mem_filter.mp hm).2;rw[n]at q;simp at q
theorem MK(e:(ko h H).get? b=some o):h.get? b=some o/\H b=none:=by have e':h.get? b=some o:=PySem.W.of_hideAll (sS h H) e;refine⟨e',?_⟩;cases q:H b with|none=>rfl|some x=>have hm:b∈sS h H:=List.mem_filter.mpr ⟨List.mem_range.mpr (Wj e'),#v[q]⟩;have z:(ko h H).get? b=none:=PySem.W.hideAll_none (sS h H) hm;rw[z]at e;cases e
def MM(g h:Heap)(L:Addr):List (Addr×Obj):=(Wx h.objs.size).filterMap λa=>if a=L\/(g.get? a).isSome=true then none else(h.get? a).map λo=>(a,o)
def rest(g h:Heap)(L d:Addr):List (Addr×Obj):=(MM g h L).filter λp=>decide (p.1≠d)
structure Mod(K:W3)(mg:Str->Option Value)(base:Heap):Prop where
 n5:K.In base
 glob:base.Ns Wv mg
 blt:∃mb,base.Ns builtinsNs mb/\∀x:Str,x≠"__name__"->mb x=QK x
 nolimit:base.NoLimit
structure Cx where
 prog:Wm
 w:Wu
 K:W3
 mg:Str->Option Value
 base:Heap
 A:Wp
 N:List Str
 s₀:W1
 H₀:Hp
 env:Env
 outer:List Env
 stack:List Env
 ex:List Addr
 fn:Str->Bool
 calm:Bool
 pn:List (Addr×Obj)xe:Value->W1->Prop
variable{X:Cx}
def eO(l:List Env):List Addr:=l.filterMap (·.frame)
abbrev Cx.fs(X:Cx):List Addr:=eO X.outer
def pH(sc:Scope)(x:Str):Prop:=sc.names.lookup x=some .local\/sc.names.lookup x=some .cell\/sc.names.lookup x=some .free
def Loc(sc:Scope)(x:Str):Prop:=sc.names.lookup x=some .local\/sc.names.lookup x=some .cell
def Look(env:Env)(h:Heap)(m:Str->Option Value)(x:Str)(u:Value):Prop:=env.kindOf x=some .local/\m x=some u\/(env.kindOf x=some .cell\/env.kindOf x=some .free)/\∃c,env.cells.lookup x=some c/\h.IsCell c (some u)
structure Cx.Ok(X:Cx):Prop where
 mod:Mod X.K X.mg X.base
 kind:X.env.scope.kind=.function
 glob:X.env.globals=Wv
 blt:X.env.builtins=builtinsNs
 above:X.s₀.heap.objs.size<=X.env.locals
 inj:∀x y c,X.env.cells.lookup x=some c->X.env.cells.lookup y=some c->x=y
 has:∀x,X.env.kindOf x=some .cell\/X.env.kindOf x=some .free->∃c,X.env.cells.lookup x=some c
 lg:∀x c,X.fn x=true->X.env.cells.lookup x=some c->X.s₀.heap.objs.size<=c
 hd:X.calm=true->X.A.handled=none
 frames:X.A.frames=some X.stack
 mG:X.stack=X.outer\/X.stack=X.env::X.outer/\X.env.frame=some X.env.locals
 mH:∀b∈X.ex,b≠X.env.locals/\∀x c,X.env.cells.lookup x=some c->c≠b
 bs:∀b o,X.base.get? b=some o->X.s₀.heap.get? b=some o/\X.H₀ b=none
 jk:X.base.objs.size<=X.s₀.heap.objs.size
 lh:∀b o,X.base.get? b=some o->b∉X.ex
 lj:∀b∈X.ex,b∉X.fs
 gr:X.s₀.heap.FunFrames X.base X.outer
 jT:∀b∈X.fs,X.H₀ b=none
structure Inv(X:Cx)(pins:List (Addr×Obj))(Y:List (Option V))(H:Hp)(s:W1):Prop where
 ok:X.Ok
 os:s.os=X.s₀.os
 bare:AllBare s.gens
 base:Un X.fs X.ex X.H₀ H X.s₀.heap s.heap
 loc:∃m,s.heap.Ns X.env.locals m/\∀(i:Nat)(x:Str)(v:V),X.N[i]?=some x->Y[i]?=some (some v)->pH X.env.scope x->∃u,RelV v u/\Look X.env s.heap m x u
 cell:∀x c,X.env.cells.lookup x=some c->∃v,s.heap.IsCell c v
 free:H X.env.locals=none
 e9:∀x c,X.env.cells.lookup x=some c->H c=none
 pin:∀p∈X.pn++pins,s.heap.get? p.1=some p.2/\H p.1=none/\p.1≠X.env.locals/\p.1∉X.fs/\∀v,p.2.data≠.cell v
 aB:cG X.prog X.w H s.heap
 len:Y.length=X.N.length
section
variable{Y:List (Option V)}
theorem Cx.Ok.MN(ok:X.Ok)(e:X.base.get? b=some o):b∉X.fs:=λhb=>by have:=(ok.gr.mem hb).1;rw[e]at this;cases this
theorem Inv.bs(I:6#0):∀b o,X.base.get? b=some o->s.heap.get? b=some o/\H b=none:=λb o e=>⟨I.base.keep b o (I.ok.bs b o e).1 (I.ok.bs b o e).2 (I.ok.MN e) (I.ok.lh b o e),I.base.free b o (I.ok.bs b o e).1 (I.ok.bs b o e).2 (I.ok.lh b o e)⟩
theorem Inv.bk(I:6#0):∀b o,X.base.get? b=some o->s.heap.get? b=some o:=λb o e=>(I.bs b o e).1
theorem Inv.mod(I:6#0):Mod X.K X.mg X.base:=I.ok.mod
theorem Inv.dI(I:6#0):X.K.In s.heap:=I.ok.mod.n5.keeps I.bk
theorem Inv.lt(I:6#0):X.env.locals<s.heap.objs.size:=let⟨_,hn,_⟩:=I.loc;hn.lt
theorem Inv.sz(I:6#0):X.s₀.heap.objs.size<=s.heap.objs.size:=Wy I.ok.above (QV I.lt)
theorem Inv.MO(I:6#0)(h:s.heap.objs.size<=a):a∉X.fs:=λhb=>by obtain⟨_,o,ho,_⟩:=I.ok.gr.mem hb;exact absurd (WG (Wj ho) (Wy I.sz h)) (QE _)
theorem Inv.hZ(I:6#0):∀x c,X.env.cells.lookup x=some c->c≠X.env.locals:=λx c e z=>by obtain⟨v,o,ho,hd⟩:=I.cell x c e;obtain⟨m,⟨o',es,ep,gv,hd',_⟩,_⟩:=I.loc;rw[z,gv]at ho;cases ho;rw[hd']at hd;cases hd
theorem Inv.gr(I:6#0):s.heap.FunFrames X.base X.outer:=by
 have all:∀(l:List Env),(∀b∈eO l,b∈X.fs)->X.s₀.heap.FunFrames X.base l->s.heap.FunFrames X.base l:=by intro l;induction l with|nil=>intro _ _;trivial|cons env r ih=>intro hs hl;obtain⟨hk,⟨L,o,hf,hn,ho,hd⟩,hr⟩:=hl;have hL:L∈X.fs:=hs L (by unfold eO;rw[Jz,hf];exact Wi);obtain⟨sl,e⟩:=I.base.slot L o ho (I.ok.jT L hL) hL λz=>I.ok.lj L z hL;exact⟨hk,⟨L,_,hf,hn,e,hd⟩,ih (λb hb=>hs b (by unfold eO;rw[Jz,hf];exact Wf _ hb)) hr⟩
 exact all X.outer (λj hb=>hb) I.ok.gr
theorem Inv.stack(I:6#0):s.heap.FunFrames X.base X.stack:=by
 rcases I.ok.mG with e|⟨e,hf⟩;.rw[e];exact I.gr
 .rw[e];obtain⟨m,hn,_⟩:=I.loc;refine .cons (by rw[I.ok.kind];decide) hf hn ?_ I.gr;exact Heap.get?_none_of_le (Wy I.ok.jk I.ok.above)
theorem Inv.sT(I:6#0):∀b∈eO X.stack,b∈X.env.locals::X.fs:=λb hb=>by
 rcases I.ok.mG with e|⟨e,hf⟩;.rw[e]at hb;exact Wf _ hb
 .rw[e]at hb;unfold eO at hb;rw[Jz,hf]at hb;exact hb
theorem Inv.sU(I:6#0):∀b∈eO X.stack,H b=none:=λb hb=>by
 rcases Wq.mp (I.sT b hb)with e|hb;.rw[e];exact I.free
 .obtain⟨_,o,ho,_⟩:=I.ok.gr.mem hb;exact I.base.free b o ho (I.ok.jT b hb) λz=>I.ok.lj b z hb
theorem Inv.step{g':Array GenState}{t':Nat}{d':Drawn}(I:6#0)(jU:∀b∈ch,(b∈X.ex\/X.s₀.heap.objs.size<=b)/\b≠X.env.locals/\(∀x c,X.env.cells.lookup x=some c->c≠b)/\∀p∈X.pn++pins,p.1≠b)(keep:∀b o,b≠X.env.locals->b∉X.fs->b∉ch->s.heap.get? b=some o->H b=none->h'.get? b=some o)(slot:∀b o,b≠X.env.locals->b∈X.fs->b∉ch->s.heap.get? b=some o->H b=none->∃sl,h'.get? b=some {o with slots:=sl})(free:∀b o,b∉ch->s.heap.get? b=some o->H b=none->H' b=none)(there:∀b o,b∉ch->s.heap.get? b=some o->∃o',h'.get? b=some o')(ji:∀b xs,H b=some (.tup xs)->H' b=some (.tup xs))(iU:∀b o u,H b=some (.frz o u)->H' b=some (.frz o u))(jj:∀b ps,H b=some (.tbl ps)->∃more,H' b=some (.tbl (ps++more)))(ns:∀m,s.heap.Ns X.env.locals m->h'.Ns X.env.locals m)(aB:cG X.prog X.w H' h')(hg:AllBare g'):Inv X pins Y H' {s with heap:=h',gens:=g',drawn:=d',toks:=t'}:=by
 have mI:∀b o,X.s₀.heap.get? b=some o->b≠X.env.locals:=λb o e=>WQ (WG (Wj e) I.ok.above);have sV:∀b o,X.s₀.heap.get? b=some o->b∉X.ex->b∉ch:=λb o e hx hb=>by
  rcases(jU b hb).1 with z|z;.exact hx z
  .exact absurd (WG (Wj e) z) (QE _)
 have cellK:∀x c,X.env.cells.lookup x=some c->∀v,s.heap.IsCell c v->h'.IsCell c v:=λx c e v⟨o,ho,hd⟩=>by
  have pI:c∉ch:=λz=>(jU c z).2.2.1 x c e rfl;by_cases hc:c∈X.fs;.obtain⟨sl,q⟩:=slot c o (I.hZ x c e) hc pI ho (I.e9 x c e);exact⟨_,q,hd⟩
  .exact⟨o,keep c o (I.hZ x c e) hc pI ho (I.e9 x c e),hd⟩
 refine⟨I.ok,I.os,hg,⟨λb o e n hb hx=>?_,λb o e n hb hx=>?_,λb o e n hx=>?_,λb o e hx=>?_,λb xs e=>ji b xs (I.base.ji b xs e),λb o xs e=>iU b o xs (I.base.iU b o xs e),λb ps e=>?_⟩,?_,λx c e=>?_,?_,λx c e=>?_,λp hp=>?_,aB,I.len⟩;.exact keep b o (mI b o e) hb (sV b o e hx) (I.base.keep b o e n hb hx) (I.base.free b o e n hx)
 .obtain⟨sl,e1⟩:=I.base.slot b o e n hb hx;obtain⟨sl',e2⟩:=slot b _ (mI b o e) hb (sV b o e hx) e1 (I.base.free b o e n hx);exact⟨sl',e2⟩
 .obtain⟨o',e1⟩:=I.base.there b o e hx;exact free b o' (sV b o e hx) e1 (I.base.free b o e n hx)
 .obtain⟨o',e1⟩:=I.base.there b o e hx;exact there b o' (sV b o e hx) e1
 .obtain⟨m1,e1⟩:=I.base.jj b ps e;obtain⟨m2,e2⟩:=jj b _ e1;exact⟨m1++m2,by rw[e2,Array.append_assoc]⟩
 .obtain⟨m,hn,hl⟩:=I.loc;refine⟨m,ns m hn,λi x v e1 e2 e3=>?_⟩;obtain⟨u,r,l⟩:=hl i x v e1 e2 e3;refine⟨u,r,?_⟩;rcases l with l|⟨k,c,e,z⟩;.exact .inl l
  .exact .inr ⟨k,c,e,cellK x c e _ z⟩
 .obtain⟨v,z⟩:=I.cell x c e;exact⟨v,cellK x c e v z⟩
 .obtain⟨m,⟨o,_,_,ho,_⟩,_⟩:=I.loc;exact free _ o (λz=>(jU _ z).2.1 rfl) ho I.free
 .obtain⟨v,o,ho,hd⟩:=I.cell x c e;exact free c o (λz=>(jU c z).2.2.1 x c e rfl) ho (I.e9 x c e)
 .obtain⟨e,n,ne,nf,d⟩:=I.pin p hp;have pI:p.1∉ch:=λz=>(jU p.1 z).2.2.2 p hp rfl;exact⟨keep p.1 p.2 ne nf pI e n,free p.1 p.2 pI e n,ne,nf,d⟩
theorem Inv.un{t':Nat}(I:6#0)(u:Un X.fs [] H H' s.heap h')(aB:cG X.prog X.w H' h'):Inv X pins Y H' {s with heap:=h',toks:=t'}:=by obtain⟨m,⟨o,es,ep,ho,r⟩,_⟩:=id I.loc;obtain⟨sl,hL⟩:=u.any ho I.free V';exact I.step (g':=s.gens) (d':=s.drawn) (ch:=[]) (λj z=>nomatch z) (λb o j hb j e n=>u.keep b o e n hb V') (λb o j hb j e n=>u.slot b o e n hb V') (λb o j e n=>u.free b o e n V') (λb o j e=>u.there b o e V') u.ji u.iU u.jj (λm' hm=>by obtain⟨o',mJ,jl,gv,r'⟩:=hm;rw[ho]at gv;cases gv;exact⟨_,mJ,jl,hL,r'⟩) aB I.bare
theorem Inv.call{t':Nat}{d':Drawn}(I:6#0)(u:Un (eO X.stack) ch H H' s.heap h')(aB:cG X.prog X.w H' h')(hg:AllBare g')(jU:∀b∈ch,(b∈X.ex\/X.s₀.heap.objs.size<=b)/\b≠X.env.locals/\(∀x c,X.env.cells.lookup x=some c->c≠b)/\∀p∈X.pn++pins,p.1≠b):Inv X pins Y H' {s with heap:=h',gens:=g',drawn:=d',toks:=t'}:=by obtain⟨m,⟨o,es,ep,ho,r⟩,_⟩:=id I.loc;obtain⟨sl,hL⟩:=u.any ho I.free λz=>(jU _ z).2.1 rfl;exact I.step (ch:=ch) jU (λb o hL hb hc e n=>u.keep b o e n (λz=>(Wq.mp (I.sT b z)).elim hL hb) hc) (λb o j j hc e n=>u.any e n hc) (λb o hc e n=>u.free b o e n hc) (λb o hc e=>u.there b o e hc) u.ji u.iU u.jj (λm' hm=>by obtain⟨o',mJ,jl,gv,r'⟩:=hm;rw[ho]at gv;cases gv;exact⟨_,mJ,jl,hL,r'⟩) aB hg
theorem Inv.turned{t':Nat}(I:6#0)(k:∀b o,b≠it->s.heap.get? b=some o->h'.get? b=some o)(hn:H it=none)(hL:it≠X.env.locals)(h1:it∈X.ex\/X.s₀.heap.objs.size<=it)(h2:∀x c,X.env.cells.lookup x=some c->c≠it)(h3:∀p∈X.pn++pins,p.1≠it):Inv X pins Y H {s with heap:=h',toks:=t'}:=by
 have jm:∀b u,H b=some u->b≠it:=λb u e z=>by rw[z,hn]at e;cases e
 refine I.step (g':=s.gens) (d':=s.drawn) (ch:=[it]) (λb hb=>?_) (λb o j j hc e j=>k b o (λz=>hc #v[z]) e) (λb o j j hc e j=>⟨o.slots,k b o (λz=>hc #v[z]) e⟩) (λj j j j n=>n) (λb o hc e=>⟨o,k b o (λz=>hc #v[z]) e⟩) (λj j e=>e) (λj j j e=>e) (λb ps e=>⟨#[],by rw[e];simp⟩) (λm hm=>?_) (λb u e=>?_) I.bare;.have e:b=it:= ~~~hb;subst e;exact⟨h1,hL,h2,h3⟩
 .obtain⟨o,es,ep,ho,r⟩:=hm;exact⟨o,es,ep,k _ o (Ne.symm hL) ho,r⟩
 .refine(I.aB b u e).e8 (λc v hc q=>k c v ?_ q) (λj q=>q) (λj j q=>q) λj j j q=>q;rcases hc with z|z;.rw[z];exact jm b u e
  .exact jm c _ z
theorem Inv.tok(I:6#0)(t:Nat):Inv X pins Y H {s with toks:=t}:=I.un (h':=s.heap) (t':=t) Un.refl I.aB
theorem Inv.kept(I:6#0)(k:∀b u,s.heap.get? b=some u->h'.get? b=some u):Inv X pins Y H {s with heap:=h',toks:=t'}:=I.un (Un.kept k) (I.aB.kept k)
theorem Inv.laid(I:6#0)(k:∀b u,s.heap.get? b=some u->h'.get? b=some u)(hp:s.heap.objs.size<=a)(new:bz X.prog X.w (upd H a o) h' a o):Inv X pins Y (upd H a o) {s with heap:=h',toks:=t'}:=I.un (Un.laid k hp (I.aB.fresh hp)) (I.aB.laid k hp new)
theorem Inv.write{e}(I:6#0)(mu:pF (H x))(he:e=x\/H e=some (.own x))(k:∀b u,b≠e->s.heap.get? b=some u->h'.get? b=some u)(nZ:∃u,h'.get? e=some u)(new:bz X.prog X.w (upd H x o) h' x o):Inv X pins Y (upd H x o) {s with heap:=h',toks:=t'}:=I.un (Un.write mu he k nZ) (I.aB.write mu he k nZ new)
theorem Inv.weak(I:6#0)(hl:SC.length=Y.length)(w:∀(i:Nat)v,SC[i]?=some (some v)->Y[i]?=some (some v)):Inv X pins SC H s:=⟨I.ok,I.os,I.bare,I.base,let⟨m,hn,iV⟩:=I.loc;⟨m,hn,λi x v e1 e2 e3=>iV i x v e1 (w i v e2) e3⟩,I.cell,I.free,I.e9,I.pin,I.aB,hl.trans I.len⟩
theorem Inv.Bk(I:6#0)(h:∀p∈pins',s.heap.get? p.1=some p.2/\H p.1=none/\p.1≠X.env.locals/\p.1∉X.fs/\∀v,p.2.data≠.cell v):Inv X pins' Y H s:=⟨I.ok,I.os,I.bare,I.base,I.loc,I.cell,I.free,I.e9,λp hp=>(WK.mp hp).elim (λz=>I.pin p (Jr _ z)) (h p),I.aB,I.len⟩
theorem wk(hN:N.Nodup){j:Nat}{x:Str}(a:N[i]?=some x)(b:N[j]?=some x):i=j:=by obtain⟨h1,e1⟩:=W8.mp a;obtain⟨h2,e2⟩:=W8.mp b;exact(List.getElem_inj hN).mp (e1.trans e2.symm)
theorem sW{M:Model}{A:Wp}{E:Value->W1->Prop}{x:Str}{Q:Unit->W1->Prop}(I:6#0)(hN:X.N.Nodup)(hi:X.N[i]?=some x)(hx:Loc X.env.scope x)(r:RelV v u)(h:∀s',Inv X pins (Y.set i (some v)) H s'->(∃a,Jh a s.heap s'.heap/\(a=X.env.locals\/X.env.cells.lookup x=some a))->Q () s')(hf:X.fn x=true\/X.env.scope.names.lookup x=some .local:=by first|exact .inl rfl|exact .inr rfl|assumption):W6 M A (storeName X.env x u) Q E s:=by
 obtain⟨m,hn,hl⟩:=id I.loc;have MP:(X.env.scope.kind==.class||X.env.scope.kind==.module&&X.env.locals !=X.env.globals)=false:=by rw[I.ok.kind];rfl
 have pJ:i<Y.length:=by rw[I.len];exact(W8.mp hi).1
 have hZ:=I.hZ;have tracked:∀{a:Addr}{h':Heap},(∃o,s.heap.get? a=some o/\H a=none)->Jh a s.heap h'->cG X.prog X.w H h':=λ{a h'}ha hs b ob e=>by
  obtain⟨_,_,n8⟩:=ha;refine(I.aB b ob e).e8 (λc w' hc q=>(hs.2 c ?_).trans q) (λf q=>q) (λf f q=>q) λf f f q=>q;rintro rfl;rcases hc with rfl|hc;.rw[n8]at e;cases e
  .rw[n8]at hc;cases hc
 rcases hx with hk|hk
 .refine wpAny_storeName_local hk hn (λh' pK hs=>?_) MP;obtain⟨oL,_,_,gL,_⟩:=id hn;refine h _ ⟨I.ok,I.os,I.bare,⟨λb o e n hb hx=>?_,λb o e n hb hx=>?_,I.base.free,λb o e hx=>?_,I.base.ji,I.base.iU,I.base.jj⟩,⟨_,pK,λj y v' e1 e2 e3=>?_⟩,λy c e=>?_,I.free,I.e9,λp hp=>?_,tracked ⟨oL,gL,I.free⟩ hs,~~~I.len⟩ ⟨_,hs,.inl rfl⟩;.exact(hs.2 b (WQ (WG (Wj e) I.ok.above))).trans (I.base.keep b o e n hb hx)
  .obtain⟨sl,e1⟩:=I.base.slot b o e n hb hx;exact⟨sl,(hs.2 b (WQ (WG (Wj e) I.ok.above))).trans e1⟩
  .obtain⟨o',e1⟩:=I.base.there b o e hx;exact⟨o',(hs.2 b (WQ (WG (Wj e) I.ok.above))).trans e1⟩
  .by_cases hj:j=i;.subst hj;rw[hi]at e1;cases e1;rw[WE pJ]at e2;cases e2;exact⟨u,r,.inl ⟨hk,V'⟩⟩
   .rw[Wc (Ne.symm hj)]at e2;obtain⟨u',r',q⟩:=hl j y v' e1 e2 e3;refine⟨u',r',?_⟩;rcases q with⟨k,e⟩|⟨k,c,e,z⟩;.refine .inl ⟨k,?_⟩;have:y≠x:=λe=>hj (wk hN e1 (e▸hi));simp[this,e]
    .exact .inr ⟨k,c,e,z.sameBut hs (hZ y c e)⟩
  .obtain⟨w',z⟩:=I.cell y c e;exact⟨w',z.sameBut hs (hZ y c e)⟩
  .obtain⟨e,n,ne,nf,d⟩:=I.pin p hp;exact⟨(hs.2 p.1 ne).trans e,n,ne,nf,d⟩
 .have pL:X.fn x=true:=by
   rcases hf with z|z;.exact z
   .rw[z]at hk;cases hk
  obtain⟨c,hc⟩:=I.ok.has x (.inl hk);obtain⟨w',z⟩:=I.cell x c hc;refine wpAny_storeName_cell I.ok.kind hk hc z λh' h9 hs=>?_;obtain⟨oc,hoc,hocd⟩:=id z;refine h 9#h' ⟨I.ok,I.os,I.bare,⟨λb o e n hb hx=>?_,λb o e n hb hx=>?_,I.base.free,λb o e hx=>?_,I.base.ji,I.base.iU,I.base.jj⟩,⟨m,hn.sameBut hs (Ne.symm (hZ x c hc)),λj y v' e1 e2 e3=>?_⟩,λy c' e=>?_,I.free,I.e9,λp hp=>?_,tracked ⟨oc,hoc,I.e9 x c hc⟩ hs,~~~I.len⟩ ⟨c,hs,.inr hc⟩;.exact(hs.2 b (WQ (WG (Wj e) (I.ok.lg x c pL hc)))).trans (I.base.keep b o e n hb hx)
  .obtain⟨sl,e1⟩:=I.base.slot b o e n hb hx;exact⟨sl,(hs.2 b (WQ (WG (Wj e) (I.ok.lg x c pL hc)))).trans e1⟩
  .obtain⟨o',e1⟩:=I.base.there b o e hx;exact⟨o',(hs.2 b (WQ (WG (Wj e) (I.ok.lg x c pL hc)))).trans e1⟩
  .by_cases hj:j=i;.subst hj;rw[hi]at e1;cases e1;rw[WE pJ]at e2;cases e2;exact⟨u,r,.inr ⟨.inl hk,c,hc,h9⟩⟩
   .rw[Wc (Ne.symm hj)]at e2;obtain⟨u',r',q⟩:=hl j y v' e1 e2 e3;refine⟨u',r',?_⟩;rcases q with q|⟨k,c',e,z'⟩;.exact .inl q
    .refine .inr ⟨k,c',e,z'.sameBut hs ?_⟩;rintro rfl;exact hj (wk hN e1 (I.ok.inj _ _ _ e hc▸hi))
  .by_cases hcc:c'=c;.subst hcc;exact⟨_,h9⟩
   .obtain⟨w2,z2⟩:=I.cell y c' e;exact⟨w2,z2.sameBut hs hcc⟩
  .obtain⟨e,n,ne,nf,d⟩:=I.pin p hp;refine⟨(hs.2 p.1 ?_).trans e,n,ne,nf,d⟩;intro q;rw[q,hoc]at e;have q':oc=p.2:=WL e;exact d w' (by rw[<-q'];exact hocd)
theorem wm(I:6#0)(hN:X.N.Nodup)(hi:X.N[i]?=some x)(hx:Loc X.env.scope x)(r:RelV v u)(h:∀s',Inv X pins (Y.set i (some v)) H s'->Q () s')(hf:X.fn x=true\/X.env.scope.names.lookup x=some .local:=by first|exact .inl rfl|exact .inr rfl|assumption):W6 M A (storeName X.env x u) Q E s:=sW I hN hi hx r (λs' I' j=>h s' I') hf
theorem Inv.Bl(I:6#0)(ho:s'.os=s.os)(u:Un (eO X.stack) ch H H' s.heap s'.heap)(aB:cG X.prog X.w H' s'.heap)(hg:AllBare s'.gens)(jU:∀b∈ch,(b∈X.ex\/X.s₀.heap.objs.size<=b)/\b≠X.env.locals/\(∀x c,X.env.cells.lookup x=some c->c≠b)/\∀p∈X.pn++pins,p.1≠b):Inv X pins Y H' s':=by obtain⟨h',g',d',t',o'⟩:=s';have e:o'=s.os:=ho;subst e;exact I.call (g':=g') (t':=t') (d':=d') u aB hg jU
end
abbrev XK:=Value->Option Addr->Hp->Prop
abbrev St:=List (Option V)
variable{W:Addr->Option Addr->St->Hp->Prop}{Y SC:St}
abbrev VK:=V->Hp->Prop
abbrev TE:=St->Hp->VK->Prop
variable{ta te:TE}
abbrev TT:=St->Hp->(Bool->Hp->Prop)->Prop
abbrev TA:=St->Hp->(List V->Hp->Prop)->Prop
structure Ends where
 nx:St->Hp->Prop
 rt:VK
 bk:St->Hp->Prop:=λj j=>False
 ct:St->Hp->Prop:=λj j=>False
abbrev TS:=Ends->St->Hp->Prop
variable{th:Addr->Addr->TS}
def EP(X:Cx)(pins:List (Addr×Obj))(Y:St)(Q:VK)(u:Value)(s':W1):Prop:=∃v H',Inv X pins Y H' s'/\RelV v u/\Q v H'
def TP(X:Cx)(pins:List (Addr×Obj))(Y:St)(Q:Bool->Hp->Prop)(b:Bool)(s':W1):Prop:=∃H',Inv X pins Y H' s'/\Q b H'
def AP(X:Cx)(pins:List (Addr×Obj))(Y:St)(Q:List V->Hp->Prop)(us:List Value)(s':W1):Prop:=∃vs H',Inv X pins Y H' s'/\Vals vs us/\Q vs H'
def SP(X:Cx)(pins:List (Addr×Obj))(D:Ends)(f:Flow)(s':W1):Prop:=match f with|.next=>∃SC H',Inv X pins SC H' s'/\D.nx SC H'|.brk=>∃SC H',Inv X pins SC H' s'/\D.bk SC H'|.cont=>∃SC H',Inv X pins SC H' s'/\D.ct SC H'|.ret u=>∃v SC H',Inv X pins SC H' s'/\RelV v u/\D.rt v H'
def PE(X:Cx)(e:Expr)(t:TE):Prop:=∀(pins:List (Addr×Obj))(s:W1)(Y:St)(H:Hp)(Q:VK),6#0->t Y H Q->W6 5#0 X.A (eval e X.env) (EP X pins Y Q) X.xe s
def PT(X:Cx)(e:Expr)(t:TT):Prop:=∀(pins:List (Addr×Obj))(s:W1)(Y:St)(H:Hp)(Q:Bool->Hp->Prop),6#0->t Y H Q->W6 5#0 X.A (isTrue e X.env (eval e X.env)) (TP X pins Y Q) X.xe s
def PW(X:Cx)(e:Expr)(t:TT):Prop:=∀(whole:Sem Value)(pins:List (Addr×Obj))(s:W1)(Y:St)(H:Hp)(Q:Bool->Hp->Prop),6#0->t Y H Q->W6 5#0 X.A (isTrue e X.env whole) (TP X pins Y Q) X.xe s
theorem PW.pt(h:PW X e t):PT X e t:=h _
def PA(X:Cx)(es:List Expr)(t:TA):Prop:=∀(pos:Pos)(pins:List (Addr×Obj))(s:W1)(Y:St)(H:Hp)(Q:List V->Hp->Prop),6#0->t Y H Q->W6 5#0 X.A (spliced (Qy pos (Wa es X.env))) (AP X pins Y Q) X.xe s
def PS(X:Cx)(st:Stmt)(t:TS):Prop:=∀(pins:List (Addr×Obj))(s:W1)(Y:St)(H:Hp)(D:Ends),6#0->t D Y H->W6 5#0 X.A (exec st X.env) (SP X pins D) X.xe s
def dJ(X:Cx)(st:List Stmt)(t:TS):Prop:=∀(pins:List (Addr×Obj))(s:W1)(Y:St)(H:Hp)(D:Ends),6#0->t D Y H->W6 5#0 X.A (execs st X.env) (SP X pins D) X.xe s
theorem aZ(h:W6 M A t Q E s)(hQ:∀a s,Q a s->Q' a s):W6 M A t Q' E s:=Qk h hQ λj j x=>x
section
def fD(i:Nat):TE:=λY H Q=>∃v,Y[i]?=some (some v)/\Q v H
def tC(v:V):TE:=λj H Q=>Q v H
theorem MQ(hN:X.N[i]?=some x)(hv:pH X.env.scope x)(hd:(x==("__debug__":Str))=false:=by decide)(dS:(x==("__classdict__":Str))=false:=by decide):PE X (.Name x pos) (fD i):=by
 intros Q I h;obtain⟨v,e,h⟩:=h;obtain⟨m,hn,hl⟩:=I.loc;obtain⟨u,r,l⟩:=hl i x v hN e hv;have fin:EP X pins Y Q u s:=⟨v,H,I,r,h⟩;rcases l with⟨hk,hm⟩|⟨hk,c,hc,hcell⟩;.exact wpAny_Name (wpAny_loadName_local I.ok.kind hk hn hm fin) hd
 .rcases hk with hk|hk;.exact wpAny_Name (wpAny_loadName_cell I.ok.kind hk hc hcell fin) hd
  .exact wpAny_Name (wpAny_loadName_free I.ok.kind hk hc hcell fin dS) hd
theorem Bm{i j pos}:PE X (.Constant (.int i) j pos) (tC (.int i)):=λk k k H k I h=>wpAny_Constant_int ⟨.int i,H,I.tok _,⟨_,rfl⟩,h⟩
theorem wo{b j pos}:PE X (.Constant (.bool b) j pos) (tC (.bl b)):=λk k k H k I h=>Constant_bool ⟨.bl b,H,I,rfl,h⟩
theorem MS{j pos}:PE X (.Constant .none j pos) (tC .aD):=λk k k H k I h=>Constant_none ⟨.aD,H,I,rfl,h⟩
theorem Bn{x j pos}:PE X (.Constant (.str x) j pos) (tC (.str x)):=λk k k H k I h=>Calls.Constant_str ⟨.str x,H,I.tok _,⟨_,rfl⟩,h⟩
def Gl(X:Cx)(x:Str):Prop:=X.env.kindOf x=some .globalImplicit
theorem mK(I:6#0)(hg:Gl X x)(hm:X.mg x=some u)(h:Q u s)(hd:(x==("__debug__":Str))=false:=by decide):W6 5#0 X.A (eval (.Name x pos) X.env) Q E s:=Calls.Name_function_global I.ok.kind hg (Calls.loadGlobal_global %[I.ok.glob|I.mod.glob.keeps I.bk] hm h) hd
theorem mL(I:6#0)(hg:Gl X x)(hm:X.mg x=none)(hv:QK x=some u)(h:Q u s)(hn:x≠"__name__":=by decide)(hd:(x==("__debug__":Str))=false:=by decide):W6 5#0 X.A (eval (.Name x pos) X.env) Q E s:=by obtain⟨mb,h1,h2⟩:=I.mod.blt;exact Calls.Name_function_global I.ok.kind hg (Calls.loadGlobal_builtin %[I.ok.glob|I.mod.glob.keeps I.bk] hm %[I.ok.blt|h1.keeps I.bk] ((h2 x hn).trans hv) h) hd
theorem MT(hg:Gl X x)(hm:X.mg x=some u)(r:RelV v u)(hd:(x==("__debug__":Str))=false:=by decide):PE X (.Name x pos) (tC v):=λj j j H j I h=>mK I hg hm ⟨v,H,I,r,h⟩ hd
theorem Bp(hg:Gl X x)(hm:X.mg x=none)(hv:QK x=some u)(r:RelV v u)(hn:x≠"__name__":=by decide)(hd:(x==("__debug__":Str))=false:=by decide):PE X (.Name x pos) (tC v):=λj j j H j I h=>mL I hg hm hv ⟨v,H,I,r,h⟩ hn hd
variable{a b:Expr}{tb:TE}
def tB(t:TE):TT:=λY H Q=>t Y H λx H1=>∃c,x=.bl c/\Q c H1
theorem MU(h:PE X e t)(he:∀whole,isTrue e X.env whole=(do let v<-whole;standAt e.pos;holding [v] (truthy v)):=by intro _;rfl):PT X e (tB t):=by intros Q I hw;refine isTrue_plain (aZ (h pins s Y H _ I hw) λv s1 hh=>?_) (he _);obtain⟨x,H1,I1,r1,q1⟩:=hh;obtain⟨d,rfl,q⟩:=q1;cases r1;exact Qz ⟨H1,I1,q⟩
variable{tA Bq:TT}{rest:List Expr}
def MV(t u:TT):TT:=λY H Q=>t Y H λc H1=>if c=true then Q true H1 else u Y H1 Q
def MW(t:TT):TT:=λY H Q=>t Y H λc H1=>Q (!c) H1
theorem MX(ha:PT X a tA):PW X (.BoolOp .Or [a] pos) tA:=by intro wh pins s Y H Q I h;refine isTrue_or (aZ (ha pins s Y H Q I h) λc s1 e=>?_);cases c with|false=>exact isTrue_or_nil e|true=>exact e
theorem pw_or(ha:PT X a tA)(hb:PW X (.BoolOp .Or (b::rest) pos) Bq):PW X (.BoolOp .Or (a::b::rest) pos) (MV tA Bq):=by intro wh pins s Y H Q I h;refine isTrue_or (aZ (ha pins s Y H _ I h) λc s1⟨H1,I1,q1⟩=>?_);cases c with|true=>exact⟨H1,I1,q1⟩|false=>exact hb wh pins s1 Y H1 Q I1 q1
theorem MY(ha:PT X a tA):PT X (.UnaryOp .Not a pos) (MW tA):=by intros Q I h;exact isTrue_not (ha pins s Y H (λc H1=>Q (!c) H1) I h)
def MZ(ta tb:TE):TE:=λY H Q=>ta Y H λx H1=>∃c,x=.bl c/\if c=true then tb Y H1 Q else Q (.bl false) H1
theorem M0{op}(h:PE X a t):PE X (.BoolOp op [a] pos) t:=λpins s Y H Q I hw=>BoolOp_one (h pins s Y H Q I hw)
theorem M1(ha:PE X a ta)(hb:PE X (.BoolOp .And (b::rest) pos) tb):PE X (.BoolOp .And (a::b::rest) pos) (MZ ta tb):=by intros Q I h;refine BoolOp_and (aZ (ha pins s Y H _ I h) λv s1 hh=>?_);obtain⟨x,H1,I1,r1,q1⟩:=hh;obtain⟨c,rfl,q1⟩:=q1;cases r1;refine Qz ?_;cases c with|true=>exact hb pins s1 Y H1 Q I1 q1|false=>exact⟨.bl false,H1,I1,rfl,q1⟩
end
def cp(K:W3)(H:Hp)(a:Addr)(xs:List V):Prop:=Rd H a (.lst xs)\/∃(o:Obj)(its:Array Value)(n:Nat),K.lookup a=some o/\o.cls=.type "list"/\o.dict=none/\o.data=.seq its n/\its.size<=W9/\Vals xs its.toList
def cK(K:W3)(H:Hp)(a:Addr)(xs:List V):Prop:=Rd H a (.tup xs)\/∃(o:Obj)(its:Array Value)(n:Nat),K.lookup a=some o/\o.cls=.type "tuple"/\o.data=.seq its n/\its.size<=W9/\Vals xs its.toList
def M3:Value->Option V|.none=>some .aD|.bool b=>some (.bl b)|.int i _=>some (.int i)|.str x _=>some (.str x)|.bytes b _=>some (.byt b)|.float b _=>some (.flt b)|.ref a=>some (.ref a)|.type n=>some (.ty n)|_=>none
theorem RelV.abs(r:RelV x u):M3 u=some x:=by cases x with|aD=>cases r;rfl|bl _=>cases r;rfl|int _=>obtain⟨t,rfl⟩:=r;rfl|str _=>obtain⟨t,rfl⟩:=r;rfl|byt _=>obtain⟨t,rfl⟩:=r;rfl|flt _=>obtain⟨t,rfl⟩:=r;rfl|ref _=>cases r;rfl|ty _=>cases r;rfl
theorem RelV.inj(r:RelV x u)(q:RelV y u):x=y:=WL (r.abs.symm.trans q.abs)
theorem Vals.inj{xs ys:List V}{us:List Value}(h:Vals xs us)(k:Vals ys us):xs=ys:=by induction h generalizing ys with|nil=>cases k;rfl|cons r t ih=>cases k with|cons r' t'=>rw[r.inj r',ih t']
section
variable{a:Addr}{xs ys:List V}
theorem cp.of(h:H a=some (.lst xs)):cp K H a xs:=.inl (.inl h)
theorem cK.of(h:H a=some (.tup xs)):cK K H a xs:=.inl (.inl h)
theorem Inv.list(I:6#0)(h:cp X.K H a xs):∃its:List Value,Vals xs its/\PlainL s.heap a its.toArray/\xs.length<=W9:=by
 rcases h with h|⟨o,its,n,hk,hc,hd,hs,hz,r⟩;.obtain⟨z,its,n,r,e⟩:=h.ok I.aB;exact⟨its,r,⟨_,n,e,rfl,rfl,rfl⟩,z⟩
 .refine⟨its.toList,r,⟨o,n,I.dI a o hk,hc,hd,~~~hs⟩,?_⟩;have e:=r.length;simp only[Q8]at e;lia
theorem Inv.tuple(I:6#0)(h:cK X.K H a xs):∃its:List Value,Vals xs its/\IsTup s.heap a its.toArray/\xs.length<=W9:=by
 rcases h with h|⟨o,its,n,hk,hc,hs,hz,r⟩;.obtain⟨z,its,r,p⟩:=h.ok I.aB;exact⟨its,r,p.tup,z⟩
 .refine⟨its.toList,r,⟨o,I.dI a o hk,hc,n,~~~hs⟩,?_⟩;have e:=r.length;simp only[Q8]at e;lia
theorem Inv.Br(I:6#0)(h:cp X.K H a xs)(h':cp X.K H a ys):xs=ys:=by
 obtain⟨its,r,⟨o,n,e,_,_,d⟩,_⟩:=I.list h;obtain⟨its',r',⟨o',n',e',_,_,d'⟩,_⟩:=I.list h';rw[e]at e';cases e';rw[d]at d';injection d' with d1 _;have:its=its':=by simpa using congrArg Array.toList d1
 subst this;exact r.inj r'
theorem Inv.Bs(I:6#0)(h:cK X.K H a xs)(h':cK X.K H a ys):xs=ys:=by
 obtain⟨its,r,⟨o,e,_,n,d⟩,_⟩:=I.tuple h;obtain⟨its',r',⟨o',e',_,n',d'⟩,_⟩:=I.tuple h';rw[e]at e';cases e';rw[d]at d';injection d' with d1 _;have:its=its':=by simpa using congrArg Array.toList d1
 subst this;exact r.inj r'
end
abbrev Cx.h_(X:Cx)(E:Value->W1->Prop):Cx:={X with xe:=E}
abbrev Cx.jV(X:Cx):Cx:=X.h_ λj j=>False
theorem Cx.Ok.h_(ok:X.Ok)(E:Value->W1->Prop):(X.h_ E).Ok:=⟨ok.mod,ok.kind,ok.glob,ok.blt,ok.above,ok.inj,ok.has,ok.lg,ok.hd,ok.frames,ok.mG,ok.mH,ok.bs,ok.jk,ok.lh,ok.lj,ok.gr,ok.jT⟩
theorem Cx.Ok.kq(ok:(X.h_ E).Ok):X.Ok:=⟨ok.mod,ok.kind,ok.glob,ok.blt,ok.above,ok.inj,ok.has,ok.lg,ok.hd,ok.frames,ok.mG,ok.mH,ok.bs,ok.jk,ok.lh,ok.lj,ok.gr,ok.jT⟩
theorem Inv.h_(I:6#0)(E:Value->W1->Prop):Inv (X.h_ E) pins Y H s:=⟨I.ok.h_ E,I.os,I.bare,I.base,I.loc,I.cell,I.free,I.e9,I.pin,I.aB,I.len⟩
theorem Inv.kq(I:Inv (X.h_ E) pins Y H s):6#0:=⟨I.ok.kq,I.os,I.bare,I.base,I.loc,I.cell,I.free,I.e9,I.pin,I.aB,I.len⟩
theorem SP.kq{f}(h:SP (X.h_ E) pins D f s'):SP X pins D f s':=by cases f with|next=>obtain⟨SC,H',I,q⟩:=h;exact⟨SC,H',I.kq,q⟩|brk=>obtain⟨SC,H',I,q⟩:=h;exact⟨SC,H',I.kq,q⟩|cont=>obtain⟨SC,H',I,q⟩:=h;exact⟨SC,H',I.kq,q⟩|ret u=>obtain⟨v,SC,H',I,r,q⟩:=h;exact⟨v,SC,H',I.kq,r,q⟩
theorem dJ.jV{st:List Stmt}{t:TS}(h:dJ X.jV st t):dJ X st t:=λpins s Y H D I hw=>Qk (h pins s Y H D (I.h_ _) hw) (λj j q=>q.kq) λj j z=>False.elim z
section
variable{st:Stmt}{rest:List Stmt}{t u:TS}
def M4:TS:=λD Y H=>D.nx Y H
def M5(t u:TS):TS:=λD Y H=>t {D with nx:=u D} Y H
theorem M6:dJ X [] M4:=λj j Y H j I h=>U3 ⟨Y,H,I,h⟩
theorem M7(h1:PS X st t)(h2:dJ X rest u):dJ X (st::rest) (M5 t u):=by intros D I h;refine wpAny_execs_cons (aZ (h1 pins s Y H {D with nx:=u D} I h) λf s1 q=>?_);cases f with|next=>obtain⟨SC,H',I',q⟩:=q;exact h2 pins s1 SC H' D I' q|ret v=>exact q|brk=>exact q|cont=>exact q
theorem M8(h1:PS X st t):dJ X [st] t:=by intros D I h;refine wpAny_execs_cons (aZ (h1 pins s Y H D I h) λf s1 q=>?_);cases f with|next=>exact U3 q|ret v=>exact q|brk=>exact q|cont=>exact q
theorem Inv.quiet(I:6#0):interactive X.env=false:=#v[interactive,I.ok.kind]
def wq(te:TE):TS:=λD Y H=>te Y H λj H1=>D.nx Y H1
theorem Bt(he:PE X e te)(hs:Ua e none pos.line X.env=pure false:=by rfl):PS X (.Expr e pos) (wq te):=by intros D I h;exact wpAny_Expr_any (aZ (he pins s Y H _ I h) λv s1⟨x,H1,I1,r1,q1⟩=>⟨Y,H1,I1,q1⟩) I.quiet hs
def M9(te:TE):TS:=λD Y H=>te Y H D.rt
theorem M_(he:PE X e te):PS X (.Return (some e) pos) (M9 te):=by intros D I h;exact wpAny_Return_some (aZ (he pins s Y H _ I h) λv s1⟨x,H1,I1,r1,q1⟩=>⟨x,Y,H1,I1,r1,q1⟩)
def Na(c:TT)(t u:TS):TS:=λD Y H=>c Y H λb H1=>if b=true then t D Y H1 else u D Y H1
theorem Nb(hc:PT X c tc)(ha:dJ X a t)(hb:dJ X b u):PS X (.If c a b pos) (Na tc t u):=by intros D I h;refine wpAny_If (aZ (hc pins s Y H _ I h) λd s1⟨H1,I1,q1⟩=>?_);cases d with|true=>exact ha pins s1 Y H1 D I1 q1|false=>exact hb pins s1 Y H1 D I1 q1
def Nc:TS:=λj j j=>False
theorem Nf:PS X st Nc:=λj j j j j j h=>h.elim
end
abbrev TG:=V->St->Hp->(St->Hp->Prop)->Prop
abbrev lu:=List V->St->Hp->(St->Hp->Prop)->Prop
def PG(X:Cx)(target:Expr)(t:TG):Prop:=∀(pins:List (Addr×Obj))(s:W1)(Y:St)(H:Hp)(v:V)(u:Value)(Q:St->Hp->Prop),6#0->RelV v u->t v Y H Q->W6 5#0 X.A (assign target X.env u) (λj s'=>∃SC H',Inv X pins SC H' s'/\Q SC H') X.xe s
def ic(X:Cx)(ts:List Expr)(t:lu):Prop:=∀(pins:List (Addr×Obj))(s:W1)(Y:St)(H:Hp)(vs:List V)(us:List Value)(Q:St->Hp->Prop),6#0->Vals vs us->t vs Y H Q->W6 5#0 X.A (assignInOrder ((QC ts X.env).map (·.2)) us) (λj s'=>∃SC H',Inv X pins SC H' s'/\Q SC H') X.xe s
abbrev Bu:=V->V->V->Hp->(Hp->Prop)->Prop
def Bv(X:Cx)(t:Bu):Prop:=∀(pins:List (Addr×Obj))(s:W1)(Y:St)(H:Hp)(o i v:V)(ov iv u:Value)(Q:Hp->Prop),6#0->RelV o ov->RelV i iv->RelV v u->t o i v H Q->W6 5#0 X.A (setItem ov iv u) (λj s'=>∃H',Inv X pins Y H' s'/\Q H') X.xe s
abbrev Bw:=V->V->Hp->VK->Prop
def Ng(X:Cx)(op:Operator)(t:Bw):Prop:=∀(pins:List (Addr×Obj))(s:W1)(Y:St)(H:Hp)(x y:V)(v u:Value)(Q:VK),6#0->RelV x v->RelV y u->t x y H Q->W6 5#0 X.A (inplaceOp op v u) (EP X pins Y Q) X.xe s
def sX(i:Nat):TG:=λv Y H Q=>Q (Y.set i (some v)) H
theorem Bx(hN:X.N.Nodup)(hi:X.N[i]?=some x)(hx:Loc X.env.scope x)(hf:X.fn x=true\/X.env.scope.names.lookup x=some .local:=by first|exact .inl rfl|exact .inr rfl|assumption):PG X (.Name x pos) (sX i):=by intros v u Q I r h;exact wpAny_assign_Name (wm I hN hi hx r (λs' I'=>⟨_,H,I',h⟩) hf)
def Nh:lu:=λvs Y H Q=>vs=[]/\Q Y H
def Ni(t:TG)(u:lu):lu:=λvs Y H Q=>∃v r,vs=v::r/\t v Y H λSC H'=>u r SC H' Q
theorem By:ic X [] Nh:=by intros vs us Q I r h;obtain⟨e,h⟩:=h;subst e;cases r;exact assignInOrder_nil ⟨Y,H,I,h⟩
theorem Bz{u}(h1:PG X e t)(h2:ic X es u)(hs:(QC (e::es) X.env).map (·.2)=assign e X.env::(QC es X.env).map (·.2):=by rfl):ic X (e::es) (Ni t u):=by intros vs us Q I r h;obtain⟨v,vr,e1,h⟩:=h;subst e1;cases r with|cons r rr=>rw[hs];refine assignInOrder_cons (aZ (h1 pins s Y H _ _ _ I r h) λj s1 hh=>?_);obtain⟨KM,H1,I1,q1⟩:=hh;exact h2 pins s1 KM H1 _ _ Q I1 rr q1
def Nj(K:W3)(n:Nat)(t:lu):TG:=λv Y H Q=>∃a xs,v=.ref a/\cK K H a xs/\xs.length=n/\t xs Y H Q
theorem BA(hc:X.calm=true)(h:ic X es t)(hn:(QC es X.env).length=n:=by rfl)(dw:(QC es X.env).findIdx? (·.1)=none:=by rfl):PG X (.Tuple es k pos) (Nj X.K n t):=by intros v u Q I r hw;obtain⟨a,xs,e1,hq,hl,hw⟩:=hw;subst e1;cases r;obtain⟨its,rv,ht,hz⟩:=I.tuple hq;refine assign_Tuple_tuple (I.ok.hd hc) ht (by simp[hn,<-hl,rv.length]) dw λh' hx=>?_;have I1:Inv X pins Y H 9#h':=I.kept (t':=s.toks) λb o e=>hx b o (WQ (Wj e)) e;exact h pins _ Y H xs _ Q I1 (~~~rv) hw
def Nk(to ti:TE)(t:Bu):TG:=λv Y H Q=>to Y H λo H1=>ti Y H1 λi H2=>t o i v H2 λH3=>Q Y H3
theorem Nl{i}(ho:PE X o to)(hi:PE X i ti)(hs:Bv X t)(ha:∀v,assign (.Subscript o i pos) X.env v=(do
 let ov<-holding [v] (eval o X.env)let iv<-holding [v,ov] (eval i X.env)standAt pos
 holding [v,ov,iv] (setItem ov iv v)release [v,ov,iv] []):=by intro _;rfl):PG X (.Subscript o i pos) (Nk to ti t):=by intros v u Q I r h;rw[ha];refine W0 (WD (aZ (ho pins s Y H _ I h) λov s1⟨x,H1,I1,r1,q1⟩=>?_));refine W0 (WD (aZ (hi pins s1 Y H1 _ I1 q1) λiv s2⟨y,H2,I2,r2,q2⟩=>?_));refine W0 (wpAny_standAt (W0 (WD (aZ (hs pins s2 Y H2 x y v ov iv u _ I2 r1 r2 r q2) λ_ s3⟨H3,I3,q3⟩=>?_))));exact wpAny_release ⟨Y,H3,I3,q3⟩
def sY(te:TE)(g:TG):TS:=λD Y H=>te Y H λx H1=>g x Y H1 D.nx
theorem BC(he:PE X e te)(hg:PG X tg g)(hs:swapsWithSole [tg] e pos.line X.env=pure false:=by rfl)(hw:swappedStores [tg] e X.env=pure none:=by rfl)(h1:(QC [tg] X.env).map (·.2)=[assign tg X.env]:=by rfl):PS X (.Assign [tg] e pos) (sY te g):=by intros D I h;refine wpAny_Assign_stores (aZ (he pins s Y H _ I h) λv s1 hh=>?_) hs hw;obtain⟨x,H1,I1,r1,q1⟩:=hh;rw[h1];exact aZ (hg pins s1 Y H1 x v _ I1 r1 q1) λj s2 q=>q
theorem Nm(hN:X.N.Nodup)(hi:X.N[i]?=some x)(hx:Loc X.env.scope x)(he:PE X e te)(hs:Ua e (some (.Name x pos')) pos.line X.env=pure false:=by rfl)(hf:X.fn x=true\/X.env.scope.names.lookup x=some .local:=by first|exact .inl rfl|exact .inr rfl|assumption):PS X (.Assign [.Name x pos'] e pos) (sY te (sX i)):=by intros D I h;refine wpAny_Assign_Name (aZ (he pins s Y H _ I h) λv s1 hh=>?_) hs;obtain⟨y,H1,I1,r1,q1⟩:=hh;exact wm I1 hN hi hx r1 (λs2 I2=>⟨_,H1,I2,q1⟩) hf
def Nn(i:Nat)(te:TE)(ti:Bw):TS:=λD Y H=>∃x,Y[i]?=some (some x)/\te Y H λy H1=>ti x y H1 λz H2=>D.nx (Y.set i (some z)) H2
theorem Nq{op}(hN:X.N.Nodup)(hi:X.N[i]?=some x)(hx:Loc X.env.scope x)(he:PE X e te)(ho:Ng X op ti)(hf:X.fn x=true\/X.env.scope.names.lookup x=some .local:=by first|exact .inl rfl|exact .inr rfl|assumption):PS X (.AugAssign (.Name x pos') op e pos) (Nn i te ti):=by
 intros D I h;obtain⟨v,e1,h⟩:=h;obtain⟨m,hn,hl⟩:=I.loc;have Nr:pH X.env.scope x:=by rcases hx with k|k;exact .inl k;exact .inr (.inl k)
 obtain⟨u,r,l⟩:=hl i x v hi e1 Nr;refine wpAny_AugAssign_Name ?_;have go:W6 5#0 X.A (eval e X.env) (λw s₂=>W6 5#0 X.A (inplaceOp op u w) (λr s₃=>W6 5#0 X.A (storeName X.env x r) (λj=>SP X pins D .next) X.xe s₃) X.xe s₂) X.xe s:=by refine aZ (he pins s Y H _ I h) λw s1⟨y,H1,I1,r1,q1⟩=>?_;refine aZ (ho pins s1 Y H1 v y u w _ I1 r r1 q1) λz s2 hh=>?_;obtain⟨zv,H2,I2,r2,q2⟩:=hh;exact wm I2 hN hi hx r2 (λs3 I3=>⟨_,H2,I3,q2⟩) hf
 rcases l with⟨hk,hm⟩|⟨hk,c,hc,hcell⟩;.exact wpAny_loadName_local I.ok.kind hk hn hm go
 .rcases hk with hk|hk;.exact wpAny_loadName_cell I.ok.kind hk hc hcell go
  .rcases hx with k|k;.have:X.env.scope.names.lookup x=some .free:=hk;rw[k]at this;cases this
   .have:X.env.scope.names.lookup x=some .free:=hk;rw[k]at this;cases this
def BF(c:TT)(tb:TS):TS:=λD Y H=>∃W:Nat->St->Hp->Prop,(∃m,W m Y H)/\∀m Y H,W m Y H->c Y H λb H1=>if b=true then∃N:St->Hp->Prop,(∀SC H',N SC H'->∃m',m'<m/\W m' SC H')/\tb {D with nx:=N,ct:=N,bk:=D.nx} Y H1 else D.nx Y H1
theorem Nt(hp:PassesOwn 5#0 X.A X.env X.xe)(hc:PT X c tc)(hb:dJ X body tb):PS X (.While c body [] pos) (BF tc tb):=by intros D I h;obtain⟨W,⟨m0,w0⟩,turn⟩:=h;refine wpAny_While (codeAny_whileLoop (λn s'=>∃SC H',Inv X pins SC H' s'/\W n SC H') ?_ m0 ⟨Y,H,I,w0⟩);rintro n s1⟨KM,H1,I1,w1⟩;refine Ji hp (aZ (hc pins s1 KM H1 _ I1 (turn n KM H1 w1)) λb s2⟨H2,I2,q2⟩=>?_);cases b with
 |true=>obtain⟨N,hN,q2⟩:=q2;rw[if_pos rfl];refine Ji hp (aZ (hb pins s2 KM H2 _ I2 q2) λf s3 q3=>?_);cases f with|next=>obtain⟨KB,H3,I3,n3⟩:=q3;obtain⟨m',hm,w3⟩:=hN KB H3 n3;exact⟨m',hm,KB,H3,I3,w3⟩|cont=>obtain⟨KB,H3,I3,n3⟩:=q3;obtain⟨m',hm,w3⟩:=hN KB H3 n3;exact⟨m',hm,KB,H3,I3,w3⟩|brk=>exact q3|ret v=>exact q3
 |false=>rw[if_neg WR];exact U3 ⟨KM,H2,I2,q2⟩
structure It where
 go:Nat->Hp->Prop
 pM:Nat->Hp->V->Hp->Prop
 stop:Nat->Hp->Prop
def eQ(X:Cx)(pins:List (Addr×Obj))(H:Hp)(b:Addr):Prop:=H b=none/\b≠X.env.locals/\b∉X.fs/\(b∈X.ex\/X.s₀.heap.objs.size<=b)/\(∀x c,X.env.cells.lookup x=some c->c≠b)/\∀p∈X.pn++pins,p.1≠b
theorem Inv.jo(I:6#0)(hb:s.heap.objs.size<=b)(hn:H' b=none):eQ X pins H' b:=by
 refine⟨hn,QL (WG I.lt hb),I.MO hb,.inr (Wy I.sz hb),λx c e z=>?_,λp hp z=>?_⟩;.obtain⟨v,q⟩:=I.cell x c e;exact absurd (WG q.lt %[z|hb]) (QE _)
 .exact absurd (WG (Wj (I.pin p hp).1) %[z|hb]) (QE _)
structure Turn(P:Wm)(w:Wu)(K:W3)(tg:Expr)(J:It)(fp:List Addr)(it:Addr)(tn:Nat->Heap->Prop):Prop where
 mem:it∈fp
 obj:∀i h,tn i h->∀b∈fp,∃o,h.get? b=some o/\∀v,o.data≠.cell v
 keep:∀i h h',tn i h->(∀b∈fp,∀o,h.get? b=some o->h'.get? b=some o)->tn i h'
 item:∀(X:Cx),X.prog=P->X.w=w->X.K=K->X.calm=true->∀(i:Nat)(pins:List (Addr×Obj))(s:W1)(Y:St)(H:Hp)(E:Value->W1->Prop),6#0->(∀b∈fp,eQ X pins H b)->tn i s.heap->J.go i H->W6 (model P w) X.A (QR (.ref it)) (λr s1=>∃u,r=some u/\W6 (model P w) X.A (JH tg (.ref it) u) (λj s2=>∃x H',Inv X pins Y H' s2/\RelV x u/\J.pM i H x H'/\tn (i+1) s2.heap/\∀b∈fp,H' b=none) E s1) E s
 done:∀(X:Cx),X.prog=P->X.w=w->X.K=K->X.calm=true->∀(i:Nat)(pins:List (Addr×Obj))(s:W1)(Y:St)(H:Hp)(E:Value->W1->Prop),6#0->(∀b∈fp,eQ X pins H b)->tn i s.heap->J.stop i H->W6 (model P w) X.A (QR (.ref it)) (λr s1=>r=none/\Inv X pins Y H s1) E s
 self:∀(A:Wp)(i:Nat)(s:W1)(Q:Value->W1->Prop)(E:Value->W1->Prop),tn i s.heap->Q (.ref it) s->W6 (model P w) A (pyIter (.ref it)) Q E s
abbrev TI:=St->Hp->(It->Hp->Prop)->Prop
def BG(X:Cx)(pins:List (Addr×Obj))(Y:St)(tg:Expr)(R:It->Hp->Prop)(sZ:Value)(s2:W1):Prop:=∃(it:Addr)(fp:List Addr)(tn:Nat->Heap->Prop)(J:It)(H':Hp),sZ=.ref it/\Inv X pins Y H' s2/\Turn X.prog X.w X.K tg J fp it tn/\tn 0 s2.heap/\(∀b∈fp,eQ X pins H' b)/\R J H'
def PI(X:Cx)(tg iter:Expr)(wi:TI):Prop:=∀(pins:List (Addr×Obj))(s:W1)(Y:St)(H:Hp)(R:It->Hp->Prop),6#0->wi Y H R->W6 5#0 X.A (eval iter X.env) (λv s1=>W6 5#0 X.A (pyIter v) (BG X pins Y tg R) X.xe s1) X.xe s
theorem s_{n vs}(ho:s.heap.get? it=some o)(hc:o.cls=.type n)(hd:o.data=.fields vs)(hn:["enumerate","zip","dict_itemiterator","dict_reverseitemiterator","odict_iterator","itertools.zip_longest","itertools.pairwise"].contains n=false)(hQ:Q () s):W6 M A (JH tg (.ref it) u) Q E s:=by unfold JH;cases tg<;>first|exact W2 hQ|(cases u<;>first|exact W2 hQ|(refine W0 (wpAny_load ho ?_);rw[hc,hd];show W6 M A (if(["enumerate","zip","dict_itemiterator","dict_reverseitemiterator","odict_iterator","itertools.zip_longest","itertools.pairwise"].contains n&&vs[0]?==some (Q4 _))=true then _ else _) Q E s;rw[if_neg (by intro h;rw[hn,Bool.false_and]at h;cases h)];exact W2 hQ))
def BH(K:W3)(a:Addr):It:=⟨λi H=>∃xs x,cp K H a xs/\xs[i]?=some x,λi H x H'=>H'=H/\∀xs,cp K H a xs->xs[i]?=some x,λi H=>∃xs,cp K H a xs/\xs.length<=i⟩
def wu(K:W3)(a:Addr):It:=⟨λi H=>∃xs x,cK K H a xs/\xs[i]?=some x,λi H x H'=>H'=H/\∀xs,cK K H a xs->xs[i]?=some x,λi H=>∃xs,cK K H a xs/\xs.length<=i⟩
def tf(lo:Int)(n:Nat):It:=⟨λi j=>i<n,λi H x H'=>H'=H/\x=.int (lo+i),λi j=>n<=i⟩
theorem Nu(a it:Addr):Turn P w K tg (BH K a) [it] it λi h=>h.IsListIter it a i where
 mem:=by simp
 obj:=λi h st b hb=>by have e:b=it:= ~~~hb;subst e;obtain⟨o,e,c,d⟩:=st;exact⟨o,e,λv z=>by rw[d]at z;cases z⟩
 keep:=λi h h' st k=>st.at λo e=>k it V' o e
 item:=by intro X hP hw hK hc i pins s Y H E I hf st hg;subst hP hw hK;obtain⟨xs,x,hq,hx⟩:=hg;obtain⟨its,rv,p,hz⟩:=I.list hq;obtain⟨u,hu,ru⟩:=rv.get hx;obtain⟨f0,f1,f2,f3,f4,f5⟩:=hf it V';refine wpAny_pyNext_list_item st p.isList (x:=u) (~~~hu) λh' ax sb=>?_;have I1:Inv X pins Y H 9#h':=I.turned (t':=s.toks) (λb o hb e=>(sb.2 b hb).trans e) f0 f1 f3 f4 f5;obtain⟨o,e,c,d⟩:=id ax;exact⟨u,rfl,s_ (s:=9#h') e c d Z' ⟨x,H,I1,ru,⟨rfl,λys hy=>%[I.Br hy hq|hx]⟩,ax,λb hb=>(hf b hb).1⟩⟩
 done:=by intro X hP hw hK hc i pins s Y H E I hf st hg;subst hP hw hK;obtain⟨xs,hq,hx⟩:=hg;obtain⟨its,rv,p,hz⟩:=I.list hq;obtain⟨f0,f1,f2,f3,f4,f5⟩:=hf it V';have hl:=rv.length;exact wpAny_pyNext_list_end (I.ok.hd hc) st p.isList Re λh' eb=>⟨rfl,I.turned (t':=s.toks) (λb o hb e=>eb b o hb e) f0 f1 f3 f4 f5⟩
 self:=λj j j j j st h=>wpAny_pyIter_listiter st h
theorem Nv(a it:Addr):Turn P w K tg (wu K a) [it] it λi h=>h.IsTupleIter it a i where
 mem:=by simp
 obj:=λi h st b hb=>by have e:b=it:= ~~~hb;subst e;obtain⟨o,e,c,d⟩:=st;exact⟨o,e,λv z=>by rw[d]at z;cases z⟩
 keep:=λi h h' st k=>st.at λo e=>k it V' o e
 item:=by intro X hP hw hK hc i pins s Y H E I hf st hg;subst hP hw hK;obtain⟨xs,x,hq,hx⟩:=hg;obtain⟨its,rv,p,hz⟩:=I.tuple hq;obtain⟨u,hu,ru⟩:=rv.get hx;obtain⟨f0,f1,f2,f3,f4,f5⟩:=hf it V';refine wpAny_pyNext_tuple_item st (show s.heap.IsTuple a its.toArray from p) (x:=u) (~~~hu) λh' ax sb=>?_;have I1:Inv X pins Y H 9#h':=I.turned (t':=s.toks) (λb o hb e=>(sb.2 b hb).trans e) f0 f1 f3 f4 f5;obtain⟨o,e,c,d⟩:=id ax;exact⟨u,rfl,s_ (s:=9#h') e c d Z' ⟨x,H,I1,ru,⟨rfl,λys hy=>%[I.Bs hy hq|hx]⟩,ax,λb hb=>(hf b hb).1⟩⟩
 done:=by intro X hP hw hK hc i pins s Y H E I hf st hg;subst hP hw hK;obtain⟨xs,hq,hx⟩:=hg;obtain⟨its,rv,p,hz⟩:=I.tuple hq;obtain⟨f0,f1,f2,f3,f4,f5⟩:=hf it V';have hl:=rv.length;exact wpAny_pyNext_tuple_end (I.ok.hd hc) st (show s.heap.IsTuple a its.toArray from p) Re λh' eb=>⟨rfl,I.turned (t':=s.toks) (λb o hb e=>eb b o hb e) f0 f1 f3 f4 f5⟩
 self:=λj j j j j st h=>wpAny_pyIter_tupleiter st h
theorem Nw(it:Addr)(lo:Int)(n:Nat):Turn P w K tg (tf lo n) [it] it λi h=>IsRangeIter h it (lo+(i:Nat)*1) ((n:Int)-(i:Nat)) 1where
 mem:=by simp
 obj:=λi h st b hb=>by have e:b=it:= ~~~hb;subst e;exact⟨_,st,λv z=>by have z':Data.fields _=Data.cell v:=z;cases z'⟩
 keep:=λi h h' st k=>k it V' _ st
 item:=by intro X hP hw hK hc i pins s Y H E I hf st hg;subst hP hw hK;obtain⟨f0,f1,f2,f3,f4,f5⟩:=hf it V';have W:=Walks.range (prog:=X.prog) (w:=X.w) (I.ok.hd hc) it lo 1 n;refine W.item i s _ _ hg st λv h' tk hv ax kk=>?_;obtain⟨t,rfl⟩:=hv;have I1:Inv X pins Y H {s with heap:=h',toks:=tk}:=I.turned (λb o hb e=>kk b o (~~~hb) e) f0 f1 f3 f4 f5;refine⟨_,rfl,s_ (s:={s with heap:=h',toks:=tk}) (n:="range_iterator") ax rfl rfl Z' ⟨.int (lo+i),H,I1,⟨t,?_⟩,⟨rfl,rfl⟩,ax,λb hb=>(hf b hb).1⟩⟩;rw[Int.mul_one]
 done:=by intro X hP hw hK hc i pins s Y H E I hf st hg;subst hP hw hK;obtain⟨f0,f1,f2,f3,f4,f5⟩:=hf it V';exact wpAny_pyNext_range_end (I.ok.hd hc) st (by have:n<=i:=hg;lia) λh' eb=>⟨rfl,I.turned (t':=s.toks) (λb o hb e=>eb b o hb e) f0 f1 f3 f4 f5⟩
 self:=λj j j j j st h=>wpAny_pyIter_rangeiter st h
theorem Nx{R:It->Hp->Prop}{lo hi:Int}{t u v:Tok}{tk:Nat}(I:6#0)(h1:-2^62<=lo)(h2:lo<2^62)(h3:-2^62<=hi)(h4:hi<2^62)(q:R (tf lo (hi-lo).toNat) H):W6 5#0 X.A (pyIter (.ref s.heap.objs.size)) (BG X pins Y tg R) E {s with heap:=s.heap.push {cls:=.type "range",data:=.fields #[.int lo t,.int hi u,.int 1 v]},toks:=tk}:=by
 refine wpAny_pyIter_range (IsRange.new ..) (small_one h1 h2 h3 h4) ?_;have I1:Inv X pins Y H {s with heap:=s.heap.push {cls:=.type "range",data:=.fields #[.int lo t,.int hi u,.int 1 v]},toks:=tk}:=I.kept λb o e=>W5 _ e;refine⟨(s.heap.push {cls:=.type "range",data:=.fields #[.int lo t,.int hi u,.int 1 v]}).objs.size,[(s.heap.push {cls:=.type "range",data:=.fields #[.int lo t,.int hi u,.int 1 v]}).objs.size],_,_,H,rfl,I1.kept (t':=tk) λb o e=>W5 _ e,Nw _ lo (hi-lo).toNat,?_,λb hb=>?_,q⟩
 .have e1:lo+((0:Nat):Int)*1=lo:=by simp
  have e2:(((hi-lo).toNat:Nat):Int)-((0:Nat):Int)=Builtin.Range.rangeSize lo hi 1:=by rw[rangeSize_one];split<;>lia
  show IsRangeIter _ _ (lo+((0:Nat):Int)*1) ((((hi-lo).toNat:Nat):Int)-((0:Nat):Int)) 1;rw[e1,e2];exact We _ rfl
 .have e:b=(s.heap.push {cls:=.type "range",data:=.fields #[.int lo t,.int hi u,.int 1 v]}).objs.size:= ~~~hb;subst e;exact I1.jo (W7 _) (I1.aB.fresh (W7 _))
def Ny(ta:TA):TI:=λY H R=>ta Y H λvs H1=>∃j:Int,vs=[.int j]/\-2^62<=j/\j<2^62/\R (tf 0 j.toNat) H1
theorem Nz{a:Expr}{ta:TA}{p pos:Pos}(hg:Gl X "range")(hm:X.mg "range"=none)(ha:PA X [a] ta)(hs:Wa [a] X.env=[(false,eval a X.env)]:=by rfl):PI X tg (.Call (.Name "range" p) [a] [] pos) (Ny ta):=by intros R I h;refine Call_ (mL I hg hm boot_range (QT (aZ (ha pos pins s Y H _ I h) λus s1 hh=>?_) hs rfl));obtain⟨vs,H1,I1,r1,q1⟩:=hh;obtain⟨j,e,q1,q2,q⟩:=q1;subst e;cases r1 with|cons r rr=>cases rr;obtain⟨t,rfl⟩:=r;exact call_range_1 (Nx I1 Y' Y' q1 q2 (~~~q))
def NA(wi:TI)(g:TG)(tb:TS):TS:=λD Y H=>wi Y H λJ H1=>∃W:Nat->Nat->St->Hp->Prop,(∃m,W 0 m Y H1)/\∀i m Y H,W i m Y H->J.stop i H/\D.nx Y H\/J.go i H/\∃N:St->Hp->Prop,(∀SC H',N SC H'->∃m',m'<m/\W (i+1) m' SC H')/\∀x H',J.pM i H x H'->g x Y H' λOn H2=>tb {D with nx:=N,ct:=N,bk:=D.nx} On H2
def pN(fp:List Addr)(h:Heap):List (Addr×Obj):=fp.filterMap λb=>(h.get? b).map λo=>(b,o)
theorem tj(hb:b∈fp)(e:h.get? b=some o):(b,o)∈pN fp h:=List.mem_filterMap.mpr ⟨b,hb,by rw[e];rfl⟩
theorem NB(hp:p∈pN fp h):p.1∈fp/\h.get? p.1=some p.2:=by obtain⟨b,hb,e⟩:=List.mem_filterMap.mp hp;cases q:h.get? b with|none=>rw[q]at e;cases e|some o=>rw[q]at e;have e':(b,o)=p:=WL e;subst e';exact⟨hb,q⟩
theorem Inv.pinned(I:6#0)(hf:∀b∈fp,eQ X pins H b)(ho:∀b∈fp,∃o,s.heap.get? b=some o/\∀v,o.data≠.cell v):Inv X (pins++pN fp s.heap) Y H s:=I.Bk λp hp=>(WK.mp hp).elim (λz=>I.pin p (Qf _ z)) λz=>by obtain⟨hb,e⟩:=NB z;obtain⟨f0,f1,f2,_⟩:=hf p.1 hb;obtain⟨o,e',d⟩:=ho p.1 hb;rw[e]at e';cases e';exact⟨e,f0,f1,f2,d⟩
theorem Inv.tm(I:Inv X (pins++pl) Y H s):6#0:=I.Bk λp hp=>I.pin p (Qf _ (Jr _ hp))
theorem NC(hp:PassesOwn 5#0 X.A X.env X.xe)(hc:X.calm=true)(hi:PI X tg iter wi)(hg:PG X tg g)(hb:dJ X body tb)(hs:∀x,Jo iter X.env x=pure x:=by intro _;rfl):PS X (.For tg iter body [] pos) (NA wi g tb):=by
 intros D I h;refine wpAny_For (aZ (hi pins s Y H _ I h) λv s1 h1=>aZ h1 λsZ s2 h2=>?_) hs;obtain⟨it,fp,tn,J,H2,e,I2,T,bH,f2,W,⟨m0,w0⟩,turn⟩:=h2;subst e;have wx:∀{H':Hp},(∀b∈fp,H' b=none)->∀b∈fp,eQ X pins H' b:=λhn b hb=>⟨hn b hb,(f2 b hb).2⟩;refine codeAny_forLoop_any (λn s'=>∃i SC H',Inv X pins SC H' s'/\tn i s'.heap/\(∀b∈fp,H' b=none)/\W i n SC H') ?_ m0 ⟨0,Y,H2,I2,bH,λb hb=>(f2 b hb).1,w0⟩;rintro n s3⟨i,KB,H3,I3,bu,fr3,w3⟩;rcases turn i n KB H3 w3 with⟨stop,qn⟩|⟨go,N,hN,step⟩;.refine Ji hp (aZ (T.done X rfl rfl rfl hc i pins s3 KB H3 X.xe I3 (wx fr3) bu stop) λr s4⟨hr,I4⟩=>?_);subst hr;exact U3 ⟨KB,H3,I4,qn⟩
 .refine Ji hp (aZ (T.item X rfl rfl rfl hc i pins s3 KB H3 X.xe I3 (wx fr3) bu go) λr s4⟨u,hr,h4⟩=>?_);subst hr;refine Ji hp (aZ h4 λj s5 hh=>?_);obtain⟨x,H5,I5,r5,y5,gM,fr5⟩:=hh;have ND:=I5.pinned (wx fr5) (T.obj _ _ gM);refine Ji hp (aZ (hg _ s5 KB H5 x u _ ND r5 (step x H5 y5)) λj s6 hh=>?_);obtain⟨F',H6,I6,q6⟩:=hh;refine Ji hp (aZ (hb _ s6 F' H6 _ I6 q6) λf s7 q7=>?_);have again:∀{IR:St}{H7:Hp},Inv X (pins++pN fp s5.heap) IR H7 s7->N IR H7->∃m,m<n/\∃i SC H',Inv X pins SC H' s7/\tn i s7.heap/\(∀b∈fp,H' b=none)/\W i m SC H':=λ{IR H7}I7 n7=>by obtain⟨m',hm,w7⟩:=hN IR H7 n7;refine⟨m',hm,i+1,IR,H7,I7.tm,T.keep _ _ _ gM λb hb o e=>(I7.pin (b,o) (Qf _ (Qf _ (tj hb e)))).1,λb hb=>?_,w7⟩;obtain⟨o,e,d⟩:=T.obj _ _ gM b hb;exact(I7.pin (b,o) (Qf _ (Qf _ (tj hb e)))).2.1
  cases f with|next=>obtain⟨IR,H7,I7,n7⟩:=q7;exact again I7 n7|cont=>obtain⟨IR,H7,I7,n7⟩:=q7;exact again I7 n7|brk=>obtain⟨IR,H7,I7,q7⟩:=q7;exact⟨IR,H7,I7.tm,q7⟩|ret v=>obtain⟨x7,IR,H7,I7,r7,q7⟩:=q7;exact⟨x7,IR,H7,I7.tm,r7,q7⟩
abbrev R2:=V->V->Hp->VK->Prop
def bw(X:Cx)(f:Value->Value->Sem Value)(r:R2):Prop:=∀(pins:List (Addr×Obj))(s:W1)(Y:St)(H:Hp)(x y:V)(v u:Value)(Q:VK),6#0->RelV x v->RelV y u->r x y H Q->W6 5#0 X.A (f v u) (EP X pins Y Q) X.xe s
def wy(X:Cx)(f:Value->Sem Value)(r:V->Hp->VK->Prop):Prop:=∀(pins:List (Addr×Obj))(s:W1)(Y:St)(H:Hp)(x:V)(v:Value)(Q:VK),6#0->RelV x v->r x H Q->W6 5#0 X.A (f v) (EP X pins Y Q) X.xe s
def dM(X:Cx)(f:Value)(r:List V->Hp->VK->Prop):Prop:=∀(pins:List (Addr×Obj))(s:W1)(Y:St)(H:Hp)(xs:List V)(us:List Value)(Q:VK),6#0->Vals xs us->r xs H Q->W6 5#0 X.A (call f us) (EP X pins Y Q) X.xe s
def mM(r:R2)(ta tb:TE):TE:=λY H Q=>ta Y H λx H1=>tb Y H1 λy H2=>r x y H2 Q
def wz(r:V->Hp->VK->Prop)(ta:TE):TE:=λY H Q=>ta Y H λx H1=>r x H1 Q
def rI(C:Int->Int->Prop)(g:Int->Int->V):R2:=λx y H Q=>∃i j,x=.int i/\y=.int j/\C i j/\Q (g i j) H
def ie(g:Int->Int->V):R2:=λx y H Q=>∃i j,x=.int i/\y=.int j/\Q (g i j) H
def rU(g:Int->V):V->Hp->VK->Prop:=λx H Q=>∃i,x=.int i/\Q (g i) H
section
variable{a b c:Expr}{tb tc:TE}
theorem wA(ha:PE X a ta)(hb:PE X b tb){R:V->V->Hp->Prop}(I:6#0)(h:ta Y H λx H1=>tb Y H1 λy H2=>R x y H2){Q:Value->W1->Prop}{f:Value->Value->Sem Value}(hf:∀v u s2 x y H2,Inv X pins Y H2 s2->RelV x v->RelV y u->R x y H2->W6 5#0 X.A (f v u) Q X.xe s2):W6 5#0 X.A (eval a X.env) (λv s₁=>W6 5#0 X.A (eval b X.env) (λu s₂=>W6 5#0 X.A (f v u) Q X.xe s₂) X.xe s₁) X.xe s:=by refine aZ (ha pins s Y H _ I h) λv s1⟨x,H1,I1,r1,q1⟩=>?_;refine aZ (hb pins s1 Y H1 _ I1 q1) λu s2 hh=>?_;obtain⟨y,H2,I2,r2,q2⟩:=hh;exact hf v u s2 x y H2 I2 r1 r2 q2
theorem BI{op:Operator}{r:R2}(ho:bw X (QW op) r)(ha:PE X a ta)(hb:PE X b tb):PE X (.BinOp a op b pos) (mM r ta tb):=by intros Q I h;exact wpAny_BinOp (wA ha hb I h λv u s2 x y H2 I2 rx ry q=>ho pins s2 Y H2 x y v u Q I2 rx ry q)
theorem NF{op}(ho:wy X (unaryOp op) r)(ha:PE X a ta):PE X (.UnaryOp op a pos) (wz r ta):=by intros Q I h;exact UnaryOp_ (aZ (ha pins s Y H _ I h) λv s1⟨x,H1,I1,r1,q1⟩=>ho pins s1 Y H1 x v Q I1 r1 q1)
theorem tE{f:Value->Value->Sem Value}{C:Int->Int->Prop}{g:Int->Int->Int}(rule:∀(i j:Int)(t u:Tok)(s:W1)(Q:Value->W1->Prop)(E:Value->W1->Prop),C i j->Q (.int (g i j) s.toks) {s with toks:=s.toks+1}->W6 5#0 X.A (f (.int i t) (.int j u)) Q E s):bw X f (rI C λi j=>.int (g i j)):=by intros x y v u Q I rx ry h;obtain⟨i,j,rfl,rfl,hc,q⟩:=h;obtain⟨t,rfl⟩:=rx;obtain⟨t',rfl⟩:=ry;exact rule i j t t' s _ _ hc ⟨.int (g i j),H,I.tok _,⟨_,rfl⟩,q⟩
theorem wB{f:Value->Value->Sem Value}{g:Int->Int->Int}(rule:∀(i j:Int)(t u:Tok)(s:W1)(Q:Value->W1->Prop)(E:Value->W1->Prop),Q (.int (g i j) s.toks) {s with toks:=s.toks+1}->W6 5#0 X.A (f (.int i t) (.int j u)) Q E s):bw X f (ie λi j=>.int (g i j)):=by intros x y v u Q I rx ry h;obtain⟨i,j,rfl,rfl,q⟩:=h;obtain⟨t,rfl⟩:=rx;obtain⟨t',rfl⟩:=ry;exact rule i j t t' s _ _ ⟨.int (g i j),H,I.tok _,⟨_,rfl⟩,q⟩
theorem tF{f:Value->Value->Sem Value}{g:Int->Int->Bool}(rule:∀(i j:Int)(t u:Tok)(s:W1)(Q:Value->W1->Prop)(E:Value->W1->Prop),Q (.bool (g i j)) s->W6 5#0 X.A (f (.int i t) (.int j u)) Q E s):bw X f (ie λi j=>.bl (g i j)):=by intros x y v u Q I rx ry h;obtain⟨i,j,rfl,rfl,q⟩:=h;obtain⟨t,rfl⟩:=rx;obtain⟨t',rfl⟩:=ry;exact rule i j t t' s _ _ ⟨.bl (g i j),H,I,rfl,q⟩
def BJ(i j:Int):Prop:=0<j/\j<1073741824
def BK(i j:Int):Prop:=0<=j/\j<=1000000/\i.natAbs<2^64
def pP(i j:Int):Prop:=-2^64<i/\i<2^64\/-2^64<j/\j<2^64
theorem pP.ok{i}(h:pP i j):IntMulOk i j:=by
 rcases h with⟨h1,h2⟩|⟨h1,h2⟩;.exact .of_left (intBits_le_64 h1 h2)
 .exact .of_right (intBits_le_64 h1 h2)
theorem NG:bw X (QW .Add) (ie λi j=>.int (i+j)):=wB λk k k k k k k q=>add_int q
theorem NH:bw X (QW .Sub) (ie λi j=>.int (i-j)):=wB λk k k k k k k q=>sub_int q
theorem NI:bw X (QW .Mult) (rI pP λi j=>.int (i*j)):=tE λk k k k k k k hc q=>mul_int q hc.ok
theorem BL:bw X (QW .FloorDiv) (rI BJ λi j=>.int (i/j)):=tE λi j k k k k k hc q=>by have h1:(0:Int)<j:=hc.1;have h2:j<1073741824:=hc.2;exact floordiv_int Y' %[Int.fdiv_eq_ediv_of_nonneg i Y'|q] (.inl (PyProof.noPylong_small Y'))
theorem BM:bw X (QW .Mod) (rI (λk j=>0<j) λi j=>.int (i%j)):=tE λi j k k k k k hc q=>by have h1:(0:Int)<j:=hc;exact mod_int' Y' %[Int.fmod_eq_emod_of_nonneg i Y'|q]
theorem NJ:bw X (QW .Pow) (rI BK λi j=>.int (i^j.toNat)):=tE λk k k k k k k hc q=>pow_int_small hc.1 hc.2.1 hc.2.2 q
theorem NL:bw X (inplaceOp .Add) (ie λi j=>.int (i+j)):=wB λk k k k k k k q=>iadd_int q
theorem NM{f:Value->Sem Value}{g:Int->Int}(rule:∀(i:Int)(t:Tok)(s:W1)(Q:Value->W1->Prop)(E:Value->W1->Prop),Q (.int (g i) s.toks) {s with toks:=s.toks+1}->W6 5#0 X.A (f (.int i t)) Q E s):wy X f (rU λi=>.int (g i)):=by intros x v Q I rx h;obtain⟨i,rfl,q⟩:=h;obtain⟨t,rfl⟩:=rx;exact rule i t s _ _ ⟨.int (g i),H,I.tok _,⟨_,rfl⟩,q⟩
theorem NN:wy X (unaryOp .USub) (rU λi=>.int (-i)):=NM λj j j j j q=>neg_int q
theorem wC(I:6#0)(q:Q (.bl k) H)(e:k=k'):EP X pins Y Q (.bool k') s:=by subst e;exact⟨.bl k,H,I,rfl,q⟩
theorem NO:bw X (WC .Lt) (ie λi j=>.bl (decide (i<j))):=tF λk k k k k k k q=>lt_int q
theorem NP:bw X (WC .LtE) (ie λi j=>.bl (decide (i<=j))):=tF λk k k k k k k q=>le_int q
theorem NQ:bw X (WC .Gt) (ie λi j=>.bl (decide (j<i))):=tF λk k k k k k k q=>gt_int q
theorem NR:bw X (WC .GtE) (ie λi j=>.bl (decide (j<=i))):=tF λk k k k k k k q=>ge_int q
theorem NS:bw X (WC .Lt) λx y H Q=>∃i j,x=.str i/\y=.str j/\Q (.bl (decide (i.cps.toList<j.cps.toList))) H:=by intros x y v u Q I rx ry h;obtain⟨i,j,rfl,rfl,q⟩:=h;obtain⟨t,rfl⟩:=rx;obtain⟨t',rfl⟩:=ry;exact lt_str (wC I q rfl)
theorem BN:bw X (WC .Is) λx y H Q=>y=.aD/\Q (.bl (decide (x=.aD))) H:=by intros x y v u Q I rx ry h;obtain⟨rfl,q⟩:=h;cases ry;refine is_none_gen (wC I q ?_);cases x<;>first|(cases rx;rfl)|(obtain⟨t,rfl⟩:=rx;rfl)
theorem NT:bw X (WC .NotIn) λx y H Q=>∃i j,x=.str i/\y=.str j/\Q (.bl !!(Builtin.Str.occurrences j i 0 j.length 1).isEmpty) H:=by intros x y v u Q I rx ry h;obtain⟨i,j,rfl,rfl,q⟩:=h;obtain⟨t,rfl⟩:=rx;obtain⟨t',rfl⟩:=ry;exact notIn_str (wC I q rfl)
theorem bw.or{f}(h:bw X f r)(h':bw X f r'):bw X f λx y H Q=>r x y H Q\/r' x y H Q:=by
 intros x y v u Q I rx ry q;rcases q with q|q;.exact h pins s Y H x y v u Q I rx ry q
 .exact h' pins s Y H x y v u Q I rx ry q
theorem BO{r:R2}(ho:bw X (WC op) r)(ha:PE X a ta)(hb:PE X b tb)(hm:JW op b=false):PE X (.Compare a [op] [b] pos) (mM r ta tb):=by intros Q I h;exact wpAny_Compare1 (wA ha hb I h λv u s2 x y H2 I2 rx ry q=>ho pins s2 Y H2 x y v u Q I2 rx ry q) hm
def BP(t:TE):TT:=λY H Q=>t Y H λx H'=>∃k,x=.bl k/\Q k H'
theorem BQ(ho:bw X (WC op) r)(ha:PE X a ta)(hb:PE X b tb)(hm:JW op b=false):PT X (.Compare a [op] [b] pos) (BP (mM r ta tb)):=by intros Q I h;refine wpAny_isTrue_Compare1 (aZ (ha pins s Y H _ I h) λv s1⟨x,H1,I1,r1,q1⟩=>aZ (hb pins s1 Y H1 _ I1 q1) λu s2⟨y,H2,I2,r2,q2⟩=>aZ (ho pins s2 Y H2 x y v u _ I2 r1 r2 q2) λc s3 hh=>?_) hm;obtain⟨z,H3,I3,r3,k,e,q3⟩:=hh;subst e;cases r3;exact Qz ⟨H3,I3,q3⟩
def wF(r r':R2)(ta tb tc:TE):TE:=λY H Q=>ta Y H λx H1=>tb Y H1 λy H2=>r x y H2 λz H3=>∃k,z=.bl k/\if k=true then tc Y H3 λw' H4=>r' y w' H4 Q else Q (.bl false) H3
theorem NU(ho:bw X (WC op) r)(gv:bw X (WC ik) r')(ha:PE X a ta)(hb:PE X b tb)(hc:PE X c tc)(hm:lastMarks [op,ik] [b,c]=false:=by with_unfolding_all rfl):PE X (.Compare a [op,ik] [b,c] pos) (wF r r' ta tb tc):=by intros Q I h;refine Compare_chain (aZ (ha pins s Y H _ I h) λv s1⟨x,H1,I1,r1,q1⟩=>chain_link (aZ (hb pins s1 Y H1 _ I1 q1) λu s2⟨y,H2,I2,r2,q2⟩=>aZ (ho pins s2 Y H2 x y v u _ I2 r1 r2 q2) λd s3 hh=>?_)) hm;obtain⟨z,H3,I3,r3,k,e,q3⟩:=hh;subst e;cases r3;refine Qz ?_;cases k with|false=>exact ite_ff ⟨.bl false,H3,I3,rfl,q3⟩|true=>exact ite_tt (chain_last (aZ (hc pins s3 Y H3 _ I3 q3) λw' s4⟨z',H4,I4,r4,q4⟩=>gv pins s4 Y H4 y z' u w' Q I4 r2 r4 q4))
theorem NV(ho:bw X (WC op) r)(gv:bw X (WC ik) r')(ha:PE X a ta)(hb:PE X b tb)(hc:PE X c tc)(hm:lastMarks [op,ik] [b,c]=false:=by with_unfolding_all rfl):PT X (.Compare a [op,ik] [b,c] pos) (BP (wF r r' ta tb tc)):=by intros Q I h;refine isTrue_chain (aZ (ha pins s Y H _ I h) λv s1⟨x,H1,I1,r1,q1⟩=>test_link (aZ (hb pins s1 Y H1 _ I1 q1) λu s2⟨y,H2,I2,r2,q2⟩=>aZ (ho pins s2 Y H2 x y v u _ I2 r1 r2 q2) λd s3 hh=>?_)) hm;obtain⟨z,H3,I3,r3,k,e,q3⟩:=hh;subst e;cases r3;refine Qz ?_;cases k with|false=>obtain⟨k',e',q'⟩:=q3;cases e';exact ite_ff ⟨H3,I3,q'⟩|true=>refine ite_tt (test_last (aZ (hc pins s3 Y H3 _ I3 q3) λw' s4⟨z',H4,I4,r4,q4⟩=>aZ (gv pins s4 Y H4 y z' u w' _ I4 r2 r4 q4) λd' s5 hh=>?_));obtain⟨z2,H5,I5,r5,k2,e2,q5⟩:=hh;subst e2;cases r5;exact Qz ⟨H5,I5,q5⟩
theorem n9:(W9:Nat)<2^63:=by rw[Qb];decide
theorem NW:bw X (QW .Add) λx y H Q=>∃i j,x=.str i/\y=.str j/\i.length+j.length<=W9/\Q (.str (i++j)) H:=by intros x y v u Q I rx ry h;obtain⟨i,j,rfl,rfl,hz,q⟩:=h;obtain⟨t,rfl⟩:=rx;obtain⟨t',rfl⟩:=ry;exact add_str (λt' tk=>⟨.str (i++j),H,I.tok _,⟨_,rfl⟩,q⟩) hz
theorem fQ(r:Vals [x] us):∃u,us=[u]/\RelV x u:=by cases r with|cons r1 r2=>cases r2;exact⟨_,rfl,r1⟩
theorem wG(r:Vals [x,y] us):∃u w',us=[u,w']/\RelV x u/\RelV y w':=by cases r with|cons r1 r2=>cases r2 with|cons r3 r4=>cases r4;exact⟨_,_,rfl,r1,r3⟩
theorem NX(hc:X.calm=true):dM X (.builtin "max") λxs H Q=>∃i j,xs=[.int i,.int j]/\Q (.int (if j>i then j else i)) H:=by
 intros xs us Q I r h;obtain⟨i,j,rfl,q⟩:=h;obtain⟨u,w',rfl,⟨t,rfl⟩,⟨t',rfl⟩⟩:=wG r;refine max_two_ints (I.ok.hd hc) λh' tk k=>⟨_,H,I.kept k,?_,q⟩;by_cases hj:j>i;.rw[if_pos hj,if_pos hj];exact⟨_,rfl⟩
 .rw[if_neg hj,if_neg hj];exact⟨_,rfl⟩
theorem NY:dM X (.type "int") λxs H Q=>(∃i,xs=[.int i]/\Q (.int i) H)\/∃k,xs=[.bl k]/\Q (.int (if k then 1 else 0)) H:=by
 intros xs us Q I r h;rcases h with⟨i,rfl,q⟩|⟨k,rfl,q⟩;.obtain⟨u,rfl,t,rfl⟩:=fQ r;exact call_int_int ⟨.int i,H,I,⟨_,rfl⟩,q⟩
 .obtain⟨u,rfl,r1⟩:=fQ r;cases r1;exact call_int_bool ⟨.int (if k then 1 else 0),H,I.tok _,⟨_,rfl⟩,q⟩
end
structure wH(h:Heap)(x dx C:Addr)(mA:Str->Option Value):Prop where
 obj:h.get? x=some (PySem.W.instObj C dx)ns:h.Ns1 dx mA
 ne:dx≠x
universe H in theorem NZ{h:Heap}{dx:Addr}(n:h.Ns1 dx mA):∃od,h.get? dx=some od/\∀name,PySem.W.lookIn name od=some (mA name):=by
 obtain⟨o,es,ep,ho,hd,hk,_,hm⟩:=n;refine⟨o,ho,λname=>?_⟩;have e:=hm name;unfold nsFind findBy at e;rw[<-Array.find?_toList]at e;unfold PySem.W.lookIn;rw[hd];dsimp only;split;.rename_i y q;rw[q]at e;exact congrArg some e
 .rename_i q;rw[q]at e;have a:es.toList.any (·.refKey)=false:=by rw[List.any_eq_false];intro y hy;obtain⟨z,t,hkey⟩:=hk y (Array.mem_toList_iff.mp hy);simp[DictEntry.refKey,hkey]
  have a':¬es.toList.any (·.refKey)=true:=%[a|WR];rw[if_neg a'];exact congrArg some e
theorem wH.look{dx}(I:wH h x dx C mA):∃od,PySem.W.InstAt h x (PySem.W.instObj C dx) C (some od)/\∀name,PySem.W.lookIn name od=some (mA name):=let⟨od,ho,hl⟩:=NZ I.ns
 ⟨od,⟨I.obj,rfl,rfl,ho⟩,hl⟩
theorem fB.some_of(r:fB (some v) o):∃u,o=some u/\RelV v u:=by cases o with|none=>exact(show False from r).elim|some u=>exact⟨u,rfl,r⟩
theorem fB.none_of(r:fB none o):o=none:=by cases o with|none=>rfl|some u=>exact(show False from r).elim
section
variable{h:Heap}{a dx:Addr}{fs:List (Str×V)}
theorem N0(aB:cG P w H h)(e:H a=some (.ins C dx fs)):∃mA,wH h a dx C mA/\(∀f,fB (fs.lookup f) (mA f))/\PySem.Within mA (fs.map (·.1))/\fs.length<=1000/\H dx=some (.own a):=by obtain⟨d,z,ne,ob,mA,n,r,q⟩:=show bz P w H h a (.ins C dx fs)from aB a _ e;exact⟨mA,⟨ob,n,ne⟩,r,q,z,d⟩
end
structure wI(K:W3)(C:Addr):Prop where
 pg:PySem.W.plainGet K C Str.empty=true
 hd:PySem.W.hasDictIn K C=true
 po:PySem.W.plainOver K C=true
 sa:PySem.W.findIn K (.ref C) "__setattr__"=some (some (.builtin "object.__setattr__"))
theorem wI.get(c:wI K C)(f:Str):PySem.W.plainGet K C f=true:=c.pg
section
variable{Q:Value->W1->Prop}{c:Value}{b:Bool}
inductive iW(K:W3)(H:Hp):V->Value->Prop where|aD:iW K H .aD (.type "NoneType")|bl(x:Bool):iW K H (.bl x) (.type "bool")|int(i:Int):iW K H (.int i) (.type "int")|str(x:Str):iW K H (.str x) (.type "str")|flt(x:UInt64):iW K H (.flt x) (.type "float")|lst{a:Addr}{xs:List V}(e:H a=some (.lst xs)):iW K H (.ref a) (.type "list")|frz{a:Addr}{o:Obj}{xs:List V}(e:H a=some (.frz o (.lst xs))):iW K H (.ref a) (.type "list")|tup{a:Addr}{xs:List V}(e:H a=some (.tup xs)):iW K H (.ref a) (.type "tuple")|dK{a:Addr}{aw:List (Key×V)}(e:H a=some (.dK aw)):iW K H (.ref a) (.type "dict")|dT{a:Addr}{aw:List (List Key×V)}(e:H a=some (.dT aw)):iW K H (.ref a) (.type "dict")|ins{a C dx:Addr}{fs:List (Str×V)}(e:H a=some (.ins C dx fs))(cl:wI K C)(ha:PySem.W.findIn K (.ref C) "__class__"=some (some (.builtin "object.__class__")))(hn:PySem.W.specialIn K (.builtin "object.__class__") "__get__"=some (some (.builtin "getset_descriptor.__get__")))(BR:PySem.W.takesIn K (.builtin "object.__class__")=some true)(hm:PySem.W.mroIn K C (.type "object")=some true):iW K H (.ref a) (.ref C)
theorem lA(I:6#0)(rx:RelV x u)(ty:iW X.K H x t)(e:QX X.K t c=some b)(h:∀tk,Q (.bool b) {s with toks:=tk}):W6 5#0 A (call (.builtin "isinstance") [u,c]) Q E s:=by cases ty with|aD=>cases show u=Value.none from rx;exact Qt PySem.W.kitx_none I.dI True.intro e (λz=>nomatch z) h|bl y=>cases show u=Value.bool y from rx;exact Qt PySem.W.kitx_bool I.dI True.intro e (λz=>nomatch z) h|int i=>obtain⟨t,q⟩:=show∃t,u=Value.int i t from rx;cases q;exact Qt PySem.W.kitx_int I.dI True.intro e (λz=>nomatch z) h|str y=>obtain⟨t,q⟩:=show∃t,u=Value.str y t from rx;cases q;exact Qt PySem.W.kitx_str I.dI True.intro e (λz=>nomatch z) h|flt y=>obtain⟨t,q⟩:=show∃t,u=Value.float y t from rx;cases q;exact Qt PySem.W.kitx_float I.dI True.intro e (λz=>nomatch z) h|@lst a xs ea=>cases show u=Value.ref a from rx;obtain⟨_,_,n,_,h1⟩:=show bz X.prog X.w H s.heap a (.lst xs)from I.aB a _ ea;exact Qt PySem.W.kitx_list I.dI ⟨_,h1,rfl⟩ e (λz=>nomatch z) h|@frz a ob xs ea=>cases show u=Value.ref a from rx;obtain⟨_,_,_,n,_,h1⟩:=show bz X.prog X.w H s.heap a (.frz ob (.lst xs))from I.aB a _ ea;exact Qt PySem.W.kitx_list I.dI ⟨_,h1,rfl⟩ e (λz=>nomatch z) h|@tup a xs ea=>cases show u=Value.ref a from rx;obtain⟨_,_,_,p⟩:=show bz X.prog X.w H s.heap a (.tup xs)from I.aB a _ ea;obtain⟨o,h1,h2,_⟩:=p.tup;exact Qt PySem.W.kitx_tuple I.dI ⟨o,h1,h2⟩ e (λz=>nomatch z) h|@dK a aw ea=>cases show u=Value.ref a from rx;obtain⟨_,_,vs,_,p⟩:=show bz X.prog X.w H s.heap a (.dK aw)from I.aB a _ ea;obtain⟨o,es,ep,h1,h2,_⟩:=p;exact Qt PySem.W.kitx_dict I.dI ⟨o,h1,h2.1⟩ e (λz=>nomatch z) h|@dT a aw ea=>cases show u=Value.ref a from rx;obtain⟨_,_,xs,_,o,es,ep,h1,h2,_⟩:=show bz X.prog X.w H s.heap a (.dT aw)from I.aB a _ ea;exact Qt PySem.W.kitx_dict I.dI ⟨o,h1,h2.1⟩ e (λz=>nomatch z) h|@ins a C dx fs ea cl ha hn BR hm=>cases show u=Value.ref a from rx;obtain⟨mA,O,_⟩:=N0 I.aB ea;obtain⟨od,J,_⟩:=O.look;exact Qt (PySem.W.kitx_own (cl.get _) cl.hd ha hn BR hm) I.dI J e (λz=>nomatch z) h
end
structure dz(k:Nat)(A:Wp):Prop where
 hd:A.handled=none
 dp:A.depth+3*k+5<recursionLimit
 un:A.units+16*k+200<Q3
theorem dz.mono(r:dz k A)(h:j<=k):dz j A:=⟨r.hd,by have:=r.dp;lia,by have:=r.un;lia⟩
theorem dz.deeper(r:dz (k+1) A)(env:Env):dz k (A.deeper env):=⟨r.hd,by have:=r.dp;show A.depth+1+3*k+5<_;lia,by have:=r.un;show A.units+3+16*k+200<_;lia⟩
theorem dz.depth(r:dz k A):A.depth<recursionLimit:=by have:=r.dp;lia
def BS:TA:=λj H Q=>Q [] H
def BV(ta:TE)(tr:TA):TA:=λY H Q=>ta Y H λx H1=>tr Y H1 λxs H2=>Q (x::xs) H2
section
variable{t:TA}
theorem f_:PA X [] BS:=λj j j j H Q I h=>Calls.spliced_nil ⟨[],H,I,.nil,h⟩
theorem dU(ha:PE X e te)(hr:PA X es t)(hs:Wa (e::es) X.env=(false,eval e X.env)::Wa es X.env:=by rfl):PA X (e::es) (BV te t):=by intro pos pins s Y H Q I h;rw[hs];show W6 _ _ (spliced ((false,eval e X.env)::Qy pos (Wa es X.env))) _ _ s;refine Calls.spliced_cons (aZ (ha pins s Y H _ I h) λu s1 hh=>?_);obtain⟨x,H1,I1,r1,q1⟩:=hh;exact aZ (hr pos pins s1 Y H1 _ I1 q1) λus s2⟨xs,H2,I2,r2,q2⟩=>⟨x::xs,H2,I2,.cons r1 r2,q2⟩
def N2(t:TA):TE:=λY H Q=>t Y H λxs H1=>xs.length<=W9/\∀p,H1 p=none->Q (.ref p) (upd H1 p (.tup xs))
def N3(t:TA):TE:=λY H Q=>t Y H λxs H1=>xs.length<=W9/\∀p,H1 p=none->Q (.ref p) (upd H1 p (.lst xs))
theorem N4{x1}(h:PA X es t):PE X (.Tuple es x1 pos) (N2 t):=by intros Q I hq;refine wpAny_Tuple_spliced (aZ (h pos pins s Y H _ I hq) λus s1⟨xs,H1,I1,r,z,q⟩=>⟨by rw[<-r.length];exact z,?_⟩);have hf:H1 s1.heap.objs.size=none:=I1.aB.fresh (W7 _);refine⟨.ref s1.heap.objs.size,upd H1 s1.heap.objs.size (.tup xs),I1.laid (t':=s1.toks) (λb u e=>W5 _ e) (W7 _) ?_,rfl,q _ hf⟩;exact⟨z,us,r,⟨_,We _ rfl⟩⟩
theorem N5(h:PA X es t):PE X (.List es pos) (N3 t):=by intros Q I hq;refine wpAny_List_spliced (aZ (h pos pins s Y H _ I hq) λus s1⟨xs,H1,I1,r,z,q⟩=>⟨by rw[<-r.length];exact z,?_⟩);have hf:H1 s1.heap.objs.size=none:=I1.aB.fresh (W7 _);refine⟨.ref s1.heap.objs.size,upd H1 s1.heap.objs.size (.lst xs),I1.laid (t':=s1.toks) (λb u e=>W5 _ e) (W7 _) ?_,rfl,q _ hf⟩;exact⟨z,us,0,r,We _ rfl⟩
end
abbrev Sp:=List V->Hp->VK->XK->Prop
variable{sp:Sp}
abbrev iX:=List Env->Hp->W1->XK->Value->W1->Prop
variable{CX:iX}
structure n_(P:Wm)(w:Wu)(K:W3)(mg:Str->Option Value)(base:Heap)(A:Wp)(outer:List Env)(s:W1)(H:Hp):Prop where
 frames:A.frames=some outer
 mod:Mod K mg base
 bs:∀b o,base.get? b=some o->s.heap.get? b=some o/\H b=none
 jk:base.objs.size<=s.heap.objs.size
 gr:s.heap.FunFrames base outer
 jT:∀b∈eO outer,H b=none
 aB:cG P w H s.heap
 bare:AllBare s.gens
def CE(outer:List Env)(P:Wm)(w:Wu)(H:Hp)(s:W1)(Q:VK)(u:Value)(s':W1):Prop:=∃v H',s'.os=s.os/\AllBare s'.gens/\Un (eO outer) [] H H' s.heap s'.heap/\cG P w H' s'.heap/\RelV v u/\Q v H'
def CR(CX:iX)(outer:List Env)(P:Wm)(w:Wu)(H:Hp)(s:W1)(Q:VK)(E:XK)(r:Result)(s':W1):Prop:=match r with|.ok (.ret u)=>CE outer P w H s Q u s'|.ok _=>False|.error e=>CX outer H s E e s'
structure gN(P:Wm)(w:Wu)(K:W3)(mg:Str->Option Value)(base:Heap)(CX:iX)(k:Nat)(f:Addr)(fd:Ql)(ps:List Str)(sp:Sp):Prop where
 len:∀vs H Q E,sp vs H Q E->vs.length=ps.length
 run:∀(A:Wp)(outer:List Env)(s:W1)(H:Hp)(args:Args)(us:List Value)(vs:List V)(Q:VK)(E:XK),dz k A->n_ P w K mg base A outer s H->BindsTo s fd args (ps.zip us)->Vals vs us->sp vs H Q E->Jd (model P w) A (.call (.ref f) args) (CR CX outer P w H s Q E) s
section
variable{s':W1}
theorem Inv.wJ(I:6#0):n_ X.prog X.w X.K X.mg X.base X.A X.stack s H:=⟨I.ok.frames,I.ok.mod,I.bs,Wy I.ok.jk I.sz,I.stack,I.sU,I.aB,I.bare⟩
theorem Inv.after(I:6#0)(h:CE X.stack X.prog X.w H s Q u s'):EP X pins Y Q u s':=by obtain⟨v,H',os,bare,un,aB,r,q⟩:=h;obtain⟨hh,g,d,t,os'⟩:=s';obtain rfl:os'=s.os:=os;exact⟨v,H',I.call (h':=hh) (g':=g) (d':=d) (t':=t) (ch:=[]) un aB bare λb z=>absurd z V',r,q⟩
end
def wK(sp:Sp)(lD:List V)(E:XK)(t:TA):TE:=λY H Q=>t Y H λvs H1=>sp (vs++lD) H1 Q E
def Binds(K:W3)(fd:Ql)(ps:List Str)(ds:List Value):Prop:=∀(s:W1)(us:List Value),K.In s.heap->(us++ds).length=ps.length->BindsTo s fd ⟨us,[]⟩ (ps.zip (us++ds))
theorem Binds.all(h:∀us:List Value,us.length=ps.length->bindArgs fd ⟨us,[]⟩=pure (ps.zip us)):Binds K fd ps []:=λs us j hl=>by rw[Qg]at hl⊢;exact .of_eq (h us hl)
def wL(CX:iX)(X:Cx)(E:XK):Prop:=∀(pins:List (Addr×Obj))(Y:St)(H:Hp)(s:W1)(e:Value)(s':W1),6#0->CX X.stack H s E e s'->X.xe e s'
section
variable{k:Nat}{ds:List Value}{E:XK}{x m:Str}{p:Pos}{o:Expr}{t:TA}
theorem N6(F:gN X.prog X.w X.K X.mg X.base CX k f fd ps sp)(hr:dz k X.A)(hb:Binds X.K fd ps ds)(hd:Vals lD ds)(hx:wL CX X E)(I:6#0)(r:Vals vs us)(h:sp (vs++lD) H Q E):W6 5#0 X.A (call (.ref f) us) (EP X pins Y Q) X.xe s:=by
 have r2:Vals (vs++lD) (us++ds):=r.append hd;have hl:(us++ds).length=ps.length:=by rw[<-r2.length];exact F.len _ _ _ _ h
 refine wpAny_call (codeAny_mono (F.run X.A X.stack s H ⟨us,[]⟩ (us++ds) (vs++lD) Q E hr I.wJ (hb s us I.dI hl) r2 h) λr s' hq=>?_);cases r with|error e=>exact hx pins Y H s e s' I hq|ok fl=>cases fl with|ret u=>exact I.after hq|next=>exact False.elim hq|brk=>exact False.elim hq|cont=>exact False.elim hq
theorem N7(F:gN X.prog X.w X.K X.mg X.base CX k f fd ps sp)(hr:dz k X.A)(hg:Gl X x)(hm:X.mg x=some (.ref f))(hk:QY X.K (.ref f)=true)(hb:Binds X.K fd ps ds)(hd:Vals lD ds)(hx:wL CX X E)(ha:PA X (e::es) t)(dE:(x==("__debug__":Str))=false:=by decide)(he:Wa (e::es) X.env=(false,eval e X.env)::Wa es X.env:=by rfl)(bZ:(Qy pos (Wa es X.env)).any (·.1)=false:=by rfl):PE X (.Call (.Name x p) (e::es) [] pos) (wK sp lD E t):=by intros Q I h;refine JI (mK I hg hm ?_ dE);refine PySem.W.callWith_K (h₀:=X.base) I.ok.mod.n5 hk (aZ (ha pos pins s Y H _ I h) λus s1⟨vs,H1,I1,r,q⟩=>⟨I1.dI,?_⟩) he bZ;exact N6 F hr hb hd hx I1 r q
end
structure gw(N P:List Str)(sc:Scope):Prop where
 kind:sc.kind=.function
 co:sc.isCoroutine=false
 gen:sc.isGenerator=false
 nd:N.Nodup
 pre:N.take P.length=P
 par:∀x∈P,sc.names.lookup x=some .local\/sc.names.lookup x=some .cell
 wM:∀y∈sc.names,y.2≠.free
theorem scc{N P:List Str}(kind:sc.kind=.function:=by rfl)(co:sc.isCoroutine=false:=by rfl)(gen:sc.isGenerator=false:=by rfl)(nd:N.Nodup:=by decide+kernel)(pre:N.take P.length=P:=by rfl)(par:∀x∈P,sc.names.lookup x=some .local\/sc.names.lookup x=some .cell:=by decide+kernel)(wM:∀y∈sc.names,y.2≠.free:=by decide+kernel):gw N P sc:=⟨kind,co,gen,nd,pre,par,wM⟩
theorem BW{kindOf:Str->Option NameKind}{x:Str}:∀{binds:List (Str×Value)}{m:Str->Option Value},(∀v,(x,v)∉binds)->bindL kindOf binds m x=m x
 |[],_,_=>rfl|(n,v)::r,m,h=>by
  unfold bindL;rw[BW λw hw=>h w (Wf _ hw)];split
  .have:x≠n:=by rintro rfl;exact h v Wi
   simp[this]
  .rfl
theorem BX{kindOf:Str->Option NameKind}{x:Str}:∀{binds:List (Str×Value)}{m:Str->Option Value},(∀v,(x,v)∉binds)->bindC kindOf binds m x=m x
 |[],_,_=>rfl|(n,v)::r,m,h=>by
  unfold bindC;rw[BX λw hw=>h w (Wf _ hw)];split;.rfl
  .have:x≠n:=by rintro rfl;exact h v Wi
   simp[this]
theorem BY{kindOf:Str->Option NameKind}{x:Str}{v:Value}:∀{P:List Str}{vs:List Value}{i:Nat}{m:Str->Option Value},P.Nodup->P[i]?=some x->vs[i]?=some v->kindOf x=some .local->bindL kindOf (P.zip vs) m x=some v|[],_,_,_,_,h,_,_=>by simp at h|_::_,[],_,_,_,_,h,_=>by simp at h|p::P,w::vs,0,m,nd,h1,h2,hk=>by simp at h1 h2;subst h1;subst h2;show bindL kindOf ((p,w)::P.zip vs) m p=_;unfold bindL;rw[BW λv hv=>(JJ.mp nd).1 (U4 hv).1,if_pos hk];simp|p::P,w::vs,i+1,m,nd,h1,h2,hk=>by show bindL kindOf ((p,w)::P.zip vs) m x=_;unfold bindL;exact BY (i:=i) (JJ.mp nd).2 (~~~h1) (~~~h2) hk
theorem BZ{kindOf:Str->Option NameKind}{x:Str}{v:Value}:∀{P:List Str}{vs:List Value}{i:Nat}{m:Str->Option Value},P.Nodup->P[i]?=some x->vs[i]?=some v->kindOf x≠some .local->bindC kindOf (P.zip vs) m x=some v|[],_,_,_,_,h,_,_=>by simp at h|_::_,[],_,_,_,_,h,_=>by simp at h|p::P,w::vs,0,m,nd,h1,h2,hk=>by simp at h1 h2;subst h1;subst h2;show bindC kindOf ((p,w)::P.zip vs) m p=_;unfold bindC;rw[BX λv hv=>(JJ.mp nd).1 (U4 hv).1,if_neg hk];simp|p::P,w::vs,i+1,m,nd,h1,h2,hk=>by show bindC kindOf ((p,w)::P.zip vs) m x=_;unfold bindC;exact BZ (i:=i) (JJ.mp nd).2 (~~~h1) (~~~h2) hk
def fE(N:List Str)(vs:List V):St:=vs.map some++WJ (N.length-vs.length) none
def fF(CX:iX)(P:Wm)(w:Wu)(K:W3)(mg:Str->Option Value)(base:Heap)(N:List Str)(qual:Str)(scope:Scope)(f:Addr)(cd:Value)(A:Wp)(outer:List Env)(s:W1)(H:Hp)(E:XK):Cx where
 prog:=P
 w:=w
 K:=K
 mg:=mg
 base:=base
 A:=A.deeper (Jp qual scope s.heap.objs.size f cd)
 N:=N
 s₀:=s
 H₀:=H
 env:=Jp qual scope s.heap.objs.size f cd
 outer:=outer
 stack:=Jp qual scope s.heap.objs.size f cd::outer
 ex:=[]
 calm:=true
 fn:=λj=>true
 pn:=[]
 xe:=λe s'=>W6 (model P w) (A.deeper (Jp qual scope s.heap.objs.size f cd)) (leaving (Jp qual scope s.heap.objs.size f cd) e) (λj pQ=>CX outer H s E e pQ) (λe' pQ=>CX outer H s E e' pQ) s'
theorem B0{x:Str}(h:sc.names.lookup x=some .cell):∃c,(QU n sc.names []).lookup x=some c:=by have q:=JL sc.names n [] (.inl h);exact QM.mp q
theorem B3{s1:W1}{E:XK}(S:gw N ps scope)(hd:A.handled=none)(e0:n_ P w K mg base A outer s H)(hl:vs.length=ps.length)(r:Vals vs us)(x:InCallC s s.heap.objs.size (bindL (Jp qual scope s.heap.objs.size f cd).kindOf (ps.zip us) λj=>none) (QU (s.heap.objs.size+1) scope.names []) (bindC (Jp qual scope s.heap.objs.size f cd).kindOf (ps.zip us) λj=>none) s1):Inv (fF CX P w K mg base N qual scope f cd A outer s H E) [] (fE N vs) H s1:=by
 have bZ:ps.length<=N.length:=by have:=congrArg QB S.pre;rw[Uo]at this;lia
 obtain⟨h1,tk,rfl,hk⟩:=x.done;have pR:∀b:Addr,b∉(fF CX P w K mg base N qual scope f cd A outer s H E).ex:=λb z=>absurd (show b∈([]:List Addr)from z) V';refine⟨⟨e0.mod,S.kind,rfl,rfl,W7 _,λy z c h1 h2=>?_,λy hy=>?_,λy c j h=>?_,λj=>hd,Around.frames_deeper e0.frames,.inr ⟨rfl,rfl⟩,λb z=>absurd z (pR b),e0.bs,e0.jk,λb j j=>pR b,λb z=>absurd z (pR b),e0.gr,e0.jT⟩,rfl,e0.bare,Un.kept hk,⟨_,x.toInCall.ns,λi y v h1 h2 h3=>?_⟩,λy c h=>⟨_,x.cell y c h⟩,e0.aB.fresh (W7 _),λy c h=>?_,λp hp=>absurd (show p∈([]:List (Addr×Obj))from hp) V',e0.aB.kept hk,?_⟩;.exact name_of_addr x.apart (WH h1) (WH h2)
 .have hy:scope.names.lookup y=some .cell\/scope.names.lookup y=some .free:=hy;rcases hy with hy|hy;.exact B0 hy
  .exact absurd rfl (S.wM _ (WH hy))
 .exact QV (x.above y c (WH h))
 .have hi:i<vs.length:=by
   unfold fE at h2;by_cases hi:i<vs.length;.exact hi
   .rw[Jj (~~~hi)]at h2;rw[List.getElem?_replicate]at h2;split at h2<;>cases h2
  have ha:vs[i]?=some v:=by unfold fE at h2;rw[Qw (~~~hi),Ws]at h2;cases e:vs[i]? with|none=>rw[e]at h2;cases h2|some a=>rw[e]at h2;cases h2;rfl
  obtain⟨u,hu,rv⟩:=r.get ha;have hp:ps[i]?=some y:=by rw[<-S.pre,List.getElem?_take_of_lt Y'];exact h1
  have B4:ps.Nodup:=by rw[<-S.pre];exact S.nd.sublist (List.take_sublist _ _)
  refine⟨u,rv,?_⟩;rcases S.par y (Wz hp)with k|k;.exact .inl ⟨k,BY B4 hp hu k⟩
  .obtain⟨c,e⟩:=B0 (n:=s.heap.objs.size+1) k;refine .inr ⟨.inl k,c,e,?_⟩;have q:=x.cell y c e;rw[BZ B4 hp hu (by show scope.names.lookup y≠_;rw[k];decide)]at q;exact q
 .exact e0.aB.fresh (QV (x.above y c (WH h)))
 .unfold fE;show _=N.length;rw[Qc,Wd,List.length_replicate];lia
theorem B5{k:Nat}{dV kV:Value}(lk:K.lookup f=some ⟨oc,od,.func (J1 name qual params body scope dV kV doc pm an a_ ct),jW⟩)(dS:PySem.W.codeIn K a_ qual=true)(S:gw N ps scope)(len:∀vs H Q E,sp vs H Q E->vs.length=ps.length)(eG:∀(A:Wp)(outer:List Env)(s:W1)(H:Hp)(vs:List V)(Q:VK)(E:XK),dz k (A.deeper (Jp qual scope s.heap.objs.size f a_))->sp vs H Q E->∃t,dJ (fF CX P w K mg base N qual scope f a_ A outer s H E) body t/\t {nx:=λj H'=>Q .aD H',rt:=Q} (fE N vs) H):gN P w K mg base CX (k+1) f (J1 name qual params body scope dV kV doc pm an a_ ct) ps sp:=by
 refine⟨len,λA outer s H args us vs Q E hr e0 hb r jq=>?_⟩;have hl:=len _ _ _ _ jq;have KX:K.In s.heap:=e0.mod.n5.keeps λb o e=>(e0.bs b o e).1;have lim:s.heap.NoLimit:=e0.mod.nolimit.keeps λb o e=>(e0.bs b o e).1;have wN:∀y∈ps.zip us,scope.names.lookup y.1=some .local\/scope.names.lookup y.1=some .cell/\((QU (s.heap.objs.size+1) scope.names []).lookup y.1).isSome=true:=λ⟨n,v⟩hy=>by
  rcases S.par n (U4 hy).1 with q|q;.exact .inl q
  .exact .inr ⟨q,JL _ _ _ (.inl q)⟩
 refine codeAny_call_function hr.depth (KX _ _ lk) rfl S.co S.gen rfl (PySem.W.codeRec_of KX dS) (hb _ _ _ _ ?_);refine wpAny_newFunctionEnv_cells S.kind wN λenv he s1 x=>?_;subst he;refine⟨lim.keeps x.toInCall.keep,codeAny_func ?_⟩;obtain⟨t,ht,hq⟩:=eG A outer s H vs Q E (hr.deeper _) jq;have I:Inv (fF CX P w K mg base N qual scope f a_ A outer s H E) [] (fE N vs) H s1:=B3 S hr.hd e0 hl r x;refine Qk (ht [] s1 (fE N vs) H _ I hq) (λfl s' hs=>?_) λe s' hs=>hs;have fin:∀{SC:St}{H':Hp}{v:V}{u:Value},Inv (fF CX P w K mg base N qual scope f a_ A outer s H E) [] SC H' s'->RelV v u->Q v H'->CE outer P w H s Q u s':=λ{SC H' v u}J rv q=>⟨v,H',J.os,J.bare,J.base,J.aB,rv,q⟩;cases fl with|ret u=>obtain⟨v,SC,H',J,rv,q⟩:=hs;exact fin J rv q|next=>obtain⟨SC,H',J,q⟩:=hs;exact fin (v:=V.aD) (u:=Value.none) J rfl q|brk=>obtain⟨_,_,_,q⟩:=hs;exact False.elim q|cont=>obtain⟨_,_,_,q⟩:=hs;exact False.elim q
section
variable{x:Str}{p:Pos}{t:TA}{id T:String}{r:List V->Hp->VK->Prop}
def B6(r:List V->Hp->VK->Prop)(t:TA):TE:=λY H Q=>t Y H λvs H1=>r vs H1 Q
theorem pU(hc:dM X (.builtin id) r)(hg:Gl X x)(hm:X.mg x=none)(hv:QK x=some (.builtin id))(ha:PA X (e::es) t)(hn:x≠"__name__":=by decide)(dE:(x==("__debug__":Str))=false:=by decide)(he:Wa (e::es) X.env=(false,eval e X.env)::Wa es X.env:=by rfl)(bZ:(Qy pos (Wa es X.env)).any (·.1)=false:=by rfl):PE X (.Call (.Name x p) (e::es) [] pos) (B6 r t):=by intros Q I h;refine JI (mL I hg hm hv ?_ hn dE);exact PyProof.Rows.callWith_builtin1 (aZ (ha pos pins s Y H _ I h) λus s1⟨vs,H1,I1,r1,q1⟩=>hc pins s1 Y H1 vs us Q I1 r1 q1) he bZ
theorem N8(hc:dM X (.type T) r)(hg:Gl X x)(hm:X.mg x=none)(hv:QK x=some (.type T))(ha:PA X (e::es) t)(hn:x≠"__name__":=by decide)(dE:(x==("__debug__":Str))=false:=by decide)(he:Wa (e::es) X.env=(false,eval e X.env)::Wa es X.env:=by rfl)(bZ:(Qy pos (Wa es X.env)).any (·.1)=false:=by rfl):PE X (.Call (.Name x p) (e::es) [] pos) (B6 r t):=by intros Q I h;refine JI (mL I hg hm hv ?_ hn dE);exact QT (aZ (ha pos pins s Y H _ I h) λus s1⟨vs,H1,I1,r1,q1⟩=>hc pins s1 Y H1 vs us Q I1 r1 q1) he bZ
end
theorem N9{vs}(ht:IsTup s.heap t vs.toArray)(hb:IsTup s.heap b ws.toArray)(hv:vs≠[])(h1:ws=[]->Q (.ref t) s)(h2:ws≠[]->Q (.ref s.heap.objs.size) 9#(s.heap.push {cls:=.type "tuple",data:=.seq (vs++ws).toArray}))(hsz:vs.length+ws.length<=W9):W6 4#0 A (QW .Add (.ref t) (.ref b)) Q E s:=by
 obtain⟨⟨cls,dd,data,sl⟩,ho,hc,n,hd⟩:=id ht;obtain⟨⟨cls2,mO,data2,lE⟩,ho2,hc2,n2,hd2⟩:=id hb;simp only at hc hd hc2 hd2;subst hc hd hc2 hd2;have e:vs.toArray++ws.toArray=(vs++ws).toArray:=by simp
 by_cases hw:ws=[]
 .exact concat_meets ⟨_,ho,rfl⟩ ⟨_,ho2,rfl⟩ noFill_tuple_add seq_tuple_add PySem.F.slot_tuple_add PySem.F.entry_tuple_add (PySem.F.args_tuple_add_2 _ _) (tuple_addW1 t b vs.toArray ws.toArray n n2 dd mO sl lE (~~~hv) #v[hw]) ⟨ho,ho2,h1 hw⟩
 .refine concat_meets ⟨_,ho,rfl⟩ ⟨_,ho2,rfl⟩ noFill_tuple_add seq_tuple_add PySem.F.slot_tuple_add PySem.F.entry_tuple_add (PySem.F.args_tuple_add_2 _ _) (tuple_addW2 t b vs.toArray ws.toArray n n2 dd mO sl lE (~~~hv) (~~~hw) %[Wn,Wn|hsz]) ⟨ho,ho2,?_⟩;rw[e];exact h2 hw
def aR(n d:Nat):Option Int->Nat|none=>d|some v=>if v<0 then(v+(n:Int)).toNat else min v.toNat n
theorem B7(n d:Nat):aR n d none=d:=rfl
theorem B8(n d k:Nat):aR n d (some (k:Int))=min k n:=by show(if(k:Int)<0 then((k:Int)+(n:Int)).toNat else min (k:Int).toNat n)=min k n;rw[if_neg Y',QS]
theorem wO(n d:Nat)(hd:d<=n)(o:Option Int):aR n d o<=n:=by cases o with|none=>exact hd|some v=>
 show(if v<0 then(v+(n:Int)).toNat else min v.toNat n)<=n;by_cases hv:v<0;.rw[if_pos hv];lia
 .rw[if_neg hv];exact Nat.min_le_right _ _
theorem B9(v:Int)(n d:Nat):(if v<0 then max (v+(n:Int)) 0 else min v (n:Int))=((aR n d (some v):Nat):Int):=by
 show(if v<0 then max (v+(n:Int)) 0 else min v (n:Int))=(((if v<0 then(v+(n:Int)).toNat else min v.toNat n):Nat):Int);by_cases hv:v<0;.simp only[if_pos hv];lia
 .simp only[if_neg hv];lia
theorem N_(lo hi:Option Int)(n:Nat):QI lo hi 1 (n:Int)=(((aR n 0 lo:Nat):Int),((aR n n hi:Nat):Int)):=by
 have h1:¬(1:Int)<0:=by lia
 unfold QI;simp only[h1,if_false];refine Prod.ext ?_ ?_;.cases lo with|none=>rfl|some v=>exact B9 v n 0
 .cases hi with|none=>rfl|some v=>exact B9 v n n
theorem Oa(i j:Nat):Qm (i:Int) (j:Int) 1=j-i:=by
 unfold Qm;have h1:(1:Int)>0:=by lia
 simp only[h1,if_true,Int.ediv_one];split<;>lia
theorem B_{v}(p:IsPart v o)(h:Q o s):W6 4#0 A (Builtin.Slice.slicePartIndex v) Q E s:=by cases p with|none=>exact slicePart_none h|int i t=>exact slicePart_int h
theorem Ca{Q:Int×Int×Nat->W1->Prop}(hs:s.heap.IsSliceOf sl vl vu .none)(pl:IsPart vl lo)(pu:IsPart vu hi)(h:Q (((aR n 0 lo:Nat):Int),1,aR n n hi-aR n 0 lo) s):W6 4#0 A (Jk (.ref sl) (pure (n:Int))) Q E s:=by obtain⟨os,hos,hcs,hds⟩:=id hs;unfold Jk Builtin.Slice.sliceFields;refine W0 (W0 (WF hos hds (x:=vl) rfl (W0 (WF hos hds (x:=vu) rfl (W0 (WF hos hds (x:=.none) rfl (W2 ?_)))))));refine W0 (slicePart_none ?_);show W6 _ _ (if((1:Int)==0)=true then _ else _) _ _ s;rw[if_neg Z'];refine W0 (B_ pl (W0 (B_ pu (W0 (W2 ?_)))));show W6 _ _ (match QI lo hi 1 (n:Int)with|(lo,hi)=>pure (lo,(1:Int),Qm lo hi 1)) _ _ s;rw[N_ lo hi n];show W6 _ _ (pure (((aR n 0 lo:Nat):Int),(1:Int),Qm ((aR n 0 lo:Nat):Int) ((aR n n hi:Nat):Int) 1)) _ _ s;rw[Oa];exact W2 h
theorem Ob(xs:Array Value)(i k:Nat):((Wx k).filterMap λ(m:Nat)=>xs[((i:Int)+(m:Int)*1).toNat]?).toArray=((xs.toList.drop i).take k).toArray:=by
 have e:(λ(m:Nat)=>xs[((i:Int)+(m:Int)*1).toNat]?)=λm=>xs[i+m]?:=by
  funext m;have:((i:Int)+(m:Int)*1).toNat=i+m:=by lia
  rw[this]
 rw[e];have:=pick_run xs i k;rw[List.filterMap_map]at this;have e2:((λx=>xs[x]?)∘λx=>i+x)=λm=>xs[i+m]?:=rfl;rw[e2]at this;rw[this]
theorem Oc{t:Addr}{Q:Value->W1->Prop}(ht:IsTup s.heap t items)(hs:s.heap.IsSliceOf sl vl vu .none)(pl:IsPart vl lo)(pu:IsPart vu hi)(hw:¬(aR items.size 0 lo=0/\aR items.size items.size hi=items.size))(h:Q (.ref s.heap.objs.size) 9#(s.heap.push {cls:=.type "tuple",data:=.seq ((items.toList.drop (aR items.size 0 lo)).take (aR items.size items.size hi-aR items.size 0 lo)).toArray}))(hsz:items.size<=W9):W6 4#0 A (JZ (.ref t) (.ref sl)) Q E s:=by
 have ku:sizeOk (.seq ((items.toList.drop (aR items.size 0 lo)).take (aR items.size items.size hi-aR items.size 0 lo)).toArray):=by show((items.toList.drop (aR items.size 0 lo)).take (aR items.size items.size hi-aR items.size 0 lo)).toArray.size<=W9;rw[Wn,Uo,List.length_drop,Q8];lia
 have hj:aR items.size items.size hi<=items.size:=wO _ _ (W7 _) hi;obtain⟨os,hos,hcs,hds⟩:=id hs;have pV:s.TypeIs (.ref sl) "slice":=⟨os,hos,hcs⟩;unfold JZ;try with_reducible refine WD ?_
 first|refine W0 (W2 ?_)|skip
 refine W0 (wpAny_sequenceKey ht.typeIs Z' ?_);refine W0 (Qi (name:=Str.ofString "__getitem__") ht.typeIs Qs (WY Qs ht.typeIs entry_tuple_getitem ?_ (args_tuple_getitem _ _)));show W6 _ _ (Jl (.ref t)>>=_) _ _ s;refine W0 (tupleItemsOf_ ht ?_);refine W0 (J3 pV ?_);rw[if_pos Z'];refine W0 (Ca hs pl pu ?_);have gx:¬(((aR items.size 0 lo:Nat):Int)==0&&(1:Int)==1&&aR items.size items.size hi-aR items.size 0 lo==items.size)=true:=by intro q;rw[Wr,Wr]at q;have q1:((aR items.size 0 lo:Nat):Int)=0:=eq_of_beq q.1.1;have q2:aR items.size items.size hi-aR items.size 0 lo=items.size:=eq_of_beq q.2;exact hw ⟨Y',Y'⟩
 show W6 _ _ (if(((aR items.size 0 lo:Nat):Int)==0&&(1:Int)==1&&aR items.size items.size hi-aR items.size 0 lo==items.size)=true then _ else _) _ _ s;rw[if_neg gx,Ob];first|exact W0 (m:=Qp _) (WZ (W2 ⟨_,rfl,W2 h⟩) ku)|exact W0 (m:=Qp _) (WZ (W0 (W2 (W2 ⟨_,rfl,W2 h⟩))) ku)|exact W0 (W0 (m:=Qp _) (WZ (W2 (W2 ⟨_,rfl,W2 h⟩)) ku))|exact W0 (W0 (m:=Qp _) (WZ (W2 ⟨_,rfl,W2 h⟩) ku))
abbrev TO:=St->Hp->(Option Int->Hp->Prop)->Prop
def PO(X:Cx)(e:Option Expr)(t:TO):Prop:=∀(pins:List (Addr×Obj))(s:W1)(Y:St)(H:Hp)(Q:Option Int->Hp->Prop),6#0->t Y H Q->W6 5#0 X.A (evalPart e X.env) (λu s'=>∃o H',Inv X pins Y H' s'/\IsPart u o/\Q o H') X.xe s
def Od:TO:=λj H Q=>Q none H
def Oe(t:TE):TO:=λY H Q=>t Y H λx H1=>∃i,x=.int i/\Q (some i) H1
section
variable{lo hi:Option Expr}{tl th:TO}{p2:Pos}
theorem Of:PO X none Od:=by intros Q I h;rw[evalPart_none];exact W2 ⟨none,H,I,.none,h⟩
theorem Og(h:PE X e te):PO X (some e) (Oe te):=by intros Q I hw;rw[evalPart_some];refine aZ (h pins s Y H _ I hw) λu s1 hh=>?_;obtain⟨x,H1,I1,r1,q1⟩:=hh;obtain⟨i,rfl,q⟩:=q1;obtain⟨t,rfl⟩:=r1;exact⟨some i,H1,I1,.int i t,q⟩
def jX(X:Cx)(r:V->Option Int->Option Int->Hp->VK->Prop):Prop:=∀(pins:List (Addr×Obj))(s:W1)(Y:St)(H:Hp)(x:V)(v vl vu:Value)(lo hi:Option Int)(sl:Addr)(Q:VK),6#0->RelV x v->s.heap.IsSliceOf sl vl vu .none->IsPart vl lo->IsPart vu hi->r x lo hi H Q->∃T id,typeLookup (.type T) "__getitem__"=pure (some (.builtin id))/\s.TypeIs v T/\W6 5#0 X.A (JZ v (.ref sl)) (EP X pins Y Q) X.xe s
theorem jX.or(h:jX X r)(h':jX X r'):jX X λx lo hi H Q=>r x lo hi H Q\/r' x lo hi H Q:=by
 intros x v vl vu lo hi sl Q I rx hs pl pu q;rcases q with q|q;.exact h pins s Y H x v vl vu lo hi sl Q I rx hs pl pu q
 .exact h' pins s Y H x v vl vu lo hi sl Q I rx hs pl pu q
def Oh(r:V->Option Int->Option Int->Hp->VK->Prop)(te:TE)(tl th:TO):TE:=λY H Q=>te Y H λx H1=>tl Y H1 λl H2=>th Y H2 λu H3=>r x l u H3 Q
theorem Cb(hr:jX X r)(he:PE X e te)(hl:PO X lo tl)(hu:PO X hi th):PE X (.Subscript e (.Slice lo hi none p2) pos) (Oh r te tl th):=by intros Q I h;refine Subscript_ (aZ (he pins s Y H _ I h) λv s1 hh=>?_);obtain⟨x,H1,I1,r1,q1⟩:=hh;refine wpAny_Slice (aZ (hl pins s1 Y H1 _ I1 q1) λvl s2⟨l,H2,I2,pl,q2⟩=>aZ (hu pins s2 Y H2 _ I2 q2) λvu s3 hh=>?_);obtain⟨u,H3,I3,pu,q3⟩:=hh;rw[evalPart_none];refine W2 ?_;have I4:Inv X pins Y H3 {s3 with heap:=s3.heap.push {cls:=.type "slice",data:=.fields #[vl,vu,.none]}}:=I3.kept (t':=s3.toks) λb ob q=>W5 _ q;obtain⟨T,id,hT,ht,hg⟩:=hr pins {s3 with heap:=s3.heap.push {cls:=.type "slice",data:=.fields #[vl,vu,.none]}} Y H3 x v vl vu l u s3.heap.objs.size Q I4 r1 (Heap.IsSliceOf.new ..) pl pu q3;show W6 5#0 X.A (subscriptTail e (.Slice lo hi none p2) v (.ref s3.heap.objs.size)) (EP X pins Y Q) X.xe {s3 with heap:=s3.heap.push {cls:=.type "slice",data:=.fields #[vl,vu,.none]}};exact tail_any (ops:=[.ref s3.heap.objs.size,v]) ht hT hg (by with_unfolding_all rfl)
def lF(xs:List V)(lo hi:Option Int):List V:=(xs.drop (aR xs.length 0 lo)).take (aR xs.length xs.length hi-aR xs.length 0 lo)
theorem Cc(xs:List V)(lo hi:Option Int):(lF xs lo hi).length<=xs.length:=by unfold lF;rw[Uo,List.length_drop];lia
def Oi(K:W3):V->Option Int->Option Int->Hp->VK->Prop:=λx lo hi H Q=>∃a xs,x=.ref a/\cK K H a xs/\¬(aR xs.length 0 lo=0/\aR xs.length xs.length hi=xs.length)/\∀p,H p=none->Q (.ref p) (upd H p (.tup (lF xs lo hi)))
theorem Oj:jX X (Oi X.K):=by intros x v vl vu lo hi sl Q I rx hs pl pu h;obtain⟨a,xs,rfl,hx,hw,q⟩:=h;cases rx;obtain⟨its,r,ht,hz⟩:=I.tuple hx;have hlen:its.toArray.size=xs.length:=%[Wn|r.length.symm];refine⟨"tuple",_,PyProof.Rows.slot_tuple_getitem.lookup,ht.typeIs,?_⟩;refine Oc ht hs pl pu %[hlen|hw] ?_ %[hlen|hz];rw[hlen];refine⟨.ref s.heap.objs.size,_,I.laid (t':=s.toks) (o:=.tup (lF xs lo hi)) (λb ob q=>W5 _ q) (W7 _) ?_,rfl,q _ (I.aB.fresh (W7 _))⟩;exact⟨Wy (Cc xs lo hi) hz,_,(r.drop (aR xs.length 0 lo)).take (aR xs.length xs.length hi-aR xs.length 0 lo),iS.new _ _⟩
def Cd(K:W3):R2:=λx y H Q=>∃a b xs ys,x=.ref a/\y=.ref b/\cK K H a xs/\cK K H b ys/\xs≠[]/\xs.length+ys.length<=W9/\(ys=[]->Q (.ref a) H)/\(ys≠[]->∀p,H p=none->Q (.ref p) (upd H p (.tup (xs++ys))))
theorem Vals.wQ{xs}(r:Vals xs us):us=[]↔xs=[]:=by cases r with|nil=>simp|cons _ _=>simp
theorem Ol:bw X (QW .Add) (Cd X.K):=by intros x y v u Q I rx ry h;obtain⟨a,b,xs,ys,rfl,rfl,ha,hb,hx,hz,q1,q2⟩:=h;cases rx;cases ry;obtain⟨its,r1,p1,_⟩:=I.tuple ha;obtain⟨its2,r2,p2,_⟩:=I.tuple hb;refine N9 p1 p2 (λz=>hx (r1.wQ.mp z)) (λz=>⟨.ref a,H,I,rfl,q1 (r2.wQ.mp z)⟩) (λz=>?_) (by rw[<-r1.length,<-r2.length];exact hz);refine⟨.ref s.heap.objs.size,_,I.laid (t':=s.toks) (o:=.tup (xs++ys)) (λb ob q=>W5 _ q) (W7 _) ?_,rfl,q2 (λw=>z (r2.wQ.mpr w)) _ (I.aB.fresh (W7 _))⟩;exact⟨%[Qc|hz],_,r1.append r2,iS.new _ _⟩
end
def e_(n:Nat)(i:Int):Option Nat:=if 0<=i then if i<n then some i.toNat else none else if-(n:Int)<=i then some (i+n).toNat else none
def ff{α:Type}(xs:List α)(i:Int):Option α:=(e_ xs.length i).bind λj=>xs[j]?
theorem Ce{i}(h:e_ n i=some j):seqIndex? i n=some j/\j<n/\-(n:Int)<=i/\i<n:=by
 unfold e_ at h;by_cases h0:0<=i
 .rw[if_pos h0]at h;by_cases h1:i<n;.rw[if_pos h1]at h;have e:i.toNat=j:=WL h;exact⟨by rw[seqIndex_of h0 h1,e],Y',Y',h1⟩
  .rw[if_neg h1]at h;cases h
 .rw[if_neg h0]at h;by_cases h1:-(n:Int)<=i;.rw[if_pos h1]at h;have e:(i+n).toNat=j:=WL h;exact⟨by rw[seqIndex_neg Y' h1,e],Y',h1,Y'⟩
  .rw[if_neg h1]at h;cases h
theorem wR{α:Type}{xs:List α}{i v}(h:ff xs i=some v):∃j,seqIndex? i xs.length=some j/\xs[j]?=some v/\j<xs.length/\-(xs.length:Int)<=i/\i<xs.length:=by unfold ff at h;cases e:e_ xs.length i with|none=>rw[e]at h;cases h|some j=>rw[e]at h;obtain⟨h1,h2,h3,h4⟩:=Ce e;exact⟨j,h1,h,h2,h3,h4⟩
def wU(b:Expr):Prop:=∀o i,subscripted b false o i=operate [o,i] (JZ o i)
def ip(X:Cx)(r:R2):Prop:=∀(value slice:Expr)(pins:List (Addr×Obj))(s:W1)(Y:St)(H:Hp)(x y:V)(v u:Value)(Q:VK),6#0->RelV x v->RelV y u->r x y H Q->subscripted slice false v u=operate [v,u] (JZ v u)->W6 5#0 X.A (subscriptTail value slice v u) (EP X pins Y Q) X.xe s
def pW(X:Cx)(id:String)(r:V->List V->Hp->VK->Prop):Prop:=∀(pins:List (Addr×Obj))(s:W1)(Y:St)(H:Hp)(x:V)(xs:List V)(v:Value)(us:List Value)(Q:VK),6#0->RelV x v->Vals xs us->r x xs H Q->W6 5#0 X.A (call (.builtin id) (v::us)) (EP X pins Y Q) X.xe s
section
variable{a b:Expr}{tb:TE}
theorem ip.or(h:ip X r)(h':ip X r'):ip X λx y H Q=>r x y H Q\/r' x y H Q:=by
 intro value slice pins s Y H x y v u Q I rx ry q hs;rcases q with q|q;.exact h value slice pins s Y H x y v u Q I rx ry q hs
 .exact h' value slice pins s Y H x y v u Q I rx ry q hs
theorem Cf(hr:ip X r)(ha:PE X a ta)(hb:PE X b tb)(hs:wU b):PE X (.Subscript a b pos) (mM r ta tb):=by intros Q I h;exact Subscript_ (wA ha hb I h λv u s2 x y H2 I2 rx ry q=>hr a b pins s2 Y H2 x y v u Q I2 rx ry q (hs _ _))
def Cg(K:W3):R2:=λx y H Q=>∃p xs i v,x=.ref p/\y=.int i/\cp K H p xs/\ff xs i=some v/\Q v H
def Ci(K:W3):R2:=λx y H Q=>∃p xs i v,x=.ref p/\y=.int i/\cK K H p xs/\ff xs i=some v/\Q v H
def Cj:R2:=λx y H Q=>∃z i c,x=.str z/\y=.int i/\z.length<=W9/\ff z.cps.toList i=some c/\Q (.str ⟨#[c]⟩) H
theorem Om:ip X (Cg X.K):=by
 intro value slice pins s Y H x y v u Q I rx ry h hs;obtain⟨p,xs,i,z,rfl,rfl,hq,he,q⟩:=h;cases rx;obtain⟨t,rfl⟩:=ry;obtain⟨its,r,pl,hz⟩:=I.list hq;obtain⟨j,h1,h2,h3,h4,h5⟩:=wR he;obtain⟨w,ew,b_⟩:=r.get h2;have hl:=r.length;have hn:=n9;have fin:EP X pins Y Q w s:=⟨z,H,I,b_,q⟩;by_cases h0:0<=i
 .have hj:i.toNat=j:=by rw[seqIndex_of h0 h5]at h1;exact WL h1
  exact item_listR pl.isList h0 Y' (by rw[hj];simpa using ew) fin hs
 .have hj:(i+(its.toArray.size:Int)).toNat=j:=by rw[seqIndex_neg Y' h4]at h1;rw[Wn,<-hl];exact WL h1
  exact subscriptTail_builtinR (x:=w) pl.isList.typeIs slot_list_getitem.lookup (wpAny_getItem_list_neg (Q:=λr s'=>r=w/\EP X pins Y Q r s') pl.isList Y' (by rw[Wn]<;>lia) Y' (by rw[hj];simpa using ew) ⟨rfl,fin⟩) hs
theorem Oo:ip X (Ci X.K):=by intro value slice pins s Y H x y v u Q I rx ry h hs;obtain⟨p,xs,i,z,rfl,rfl,hq,he,q⟩:=h;cases rx;obtain⟨t,rfl⟩:=ry;obtain⟨its,r,pl,hz⟩:=I.tuple hq;obtain⟨j,h1,h2,h3,h4,h5⟩:=wR he;obtain⟨w,ew,b_⟩:=r.get h2;have hl:=r.length;have hn:=n9;have fin:EP X pins Y Q w s:=⟨z,H,I,b_,q⟩;exact subscriptTail_builtinR (x:=w) pl.typeIs slot_tuple_getitem.lookup (getItem_tuple (j:=j) (Q:=λr s'=>r=w/\EP X pins Y Q r s') pl Y' Y' (by rw[Wn,<-hl];exact h1) (~~~ew) ⟨rfl,fin⟩) hs
theorem Oq:ip X Cj:=by intro value slice pins s Y H x y v u Q I rx ry h hs;obtain⟨z,i,c,rfl,rfl,hz,he,q⟩:=h;obtain⟨t,rfl⟩:=rx;obtain⟨t',rfl⟩:=ry;obtain⟨j,h1,h2,h3,h4,h5⟩:=wR he;have hl:z.cps.toList.length=z.length:=#v[Str.length];rw[hl]at h1 h4 h5;have hn:=n9;exact tail_any (typeIs_str s z t) slot_str_getitem.lookup (getItem_str (c:=c) (by have e1:decide (i< -(2^63:Int))=false:=decide_eq_false Y';have e2:decide (i≥2^63)=false:=decide_eq_false Y';rw[e1,e2,Bool.or_false]) (by rw[h1];simpa using h2) ⟨.str ⟨#[c]⟩,H,I.tok _,⟨_,rfl⟩,q⟩) hs
def tG(K:W3):R2:=λx y H Q=>Cg K x y H Q\/Ci K x y H Q\/Cj x y H Q
theorem wV:ip X (tG X.K):=Om.or (Oo.or Oq)
theorem Ot(its:List Value)(n j:Nat)(u:Value):Obj.mapSeq (·.setIfInBounds j u) {cls:=.type "list",data:=.seq its.toArray n}={cls:=.type "list",data:=.seq (its.set j u).toArray n}:=by simp[Obj.mapSeq]
theorem Inv.lst{X pins Y H s p xs}(I:6#0)(h:H p=some (.lst xs)):∃(its:List Value)(n:Nat),Vals xs its/\s.heap.get? p=some {cls:=.type "list",data:=.seq its.toArray n}/\xs.length<=W9:=by obtain⟨z,its,n,r,e⟩:=I.aB p _ h;exact⟨its,n,r,e,z⟩
theorem Inv.Ou{p:Addr}{xs ys:List V}{its its':List Value}{n n':Nat}{f:Obj->Obj}(I:6#0)(h:H p=some (.lst xs))(ho:s.heap.get? p=some {cls:=.type "list",data:=.seq its.toArray n})(hf:f {cls:=.type "list",data:=.seq its.toArray n}={cls:=.type "list",data:=.seq its'.toArray n'})(r:Vals ys its')(hz:ys.length<=W9)(t:Nat):Inv X pins Y (upd H p (.lst ys)) {s with heap:=s.heap.update p f,toks:=t}:=by
 have e:(s.heap.update p f).get? p=some {cls:=.type "list",data:=.seq its'.toArray n'}:=by rw[Qh f ho (by rw[hf]<;>rfl),hf]
 refine I.write (x:=p) (e:=p) (by rw[h];trivial) (.inl rfl) (λb u hb q=>(Q5 _ _ (Ne.symm hb)).trans q) ⟨_,e⟩ ?_;exact⟨hz,its',n',r,e⟩
def Ov:V->V->V->Hp->(Hp->Prop)->Prop:=λo i v H Q=>∃p xs k j,o=.ref p/\i=.int k/\H p=some (.lst xs)/\e_ xs.length k=some j/\Q (upd H p (.lst (xs.set j v)))
theorem Ow:Bv X Ov:=by
 intros o i v ov iv u Q I ro ri rv h;obtain⟨p,xs,k,j,rfl,rfl,hp,hj,q⟩:=h;cases ro;obtain⟨t,rfl⟩:=ri;obtain⟨its,n,r,ho,hz⟩:=I.lst hp;obtain⟨h1,h2,h3,h4⟩:=Ce hj;have hl:=r.length;have hn:=n9;have I':Inv X pins Y (upd H p (.lst (xs.set j v))) 9#(s.heap.update p (Obj.mapSeq (·.setIfInBounds j u))):=I.Ou hp ho (Ot its n j u) (r.set rv j) %[U6|hz] s.toks;by_cases h0:0<=k
 .have hk:k.toNat=j:=by rw[seqIndex_of h0 h4]at h1;exact WL h1
  exact PySem.W.ki_setAt ho h0 Y' (by rw[Wn,<-hl];exact h4) (by rw[hk];exact⟨_,I',q⟩)
 .have hk:(k+(its.toArray.size:Int)).toNat=j:=by rw[seqIndex_neg Y' h3]at h1;rw[Wn,<-hl];exact WL h1
  exact PySem.W.ki_setBack ho Y' (by rw[Wn,<-hl];exact h3) Y' (by rw[hk];exact⟨_,I',q⟩)
theorem Ox(lo hi:Option Int)(n:Nat):(U0 lo hi none n).1=((aR n 0 lo:Nat):Int)/\(U0 lo hi none n).2.1=((aR n n hi:Nat):Int)/\(U0 lo hi none n).2.2=1:=by
 refine⟨?_,?_,rfl⟩;.cases lo with|none=>simp[U0,aR]|some i=>
   simp only[U0,aR,Option.getD_none,show(1:Int)>0 by decide,if_true];by_cases h:i<0;.simp only[h,if_true]<;>lia
   .simp only[h,if_false]<;>lia
 .cases hi with|none=>simp[U0,aR]|some i=>
 simp only[U0,aR,Option.getD_none,show(1:Int)>0 by decide,if_true];by_cases h:i<0;.simp only[h,if_true]<;>lia
 .simp only[h,if_false]<;>lia
theorem Oy(its:List Value)(lo hi:Option Int):slicePick its.toArray lo hi none=((its.drop (aR its.length 0 lo)).take (aR its.length its.length hi-aR its.length 0 lo)).toArray:=by obtain⟨h1,h2,h3⟩:=Ox lo hi its.toArray.size;unfold slicePick;rw[h1,h2,h3];simp only[sliceRange_one,pick_run,Wn]<;>rfl
def Ck(K:W3):V->Option Int->Option Int->Hp->VK->Prop:=λx lo hi H Q=>∃a xs,x=.ref a/\cp K H a xs/\∀p,H p=none->Q (.ref p) (upd H p (.lst (lF xs lo hi)))
theorem Oz:jX X (Ck X.K):=by intros x v vl vu lo hi sl Q I rx hs pl pu h;obtain⟨a,xs,rfl,hx,q⟩:=h;cases rx;obtain⟨its,r,ht,hz⟩:=I.list hx;have hlen:=r.length;refine⟨"list",_,slot_list_getitem.lookup,ht.isList.typeIs,?_⟩;refine wpAny_getItem_list_slice ht.isList hs pl pu .none V' ?_ (by rw[Wn]<;>lia);rw[Oy,<-hlen];refine⟨.ref s.heap.objs.size,_,I.laid (t':=s.toks) (o:=.lst (lF xs lo hi)) (λb ob q=>W5 _ q) (W7 _) ?_,rfl,q _ (I.aB.fresh (W7 _))⟩;exact⟨Wy (Cc xs lo hi) hz,_,0,(r.drop (aR xs.length 0 lo)).take (aR xs.length xs.length hi-aR xs.length 0 lo),We _ rfl⟩
def kz:V->Bool|.aD=>true|.bl _=>true|.int _=>true|.str _=>true|_=>false
def lG:V->V->Bool|.aD,.aD=>true|.bl a,.bl b=>a==b|.bl a,.int b=>(if a then 1 else 0)==b|.int a,.bl b=>a==if b then 1 else 0|.int a,.int b=>a==b|.str a,.str b=>a==b|_,_=>false
theorem OA{v}(ry:RelV y u)(rx:RelV x v)(fy:kz y=true)(fx:kz x=true):SeqAt.EqAt A s u v (lG y x):=by cases y with
 |aD=>cases ry;cases x with|aD=>cases rx;exact SeqAt.EqAt.same _|bl b=>cases rx;exact SeqAt.EqAt.none_bool b|int b=>obtain⟨t,rfl⟩:=rx;exact SeqAt.EqAt.none_int b t|str b=>obtain⟨t,rfl⟩:=rx;exact SeqAt.EqAt.none_str b t|_=>exact absurd (show false=true from fx) WR
 |bl a=>cases ry;cases x with|aD=>cases rx;exact SeqAt.EqAt.bool_none a|bl b=>cases rx;exact SeqAt.EqAt.bool_bool a b|int b=>obtain⟨t,rfl⟩:=rx;exact SeqAt.EqAt.bool_int a b t|str b=>obtain⟨t,rfl⟩:=rx;exact SeqAt.EqAt.bool_str a b t|_=>exact absurd (show false=true from fx) WR
 |int a=>obtain⟨t',rfl⟩:=ry;cases x with|aD=>cases rx;exact SeqAt.EqAt.int_none a t'|bl b=>cases rx;exact SeqAt.EqAt.int_bool a t' b|int b=>obtain⟨t,rfl⟩:=rx;exact SeqAt.EqAt.int_int a t' b t|str b=>obtain⟨t,rfl⟩:=rx;exact SeqAt.EqAt.int_str a t' b t|_=>exact absurd (show false=true from fx) WR
 |str a=>obtain⟨t',rfl⟩:=ry;cases x with|aD=>cases rx;exact SeqAt.EqAt.str_none a t'|bl b=>cases rx;exact SeqAt.EqAt.str_bool a t' b|int b=>obtain⟨t,rfl⟩:=rx;exact SeqAt.EqAt.str_int a t' b t|str b=>obtain⟨t,rfl⟩:=rx;exact SeqAt.EqAt.str_str a t' b t|_=>exact absurd (show false=true from fx) WR
 |_=>exact absurd (show false=true from fy) WR
def kB(x:V)(u:Value):Bool:=match u with|.none=>lG .aD x|.bool b=>lG (.bl b) x|.int i _=>lG (.int i) x|.str z _=>lG (.str z) x|_=>false
theorem Cm(r:RelV y u)(f:kz y=true):kB x u=lG y x:=by cases y with|aD=>cases r;rfl|bl b=>cases r;rfl|int i=>obtain⟨t,rfl⟩:=r;rfl|str z=>obtain⟨t,rfl⟩:=r;rfl|_=>exact absurd (show false=true from f) WR
theorem wW:∀{xs:List V}{us:List Value},Vals xs us->xs.all kz=true->us.any (kB x)=xs.any λy=>lG y x|_,_,.nil,_=>rfl|y::xs,u::us,.cons r t,f=>by rw[Um,Wr]at f;rw[QF,QF,Cm r f.1,wW t f.2]
theorem wX{v}(rx:RelV x v)(fx:kz x=true):∀{xs:List V}{us:List Value},Vals xs us->xs.all kz=true->∀u∈us,SeqAt.EqAt A s u v (kB x u)
 |_,_,.nil,_=>λu hu=>by cases hu|y::xs,u::us,.cons r t,f=>λu' hu=>by
  rw[Um,Wr]at f;rcases Wq.mp hu with rfl|hu;.rw[Cm r f.1];exact OA r rx f.1 fx
  .exact wX rx fx t f.2 u' hu
def tH(x:V)(xs:List V):Bool:=xs.any λy=>lG y x
def Co(K:W3)(neg:Bool):R2:=λx y H Q=>∃p xs,y=.ref p/\(cp K H p xs\/cK K H p xs)/\kz x=true/\xs.all kz=true/\Q (.bl (if neg then !tH x xs else tH x xs)) H
theorem OB:bw X (WC .NotIn) (Co X.K true):=by
 intros x y v u Q I rx ry h;obtain⟨p,xs,rfl,hq,fx,fs,q⟩:=h;cases ry;rcases hq with hq|hq;.obtain⟨its,r,pl,hz⟩:=I.list hq;refine SeqAt.notIn_listAt (kB x) pl.isList (λw hw=>wX rx fx r fs w (~~~hw)) ⟨.bl _,H,I,rfl,?_⟩;rw[show its.toArray.any (kB x)=its.any (kB x)by simp,wW r fs];exact q
 .obtain⟨its,r,pl,hz⟩:=I.tuple hq;refine SeqAt.notIn_tupleAt (kB x) pl (λw hw=>wX rx fx r fs w (~~~hw)) ⟨.bl _,H,I,rfl,?_⟩;rw[show its.toArray.any (kB x)=its.any (kB x)by simp,wW r fs];exact q
theorem OC:dM X (.builtin "len") λxs H Q=>∃p ys,xs=[.ref p]/\(cp X.K H p ys\/cK X.K H p ys)/\Q (.int ys.length) H:=by
 intros xs us Q I r h;obtain⟨p,ys,rfl,hq,q⟩:=h;obtain⟨u,rfl,rx⟩:=fQ r;cases rx;have hn:=n9;rcases hq with hq|hq;.obtain⟨its,r',pl,hz⟩:=I.list hq;have hlen:=r'.length;exact Calls.call_len_list pl.isList (by simp only[Wn]<;>lia) ⟨.int ys.length,H,I.tok _,⟨s.toks+1,by rw[Wn,hlen]⟩,q⟩
 .obtain⟨its,r',pl,hz⟩:=I.tuple hq;have hlen:=r'.length;exact len_tuple pl (by simp only[Wn]<;>lia) ⟨.int ys.length,H,I.tok _,⟨s.toks+1,by rw[Wn,hlen]⟩,q⟩
theorem OE:dM X (.builtin "len") λxs H Q=>∃z,xs=[.str z]/\z.length<=W9/\Q (.int z.length) H:=by intros xs us Q I r h;obtain⟨z,rfl,hz,q⟩:=h;obtain⟨u,rfl,t,rfl⟩:=fQ r;have hn:=n9;exact len_str Y' ⟨.int z.length,H,I.tok _,⟨_,rfl⟩,q⟩
theorem dM.or{f}(h:dM X f r)(h':dM X f r'):dM X f λxs H Q=>r xs H Q\/r' xs H Q:=by
 intros xs us Q I rs q;rcases q with q|q;.exact h pins s Y H xs us Q I rs q
 .exact h' pins s Y H xs us Q I rs q
theorem OF:dM X (.type "list") λxs H Q=>∃p ys,xs=[.ref p]/\(cp X.K H p ys\/cK X.K H p ys)/\∀l,H l=none->Q (.ref l) (upd H l (.lst ys)):=by
 intros xs us Q I r h;obtain⟨p,ys,rfl,hq,q⟩:=h;obtain⟨u,rfl,rx⟩:=fQ r;cases rx;have fin:∀(its:List Value),Vals ys its->ys.length<=W9->∀(h':Heap)(c':Nat),(∀b o',s.heap.get? b=some o'->h'.get? b=some o')->h'.get? s.heap.objs.size=some {cls:=.type "list",dict:=none,data:=.seq its.toArray c',slots:=#[]}->EP X pins Y Q (.ref s.heap.objs.size) 9#h':=λits r' hz h' c' kp e=>⟨.ref s.heap.objs.size,_,I.laid (t':=s.toks) kp (W7 _) (show bz X.prog X.w _ h' _ (.lst ys)from⟨hz,its,c',r',e⟩),rfl,q _ (I.aB.fresh (W7 _))⟩;rcases hq with hq|hq;.obtain⟨its,r',pl,hz⟩:=I.list hq;have hlen:=r'.length;obtain⟨o,ho,hc,n,hd⟩:=pl.isList;exact call_list_seq p (.inl rfl) ho hc hd (λh' c' kp e=>fin its r' hz h' c' kp e) (by simp only[Wn]<;>lia)
 .obtain⟨its,r',pl,hz⟩:=I.tuple hq;have hlen:=r'.length;obtain⟨o,ho,hc,n,hd⟩:=pl;exact call_list_seq p (.inr rfl) ho hc hd (λh' c' kp e=>fin its r' hz h' c' kp e) (by simp only[Wn]<;>lia)
theorem OG:dM X (.type "tuple") λxs H Q=>∃p ys,xs=[.ref p]/\((cp X.K H p ys/\∀l,H l=none->Q (.ref l) (upd H l (.tup ys)))\/cK X.K H p ys/\Q (.ref p) H):=by
 intros xs us Q I r h;obtain⟨p,ys,rfl,h⟩:=h;obtain⟨u,rfl,rx⟩:=fQ r;cases rx;rcases h with⟨hq,q⟩|⟨hq,q⟩;.obtain⟨its,r',pl,hz⟩:=I.list hq;have hlen:=r'.length;refine call_tuple_list pl.isList (λh' kp=>?_) (by simp only[Wn]<;>lia);have I1:Inv X pins Y H 9#h':=I.kept (t':=s.toks) kp;have I2:Inv X pins Y (upd H h'.objs.size (.tup ys)) 9#(h'.push {cls:=.type "tuple",data:=.seq its.toArray}):=I1.laid (t':=s.toks) (λb o e=>W5 _ e) (W7 _) (show bz X.prog X.w _ _ _ (.tup ys)from⟨hz,its,r',iS.new _ _⟩);exact⟨.ref h'.objs.size,_,I2,rfl,q _ (I1.aB.fresh (W7 _))⟩
 .obtain⟨its,r',pl,hz⟩:=I.tuple hq;exact call_tuple_same pl ⟨.ref p,H,I,rfl,q⟩
def pX(K:W3)(T:String)(x:V)(H:Hp):Prop:=match x with|.str _=>T="str"|.int _=>T="int"|.ref p=>(T="list"/\∃xs,cp K H p xs)\/(T="tuple"/\∃o,K.lookup p=some o/\o.cls=.type "tuple"/\o.dict=none)\/T="dict"/\((∃aw,H p=some (.dK aw))\/∃aw,H p=some (.dT aw))\/T="set"/\∃S n,H p=some (.set S n)|_=>False
theorem OH{v}(I:6#0)(r:RelV x v)(ty:pX X.K T x H):s.TypeIs v T/\∀a,v=.ref a->∃ob,s.heap.get? a=some ob/\ob.dict=none:=by
 cases x with|str z=>obtain⟨t,rfl⟩:=r;cases show T="str"from ty;exact⟨typeIs_str s z t,λj e=>nomatch e⟩|int i=>obtain⟨t,rfl⟩:=r;cases show T="int"from ty;exact⟨typeIs_int s i t,λj e=>nomatch e⟩|ref p=>
  cases r;rcases ty with⟨rfl,xs,hq⟩|⟨rfl,o,hk,hc,hd⟩|⟨rfl,hk⟩|⟨rfl,S,n,hk⟩;.obtain⟨its,_,pl,_⟩:=I.list hq;refine⟨pl.isList.typeIs,λa e=>?_⟩;cases e;obtain⟨o,n,e,c,hd,_⟩:=pl;exact⟨o,e,hd⟩
  .refine⟨⟨o,I.dI p o hk,hc⟩,λa e=>?_⟩;cases e;exact⟨o,I.dI _ o hk,hd⟩
  .have z:∃o,s.heap.get? p=some o/\o.ExactDict:=by
    rcases hk with⟨aw,hk⟩|⟨aw,hk⟩;.obtain⟨_,_,_,_,o,_,_,e,ex,_⟩:=I.aB p _ hk;exact⟨o,e,ex⟩
    .obtain⟨_,_,_,_,o,_,_,e,ex,_⟩:=I.aB p _ hk;exact⟨o,e,ex⟩
   obtain⟨o,e,ex⟩:=z;refine⟨⟨o,e,ex.1⟩,λa e2=>?_⟩;cases e2;exact⟨o,e,ex.2.1⟩
  .obtain⟨o,_,_,_,e,ex,_⟩:=I.aB p _ hk;refine⟨⟨o,e,ex.1⟩,λa e2=>?_⟩;cases e2;exact⟨o,e,ex.2.1⟩|_=>exact False.elim ty
def Cp(K:W3)(T:String)(r:V->List V->Hp->VK->Prop)(to:TE)(t:TA):TE:=λY H Q=>to Y H λx H1=>pX K T x H1/\t Y H1 λxs H2=>r x xs H2 Q
variable{o:Expr}{to:TE}{t:TA}{T id:String}{r:V->List V->Hp->VK->Prop}
theorem pY(pa:PlainAttrs T)(slot:Slot T name id)(OI:typeOf (.builtin id)=pure (.type "method_descriptor"))(hm:pW X id r)(ho:PE X o to)(ha:PA X (e::es) t)(jr:JX o name X.env (eval o X.env)=eval o X.env:=by rfl)(js:((Qy bV (Wa (e::es) X.env)).all (λx=>!x.1)&&(backToKw bV (Ul [] X.env)).all (λx=>x.1.isSome)&&decide ((e::es).length+([]:List Keyword).length+(if([]:List Keyword).isEmpty then 0 else 1)<30))=true:=by rfl)(jt:(apos.endLine==bV.line)=true:=by rfl)(hs:Wa (e::es) X.env=(false,eval e X.env)::Wa es X.env:=by rfl)(OJ:(Qy bV (Wa es X.env)).any (·.1)=false:=by rfl):PE X (.Call (.Attribute o name apos) (e::es) [] bV) (Cp X.K T r to t):=by intros Q I h;refine wpAny_Call_method_late jr js jt rfl (aZ (ho pins s Y H _ I h) λv s1 hh=>?_);obtain⟨x,H1,I1,r1,ty,q1⟩:=hh;obtain⟨h1,h2⟩:=OH I1 r1 ty;refine⟨T,id,pa,slot,OI,h1,h2,?_⟩;have hA:=ha bV pins s1 Y H1 _ I1 q1;rw[hs]at hA⊢;refine Calls.callWith_builtin (by show(false||(Qy bV (Wa es X.env)).any (·.1))=false;rw[OJ]<;>rfl) (Calls.evalArgs_plain ?_);exact aZ hA λus s2⟨vs,H2,I2,r2,q2⟩=>hm pins s2 Y H2 x vs v us Q I2 r1 r2 q2
end
def OK(X:Cx)(id:String)(r:V->List V->Hp->VK->Prop):Prop:=∀(pins:List (Addr×Obj))(s:W1)(Y:St)(H:Hp)(x:V)(xs:List V)(v:Value)(us:List Value)(Q:VK),6#0->RelV x v->Vals xs us->r x xs H Q->W6 5#0 X.A (call (.builtin id) (v::us)) (EP X pins Y Q) X.xe s
theorem Vals.one{x:V}{us:List Value}(h:Vals [x] us):∃u,us=[u]/\RelV x u:=by cases h with|cons r t=>cases t;exact⟨_,rfl,r⟩
theorem Vals.two{x y:V}{us:List Value}(h:Vals [x,y] us):∃u v,us=[u,v]/\RelV x u/\RelV y v:=by cases h with|cons r t=>obtain⟨u,rfl,q⟩:=Vals.one t;exact⟨_,_,rfl,r,q⟩
theorem Vals.reverse{xs}(h:Vals xs us):Vals xs.reverse us.reverse:=by induction h with|nil=>exact .nil|cons r t ih=>rw[List.reverse_cons,List.reverse_cons];exact Vals.append ih (.cons r .nil)
section
variable{l b:Addr}{xs ys zs:List V}
theorem Inv.pZ{its its':List Value}{n:Nat}{f:Array Value->Array Value}{t':Nat}(I:6#0)(hH:H l=some (.lst xs))(e:s.heap.get? l=some {cls:=.type "list",data:=.seq its.toArray n})(hf:f its.toArray=its'.toArray)(hv:Vals ys its')(hz:ys.length<=W9):Inv X pins Y (upd H l (.lst ys)) {s with heap:=s.heap.update l (Obj.mapSeq f),toks:=t'}:=by have q:=PySem.IsL.update e f;rw[hf]at q;refine I.write (x:=l) (e:=l) %[hH|trivial] (.inl rfl) (λb' u hb hu=>(Q5 s.heap (Obj.mapSeq f) (Ne.symm hb)).trans hu) ⟨_,q⟩ ?_;exact⟨hz,its',_,hv,q⟩
theorem Inv.wY(I:6#0)(hv:Vals ys its)(hz:ys.length<=W9):Inv X pins Y (upd H s.heap.objs.size (.lst ys)) {s with heap:=s.heap.push {cls:=.type "list",data:=.seq its.toArray},toks:=t'}:=I.laid (λj j q=>W5 _ q) (W7 _) ⟨hz,its,0,hv,We _ rfl⟩
theorem Inv.fresh(I:6#0):H s.heap.objs.size=none:=I.aB.fresh (W7 _)
theorem Inv.OL(I:6#0)(hH:H l=some (.lst xs)):xs.length<=W9/\∃(its:List Value)(n:Nat),Vals xs its/\xs.length=its.length/\s.heap.get? l=some {cls:=.type "list",data:=.seq its.toArray n}:=by obtain⟨z,its,n,r,e⟩:=I.aB l _ hH;exact⟨z,its,n,r,r.length,e⟩
end
def Cq:V->List V->Hp->VK->Prop:=λx vs H Q=>∃l xs y,x=.ref l/\vs=[y]/\H l=some (.lst xs)/\xs.length<W9/\Q .aD (upd H l (.lst (xs++[y])))
theorem Cr:OK X "list.append" Cq:=by intros x vs v us Q I rx rv h;obtain⟨l,xs,y,rfl,rfl,hH,hz,q⟩:=h;cases rx;obtain⟨u,rfl,ru⟩:=(Vals.one rv);obtain⟨z,its,n,r,hl,e⟩:=I.OL hH;refine call_meets F.slot_list_append ⟨_,e,rfl⟩ F.entry_list_append (F.args_list_append_2 _ _) (PySem.list_append l its.toArray n u (by rw[Wn];lia)) ⟨e,?_⟩;refine⟨.aD,_,I.pZ (its':=its++[u]) hH e V' (r.append (.cons ru .nil)) ?_,rfl,q⟩;rw[Qc,List.length_singleton];lia
section
variable{κ:Type}[DecidableEq κ]
def gb(aw:List (κ×V))(k:κ):Option V:=(aw.find? λkv=>decide (kv.1=k)).map (·.2)
def putK(aw:List (κ×V))(k:κ)(v:V):List (κ×V):=if(aw.any λkv=>decide (kv.1=k))=true then aw.map λkv=>if kv.1=k then(kv.1,v)else kv else aw++[(k,v)]
theorem wZ{p:κ×V}{r:List (κ×V)}{k:κ}(e:p.1=k):gb (p::r) k=some p.2:=#v[gb,Qa,e]
theorem w8{p:κ×V}{r:List (κ×V)}{k:κ}(e:¬p.1=k):gb (p::r) k=gb r k:=#v[gb,Qa,e]
theorem Cs(aw:List (κ×V))(k:κ)(v:V):(putK aw k v).length<=aw.length+1:=by
 unfold putK;split;.rw[Wd];lia
 .rw[Qc,WV,U7];lia
theorem fB.Ct{u}(r:fB o u):o.isSome=u.isSome:=by cases o with
 |none=>cases u with|none=>rfl|some _=>exact(show False from r).elim
 |some _=>cases u with|none=>exact(show False from r).elim|some _=>rfl
theorem KV.val{aw:List (κ×V)}{vs:List (κ×Value)}(r:KV aw vs)(k:κ):fB (gb aw k) (valueAt vs k):=by unfold KV at r;induction r with|nil=>exact True.intro|@cons p q ps qs h t ih=>
 obtain⟨h1,h2⟩:=h;by_cases e:p.1=k;.have e':q.1=k:=h1.symm.trans e;have b:valueAt (q::qs) k=some q.2:=#v[valueAt,Qa,e'];rw[wZ e,b];exact h2
 .have e':¬q.1=k:=λz=>e (h1.trans z);have b:valueAt (q::qs) k=valueAt qs k:=#v[valueAt,Qa,e'];rw[w8 e,b];exact ih
theorem KV.any{vs}(r:KV aw vs)(k:κ):(aw.any λkv=>decide (kv.1=k))=vs.any λkv=>decide (kv.1=k):=by unfold KV at r;induction r with|nil=>rfl|cons h t ih=>rw[QF,QF,ih,h.1]
theorem KV.OM{vs}(r:KV aw vs)(k:κ)(ry:RelV y u):KV (aw.map λkv=>if kv.1=k then(kv.1,y)else kv) (vs.map λkv=>if kv.1=k then(kv.1,u)else kv):=by unfold KV at r⊢;induction r with|nil=>exact .nil|@cons p q ps qs h t ih=>
 rw[Wl,Wl];refine .cons ?_ ih;obtain⟨h1,h2⟩:=h;by_cases e:p.1=k;.rw[if_pos e,if_pos (h1.symm.trans e)];exact⟨h1,ry⟩
 .rw[if_neg e,if_neg λz=>e (h1.trans z)];exact⟨h1,h2⟩
theorem KV.put{vs}(r:KV aw vs)(k:κ)(ry:RelV y u):KV (putK aw k y) (stored vs k u):=by
 unfold putK stored;rw[r.any k];by_cases e:(vs.any λkv=>decide (kv.1=k))=true;.rw[if_pos e,if_pos e];exact r.OM k ry
 .rw[if_neg e,if_neg e];exact Paired.snoc r ⟨rfl,ry⟩
theorem KV.length{κ:Type}{aw:List (κ×V)}{vs:List (κ×Value)}(r:KV aw vs):aw.length=vs.length:=Paired.length r
end
theorem p8(r:RelV (kV k) u):(fA P w).is k u=true:=by cases k with|inl i=>obtain⟨t,e⟩:=show∃t,u=Value.int i t from r;subst e;exact MC P w i t|inr x=>obtain⟨t,e⟩:=show∃t,u=Value.str x t from r;subst e;exact MD P w x t
theorem Cu:∀{ks:List Key}{us:List Value},Vals (ks.map kV) us->ItemsAre (fA P w) ks us|[],_,r=>by rw[List.map_nil]at r;cases r;exact .nil|k::ks,_,r=>by rw[Wl]at r;cases r with|cons h t=>exact .cons (p8 h) (Cu t)
abbrev KT(H:Hp):List (List Key×V)->List (List Key×Addr×Value)->Prop:=Paired λp q=>p.1=q.1/\H q.2.1=some (.tup (p.1.map kV))/\RelV p.2 q.2.2
theorem KT.val{H:Hp}{aw:List (List Key×V)}{xs:List (List Key×Addr×Value)}(r:KT H aw xs)(k:List Key):fB (gb aw k) ((atKey xs k).map (·.2)):=by induction r with|nil=>exact True.intro|@cons p q ps qs h t ih=>
 obtain⟨h1,_,h2⟩:=h;by_cases e:p.1=k;.have e':q.1=k:=h1.symm.trans e;have b:atKey (q::qs) k=some q.2:=#v[atKey,Qa,e'];rw[wZ e,b];exact h2
 .have e':¬q.1=k:=λz=>e (h1.trans z);have b:atKey (q::qs) k=atKey qs k:=#v[atKey,Qa,e'];rw[w8 e,b];exact ih
section
variable{h:Heap}{a:Addr}
theorem Cv{u}(ok:cG P w H h)(e:Rd H a u):bz P w H h a u:=e.ok ok
theorem tJ(ok:cG P w H h)(e:Rd H a (.dK aw)):aw.length<=W9/\(a==QH)=false/\∃vs,KV aw vs/\h.DictOf (fA P w) a vs:=show bz P w H h a (.dK aw)from Cv ok e
theorem Cw(ok:cG P w H h)(e:H a=some (.dK aw)):aw.length<=W9/\(a==QH)=false/\∃vs,KV aw vs/\h.DictOf (fA P w) a vs:=tJ ok (.inl e)
theorem w_(ok:cG P w H h)(e:H a=some (.tup (ks.map kV))):(tupleKind (fA P w)).is h ks a:=by obtain⟨_,its,r,p⟩:=show bz P w H h a (.tup (ks.map kV))from ok a _ e;obtain⟨o,h1,h2,n,h3⟩:=p.tup;exact⟨o,its.toArray,n,h1,h2,h3,by simpa using Cu r⟩
theorem Cy(ok:cG P w H h)(e:Rd H a (.dT aw)):aw.length<=W9/\(a==QH)=false/\∃xs,KT H aw xs/\h.DictOfH (tupleKind (fA P w)) a xs:=by
 obtain⟨z,y,xs,r,o,es,ep,h1,h2,h3,h4,h5⟩:=show bz P w H h a (.dT aw)from Cv ok e;refine⟨z,y,xs,r,o,es,ep,h1,h2,h3,h4,λx hx=>?_,h5⟩;have all:∀{l:List (List Key×V)}{m:List (List Key×Addr×Value)},KT H l m->∀x∈m,(tupleKind (fA P w)).is h x.1 x.2.1:=by intro l m q;induction q with|nil=>intro x hx;exact nomatch hx|@cons p q ps qs hq t ih=>
   intro x hx;rcases Wq.mp hx with e|hx;.subst e;exact w_ ok (by rw[<-hq.1];exact hq.2.1)
   .exact ih x hx
 exact all r x hx
end
def og(H:Hp)(a:Addr)(y:V)(r:Option V):Prop:=(∃aw k,Rd H a (.dK aw)/\y=kV k/\r=gb aw k)\/∃aw k b,Rd H a (.dT aw)/\y=.ref b/\H b=some (.tup (k.map kV))/\r=gb aw k
theorem og.k{a:Addr}{aw:List (Key×V)}{k:Key}(e:H a=some (.dK aw)):og H a (kV k) (gb aw k):=.inl ⟨aw,k,.inl e,rfl,rfl⟩
section
variable{a:Addr}{y:V}{r:Value}{o:Option V}
theorem Inv.big(I:6#0):QH<s.heap.objs.size:=by have h:Wv<s.heap.objs.size:=(I.mod.glob.keeps I.bk).lt;exact Nat.lt_trans Z' h
theorem ON(hu:A.units+1<Q3)(I:6#0)(g:og H a y (some v))(ry:RelV y u)(h:∀w' s',Inv X pins Y H s'->RelV v w'->Q w' s'):W6 5#0 A (JZ (.ref a) u) Q E s:=by
 rcases g with⟨aw,k,e,ey,l⟩|⟨aw,k,b,e,ey,eb,l⟩;.subst ey;obtain⟨z,hd,vs,rel,dd⟩:=tJ I.aB e;obtain⟨w',hw,b_⟩:=fB.some_of (v:=v) (o:=valueAt vs k) %[l|rel.val k];exact wpAny_getItem_of (p8 ry) dd.mapOf hw (h w' _ (I.tok _) b_)
 .subst ey;cases show u=Value.ref b from ry;obtain⟨z,hd,xs,rel,dd⟩:=Cy I.aB e;obtain⟨w',hw,b_⟩:=fB.some_of (v:=v) (o:=(atKey xs k).map (·.2)) %[l|rel.val k];obtain⟨p,hp,hp2⟩:=Option.map_eq_some_iff.mp hw;refine wpAny_getItem_heap (tupleKind_room_in1 hu) (w_ I.aB eb) dd hp ?_;rw[hp2];exact h w' _ (I.tok _) b_
theorem OO(hu:A.units+1<Q3)(I:6#0)(g:og H a y o)(ry:RelV y u)(h:∀s',Inv X pins Y H s'->Q (.bool !o.isSome) s'):W6 5#0 A (WC .NotIn u (.ref a)) Q E s:=by
 rcases g with⟨aw,k,e,ey,l⟩|⟨aw,k,b,e,ey,eb,l⟩;.subst ey;obtain⟨z,hd,vs,rel,dd⟩:=tJ I.aB e;refine wpAny_notIn_of (p8 ry) hd dd.mapOf ?_;rw[<-(rel.val k).Ct,<-l];exact h _ (I.tok _)
 .subst ey;cases show u=Value.ref b from ry;obtain⟨z,hd,xs,rel,dd⟩:=Cy I.aB e;refine wpAny_notIn_heap (tupleKind_room_in1 hu) (w_ I.aB eb) hd dd ?_;have q:=(rel.val k).Ct;rw[Option.isSome_map]at q;rw[<-q,<-l];exact h _ (I.tok _)
theorem Cz(I:6#0)(mu:pF (H a))(hs:Jh a s.heap h')(he:∃q,h'.get? a=some q)(new:bz X.prog X.w (upd H a ob) h' a ob):Inv X pins Y (upd H a ob) {s with heap:=h',toks:=t'}:=I.write (x:=a) (e:=a) mu (.inl rfl) (λb q hb z=>(hs.2 b hb).trans z) he new
theorem OP{vs}(z:aw.length<=W9)(hd:(a==QH)=false)(rel:KV aw vs)(dd:h'.DictOf (fA P w) a vs):bz P w H' h' a (.dK aw):=⟨z,hd,vs,rel,dd⟩
end
section
variable{a:Addr}{aw:List (Key×V)}{k:Key}
theorem OQ(I:6#0)(e:Rd H a (.dK aw))(h:∀t s',Inv X pins Y H s'->Q (.int aw.length t) s'):W6 5#0 A (call (.builtin "len") [.ref a]) Q E s:=by obtain⟨z,hd,vs,rel,dd⟩:=tJ I.aB e;refine call_len_dict hd dd (by rw[<-rel.length];rw[Qb]at z;lia) ?_;rw[<-rel.length];exact h _ _ (I.tok _)
end
theorem CA(h:Heap)(hb:QH<h.objs.size):bz P w H (h.push {cls:=.type "dict",data:=.dict #[]}) h.objs.size (.dK []):=⟨Q6 _,beq_eq_false_iff_ne.mpr (Ne.symm (WQ hb)),[],.nil,Heap.DictOf.new h⟩
def OR:TE:=λj H Q=>∀p,H p=none->Q (.ref p) (upd H p (.dK []))
theorem OS:PE X (.Dict [] [] pos) OR:=λpins s Y H Q I h=>wpAny_Dict_empty ⟨.ref s.heap.objs.size,_,I.laid (a:=s.heap.objs.size) (o:=.dK []) (t':=s.toks) (λj j q=>W5 _ q) (W7 _) (CA s.heap I.big),rfl,h _ (I.aB.fresh (W7 _))⟩
section
open PySem.W PySem.Calls
theorem OT{P}:∀(ns:List Int)(vs:List Value),WellAll P h vs (ns.map WData.int)->IntsAre vs ns:=by intro ns;induction ns with|nil=>intro vs w;rw[List.map_nil]at w;cases w;exact .nil|cons n ns ih=>intro vs w;rw[Wl]at w;cases w with|cons a b=>cases a;exact .cons _ _ (ih _ b)
theorem OU{l:OpenLaw}(hn:l.most=some n){P:Params}{h:Heap}{args:List WData}{vals:List Value}(tK:l.row.toRowW.claim.pre args=true)(xf:WellAll P h vals args):∃a vs ns,vals=[Value.ref a]/\args=[WData.list (ns.map WData.int)]/\h.get? a=some {cls:=.type "list",data:=.seq vs.toArray}/\IntsAre vs ns/\ns.length<=n:=by
 have OV:WShape.hasAll [] args [.list .int]=true:=(pre_splitW tK).1;have hc:l.pre.holds [] {args:=args}=true:=(pre_splitW tK).2;obtain⟨d,r,rfl,h1,h2⟩:=hasAllW_cons OV;obtain rfl:=hasAllW_nil h2;obtain⟨xs,rfl,h3⟩:=hasW_list h1;obtain⟨ns,rfl⟩:=items_int h3;have hlen:ns.length<=n:=by
  unfold OpenLaw.pre at hc;have h4:(WTm.not (.lt (.lit (.int (n:Int))) (.len (.arg 0)))).holds [] {args:=[.list (ns.map .int)]}=true:=by have h4:=(holds_andW hc).1;rw[hn]at h4;exact h4
  have h5:=condW_of h4 (w_not (w_lt w_lit (w_len_list (w_arg rfl))));rw[Wd]at h5;refine Nat.le_of_not_lt λq=>?_;have q':(n:Int)<((ns.length:Nat):Int):=by lia
  first|(rw[decide_eq_true q']at h5;exact absurd h5 Z')|(simp at h5;lia)
 cases xf with|cons w1 w2=>cases w2;cases w1 with|list ho hall=>exact⟨_,_,ns,rfl,rfl,ho,OT ns _ hall,hlen⟩
theorem OW(l:OpenLaw)(args:List WData):l.row.toRowW.claim.post args (.bool true) args=true:=postW_of (r:=l.row.toRowW) (X:=true==true) (show WShape.has [] (.bool true) .bool=true by first|rfl|decide|simp[WShape.has,WShape.arms,WShape.armsAll]) (show(WTm.eq .res (.lit (.bool true))).value [] {args:=args,res:=some (.bool true),after:=args}=some (.bool (true==true))from w_eq_bool (w_res rfl) w_lit) rfl
theorem OX{l:OpenLaw}{q:Wm}{d:DefRec}(hn:l.most=some n)(p9:d.params.defaults=[])(call:∀(w:Wu)(s₀ s₁:W1)(mg mb:Str->Option Value)(fa:Addr)(o:Obj)(pm cd doc:Value)(a:Addr)(vs:List Value)(ns:List Int),Ground q loose [] XP w s₀ mg mb s₁.heap->YP w s₁.heap->s₁.heap.get? fa=some o->o.data=.func (docDef d.name d.params d.body d.scope pm cd doc)->s₁.heap.CodeRec cd d.name->mg d.name=some (.ref fa)->s₁.heap.get? a=some {cls:=.type "list",data:=.seq vs.toArray}->IntsAre vs ns->ns.length<=n->s₁.gens=#[]->Jd (model l.prog w) callerA (.call (.ref fa) ⟨[.ref a],[]⟩) (λr s'=>r=.ok (.ret (.bool true))/\OldK s₁.heap s'.heap/\s'.os=s₁.os/\AllBare s'.gens) s₁):WalkO q loose XP YP l.row.toRowW d [] λf vs=>PySem.call f vs:=by intro w s₀ s₁ mg mb G M' fa o pm cd doc dV kV ho hd dS hD p_ hg args vals as tK hlay hrd xf qa;obtain rfl:dV=.none:=Dflts.none hD p9;obtain rfl:kV=.none:=Dflts.noKw hD;obtain⟨a,vs,ns,rfl,rfl,xg,hints,hlen⟩:=OU hn tK xf;refine enter_call (codeAny_mono (call w s₀ s₁ mg mb fa o pm cd doc a vs ns G M' ho (fd_plain hd) dS p_ xg hints hlen hg) λr s' hq=>?_);obtain⟨rfl,h2,h3,h4⟩:=hq;exact⟨.inl ⟨.bool true,.bool true,[],rfl,λj=>rfl,.bool true,OW l _,λj=>⟨List.Pairwise.nil,λj hm=>nomatch hm⟩⟩,h2,h3,h4⟩
end
theorem CB{vs:List Value}{ns:List Int}(h:IntsAre vs ns):Vals (ns.map V.int) vs:=by induction h with|nil=>exact .nil|cons n t h ih=>exact .cons ⟨t,rfl⟩ ih
def xh(H:Hp):Prop:=∀b,H b=none\/∃o xs,H b=some (.frz o (.lst xs))
theorem OY{P:Wm}{w:Wu}{CX:iX}{k:Nat}{fa a:Addr}{fd:Ql}{x:Str}{sp:Sp}{s₁:W1}{vs:List Value}{ns:List Int}(KX:K.In s₁.heap)(CC:s₁.heap.Ns Wv mg)(hb:s₁.heap.Ns builtinsNs mb)(OZ:∀x:Str,x≠"__name__"->mb x=QK x)(O0:s₁.heap.NoLimit)(hg:s₁.gens=#[])(ha:s₁.heap.get? a=some {cls:=.type "list",data:=.seq vs.toArray})(hi:IntsAre vs ns)(hl:ns.length<=W9)(hr:dz k callerA)(F:∀base:Heap,K.In base->base.Ns Wv mg->gN P w K mg base CX k fa fd [x] sp)(O1:∀(s:W1)(u:Value),BindsTo s fd ⟨[u],[]⟩ [(x,u)])(jq:∀H:Hp,xh H->cp K H a (ns.map V.int)->sp [.ref a] H (λv j=>v=.bl true) λj j j=>False)(xi:∀H e s',CX [] H s₁ (λj j j=>False) e s'->False):Jd (model P w) callerA (.call (.ref fa) ⟨[.ref a],[]⟩) (λr s'=>r=.ok (.ret (.bool true))/\OldK s₁.heap s'.heap/\s'.os=s₁.os/\AllBare s'.gens) s₁:=by
 have rv:=CB hi;have O2:=hi.length;have core:∀H:Hp,xh H->cp K H a (ns.map V.int)->cG P w H s₁.heap->(∀b,H b≠none->b=a)->(H a≠none->K.lookup a=none)->Jd (model P w) callerA (.call (.ref fa) ⟨[.ref a],[]⟩) (λr s'=>r=.ok (.ret (.bool true))/\OldK s₁.heap s'.heap/\s'.os=s₁.os/\AllBare s'.gens) s₁:=by
  intro H hO hS aB hA hK;have CD:∀{b:Addr}{o:Obj},s₁.heap.get? b=some o->H b=none->(ko s₁.heap H).get? b=some o:=λe n=>MJ e n;have pR:∀{b:Addr}{o:Obj}{es:Array DictEntry}{ep:Nat},s₁.heap.get? b=some o->o.data=.dict es ep->H b=none:=λ{b o es ep}e d=>by cases q:H b with|none=>rfl|some u=>have e':b=a:=hA b (by rw[q];simp);subst e';rw[ha]at e;cases e;have d':Data.seq vs.toArray _=Data.dict es ep:=d;cases d'
  have tL:∀{b:Addr}{m:Str->Option Value},s₁.heap.Ns b m->(ko s₁.heap H).Ns b m:=λ{b m}⟨o,es,ep,e,d,r⟩=>⟨o,es,ep,CD e (pR e d),d,r⟩;have CF:K.In (ko s₁.heap H):=λb o e=>CD (KX b o e) (by cases q:H b with|none=>rfl|some u=>have e':b=a:=hA b (by rw[q];simp);subst e';rw[hK (by rw[q];simp)]at e;cases e);have hM:Mod K mg (ko s₁.heap H):=⟨CF,tL CC,⟨mb,tL hb,OZ⟩,let⟨mc,h1,h2⟩:=O0;⟨mc,tL h1,h2⟩⟩;have e0:n_ P w K mg (ko s₁.heap H) callerA [] s₁ H:=⟨rfl,hM,λb o e=>MK e,Nat.le_of_eq (MI _ _),trivial,λb hb=>absurd (show b∈([]:List Addr)from hb) V',aB,.of_eq hg⟩;refine codeAny_mono ((F _ CF (tL CC)).run callerA [] s₁ H ⟨[.ref a],[]⟩ [.ref a] [.ref a] _ _ hr e0 (O1 s₁ (.ref a)) (.cons rfl .nil) (jq H hO hS)) λr s' h=>?_;cases r with|error e=>exact(xi H e s' h).elim|ok fl=>cases fl with|next=>exact False.elim h|brk=>exact False.elim h|cont=>exact False.elim h|ret u=>obtain⟨v,H',os,bare,un,hok',r',q⟩:=h;have q':v=.bl true:=q;subst q';obtain rfl:u=Value.bool true:=r';refine⟨rfl,OldK.of_keep λb o e=>?_,os,bare⟩;cases q:H b with|none=>exact un.keep b o e q (by intro z;exact absurd (show b∈([]:List Addr)from z) V') V'|some u=>
     rcases hO b with z|⟨ob,xs,z⟩;.rw[q]at z;cases z
     .have z2:=un.iU b ob _ z;obtain⟨e1,_⟩:=aB b _ z;obtain⟨e2,_⟩:=hok' b _ z2;rw[e]at e1;cases e1;exact e2
 cases hk:K.lookup a with|some o=>have e:=KX a o hk;rw[ha]at e;cases e;refine core (λj=>none) (λj=>.inl rfl) (.inr ⟨_,vs.toArray,_,hk,rfl,rfl,rfl,%[Wn,O2|hl],~~~rv⟩) (λb u z=>by have z':(none:Option HO)=some u:=z;cases z') (λb z=>absurd rfl z) λz=>absurd rfl z|none=>
  refine core (λb=>if b=a then some (.frz {cls:=.type "list",data:=.seq vs.toArray} (.lst (ns.map V.int)))else none) (λb=>?_) (.inl (.inr ⟨{cls:=.type "list",data:=.seq vs.toArray},if_pos rfl⟩)) (λb u z=>?_) (λb z=>?_) λj=>hk
  .by_cases hb:b=a;.exact .inr ⟨_,_,if_pos hb⟩
   .exact .inl (if_neg hb)
  .by_cases hb:b=a;.have z':=(if_pos hb).symm.trans z;cases z';subst hb;exact⟨ha,%[Wd|hl],vs,_,rv,ha⟩
   .have z':=(if_neg hb).symm.trans z;cases z'
  .by_cases hb:b=a;.exact hb
   .exact absurd (if_neg hb) z
theorem O3{l:PySem.W.OpenLaw}{k:Nat}{q:Wm}{d:DefRec}{K:Params->W3}{CX:Wu->iX}{sp:Wu->Sp}{x:Str}(hn:l.most=some n)(mP:n<=W9)(p9:d.params.defaults=[])(hr:dz k callerA)(hY:∀(w:Wu)(h:Heap),YP w h->(K w.params).In h)(F:∀(w:Wu)(mg:Str->Option Value)(fa:Addr)(h:Heap),(K w.params).In h->h.Ns Wv mg->mg d.name=some (.ref fa)->∃fd:Ql,(∀(s:W1)(u:Value),BindsTo s fd ⟨[u],[]⟩ [(x,u)])/\∀base:Heap,(K w.params).In base->base.Ns Wv mg->gN l.prog w (K w.params) mg base (CX w) k fa fd [x] (sp w))(jq:∀(w:Wu)(H:Hp)(a:Addr)(ns:List Int),ns.length<=n->xh H->cp (K w.params) H a (ns.map V.int)->sp w [.ref a] H (λv j=>v=.bl true) λj j j=>False)(xi:∀(w:Wu)(H:Hp)(s:W1)(e:Value)(s':W1),CX w [] H s (λj j j=>False) e s'->False):PySem.W.WalkO q loose XP YP l.row.toRowW d [] λf vs=>PySem.call f vs:=by refine OX hn p9 λw s₀ s₁ mg mb fa o pm cd doc a vs ns G M' ho hd dS p_ xg hints hlen hg=>?_;have KX:=hY w _ M';obtain⟨fd,hb,hF⟩:=F w mg fa _ KX G.T.g p_;exact OY KX G.T.g G.T.b G.T.builtins G.T.nolimit hg xg hints (Wy hlen mP) hr hF hb (λH hO hS=>jq w H a ns hlen hO hS) λH e s'=>xi w H s₁ e s'
def lH(s:Stmt):Arguments:=match s with|.FunctionDef _ a _ _ _ _ _ _ _ _=>a|_=>{posonlyargs:=[],args:=[],vararg:=none,kwonlyargs:=[],kw_defaults:=[],kwarg:=none,defaults:=[]}
def fR(s:Stmt):List Stmt:=match s with|.FunctionDef _ _ b _ _ _ _ _ _ _=>b|_=>[]
def bP(s:Stmt):Scope:=match s with|.FunctionDef _ _ _ _ _ _ sc _ _ _=>sc|_=>{kind:=.function,names:=[],isGenerator:=false,isCoroutine:=false}
abbrev fG:iX:=λj j j j j j=>False
abbrev E0:XK:=λj j j=>False
theorem O4:wL fG X E0:=λj j j j j j j h=>h.elim
structure eJ(K:W3)(x qual:Str)(st:Stmt)(f:Addr)(fd:Ql):Prop where
 ex:∃(oc:Value)(od:Option Addr)(kV doc pm:Value)(an:Option Addr)(a_ ct:Value)(jW:Array (Option Value)),fd=J1 x qual (lH st) (fR st) (bP st) .none kV doc pm an a_ ct/\K.lookup f=some ⟨oc,od,.func fd,jW⟩/\PySem.W.codeIn K a_ qual=true
 kp:QY K (.ref f)=true
theorem eJ.ok{x:Str}{st:Stmt}{k:Nat}(F:eJ K x qual st f fd)(S:gw N ps (bP st))(len:∀vs H Q E,sp vs H Q E->vs.length=ps.length)(eG:∀(a_:Value)(A:Wp)(outer:List Env)(s:W1)(H:Hp)(vs:List V)(Q:VK)(E:XK),dz k (A.deeper (Jp qual (bP st) s.heap.objs.size f a_))->sp vs H Q E->∃t,dJ (fF fG P w K mg base N qual (bP st) f a_ A outer s H E).jV (fR st) t/\t {nx:=λj H'=>Q .aD H',rt:=Q} (fE N vs) H):gN P w K mg base fG (k+1) f fd ps sp:=by obtain⟨oc,od,kV,doc,pm,an,a_,ct,jW,rfl,lk,dS⟩:=F.ex;refine B5 lk dS S len λA outer s H vs Q E hr jq=>?_;obtain⟨t,h,q⟩:=eG a_ A outer s H vs Q E hr jq;exact⟨t,h.jV,q⟩
theorem eJ.binds{x:Str}{st:Stmt}(F:eJ K x qual st f fd)(h:∀(kV doc pm:Value)(an:Option Addr)(a_ ct:Value)(us:List Value),us.length=ps.length->bindArgs (J1 x qual (lH st) (fR st) (bP st) .none kV doc pm an a_ ct) ⟨us,[]⟩=pure (ps.zip us)):Binds K fd ps []:=by obtain⟨oc,od,kV,doc,pm,an,a_,ct,jW,rfl,lk,dS⟩:=F.ex;exact .all (h kV doc pm an a_ ct)
theorem CG{x:Str}{st:Stmt}{kV:Value}(l:K.lookup f=some ⟨oc,od,.func (J1 x qual (lH st) (fR st) (bP st) .none kV doc pm an a_ ct),jW⟩)(c:PySem.W.codeIn K a_ qual=true)(k:QY K (.ref f)=true):eJ K x qual st f (J1 x qual (lH st) (fR st) (bP st) .none kV doc pm an a_ ct):=⟨⟨oc,od,kV,doc,pm,an,a_,ct,jW,rfl,l,c⟩,k⟩
theorem O5(h:n<=1000):n<W9:=QN h Z'
theorem pv(i:Nat)(hN:X.N[i]?=some x:=by rfl)(hv:pH X.env.scope x:=by first|exact Or.inl rfl|exact Or.inr (Or.inl rfl)|exact Or.inr (Or.inr rfl))(hd:(x==("__debug__":Str))=false:=by decide)(dS:(x==("__classdict__":Str))=false:=by decide):PE X (.Name x pos) (fD i):=MQ hN hv hd dS
theorem O6:dM X (.builtin "len") λxs H Q=>∃a aw,xs=[V.ref a]/\H a=some (.dK aw)/\Q (.int aw.length) H:=by intros xs us Q I r h;obtain⟨a,aw,rfl,ha,q⟩:=h;obtain⟨u,rfl,ru⟩:=fQ r;cases ru;exact OQ I (.inl ha) λt s' I'=>⟨.int aw.length,H,I',⟨t,rfl⟩,q⟩
def fS(cells:List (Str×Addr)):List (Str×NameKind)->List (Str×Addr)->List (Str×Addr)|[],acc=>acc|(n,k)::r,acc=>fS cells r (if k==.free then match cells.lookup n with|some a=>(n,a)::acc|none=>acc else acc)
theorem xn(f:Str×NameKind->List (Str×Addr)->Sem (ForInStep (List (Str×Addr))))(hf:∀name kind cs,f (name,kind) cs=if kind==.free then do let a<-cellOf env name;pure (.yield ((name,a)::cs))else pure (.yield cs)):∀(names:List (Str×NameKind))(acc:List (Str×Addr)),(∀x∈names,x.2=NameKind.free->∃c,env.cells.lookup x.1=some c)->(forIn names acc f:Sem (List (Str×Addr)))=pure (fS env.cells names acc)
 |[],acc,_=>by rw[Ug];rfl|(n,k)::r,acc,h=>by
  rw[U8,hf];unfold fS;by_cases hk:(k==NameKind.free)=true
  .obtain⟨c,hc⟩:=h (n,k) Wi (~~~hk);have h9:env.cells.lookup n=some c:=hc;have e:cellOf env n=pure c:=by unfold cellOf;rw[h9]
   rw[if_pos hk,if_pos hk,e,h9];exact xn f hf r _ λx hx=>h x (Wf _ hx)
  .rw[if_neg hk,if_neg hk];exact xn f hf r _ λx hx=>h x (Wf _ hx)
theorem CH(h:∀x∈scope.names,x.2=NameKind.free->∃c,env.cells.lookup x.1=some c):closureFor scope env=pure (fS env.cells scope.names []):=by unfold closureFor;dsimp only;rw[xn (env:=env) _ λname kind cs=>by all_goals grind scope.names [] h];rfl
theorem CI{n}:∀(names:List (Str×NameKind))(acc:List (Str×Addr)),(n,c)∈fS cells names acc->(n,c)∈acc\/(n,NameKind.free)∈names/\cells.lookup n=some c|[],acc,h=>.inl h|(y,k)::r,acc,h=>by unfold fS at h;rcases CI r _ h with q|⟨q,e⟩;all_goals grind
theorem CJ{n}:∀(names:List (Str×NameKind))(acc:List (Str×Addr)),(acc.lookup n).isSome=true\/(n,NameKind.free)∈names/\(cells.lookup n).isSome=true->((fS cells names acc).lookup n).isSome=true
 |[],acc,h=>h.elim id (by grind)|(y,k)::r,acc,h=>by
  unfold fS;apply CJ r;by_cases hk:(k==NameKind.free)=true;.rw[if_pos hk];cases e:cells.lookup y with
 |none=>
    rcases h with h|⟨h1,h2⟩;.exact .inl h
    .rcases Wq.mp h1 with z|z;.cases z;rw[e]at h2;cases h2
     .exact .inr ⟨z,h2⟩|some a=>
    by_cases hn:(n==y)=true;.refine .inl ?_;show(List.lookup n ((y,a)::acc)).isSome=true;rw[QD,hn];rfl
    .rcases h with h|⟨h1,h2⟩;.refine .inl ?_;show(List.lookup n ((y,a)::acc)).isSome=true;have pK:(n==y)=false:= ~~~hn;rw[QD,pK];exact h
     .rcases Wq.mp h1 with z|z;.cases z;exact absurd V' hn
      .exact .inr ⟨z,h2⟩
  .rw[if_neg hk];rcases h with h|⟨h1,h2⟩;.exact .inl h
   .rcases Wq.mp h1 with z|z;.cases z;exact absurd rfl hk
    .exact .inr ⟨z,h2⟩
theorem xo{n}:∀(names:List (Str×NameKind))(h:Heap)(acc:List (Str×Addr)),(n,c)∈QU h.objs.size names acc->(n,c)∈acc\/(n,NameKind.cell)∈names/\h.objs.size<=c/\(Ub h names).IsCell c none
 |[],_,_,h=>.inl h|(y,k)::r,h,acc,hm=>by
  unfold QU at hm;unfold Ub;by_cases hk:(k==NameKind.cell)=true
  .rw[if_pos hk]at hm;rw[if_pos hk];have iY:k=NameKind.cell:= ~~~hk;have sz:(h.push {cls:=.type "cell",data:=.cell none}).objs.size=h.objs.size+1:=Je ..;rw[<-sz]at hm;rcases xo r _ _ hm with q|⟨q1,q2,q3⟩
   .rcases Wq.mp q with z|z;.cases z;refine .inr ⟨%[iY|Wi],W7 _,?_⟩;exact Heap.IsCell.keeps ⟨_,We _ rfl,rfl⟩ (pushCells_keeps r _)
    .exact .inl z
   .exact .inr ⟨Wf _ q1,by rw[sz]at q2;lia,q3⟩
  .rw[if_neg hk]at hm;rw[if_neg hk];rcases xo r _ _ hm with q|⟨q1,q2,q3⟩;.exact .inl q
   .exact .inr ⟨Wf _ q1,q2,q3⟩
theorem xq:∀(names:List (Str×NameKind))(k:Nat)(acc:List (Str×Addr)),(∀n n' c,(n,c)∈acc->(n',c)∈acc->n=n')->(∀n c,(n,c)∈acc->c<k)->∀n n' c,(n,c)∈QU k names acc->(n',c)∈QU k names acc->n=n'
 |[],_,_,h,_=>h|(y,kd)::r,k,acc,h,hb=>by
  unfold QU;by_cases hk:(kd==NameKind.cell)=true;.rw[if_pos hk];refine xq r (k+1) _ (λn n' c h1 h2=>?_) λn c hm=>?_;all_goals grind
  .rw[if_neg hk];exact xq r k acc h hb
theorem mQ{env:Env}{x:Str}:∀{names:List (Str×NameKind)}{k:NameKind},(names.map λ(y:Str×NameKind)=>if y.2==NameKind.free&&env.scope.kind==.function&&env.kindOf y.1==some .cell then(y.1,NameKind.cell)else(y.1,y.2)).lookup x=some k->names.lookup x=some k\/k=NameKind.cell/\names.lookup x=some .free
 |[],_,h=>by simp at h|(n,kd)::r,k,h=>by
  rw[Wl]at h;have ih:=@mQ env x r k;cases hx:x==n with|true=>
 by_cases hc:(kd==NameKind.free&&env.scope.kind==.function&&env.kindOf n==some .cell)=true;.rw[if_pos hc,QD,hx]at h;cases h;simp only[Wr]at hc;have:kd=NameKind.free:= ~~~hc.1.1;exact .inr ⟨rfl,by rw[QD,hx,this]⟩
 .rw[if_neg hc,QD,hx]at h;cases h;exact .inl (by rw[QD,hx])|false=>
   have h':(r.map λ(y:Str×NameKind)=>if y.2==NameKind.free&&env.scope.kind==.function&&env.kindOf y.1==some .cell then(y.1,NameKind.cell)else(y.1,y.2)).lookup x=some k:=by
    by_cases hc:(kd==NameKind.free&&env.scope.kind==.function&&env.kindOf n==some .cell)=true;.rw[if_pos hc,QD,hx]at h;exact h
    .rw[if_neg hc,QD,hx]at h;exact h
   rw[QD,hx];exact ih h'
def fg(X:Cx)(scope:Scope)(s₀:W1)(H₀:Hp)(ex:List Addr):Cx:={X with
 env:={scope:=relabel scope X.env,locals:=s₀.heap.objs.size,globals:=X.env.globals,cells:=QU (s₀.heap.objs.size+1) scope.names (fS X.env.cells scope.names []),qual:=X.env.qual,func:=none,code:=X.env.code,frame:=X.env.frame,builtins:=X.env.builtins}
 s₀:=s₀
 H₀:=H₀
 outer:=X.stack
 ex:=ex
 fn:=λx=>scope.names.lookup x==some .cell
 pn:=[]
 xe:=λj j=>False}
structure mR(X:Cx)(scope:Scope)(cs:List Nat):Prop where
 kind:scope.kind=.function
 names:∀x∈scope.names,x.2=.local->scope.names.lookup x.1=some .local
 free:∀x∈scope.names,x.2=.free->X.env.kindOf x.1=some .cell\/X.env.kindOf x.1=some .free
 nd:(scope.names.map (·.1)).Nodup
 own:∀(i:Nat)x,X.N[i]?=some x->scope.names.lookup x=some .local\/scope.names.lookup x=some .cell->i∈cs
def bC(cs:List Nat)(Y:St):St:=cs.foldl (λY i=>Y.set i none) Y
theorem tM(cs:List Nat):∀Y:St,(bC cs Y).length=Y.length:=by induction cs with|nil=>intro Y;rfl|cons i r ih=>intro Y;show(bC r (Y.set i none)).length=_;rw[ih];simp
theorem lI:∀(cs:List Nat)(Y:St)(i:Nat)(v:V),(bC cs Y)[i]?=some (some v)->Y[i]?=some (some v)/\i∉cs:=by intro cs;induction cs with|nil=>intro Y i v h;exact⟨h,V'⟩|cons j r ih=>
 intro Y i v h;have h':(bC r (Y.set j none))[i]?=some (some v):=h;obtain⟨h1,h2⟩:=ih _ i v h';by_cases e:j=i;.subst e;rw[Qj]at h1;simp at h1
 .rw[Wc e]at h1;exact⟨h1,by simp only[Wq,not_or];exact⟨Ne.symm e,h2⟩⟩
theorem xw:∀{l:List (Str×α)},(l.map (·.1)).Nodup->(x,k)∈l->(x,k')∈l->k=k'
 |(y,j)::r,nd,h1,h2=>by
  rw[Wl,List.nodup_cons]at nd;rcases Wq.mp h1 with e|g1<;>rcases Wq.mp h2 with e'|g2;.grind
  .grind
  .grind
  .exact xw nd.2 g1 g2
section
variable{fp:List Addr}
theorem O7(I:6#0)(S:mR X scope cs)(hf:∀b∈fp,eQ X pins H b)(bh:∀b∈fp,b<s.heap.objs.size):Inv (fg X scope s H fp) [] (bC cs Y) H 9#(Ub (s.heap.push {cls:=.type "dict",data:=.dict #[]}) scope.names):=by
 have sz:(s.heap.push {cls:=.type "dict",data:=.dict #[]}).objs.size=s.heap.objs.size+1:=Je ..;have kp:∀b o,s.heap.get? b=some o->(Ub (s.heap.push {cls:=.type "dict",data:=.dict #[]}) scope.names).get? b=some o:=λb o e=>pushCells_keeps _ _ b o (W5 _ e);have tN:∀n c,(n,c)∈fS X.env.cells scope.names []->(n,NameKind.free)∈scope.names/\X.env.cells.lookup n=some c:=λn c h=>(CI _ _ h).elim (by grind) id;have O8:∀n c,(n,c)∈fS X.env.cells scope.names []->c<s.heap.objs.size:=λn c h=>by obtain⟨v,q⟩:=I.cell n c (tN n c h).2;exact q.lt
 have jY:∀n c,(n,c)∈QU (s.heap.objs.size+1) scope.names (fS X.env.cells scope.names [])->(n,NameKind.free)∈scope.names/\X.env.cells.lookup n=some c\/(n,NameKind.cell)∈scope.names/\s.heap.objs.size+1<=c/\(Ub (s.heap.push {cls:=.type "dict",data:=.dict #[]}) scope.names).IsCell c none:=λn c h=>by
  rw[<-sz]at h;rcases xo _ _ _ h with q|q;.exact .inl (tN n c q)
  .rw[sz]at q;exact .inr q
 have O9:=xq scope.names (s.heap.objs.size+1) (fS X.env.cells scope.names []) (λn n' c h1 h2=>I.ok.inj n n' c (tN n c h1).2 (tN n' c h2).2) λn c h=>Nat.lt_succ_of_lt (O8 n c h);have qb:∀x∈scope.names,x.2=.free->∃c,X.env.cells.lookup x.1=some c:=λx hx hk=>I.ok.has x.1 (S.free x hx hk);have O_:∀b∈fp,b∉eO X.stack:=λb hb z=>by
  obtain⟨_,f1,f2,_⟩:=hf b hb;rcases Wq.mp (I.sT b z)with e|e;.exact f1 e
  .exact f2 e
 have Pa:∀x,(fg X scope s H fp).env.kindOf x=some .cell\/(fg X scope s H fp).env.kindOf x=some .free->scope.names.lookup x=some .cell\/scope.names.lookup x=some .free:=λx h=>by
  rcases h with h|h
  .have h':(relabel scope X.env).names.lookup x=some .cell:=h;rcases mQ (env:=X.env) (names:=scope.names) h' with q|⟨_,q⟩;.exact .inl q
   .exact .inr q
  .have h':(relabel scope X.env).names.lookup x=some .free:=h;rcases mQ (env:=X.env) (names:=scope.names) h' with q|⟨q,_⟩;.exact .inr q
   .cases q
 have CK:∀x,scope.names.lookup x=some .cell\/scope.names.lookup x=some .free->∃c,(QU (s.heap.objs.size+1) scope.names (fS X.env.cells scope.names [])).lookup x=some c:=λx h=>by
  refine QM.mp (JL scope.names _ _ ?_);rcases h with h|h;.exact .inl h
  .refine .inr (CJ _ _ (.inr ⟨WH h,?_⟩));obtain⟨c,hc⟩:=qb _ (WH h) rfl;grind
 have Pb:(Ub (s.heap.push {cls:=.type "dict",data:=.dict #[]}) scope.names).Ns s.heap.objs.size λj=>none:=(Heap.Ns.new s.heap (.type "dict")).keeps (pushCells_keeps _ _);refine⟨⟨I.ok.mod,S.kind,I.ok.glob,I.ok.blt,W7 _,λy z c h1 h2=>O9 y z c (WH h1) (WH h2),λx hx=>CK x (Pa x hx),λx c pL h=>?_,I.ok.hd,I.ok.frames,.inl rfl,λb hb=>⟨WQ (bh b hb),λx c h e=>?_⟩,I.bs,Wy I.ok.jk I.sz,λb o e hb=>?_,O_,I.stack,I.sU⟩,rfl,I.bare,Un.kept kp,⟨λj=>none,Pb,λi x v h1 h2 h3=>?_⟩,λx c h=>?_,I.aB.fresh (W7 _),λx c h=>?_,λp hp=>absurd (show p∈([]:List (Addr×Obj))from hp) V',I.aB.kept kp,(tM cs Y).trans I.len⟩
 .rcases jY x c (WH h)with q|q
  .have Pc:scope.names.lookup x=some .cell:=by have:(scope.names.lookup x==some .cell)=true:=pL;exact eq_of_beq this
   have:=xw S.nd q.1 (WH Pc);cases this
  .exact Nat.le_of_succ_le q.2.1
 .subst e;rcases jY x c (WH h)with q|q;.exact(hf c hb).2.2.2.2.1 x c q.2 rfl
  .exact absurd (WG (bh c hb) (Nat.le_of_succ_le q.2.1)) (QE _)
 .obtain⟨_,_,_,f3,_⟩:=hf b hb;rcases f3 with z|z;.exact I.ok.lh b o e z
  .exact absurd (WG (Wj (I.ok.bs b o e).1) z) (QE _)
 .obtain⟨h2',hni⟩:=lI cs Y i v h2;have Pd:¬(scope.names.lookup x=some .local\/scope.names.lookup x=some .cell):=λz=>hni (S.own i x h1 z);have n8:scope.names.lookup x=some .free:=by
   rcases h3 with h3|h3|h3;.rcases mQ (env:=X.env) (names:=scope.names) h3 with q|⟨q,_⟩;all_goals grind
   .rcases mQ (env:=X.env) (names:=scope.names) h3 with q|⟨_,q⟩;.exact absurd (.inr q) Pd
    .exact q
   .rcases mQ (env:=X.env) (names:=scope.names) h3 with q|⟨q,_⟩;.exact q
    .cases q
  have hk:=S.free _ (WH n8) rfl;obtain⟨m,hn,hl⟩:=I.loc;have Pe:pH X.env.scope x:=by
   rcases hk with hk|hk;.exact .inr (.inl hk)
   .exact .inr (.inr hk)
  obtain⟨u,r,l⟩:=hl i x v h1 h2' Pe;refine⟨u,r,?_⟩;rcases l with⟨k,_⟩|⟨_,c,hc,hcell⟩;.grind
  .obtain⟨c',h9⟩:=CK x (.inr n8);have e:c'=c:=by
    rcases jY x c' (WH h9)with q|q;.have q2:=q.2;rw[hc]at q2;exact(WL q2).symm
    .have:=xw S.nd q.1 (WH n8);cases this
   subst e;refine .inr ⟨?_,c',h9,hcell.keeps kp⟩;rcases h3 with h3|h3|h3;.rcases mQ (env:=X.env) (names:=scope.names) h3 with q|⟨q,_⟩;all_goals grind
   .exact .inl h3
   .exact .inr h3
 .rcases jY x c (WH h)with q|q;.obtain⟨v,z⟩:=I.cell x c q.2;exact⟨v,z.keeps kp⟩
  .exact⟨none,q.2.2⟩
 .rcases jY x c (WH h)with q|q;.exact I.e9 x c q.2
  .exact I.aB.fresh (Nat.le_of_succ_le q.2.1)
end
abbrev kC:Value->W1->Prop:=λj j=>False
def CL(ifs:List Expr)(env:Env):Sem Bool:=forIn ifs true λc r=>if r=true then do let ok<-isTrue c env (eval c env);pure (ForInStep.yield ok)else pure (ForInStep.yield r)
theorem Pf{it}(I:Nat->W1->Prop)(turn:∀n s,I n s->W6 4#0 A (QR it) (λr s₁=>match r with|none=>R (.ok .next) s₁|some v=>W6 4#0 A (JH target it v) (λj CN=>W6 4#0 A (assign target env v) (λj s₂=>W6 4#0 A (CL ifs env) (λok s₃=>if ok=true then W6 4#0 A (eval elt env) (λx s₄=>W6 4#0 A (call (.builtin "list.append") [acc,x]) (λj s₅=>∃m,m<n/\I m s₅) kC s₄) kC s₃ else∃m,m<n/\I m s₃) kC s₂) kC CN) kC s₁) kC s)(n:Nat)(h:I n s):Jd 4#0 A (.compLoop (.ListComp elt [⟨target,iter,ifs,0⟩] scope pos) 0 it acc env) R s:=by refine codeAny_loop rfl I (λn s hI=>?_) n h;show W6 _ A ((compTurn (.ListComp elt [⟨target,iter,ifs,0⟩] scope pos) 0 it acc env).onRaise λx=>do Uc x env;theTreesLotGoes x) _ _ s;refine wpAny_noted ?_;rw[compTurn_list];refine W0 (wpAny_standAt (W0 (Qk (turn n s hI) (λr s₁ h₁=>?_) (by grind))));cases r with|none=>exact W2 h₁|some v=>refine W0 (Qk h₁ (λj CN Pg=>?_) (by grind));refine W0 (Qk Pg (λj s₂ h₂=>W0 (Qk h₂ (λok s₃ h₃=>?_) (by grind))) (by grind));cases ok with|false=>exact W2 ⟨rfl,h₃⟩|true=>exact W0 (W0 (Qk h₃ (λx s₄ h₄=>W0 (Qk h₄ (λj s₅ h₅=>W2 (W2 ⟨rfl,h₅⟩)) (by grind))) (by grind)))
theorem Ph(h:Q {scope,locals:=s.heap.objs.size,globals,cells:=QU (s.heap.objs.size+1) scope.names cl,qual,func:=none,code:=env.code,frame:=env.frame,builtins:=env.builtins} 9#(Ub (s.heap.push {cls:=.type "dict",data:=.dict #[]}) scope.names)):W6 M A (newFunctionEnv scope globals cl [] qual none .none (some env)) Q E s:=by simp only[newFunctionEnv,Option.isSome_some,if_true];refine W0 (wpAny_alloc ?_);refine W0 (wpAny_layCells _ λname kind cells=>by all_goals grind _ _ _ _ ?_);rw[show(9#(s.heap.push {cls:=.type "dict",data:=.dict #[]}):W1).heap.objs.size=s.heap.objs.size+1 from Je ..];exact W0 (W2 (W2 h))
def oh(X:Cx)(ifs:List Expr)(t:TT):Prop:=∀(pins:List (Addr×Obj))(s:W1)(Y:St)(H:Hp)(Q:Bool->Hp->Prop),6#0->t Y H Q->W6 5#0 X.A (CL ifs X.env) (TP X pins Y Q) X.xe s
def Pj:TT:=λj H Q=>Q true H
theorem Pk:oh X [] Pj:=λpins s Y H Q I h=>wpAny_tests_nil ⟨H,I,h⟩
theorem Pl(h:PT X c t):oh X [c] t:=λpins s Y H Q I q=>wpAny_tests_one (h pins s Y H Q I q)
def Le(Y SC:St):Prop:=SC.length=Y.length/\∀(i:Nat)(v:V),Y[i]?=some (some v)->SC[i]?=some (some v)
def CO(cs:List Nat)(g:TG)(tt:TT)(te:TE)(Y:St)(Q:VK)(J:It)(H1:Hp):Prop:=∀l,H1 l=none->∃W:Nat->Nat->Hp->Prop,(∃m,W 0 m (upd H1 l (.lst [])))/\∀i m H2,W i m H2->J.stop i H2/\Q (.ref l) H2\/J.go i H2/\∀x H3,J.pM i H2 x H3->g x (bC cs Y) H3 λN' H4=>Le (bC cs Y) N'/\tt N' H4 λb H5=>if b=true then te N' H5 λv H6=>∃ys m',H6 l=some (.lst ys)/\ys.length<W9/\m'<m/\W (i+1) m' (upd H6 l (.lst (ys++[v])))else∃m',m'<m/\W (i+1) m' H5
def xx(cs:List Nat)(wi:TI)(g:TG)(tt:TT)(te:TE):TE:=λY H Q=>wi Y H λJ H1=>CO cs g tt te Y Q J H1
section
variable{iter:Expr}{g:TG}{tt:TT}
theorem CP{fp:List Addr}{J:It}{Q:VK}{E:Value->W1->Prop}(hc:X.calm=true)(I:6#0)(S:mR X scope cs)(T:Turn X.prog X.w X.K tg J fp it tn)(st:tn 0 s.heap)(hf:∀b∈fp,eQ X pins H b)(hg:∀s₀ H₀ ex,PG (fg X scope s₀ H₀ ex) tg g)(ht:∀s₀ H₀ ex,oh (fg X scope s₀ H₀ ex) ifs tt)(he:∀s₀ H₀ ex,PE (fg X scope s₀ H₀ ex) elt te)(q:CO cs g tt te Y Q J H)(Pm:∀l C s' H',Inv X pins Y H' s'->eQ X pins H' C->(∃m,s'.heap.Ns C m)->Q (.ref l) H'->RR (.ref l) C (.ok .next) s'):W6 5#0 X.A (newList []) (λacc s₃=>W6 5#0 X.A (newFunctionEnv scope X.env.globals (fS X.env.cells scope.names []) [] X.env.qual none .none (some X.env)) (λCQ s₄=>Jd 5#0 X.A (.compStart (.ListComp elt [⟨tg,iter,ifs,0⟩] scope pos) 0 (.ref it) acc {CQ with scope:=relabel scope X.env}) (RR acc CQ.locals) s₄) E s₃) E s:=by
 refine WZ ?_;have dC:H s.heap.objs.size=none:=I.aB.fresh (W7 _);obtain⟨W,⟨m0,w0⟩,turn⟩:=q s.heap.objs.size dC;generalize hl:s.heap.objs.size=l at*;have I3:Inv X pins Y (upd H l (.lst [])) 9#(s.heap.push {cls:=.type "list",dict:=none,data:=.seq ([]:List Value).toArray}):=I.laid (t':=s.toks) (λb u e=>W5 _ e) (Nat.le_of_eq hl) ⟨Q6 _,[],0,.nil,by rw[<-hl];exact We _ rfl⟩;have Pn:∀b o,s.heap.get? b=some o->(s.heap.push {cls:=.type "list",dict:=none,data:=.seq ([]:List Value).toArray}).get? b=some o:=λb o e=>W5 _ e;have qc:∀b∈fp,b≠l:=λb hb e=>by obtain⟨o,ho,_⟩:=T.obj 0 _ st b hb;exact absurd (Wj ho) %[e,hl|QE _]
 have xy:∀b∈fp,eQ X pins (upd H l (.lst [])) b:=λb hb=>⟨by rw[aY (qc b hb)];exact(hf b hb).1,(hf b hb).2⟩;have bu:tn 0 (s.heap.push {cls:=.type "list",dict:=none,data:=.seq ([]:List Value).toArray}):=T.keep 0 _ _ st λb j o e=>Pn b o e;generalize hs3:(9#(s.heap.push {cls:=.type "list",dict:=none,data:=.seq ([]:List Value).toArray}):W1)=s3 at I3;have CS:tn 0 s3.heap:=by rw[<-hs3];exact bu
 have Po:∀b∈fp,b<s3.heap.objs.size:=λb hb=>by obtain⟨o,ho,_⟩:=T.obj 0 _ CS b hb;exact Wj ho
 refine Ph ?_;have I4:=O7 I3 S xy Po;generalize hX:fg X scope s3 (upd H l (.lst [])) fp=X' at I4;generalize hs4:({s3 with heap:=Ub (s3.heap.push {cls:=.type "dict",data:=.dict #[]}) scope.names}:W1)=s4 at I4⊢;have tO:=hg s3 (upd H l (.lst [])) fp;have jZ:=ht s3 (upd H l (.lst [])) fp;have tP:=he s3 (upd H l (.lst [])) fp;rw[hX]at tO jZ tP;have bQ:tn 0 s4.heap:=T.keep 0 _ _ CS λb j o e=>by rw[<-hs4];exact pushCells_keeps _ _ b o (W5 _ e)
 have hP:X'.prog=X.prog:=by rw[<-hX];rfl
 have hw:X'.w=X.w:=by rw[<-hX];rfl
 have hA:X'.A=X.A:=by rw[<-hX];rfl
 have hK:X'.K=X.K:=by rw[<-hX];rfl
 have h9:X'.calm=true:=by rw[<-hX];exact hc
 have oi:X'.xe=kC:=by rw[<-hX];rfl
 have CT:X'.env.locals=s3.heap.objs.size:=by rw[<-hX];rfl
 have Pp:({scope:=relabel scope X.env,locals:=s3.heap.objs.size,globals:=X.env.globals,cells:=QU (s3.heap.objs.size+1) scope.names (fS X.env.cells scope.names []),qual:=X.env.qual,func:=none,code:=X.env.code,frame:=X.env.frame,builtins:=X.env.builtins}:Env)=X'.env:=by rw[<-hX];rfl
 have xA:∀{H':Hp},(∀b∈fp,H' b=none)->∀b∈fp,eQ X' [] H' b:=λ{H'}hn b hb=>by
  have ex:X'.ex=fp:=by rw[<-hX];rfl
  have pn:X'.pn=[]:=by rw[<-hX];rfl
  refine⟨hn b hb,(I4.ok.mH b %[ex|hb]).1,I4.ok.lj b %[ex|hb],.inl %[ex|hb],(I4.ok.mH b %[ex|hb]).2,λp hp=>?_⟩;rw[pn]at hp;simp at hp
 show Jd 5#0 X.A (.compStart (.ListComp elt [⟨tg,iter,ifs,0⟩] scope pos) 0 (.ref it) (.ref l) ({scope:=relabel scope X.env,locals:=s3.heap.objs.size,globals:=X.env.globals,cells:=QU (s3.heap.objs.size+1) scope.names (fS X.env.cells scope.names []),qual:=X.env.qual,func:=none,code:=X.env.code,frame:=X.env.frame,builtins:=X.env.builtins}:Env)) (RR (.ref l) s3.heap.objs.size) s4;rw[Pp];have loop:Jd 5#0 X.A (.compLoop (.ListComp elt [⟨tg,iter,ifs,0⟩] scope pos) 0 (.ref it) (.ref l) X'.env) (RR (.ref l) s3.heap.objs.size) s4:=by
  refine Pf (λn s'=>∃i H',Inv X' [] (bC cs Y) H' s'/\tn i s'.heap/\(∀b∈fp,H' b=none)/\W i n H') ?_ m0 ⟨0,_,I4,bQ,λb hb=>(xy b hb).1,w0⟩;rintro n s5⟨i,H5,I5,gM,fr5,w5⟩;rcases turn i n H5 w5 with⟨stop,qn⟩|⟨go,step⟩
  .have:=T.done X' hP hw hK h9 i [] s5 (bC cs Y) H5 kC I5 (xA fr5) gM stop;rw[hA]at this;refine aZ this λr s6⟨hr,I6⟩=>?_;subst hr;have b6:=I6.base;have e1:X'.fs=eO X.stack:=by rw[<-hX];rfl
   have e2:X'.ex=fp:=by rw[<-hX];rfl
   have e3:X'.H₀=upd H l (.lst []):=by rw[<-hX];rfl
   have e4:X'.s₀=s3:=by rw[<-hX];rfl
   rw[e1,e2,e3,e4]at b6;have o6:s6.os=s3.os:=by rw[<-e4];exact I6.os
   have Pq:cG X.prog X.w H5 s6.heap:=by rw[<-hP,<-hw];exact I6.aB
   have J6:Inv X pins Y H5 s6:=I3.Bl o6 b6 Pq I6.bare λb hb=>by obtain⟨_,f1,_,f3,f4,f5⟩:=xy b hb;exact⟨f3,f1,f4,f5⟩
   obtain⟨m6,n6,_⟩:=I6.loc;rw[CT]at n6;refine Pm l s3.heap.objs.size s6 H5 J6 (I3.jo (W7 _) ?_) ⟨m6,n6⟩ qn;rw[<-CT];exact I6.free
  .have:=T.item X' hP hw hK h9 i [] s5 (bC cs Y) H5 kC I5 (xA fr5) gM go;rw[hA]at this;refine aZ this λr s6⟨u,hr,h6⟩=>?_;subst hr;refine aZ h6 λj s7 hh=>?_;obtain⟨x,H7,I7,r7,y7,st7,fr7⟩:=hh;have Pr:=I7.pinned (xA fr7) (T.obj _ _ st7);have a8:=tO _ s7 (bC cs Y) H7 x u _ Pr r7 (step x H7 y7);rw[hP,hw,hA,oi]at a8;refine aZ a8 λj s8 hh=>?_;obtain⟨Gc,H8,I8,le8,q8⟩:=hh;have a9:=jZ _ s8 Gc H8 _ I8 q8;rw[hP,hw,hA,oi]at a9;refine aZ a9 λok s9⟨H9,I9,q9⟩=>?_;have back:∀{H':Hp}{s':W1},Inv X' ([]++pN fp s7.heap) Gc H' s'->Inv X' [] (bC cs Y) H' s'/\tn (i+1) s'.heap/\∀b∈fp,H' b=none:=λ{H' s'}J=>by refine⟨J.tm.weak le8.1.symm le8.2,T.keep _ _ _ st7 λb hb o e=>(J.pin (b,o) (Qf _ (Qf _ (tj hb e)))).1,λb hb=>?_⟩;obtain⟨o,e,d⟩:=T.obj _ _ st7 b hb;exact(J.pin (b,o) (Qf _ (Qf _ (tj hb e)))).2.1
   cases ok with|false=>rw[if_neg WR]at q9⊢;obtain⟨m',hm,w9⟩:=q9;obtain⟨b1,b2,b3⟩:=back I9;exact⟨m',hm,i+1,H9,b1,b2,b3,w9⟩|true=>rw[if_pos rfl]at q9⊢;have CU:=tP _ s9 Gc H9 _ I9 q9;rw[hP,hw,hA,oi]at CU;refine aZ CU λx10 bR hh=>?_;obtain⟨v,H10,I10,r10,ys,m',hy,hz,hm,w10⟩:=hh;have CV:=Cr (X:=X') _ bR Gc H10 (.ref l) [v] (.ref l) [x10] (λj H'=>W (i+1) m' H') I10 rfl (.cons r10 .nil) ⟨l,ys,v,rfl,rfl,hy,hz,w10⟩;rw[hP,hw,hA,oi]at CV;refine aZ CV λj s11 hh=>?_;obtain⟨_,H11,I11,_,w11⟩:=hh;obtain⟨b1,b2,b3⟩:=back I11;exact⟨m',hm,i+1,H11,b1,b2,b3,w11⟩
 exact codeAny_compStart_list loop (T.self X.A 0 s4 _ _ bQ loop)
theorem Pu(hc:X.calm=true)(S:mR X scope cs)(hi:PI X tg iter wi)(hg:∀s₀ H₀ ex,PG (fg X scope s₀ H₀ ex) tg g)(ht:∀s₀ H₀ ex,oh (fg X scope s₀ H₀ ex) ifs tt)(he:∀s₀ H₀ ex,PE (fg X scope s₀ H₀ ex) elt te)(hs:∀x,Jo iter X.env x=pure x:=by intro _;rfl):PE X (.ListComp elt [⟨tg,iter,ifs,0⟩] scope pos) (xx cs wi g tt te):=by intros Q I h;have qb:∀x∈scope.names,x.2=.free->∃c,X.env.cells.lookup x.1=some c:=λx hx hk=>I.ok.has x.1 (S.free x hx hk);rw[eval_ListComp];refine wpAny_comprehension_free (use:=none) rfl hs (CH qb) S.kind S.names (aZ (hi pins s Y H _ I h) λxv s1 h1=>aZ h1 λsZ s2 h2=>?_);obtain⟨it,fp,tn,J,H2,e,I2,T,bH,f2,q2⟩:=h2;subst e;refine CP (RR:=λacc C=>compPost 5#0 X.A X.xe none (EP X pins Y Q) acc C) hc I2 S T bH f2 hg ht he q2 ?_;intro l C s' H' I' fC⟨m,n⟩q;exact⟨m,n,λh' iq=>⟨.ref l,H',I'.turned (t':=s'.toks) (λb o hb e=>(iq.2 b hb).trans e) fC.1 fC.2.1 fC.2.2.2.1 fC.2.2.2.2.1 fC.2.2.2.2.2,rfl,q⟩⟩
theorem Pw(hc:X.calm=true)(S:mR X scope cs)(hN:X.N.Nodup)(dF:X.N[i]?=some y)(hy:X.env.scope.names.lookup y=some .local)(hi:PI X tg iter wi)(hg:∀s₀ H₀ ex,PG (fg X scope s₀ H₀ ex) tg g)(ht:∀s₀ H₀ ex,oh (fg X scope s₀ H₀ ex) ifs tt)(he:∀s₀ H₀ ex,PE (fg X scope s₀ H₀ ex) elt te)(qd:Ua (.ListComp elt [⟨tg,iter,ifs,0⟩] scope pos) (some (.Name y py)) tQ.line X.env=pure true:=by rfl)(hs:∀x,Jo iter X.env x=pure x:=by intro _;rfl):PS X (.Assign [.Name y py] (.ListComp elt [⟨tg,iter,ifs,0⟩] scope pos) tQ) (sY (xx cs wi g tt te) (sX i)):=by
 intros D I h;have qb:∀x∈scope.names,x.2=.free->∃c,X.env.cells.lookup x.1=some c:=λx hx hk=>I.ok.has x.1 (S.free x hx hk);rw[exec_Assign_Name_used _ _ _ _ qd];refine W0 (wpAny_standAt (W0 ?_));show W6 _ X.A (do let _<-comprehension (.ListComp elt [⟨tg,iter,ifs,0⟩] scope pos) scope X.env _ (newList []) false (eval iter X.env) (some (assign (.Name y py) X.env))) _ _ s;refine W0 (Qk (wpAny_comprehension_free (use:=some (assign (.Name y py) X.env)) (Q:=λj s'=>SP X pins D .next s') rfl hs (CH qb) S.kind S.names (aZ (hi pins s Y H _ I h) λxv s1 h1=>aZ h1 λsZ s2 h2=>?_)) (λj s' hq=>W2 (W2 hq)) λj j e=>e);obtain⟨it,fp,tn,J,H2,e,I2,T,bH,f2,q2⟩:=h2;subst e;refine CP (RR:=λacc C=>compPost 5#0 X.A X.xe (some (assign (.Name y py) X.env)) (λj s'=>SP X pins D .next s') acc C) hc I2 S T bH f2 hg ht he q2 ?_;intro l C s' H' I' fC⟨m,n⟩q;show W6 _ X.A (assign (.Name y py) X.env (.ref l)) _ _ _;refine wpAny_assign_Name (sW I' hN dF (.inl hy) (v:=.ref l) rfl (λpQ I''⟨a,hsb,ha⟩=>?_) (.inr hy));have bN:C≠a:=by
  rcases ha with rfl|ha;.exact fC.2.1
  .exactλe=>fC.2.2.2.2.1 y a ha e.symm
 refine⟨m,n.sameBut hsb bN,λh' iq=>⟨_,H',I''.turned (t':=pQ.toks) (λb o hb e=>(iq.2 b hb).trans e) fC.1 fC.2.1 fC.2.2.2.1 fC.2.2.2.2.1 fC.2.2.2.2.2,q⟩⟩
end
abbrev Tx:=List Nat
variable{ce:Tx->Nat}{ks:List (List Tx)}{tab:Tx->Bool}
def toS(x:Tx):Str:=⟨x.toArray⟩
theorem kD(x:Tx):(toS x).cps.toList=x:=#v[toS]
theorem kE(x:Tx):(toS x).length=x.length:=#v[toS,Str.length]
theorem oj(h:toS x=toS y):x=y:=by have:=congrArg (λz:Str=>z.cps.toList) h;simpa[toS]using this
theorem Px(z:Str):z=toS z.cps.toList:=#v[toS]
abbrev cb:=Sum Int Tx
def dW:cb->Key|.inl i=>.inl i|.inr x=>.inr (toS x)
inductive D where|aD|bl(b:Bool)|int(i:Int)|str(x:Tx)|tup(xs:List D)|lst(xs:List D)|bT(aw:List (cb×D))|exc(n:Nat)(fl:D)|xd(fs:List (Tx×D))|fn(a:Nat)|dic(aw:List (D×D))
variable{ds:List D}
mutual noncomputable def cL:Nat->D->Option NK|_,.int i=>some (.i i)|_,.bl b=>some (.i (if b then 1 else 0))|_,.str x=>some (.s (toS x))|n+1,.tup xs=>(iZ n xs).map .t|_,_=>none noncomputable def iZ:Nat->List D->Option (List NK)|_,[]=>some []|n,x::xs=>(cL n x).bind λk=>(iZ n xs).map λks=>k::ks end
def excAt(C:Addr)(v:V)(a:Addr):Heap->Prop:=λh=>∃o,h.get? a=some o/\o.cls=.ref C/\(∀x,v=.ref x->o.dict=some x)/\∃vs,o.data=.fields vs
def Py(fs:List (Str×V))(x:Addr):Heap->Prop:=λh=>∃mA,h.Ns1 x mA/\∀f,fB (fs.lookup f) (mA f)
inductive S where|pure(d:D)|own(d:D)
variable{aG ss:List S}{p':D->D->Option S}
def S.d:S->D|.pure d=>d|.own d=>d
abbrev Dl:=List (Option S)
variable{Z SZ S':Dl}
inductive Rep(H:Hp)(O:Addr->Prop):V->D->Prop|aD:Rep H O .aD .aD|bl(b:Bool):Rep H O (.bl b) (.bl b)|int(i:Int):Rep H O (.int i) (.int i)|str(x:Tx):Rep H O (.str (toS x)) (.str x)|tup{a:Addr}{vs:List V}{ds:List D}:¬O a->H a=some (.tup vs)->vs.length=ds.length->(∀(i:Nat)v d,vs[i]?=some v->ds[i]?=some d->Rep H O v d)->Rep H O (.ref a) (.tup ds)|lst{a:Addr}{vs:List V}{ds:List D}:¬O a->Rd H a (.lst vs)->vs.length=ds.length->(∀(i:Nat)v d,vs[i]?=some v->ds[i]?=some d->Rep H O v d)->Rep H O (.ref a) (.lst ds)|bT{a:Addr}{ws:List (Key×V)}{ds:List (cb×D)}:¬O a->H a=some (.dK ws)->ws.map (·.1)=ds.map (λp=>dW p.1)->(∀(i:Nat)p q,ws[i]?=some p->ds[i]?=some q->Rep H O p.2 q.2)->Rep H O (.ref a) (.bT ds)|exc{a:Addr}{n:Nat}{v:V}{fl:D}:¬O a->H a=some (.ext (excAt n v a))->Rep H O v fl->Rep H O (.ref a) (.exc n fl)|xd{x:Addr}{fs:List (Str×V)}{ds:List (Tx×D)}:¬O x->H x=some (.ext (Py fs x))->fs.map (·.1)=ds.map (λp=>toS p.1)->(∀(i:Nat)p q,fs[i]?=some p->ds[i]?=some q->Rep H O p.2 q.2)->Rep H O (.ref x) (.xd ds)|fn(a:Addr):Rep H O (.ref a) (.fn a)|dic{a:Addr}{ep:Nat}{ws:List (NK×V×V)}{ds:List (D×D)}:¬O a->H a=some (.dN ep ws)->ws.length=ds.length->(∀(i:Nat)p q,ws[i]?=some p->ds[i]?=some q->Rep H O p.2.1 q.1)->(∀(i:Nat)p q,ws[i]?=some p->ds[i]?=some q->Rep H O p.2.2 q.2)->(∀(i:Nat)p q,ws[i]?=some p->ds[i]?=some q->cL 6 q.1=some p.1)->Rep H O (.ref a) (.dic ds)
abbrev aH(H:Hp)(O:Addr->Prop)(vs:List V)(ds:List D):Prop:=vs.length=ds.length/\∀(i:Nat)v d,vs[i]?=some v->ds[i]?=some d->Rep H O v d
structure DN(H:Hp)(O:Addr->Prop)(ws:List (NK×V×V))(ds:List (D×D)):Prop where
 len:ws.length=ds.length
 key:∀(i:Nat)p q,ws[i]?=some p->ds[i]?=some q->Rep H O p.2.1 q.1val:∀(i:Nat)p q,ws[i]?=some p->ds[i]?=some q->Rep H O p.2.2 q.2mT:∀(i:Nat)p q,ws[i]?=some p->ds[i]?=some q->cL 6 q.1=some p.1
def gc(H:Hp)(O:Addr->Prop)(a:Addr):D->Prop|.lst ds=>∃vs,H a=some (.lst vs)/\aH H O vs ds|.bT ds=>∃ws:List (Key×V),H a=some (.dK ws)/\ws.map (·.1)=ds.map (λp=>dW p.1)/\∀(i:Nat)p q,ws[i]?=some p->ds[i]?=some q->Rep H O p.2 q.2|.dic ds=>∃(ep:Nat)(ws:List (NK×V×V)),H a=some (.dN ep ws)/\DN H O ws ds|_=>False
section
variable{d:D}{a:Addr}
theorem Rd.keep{u}(h:Rd H a u)(k:∀o,H a=Option.some o->H' a=Option.some o):Rd H' a u:=by
 rcases h with h|⟨o,h⟩;.exact .inl (k _ h)
 .exact .inr ⟨o,k _ h⟩
theorem Rd.some{u}(h:Rd H a u):∃o,H a=some o:=by
 rcases h with h|⟨o,h⟩;.exact⟨_,h⟩
 .exact⟨_,h⟩
theorem Rep.keep(h:Rep H O v d)(k:∀a o,H a=some o->¬O a->H' a=some o):Rep H' O v d:=by induction h with|aD=>exact .aD|bl b=>exact .bl b|int i=>exact .int i|str x=>exact .str x|tup h1 h2 h3 _ ih=>exact .tup h1 (k _ _ h2 h1) h3 ih|lst h1 h2 h3 _ ih=>exact .lst h1 (Rd.keep h2 λo e=>k _ o e h1) h3 ih|bT h1 h2 h3 _ ih=>exact .bT h1 (k _ _ h2 h1) h3 ih|exc h1 h2 _ ih=>exact .exc h1 (k _ _ h2 h1) ih|xd h1 h2 h3 _ ih=>exact .xd h1 (k _ _ h2 h1) h3 ih|fn a=>exact .fn a|dic h1 h2 h3 _ _ h6 ih ih'=>exact .dic h1 (k _ _ h2 h1) h3 ih ih' h6
theorem Rep.bj(h:Rep H O v d)(k:∀a,O' a->O a\/H a=none):Rep H O' v d:=by
 have no:∀{a:Addr}{u:HO},¬O a->Rd H a u->¬O' a:=λ{a u}h1 h2 z=>by grind[Rd.some]
 induction h with|aD=>exact .aD|bl b=>exact .bl b|int i=>exact .int i|str x=>exact .str x|tup h1 h2 h3 _ ih=>exact .tup (no h1 (.inl h2)) h2 h3 ih|lst h1 h2 h3 _ ih=>exact .lst (no h1 h2) h2 h3 ih|bT h1 h2 h3 _ ih=>exact .bT (no h1 (.inl h2)) h2 h3 ih|exc h1 h2 _ ih=>exact .exc (no h1 (.inl h2)) h2 ih|xd h1 h2 h3 _ ih=>exact .xd (no h1 (.inl h2)) h2 h3 ih|fn a=>exact .fn a|dic h1 h2 h3 _ _ h6 ih ih'=>exact .dic (no h1 (.inl h2)) h2 h3 ih ih' h6
theorem DN.keep{ws:List (NK×V×V)}{ds:List (D×D)}(h:DN H O ws ds)(k:∀a o,H a=some o->¬O a->H' a=some o):DN H' O ws ds:=⟨h.len,λi p q e1 e2=>(h.key i p q e1 e2).keep k,λi p q e1 e2=>(h.val i p q e1 e2).keep k,h.mT⟩
theorem DN.bj{ws:List (NK×V×V)}{ds:List (D×D)}(h:DN H O ws ds)(k:∀a,O' a->O a\/H a=none):DN H O' ws ds:=⟨h.len,λi p q e1 e2=>(h.key i p q e1 e2).bj k,λi p q e1 e2=>(h.val i p q e1 e2).bj k,h.mT⟩
theorem aH.keep(h:aH H O vs ds)(k:∀a o,H a=some o->¬O a->H' a=some o):aH H' O vs ds:=⟨h.1,λi v d e1 e2=>(h.2 i v d e1 e2).keep k⟩
theorem aH.bj(h:aH H O vs ds)(k:∀a,O' a->O a\/H a=none):aH H O' vs ds:=⟨h.1,λi v d e1 e2=>(h.2 i v d e1 e2).bj k⟩
theorem aH.nil:aH H O [] []:=⟨rfl,λi v d e j=>by simp at e⟩
theorem aH.cons{H O v d vs ds}(h:Rep H O v d)(r:aH H O vs ds):aH H O (v::vs) (d::ds):=by refine⟨#v[r.1],λi v' d' e1 e2=>?_⟩;cases i with|zero=>simp at e1 e2;subst e1;subst e2;exact h|succ i=>exact r.2 i v' d' (~~~e1) (~~~e2)
theorem aH.head(r:aH H O (v::vs) (d::ds)):Rep H O v d:=r.2 0 v d rfl rfl
theorem aH.tail(r:aH H O (v::vs) (d::ds)):aH H O vs ds:=⟨~~~r.1,λi v' d' e1 e2=>r.2 (i+1) v' d' (~~~e1) (~~~e2)⟩
theorem aH.append(h:aH H O vs ds)(h':aH H O mU fj):aH H O (vs++mU) (ds++fj):=by induction vs generalizing ds with
 |nil=>cases ds with|nil=>exact h'|cons d r=>have:=h.1;simp at this
 |cons v r ih=>cases ds with|nil=>have:=h.1;simp at this|cons d q=>exact .cons h.head (ih h.tail)
theorem aH.get(h:aH H O vs ds)(e:ds[i]?=some d):∃v,vs[i]?=some v/\Rep H O v d:=by have hi:i<ds.length:=(W8.mp e).1;have hv:i<vs.length:=%[h.1|hi];exact⟨vs[i],#v[hv],h.2 i _ d #v[hv] e⟩
theorem aH.take(n:Nat)(h:aH H O vs ds):aH H O (vs.take n) (ds.take n):=by
 refine⟨#v[h.1],λi v d e1 e2=>?_⟩;by_cases hi:i<n;.rw[List.getElem?_take_of_lt hi]at e1 e2;exact h.2 i v d e1 e2
 .rw[List.getElem?_take_eq_none Y']at e1;cases e1
theorem aH.drop(n:Nat)(h:aH H O vs ds):aH H O (vs.drop n) (ds.drop n):=by refine⟨#v[h.1],λi v d e1 e2=>?_⟩;rw[List.getElem?_drop]at e1 e2;exact h.2 (n+i) v d e1 e2
theorem aH.set(h:aH H O vs ds)(r:Rep H O v d)(j:Nat):aH H O (vs.set j v) (ds.set j d):=by
 refine⟨#v[h.1],λi v' d' e1 e2=>?_⟩;by_cases hi:j=i;.subst hi;rw[Qj]at e1 e2;simp at e1 e2;obtain⟨_,rfl⟩:=e1;obtain⟨_,rfl⟩:=e2;exact r
 .rw[Wc hi]at e1 e2;exact h.2 i v' d' e1 e2
theorem aH.reverse(h:aH H O vs ds):aH H O vs.reverse ds.reverse:=by
 refine⟨#v[h.1],λi v d e1 e2=>?_⟩;have hl:=h.1;have h1:i<vs.length:=by have:=(W8.mp e1).1;simpa using this
 rw[List.getElem?_reverse Y']at e1;rw[List.getElem?_reverse Y']at e2;exact h.2 (vs.length-1-i) v d e1 %[hl|e2]
theorem gc.keep(h:gc H O a d)(hk:∀b o,H b=Option.some o->¬O b->H' b=Option.some o)(ha:∀o,H a=Option.some o->H' a=Option.some o):gc H' O a d:=by cases d<;>first|exact h.elim|(obtain⟨vs,e,r⟩:=h;exact⟨vs,ha _ e,aH.keep r hk⟩)|(obtain⟨ws,e,r,q⟩:=h;exact⟨ws,ha _ e,r,λi p p' e1 e2=>(q i p p' e1 e2).keep hk⟩)|(obtain⟨ep,ws,e,r⟩:=h;exact⟨ep,ws,ha _ e,r.keep hk⟩)
theorem gc.bj(h:gc H O a d)(k:∀a,O' a->O a\/H a=none):gc H O' a d:=by cases d<;>first|exact h.elim|(obtain⟨vs,e,r⟩:=h;exact⟨vs,e,aH.bj r k⟩)|(obtain⟨ws,e,r,q⟩:=h;exact⟨ws,e,r,λi p p' e1 e2=>(q i p p' e1 e2).bj k⟩)|(obtain⟨ep,ws,e,r⟩:=h;exact⟨ep,ws,e,r.bj k⟩)
theorem gc.some(h:gc H O a d):∃o,H a=some o:=by cases d<;>first|exact h.elim|(obtain⟨vs,e,r⟩:=h;exact⟨_,e⟩)|(obtain⟨ep,vs,e,r⟩:=h;exact⟨_,e⟩)
theorem gc.rep(h:gc H O a d)(ho:¬O a):Rep H O (.ref a) d:=by cases d with|lst ds=>obtain⟨vs,e,r⟩:=h;exact .lst ho (.inl e) r.1 r.2|bT ds=>obtain⟨ws,e,r,q⟩:=h;exact .bT ho e r q|dic ds=>obtain⟨ep,ws,e,r⟩:=h;exact .dic ho e r.len r.key r.val r.mT|_=>exact h.elim
end
structure Xc where
 cls:Tx
 kF:D
structure Fc where
 H₀:Hp
 B:Addr->Prop
 pin:List (Nat×Addr)xc:Xc->Dl->Prop:=λj j=>False
def Fc.plus(c:Fc)(p:Addr):Fc:={c with B:=λa=>c.B a\/a=p}
def Fc.I(c:Fc)(a:Addr):Prop:=∃i,(i,a)∈c.pin
def Own(Y:St)(Z:Dl)(a:Addr):Prop:=∃(i:Nat)(d:D),Z[i]?=some (some (.own d))/\Y[i]?=some (some (.ref a))
def Av(c:Fc)(Y:St)(Z:Dl)(a:Addr):Prop:=c.B a\/Own Y Z a
structure Ok(c:Fc)(Y:St)(Z:Dl)(H:Hp):Prop where
 keep:∀a o,c.H₀ a=some o->¬c.I a->H a=some o
 bd:∀a,c.B a->∃o,H a=some o
 d_:∀a,c.I a->∃o,H a=some o
 len:Z.length=Y.length
 slot:∀(i:Nat)d,Z[i]?=some 0#d->∃v,Y[i]?=some (some v)/\Rep H (Av c Y Z) v d
 own:∀(i:Nat)d,Z[i]?=some (some (.own d))->∃a,Y[i]?=some (some (.ref a))/\gc H (Av c Y Z) a d/\(c.I a\/c.H₀ a=none)/\¬c.B a
 inj:∀(i j:Nat)a d d',Z[i]?=some (some (.own d))->Z[j]?=some (some (.own d'))->Y[i]?=some (some (.ref a))->Y[j]?=some (some (.ref a))->i=j
 pinned:∀p∈c.pin,Y[p.1]?=some (some (.ref p.2))
structure aK(c:Fc)(Y:St)(Z:Dl)(H:Hp)(SC:St)(SZ:Dl)(H':Hp):Prop where
 ok:Ok c SC SZ H'
 keep:∀a o,H a=some o->¬Own Y Z a->H' a=some o
 own:∀a,Own SC SZ a->Own Y Z a\/H a=none
 there:∀a o,H a=some o->∃o',H' a=some o'
section
variable{c:Fc}{Y'':St}{Z'':Dl}{CW:Hp}{d:D}{a p:Addr}
theorem Ok.Pz(k:Ok c Y Z H)(h:c.B a):∃o,H a=some o:=k.bd a h
theorem Ok.CY(k:Ok c Y Z H)(h:Own Y Z a):∃o,H a=some o:=by obtain⟨i,d,e1,e2⟩:=h;obtain⟨b,e3,q,_⟩:=k.own i d e1;rw[e2]at e3;cases e3;exact q.some
theorem Ok.CZ(k:Ok c Y Z H)(h:Av c Y Z a):∃o,H a=some o:=h.elim k.Pz k.CY
theorem Ok.ju(k:Ok c Y Z H)(h:H a=none):¬Av c Y Z a:=λz=>by obtain⟨o,e⟩:=k.CZ z;grind
theorem aK.refl(k:Ok c Y Z H):aK c Y Z H Y Z H:=⟨k,λj j e j=>e,λj h=>.inl h,λj o e=>⟨o,e⟩⟩
theorem aK.trans(x:aK c Y Z H SC SZ H')(y:aK c SC SZ H' Y'' Z'' CW):aK c Y Z H Y'' Z'' CW:=by
 refine⟨y.ok,λa o e n=>?_,λa h=>?_,λa o e=>?_⟩;.refine y.keep a o (x.keep a o e n) λz=>?_;rcases x.own a z with q|q;all_goals grind
 .rcases y.own a h with q|q;.exact x.own a q
  .right;cases e:H a with|none=>rfl|some o=>obtain⟨o',e'⟩:=x.there a o e;grind
 .obtain⟨o',e'⟩:=x.there a o e;exact y.there a o' e'
theorem aK.av(x:aK c Y Z H SC SZ H'):∀a,Av c SC SZ a->Av c Y Z a\/H a=none:=λa h=>by
 rcases h with h|h;.exact .inl (.inl h)
 .rcases x.own a h with q|q;.exact .inl (.inr q)
  .exact .inr q
theorem Rep.dG(h:Rep H (Av c Y Z) v d)(x:aK c Y Z H SC SZ H'):Rep H' (Av c SC SZ) v d:=by have h1:Rep H (λa=>Av c Y Z a\/Av c SC SZ a) v d:=Rep.bj h λa z=>z.elim .inl (x.av a);exact(h1.keep λa o e n=>x.keep a o e λz=>n (.inl (.inr z))).bj λa z=>.inl (.inr z)
theorem aH.dG(h:aH H (Av c Y Z) vs ds)(x:aK c Y Z H SC SZ H'):aH H' (Av c SC SZ) vs ds:=⟨h.1,λi v d e1 e2=>Rep.dG (h.2 i v d e1 e2) x⟩
def aN(c:Fc)(Y:St)(Z:Dl)(Hs H:Hp)(v:V):S->Prop|.pure d=>Rep H (Av c Y Z) v d|.own d=>∃a,v=.ref a/\gc H (Av (c.plus a) Y Z) a d/\¬c.B a/\c.H₀ a=none/\Ok (c.plus a) Y Z H/\Hs a=none
theorem tR(k:Ok (c.plus a) Y Z H):¬Own Y Z a:=λ⟨i,d,e1,e2⟩=>by obtain⟨b,e3,_,_,n⟩:=k.own i d e1;rw[e2]at e3;cases e3;exact n (.inr rfl)
theorem aN.rep(h:aN c Y Z Hs H v r):Rep H (Av c Y Z) v r.d:=by cases r with|pure d=>exact h|own d=>obtain⟨a,rfl,o,n,f,k,_⟩:=h;refine(o.bj λb z=>.inl ?_).rep λz=>z.elim n (tR k);exact z.elim (λz=>.inl (.inl z)) .inr
theorem aN.back(h:aN c Y Z Hs H v r)(x:aK c Y₀ Z₀ H' SC SZ Hs):aN c Y Z H' H v r:=by cases r with|pure d=>exact h|own d=>obtain⟨a,e,o,n,f,k,hs⟩:=h;refine⟨a,e,o,n,f,k,?_⟩;cases q:H' a with|none=>rfl|some o=>obtain⟨o',e'⟩:=x.there a o q;grind
theorem aN.PB(h:aN c Y Z Hs H v r):aN c Y Z c.H₀ H v r:=by cases r with|pure d=>exact h|own d=>obtain⟨a,e,o,n,f,k,hs⟩:=h;exact⟨a,e,o,n,f,k,f⟩
theorem Ok.alloc(k:Ok c Y Z H)(hp:H p=none)(o:HO):Ok c Y Z (upd H p o):=by
 have up:∀a w,H a=some w->upd H p o a=some w:=λa w e=>by rw[aY (dZ e hp)];exact e
 refine⟨λa w e n=>up a w (k.keep a w e n),λa z=>(k.bd a z).elim λw e=>⟨w,up a w e⟩,λa z=>(k.d_ a z).elim λw e=>⟨w,up a w e⟩,k.len,λi d e=>?_,λi d e=>?_,k.inj,k.pinned⟩;.obtain⟨v,e1,r⟩:=k.slot i d e;exact⟨v,e1,r.keep λa w q j=>up a w q⟩
 .obtain⟨a,e1,r,q⟩:=k.own i d e;exact⟨a,e1,r.keep (λb w q j=>up b w q) λw q=>up a w q,q⟩
theorem aK.alloc(k:Ok c Y Z H)(hp:H p=none)(o:HO):aK c Y Z H Y Z (upd H p o):=by
 have up:∀a w,H a=some w->upd H p o a=some w:=λa w e=>by rw[aY (dZ e hp)];exact e
 exact⟨k.alloc hp o,λa w e j=>up a w e,λa h=>.inl h,λa w e=>⟨w,up a w e⟩⟩
theorem Ok.kG(k:Ok c Y Z H)(hp:H p=none):c.H₀ p=none:=by cases e:c.H₀ p with|none=>rfl|some o=>
 by_cases q:c.I p;.obtain⟨w,e'⟩:=k.d_ p q;grind
 .have:=k.keep p o e q;grind
theorem Ok.plus(k:Ok c Y Z H)(hp:H p=none)(o:HO):Ok (c.plus p) Y Z (upd H p o):=by
 have k':=k.alloc hp o;have sub:∀b,Av (c.plus p) Y Z b->Av c Y Z b\/b=p:=λb z=>by
  rcases z with(z|z)|z;.exact .inl (.inl z)
  .exact .inr z
  .exact .inl (.inr z)
 have tS:∀b,Av (c.plus p) Y Z b->Av c Y Z b\/H b=none:=λb z=>(sub b z).elim .inl λe=>.inr %[e|hp];have up:∀a w,H a=some w->upd H p o a=some w:=λa w e=>by rw[aY (dZ e hp)];exact e
 refine⟨k'.keep,λa z=>?_,k'.d_,k.len,λi d e=>?_,λi d e=>?_,k.inj,k.pinned⟩
 .rcases z with z|z;.exact k'.bd a z
  .exact⟨o,%[z|cJ]⟩
 .obtain⟨v,e1,r⟩:=k.slot i d e;exact⟨v,e1,(r.bj tS).keep λa w q j=>up a w q⟩
 .obtain⟨a,e1,r,q,nb⟩:=k.own i d e;refine⟨a,e1,(r.bj tS).keep (λb w q j=>up b w q) λw q=>up a w q,q,λz=>?_⟩;rcases z with z|z;all_goals grind[gc.some]
theorem aN.jv(k:Ok c Y Z H)(r:aH H (Av c Y Z) vs ds)(hp:H p=none):aN c Y Z H (upd H p (.lst vs)) (.ref p) (.own (.lst ds)):=by
 have up:∀a w,H a=some w->upd H p (.lst vs) a=some w:=λa w e=>by rw[aY (dZ e hp)];exact e
 refine⟨p,rfl,⟨vs,cJ,?_⟩,λz=>k.ju hp (.inl z),k.kG hp,k.plus hp _,hp⟩;have r1:aH H (Av (c.plus p) Y Z) vs ds:=aH.bj r λb z=>by
  rcases z with(z|z)|z;.exact .inl (.inl z)
  .exact .inr %[z|hp]
  .exact .inl (.inr z)
 exact aH.keep r1 λb w e j=>up b w e
theorem aN.om(k:Ok c Y Z H)(r:aH H (Av c Y Z) vs ds)(hp:H p=none):aN c Y Z H (upd H p (.tup vs)) (.ref p) (.pure (.tup ds)):=by
 have up:∀a w,H a=some w->upd H p (.tup vs) a=some w:=λa w e=>by rw[aY (dZ e hp)];exact e
 have r1:=aH.keep r (H':=upd H p (.tup vs)) λb w e j=>up b w e;exact .tup (k.ju hp) cJ r1.1 r1.2
end
inductive Rs(α:Type)where|ok(a:α)(Z:Dl)|exc(x:Xc)(Z:Dl)|stuck
noncomputable def Rs.bind{α β:Type}(r:Rs α)(f:α->Dl->Rs β):Rs β:=match r with|.ok a Z=>f a Z|.exc x Z=>.exc x Z|.stuck=>.stuck
abbrev DE:=Dl->Rs S
variable{el fa fe:DE}
def XC(c:Fc)(x:Xc)(Z:Dl):Prop:=c.xc x Z
def post{α:Type}(c:Fc)(r:Rs α)(k:α->Dl->Prop):Prop:=match r with|.ok a Z=>k a Z|.exc x Z=>XC c x Z|.stuck=>False
theorem bx{f}:post c (r.bind f) k↔post c r λa Z=>post c (f a Z) k:=by cases r<;>exact Iff.rfl
theorem aT(h:post c r k)(m:∀a Z,k a Z->k' a Z):post c r k':=by cases r with|ok a Z=>exact m a Z h|exc x Z=>exact h|stuck=>exact h
def tD(c:Fc)(f:DE):TE:=λY H Q=>∃Z,Ok c Y Z H/\post c (f Z) λr SZ=>∀v H',aK c Y Z H Y SZ H'->aN c Y SZ H H' v r->Q v H'
abbrev SE(X:Cx)(c:Fc)(e:Expr)(f:DE):Prop:=PE X e (tD c f)
def cX(c:Fc)(Y:St)(Z:Dl)(H:Hp)(v:V)(d:D):Prop:=Rep H (Av c Y Z) v d\/∃a,v=.ref a/\gc H (Av c Y Z) a d
abbrev BE:=Dl->Rs D
variable{fb fc:BE}
def UF(c:Fc)(f:BE):TE:=λY H Q=>∃Z,Ok c Y Z H/\post c (f Z) λd SZ=>∀v H',aK c Y Z H Y SZ H'->cX c Y SZ H' v d->Q v H'
abbrev SB(X:Cx)(c:Fc)(e:Expr)(f:BE):Prop:=PE X e (UF c f)
theorem PE.weak{t'}(h:PE X e t)(w:∀Y H Q,t' Y H Q->t Y H Q):PE X e t':=λpins s Y H Q I q=>h pins s Y H Q I (w Y H Q q)
def ae(f:DE):BE:=λZ=>(f Z).bind λr SZ=>.ok r.d SZ
theorem aN.b(h:aN c Y Z Hs H v r):cX c Y Z H v r.d:=.inl h.rep
theorem PC{c:Fc}{f:DE}(h:SE X c e f):SB X c e (ae f):=PE.weak h λY H Q⟨Z,k,p⟩=>⟨Z,k,by unfold ae at p;rw[bx]at p;exact aT p λr SZ q v H' a s=>q v H' a s.b⟩
def aq(i:Nat):BE:=λZ=>match Z[i]? with|some (some r)=>.ok r.d Z|_=>.stuck
def aa(i:Nat):DE:=λZ=>match Z[i]? with|some 0#d=>.ok (.pure d) Z|some (some (.own d))=>.ok (.pure d) (Z.set i 0#d)|_=>.stuck
def eD(d:D):DE:=λZ=>.ok (.pure d) Z
section
variable{c:Fc}
theorem PF(h:PE X e (fD i)):SB X c e (aq i):=PE.weak h λY H Q⟨Z,k,p⟩=>by unfold aq at p;cases e:Z[i]? with|none=>rw[e]at p;exact p.elim|some o=>cases o with|none=>rw[e]at p;exact p.elim|some r=>rw[e]at p;cases r with|pure d=>obtain⟨v,e1,r⟩:=k.slot i d e;exact⟨v,e1,p v H (.refl k) (.inl r)⟩|own d=>obtain⟨a,e1,r,_⟩:=k.own i d e;exact⟨.ref a,e1,p _ H (.refl k) (.inr ⟨a,rfl,r⟩)⟩
theorem Own.sub(h:Own Y (Z.set i 0#d) a):Own Y Z a:=by
 obtain⟨j,d',e1,e2⟩:=h;by_cases hj:i=j;.subst hj;rw[Qj]at e1;simp at e1
 .rw[Wc hj]at e1;exact⟨j,d',e1,e2⟩
theorem Ok.give(k:Ok c Y Z H)(e:Z[i]?=some (some (.own d))):∃a,Y[i]?=some (some (.ref a))/\aK c Y Z H Y (Z.set i 0#d) H/\Rep H (Av c Y (Z.set i 0#d)) (.ref a) d:=by
 obtain⟨a,e1,r,q,nb⟩:=k.own i d e;have hi:i<Z.length:=(W8.mp e).1;have sub:∀b,Av c Y (Z.set i 0#d) b->Av c Y Z b:=λb z=>z.elim .inl λz=>.inr z.sub;have na:¬Av c Y (Z.set i 0#d) a:=by
  rintro(z|⟨j,d',f1,f2⟩);.exact nb z
  .by_cases hj:i=j;.subst hj;rw[Qj]at f1;simp at f1
   .rw[Wc hj]at f1;exact hj (k.inj i j a d d' e f1 e1 f2)
 have rep:Rep H (Av c Y (Z.set i 0#d)) (.ref a) d:=(r.bj λb z=>.inl (sub b z)).rep na;refine⟨a,e1,⟨⟨k.keep,k.bd,k.d_,%[U6|k.len],λj d' f=>?_,λj d' f=>?_,λj l b d1 d2 f1 f2=>?_,k.pinned⟩,λy y w y=>w,λb z=>.inl z.sub,λy o w=>⟨o,w⟩⟩,rep⟩
 .by_cases hj:i=j;.subst hj;rw[WE hi]at f;cases f;exact⟨.ref a,e1,rep⟩
  .rw[Wc hj]at f;obtain⟨v,g1,g2⟩:=k.slot j d' f;exact⟨v,g1,g2.bj λb z=>.inl (sub b z)⟩
 .by_cases hj:i=j;.subst hj;rw[WE hi]at f;cases f
  .rw[Wc hj]at f;obtain⟨b,g1,g2,g3⟩:=k.own j d' f;exact⟨b,g1,g2.bj λb z=>.inl (sub b z),g3⟩
 .have h1:Z[j]?=some (some (.own d1)):=by
   by_cases hj:i=j;.subst hj;rw[WE hi]at f1;cases f1
   .rw[Wc hj]at f1;exact f1
  have h2:Z[l]?=some (some (.own d2)):=by
   by_cases hj:i=l;.subst hj;rw[WE hi]at f2;cases f2
   .rw[Wc hj]at f2;exact f2
  exact k.inj j l b d1 d2 h1 h2
theorem PH(h:PE X e (fD i)):SE X c e (aa i):=PE.weak h λY H Q⟨Z,k,p⟩=>by unfold aa at p;cases e:Z[i]? with|none=>rw[e]at p;exact p.elim|some o=>cases o with|none=>rw[e]at p;exact p.elim|some r=>rw[e]at p;cases r with|pure d=>obtain⟨v,e1,r⟩:=k.slot i d e;exact⟨v,e1,p v H (.refl k) r⟩|own d=>obtain⟨a,e1,x,r⟩:=k.give e;exact⟨.ref a,e1,p _ H x r⟩
theorem C0{i j pos}:SE X c (.Constant (.int i) j pos) 3#i:=PE.weak Bm λY H Q⟨Z,k,p⟩=>p _ H (.refl k) (.int i)
theorem C1{b j pos}:SE X c (.Constant (.bool b) j pos) (eD (.bl b)):=PE.weak wo λY H Q⟨Z,k,p⟩=>p _ H (.refl k) (.bl b)
theorem C2{j pos}:SE X c (.Constant .none j pos) (eD .aD):=PE.weak MS λY H Q⟨Z,k,p⟩=>p _ H (.refl k) .aD
theorem C3{x j pos}(y:Tx)(h:x=toS y:=by decide+kernel):SE X c (.Constant (.str x) j pos) (eD (.str y)):=by subst h;exact PE.weak Bn λY H Q⟨Z,k,p⟩=>p _ H (.refl k) (.str y)
theorem PJ{i}(hg:Gl X x)(hm:X.mg x=some (.int i t))(hd:(x==("__debug__":Str))=false:=by decide):SE X c (.Name x pos) 3#i:=PE.weak (MT (v:=.int i) hg hm ⟨t,rfl⟩ hd) λY H Q⟨Z,k,p⟩=>p _ H (.refl k) (.int i)
end
open PySem.SeqAt
mutual noncomputable def aU:D->D->Bool
 |.aD,e=>match e with|.aD=>true|_=>false
 |.bl a,e=>match e with|.bl b=>a==b|.int b=>(if a then 1 else 0)==b|_=>false
 |.int a,e=>match e with|.int b=>a==b|.bl b=>a==if b then 1 else 0|_=>false
 |.str a,e=>match e with|.str b=>a==b|_=>false
 |.tup xs,e=>match e with|.tup ys=>dO xs ys|_=>false
 |.lst xs,e=>match e with|.lst ys=>dO xs ys|_=>false
 |_,_=>false noncomputable def dO:List D->List D->Bool|[],[]=>true|x::xs,y::ys=>aU x y&&dO xs ys|_,_=>false end
mutual noncomputable def flat:Nat->D->Bool|_,.aD=>true|_,.bl _=>true|_,.int _=>true|_,.str _=>true|0,.tup _=>false|n+1,.tup xs=>fU n xs|0,.lst _=>false|n+1,.lst xs=>fU n xs|_,.bT _=>false|_,.exc _ _=>false|_,.xd _=>false|_,.fn _=>false|_,.dic _=>false noncomputable def fU:Nat->List D->Bool|_,[]=>true|n,x::xs=>flat n x&&fU n xs end
theorem mV:∀{xs:List D}{x:D},fU n xs=true->x∈xs->flat n x=true
 |[],_,_,h=>by simp at h|y::ys,x,h,hm=>by
  simp only[fU,Wr]at h;rcases Wq.mp hm with e|hm;.rw[e];exact h.1
  .exact mV h.2 hm
theorem tU:∀{xs ys:List D}{f:Nat->Bool},xs.length=ys.length->(∀(j:Nat)x y,xs[j]?=some x->ys[j]?=some y->f j=aU x y)->(Wx xs.length).all f=dO xs ys|[],[],f,_,_=>rfl|[],y::ys,f,h,_=>by simp at h|x::xs,[],f,h,_=>by simp at h|x::xs,y::ys,f,h,hf=>by simp only[dO];rw[WV,List.range_succ_eq_map,Um,hf 0 x y rfl rfl,JP];rw[<-tU (f:=λj=>f (j+1)) (~~~h) λj a b e1 e2=>hf (j+1) a b (~~~e1) (~~~e2)];rfl
theorem tV:∀{xs ys:List D},xs.length≠ys.length->dO xs ys=false|[],[],h=>absurd rfl h|[],y::ys,_=>rfl|x::xs,[],_=>rfl|x::xs,y::ys,h=>by simp only[dO];rw[tV (xs:=xs) (ys:=ys) (by intro e;exact h #v[e])];simp
mutual theorem xB:∀{n:Nat}{d:D},flat n d=true->aU d d=true|_,.aD,_=>rfl|_,.bl b,_=>#v[aU]|_,.int i,_=>#v[aU]|_,.str x,_=>#v[aU]|0,.tup xs,h=>by simp[flat]at h|n+1,.tup xs,h=>by simp only[aU];exact xC (n:=n) (by simpa[flat]using h)|0,.lst xs,h=>by simp[flat]at h|n+1,.lst xs,h=>by simp only[aU];exact xC (n:=n) (by simpa[flat]using h)|_,.bT xs,h=>by simp[flat]at h|_,.exc n _,h=>by simp[flat]at h|_,.xd n,h=>by simp[flat]at h;theorem xC:∀{n:Nat}{ds:List D},fU n ds=true->dO ds ds=true|_,[],_=>rfl|n,x::xs,h=>by simp only[fU,Wr]at h;simp only[dO];rw[xB h.1,xC h.2];rfl;end
abbrev cU:Addr->Prop:=λj=>False
theorem Rep.un(h:Rep H O v d):Rep H cU v d:=Rep.bj h λj z=>z.elim
theorem cX.un(h:cX c Y Z H v d):Rep H cU v d:=by
 rcases h with h|⟨a,rfl,o⟩;.exact Rep.un h
 .exact(o.bj (O':=cU) λj z=>z.elim).rep λz=>z
theorem Inv.lJ(I:6#0)(h:Rd H a (.lst vs)):∃its:List Value,Vals vs its/\s.heap.IsList a its.toArray:=by obtain⟨its,r,p,_⟩:=I.list (.inl h);exact⟨its,r,p.isList⟩
theorem Inv.lK(I:6#0)(h:H a=some (.tup vs)):∃its:List Value,Vals vs its/\s.heap.IsTuple a its.toArray:=by obtain⟨its,r,p,_⟩:=I.tuple (.of h);exact⟨its,r,p⟩
theorem oq(x y:Tx):((toS x:Str)==toS y)=(x==y):=by rw[Qu];simp only[beq_iff_eq];exact⟨oj,λe=>by rw[e]⟩
theorem PK(A:Wp):A.in1.units=A.units+1:=rfl
theorem Rd.inj{u w}(h:Rd H a u)(k:Rd H a w)(hu:∀o z,u≠.frz o z)(hw:∀o z,w≠.frz o z):u=w:=by
 rcases h with h|⟨o,h⟩<;>rcases k with k|⟨o',k⟩;.rw[h]at k;exact WL k
 .rw[h]at k;exact absurd (WL k) (hu _ _)
 .rw[h]at k;exact absurd (WL k).symm (hw _ _)
 .rw[h]at k;have:=WL k;injection this
theorem aH.inj:∀{ds es:List D},vs.length=ds.length->vs.length=es.length->(∀(i:Nat)v d e,vs[i]?=some v->ds[i]?=some d->es[i]?=some e->d=e)->ds=es:=by
 intro ds es h1 h2 h;apply JN;intro i;by_cases hi:i<vs.length
 .have a1:i<ds.length:=by lia
  have a2:i<es.length:=by lia
  rw[W4 a1,W4 a2];rw[h i vs[i] ds[i] es[i] #v[hi] #v[a1] #v[a2]]
 .rw[Q0 Y',Q0 Y']
theorem Rep.inj{d:D}(h:Rep H O v d):∀{n:Nat}{e:D},flat n d=true->flat n e=true->Rep H O v e->d=e:=by induction h with
 |aD=>intro n e _ _ k;cases k;rfl|bl b=>intro n e _ _ k;cases k;rfl|int i=>intro n e _ _ k;cases k;rfl|str x=>intro n e _ _ k;generalize hz:V.str (toS x)=z at k;cases k with|str y=>injection hz with hz;rw[oj hz]|_=>cases hz
 |@tup a vs ds h1 h2 h3 h4 ih=>intro n e fd fe k;cases n with|zero=>simp[flat]at fd|succ n=>simp only[flat]at fd;cases k with|@tup _ ws es k1 k2 k3 k4=>simp only[flat]at fe;have e1:=Rd.inj (.inl h2) (.inl k2) (λj j z=>by cases z) (λj j z=>by cases z);injection e1 with e1;subst e1;rw[aH.inj h3 k3 λi v d e q1 q2 q3=>ih i v d q1 q2 (mV fd (Wz q2)) (mV fe (Wz q3)) (k4 i v e q1 q3)]|lst k1 k2=>exact absurd (Rd.inj (.inl h2) k2 (λj j z=>by cases z) λj j z=>by cases z) λz=>by cases z|bT k1 k2=>exact absurd (Rd.inj (.inl h2) (.inl k2) (λj j z=>by cases z) λj j z=>by cases z) λz=>by cases z|exc k1 k2=>simp[flat]at fe|xd k1 k2=>simp[flat]at fe|fn _=>simp[flat]at fe|dic _=>simp[flat]at fe
 |@lst a vs ds h1 h2 h3 h4 ih=>intro n e fd fe k;cases n with|zero=>simp[flat]at fd|succ n=>simp only[flat]at fd;cases k with|@lst _ ws es k1 k2 k3 k4=>simp only[flat]at fe;have e1:=Rd.inj h2 k2 (λj j z=>by cases z) (λj j z=>by cases z);injection e1 with e1;subst e1;rw[aH.inj h3 k3 λi v d e q1 q2 q3=>ih i v d q1 q2 (mV fd (Wz q2)) (mV fe (Wz q3)) (k4 i v e q1 q3)]|tup k1 k2=>exact absurd (Rd.inj h2 (.inl k2) (λj j z=>by cases z) λj j z=>by cases z) λz=>by cases z|bT k1 k2=>exact absurd (Rd.inj h2 (.inl k2) (λj j z=>by cases z) λj j z=>by cases z) λz=>by cases z|exc k1 k2=>simp[flat]at fe|xd k1 k2=>simp[flat]at fe|fn _=>simp[flat]at fe|dic _=>simp[flat]at fe
 |bT h1 h2 h3 h4 ih=>intro n e fd _ _;cases n<;>simp[flat]at fd|exc h1 h2=>intro n e fd _ _;cases n<;>simp[flat]at fd|xd h1 h2=>intro n e fd _ _;cases n<;>simp[flat]at fd|fn _=>intro n e fd _ _;cases n<;>simp[flat]at fd|dic h1 h2=>intro n e fd _ _;cases n<;>simp[flat]at fd
def xD(H:Hp)(s:W1)(n:Nat):Prop:=∀(A:Wp)(x y:V)(u w:Value)(d e:D),A.units+n+1<Q3->flat n d=true->flat n e=true->Rep H cU x d->Rep H cU y e->RelV x u->RelV y w->EqAt A s u w (aU d e)
def mW(H:Hp)(s:W1)(A:Wp)(n:Nat):Prop:=match n with|0=>True|m+1=>A.units+m+2<Q3/\xD H s m
def tW(ds es:List D)(j:Nat):Bool:=match ds[j]?,es[j]? with|some p,some q=>aU p q|_,_=>false
theorem tY{es}(j:Nat)(p q:D)(e1:ds[j]?=some p)(e2:es[j]?=some q):tW ds es j=aU p q:=by unfold tW;rw[e1,e2]
theorem tZ{ws:List V}{es:List D}{gf:List Value}(hu:A.units+n+2<Q3)(ih:xD H s n)(r1:Vals vs its)(r2:Vals ws gf)(l1:vs.length=ds.length)(l2:ws.length=es.length)(g1:∀(i:Nat)v d,vs[i]?=some v->ds[i]?=some d->Rep H cU v d)(g2:∀(i:Nat)v d,ws[i]?=some v->es[i]?=some d->Rep H cU v d)(f1:fU n ds=true)(f2:fU n es=true):∀j(h1:j<its.toArray.size)(h2:j<gf.toArray.size),EqAt A.in1 s its.toArray[j] gf.toArray[j] (tW ds es j):=by
 intro j h1 h2;have e1:=r1.length;have e2:=r2.length;simp at h1 h2;have hd:j<ds.length:=by lia
 have he:j<es.length:=by lia
 have hv:j<vs.length:=by lia
 have hw:j<ws.length:=by lia
 obtain⟨u',hu',ru'⟩:=r1.get (i:=j) (x:=vs[j]) #v[hv];obtain⟨w',hw',rw''⟩:=r2.get (i:=j) (x:=ws[j]) #v[hw];have eu:its.toArray[j]=u':=by simpa[h1]using hu'
 have ew:gf.toArray[j]=w':=by simpa[h2]using hw'
 rw[eu,ew,tY j ds[j] es[j] #v[hd] #v[he]];exact ih A.in1 vs[j] ws[j] u' w' ds[j] es[j] (by rw[PK];lia) (mV f1 (Qv hd)) (mV f2 (Qv he)) (g1 j _ _ #v[hv] #v[hd]) (g2 j _ _ #v[hw] #v[he]) ru' rw''
theorem C4{m es}(h1:n=ds.length)(h2:m=es.length):((Wx (min n m)).all (tW ds es)&&n==m)=dO ds es:=by
 subst h1 h2;by_cases hl:ds.length=es.length;.rw[<-hl,Nat.min_self,tU hl tY];simp
 .rw[tV hl];simp[hl]
theorem PL{es}(I:6#0)(n:Nat)(A:Wp)(bD:A.units<Q3)(t1:s.heap.IsTuple a its.toArray)(t2:s.heap.IsTuple b gf.toArray)(r1:Vals vs its)(r2:Vals ws gf)(l1:vs.length=ds.length)(l2:ws.length=es.length)(g1:∀(i:Nat)v d,vs[i]?=some v->ds[i]?=some d->Rep H cU v d)(g2:∀(i:Nat)v d,ws[i]?=some v->es[i]?=some d->Rep H cU v d)(f1:flat n (.tup ds)=true)(f2:flat n (.tup es)=true)(ih:mW H s A n):RcAt A s (.ref a) (.ref b) (dO ds es):=by cases n with|zero=>simp[flat]at f1|succ n=>simp only[flat]at f1 f2;obtain⟨hu,ih⟩:=ih;have q:=RcAt.tuples (A:=A) (s:=s) t1 t2 bD (tZ hu ih r1 r2 l1 l2 g1 g2 f1 f2);rw[C4 (by have:=r1.length;simp;lia) (by have:=r2.length;simp;lia)]at q;exact q
theorem PM{es}(I:6#0)(n:Nat)(A:Wp)(bD:A.units<Q3)(t1:s.heap.IsTuple a its.toArray)(t2:s.heap.IsTuple b gf.toArray)(r1:Vals vs its)(r2:Vals ws gf)(l1:vs.length=ds.length)(l2:ws.length=es.length)(g1:∀(i:Nat)v d,vs[i]?=some v->ds[i]?=some d->Rep H cU v d)(g2:∀(i:Nat)v d,ws[i]?=some v->es[i]?=some d->Rep H cU v d)(f1:flat n (.tup ds)=true)(f2:flat n (.tup es)=true)(ih:mW H s A n):RcNeAt A s (.ref a) (.ref b) !dO ds es:=by cases n with|zero=>simp[flat]at f1|succ n=>simp only[flat]at f1 f2;obtain⟨hu,ih⟩:=ih;have q:=RcNeAt.tuples (A:=A) (s:=s) t1 t2 bD (tZ hu ih r1 r2 l1 l2 g1 g2 f1 f2);rw[C4 (by have:=r1.length;simp;lia) (by have:=r2.length;simp;lia)]at q;exact q
theorem PN{es}(I:6#0)(n:Nat)(A:Wp)(bD:A.units<Q3)(t1:s.heap.IsList a its.toArray)(t2:s.heap.IsList b gf.toArray)(r1:Vals vs its)(r2:Vals ws gf)(l1:vs.length=ds.length)(l2:ws.length=es.length)(g1:∀(i:Nat)v d,vs[i]?=some v->ds[i]?=some d->Rep H cU v d)(g2:∀(i:Nat)v d,ws[i]?=some v->es[i]?=some d->Rep H cU v d)(f1:flat n (.lst ds)=true)(f2:flat n (.lst es)=true)(ih:mW H s A n):RcAt A s (.ref a) (.ref b) (dO ds es):=by cases n with|zero=>simp[flat]at f1|succ n=>
 simp only[flat]at f1 f2;obtain⟨hu,ih⟩:=ih;have z1:its.toArray.size=ds.length:=by have:=r1.length;simp;lia
 have z2:gf.toArray.size=es.length:=by have:=r2.length;simp;lia
 by_cases hl:ds.length=es.length;.have q:=RcAt.lists (A:=A) (s:=s) t1 t2 %[z1,z2|hl] bD (tZ hu ih r1 r2 l1 l2 g1 g2 f1 f2);rw[z1,tU hl tY]at q;exact q
 .rw[tV hl];exact RcAt.lists_lengths (A:=A) (s:=s) t1 t2 (by rw[z1,z2];simpa using hl) bD
theorem PQ{es}(I:6#0)(n:Nat)(A:Wp)(bD:A.units<Q3)(t1:s.heap.IsList a its.toArray)(t2:s.heap.IsList b gf.toArray)(r1:Vals vs its)(r2:Vals ws gf)(l1:vs.length=ds.length)(l2:ws.length=es.length)(g1:∀(i:Nat)v d,vs[i]?=some v->ds[i]?=some d->Rep H cU v d)(g2:∀(i:Nat)v d,ws[i]?=some v->es[i]?=some d->Rep H cU v d)(f1:flat n (.lst ds)=true)(f2:flat n (.lst es)=true)(ih:mW H s A n):RcNeAt A s (.ref a) (.ref b) !dO ds es:=by cases n with|zero=>simp[flat]at f1|succ n=>
 simp only[flat]at f1 f2;obtain⟨hu,ih⟩:=ih;have z1:its.toArray.size=ds.length:=by have:=r1.length;simp;lia
 have z2:gf.toArray.size=es.length:=by have:=r2.length;simp;lia
 by_cases hl:ds.length=es.length;.have q:=RcNeAt.lists (A:=A) (s:=s) t1 t2 %[z1,z2|hl] bD (tZ hu ih r1 r2 l1 l2 g1 g2 f1 f2);rw[z1,tU hl tY]at q;exact q
 .rw[tV hl];exact RcNeAt.lists_lengths (A:=A) (s:=s) t1 t2 (by rw[z1,z2];simpa using hl) bD
theorem xE(I:6#0)(n:Nat)(A:Wp)(x y:V)(u w:Value)(d e:D)(bD:A.units<Q3)(fd:flat n d=true)(fe:flat n e=true)(ih:mW H s A n)(rx:Rep H cU x d)(ry:Rep H cU y e)(ru:RelV x u)(b_:RelV y w):RcAt A s u w (aU d e):=by cases rx with
 |tup h1 h2 h3 h4=>cases ru;obtain⟨its1,r1,t1⟩:=Inv.lK I h2;cases ry with|tup k1 k2 k3 k4=>cases b_;obtain⟨its2,r2,t2⟩:=Inv.lK I k2;simp only[aU];exact PL I n A bD t1 t2 r1 r2 h3 k3 h4 k4 fd fe ih|lst k1 k2 k3 k4=>cases b_;obtain⟨its2,r2,t2⟩:=Inv.lJ I k2;simp only[aU];exact RcAt.tuple_list t1 t2 bD|_=>first|(cases n<;>simp[flat]at fe;done)|((first|obtain⟨t2,rfl⟩:=b_|cases b_);simp only[aU];with_reducible first|exact RcAt.tuple_none t1 bD|exact RcAt.tuple_bool _ t1 bD|exact RcAt.tuple_int _ _ t1 bD|exact RcAt.tuple_str _ _ t1 bD)
 |lst h1 h2 h3 h4=>cases ru;obtain⟨its1,r1,t1⟩:=Inv.lJ I h2;cases ry with|tup k1 k2 k3 k4=>cases b_;obtain⟨its2,r2,t2⟩:=Inv.lK I k2;simp only[aU];exact RcAt.list_tuple t1 t2 bD|lst k1 k2 k3 k4=>cases b_;obtain⟨its2,r2,t2⟩:=Inv.lJ I k2;simp only[aU];exact PN I n A bD t1 t2 r1 r2 h3 k3 h4 k4 fd fe ih|_=>first|(cases n<;>simp[flat]at fe;done)|((first|obtain⟨t2,rfl⟩:=b_|cases b_);simp only[aU];with_reducible first|exact RcAt.list_none t1 bD|exact RcAt.list_bool _ t1 bD|exact RcAt.list_int _ _ t1 bD|exact RcAt.list_str _ _ t1 bD)
 |_=>
 first|(cases n<;>simp[flat]at fd;done)|skip
 all_goals first|obtain⟨t1,rfl⟩:=ru|cases ru
 all_goals cases ry with
 |tup k1 k2 k3 k4=>cases b_;obtain⟨its2,r2,t2⟩:=Inv.lK I k2;simp only[aU];with_reducible first|exact RcAt.none_tuple t2 bD|exact RcAt.bool_tuple _ t2 bD|exact RcAt.int_tuple _ _ t2 bD|exact RcAt.str_tuple _ _ t2 bD
 |lst k1 k2 k3 k4=>cases b_;obtain⟨its2,r2,t2⟩:=Inv.lJ I k2;simp only[aU];with_reducible first|exact RcAt.none_list t2 bD|exact RcAt.bool_list _ t2 bD|exact RcAt.int_list _ _ t2 bD|exact RcAt.str_list _ _ t2 bD
 |_=>first|(cases n<;>simp[flat]at fe;done)|((first|obtain⟨t2,rfl⟩:=b_|cases b_);simp only[aU];with_reducible first|exact RcAt.none_none|exact RcAt.none_bool _|exact RcAt.none_int _ _|exact RcAt.none_str _ _|exact RcAt.bool_none _|exact RcAt.bool_bool _ _|exact RcAt.bool_int _ _ _|exact RcAt.bool_str _ _ _|exact RcAt.int_none _ _|exact RcAt.int_bool _ _ _|exact RcAt.int_int _ _ _ _|exact RcAt.int_str _ _ _ _|exact RcAt.str_none _ _|exact RcAt.str_bool _ _ _|exact RcAt.str_int _ _ _ _|(rw[<-oq];exact RcAt.str_str _ _ _ _))
theorem PR(I:6#0)(n:Nat)(A:Wp)(x y:V)(u w:Value)(d e:D)(bD:A.units<Q3)(fd:flat n d=true)(fe:flat n e=true)(ih:mW H s A n)(rx:Rep H cU x d)(ry:Rep H cU y e)(ru:RelV x u)(b_:RelV y w):RcNeAt A s u w !aU d e:=by cases rx with
 |tup h1 h2 h3 h4=>cases ru;obtain⟨its1,r1,t1⟩:=Inv.lK I h2;cases ry with|tup k1 k2 k3 k4=>cases b_;obtain⟨its2,r2,t2⟩:=Inv.lK I k2;simp only[aU];exact PM I n A bD t1 t2 r1 r2 h3 k3 h4 k4 fd fe ih|lst k1 k2 k3 k4=>cases b_;obtain⟨its2,r2,t2⟩:=Inv.lJ I k2;simp only[aU,Jf];exact RcNeAt.tuple_list t1 t2 bD|_=>first|(cases n<;>simp[flat]at fe;done)|((first|obtain⟨t2,rfl⟩:=b_|cases b_);simp only[aU,Jf,JF];with_reducible first|exact RcNeAt.tuple_none t1 bD|exact RcNeAt.tuple_bool _ t1 bD|exact RcNeAt.tuple_int _ _ t1 bD|exact RcNeAt.tuple_str _ _ t1 bD)
 |lst h1 h2 h3 h4=>cases ru;obtain⟨its1,r1,t1⟩:=Inv.lJ I h2;cases ry with|tup k1 k2 k3 k4=>cases b_;obtain⟨its2,r2,t2⟩:=Inv.lK I k2;simp only[aU,Jf];exact RcNeAt.list_tuple t1 t2 bD|lst k1 k2 k3 k4=>cases b_;obtain⟨its2,r2,t2⟩:=Inv.lJ I k2;simp only[aU];exact PQ I n A bD t1 t2 r1 r2 h3 k3 h4 k4 fd fe ih|_=>first|(cases n<;>simp[flat]at fe;done)|((first|obtain⟨t2,rfl⟩:=b_|cases b_);simp only[aU,Jf,JF];with_reducible first|exact RcNeAt.list_none t1 bD|exact RcNeAt.list_bool _ t1 bD|exact RcNeAt.list_int _ _ t1 bD|exact RcNeAt.list_str _ _ t1 bD)
 |_=>
 first|(cases n<;>simp[flat]at fd;done)|skip
 all_goals first|obtain⟨t1,rfl⟩:=ru|cases ru
 all_goals cases ry with
 |tup k1 k2 k3 k4=>cases b_;obtain⟨its2,r2,t2⟩:=Inv.lK I k2;simp only[aU,Jf,JF];with_reducible first|exact RcNeAt.none_tuple t2 bD|exact RcNeAt.bool_tuple _ t2 bD|exact RcNeAt.int_tuple _ _ t2 bD|exact RcNeAt.str_tuple _ _ t2 bD
 |lst k1 k2 k3 k4=>cases b_;obtain⟨its2,r2,t2⟩:=Inv.lJ I k2;simp only[aU,Jf,JF];with_reducible first|exact RcNeAt.none_list t2 bD|exact RcNeAt.bool_list _ t2 bD|exact RcNeAt.int_list _ _ t2 bD|exact RcNeAt.str_list _ _ t2 bD
 |_=>first|(cases n<;>simp[flat]at fe;done)|((first|obtain⟨t2,rfl⟩:=b_|cases b_);simp only[aU,Jf,JF];with_reducible first|exact RcNeAt.none_none|exact RcNeAt.none_bool _|exact RcNeAt.none_int _ _|exact RcNeAt.none_str _ _|exact RcNeAt.bool_none _|exact RcNeAt.bool_bool _ _|exact RcNeAt.bool_int _ _ _|exact RcNeAt.bool_str _ _ _|exact RcNeAt.int_none _ _|exact RcNeAt.int_bool _ _ _|exact RcNeAt.int_int _ _ _ _|exact RcNeAt.int_str _ _ _ _|exact RcNeAt.str_none _ _|exact RcNeAt.str_bool _ _ _|exact RcNeAt.str_int _ _ _ _|(rw[<-oq];exact RcNeAt.str_str _ _ _ _))
theorem C5{w}(h:RcAt A s u w k)(hs:u=w->k=true)(hf:∀b t,u≠Value.float b t):EqAt A s u w k:=λprog w' E Q hq=>by
 unfold eqBool;refine WD ?_;refine wpAny_ite_split (λlM=>?_) λj=>?_;.have e:=eq_of_beq lM;rw[hs e]at hq;exact W0 (Qn (W2 hq))
 .cases u with|float b t=>exact absurd rfl (hf b t)|_=>exact W0 (h prog w' E _ (Qz hq))
theorem C6(r:Rep H cU x d)(ru:RelV x u)(b:UInt64)(t:Tok):u≠Value.float b t:=by intro e;subst e;cases r<;>first|(cases ru;done)|(obtain⟨t',e⟩:=ru;cases e)
theorem PV(I:6#0)(n:Nat):xD H s n:=by induction n with|zero=>intro A x y u w d e hu fd fe rx ry ru b_;refine C5 (xE I 0 A x y u w d e Y' fd fe trivial rx ry ru b_) (λh=>?_) (C6 rx ru);subst h;have:=ru.inj b_;subst this;rw[Rep.inj rx fd fe ry];exact xB fe|succ n ih=>intro A x y u w d e hu fd fe rx ry ru b_;refine C5 (xE I (n+1) A x y u w d e Y' fd fe ⟨Y',ih⟩ rx ry ru b_) (λh=>?_) (C6 rx ru);subst h;have:=ru.inj b_;subst this;rw[Rep.inj rx fd fe ry];exact xB fe
theorem xF(I:6#0):∀n:Nat,A.units+n+1<Q3->mW H s A n|0,_=>trivial|n+1,h=>⟨Y',PV I n⟩
def C7:R2:=λx y H Q=>∃d e,Rep H cU x d/\Rep H cU y e/\flat 50 d=true/\flat 50 e=true/\Q (.bl (aU d e)) H
def C8:R2:=λx y H Q=>∃d e,Rep H cU x d/\Rep H cU y e/\flat 50 d=true/\flat 50 e=true/\Q (.bl !aU d e) H
theorem t4(hu:X.A.units+64<Q3):bw X (WC .Eq) C7:=by intros x y v u Q I rx ry h;obtain⟨d,e,r1,r2,f1,f2,q⟩:=h;exact xE I 50 X.A x y v u d e Y' f1 f2 (xF I 50 Y') r1 r2 rx ry X.prog X.w X.xe _ ⟨.bl _,H,I,rfl,q⟩
theorem C9(hu:X.A.units+64<Q3):bw X (WC .NotEq) C8:=by intros x y v u Q I rx ry h;obtain⟨d,e,r1,r2,f1,f2,q⟩:=h;exact PR I 50 X.A x y v u d e Y' f1 f2 (xF I 50 Y') r1 r2 rx ry X.prog X.w X.xe _ ⟨.bl _,H,I,rfl,q⟩
def cf{α:Type}(xs:List α)(lo hi:Option Int):List α:=(xs.drop (aR xs.length 0 lo)).take (aR xs.length xs.length hi-aR xs.length 0 lo)
theorem C_(xs:List V)(lo hi:Option Int):cf xs lo hi=lF xs lo hi:=rfl
theorem Dc(xs:List α)(lo hi:Option Int):(cf xs lo hi).length<=xs.length:=by unfold cf;rw[Uo,List.length_drop];lia
theorem aH.cut(lo hi:Option Int)(h:aH H O vs ds):aH H O (cf vs lo hi) (cf ds lo hi):=by unfold cf;rw[h.1];exact aH.take _ (aH.drop _ h)
theorem PX{α:Type}{xs:List α}(h:aR xs.length 0 lo=0/\aR xs.length xs.length hi=xs.length):cf xs lo hi=xs:=by unfold cf;rw[h.1,h.2];simp
theorem PY{t:Addr}{Q:Value->W1->Prop}(ht:IsTup s.heap t items)(hs:s.heap.IsSliceOf sl vl vu .none)(pl:IsPart vl lo)(pu:IsPart vu hi)(hw:aR items.size 0 lo=0/\aR items.size items.size hi=items.size)(h:Q (.ref t) s):W6 4#0 A (JZ (.ref t) (.ref sl)) Q E s:=by
 obtain⟨os,hos,hcs,hds⟩:=id hs;have pV:s.TypeIs (.ref sl) "slice":=⟨os,hos,hcs⟩;unfold JZ;try with_reducible refine WD ?_
 first|refine W0 (W2 ?_)|skip
 refine W0 (wpAny_sequenceKey ht.typeIs Z' ?_);refine W0 (Qi (name:=Str.ofString "__getitem__") ht.typeIs Qs (WY Qs ht.typeIs entry_tuple_getitem ?_ (args_tuple_getitem _ _)));show W6 _ _ (Jl (.ref t)>>=_) _ _ s;refine W0 (tupleItemsOf_ ht ?_);refine W0 (J3 pV ?_);rw[if_pos Z'];refine W0 (Ca hs pl pu ?_);show W6 _ _ (if(((aR items.size 0 lo:Nat):Int)==0&&(1:Int)==1&&aR items.size items.size hi-aR items.size 0 lo==items.size)=true then _ else _) _ _ s;rw[hw.1,hw.2];rw[if_pos V'];refine W0 (m:=Builtin.Tuple.tupleIsExact (.ref t)) ?_;unfold Builtin.Tuple.tupleIsExact;refine W0 (J3 ht.typeIs (W2 ?_));rw[if_pos Z'];exact W0 (Qn (W0 (W2 (W2 ⟨_,rfl,W2 h⟩))))
def Dd(K:W3):V->Option Int->Option Int->Hp->VK->Prop:=λx lo hi H Q=>∃a xs,x=.ref a/\cK K H a xs/\((aR xs.length 0 lo=0/\aR xs.length xs.length hi=xs.length)->Q (.ref a) H)/\(¬(aR xs.length 0 lo=0/\aR xs.length xs.length hi=xs.length)->∀p,H p=none->Q (.ref p) (upd H p (.tup (lF xs lo hi))))
theorem PZ:jX X (Dd X.K):=by
 intros x v vl vu lo hi sl Q I rx hs pl pu h;obtain⟨a,xs,rfl,hx,q1,q2⟩:=h;by_cases hw:aR xs.length 0 lo=0/\aR xs.length xs.length hi=xs.length;.cases rx;obtain⟨its,r,ht,hz⟩:=I.tuple hx;have hlen:its.toArray.size=xs.length:=%[Wn|r.length.symm];refine⟨"tuple",_,PyProof.Rows.slot_tuple_getitem.lookup,ht.typeIs,?_⟩;exact PY ht hs pl pu %[hlen|hw] ⟨.ref a,H,I,rfl,q1 hw⟩
 .exact Oj pins s Y H (.ref a) v vl vu lo hi sl Q I rx hs pl pu ⟨a,xs,rfl,hx,hw,q2 hw⟩
theorem P0(a b:Nat):sliceRange (a:Int) (b:Int) 1=(Wx (b-a)).map λk=>a+k:=by
 have h0:((1:Int)>0)=True:=by simp
 unfold sliceRange;simp only[h0,if_true];by_cases bh:(a:Int)<(b:Int)
 .rw[if_pos bh];have e3:(((b:Int)-(a:Int)+1-1)/1).toNat=b-a:=by rw[Int.ediv_one];lia
  rw[e3];refine JA λk j=>?_;lia
 .rw[if_neg bh];have:b-a=0:=by lia
  rw[this];rfl
theorem De(lo hi:Option Int)(n:Nat):Qd lo hi 1 n=(Wx (aR n n hi-aR n 0 lo)).map λk=>aR n 0 lo+k:=by
 have c:∀(i:Int)(d:Nat),max 0 (min (if i<0 then i+(n:Int)else i) (n:Int))=((aR n d (some i):Nat):Int):=by
  intro i d;show max 0 (min (if i<0 then i+(n:Int)else i) (n:Int))=(((if i<0 then(i+(n:Int)).toNat else min i.toNat n):Nat):Int);by_cases hi:i<0;.simp only[if_pos hi];lia
  .simp only[if_neg hi];lia
 have h0:((1:Int)>0)=True:=by simp
 rw[<-P0];unfold Qd;simp only[h0,if_true];cases lo with
 |none=>cases hi with|none=>rfl|some j=>show sliceRange 0 (max 0 (min (if j<0 then j+(n:Int)else j) (n:Int))) 1=_;rw[c j n];rfl
 |some i=>cases hi with|none=>show sliceRange (max 0 (min (if i<0 then i+(n:Int)else i) (n:Int))) (n:Int) 1=_;rw[c i 0];rfl|some j=>grind
theorem P4(x:Tx)(lo hi:Option Int):(⟨((Qd lo hi 1 (toS x).length).filterMap ((toS x).cps[.]?)).toArray⟩:Str)=toS (cf x lo hi):=by unfold toS;congr 1;rw[De];have:=pick_run x.toArray (aR x.length 0 lo) (aR x.length x.length hi-aR x.length 0 lo);have hl:({cps:=x.toArray}:Str).length=x.length:=#v[Str.length];rw[hl];rw[this];rfl
def Df:V->Option Int->Option Int->Hp->VK->Prop:=λx lo hi H Q=>∃z:Tx,x=.str (toS z)/\z.length<=W9/\Q (.str (toS (cf z lo hi))) H
theorem Dg{v}(p:IsPart v o):∃q:Option (Int×Tok),v=partValue q/\q.map (·.1)=o:=by cases p with|none=>exact⟨none,rfl,rfl⟩|int i t=>exact⟨some (i,t),rfl,rfl⟩
theorem P5:jX X Df:=by
 intros x v vl vu lo hi sl Q I rx hs pl pu h;obtain⟨z,rfl,hz,q⟩:=h;obtain⟨t,rfl⟩:=rx;obtain⟨l,rfl,el⟩:=Dg pl;obtain⟨u,rfl,eu⟩:=Dg pu;obtain⟨o,ho,hc,hd⟩:=hs;refine⟨"str",_,F.slot_str_getitem.lookup,typeIs_str s _ t,?_⟩;refine wpAny_getItem_str_slice (l:=l) (u:=u) (st:=none) ⟨o,ho,hc,hd⟩ rfl ?_;unfold sliceMade;have e:slicePicked (toS z) l u none=Qd lo hi 1 (toS z).length:=by unfold slicePicked;rw[el,eu];rfl
 rw[e];by_cases hw:(((none:Option (Int×Tok)).map (·.1)).getD 1==1&&(Qd lo hi 1 (toS z).length).length==(toS z).length)=true
 .rw[if_pos hw];refine⟨.str (toS (cf z lo hi)),H,I,⟨t,?_⟩,q⟩;congr 1;rw[Wr]at hw;have xG:=eq_of_beq hw.2;rw[De,Wd,Jq,kE]at xG;have h1:=wO z.length 0 (Q6 _) lo;have h2:=wO z.length z.length (W7 _) hi;unfold cf;congr 1;by_cases h0:z.length=0;.grind
  .have a1:aR z.length 0 lo=0:=by lia
   rw[a1]at xG⊢;rw[xG];simp
 .rw[if_neg hw];show Made.post (.str _) _ _;rw[P4];exact⟨%[kE|Wy (Dc z lo hi) hz],.str (toS (cf z lo hi)),H,I.tok _,⟨_,rfl⟩,q⟩
def lN(X:Cx)(r:V->Hp->VK->Prop):Prop:=∀(pins:List (Addr×Obj))(s:W1)(Y:St)(H:Hp)(x:V)(v:Value)(t:Tok)(sl:Addr)(Q:VK),6#0->RelV x v->s.heap.IsSliceOf sl .none .none (.int (-1) t)->r x H Q->∃T id,typeLookup (.type T) "__getitem__"=pure (some (.builtin id))/\s.TypeIs v T/\W6 5#0 X.A (JZ v (.ref sl)) (EP X pins Y Q) X.xe s
theorem lN.or(h:lN X r)(h':lN X r'):lN X λx H Q=>r x H Q\/r' x H Q:=by
 intros x v t sl Q I rx hs q;rcases q with q|q;.exact h pins s Y H x v t sl Q I rx hs q
 .exact h' pins s Y H x v t sl Q I rx hs q
theorem P7{r:V->Hp->VK->Prop}{st:Expr}{p2:Pos}(hr:lN X r)(he:PE X e te)(dw:PE X st (tC (.int (-1)))):PE X (.Subscript e (.Slice none none (some st) p2) pos) (wz r te):=by intros Q I h;refine Subscript_ (aZ (he pins s Y H _ I h) λv s1 hh=>?_);obtain⟨x,H1,I1,r1,q1⟩:=hh;refine wpAny_Slice ?_;rw[evalPart_none,evalPart_some];refine W2 (W2 ?_);refine aZ (dw pins s1 Y H1 (λy H2=>y=.int (-1)/\H2=H1) I1 ⟨rfl,rfl⟩) λu s2 hh=>?_;obtain⟨y,H2,I2,r2,ey,eh⟩:=hh;subst ey eh;obtain⟨t,rfl⟩:=r2;have I4:Inv X pins Y H2 {s2 with heap:=s2.heap.push {cls:=.type "slice",data:=.fields #[.none,.none,.int (-1) t]}}:=I2.kept (t':=s2.toks) λb ob q=>W5 _ q;obtain⟨T,id,hT,ht,hg⟩:=hr pins {s2 with heap:=s2.heap.push {cls:=.type "slice",data:=.fields #[.none,.none,.int (-1) t]}} Y H2 x v t s2.heap.objs.size Q I4 r1 (Heap.IsSliceOf.new ..) q1;show W6 5#0 X.A (subscriptTail e (.Slice none none (some st) p2) v (.ref s2.heap.objs.size)) (EP X pins Y Q) X.xe {s2 with heap:=s2.heap.push {cls:=.type "slice",data:=.fields #[.none,.none,.int (-1) t]}};exact tail_any (ops:=[v,.ref s2.heap.objs.size]) ht hT hg (by with_unfolding_all rfl)
theorem P8{X}{pos pos':Pos}{j}:PE X (.UnaryOp .USub (.Constant (.int 1) j pos') pos) (tC (.int (-1))):=PE.weak (NF NN Bm) λY H Q h=>⟨1,rfl,h⟩
theorem P9(n:Nat):Qd none none (-1) n=(Wx n).map λk=>n-1-k:=by
 unfold Qd;have h0:¬(-1:Int)>0:=by decide
 simp only[h0,if_false];exact PySem.W.krv_sliceRange n
theorem P_:lN X λx H Q=>∃z:Tx,x=.str (toS z)/\z.length<=W9/\Q (.str (toS z.reverse)) H:=by
 intros x v t sl Q I rx hs h;obtain⟨z,rfl,hz,q⟩:=h;obtain⟨t',rfl⟩:=rx;obtain⟨o,ho,hc,hd⟩:=hs;refine⟨"str",_,F.slot_str_getitem.lookup,typeIs_str s _ t',?_⟩;refine wpAny_getItem_str_slice (l:=none) (u:=none) (st:=some (-1,t)) ⟨o,ho,hc,hd⟩ (by show((-1:Int)==0)=false;decide) ?_;unfold sliceMade;rw[if_neg (by grind)];have e:(⟨((slicePicked (toS z) none none (some (-1,t))).filterMap ((toS z).cps[.]?)).toArray⟩:Str)=toS z.reverse:=by unfold slicePicked;show(⟨((Qd none none (-1) (toS z).length).filterMap ((toS z).cps[.]?)).toArray⟩:Str)=_;rw[P9,PySem.W.krv_range,List.filterMap_reverse];have:(toS z).length=(toS z).cps.size:=rfl;rw[this,PySem.W.krv_all];simp[toS]
 show Made.post (.str _) _ _;rw[e];exact⟨%[kE,List.length_reverse|hz],.str (toS z.reverse),H,I.tok _,⟨_,rfl⟩,q⟩
theorem Q_:lN X λx H Q=>∃a xs,x=.ref a/\cp X.K H a xs/\∀p,H p=none->Q (.ref p) (upd H p (.lst xs.reverse)):=by intros x v t sl Q I rx hs h;obtain⟨a,xs,rfl,hx,q⟩:=h;cases rx;obtain⟨its,r,ht,hz⟩:=I.list hx;have hlen:=r.length;refine⟨"list",_,slot_list_getitem.lookup,ht.isList.typeIs,?_⟩;refine wpAny_getItem_list_slice ht.isList hs .none .none (.int (-1) t) Z' ?_ (by rw[Wn]<;>lia);rw[PySem.W.krv_pick];exact⟨.ref s.heap.objs.size,_,I.wY (t':=s.toks) r.reverse %[List.length_reverse|hz],rfl,q _ I.fresh⟩
theorem Ra:bw X (QW .Add) λx y H Q=>∃a b ys,x=.ref a/\y=.ref b/\cK X.K H a []/\cK X.K H b ys/\Q (.ref b) H:=by intros x y v u Q I rx ry h;obtain⟨a,b,ys,rfl,rfl,ha,hb,q⟩:=h;cases rx;cases ry;obtain⟨its,r1,p1,_⟩:=I.tuple ha;obtain⟨its2,r2,p2,_⟩:=I.tuple hb;cases r1;obtain⟨⟨cls,dd,data,sl⟩,ho,hc,n,hd⟩:=id p1;obtain⟨⟨cls2,mO,data2,lE⟩,ho2,hc2,n2,hd2⟩:=id p2;simp only at hc hd hc2 hd2;subst hc hd hc2 hd2;exact concat_meets ⟨_,ho,rfl⟩ ⟨_,ho2,rfl⟩ noFill_tuple_add seq_tuple_add PySem.F.slot_tuple_add PySem.F.entry_tuple_add (PySem.F.args_tuple_add_2 _ _) (tuple_addW0 a b #[] its2.toArray n n2 dd mO sl lE rfl) ⟨ho,ho2,.ref b,H,I,rfl,q⟩
def Dh(K:W3):R2:=λx y H Q=>∃l b xs zs,x=.ref l/\y=.ref b/\cp K H l xs/\cp K H b zs/\xs.length+zs.length<=W9/\∀p,H p=none->Q (.ref p) (upd H p (.lst (xs++zs)))
theorem Rb:bw X (QW .Add) (Dh X.K):=by
 intros x y v u Q I rx ry h;obtain⟨l,b,xs,zs,rfl,rfl,hH,hB,hz,q⟩:=h;cases rx;cases ry;obtain⟨its,r,⟨⟨cls,dd,data,sl⟩,n,e,hc,i3,hd⟩,z⟩:=I.list hH;obtain⟨its2,r2,⟨⟨cls2,mO,data2,lE⟩,n2,e2,hc2,hdd2,hd2⟩,z2⟩:=I.list hB;simp only at hc hd i3 hc2 hd2 hdd2;subst hc hd i3 hc2 hd2 hdd2;have hl:=r.length;have mX:=r2.length;refine concat_meets ⟨_,e,rfl⟩ ⟨_,e2,rfl⟩ noFill_list_add seq_list_add PySem.F.slot_list_add PySem.F.entry_list_add (PySem.F.args_list_add_2 _ _) (list_addW l b its.toArray its2.toArray n n2 none none sl lE (by rw[Wn,Wn];lia)) ⟨e,e2,?_⟩;have ea:its.toArray++its2.toArray=(its++its2).toArray:=by simp
 rw[ea];exact⟨.ref _,_,I.wY (t':=s.toks) (r.append r2) (by rw[Qc];lia),rfl,q _ I.fresh⟩
theorem xH:∀{ys:List Str}{us:List Value},Vals (ys.map V.str) us->StrsAre us ys|[],us,r=>by cases r;exact .nil|y::ys,us,r=>by cases r with|cons r1 r2=>obtain⟨t,rfl⟩:=r1;exact .cons y t (xH r2)
def t7(K:W3):V->List V->Hp->VK->Prop:=λx vs H Q=>∃(z:Str)(a:Addr)(ys:List Str),x=.str z/\vs=[.ref a]/\(cp K H a (ys.map V.str)\/cK K H a (ys.map V.str))/\(ys.map (·.length)).sum+ys.length*z.length<=16777216/\Q (.str (Txt.join z ys)) H
theorem Rc:pW X "str.join" (t7 X.K):=by
 intros x vs v us Q I rx rv h;obtain⟨z,a,ys,rfl,rfl,hq,hz,q⟩:=h;obtain⟨t,rfl⟩:=rx;obtain⟨u,rfl,ru⟩:=(Vals.one rv);cases ru;rcases hq with hq|hq;.obtain⟨its,r,p,_⟩:=I.list hq;exact join_list p.isList (by simpa using xH r) hz λt' k=>⟨.str _,H,I.tok _,⟨t',rfl⟩,q⟩
 .obtain⟨its,r,p,_⟩:=I.tuple hq;exact join_tuple p (by simpa using xH r) hz λt' k=>⟨.str _,H,I.tok _,⟨t',rfl⟩,q⟩
theorem Di:∀{bs:List Bool}{us:List Value},Vals (bs.map V.bl) us->∀(i:Nat)v,us[i]?=some v->∃b,bs[i]?=some b/\v=.bool b|[],us,r,i,v,e=>by cases r;simp at e|b::bs,us,r,i,v,e=>by cases r with|cons r1 r2=>cases i with|zero=>simp at e;subst e;exact⟨b,rfl,r1⟩|succ i=>exact Di r2 i v (~~~e)
theorem Dj:∀bs:List Bool,((Wx bs.length).all λi=>bs[i]?.getD true)=bs.all id|[]=>rfl|b::bs=>by rw[WV,List.range_succ_eq_map,Um,JP];have:=Dj bs;simp only[List.getElem?_cons_zero,Jw,Um,id];rw[<-this];rfl
theorem Rf(hc:X.calm=true):dM X (.builtin "all") λxs H Q=>∃(a:Addr)(bs:List Bool),xs=[.ref a]/\cp X.K H a (bs.map V.bl)/\Q (.bl (bs.all λb=>b)) H:=by
 intros xs us Q I r h;obtain⟨a,bs,rfl,hq,q⟩:=h;obtain⟨u,rfl,ru⟩:=fQ r;cases ru;obtain⟨its,r',p,_⟩:=I.list hq;have hl:=p.isList;have bh:a<s.heap.objs.size:=by obtain⟨_,e,_⟩:=hl;exact Wj e
 have hlen:=r'.length;rw[Wd]at hlen;refine call_all_walk (JO hl ?_);refine⟨s.heap.objs.size,[s.heap.objs.size,a],[s.heap.objs.size],its.toArray.size,_,_,λi=>bs[i]?.getD true,rfl,Walks.list (A:=X.A.in1) (I.ok.hd hc) _ a (WQ bh) its.toArray,⟨⟨_,We _ rfl,rfl,rfl⟩,hl.push _⟩,λi v s' Q' E' hP hQ=>?_,λh' tk hk=>?_⟩;.obtain⟨b,e,rfl⟩:=Di r' i v (~~~hP);simp only[e,Jw]at hQ;exact Qz hQ
 .have e:((Wx its.toArray.size).all λi=>bs[i]?.getD true)=bs.all id:=by rw[Wn,<-hlen];exact Dj bs
  rw[e];exact⟨.bl _,H,I.kept λb o e=>hk b o (λhm=>by rw[Qe.mp hm]at e;exact QE _ (Wj e)) (W5 _ e),rfl,q⟩
noncomputable def p2(p:D->D->Option S)(x y:D)(Z:Dl):Rs S:=match p x y with|some s=>.ok s Z|none=>.stuck
def au(p:D->D->Option S)(fa:DE)(fb:BE):DE:=λZ=>(fa Z).bind λx S'=>(fb S').bind λy SL=>p2 p x.d y SL
def bW(p:D->D->Option S)(i:Nat)(fb:BE):DE:=λZ=>(fb Z).bind λy S'=>(aq i S').bind λx SL=>p2 p x y SL
def cu(r:R2)(p:D->D->Option S):Prop:=∀(c:Fc)(Y:St)(Z:Dl)(H:Hp)(x y:V)(d e:D)(s:S)(Q:VK),Ok c Y Z H->cX c Y Z H x d->cX c Y Z H y e->p d e=some s->(∀v H',aK c Y Z H Y Z H'->aN c Y Z H H' v s->Q v H')->r x y H Q
section
variable{c:Fc}{a b:Expr}{r:R2}{p:D->D->Option S}
theorem qe{e}(hp:cu r p)(k:Ok c Y Z H)(rx:cX c Y Z H x d)(ry:cX c Y Z H y e)(h:post c (p2 p d e Z) λs SZ=>∀v H',aK c Y Z H Y SZ H'->aN c Y SZ H H' v s->Q v H'):r x y H Q:=by unfold p2 at h;cases e1:p d e with|none=>rw[e1]at h;exact h.elim|some s=>rw[e1]at h;exact hp c Y Z H x y d e s Q k rx ry e1 h
theorem t8(hp:cu r p)(h:tD c (au p fa fb) Y H Q):mM r (tD c fa) (UF c fb) Y H Q:=by obtain⟨Z,k,q⟩:=h;refine⟨Z,k,?_⟩;unfold au at q;rw[bx]at q;refine aT q λx S' q1 v H1 a1 r1=>⟨S',a1.ok,?_⟩;rw[bx]at q1;refine aT q1 λy SL q2 u H2 a2 r2=>?_;exact qe hp a2.ok (.inl (Rep.dG r1.rep a2)) r2 (aT q2 λs Pv q3 v' H3 a3 r3=>q3 v' H3 (a1.trans (a2.trans a3)) (aN.back r3 (a1.trans a2)))
theorem Rg(hp:cu r p)(h:tD c (bW p i fb) Y H Q)(hv:∀Z,Ok c Y Z H->post c (fb Z) (λj j=>True)->∃v,Y[i]?=some (some v)):mM r (fD i) (UF c fb) Y H Q:=by obtain⟨Z,k,q⟩:=h;unfold bW at q;rw[bx]at q;obtain⟨v,ev⟩:=hv Z k (aT q λj j j=>trivial);refine⟨v,ev,Z,k,aT q λy S' q1 u H1 a1 r1=>?_⟩;rw[bx]at q1;unfold aq at q1;cases e:S'[i]? with|none=>rw[e]at q1;exact q1.elim|some o=>cases o with|none=>rw[e]at q1;exact q1.elim|some w=>
 rw[e]at q1;have Rh:post c (p2 p w.d y S') λs SZ=>∀v H',aK c Y Z H Y SZ H'->aN c Y SZ H H' v s->Q v H':=q1;have rb:cX c Y S' H1 v w.d:=by cases w with|pure d=>obtain⟨v',e1,r⟩:=a1.ok.slot i d e;rw[ev]at e1;cases e1;exact .inl r|own d=>obtain⟨a,e1,r,_⟩:=a1.ok.own i d e;rw[ev]at e1;cases e1;exact .inr ⟨a,rfl,r⟩
 exact qe hp a1.ok rb r1 (aT Rh λs Pv q3 v' H3 a3 r3=>q3 v' H3 (a1.trans a3) (aN.back r3 a1))
theorem ou(k:Ok c Y Z H){w:S}(e:Z[i]?=some (some w)):∃v,Y[i]?=some (some v):=by cases w with|pure d=>obtain⟨v,e1,_⟩:=k.slot i d e;exact⟨v,e1⟩|own d=>obtain⟨a,e1,_⟩:=k.own i d e;exact⟨_,e1⟩
end
noncomputable def af(p:D->D->Option S)(i:Nat)(fb:BE):DE:=λZ=>match Z[i]? with|some (some _)=>bW p i fb Z|_=>.stuck
section
variable{c:Fc}{a b:Expr}{r:R2}{p:D->D->Option S}
theorem t9(hp:cu r p){Q:VK}(h:tD c (af p i fb) Y H Q):mM r (fD i) (UF c fb) Y H Q:=by obtain⟨Z,k,q⟩:=h;unfold af at q;cases e:Z[i]? with|none=>rw[e]at q;exact q.elim|some o=>cases o with|none=>rw[e]at q;exact q.elim|some w=>rw[e]at q;obtain⟨v,ev⟩:=ou k e;exact Rg hp (i:=i) ⟨Z,k,q⟩ λj j j=>⟨v,ev⟩
theorem ow{op:Operator}(ho:bw X (QW op) r)(hp:cu r p)(ha:SE X c a fa)(hb:SB X c b fb):SE X c (.BinOp a op b pos) (au p fa fb):=PE.weak (BI ho ha hb) λj j j h=>t8 hp h
theorem t_{op:Operator}(ho:bw X (QW op) r)(hp:cu r p)(ha:PE X a (fD i))(hb:SB X c b fb):SE X c (.BinOp a op b pos) (af p i fb):=PE.weak (BI ho ha hb) λj j j h=>t9 hp h
theorem ox(ho:bw X (WC op) r)(hp:cu r p)(ha:SE X c a fa)(hb:SB X c b fb)(hm:JW op b=false):SE X c (.Compare a [op] [b] pos) (au p fa fb):=PE.weak (BO ho ha hb hm) λj j j h=>t8 hp h
theorem uc(ho:bw X (WC op) r)(hp:cu r p)(ha:PE X a (fD i))(hb:SB X c b fb)(hm:JW op b=false):SE X c (.Compare a [op] [b] pos) (af p i fb):=PE.weak (BO ho ha hb hm) λj j j h=>t9 hp h
theorem Dk(hr:ip X r)(hp:cu r p)(ha:SE X c a fa)(hb:SB X c b fb)(hs:wU b):SE X c (.Subscript a b pos) (au p fa fb):=PE.weak (Cf hr ha hb hs) λj j j h=>t8 hp h
theorem Dm(hr:ip X r)(hp:cu r p)(ha:PE X a (fD i))(hb:SB X c b fb)(hs:wU b):SE X c (.Subscript a b pos) (af p i fb):=PE.weak (Cf hr ha hb hs) λj j j h=>t9 hp h
end
abbrev DT:=Dl->Rs Bool
def tT(c:Fc)(f:DT):TT:=λY H Q=>∃Z,Ok c Y Z H/\post c (f Z) λb SZ=>∀H',aK c Y Z H Y SZ H'->Q b H'
abbrev ST(X:Cx)(c:Fc)(e:Expr)(f:DT):Prop:=PT X e (tT c f)
theorem PT.weak{t'}(h:PT X e t)(w:∀Y H Q,t' Y H Q->t Y H Q):PT X e t':=λpins s Y H Q I q=>h pins s Y H Q I (w Y H Q q)
def aA(f:DE):DT:=λZ=>(f Z).bind λr SZ=>match r with|.pure (.bl b)=>.ok b SZ|_=>.stuck
section
variable{c:Fc}{a b:Expr}{f:DE}{r:R2}{p:D->D->Option S}
universe H in theorem ud(h:tT c (aA f) Y H Q):tD c f Y H λx H'=>∃k,x=.bl k/\Q k H':=by obtain⟨Z,k,q⟩:=h;refine⟨Z,k,?_⟩;unfold aA at q;rw[bx]at q;refine aT q λr S' q1 v H1 a1 r1=>?_;cases r with|own d=>exact q1.elim|pure d=>
 cases d<;>first|exact q1.elim|skip
 rename_i b;cases r1;exact⟨b,rfl,q1 H1 a1⟩
theorem mY(ho:bw X (WC op) r)(hp:cu r p)(ha:SE X c a fa)(hb:SB X c b fb)(hm:JW op b=false):ST X c (.Compare a [op] [b] pos) (aA (au p fa fb)):=PT.weak (BQ ho ha hb hm) λY H Q h=>t8 hp (ud h)
theorem ue(ho:bw X (WC op) r)(hp:cu r p)(ha:PE X a (fD i))(hb:SB X c b fb)(hm:JW op b=false):ST X c (.Compare a [op] [b] pos) (aA (af p i fb)):=PT.weak (BQ ho ha hb hm) λY H Q h=>t9 hp (ud h)
theorem Ri(h:SE X c e f)(he:∀whole,isTrue e X.env whole=(do let v<-whole;standAt e.pos;holding [v] (truthy v)):=by intro _;rfl):ST X c e (aA f):=PT.weak (MU h he) λY H Q h=>ud h
def xI(t u:DT):DT:=λZ=>(t Z).bind λb S'=>if b then u S' else .ok false S'
def dg(t u:DT):DT:=λZ=>(t Z).bind λb S'=>if b then .ok true S' else u S'
def cR(t:DT):DT:=λZ=>(t Z).bind λb S'=>.ok (!b) S'
abbrev SW(X:Cx)(c:Fc)(e:Expr)(f:DT):Prop:=PW X e (tT c f)
theorem PW.weak{t'}(h:PW X e t)(w:∀Y H Q,t' Y H Q->t Y H Q):PW X e t':=λwh pins s Y H Q I q=>h wh pins s Y H Q I (w Y H Q q)
variable{t u:DT}{rest:List Expr}
theorem Rj(ha:ST X c a t):SW X c (.BoolOp .Or [a] pos) t:=MX ha
theorem Rk(ha:ST X c a t)(hb:SW X c (.BoolOp .Or (b::rest) pos) u):SW X c (.BoolOp .Or (a::b::rest) pos) (dg t u):=PW.weak (pw_or ha hb) λY H Q⟨Z,k,q⟩=>by unfold dg at q;rw[bx]at q;refine⟨Z,k,aT q λx S' q1 H1 a1=>?_⟩;cases x with|false=>exact⟨S',a1.ok,aT q1 λy SL q2 H2 a2=>q2 H2 (a1.trans a2)⟩|true=>exact q1 H1 a1
theorem Rl(h:SW X c a t):ST X c a t:=PW.pt h
theorem Rm(ha:ST X c a t):ST X c (.UnaryOp .Not a pos) (cR t):=PT.weak (MY ha) λY H Q⟨Z,k,q⟩=>by unfold cR at q;rw[bx]at q;exact⟨Z,k,q⟩
def gy(f g:DE):DE:=λZ=>(f Z).bind λr S'=>match r with|.pure (.bl true)=>g S'|.pure (.bl false)=>.ok (.pure (.bl false)) S'|_=>.stuck
def Rn(t:DT)(f g:DE):DE:=λZ=>(t Z).bind λb S'=>if b then f S' else g S'
variable{g:DE}
theorem Ro{op}(h:SE X c a f):SE X c (.BoolOp op [a] pos) f:=M0 h
universe H in theorem Rp(ha:SE X c a f)(hb:SE X c (.BoolOp .And (b::rest) pos) g):SE X c (.BoolOp .And (a::b::rest) pos) (gy f g):=PE.weak (M1 ha hb) λY H Q⟨Z,k,q⟩=>by unfold gy at q;rw[bx]at q;refine⟨Z,k,aT q λr S' q1 v H1 a1 r1=>?_⟩;cases r with|own d=>exact q1.elim|pure d=>
 cases d<;>first|exact q1.elim|skip
 rename_i b;cases r1;refine⟨b,rfl,?_⟩;cases b with|true=>exact⟨S',a1.ok,aT q1 λy SL q2 v H2 a2 r2=>q2 v H2 (a1.trans a2) (aN.back r2 a1)⟩|false=>exact q1 _ H1 a1 (.bl false)
def j0(p p':D->D->Option S)(fa:DE)(fb:DE)(fc:BE):DE:=λZ=>(fa Z).bind λx S'=>(fb S').bind λy SL=>(p2 p x.d y.d SL).bind λz Pv=>match z with|.pure (.bl true)=>(fc Pv).bind λw Os=>p2 p' y.d w Os|.pure (.bl false)=>.ok (.pure (.bl false)) Pv|_=>.stuck
universe H in theorem Dp{r':R2}{fb:DE}(hp:cu r p)(bJ:cu r' p'){Q:VK}(h:tD c (j0 p p' fa fb fc) Y H Q):wF r r' (tD c fa) (tD c fb) (UF c fc) Y H Q:=by obtain⟨Z,k,q⟩:=h;unfold j0 at q;rw[bx]at q;refine⟨Z,k,aT q λx S' q1 v H1 a1 r1=>⟨S',a1.ok,?_⟩⟩;rw[bx]at q1;refine aT q1 λy SL q2 u H2 a2 r2=>?_;rw[bx]at q2;refine qe hp a2.ok (.inl (Rep.dG r1.rep a2)) (.inl r2.rep) (aT q2 λs Pv q3 v' H3 a3 r3=>?_);cases s with|own d=>exact q3.elim|pure d=>
 cases d<;>first|exact q3.elim|skip
 rename_i b;cases r3;refine⟨b,rfl,?_⟩;cases b with|false=>exact q3 _ H3 (a1.trans (a2.trans a3)) (.bl false)|true=>rw[if_pos rfl];have Dq:post c ((fc Pv).bind λw Os=>p2 p' y.d w Os) λr SZ=>∀v H',aK c Y Z H Y SZ H'->aN c Y SZ H H' v r->Q v H':=q3;rw[bx]at Dq;refine⟨Pv,a3.ok,aT Dq λw Os q4 v4 H4 a4 r4=>?_⟩;exact qe bJ a4.ok (.inl (Rep.dG r2.rep (a3.trans a4))) r4 (aT q4 λs5 KE q5 v5 H5 a5 r5=>q5 v5 H5 (a1.trans (a2.trans (a3.trans (a4.trans a5)))) (aN.back r5 (a1.trans (a2.trans (a3.trans a4)))))
theorem Rq{r':R2}{fb:DE}(ho:bw X (WC op) r)(gv:bw X (WC ik) r')(hp:cu r p)(bJ:cu r' p')(ha:SE X c a fa)(hb:SE X c b fb)(he:SB X c e fc)(hm:lastMarks [op,ik] [b,e]=false:=by with_unfolding_all rfl):SE X c (.Compare a [op,ik] [b,e] pos) (j0 p p' fa fb fc):=PE.weak (NU ho gv ha hb he hm) λj j j h=>Dp hp bJ h
theorem Rr{r':R2}{fb:DE}(ho:bw X (WC op) r)(gv:bw X (WC ik) r')(hp:cu r p)(bJ:cu r' p')(ha:SE X c a fa)(hb:SE X c b fb)(he:SB X c e fc)(hm:lastMarks [op,ik] [b,e]=false:=by with_unfolding_all rfl):ST X c (.Compare a [op,ik] [b,e] pos) (aA (j0 p p' fa fb fc)):=PT.weak (NV ho gv ha hb he hm) λj j j h=>Dp hp bJ (ud h)
end
section
variable{c:Fc}{x:V}
theorem cX.int{i}(h:cX c Y Z H x (.int i)):x=.int i:=by
 rcases h with h|⟨_,_,h⟩;.cases h;rfl
 .exact h.elim
theorem cX.bl(h:cX c Y Z H x (.bl b)):x=.bl b:=by
 rcases h with h|⟨_,_,h⟩;.cases h;rfl
 .exact h.elim
theorem cX.str(h:cX c Y Z H x (.str z)):x=.str (toS z):=by
 rcases h with h|⟨_,_,h⟩;.cases h;rfl
 .exact h.elim
theorem cX.tup{c Y Z H x ds}(h:cX c Y Z H x (.tup ds)):∃a vs,x=.ref a/\H a=some (.tup vs)/\aH H (Av c Y Z) vs ds:=by
 rcases h with h|⟨_,_,h⟩;.cases h with|tup h1 h2 h3 h4=>exact⟨_,_,rfl,h2,h3,h4⟩
 .exact h.elim
theorem cX.lst{c Y Z H x ds}(h:cX c Y Z H x (.lst ds)):∃a vs,x=.ref a/\Rd H a (.lst vs)/\aH H (Av c Y Z) vs ds:=by
 rcases h with h|⟨a,e,h⟩;.cases h with|lst h1 h2 h3 h4=>exact⟨_,_,rfl,h2,h3,h4⟩
 .obtain⟨vs,h1,h2⟩:=h;exact⟨a,vs,e,.inl h1,h2⟩
theorem cX.bT{ds}(h:cX c Y Z H x (.bT ds)):∃a ws,x=.ref a/\H a=some (.dK ws)/\ws.map (·.1)=ds.map (λp=>dW p.1)/\∀(i:Nat)p q,ws[i]?=some p->ds[i]?=some q->Rep H (Av c Y Z) p.2 q.2:=by
 rcases h with h|⟨a,e,h⟩;.cases h with|bT h1 h2 h3 h4=>exact⟨_,_,rfl,h2,h3,h4⟩
 .obtain⟨ws,h1,h2,h3⟩:=h;exact⟨a,ws,e,h1,h2,h3⟩
end
theorem Dr(h:z.length<=W9):(toS z).length<=W9:=%[kE|h]
theorem Rt(x y:Tx):toS x++toS y=toS (x++y):=by show Str.append (toS x) (toS y)=_;simp[toS,Str.append]
noncomputable def aQ(d e:D):Option S:=match d with
 |.int i=>match e with|.int j=>0#(.int (i+j))|_=>none
 |.str x=>match e with|.str y=>if x.length+y.length<=W9 then 0#(.str (x++y)) else none|_=>none
 |.tup xs=>match e with|.tup ys=>if xs.length+ys.length<=W9 then 0#(.tup (xs++ys)) else none|_=>none
 |.lst xs=>match e with|.lst ys=>if xs.length+ys.length<=W9 then some (.own (.lst (xs++ys)))else none|_=>none
 |_=>none
def Ds(K:W3):R2:=λx y H Q=>ie (λi j=>V.int (i+j)) x y H Q\/(∃i j,x=.str i/\y=.str j/\i.length+j.length<=W9/\Q (.str (i++j)) H)\/(∃a b ys,x=.ref a/\y=.ref b/\cK K H a []/\cK K H b ys/\Q (.ref b) H)\/Cd K x y H Q\/Dh K x y H Q
theorem Dt:bw X (QW .Add) (Ds X.K):=NG.or (NW.or (Ra.or (Ol.or Rb)))
universe H in theorem Du:cu (Ds K) aQ:=by
 intro c Y Z H x y d e s Q k rx ry hp q;cases d<;>cases e<;>first|(simp[aQ]at hp;done)|skip
 .rename_i i j;simp only[aQ,Wb]at hp;subst hp;exact .inl ⟨i,j,rx.int,ry.int,q _ H (.refl k) (.int _)⟩
 .rename_i u w;simp only[aQ]at hp;split at hp;.rename_i hz;simp only[Wb]at hp;subst hp;refine .inr (.inl ⟨toS u,toS w,rx.str,ry.str,%[kE,kE|hz],?_⟩);rw[Rt];exact q _ H (.refl k) (.str _)
  .cases hp
 .rename_i us ws;simp only[aQ]at hp;split at hp
  .rename_i hz;simp only[Wb]at hp;subst hp;obtain⟨a,vs,ea,ha,ra⟩:=rx.tup;obtain⟨b,zs,eb,hb,rb⟩:=ry.tup
   cases vs with|nil=>
    have:us=[]:=by have:=ra.1;simpa using this.symm
    subst this;refine .inr (.inr (.inl ⟨a,b,zs,ea,eb,.of ha,.of hb,?_⟩));rw[eb]at ry;rcases ry with ry|⟨_,_,ry⟩;.exact q _ H (.refl k) ry
    .exact ry.elim|cons v0 vr=>
    refine .inr (.inr (.inr (.inl ⟨a,b,_,zs,ea,eb,.of ha,.of hb,V',%[ra.1,rb.1|hz],λe0=>?_,λ_ p hp=>?_⟩)))
    .subst e0;have:ws=[]:=by have:=rb.1;simpa using this.symm
     subst this;rw[ea]at rx;rcases rx with rx|⟨_,_,rx⟩;.rw[Qg]at q;exact q _ H (.refl k) rx
     .exact rx.elim
    .exact q _ _ (.alloc k hp _) (aN.om k (ra.append rb) hp)
  .cases hp
 .rename_i us ws;simp only[aQ]at hp;split at hp;.rename_i hz;simp only[Wb]at hp;subst hp;obtain⟨a,vs,ea,ha,ra⟩:=rx.lst;obtain⟨b,zs,eb,hb,rb⟩:=ry.lst;exact .inr (.inr (.inr (.inr ⟨a,b,vs,zs,ea,eb,.inl ha,.inl hb,%[ra.1,rb.1|hz],λp hp=>q _ _ (.alloc k hp _) (aN.jv k (ra.append rb) hp)⟩)))
  .cases hp
noncomputable def gh(C:Int->Int->Bool)(g:Int->Int->D):D->D->Option S|.int i,.int j=>if C i j then 0#(g i j) else none|_,_=>none
universe H in theorem uf{C g'}(hC:∀i j,C' i j=true->C i j)(hg:∀i j H O,Rep H O (g i j) (g' i j)):cu (rI C g) (gh C' g'):=by
 intro c Y Z H x y d e s Q k rx ry hp q;cases d<;>cases e<;>first|(simp[gh]at hp;done)|skip
 rename_i i j;simp only[gh]at hp;split at hp;.rename_i hc;simp only[Wb]at hp;subst hp;exact⟨i,j,rx.int,ry.int,hC i j hc,q _ H (.refl k) (hg i j H _)⟩
 .cases hp
universe H in theorem Ru{g'}(hg:∀i j H O,Rep H O (g i j) (g' i j)):cu (ie g) (gh (λ_ _=>true) g'):=by
 intro c Y Z H x y d e s Q k rx ry hp q;cases d<;>cases e<;>first|(simp[gh]at hp;done)|skip
 rename_i i j;simp only[gh,if_true,Wb]at hp;subst hp;exact⟨i,j,rx.int,ry.int,q _ H (.refl k) (hg i j H _)⟩
def mZ:=gh (λk k=>true) λi j=>.int (i-j)
theorem Rv:cu (ie λi j=>V.int (i-j)) mZ:=Ru λk k k k=>.int _
def lO(i j:Int):Bool:=decide (-2^64<i)&&decide (i<2^64)||decide (-2^64<j)&&decide (j<2^64)
def cN:=gh lO λi j=>.int (i*j)
theorem Dv:cu (rI pP λi j=>V.int (i*j)) cN:=uf (λi j h=>by unfold lO at h;simp only[Bool.or_eq_true,Wr,decide_eq_true_eq]at h;exact h) λk k k k=>.int _
def lP(_ j:Int):Bool:=decide (0<j)&&decide (j<1073741824)
def ir:=gh lP λi j=>.int (i/j)
theorem Dw:cu (rI BJ λi j=>V.int (i/j)) ir:=uf (λi j h=>by unfold lP at h;simp only[Wr,decide_eq_true_eq]at h;exact h) λk k k k=>.int _
def i4:=gh (λk j=>decide (0<j)) λi j=>.int (i%j)
theorem Dx:cu (rI (λk j=>0<j) λi j=>V.int (i%j)) i4:=uf (λi j h=>~~~h) λk k k k=>.int _
def xJ(i j:Int):Bool:=decide (0<=j)&&decide (j<=1000000)&&decide (i.natAbs<2^64)
def ug:=gh xJ λi j=>.int (i^j.toNat)
theorem Rw:cu (rI BK λi j=>V.int (i^j.toNat)) ug:=uf (λi j h=>by unfold xJ at h;simp only[Wr,decide_eq_true_eq]at h;exact⟨h.1.1,h.1.2,h.2⟩) λk k k k=>.int _
noncomputable def bo(d e:D):Option S:=if flat 50 d&&flat 50 e then 0#(.bl (aU d e)) else none
noncomputable def fV(d e:D):Option S:=if flat 50 d&&flat 50 e then 0#(.bl !aU d e) else none
universe H in theorem uh:cu C7 bo:=by
 intro c Y Z H x y d e s Q k rx ry hp q;unfold bo at hp;split at hp;.rename_i hf;rw[Wr]at hf;simp only[Wb]at hp;subst hp;exact⟨d,e,rx.un,ry.un,hf.1,hf.2,q _ H (.refl k) (.bl _)⟩
 .cases hp
universe H in theorem Dy:cu C8 fV:=by
 intro c Y Z H x y d e s Q k rx ry hp q;unfold fV at hp;split at hp;.rename_i hf;rw[Wr]at hf;simp only[Wb]at hp;subst hp;exact⟨d,e,rx.un,ry.un,hf.1,hf.2,q _ H (.refl k) (.bl _)⟩
 .cases hp
noncomputable def jw(f:Int->Int->Bool)(g:Tx->Tx->Bool):D->D->Option S|.int i,.int j=>0#(.bl (f i j))|.str x,.str y=>0#(.bl (g x y))|_,_=>none
def oy(f:Int->Int->Bool)(g:List Nat->List Nat->Bool):R2:=λx y H Q=>ie (λi j=>V.bl (f i j)) x y H Q\/∃i j,x=.str i/\y=.str j/\Q (.bl (g i.cps.toList j.cps.toList)) H
universe H in theorem j4{f}:cu (oy f g) (jw f g):=by
 intro c Y Z H x y d e s Q k rx ry hp q;cases d<;>cases e<;>first|(simp[jw]at hp;done)|skip
 .rename_i i j;simp only[jw,Wb]at hp;subst hp;exact .inl ⟨i,j,rx.int,ry.int,q _ H (.refl k) (.bl _)⟩
 .rename_i i j;simp only[jw,Wb]at hp;subst hp;refine .inr ⟨toS i,toS j,rx.str,ry.str,?_⟩;rw[kD,kD];exact q _ H (.refl k) (.bl _)
theorem xK{g:List Nat->List Nat->Bool}(rule:∀(i j:Str)(t u:Tok)(Q:Value->W1->Prop)(s:W1),Q (.bool (g i.cps.toList j.cps.toList)) s->W6 5#0 X.A (WC op (.str i t) (.str j u)) Q X.xe s):bw X (WC op) λx y H Q=>∃i j,x=.str i/\y=.str j/\Q (.bl (g i.cps.toList j.cps.toList)) H:=by intros x y v u Q I rx ry h;obtain⟨i,j,rfl,rfl,q⟩:=h;obtain⟨t,rfl⟩:=rx;obtain⟨t',rfl⟩:=ry;exact rule i j t t' _ s ⟨.bl _,H,I,rfl,q⟩
def jx:=jw (λi j=>decide (i<j)) λx y=>decide (x<y)
theorem Dz:bw X (WC .Lt) (oy (λi j=>decide (i<j)) λx y=>decide (x<y)):=NO.or NS
theorem DC:cu (oy (λi j=>decide (i<j)) λx y=>decide (x<y)) jx:=j4
noncomputable def ag(d e:D):Option S:=match d with
 |.lst ds=>match e with|.int i=>(ff ds i).map .pure|_=>none
 |.tup ds=>match e with|.int i=>(ff ds i).map .pure|_=>none
 |.str x=>match e with|.int i=>if x.length<=W9 then(ff x i).map λn=>.pure (.str [n])else none|_=>none
 |_=>none
theorem DH{i}(r:aH H O vs ds)(h:ff ds i=some d):∃v,ff vs i=some v/\Rep H O v d:=by unfold ff at h⊢;rw[r.1];cases e:e_ ds.length i with|none=>rw[e]at h;cases h|some j=>rw[e]at h;exact r.get h
universe H in theorem xM:cu (tG K) ag:=by
 intro c Y Z H x y d e s Q k rx ry hp q;cases d<;>cases e<;>first|(simp[ag]at hp;done)|skip
 .rename_i z i;simp only[ag]at hp;split at hp;.rename_i hz;cases e1:ff z i with|none=>rw[e1]at hp;cases hp|some n=>rw[e1]at hp;simp only[WM,Wb]at hp;subst hp;refine .inr (.inr ⟨toS z,i,n,rx.str,ry.int,Dr hz,%[kD|e1],?_⟩);exact q (.str (toS [n])) H (.refl k) (.str [n])
  .cases hp
 .rename_i ds i;simp only[ag]at hp;cases e1:ff ds i with|none=>rw[e1]at hp;cases hp|some n=>rw[e1]at hp;simp only[WM,Wb]at hp;subst hp;obtain⟨a,vs,ea,ha,ra⟩:=rx.tup;obtain⟨v,e2,r2⟩:=DH ra e1;exact .inr (.inl ⟨a,vs,i,v,ea,ry.int,.of ha,e2,q v H (.refl k) r2⟩)
 .rename_i ds i;simp only[ag]at hp;cases e1:ff ds i with|none=>rw[e1]at hp;cases hp|some n=>rw[e1]at hp;simp only[WM,Wb]at hp;subst hp;obtain⟨a,vs,ea,ha,ra⟩:=rx.lst;obtain⟨v,e2,r2⟩:=DH ra e1;exact .inl ⟨a,vs,i,v,ea,ry.int,.inl ha,e2,q v H (.refl k) r2⟩
def lQ:=jw (λi j=>decide (i<=j)) λx y=>!decide (y<x)
def gO:=jw (λi j=>decide (j<i)) λx y=>decide (y<x)
def xN:=jw (λi j=>decide (j<=i)) λx y=>!decide (x<y)
theorem ui:bw X (WC .LtE) (oy (λi j=>decide (i<=j)) λx y=>!decide (y<x)):=NP.or (xK (g:=λx y=>!decide (y<x)) λk k k k k k h=>PySem.P.le_str h)
theorem uj:bw X (WC .Gt) (oy (λi j=>decide (j<i)) λx y=>decide (y<x)):=NQ.or (xK (g:=λx y=>decide (y<x)) λk k k k k k h=>PySem.P.gt_str h)
theorem Rx:bw X (WC .GtE) (oy (λi j=>decide (j<=i)) λx y=>!decide (x<y)):=NR.or (xK (g:=λx y=>!decide (x<y)) λk k k k k k h=>PySem.P.ge_str h)
abbrev DA:=Dl->Rs (List D)
def Ry(c:Fc)(f:DA):TA:=λY H Q=>∃Z,Ok c Y Z H/\post c (f Z) λds SZ=>∀vs H',aK c Y Z H Y SZ H'->aH H' (Av c Y SZ) vs ds->Q vs H'
structure SA(X:Cx)(c:Fc)(es:List Expr)(f:DA):Prop where pa:PA X es (Ry c f)len:∀Z ds SZ,f Z=.ok ds SZ->ds.length=es.length
theorem PA.weak{t'}(h:PA X es t)(w:∀Y H Q,t' Y H Q->t Y H Q):PA X es t':=λpos pins s Y H Q I q=>h pos pins s Y H Q I (w Y H Q q)
def aF:DA:=λZ=>.ok [] Z
def ao(f:DE)(g:DA):DA:=λZ=>(f Z).bind λx S'=>(g S').bind λxs SL=>.ok (x.d::xs) SL
section
variable{c:Fc}{f:DE}{g:DA}
theorem DJ:SA X c [] aF:=⟨PA.weak f_ λY H Q⟨Z,k,q⟩=>q [] H (.refl k) .nil,λZ ds SZ h=>by cases h;rfl⟩
theorem DK(ha:SE X c e f)(hr:SA X c es g)(hs:Wa (e::es) X.env=(false,eval e X.env)::Wa es X.env:=by rfl):SA X c (e::es) (ao f g):=by
 refine⟨PA.weak (dU ha hr.pa hs) λY H Q⟨Z,k,q⟩=>?_,λZ ds SZ h=>?_⟩;.unfold ao at q;rw[bx]at q;refine⟨Z,k,aT q λx S' q1 v H1 a1 r1=>⟨S',a1.ok,?_⟩⟩;rw[bx]at q1;exact aT q1 λxs SL q2 vs H2 a2 r2=>q2 (v::vs) H2 (a1.trans a2) (.cons (Rep.dG r1.rep a2) r2)
 .unfold ao at h;cases h1:f Z with
 |ok x S'=>rw[h1]at h;cases h2:g S' with|ok xs SL=>simp only[Rs.bind,h2]at h;cases h;simp[hr.len _ _ _ h2]|exc x GM=>simp only[Rs.bind,h2]at h;cases h|stuck=>simp only[Rs.bind,h2]at h;cases h
 |exc x GM=>rw[h1]at h;cases h|stuck=>rw[h1]at h;cases h
def aO(f:DA):DE:=λZ=>(f Z).bind λds SZ=>.ok (.pure (.tup ds)) SZ
def cC(f:DA):DE:=λZ=>(f Z).bind λds SZ=>.ok (.own (.lst ds)) SZ
theorem DL(h:n<=1000):n<=W9:=QV (O5 h)
theorem DM(h:post c r k):post c r λa Z=>r=.ok a Z/\k a Z:=by cases r with|ok a Z=>exact⟨rfl,h⟩|exc x GM=>exact h|stuck=>exact h
theorem DO{x1}(h:SA X c es g)(hz:es.length<=1000:=by decide):SE X c (.Tuple es x1 pos) (aO g):=PE.weak (N4 h.pa) λY H Q⟨Z,k,q⟩=>by unfold aO at q;rw[bx]at q;refine⟨Z,k,aT (DM q) λds S'⟨e1,q1⟩vs H1 a1 r1=>?_⟩;have hl:=h.len _ _ _ e1;exact⟨%[r1.1,hl|DL hz],λp hp=>q1 _ _ (a1.trans (.alloc a1.ok hp _)) (aN.back (aN.om a1.ok r1 hp) a1)⟩
theorem DP(h:SA X c es g)(hz:es.length<=1000:=by decide):SE X c (.List es pos) (cC g):=PE.weak (N5 h.pa) λY H Q⟨Z,k,q⟩=>by unfold cC at q;rw[bx]at q;refine⟨Z,k,aT (DM q) λds S'⟨e1,q1⟩vs H1 a1 r1=>?_⟩;have hl:=h.len _ _ _ e1;exact⟨%[r1.1,hl|DL hz],λp hp=>q1 _ _ (a1.trans (.alloc a1.ok hp _)) (aN.back (aN.jv a1.ok r1 hp) a1)⟩
end
noncomputable def p1(p:D->Option S)(x:D)(Z:Dl):Rs S:=match p x with|some s=>.ok s Z|none=>.stuck
def aE(p:D->Option S)(fb:BE):DE:=λZ=>(fb Z).bind λx S'=>p1 p x S'
def j5(r:V->Hp->VK->Prop)(p:D->Option S):Prop:=∀(c:Fc)(Y:St)(Z:Dl)(H:Hp)(x:V)(d:D)(s:S)(Q:VK),Ok c Y Z H->cX c Y Z H x d->p d=some s->(∀v H',aK c Y Z H Y Z H'->aN c Y Z H H' v s->Q v H')->r x H Q
section
variable{c:Fc}{r:V->Hp->VK->Prop}{p:D->Option S}{x:Str}{id T:String}
theorem xO(hp:j5 r p)(k:Ok c Y Z H)(rx:cX c Y Z H v d)(h:post c (p1 p d Z) λs SZ=>∀v H',aK c Y Z H Y SZ H'->aN c Y SZ H H' v s->Q v H'):r v H Q:=by unfold p1 at h;cases e1:p d with|none=>rw[e1]at h;exact h.elim|some s=>rw[e1]at h;exact hp c Y Z H v d s Q k rx e1 h
theorem oz(hp:j5 r p)(h:tD c (aE p fb) Y H Q):wz r (UF c fb) Y H Q:=by obtain⟨Z,k,q⟩:=h;unfold aE at q;rw[bx]at q;exact⟨Z,k,aT q λy S' q1 v H1 a1 r1=>xO hp a1.ok r1 (aT q1 λs SL q2 w H2 a2 r2=>q2 w H2 (a1.trans a2) (aN.back r2 a1))⟩
theorem uk(hc:dM X (.builtin id) rl)(hl:∀v H Q,r v H Q->rl [v] H Q)(hp:j5 r p)(hg:Gl X x)(hm:X.mg x=none)(hv:QK x=some (.builtin id))(he:SB X c e fb)(hn:x≠"__name__":=by decide)(dE:(x==("__debug__":Str))=false:=by decide)(hs:Wa [e] X.env=(false,eval e X.env)::Wa [] X.env:=by rfl)(bZ:(Qy pos (Wa [] X.env)).any (·.1)=false:=by rfl):SE X c (.Call (.Name x pp) [e] [] pos) (aE p fb):=PE.weak (pU hc hg hm hv (dU he f_ hs) hn dE hs bZ) λY H Q h=>by obtain⟨Z,k,q⟩:=oz hp h;exact⟨Z,k,aT q λy S' q1 v H1 a1 r1=>hl _ _ _ (q1 v H1 a1 r1)⟩
theorem qf(hc:dM X (.type T) rl)(hl:∀v H Q,r v H Q->rl [v] H Q)(hp:j5 r p)(hg:Gl X x)(hm:X.mg x=none)(hv:QK x=some (.type T))(he:SB X c e fb)(hn:x≠"__name__":=by decide)(dE:(x==("__debug__":Str))=false:=by decide)(hs:Wa [e] X.env=(false,eval e X.env)::Wa [] X.env:=by rfl)(bZ:(Qy pos (Wa [] X.env)).any (·.1)=false:=by rfl):SE X c (.Call (.Name x pp) [e] [] pos) (aE p fb):=PE.weak (N8 hc hg hm hv (dU he f_ hs) hn dE hs bZ) λY H Q h=>by obtain⟨Z,k,q⟩:=oz hp h;exact⟨Z,k,aT q λy S' q1 v H1 a1 r1=>hl _ _ _ (q1 v H1 a1 r1)⟩
noncomputable def br:D->Option S|.lst ds=>0#(.int ds.length)|.tup ds=>0#(.int ds.length)|.str z=>if z.length<=W9 then 0#(.int z.length) else none|.bT ds=>0#(.int ds.length)|_=>none
def RA(K:W3):V->Hp->VK->Prop:=λv H Q=>((∃p ys,v=.ref p/\(cp K H p ys\/cK K H p ys)/\Q (.int ys.length) H)\/∃z,v=.str z/\z.length<=W9/\Q (.int z.length) H)\/∃a aw,v=V.ref a/\H a=some (.dK aw)/\Q (.int aw.length) H
universe H in theorem RC:j5 (RA K) br:=by intro c Y Z H x d s Q k rx hp q;cases d with
 |lst ds=>simp only[br,Wb]at hp;subst hp;obtain⟨a,vs,ea,ha,ra⟩:=rx.lst;exact .inl (.inl ⟨a,vs,ea,.inl (.inl ha),%[ra.1|q _ H (.refl k) (.int _)]⟩)|tup ds=>simp only[br,Wb]at hp;subst hp;obtain⟨a,vs,ea,ha,ra⟩:=rx.tup;exact .inl (.inl ⟨a,vs,ea,.inr (.of ha),%[ra.1|q _ H (.refl k) (.int _)]⟩)|str z=>
 simp only[br]at hp;split at hp;.rename_i hz;simp only[Wb]at hp;subst hp;exact .inl (.inr ⟨toS z,rx.str,Dr hz,%[kE|q _ H (.refl k) (.int _)]⟩)
 .cases hp|bT ds=>
 simp only[br,Wb]at hp;subst hp;obtain⟨a,ws,ea,ha,h1,h2⟩:=rx.bT;have hl:ws.length=ds.length:=by have:=congrArg QB h1;simpa using this
 exact .inr ⟨a,ws,ea,ha,%[hl|q _ H (.refl k) (.int _)]⟩|_=>simp[br]at hp
theorem RD(hg:Gl X "len")(hm:X.mg "len"=none)(he:SB X c e fb)(hs:Wa [e] X.env=(false,eval e X.env)::Wa [] X.env:=by rfl):SE X c (.Call (.Name "len" pp) [e] [] pos) (aE br fb):=uk ((OC.or OE).or O6) (λv H Q h=>by
 rcases h with(⟨p,ys,e,h⟩|⟨z,e,h⟩)|⟨a,aw,e,h⟩;.exact .inl (.inl ⟨p,ys,by rw[e],h⟩)
 .exact .inl (.inr ⟨z,by rw[e],h⟩)
 .exact .inr ⟨a,aw,by rw[e],h⟩) (RC (K:=X.K)) hg hm PySem.boot_len he Z' Z' hs
noncomputable def dh:D->Option S|.lst ds=>0#(.tup ds)|.tup ds=>0#(.tup ds)|_=>none
def RE(K:W3):V->Hp->VK->Prop:=λv H Q=>∃p ys,v=.ref p/\((cp K H p ys/\∀l,H l=none->Q (.ref l) (upd H l (.tup ys)))\/cK K H p ys/\Q (.ref p) H)
theorem RF:j5 (RE K) dh:=by
 intro c Y Z H x d s Q k rx hp q
 cases d with|lst ds=>simp only[dh,Wb]at hp;subst hp;obtain⟨a,vs,ea,ha,ra⟩:=rx.lst;exact⟨a,vs,ea,.inl ⟨.inl ha,λl hl=>q _ _ (.alloc k hl _) (aN.om k ra hl)⟩⟩|tup ds=>
 simp only[dh,Wb]at hp;subst hp;obtain⟨a,vs,ea,ha,ra⟩:=rx.tup;refine⟨a,vs,ea,.inr ⟨.of ha,?_⟩⟩;rw[ea]at rx;rcases rx with rx|⟨_,_,rx⟩;.exact q _ H (.refl k) rx
 .exact rx.elim|_=>simp[dh]at hp
theorem RH(hg:Gl X "tuple")(hm:X.mg "tuple"=none)(he:SB X c e fb)(hs:Wa [e] X.env=(false,eval e X.env)::Wa [] X.env:=by rfl):SE X c (.Call (.Name "tuple" pp) [e] [] pos) (aE dh fb):=qf OG (λv H Q⟨p,ys,e,h⟩=>⟨p,ys,by rw[e],h⟩) (RF (K:=X.K)) hg hm PyProof.Rows.boot_tuple he Z' Z' hs
noncomputable def oA:D->Option S|.int i=>0#(.int i)|.bl b=>0#(.int (if b then 1 else 0))|_=>none
theorem RI(hg:Gl X "int")(hm:X.mg "int"=none)(he:SB X c e fb)(hs:Wa [e] X.env=(false,eval e X.env)::Wa [] X.env:=by rfl):SE X c (.Call (.Name "int" pp) [e] [] pos) (aE oA fb):=qf (r:=λv H Q=>(∃i,v=.int i/\Q (.int i) H)\/∃k,v=.bl k/\Q (.int (if k then 1 else 0)) H) NY (λv H Q h=>by
 rcases h with⟨i,e,q⟩|⟨k,e,q⟩;.exact .inl ⟨i,by rw[e],q⟩
 .exact .inr ⟨k,by rw[e],q⟩) (λc Y Z H x d s Q k rx hp q=>by cases d with|int i=>simp only[oA,Wb]at hp;subst hp;exact .inl ⟨i,rx.int,q _ H (.refl k) (.int _)⟩|bl b=>simp only[oA,Wb]at hp;subst hp;exact .inr ⟨b,rx.bl,q _ H (.refl k) (.int _)⟩|_=>simp[oA]at hp) hg hm PyProof.Rows.boot_int he Z' Z' hs
noncomputable def gP:List D->Option (List Bool)|[]=>some []|.bl b::r=>(gP r).map (b::.)|_::_=>none
noncomputable def di:List D->Option (List Tx)|[]=>some []|.str x::r=>(di r).map (x::.)|_::_=>none
theorem um:∀{ds:List D}{vs:List V}{bs:List Bool},gP ds=some bs->aH H O vs ds->vs=bs.map V.bl|[],vs,bs,h,r=>by simp only[gP,Wb]at h;subst h;have:=r.1;simpa using this|d::ds,[],bs,h,r=>by have:=r.1;simp at this|d::ds,v::vs,bs,h,r=>by cases d with
 |bl b=>simp only[gP]at h;cases e:gP ds with|none=>rw[e]at h;cases h|some bs'=>rw[e]at h;simp only[WM,Wb]at h;subst h;have:=r.head;cases this;rw[um e r.tail];rfl
 |_=>simp[gP]at h
theorem qg:∀{ds:List D}{vs:List V}{bs:List Tx},di ds=some bs->aH H O vs ds->vs=bs.map λz=>V.str (toS z)|[],vs,bs,h,r=>by simp only[di,Wb]at h;subst h;have:=r.1;simpa using this|d::ds,[],bs,h,r=>by have:=r.1;simp at this|d::ds,v::vs,bs,h,r=>by cases d with
 |str b=>simp only[di]at h;cases e:di ds with|none=>rw[e]at h;cases h|some bs'=>rw[e]at h;simp only[WM,Wb]at h;subst h;have:=r.head;cases this;rw[qg e r.tail];rfl
 |_=>simp[di]at h
noncomputable def gQ:D->Option S|.lst ds=>(gP ds).map λbs=>.pure (.bl (bs.all λb=>b))|_=>none
theorem RJ:QK "all"=some (.builtin "all"):=by decide+kernel
theorem RK(hc:X.calm=true)(hg:Gl X "all")(hm:X.mg "all"=none)(he:SB X c e fb)(hs:Wa [e] X.env=(false,eval e X.env)::Wa [] X.env:=by rfl):SE X c (.Call (.Name "all" pp) [e] [] pos) (aE gQ fb):=uk (r:=λv H Q=>∃(a:Addr)(bs:List Bool),v=.ref a/\cp X.K H a (bs.map V.bl)/\Q (.bl (bs.all λb=>b)) H) (Rf hc) (λv H Q⟨a,bs,e,h⟩=>⟨a,bs,by rw[e],h⟩) (λc Y Z H x d s Q k rx hp q=>by cases d with
 |lst ds=>simp only[gQ]at hp;cases e:gP ds with|none=>rw[e]at hp;cases hp|some bs=>rw[e]at hp;simp only[WM,Wb]at hp;subst hp;obtain⟨a,vs,ea,ha,ra⟩:=rx.lst;have:=um e ra;subst this;exact⟨a,bs,ea,.inl ha,q _ H (.refl k) (.bl _)⟩
 |_=>simp[gQ]at hp) hg hm RJ he Z' Z' hs
noncomputable def xP:D->D->Option S|.int i,.int j=>0#(.int (if j>i then j else i))|_,_=>none
def uo(f g:DE):DE:=λZ=>(f Z).bind λx S'=>(g S').bind λy SL=>p2 xP x.d y.d SL
universe H in theorem RL{a b:Expr}{f g:DE}(hc:X.calm=true)(hg:Gl X "max")(hm:X.mg "max"=none)(ha:SE X c a f)(hb:SE X c b g)(hs:Wa [a,b] X.env=(false,eval a X.env)::Wa [b] X.env:=by rfl)(qj:Wa [b] X.env=(false,eval b X.env)::Wa [] X.env:=by rfl)(bZ:(Qy pos (Wa [b] X.env)).any (·.1)=false:=by rfl):SE X c (.Call (.Name "max" pp) [a,b] [] pos) (uo f g):=PE.weak (pU (NX hc) hg hm PyProof.Rows.boot_max (dU ha (dU hb f_ qj) hs) Z' Z' hs bZ) λY H Q⟨Z,k,q⟩=>by
 unfold uo at q;rw[bx]at q;refine⟨Z,k,aT q λx S' q1 v H1 a1 r1=>⟨S',a1.ok,?_⟩⟩;rw[bx]at q1;refine aT q1 λy SL q2 u H2 a2 r2=>?_;unfold p2 at q2;have hx:cX c Y SL H2 v x.d:=.inl (Rep.dG r1.rep a2);have hy:=r2.b;generalize x.d=dx at q2 hx;generalize y.d=dy at q2 hy;cases dx<;>cases dy<;>first|exact q2.elim|skip
 rename_i i j;exact⟨i,j,by rw[hx.int,hy.int],q2 _ H2 (a1.trans a2) (.int _)⟩
noncomputable def gA(T:String):D->Option Bool|.aD=>some (T=="NoneType")|.bl _=>some (T=="bool"||T=="int")|.int _=>some (T=="int")|.str _=>some (T=="str")|.tup _=>some (T=="tuple")|.lst _=>some (T=="list")|.bT _=>some (T=="dict")|.exc _ _=>none|.xd _=>none|.fn _=>none|.dic _=>none
structure kH(K:W3)(T:String):Prop where aD:QX K (.type "NoneType") (.type T)=some (T=="NoneType")bl:QX K (.type "bool") (.type T)=some (T=="bool"||T=="int")int:QX K (.type "int") (.type T)=some (T=="int")str:QX K (.type "str") (.type T)=some (T=="str")tup:QX K (.type "tuple") (.type T)=some (T=="tuple")lst:QX K (.type "list") (.type T)=some (T=="list")bT:QX K (.type "dict") (.type T)=some (T=="dict")
def fk(T:String)(fb:BE):DE:=λZ=>(fb Z).bind λd SZ=>match gA T d with|some b=>.ok (.pure (.bl b)) SZ|none=>.stuck
theorem RM(ty:kH X.K T)(I:6#0)(ru:RelV v u)(r:Rep H cU v d)(e:gA T d=some b)(q:Q (.bl b) H):W6 5#0 X.A (call (.builtin "isinstance") [u,.type T]) (EP X pins Y Q) X.xe s:=by
 have fin:∀tk,EP X pins Y Q (.bool b) {s with toks:=tk}:=λtk=>⟨.bl b,H,I.tok tk,rfl,q⟩
 cases r with|aD=>exact lA I ru .aD (ty.aD.trans e) fin|bl x=>exact lA I ru (.bl x) (ty.bl.trans e) fin|int x=>exact lA I ru (.int x) (ty.int.trans e) fin|str x=>exact lA I ru (.str _) (ty.str.trans e) fin|tup _ h2 _ _=>exact lA I ru (.tup h2) (ty.tup.trans e) fin|lst _ h2 _ _=>
 rcases h2 with h2|⟨o,h2⟩;.exact lA I ru (.lst h2) (ty.lst.trans e) fin
 .exact lA I ru (.frz h2) (ty.lst.trans e) fin|bT _ h2 _ _=>exact lA I ru (.dK h2) (ty.bT.trans e) fin|exc _ _=>cases e|xd _ _=>cases e|fn _=>cases e|dic _=>cases e
theorem RN(ty:kH X.K T):dM X (.builtin "isinstance") λxs H Q=>∃v d b,xs=[v,.ty T]/\Rep H cU v d/\gA T d=some b/\Q (.bl b) H:=by intros xs us Q I r h;obtain⟨v,d,b,rfl,rp,e,q⟩:=h;obtain⟨u,w',rfl,r1,r2⟩:=wG r;cases r2;exact RM ty I r1 rp e q
theorem RO{y:Str}{py:Pos}(ty:kH X.K T)(hg:Gl X "isinstance")(hm:X.mg "isinstance"=none)(qk:Gl X y)(ql:X.mg y=none)(xQ:QK y=some (.type T))(he:SB X c e fb)(xR:y≠"__name__":=by decide)(qo:(y==("__debug__":Str))=false:=by decide)(hs:Wa [e,.Name y py] X.env=(false,eval e X.env)::Wa [.Name y py] X.env:=by rfl)(bZ:(Qy pos (Wa [.Name y py] X.env)).any (·.1)=false:=by rfl):SE X c (.Call (.Name "isinstance" pp) [e,.Name y py] [] pos) (fk T fb):=PE.weak (pU (RN ty) hg hm PyProof.Rows.boot_isinstance (dU he (dU (Bp (v:=.ty T) qk ql xQ rfl xR qo) f_) hs) Z' Z' hs bZ) λY H Q⟨Z,k,q⟩=>by unfold fk at q;rw[bx]at q;refine⟨Z,k,aT q λd S' q1 v H1 a1 r1=>?_⟩;cases e1:gA T d with|none=>rw[e1]at q1;exact q1.elim|some b=>rw[e1]at q1;exact⟨v,d,b,rfl,r1.un,e1,q1 _ H1 a1 (.bl _)⟩
end
abbrev lR:=Dl->Rs (Option Int)
def RP(c:Fc)(f:lR):TO:=λY H Q=>∃Z,Ok c Y Z H/\post c (f Z) λo SZ=>∀H',aK c Y Z H Y SZ H'->Q o H'
abbrev SO(X:Cx)(c:Fc)(e:Option Expr)(f:lR):Prop:=PO X e (RP c f)
theorem PO.weak{e t'}(h:PO X e t)(w:∀Y H Q,t' Y H Q->t Y H Q):PO X e t':=λpins s Y H Q I q=>h pins s Y H Q I (w Y H Q q)
def cq:lR:=λZ=>.ok none Z
def bK(f:DE):lR:=λZ=>(f Z).bind λr SZ=>match r with|.pure (.int i)=>.ok (some i) SZ|_=>.stuck
section
variable{c:Fc}{f:DE}{fl fh:lR}{lo hi:Option Expr}{p2:Pos}
theorem RQ:SO X c none cq:=PO.weak Of λY H Q⟨Z,k,q⟩=>q H (.refl k)
universe H in theorem RS(h:SE X c e f):SO X c (some e) (bK f):=PO.weak (Og h) λY H Q⟨Z,k,q⟩=>by unfold bK at q;rw[bx]at q;refine⟨Z,k,aT q λr S' q1 v H1 a1 r1=>?_⟩;cases r with|own d=>exact q1.elim|pure d=>
 cases d<;>first|exact q1.elim|skip
 rename_i i;cases r1;exact⟨i,rfl,q1 H1 a1⟩
noncomputable def cW(lo hi:Option Int):D->Option S|.str x=>if x.length<=W9 then 0#(.str (cf x lo hi)) else none|.tup ds=>0#(.tup (cf ds lo hi))|.lst ds=>some (.own (.lst (cf ds lo hi)))|_=>none
def DQ(K:W3):V->Option Int->Option Int->Hp->VK->Prop:=λx lo hi H Q=>Df x lo hi H Q\/Dd K x lo hi H Q\/Ck K x lo hi H Q
theorem DU:jX X (DQ X.K):=P5.or (PZ.or Oz)
universe H in theorem DW(lo hi:Option Int):j5 (λx H Q=>DQ K x lo hi H Q) (cW lo hi):=by intro c Y Z H x d s Q k rx hp q;cases d with
 |str z=>
  simp only[cW]at hp;split at hp;.rename_i hz;simp only[Wb]at hp;subst hp;exact .inl ⟨z,rx.str,hz,q _ H (.refl k) (.str _)⟩
  .cases hp|tup ds=>
  simp only[cW,Wb]at hp;subst hp;obtain⟨a,vs,ea,ha,ra⟩:=rx.tup;refine .inr (.inl ⟨a,vs,ea,.of ha,λhw=>?_,λ_ p hp=>?_⟩)
  .rw[ra.1]at hw;rw[PX hw]at q;rw[ea]at rx;rcases rx with rx|⟨_,_,rx⟩;.exact q _ H (.refl k) rx
   .exact rx.elim
  .rw[<-C_];exact q _ _ (.alloc k hp _) (aN.om k (ra.cut lo hi) hp)|lst ds=>simp only[cW,Wb]at hp;subst hp;obtain⟨a,vs,ea,ha,ra⟩:=rx.lst;refine .inr (.inr ⟨a,vs,ea,.inl ha,λp hp=>?_⟩);rw[<-C_];exact q _ _ (.alloc k hp _) (aN.jv k (ra.cut lo hi) hp)|_=>simp[cW]at hp
def fm(f:DE)(fl fh:lR):DE:=λZ=>(f Z).bind λx S'=>(fl S').bind λl SL=>(fh SL).bind λh Pv=>p1 (cW l h) x.d Pv
theorem RT(he:SE X c e f)(hl:SO X c lo fl)(hh:SO X c hi fh):SE X c (.Subscript e (.Slice lo hi none p2) pos) (fm f fl fh):=PE.weak (Cb DU he hl hh) λY H Q⟨Z,k,q⟩=>by unfold fm at q;rw[bx]at q;refine⟨Z,k,aT q λx S' q1 v H1 a1 r1=>⟨S',a1.ok,?_⟩⟩;rw[bx]at q1;refine aT q1 λl SL q2 H2 a2=>⟨SL,a2.ok,?_⟩;rw[bx]at q2;refine aT q2 λh Pv q3 H3 a3=>?_;exact xO (DW l h) a3.ok (.inl (Rep.dG r1.rep (a2.trans a3))) (aT q3 λs Os q4 w H4 a4 r4=>q4 w H4 (a1.trans (a2.trans (a3.trans a4))) (aN.back r4 (a1.trans (a2.trans a3))))
def c9(i:Nat)(fl fh:lR):DE:=λZ=>match Z[i]? with|some (some _)=>(fl Z).bind λl SL=>(fh SL).bind λh Pv=>(aq i Pv).bind λx Os=>p1 (cW l h) x Os|_=>.stuck
theorem xS{w:S}(k:Ok c Y Z H)(e:Z[i]?=some (some w))(ev:Y[i]?=some (some v)):cX c Y Z H v w.d:=by cases w with|pure d=>obtain⟨v',e1,r⟩:=k.slot i d e;rw[ev]at e1;cases e1;exact .inl r|own d=>obtain⟨a,e1,r,_⟩:=k.own i d e;rw[ev]at e1;cases e1;exact .inr ⟨a,rfl,r⟩
theorem RU(h:post c ((aq i Z).bind g) kk):∃w,Z[i]?=some (some w)/\post c (g w.d Z) kk:=by unfold aq at h;cases e:Z[i]? with|none=>rw[e]at h;exact h.elim|some o=>cases o with|none=>rw[e]at h;exact h.elim|some w=>rw[e]at h;exact⟨w,rfl,h⟩
theorem RV(he:PE X e (fD i))(hl:SO X c lo fl)(hh:SO X c hi fh):SE X c (.Subscript e (.Slice lo hi none p2) pos) (c9 i fl fh):=PE.weak (Cb DU he hl hh) λY H Q⟨Z,k,q⟩=>by unfold c9 at q;cases e:Z[i]? with|none=>rw[e]at q;exact q.elim|some o=>cases o with|none=>rw[e]at q;exact q.elim|some w=>rw[e]at q;obtain⟨v,ev⟩:=ou k e;have q':post c ((fl Z).bind λl SL=>(fh SL).bind λh Pv=>(aq i Pv).bind λx Os=>p1 (cW l h) x Os) λr SZ=>∀v H',aK c Y Z H Y SZ H'->aN c Y SZ H H' v r->Q v H':=q;rw[bx]at q';refine⟨v,ev,Z,k,aT q' λl SL q2 H2 a2=>⟨SL,a2.ok,?_⟩⟩;rw[bx]at q2;refine aT q2 λh Pv q3 H3 a3=>?_;obtain⟨w3,e3,q4⟩:=RU q3;exact xO (DW l h) a3.ok (xS a3.ok e3 ev) (aT q4 λs Os q4 w H4 a4 r4=>q4 w H4 (a2.trans (a3.trans a4)) (aN.back r4 (a2.trans a3)))
noncomputable def uq:D->Option S|.str x=>if x.length<=W9 then 0#(.str x.reverse) else none|.lst ds=>some (.own (.lst ds.reverse))|_=>none
def RW(K:W3):V->Hp->VK->Prop:=λx H Q=>(∃z:Tx,x=.str (toS z)/\z.length<=W9/\Q (.str (toS z.reverse)) H)\/∃a xs,x=.ref a/\cp K H a xs/\∀p,H p=none->Q (.ref p) (upd H p (.lst xs.reverse))
def jy(z:Tx):List Tx->Tx|[]=>[]|[x]=>x|x::y::r=>x++z++jy z (y::r)
theorem DY(z:Tx):∀(r:List Tx)(acc:Tx),(r.map toS).foldl (λ(acc:Array Nat)p=>acc++(toS z).cps++p.cps) acc.toArray=(match r with|[]=>acc|x::r'=>acc++z++jy z (x::r')).toArray|[],acc=>rfl|x::r,acc=>by rw[Wl,JK];have e:acc.toArray++(toS z).cps++(toS x).cps=(acc++z++x).toArray:=#v[toS];rw[e,DY z r (acc++z++x)];cases r with|nil=>simp[jy]|cons y r'=>simp[jy]
theorem RX(z:Tx)(ts:List Tx):Txt.join (toS z) (ts.map toS)=toS (jy z ts):=by show Builtin.Str.glued _ _=_;unfold Builtin.Str.glued;cases ts with|nil=>rfl|cons x r=>rw[Wl];show(⟨List.foldl _ (toS x).cps (r.map toS)⟩:Str)=_;have:=DY z r x;have e:(toS x).cps=x.toArray:=rfl;rw[e,this];cases r with|nil=>rfl|cons y r'=>rfl
def iu(ts:List Tx):Nat:=(ts.map (·.length)).sum
noncomputable def dX(z:Tx):D->Option S
 |.lst ds=>match di ds with|some ts=>if iu ts+ts.length*z.length<=16777216 then 0#(.str (jy z ts)) else none|none=>none
 |.tup ds=>match di ds with|some ts=>if iu ts+ts.length*z.length<=16777216 then 0#(.str (jy z ts)) else none|none=>none
 |_=>none
universe H in theorem RY(z:Tx):j5 (λx H Q=>t7 K (.str (toS z)) [x] H Q) (dX z):=by
 intro c Y Z H x d s Q k rx hp q;have key:∀(a:Addr)(vs:List V)(ds:List D),x=.ref a->cp K H a vs\/cK K H a vs->aH H (Av c Y Z) vs ds->(match di ds with|some ts=>if iu ts+ts.length*z.length<=16777216 then some (S.pure (.str (jy z ts)))else none|none=>none)=some s->t7 K (.str (toS z)) [x] H Q:=by intro a vs ds ea ha ra hp;cases e:di ds with|none=>rw[e]at hp;cases hp|some ts=>
   rw[e]at hp;simp only at hp;split at hp
   .rename_i hz;simp only[Wb]at hp;subst hp;have:=qg e ra;subst this;refine⟨toS z,a,ts.map toS,rfl,by rw[ea],?_,?_,?_⟩;.rw[WU];exact ha
    .rw[WU,Wd,kE];have:(λx:Str=>x.length)∘toS=λx:Tx=>x.length:=funext λx=>kE x;rw[this];exact hz
    .rw[RX];exact q _ H (.refl k) (.str _)
   .cases hp
 cases d with|lst ds=>obtain⟨a,vs,ea,ha,ra⟩:=rx.lst;exact key a vs ds ea (.inl (.inl ha)) ra hp|tup ds=>obtain⟨a,vs,ea,ha,ra⟩:=rx.tup;exact key a vs ds ea (.inr (.of ha)) ra hp|_=>simp[dX]at hp
theorem RZ{x:Str}{j}{p0 apos bV:Pos}(z:Tx)(he:SB X c e fb)(hx:x=toS z:=by decide+kernel)(jr:JX (.Constant (.str x) j p0) "join" X.env (eval (.Constant (.str x) j p0) X.env)=eval (.Constant (.str x) j p0) X.env:=by rfl)(js:((Qy bV (Wa [e] X.env)).all (λx=>!x.1)&&(backToKw bV (Ul [] X.env)).all (λx=>x.1.isSome)&&decide ([e].length+([]:List Keyword).length+(if([]:List Keyword).isEmpty then 0 else 1)<30))=true:=by rfl)(jt:(apos.endLine==bV.line)=true:=by rfl)(hs:Wa [e] X.env=(false,eval e X.env)::Wa [] X.env:=by rfl):SE X c (.Call (.Attribute (.Constant (.str x) j p0) "join" apos) [e] [] bV) (aE (dX z) fb):=by subst hx;refine PE.weak (pY PySem.F.plainAttrs_str PySem.F.slot_str_join PySem.F.type_str_join Rc Bn (dU he f_ hs) jr js jt hs rfl) λY H Q h=>?_;obtain⟨Z,k,q⟩:=oz (r:=λx H Q=>t7 X.K (.str (toS z)) [x] H Q) (RY z) h;refine⟨?_,Z,k,q⟩;show("str":String)="str";rfl
end
inductive Fl where|next|ret(r:S)|brk|cont
abbrev DS:=Dl->Rs Fl
def fin(c:Fc)(D:Ends)(Y:St)(Z:Dl)(H:Hp):Fl->Prop|.next=>D.nx Y H|.ret r=>∀v,aN c Y Z c.H₀ H v r->D.rt v H|.brk=>D.bk Y H|.cont=>D.ct Y H
def eK(c:Fc)(D:Ends)(Y:St)(Z:Dl)(H:Hp)(r:Rs Fl):Prop:=post c r λfl SZ=>∀SC H',aK c Y Z H SC SZ H'->fin c D SC SZ H' fl
def lT(c:Fc)(f:DS):TS:=λD Y H=>∃Z,Ok c Y Z H/\eK c D Y Z H (f Z)
abbrev SS(X:Cx)(c:Fc)(st:Stmt)(f:DS):Prop:=PS X st (lT c f)
abbrev fH(X:Cx)(c:Fc)(st:List Stmt)(f:DS):Prop:=dJ X st (lT c f)
theorem PS.weak{st:Stmt}{t t':TS}(h:PS X st t)(w:∀D Y H,t' D Y H->t D Y H):PS X st t':=λpins s Y H D I q=>h pins s Y H D I (w D Y H q)
theorem dJ.weak{st:List Stmt}{t t':TS}(h:dJ X st t)(w:∀D Y H,t' D Y H->t D Y H):dJ X st t':=λpins s Y H D I q=>h pins s Y H D I (w D Y H q)
def aW:DS:=λZ=>.ok .next Z
def ar(f g:DS):DS:=λZ=>(f Z).bind λfl S'=>match fl with|.next=>g S'|.ret r=>.ok (.ret r) S'|.brk=>.ok .brk S'|.cont=>.ok .cont S'
def gU(f:DE):DS:=λZ=>(f Z).bind λj S'=>.ok .next S'
def aI(f:DE):DS:=λZ=>(f Z).bind λr S'=>.ok (.ret r) S'
def aX(t:DT)(f g:DS):DS:=λZ=>(t Z).bind λb S'=>if b then f S' else g S'
def ur:DS:=λj=>.stuck
def qaC(np:List Nat)(i:Nat):DE:=λZ=>match Z[i]? with|some (some (.own d))=>if np.contains i then .ok (.pure d) (Z.set i 0#d)else .ok (.own d) (Z.set i none)|some 0#d=>.ok (.pure d) Z|_=>.stuck
section
variable{c:Fc}{st:Stmt}{a:Expr}{f g:DS}{t:DT}
theorem D0:fH X c [] aW:=dJ.weak M6 λD Y H⟨Z,k,q⟩=>q Y H (.refl k)
theorem D3(h1:SS X c st f)(h2:fH X c DZ g):fH X c (st::DZ) (ar f g):=dJ.weak (M7 h1 h2) λD Y H⟨Z,k,q⟩=>by unfold ar eK at q;rw[bx]at q;refine⟨Z,k,aT q λfl S' q1 KM H1 a1=>?_⟩;cases fl with|next=>exact⟨S',a1.ok,aT q1 λfl2 SL q2 On H2 a2=>q2 On H2 (a1.trans a2)⟩|ret r=>exact q1 KM H1 a1|brk=>exact q1 KM H1 a1|cont=>exact q1 KM H1 a1
theorem D4(h1:SS X c st f):fH X c [st] f:=dJ.weak (M8 h1) λD Y H h=>h
theorem R0:SS X c st ur:=PS.weak Nf λD Y H⟨Z,k,q⟩=>q
theorem R3(he:SE X c e fe):SS X c (.Return (some e) pos) (aI fe):=PS.weak (M_ he) λD Y H⟨Z,k,q⟩=>by unfold aI eK at q;rw[bx]at q;exact⟨Z,k,aT q λr S' q1 v H1 a1 r1=>q1 Y H1 a1 v r1.PB⟩
theorem R4{b1 b2:List Stmt}(ht:ST X c e t)(h1:fH X c b1 f)(h2:fH X c b2 g):SS X c (.If e b1 b2 pos) (aX t f g):=PS.weak (Nb ht h1 h2) λD Y H⟨Z,k,q⟩=>by unfold aX eK at q;rw[bx]at q;refine⟨Z,k,aT q λb S' q1 H1 a1=>?_⟩;cases b with|true=>exact⟨S',a1.ok,aT q1 λfl SL q2 On H2 a2=>q2 On H2 (a1.trans a2)⟩|false=>exact⟨S',a1.ok,aT q1 λfl SL q2 On H2 a2=>q2 On H2 (a1.trans a2)⟩
theorem Own.qp(h:Own (Y.set i (some v)) (Z.set i (some r)) b):Own Y Z b\/v=.ref b/\∃d,r=.own d:=by
 obtain⟨j,d,e1,e2⟩:=h;by_cases hj:i=j;.subst hj;right;rw[Qj]at e1 e2;simp at e1 e2;obtain⟨_,h1⟩:=e1;obtain⟨_,h2⟩:=e2;exact⟨h2,d,h1⟩
 .rw[Wc hj]at e1 e2;exact .inl ⟨j,d,e1,e2⟩
theorem Ok.set(x:aK c Y₀ Z₀ H₁ Y Z H)(hr:aN c Y Z H₁ H v r)(hp:∀p∈c.pin,p.1≠i):aK c Y₀ Z₀ H₁ (Y.set i (some v)) (Z.set i (some r)) H:=by
 have k:=x.ok;have all:∃c':Fc,c'.H₀=c.H₀/\c'.pin=c.pin/\Ok c' Y Z H/\∀b,Av c (Y.set i (some v)) (Z.set i (some r)) b->Av c' Y Z b:=by cases r with
 |pure d=>
   refine⟨c,rfl,rfl,k,λb z=>?_⟩;rcases z with z|z;.exact .inl z
   .rcases z.qp with z|⟨_,d',e⟩;.exact .inr z
    .cases e|own d=>
   obtain⟨a,ea,o,n,f,k2,_⟩:=hr;refine⟨c.plus a,rfl,rfl,k2,λb z=>?_⟩;rcases z with z|z;.exact .inl (.inl z)
   .rcases z.qp with z|⟨e,_⟩;.exact .inr z
    .rw[ea]at e;cases e;exact .inl (.inr rfl)
 obtain⟨c',eH,eP,k2,sub⟩:=all;have eI:∀a,c'.I a↔c.I a:=λa=>by unfold Fc.I;rw[eP]
 have R5:Rep H (Av c (Y.set i (some v)) (Z.set i (some r))) v r.d\/∃d,r=.own d:=by cases r with
 |pure d=>
   left;refine Rep.bj hr λb z=>?_;rcases z with z|z;.exact .inl (.inl z)
   .rcases z.qp with z|⟨_,d',e⟩;.exact .inl (.inr z)
    .cases e|own d=>exact .inr ⟨d,rfl⟩
 refine⟨⟨k.keep,k.bd,k.d_,%[U6,U6|k.len],λj d e=>?_,λj d e=>?_,λj l a d d' e1 e2 e3 e4=>?_,λp hm=>?_⟩,x.keep,λb z=>?_,x.there⟩
 .by_cases hj:i=j
  .subst hj;rw[Qj]at e;simp at e;obtain⟨hi,rfl⟩:=e;have dF:i<Y.length:=by rw[<-k.len];exact hi
   rcases R5 with h|⟨_,h⟩;.exact⟨v,by rw[WE dF],h⟩
   .cases h
  .rw[Wc hj]at e;obtain⟨w,e1,q⟩:=k2.slot j d e;exact⟨w,%[Wc hj|e1],q.bj λb z=>.inl (sub b z)⟩
 .by_cases hj:i=j
  .subst hj;rw[Qj]at e;simp at e;obtain⟨hi,rfl⟩:=e;have dF:i<Y.length:=by rw[<-k.len];exact hi
   obtain⟨a,ea,o,n,f,k3,_⟩:=hr;refine⟨a,by rw[WE dF,ea],o.bj λb z=>.inl ?_,.inr f,n⟩;rcases z with z|z;.exact .inl (.inl z)
   .rcases z.qp with z|⟨e,_⟩;.exact .inr z
    .rw[ea]at e;cases e;exact .inl (.inr rfl)
  .rw[Wc hj]at e;obtain⟨a,e1,q,q2,q3⟩:=k.own j d e;obtain⟨a',uu,q',_,_⟩:=k2.own j d e;rw[e1]at uu;cases uu;exact⟨a,%[Wc hj|e1],q'.bj λb z=>.inl (sub b z),q2,q3⟩
 .by_cases hj:i=j
  .subst hj;by_cases hl:i=l;.exact hl
   .rw[Wc hl]at e2 e4;rw[Qj]at e1 e3;simp at e1 e3;obtain⟨_,rfl⟩:=e1;obtain⟨_,rfl⟩:=e3;obtain⟨a',ea,o,n,f,k3,_⟩:=hr;cases ea;exact absurd ⟨l,d',e2,e4⟩ (tR k3)
  .rw[Wc hj]at e1 e3;by_cases hl:i=l;.subst hl;rw[Qj]at e2 e4;simp at e2 e4;obtain⟨_,rfl⟩:=e2;obtain⟨_,rfl⟩:=e4;obtain⟨a',ea,o,n,f,k3,_⟩:=hr;cases ea;exact absurd ⟨j,d,e1,e3⟩ (tR k3)
   .rw[Wc hl]at e2 e4;exact k.inj j l a d d' e1 e2 e3 e4
 .rw[Wc (Ne.symm (hp p hm))];exact k.pinned p hm
 .rcases z.qp with z|⟨e,d,ed⟩;.exact x.own b z
  .subst ed;obtain⟨a,ea,_,_,_,_,hs⟩:=hr;grind
abbrev DG:=S->Dl->Option Dl
def xT(c:Fc)(g:DG):TG:=λv Y H Q=>∃Y₀ Z₀ H₁ Z r SZ,aK c Y₀ Z₀ H₁ Y Z H/\aN c Y Z H₁ H v r/\g r Z=some SZ/\∀SC,aK c Y₀ Z₀ H₁ SC SZ H->Q SC H
abbrev SG(X:Cx)(c:Fc)(tg:Expr)(g:DG):Prop:=PG X tg (xT c g)
def ah(np:List Nat)(i:Nat):DG:=λr Z=>if np.contains i then none else some (Z.set i (some r))
def Np(c:Fc)(np:List Nat):Prop:=∀p∈c.pin,np.contains p.1=true
universe H in theorem xU(hp:Np c np)(h:xT c (ah np i) v Y H Q):sX i v Y H Q:=by
 obtain⟨Y₀,Z₀,H₁,Z,r,SZ,x,rr,e,q⟩:=h;unfold ah at e;split at e;.cases e
 .rename_i hn;cases e;exact q _ (Ok.set x rr λp hm e=>hn (by rw[<-e];exact hp p hm))
theorem PG.weak{t t':TG}(h:PG X tg t)(w:∀v Y H Q,t' v Y H Q->t v Y H Q):PG X tg t':=λpins s Y H v u Q I r q=>h pins s Y H v u Q I r (w v Y H Q q)
theorem ic.weak{tg:List Expr}{t t':lu}(h:ic X tg t)(w:∀v Y H Q,t' v Y H Q->t v Y H Q):ic X tg t':=λpins s Y H v u Q I r q=>h pins s Y H v u Q I r (w v Y H Q q)
theorem R6{x:Str}(hp:Np c np)(hN:X.N.Nodup)(hi:X.N[i]?=some x)(hx:Loc X.env.scope x)(hf:X.fn x=true\/X.env.scope.names.lookup x=some .local):SG X c (.Name x pos) (ah np i):=PG.weak (Bx hN hi hx hf) λv Y H Q h=>xU hp h
abbrev i5:=List D->Dl->Option Dl
def R7(c:Fc)(g:i5):lu:=λvs Y H Q=>∃Z ds SZ,Ok c Y Z H/\aH H (Av c Y Z) vs ds/\g ds Z=some SZ/\∀SC,aK c Y Z H SC SZ H->Q SC H
abbrev qq(X:Cx)(c:Fc)(tg:List Expr)(g:i5):Prop:=ic X tg (R7 c g)
def cx:i5:=λds Z=>match ds with|[]=>some Z|_=>none
def aS(g:DG)(gs:i5):i5:=λds Z=>match ds with|[]=>none|d::r=>(g (.pure d) Z).bind λS'=>gs r S'
theorem R8:qq X c [] cx:=ic.weak By λvs Y H Q hh=>by
 obtain⟨Z,ds,SZ,k,r,e,q⟩:=hh
 cases ds with|nil=>
 cases e;have:vs=[]:=by have:=r.1;simpa using this
 exact⟨this,q Y (.refl k)⟩|cons d r=>cases e
theorem R9{g:DG}{gs:i5}(h1:SG X c e g)(h2:qq X c es gs)(hs:(QC (e::es) X.env).map (·.2)=assign e X.env::(QC es X.env).map (·.2):=by rfl):qq X c (e::es) (aS g gs):=ic.weak (Bz h1 h2 hs) λvs Y H Q hh=>by obtain⟨Z,ds,SZ,k,r,e,q⟩:=hh;cases ds with|nil=>cases e|cons d ds=>cases vs with|nil=>have:=r.1;simp at this|cons v vs=>simp only[aS]at e;cases e1:g (.pure d) Z with|none=>rw[e1]at e;cases e|some S'=>rw[e1]at e;refine⟨v,vs,rfl,Y,Z,H,Z,.pure d,S',.refl k,r.head,e1,λKM a1=>?_⟩;exact⟨S',ds,SZ,a1.ok,aH.dG r.tail a1,e,λOn a2=>q On (a1.trans a2)⟩
def cg(n:Nat)(gs:i5):DG:=λr Z=>match r.d with|.tup ds=>if ds.length=n then gs ds Z else none|_=>none
universe H in theorem R_{k:Nat}{gs:i5}(hc:X.calm=true)(h:qq X c es gs)(hn:(QC es X.env).length=n:=by rfl)(dw:(QC es X.env).findIdx? (·.1)=none:=by rfl):SG X c (.Tuple es k pos) (cg n gs):=PG.weak (BA hc h hn dw) λv Y H Q hw=>by
 obtain⟨Y₀,Z₀,H₁,Z,r,SZ,x,rr,e,q⟩:=hw;have hb:=rr.b;unfold cg at e;generalize r.d=d at e hb;cases d<;>first|(cases e;done)|skip
 rename_i ds;simp only at e;split at e;.rename_i hl;obtain⟨a,vs,ea,ha,ra⟩:=hb.tup;exact⟨a,vs,ea,.of ha,%[ra.1|hl],Z,ds,SZ,x.ok,ra,e,λSC a1=>q SC (x.trans a1)⟩
 .cases e
def az(f:DE)(g:DG):DS:=λZ=>(f Z).bind λr S'=>match g r S' with|some SL=>.ok .next SL|none=>.stuck
theorem xV{g:DG}{D:Ends}{tg:TG}(he:∀Y H Q,tD c fe Y H Q->te Y H Q)(hg:∀v Y H Q,xT c g v Y H Q->tg v Y H Q)(h:lT c (az fe g) D Y H):sY te tg D Y H:=by obtain⟨Z,k,q⟩:=h;unfold az eK at q;rw[bx]at q;refine he _ _ _ ⟨Z,k,aT q λr S' q1 v H1 a1 r1=>hg _ _ _ _ ?_⟩;cases e:g r S' with|none=>rw[e]at q1;exact q1.elim|some SL=>rw[e]at q1;exact⟨Y,Z,H,S',r,SL,a1,r1,e,λSC a2=>q1 SC H1 a2⟩
theorem Sa{g:DG}(he:SE X c e fe)(hg:SG X c tg g)(hs:swapsWithSole [tg] e pos.line X.env=pure false:=by rfl)(hw:swappedStores [tg] e X.env=pure none:=by rfl)(h1:(QC [tg] X.env).map (·.2)=[assign tg X.env]:=by rfl):SS X c (.Assign [tg] e pos) (az fe g):=PS.weak (BC he hg hs hw h1) λD Y H h=>xV (λj j j h=>h) (λj j j j h=>h) h
theorem Sb{x:Str}(hp:Np c np)(hN:X.N.Nodup)(hi:X.N[i]?=some x)(hx:Loc X.env.scope x)(he:SE X c e fe)(hs:Ua e (some (.Name x pos')) pos.line X.env=pure false)(hf:X.fn x=true\/X.env.scope.names.lookup x=some .local):SS X c (.Assign [.Name x pos'] e pos) (az fe (ah np i)):=PS.weak (Nm hN hi hx he hs hf) λD Y H h=>xV (λj j j h=>h) (λj j j j h=>xU hp h) h
theorem Se(he:SE X c e fe)(hs:∀(x:Value),Ua e none pos.line X.env=pure false:=by intro _;rfl)(hd:True:=trivial)(h:PS X (.Expr e pos) (wq (tD c fe))):SS X c (.Expr e pos) (gU fe):=PS.weak h λD Y H⟨Z,k,q⟩=>by unfold gU eK at q;rw[bx]at q;exact⟨Z,k,aT q λr S' q1 v H1 a1 r1=>q1 Y H1 a1⟩
theorem Ok.D5{fj:List D}{a:Addr}(k:Ok c Y Z H)(e:Z[i]?=some (some (.own (.lst ds))))(ea:Y[i]?=some (some (.ref a)))(r:aH H (Av c Y Z) mU fj):aK c Y Z H Y (Z.set i (some (.own (.lst fj)))) (upd H a (.lst mU)):=by
 have hi:i<Z.length:=(W8.mp e).1;obtain⟨a',ea',oa,ia,nb⟩:=k.own i _ e;rw[ea]at ea';cases ea';obtain⟨vs,ha,_⟩:=oa;have Sf:Own Y Z a:=⟨i,_,e,ea⟩;have Sg:Av c Y Z a:=.inr Sf;have D6:∀b,Own Y (Z.set i (some (.own (.lst fj)))) b↔Own Y Z b:=λb=>by
  constructor
  .rintro⟨j,d,e1,e2⟩;by_cases hj:i=j;.subst hj;exact⟨i,_,e,e2⟩
   .rw[Wc hj]at e1;exact⟨j,d,e1,e2⟩
  .rintro⟨j,d,e1,e2⟩;by_cases hj:i=j;.subst hj;exact⟨i,_,by rw[WE hi],e2⟩
   .exact⟨j,d,%[Wc hj|e1],e2⟩
 have xW:∀b,Av c Y (Z.set i (some (.own (.lst fj)))) b->Av c Y Z b:=λb z=>z.elim .inl λz=>.inr ((D6 b).mp z);have ne:∀b,¬Av c Y Z b->b≠a:=λb n z=>n %[z|Sg];have kp:∀b o,H b=some o->¬Av c Y Z b->upd H a (.lst mU) b=some o:=λb o h n=>%[aY (ne b n)|h];have kI:∀b o,H b=some o->∃o',upd H a (.lst mU) b=some o':=λb o h=>by
  by_cases hb:b=a;.exact⟨_,%[hb|cJ]⟩
  .exact⟨o,%[aY hb|h]⟩
 refine⟨⟨λb o h n=>?_,λb z=>?_,λb z=>?_,%[U6|k.len],λj d h=>?_,λj d h=>?_,λj l b d d' h1 h2 h3 h4=>?_,k.pinned⟩,λb o h n=>?_,λb z=>.inl ((D6 b).mp z),kI⟩
 .have hb:b≠a:=λz=>by grind
  rw[aY hb];exact k.keep b o h n
 .obtain⟨o,h⟩:=k.bd b z;exact kI b o h
 .obtain⟨o,h⟩:=k.d_ b z;exact kI b o h
 .have hj:i≠j:=λz=>by subst z;rw[WE hi]at h;cases h
  rw[Wc hj]at h;obtain⟨v,h1,h2⟩:=k.slot j d h;exact⟨v,h1,(h2.keep kp).bj λb z=>.inl (xW b z)⟩
 .by_cases hj:i=j;.subst hj;rw[WE hi]at h;cases h;exact⟨a,ea,⟨mU,cJ,aH.bj (aH.keep r kp) λb z=>.inl (xW b z)⟩,ia,nb⟩
  .rw[Wc hj]at h;obtain⟨b,h1,h2,h3,h4⟩:=k.own j d h;have hb:b≠a:=λz=>by subst z;exact hj (k.inj i j b _ d e h ea h1)
   exact⟨b,h1,(h2.keep kp λo q=>%[aY hb|q]).bj λb z=>.inl (xW b z),h3,h4⟩
 .have f1:∃d,Z[j]?=some (some (.own d)):=by
   by_cases hj:i=j;.subst hj;exact⟨_,e⟩
   .rw[Wc hj]at h1;exact⟨d,h1⟩
  have f2:∃d,Z[l]?=some (some (.own d)):=by
   by_cases hj:i=l;.subst hj;exact⟨_,e⟩
   .rw[Wc hj]at h2;exact⟨d',h2⟩
  obtain⟨_,f1⟩:=f1;obtain⟨_,f2⟩:=f2;exact k.inj j l b _ _ f1 f2 h3 h4
 grind[aY]
def gC(Z:Dl)(i:Nat):Bool:=match Z[i]? with
 |some (some s)=>match s with|.own d=>(match d with|.lst _=>true|_=>false)|_=>false
 |_=>false
noncomputable def putL(Z:Dl)(i:Nat)(f:List D->Option (List D)):Rs Fl:=match Z[i]? with
 |some (some (.own (.lst ds)))=>match f ds with|some fj=>.ok .next (Z.set i (some (.own (.lst fj))))|none=>.stuck
 |_=>.stuck
theorem D7(h:gC Z i=true):∃ds,Z[i]?=some (some (.own (.lst ds))):=by unfold gC at h;cases e:Z[i]? with|none=>rw[e]at h;cases h|some o=>
 rw[e]at h;rcases o with _|_|d<;>first|(cases h;done)|skip
 cases d<;>first|exact⟨_,rfl⟩|cases h
universe H in theorem D8{g:List D->Option (List D)}{kk:Fl->Dl->Prop}(h:post c (putL Z i g) kk):∃ds fj,Z[i]?=some (some (.own (.lst ds)))/\g ds=some fj/\kk .next (Z.set i (some (.own (.lst fj)))):=by
 unfold putL at h;split at h
 .rename_i ds e;split at h;.rename_i fj e2;exact⟨ds,fj,e,e2,h⟩
  .exact h.elim
 .exact h.elim
def cO(i:Nat)(f:DE):DS:=λZ=>if gC Z i then(f Z).bind λr S'=>putL S' i λds=>if ds.length<W9 then some (ds++[r.d])else none else .stuck
universe H in theorem Sh{o:Expr}{p0:Pos}(ho:PE X o (fD i))(he:SE X c e fe)(h:PS X (.Expr (.Call (.Attribute o "append" apos) [e] [] bV) pos) (wq (Cp X.K "list" Cq (fD i) (BV (tD c fe) BS)))):SS X c (.Expr (.Call (.Attribute o "append" apos) [e] [] bV) pos) (cO i fe):=PS.weak h λD Y H⟨Z,k,q⟩=>by
  unfold cO eK at q;split at q
  .rename_i m3;obtain⟨ds0,e0⟩:=D7 m3;rw[bx]at q;obtain⟨a,ea,oa,_⟩:=k.own i _ e0;refine⟨.ref a,ea,?_,Z,k,aT q λr S' q1 v H1 a1 r1=>?_⟩;.obtain⟨vs,ha,_⟩:=oa;exact .inl ⟨rfl,vs,.of ha⟩
   .obtain⟨ds,fj,e1,e2,q2⟩:=D8 q1;split at e2;.rename_i hz;cases e2;obtain⟨a',ea',oa1,_⟩:=a1.ok.own i _ e1;rw[ea]at ea';cases ea';obtain⟨vs,ha,ra⟩:=id oa1;refine⟨a,vs,v,rfl,rfl,ha,%[ra.1|hz],?_⟩;exact q2 Y _ (a1.trans (Ok.D5 a1.ok e1 ea (ra.append (.cons r1.rep .nil))))
    .cases e2
  .exact q.elim
def eS(i:Nat)(fi:DE)(fe:DE):DS:=λZ=>if gC Z i then(fe Z).bind λr S'=>(fi S').bind λk SL=>match k with|.pure (.int j)=>putL SL i λds=>(e_ ds.length j).map λn=>ds.set n r.d|_=>.stuck else .stuck
universe H in theorem Si{o ix:Expr}{fi:DE}{sp:Pos}(ho:PE X o (fD i))(hi:SE X c ix fi)(he:SE X c e fe)(ha:∀v,assign (.Subscript o ix sp) X.env v=(do
   let ov<-holding [v] (eval o X.env)let iv<-holding [v,ov] (eval ix X.env)standAt sp
   holding [v,ov,iv] (setItem ov iv v)release [v,ov,iv] []):=by intro _;rfl)(hs:swapsWithSole [.Subscript o ix sp] e pos.line X.env=pure false:=by rfl)(hw:swappedStores [.Subscript o ix sp] e X.env=pure none:=by rfl)(h1:(QC [.Subscript o ix sp] X.env).map (·.2)=[assign (.Subscript o ix sp) X.env]:=by rfl):SS X c (.Assign [.Subscript o ix sp] e pos) (eS i fi fe):=PS.weak (BC he (Nl ho hi Ow ha) hs hw h1) λD Y H⟨Z,k,q⟩=>by
  unfold eS eK at q;split at q;.rename_i m3;obtain⟨ds0,e0⟩:=D7 m3;rw[bx]at q;obtain⟨a,ea,_,_⟩:=k.own i _ e0;refine⟨Z,k,aT q λr S' q1 v H1 a1 r1=>⟨.ref a,ea,S',a1.ok,?_⟩⟩;rw[bx]at q1;refine aT q1 λkx SL q2 u H2 a2 r2=>?_;cases kx with|own d=>exact q2.elim|pure d=>
    cases d<;>first|exact q2.elim|skip
    rename_i j;cases r2;obtain⟨ds,fj,e1,e2,q3⟩:=D8 q2;cases e3:e_ ds.length j with|none=>rw[e3]at e2;cases e2|some n=>rw[e3]at e2;cases e2;obtain⟨a',ea',oa1,_⟩:=a2.ok.own i _ e1;rw[ea]at ea';cases ea';obtain⟨vs,ha,ra⟩:=id oa1;refine⟨a,vs,j,n,rfl,rfl,ha,%[ra.1|e3],?_⟩;exact q3 Y _ (a1.trans (a2.trans (Ok.D5 a2.ok e1 ea (ra.set (Rep.dG r1.rep a2) n))))
  .exact q.elim
end
variable{gs:i5}
abbrev DI:=Dl->Rs (List D)
def oB(c:Fc)(Y:St)(Z:Dl)(H:Hp)(J:It)(ds:List D):Prop:=∀H2,(∀a o,H a=some o->¬Own Y Z a->H2 a=some o)->J.stop ds.length H2/\∀(i:Nat)d,ds[i]?=some d->J.go i H2/\∀x H3,J.pM i H2 x H3->H3=H2/\Rep H (Av c Y Z) x d\/∃p vs es,H2 p=none/\H3=upd H2 p (.tup vs)/\x=.ref p/\d=.tup es/\aH H (Av c Y Z) vs es
def tI(c:Fc)(f:DI):TI:=λY H R=>∃Z,Ok c Y Z H/\post c (f Z) λds SZ=>∀J H',aK c Y Z H Y SZ H'->oB c Y SZ H' J ds->R J H'
abbrev SI(X:Cx)(c:Fc)(tg iter:Expr)(f:DI):Prop:=PI X tg iter (tI c f)
theorem PI.weak{t'}(h:PI X tg iter t)(w:∀Y H R,t' Y H R->t Y H R):PI X tg iter t':=λpins s Y H R I q=>h pins s Y H R I (w Y H R q)
section
variable{c:Fc}
theorem Sj(K:W3)(h:H a=some (.tup vs))(n:¬Own Y Z a)(r:aH H (Av c Y Z) vs ds):oB c Y Z H (wu K a) ds:=by intro H2 kp;have h2:=kp a _ h n;refine⟨⟨vs,.of h2,%[r.1|W7 _]⟩,λi d e=>?_⟩;obtain⟨v,ev,rv⟩:=r.get e;refine⟨⟨vs,v,.of h2,ev⟩,λx H3⟨e3,y⟩=>.inl ⟨e3,?_⟩⟩;have:=y vs (.of h2);grind
def c_(lo:Int)(n:Nat):List D:=(Wx n).map λk:Nat=>D.int (lo+k)
theorem Sk{lo:Int}{d:D}(h:(c_ lo n)[i]?=some d):i<n/\d=.int (lo+i):=by
 unfold c_ at h;rw[Ws]at h;by_cases hi:i<n;.rw[List.getElem?_range hi]at h;simp at h;exact⟨hi,h.symm⟩
 .rw[Q0 (~~~hi)]at h;cases h
theorem Sl(lo:Int)(n:Nat):oB c Y Z H (tf lo n) (c_ lo n):=by intro H2 kp;refine⟨by show n<=(c_ lo n).length;simp[c_],λi d e=>?_⟩;obtain⟨hi,rfl⟩:=Sk e;exact⟨hi,λx H3⟨e3,ex⟩=>.inl ⟨e3,%[ex|.int _]⟩⟩
def oC(j:Int):Bool:=decide (-2^62<=j)&&decide (j<2^62)
def eT(f:DE):DI:=λZ=>(f Z).bind λr S'=>match r with|.pure (.int j)=>if oC j then .ok (c_ 0 j.toNat) S' else .stuck|_=>.stuck
universe H in theorem Sn(hg:Gl X "range")(hm:X.mg "range"=none)(he:SE X c e fe)(hs:Wa [e] X.env=[(false,eval e X.env)]:=by rfl):SI X c tg (.Call (.Name "range" pp) [e] [] pos) (eT fe):=PI.weak (Nz hg hm (dU he f_ hs) hs) λY H R⟨Z,k,q⟩=>by unfold eT at q;rw[bx]at q;refine⟨Z,k,aT q λr S' q1 v H1 a1 r1=>?_⟩;cases r with|own d=>exact q1.elim|pure d=>
 cases d<;>first|exact q1.elim|skip
 rename_i j;cases r1;simp only at q1;split at q1;.rename_i hj;unfold oC at hj;simp only[Wr,decide_eq_true_eq]at hj;exact⟨j,rfl,hj.1,hj.2,q1 _ H1 a1 (Sl 0 j.toNat)⟩
 .exact q1.elim
noncomputable def forL(g:DG)(b:DS):List D->DS|[],Z=>.ok .next Z|d::r,Z=>match g (.pure d) Z with|none=>.stuck|some S'=>(b S').bind λfl SL=>match fl with|.next=>forL g b r SL|.cont=>forL g b r SL|.brk=>.ok .next SL|.ret v=>.ok (.ret v) SL
def bM(it:DI)(g:DG)(b:DS):DS:=λZ=>(it Z).bind λds S'=>forL g b ds S'
theorem D9(io:oB c Y Z H J ds)(a:aK c Y Z H On SL H2)(e:ds[i]?=some d)(y:J.pM i H2 x H3):aK c On SL H2 On SL H3/\Rep H3 (Av c On SL) x d:=by
 obtain⟨_,t⟩:=io H2 a.keep;rcases(t i d e).2 x H3 y with⟨e3,r⟩|⟨p,vs,es,hp,e3,ex,ed,r⟩;.subst e3;exact⟨.refl a.ok,Rep.dG r a⟩
 .subst e3 ex ed;have:=aN.om a.ok (aH.dG r a) hp;exact⟨.alloc a.ok hp _,this⟩
theorem D_{iter:Expr}{it:DI}{g:DG}{b:DS}(hp:PassesOwn 5#0 X.A X.env X.xe)(hc:X.calm=true)(hi:SI X c tg iter it)(hg:SG X c tg g)(hb:fH X c body b)(hs:∀x,Jo iter X.env x=pure x:=by intro _;rfl):SS X c (.For tg iter body [] pos) (bM it g b):=PS.weak (NC hp hc hi hg hb hs) λD Y H⟨Z,k,q⟩=>by
 unfold bM eK at q;rw[bx]at q;refine⟨Z,k,aT q λds S' q1 J H1 a1 io=>?_⟩;refine⟨λi m On H2=>∃SL,m=ds.length-i/\i<=ds.length/\aK c Y S' H1 On SL H2/\eK c D On SL H2 (forL g b (ds.drop i) SL),⟨ds.length,S',V',Q6 _,.refl a1.ok,?_⟩,?_⟩;.rw[List.drop_zero];exact aT q1 λfl SL q2 On H2 a2=>q2 On H2 (a1.trans a2)
 .rintro i m On H2⟨SL,rfl,xX,a2,p2⟩;by_cases bh:i<ds.length;.right;have e:ds[i]?=some ds[i]:=#v[bh];rw[Qx bh]at p2;refine⟨((io H2 a2.keep).2 i _ e).1,λN' H4=>∃Os,aK c Y S' H1 N' Os H4/\eK c D N' Os H4 (forL g b (ds.drop (i+1)) Os),λN' H4⟨Os,a4,p4⟩=>⟨ds.length-(i+1),Y',Os,rfl,bh,a4,p4⟩,λx H3 y=>?_⟩;obtain⟨a3,r3⟩:=D9 io a2 e y;simp only[forL,eK]at p2;cases eg:g (.pure ds[i]) SL with|none=>rw[eg]at p2;exact p2.elim|some Pv=>rw[eg]at p2;refine⟨On,SL,H3,SL,.pure ds[i],Pv,.refl a3.ok,r3,eg,λKB a3'=>?_⟩;have p3:post c ((b Pv).bind λfl SL=>match fl with|.next=>forL g b (ds.drop (i+1)) SL|.cont=>forL g b (ds.drop (i+1)) SL|.brk=>.ok .next SL|.ret v=>.ok (.ret v) SL) λfl SZ=>∀SC H',aK c On SL H2 SC SZ H'->fin c D SC SZ H' fl:=p2;rw[bx]at p3;have So:aK c On SL H2 KB Pv H3:=a3.trans a3';refine⟨Pv,a3'.ok,aT p3 λfl Os p4 N' H4 a4=>?_⟩;have iw:=So.trans a4;cases fl with|next=>exact⟨Os,a2.trans iw,aT p4 λfl KE p5 GE H5 a5=>p5 GE H5 (iw.trans a5)⟩|cont=>exact⟨Os,a2.trans iw,aT p4 λfl KE p5 GE H5 a5=>p5 GE H5 (iw.trans a5)⟩|brk=>exact p4 N' H4 iw|ret r=>exact p4 N' H4 iw
  .left;have xY:i=ds.length:=by lia
   subst xY;rw[List.drop_length]at p2;exact⟨(io H2 a2.keep).1,p2 On H2 (.refl a2.ok)⟩
def gi(t:DT)(b:DS):Nat->DS|0,_=>.stuck|n+1,Z=>(t Z).bind λx S'=>if x then(b S').bind λfl SL=>match fl with|.next=>gi t b n SL|.cont=>gi t b n SL|.brk=>.ok .next SL|.ret v=>.ok (.ret v) SL else .ok .next S'
theorem Sq{t:DT}{b:DS}(n:Nat)(hw:∀{tt:TT}{tb:TS},PT X e tt->dJ X body tb->PS X (.While e body [] pos) (BF tt tb))(ht:ST X c e t)(hb:fH X c body b):SS X c (.While e body [] pos) (gi t b n):=PS.weak (hw ht hb) λD Y H⟨Z,k,q⟩=>by refine⟨λm On H2=>∃SL,Ok c On SL H2/\eK c D On SL H2 (gi t b m SL),⟨n,Z,k,q⟩,?_⟩;rintro m On H2⟨SL,k2,q2⟩;cases m with|zero=>exact q2.elim|succ m=>simp only[gi,eK]at q2;rw[bx]at q2;refine⟨SL,k2,aT q2 λx Pv q3 H3 a3=>?_⟩;cases x with|false=>exact q3 On H3 a3|true=>have p3:post c ((b Pv).bind λfl SL=>match fl with|.next=>gi t b m SL|.cont=>gi t b m SL|.brk=>.ok .next SL|.ret v=>.ok (.ret v) SL) λfl SZ=>∀SC H',aK c On SL H2 SC SZ H'->fin c D SC SZ H' fl:=q3;rw[bx]at p3;refine⟨λN' H4=>∃Os,Ok c N' Os H4/\eK c D N' Os H4 (gi t b m Os),λN' H4 w=>⟨m,Nat.lt_succ_self _,w⟩,Pv,a3.ok,aT p3 λfl Os p4 N' H4 a4=>?_⟩;have iw:=a3.trans a4;cases fl with|next=>exact⟨Os,a4.ok,aT p4 λfl KE p5 GE H5 a5=>p5 GE H5 (iw.trans a5)⟩|cont=>exact⟨Os,a4.ok,aT p4 λfl KE p5 GE H5 a5=>p5 GE H5 (iw.trans a5)⟩|brk=>exact p4 N' H4 iw|ret r=>exact p4 N' H4 iw
end
def bt(cs:List Nat)(Z:Dl):Dl:=cs.foldl (λZ i=>Z.set i none) Z
def dj(cs:List Nat)(Z₁ Z:Dl):Dl:=cs.foldl (λZ i=>match Z₁[i]? with|some o=>Z.set i o|none=>Z) Z
def dk(Z:Dl)(i:Nat):Bool:=match Z[i]? with|some (some (.own _))=>true|_=>false
theorem Ea(cs:List Nat):∀Z:Dl,(bt cs Z).length=Z.length:=by induction cs with|nil=>intro Z;rfl|cons i r ih=>intro Z;show(bt r (Z.set i none)).length=_;rw[ih];simp
theorem i6:∀(cs:List Nat)(Z:Dl)(i:Nat)(v:S),(bt cs Z)[i]?=some (some v)->Z[i]?=some (some v)/\i∉cs:=by intro cs;induction cs with|nil=>intro Z i v h;exact⟨h,V'⟩|cons j r ih=>
 intro Z i v h;have h':(bt r (Z.set j none))[i]?=some (some v):=h;obtain⟨h1,h2⟩:=ih _ i v h';by_cases e:j=i;.subst e;rw[Qj]at h1;simp at h1
 .rw[Wc e]at h1;exact⟨h1,by simp only[Wq,not_or];exact⟨Ne.symm e,h2⟩⟩
theorem kJ:∀(cs:List Nat)(Y:St)(i:Nat),i∉cs->(bC cs Y)[i]?=Y[i]?:=by intro cs;induction cs with|nil=>intro Y i _;rfl|cons j r ih=>intro Y i h;simp only[Wq,not_or]at h;show(bC r (Y.set j none))[i]?=_;rw[ih _ _ h.2,Wc (Ne.symm h.1)]
theorem Sr:∀(cs:List Nat)(Z:Dl)(i:Nat),i∉cs->(bt cs Z)[i]?=Z[i]?:=by intro cs;induction cs with|nil=>intro Y i _;rfl|cons j r ih=>intro Y i h;simp only[Wq,not_or]at h;show(bt r (Y.set j none))[i]?=_;rw[ih _ _ h.2,Wc (Ne.symm h.1)]
theorem Ss(cs:List Nat)(Z₁:Dl):∀Z:Dl,(dj cs Z₁ Z).length=Z.length:=by induction cs with|nil=>intro Z;rfl|cons i r ih=>intro Z;unfold dj;rw[JK];have:=ih (match Z₁[i]? with|some o=>Z.set i o|none=>Z);unfold dj at this;rw[this];cases Z₁[i]?<;>simp
theorem uv:∀(cs:List Nat)(Z₁ Z:Dl)(i:Nat),i∉cs->(dj cs Z₁ Z)[i]?=Z[i]?:=by intro cs Z₁;induction cs with|nil=>intro Z i _;rfl|cons j r ih=>intro Z i h;simp only[Wq,not_or]at h;unfold dj;rw[JK];have:=ih (match Z₁[j]? with|some o=>Z.set j o|none=>Z) i h.2;unfold dj at this;rw[this];cases Z₁[j]? with|none=>rfl|some o=>simp only;rw[Wc (Ne.symm h.1)]
theorem xZ:∀(cs:List Nat)(Z₁ Z:Dl)(i:Nat),Z₁.length=Z.length->i∈cs->(dj cs Z₁ Z)[i]?=Z₁[i]?:=by intro cs Z₁;induction cs with|nil=>intro Z i _ h;simp at h|cons j r ih=>
  intro Z i hl h;unfold dj;rw[JK];have mX:Z₁.length=(match Z₁[j]? with|some o=>Z.set j o|none=>Z).length:=by cases Z₁[j]?<;>simp[hl]
  by_cases hr:i∈r;.have:=ih (match Z₁[j]? with|some o=>Z.set j o|none=>Z) i mX hr;unfold dj at this;exact this
  .have e:i=j:=by grind
   subst e;have:=uv r Z₁ (match Z₁[i]? with|some o=>Z.set i o|none=>Z) i hr;unfold dj at this;rw[this];cases e:Z₁[i]? with|none=>simp only;have:=List.getElem?_eq_none_iff.mp e;exact Q0 Y'|some o=>simp only;have:=(W8.mp e).1;rw[WE Y']
section
variable{c:Fc}{l:Addr}
theorem Ok.less(k:Ok (c.plus l) Y Z H):Ok c Y Z H:=by
 have sub:∀b,Av c Y Z b->Av (c.plus l) Y Z b:=λb z=>z.elim (λz=>.inl (.inl z)) .inr;refine⟨k.keep,λa z=>k.bd a (.inl z),k.d_,k.len,λi d e=>?_,λi d e=>?_,k.inj,k.pinned⟩;.obtain⟨v,h1,h2⟩:=k.slot i d e;exact⟨v,h1,h2.bj λb z=>.inl (sub b z)⟩
 .obtain⟨a,h1,h2,h3,h4⟩:=k.own i d e;exact⟨a,h1,h2.bj λb z=>.inl (sub b z),h3,λz=>h4 (.inl z)⟩
theorem Ok.Su(k:Ok c Y Z H)(hb:c.B l)(h0:c.H₀ l=none)(o:HO):Ok c Y Z (upd H l o):=by
 have kp:∀b w,H b=some w->¬Av c Y Z b->upd H l o b=some w:=λb w e n=>by rw[aY λz=>n %[z|.inl hb]];exact e
 have kI:∀b w,H b=some w->∃w',upd H l o b=some w':=λb w h=>by
  by_cases hb:b=l;.exact⟨_,%[hb|cJ]⟩
  .exact⟨w,%[aY hb|h]⟩
 refine⟨λa w e n=>?_,λa z=>?_,λa z=>?_,k.len,λi d e=>?_,λi d e=>?_,k.inj,k.pinned⟩
 .have:a≠l:=λz=>by grind
  rw[aY this];exact k.keep a w e n
 .obtain⟨w,e⟩:=k.bd a z;exact kI a w e
 .obtain⟨w,e⟩:=k.d_ a z;exact kI a w e
 .obtain⟨v,h1,h2⟩:=k.slot i d e;exact⟨v,h1,h2.keep kp⟩
 .obtain⟨a,h1,h2,h3,h4⟩:=k.own i d e;have:a≠l:=λz=>h4 %[z|hb];exact⟨a,h1,h2.keep kp λw q=>%[aY this|q],h3,h4⟩
theorem Own.bC(h:Own (bC cs Y) (bt cs Z) l):Own Y Z l:=by obtain⟨i,d,e1,e2⟩:=h;exact⟨i,d,(i6 cs Z i _ e1).1,(lI cs Y i _ e2).1⟩
theorem Ok.bC(k:Ok c Y Z H)(hp:∀p∈c.pin,p.1∉cs):Ok c (Lake.bC cs Y) (bt cs Z) H:=by
 have sub:∀b,Av c (Lake.bC cs Y) (bt cs Z) b->Av c Y Z b:=λb z=>z.elim .inl λz=>.inr z.bC;refine⟨k.keep,k.bd,k.d_,%[Ea,tM|k.len],λi d e=>?_,λi d e=>?_,λi j a d d' e1 e2 e3 e4=>?_,λp hm=>?_⟩;.obtain⟨e',hi⟩:=i6 cs Z i _ e;obtain⟨v,h1,h2⟩:=k.slot i d e';exact⟨v,%[kJ cs Y i hi|h1],h2.bj λb z=>.inl (sub b z)⟩
 .obtain⟨e',hi⟩:=i6 cs Z i _ e;obtain⟨a,h1,h2,h3⟩:=k.own i d e';exact⟨a,%[kJ cs Y i hi|h1],h2.bj λb z=>.inl (sub b z),h3⟩
 .exact k.inj i j a d d' (i6 cs Z i _ e1).1 (i6 cs Z j _ e2).1 (lI cs Y i _ e3).1 (lI cs Y j _ e4).1
 .rw[kJ cs Y _ (hp p hm)];exact k.pinned p hm
theorem aK.back(k:Ok c₀ Y Z H)(Sv:c.pin=c₀.pin)(hB:∀b,c.B b->c₀.B b\/H b=none)(gx:cs.any (dk Z)=false)(x:aK c (Lake.bC cs Y) (bt cs Z) H (Lake.bC cs Y) SZ H'):aK c Y Z H Y (dj cs Z SZ) H':=by
 have len:Z.length=SZ.length:=by have:=x.ok.len;rw[tM]at this;rw[this];exact k.len
 have pG:∀i d,i∈cs->Z[i]?≠some (some (.own d)):=λi d hi e=>by have:=List.any_eq_false.mp gx i hi;unfold dk at this;rw[e]at this;simp at this
 have ownOut:∀i d,(dj cs Z SZ)[i]?=some (some (.own d))->i∉cs/\SZ[i]?=some (some (.own d)):=λi d e=>by
  by_cases hi:i∈cs;.rw[xZ cs Z SZ i len hi]at e;exact absurd e (pG i d hi)
  .rw[uv cs Z SZ i hi]at e;exact⟨hi,e⟩
 have sub:∀b,Own Y (dj cs Z SZ) b->Own (Lake.bC cs Y) SZ b:=λb⟨i,d,e1,e2⟩=>by obtain⟨hi,e⟩:=ownOut i d e1;exact⟨i,d,e,%[kJ cs Y i hi|e2]⟩
 have m4:∀b,Av c Y (dj cs Z SZ) b->Av c (Lake.bC cs Y) SZ b:=λb z=>z.elim .inl λz=>.inr (sub b z);have ownEq:∀b,Own Y Z b->Own (Lake.bC cs Y) (bt cs Z) b:=λb⟨i,d,e1,e2⟩=>by have hi:i∉cs:=λz=>pG i d z e1;exact⟨i,d,%[Sr cs Z i hi|e1],%[kJ cs Y i hi|e2]⟩
 refine⟨⟨x.ok.keep,x.ok.bd,x.ok.d_,by rw[Ss,<-len];exact k.len,λi d e=>?_,λi d e=>?_,λi j a d d' e1 e2 e3 e4=>?_,%[Sv|k.pinned]⟩,λa o e n=>?_,λa z=>?_,x.there⟩
 .by_cases hi:i∈cs
  .rw[xZ cs Z SZ i len hi]at e;obtain⟨v,h1,h2⟩:=k.slot i d e;have h3:Rep H (Av c (Lake.bC cs Y) (bt cs Z)) v d:=h2.bj λb z=>by
    rcases z with z|z;.exact(hB b z).elim (λz=>.inl (.inl z)) .inr
    .exact .inl (.inr z.bC)
   exact⟨v,h1,(Rep.dG h3 x).bj λb z=>.inl (m4 b z)⟩
  .rw[uv cs Z SZ i hi]at e;obtain⟨v,h1,h2⟩:=x.ok.slot i d e;exact⟨v,(lI cs Y i v h1).1,h2.bj λb z=>.inl (m4 b z)⟩
 .obtain⟨hi,e'⟩:=ownOut i d e;obtain⟨a,h1,h2,h3⟩:=x.ok.own i d e';exact⟨a,(lI cs Y i _ h1).1,h2.bj λb z=>.inl (m4 b z),h3⟩
 .obtain⟨hi,f1⟩:=ownOut i d e1;obtain⟨hj,f2⟩:=ownOut j d' e2;exact x.ok.inj i j a d d' f1 f2 %[kJ cs Y i hi|e3] %[kJ cs Y j hj|e4]
 .exact x.keep a o e λz=>n z.bC
 .rcases x.own a (sub a z)with q|q;.exact .inl q.bC
  .exact .inr q
end
noncomputable def dP(cs:List Nat)(g:DG)(t:DT)(el:DE):List D->Dl->List D->Rs (List D)|[],Z,acc=>.ok acc Z|d::r,Z,acc=>match g (.pure d) Z with|none=>.stuck|some S'=>(t S').bind λb SL=>if b then(el SL).bind λx Pv=>if acc.length<W9 then dP cs g t el r (bt cs Pv) (acc++[x.d])else .stuck else dP cs g t el r (bt cs SL) acc
def bI(cs:List Nat)(it:DI)(g:DG)(t:DT)(el:DE):DE:=λZ=>(it Z).bind λds S'=>if cs.any (dk S')then .stuck else(dP cs g t el ds (bt cs S') []).bind λacc SL=>.ok (.own (.lst acc)) (dj cs S' SL)
def cA:DT:=λZ=>.ok true Z
abbrev qr(X:Cx)(c:Fc)(ifs:List Expr)(t:DT):Prop:=oh X ifs (tT c t)
theorem Sw{c:Fc}:qr X c [] cA:=λpins s Y H Q I⟨Z,k,q⟩=>Pk pins s Y H Q I (q H (.refl k))
theorem Sx{c:Fc}{t:DT}(h:ST X c e t):qr X c [e] t:=Pl h
section
variable{c:Fc}{iter:Expr}{it:DI}{g:DG}{t:DT}
theorem aK.clear(x:aK c (Lake.bC cs Y) Z H N' Os H4)(le:Le (Lake.bC cs Y) N')(hp:∀p∈c.pin,p.1∉cs)(hs:∀(i:Nat)v,N'[i]?=some (some v)->i∉cs->Y[i]?=some (some v)):aK c (Lake.bC cs Y) Z H (Lake.bC cs Y) (bt cs Os) H4:=by
 have eq:∀i,i∉cs->∀v,N'[i]?=some (some v)->(Lake.bC cs Y)[i]?=some (some v):=λi hi v e=>%[kJ cs Y i hi|hs i v e hi];have own:∀b,Own (Lake.bC cs Y) (bt cs Os) b->Own N' Os b:=λb⟨i,d,e1,e2⟩=>by exact⟨i,d,(i6 cs Os i _ e1).1,le.2 i _ e2⟩
 have sub:∀b,Av c (Lake.bC cs Y) (bt cs Os) b->Av c N' Os b:=λb z=>z.elim .inl λz=>.inr (own b z);have k:=x.ok;refine⟨⟨k.keep,k.bd,k.d_,%[Ea,k.len|le.1],λi d e=>?_,λi d e=>?_,λi j a d d' e1 e2 e3 e4=>?_,λp hm=>?_⟩,x.keep,λa z=>x.own a (own a z),x.there⟩;.obtain⟨e',hi⟩:=i6 cs Os i _ e;obtain⟨v,h1,h2⟩:=k.slot i d e';exact⟨v,eq i hi v h1,h2.bj λb z=>.inl (sub b z)⟩
 .obtain⟨e',hi⟩:=i6 cs Os i _ e;obtain⟨a,h1,h2,h3⟩:=k.own i d e';exact⟨a,eq i hi _ h1,h2.bj λb z=>.inl (sub b z),h3⟩
 .exact k.inj i j a d d' (i6 cs Os i _ e1).1 (i6 cs Os j _ e2).1 (le.2 i _ e3) (le.2 j _ e4)
 .exact eq p.1 (hp p hm) _ (k.pinned p hm)
def Out(cs:List Nat)(Y SC:St):Prop:=SC.length=Y.length/\∀i,i∉cs->SC[i]?=Y[i]?
theorem Out.trans(a:Out cs Y SC)(b:Out cs SC Y''):Out cs Y Y'':=⟨b.1.trans a.1,λi h=>(b.2 i h).trans (a.2 i h)⟩
def uw(cs:List Nat)(c:Fc)(g:DG):TG:=λv Y H Q=>∃Y₀ Z₀ H₁ Z r SZ,aK c Y₀ Z₀ H₁ Y Z H/\aN c Y Z H₁ H v r/\g r Z=some SZ/\∀SC,aK c Y₀ Z₀ H₁ SC SZ H->Out cs Y SC->Q SC H
abbrev oD(X:Cx)(c:Fc)(cs:List Nat)(tg:Expr)(g:DG):Prop:=PG X tg (uw cs c g)
universe H in theorem Sy{x:Str}(hp:Np c np)(hN:X.N.Nodup)(hi:X.N[i]?=some x)(hx:Loc X.env.scope x)(hf:X.fn x=true\/X.env.scope.names.lookup x=some .local)(hc:i∈cs):oD X c cs (.Name x pos) (ah np i):=PG.weak (Bx hN hi hx hf) λv Y H Q hh=>by
 obtain⟨Y₀,Z₀,H₁,Z,r,SZ,x,rr,e,q⟩:=hh
 unfold ah at e;split at e;.cases e
 .rename_i hn;cases e;refine q _ (Ok.set x rr λp hm e=>hn (by rw[<-e];exact hp p hm)) ⟨V',λj hj=>?_⟩;rw[Wc λz=>hj (by rw[<-z];exact hc)]
def Sz(cs:List Nat)(c:Fc)(g:i5):lu:=λvs Y H Q=>∃Z ds SZ,Ok c Y Z H/\aH H (Av c Y Z) vs ds/\g ds Z=some SZ/\∀SC,aK c Y Z H SC SZ H->Out cs Y SC->Q SC H
abbrev qt(X:Cx)(c:Fc)(cs:List Nat)(tg:List Expr)(g:i5):Prop:=ic X tg (Sz cs c g)
theorem SD:qt X c cs [] cx:=ic.weak By λvs Y H Q hh=>by
 obtain⟨Z,ds,SZ,k,r,e,q⟩:=hh
 cases ds with|nil=>
 cases e;have:vs=[]:=by have:=r.1;simpa using this
 exact⟨this,q Y (.refl k) ⟨rfl,λj j=>rfl⟩⟩|cons d r=>cases e
theorem SF{g:DG}(h1:oD X c cs e g)(h2:qt X c cs es gs)(hs:(QC (e::es) X.env).map (·.2)=assign e X.env::(QC es X.env).map (·.2):=by rfl):qt X c cs (e::es) (aS g gs):=ic.weak (Bz h1 h2 hs) λvs Y H Q hh=>by obtain⟨Z,ds,SZ,k,r,e,q⟩:=hh;cases ds with|nil=>cases e|cons d ds=>cases vs with|nil=>have:=r.1;simp at this|cons v vs=>simp only[aS]at e;cases e1:g (.pure d) Z with|none=>rw[e1]at e;cases e|some S'=>rw[e1]at e;refine⟨v,vs,rfl,Y,Z,H,Z,.pure d,S',.refl k,r.head,e1,λKM a1 o1=>?_⟩;exact⟨S',ds,SZ,a1.ok,aH.dG r.tail a1,e,λOn a2 o2=>q On (a1.trans a2) (o1.trans o2)⟩
universe H in theorem SH{k:Nat}(hc:X.calm=true)(h:qt X c cs es gs)(hn:(QC es X.env).length=n:=by rfl)(dw:(QC es X.env).findIdx? (·.1)=none:=by rfl):oD X c cs (.Tuple es k pos) (cg n gs):=PG.weak (BA hc h hn dw) λv Y H Q hw=>by
 obtain⟨Y₀,Z₀,H₁,Z,r,SZ,x,rr,e,q⟩:=hw;have hb:=rr.b;unfold cg at e;generalize r.d=d at e hb;cases d<;>first|(cases e;done)|skip
 rename_i ds;simp only at e;split at e;.rename_i hl;obtain⟨a,vs,ea,ha,ra⟩:=hb.tup;exact⟨a,vs,ea,.of ha,%[ra.1|hl],Z,ds,SZ,x.ok,ra,e,λSC a1 o1=>q SC (x.trans a1) o1⟩
 .cases e
theorem aK.less(x:aK (c.plus l) Y Z H SC SZ H'):aK c Y Z H SC SZ H':=⟨x.ok.less,x.keep,x.own,x.there⟩
universe H in theorem Eb(SJ:∀Y H R,tI c it Y H R->wi Y H R)(hg:∀l v Y H Q,uw cs (c.plus l) g v Y H Q->gt v Y H Q)(ht:∀l Y H Q,tT (c.plus l) t Y H Q->tt Y H Q)(he:∀l Y H Q,tD (c.plus l) el Y H Q->te Y H Q)(hp:∀p∈c.pin,p.1∉cs)(h:tD c (bI cs it g t el) Y H Q):xx cs wi gt tt te Y H Q:=by
 obtain⟨Z,k,q⟩:=h;unfold bI at q;rw[bx]at q;refine SJ _ _ _ ⟨Z,k,aT q λds S' q1 J H1 a1 io=>?_⟩;intro l hl;split at q1;.exact q1.elim
 .rename_i gx;have Ec:cs.any (dk S')=false:=by grind
  rw[bx]at q1;have k1:=a1.ok;have kp:=k1.plus hl (.lst []);have k0:Ok (c.plus l) (Lake.bC cs Y) (bt cs S') (upd H1 l (.lst [])):=kp.bC hp;have up:∀a w,H1 a=some w->upd H1 l (.lst []) a=some w:=λa w e=>by rw[aY (dZ e hl)];exact e
  have h0:c.H₀ l=none:=k1.kG hl;have x5:oB (c.plus l) (Lake.bC cs Y) (bt cs S') H1 J ds:=by
   intro H2 kp2;obtain⟨s1,s2⟩:=io H2 λa o e n=>kp2 a o e λz=>n z.bC;have cv:∀{x:V}{d:D},Rep H1 (Av c Y S') x d->Rep H1 (Av (c.plus l) (Lake.bC cs Y) (bt cs S')) x d:=λ{x d}r=>r.bj λb z=>by
     rcases z with(z|z)|z;.exact .inl (.inl z)
     .exact .inr %[z|hl]
     .exact .inl (.inr z.bC)
   refine⟨s1,λi d e=>⟨(s2 i d e).1,λx H3 y=>?_⟩⟩;rcases(s2 i d e).2 x H3 y with⟨e3,r⟩|⟨p,vs,es,hp,e3,ex,ed,r⟩;.exact .inl ⟨e3,cv r⟩
   .exact .inr ⟨p,vs,es,hp,e3,ex,ed,r.1,λi v d e1 e2=>cv (r.2 i v d e1 e2)⟩
  let Fin:List D->Dl->Prop:=λacc SZ=>∀H' vs,aK (c.plus l) (Lake.bC cs Y) (bt cs S') H1 (Lake.bC cs Y) SZ H'->H' l=some (.lst vs)->aH H' (Av (c.plus l) (Lake.bC cs Y) SZ) vs acc->Q (.ref l) H';have q2:post c (dP cs g t el ds (bt cs S') []) Fin:=aT q1 λacc SL q2 H' vs x hv r=>by
   have b1:aK (c.plus l) Y S' H1 Y (dj cs S' SL) H':=aK.back k1 rfl (λb z=>z.elim .inl λz=>.inr %[z|hl]) Ec x;have b2:aK c Y S' H1 Y (dj cs S' SL) H':=b1.less;have len:S'.length=SL.length:=by have:=x.ok.len;rw[tM]at this;rw[this];exact k1.len
   have SK:H l=none:=by cases e:H l with|none=>rfl|some o=>obtain⟨o',e'⟩:=a1.there l o e;grind
   refine q2 _ H' (a1.trans b2) ⟨l,rfl,⟨vs,hv,aH.bj r λb z=>.inl ?_⟩,λz=>k1.ju hl (.inl z),h0,b1.ok,SK⟩;rcases z with z|⟨i,d,e1,e2⟩;.exact .inl z
   .have hi:i∉cs:=λhi=>by rw[xZ cs S' SL i len hi]at e1;have:=List.any_eq_false.mp Ec i hi;unfold dk at this;rw[e1]at this;simp at this
    rw[uv cs S' SL i hi]at e1;exact .inr ⟨i,d,e1,%[kJ cs Y i hi|e2]⟩
  refine⟨λi m H2=>∃SL acc vs,m=ds.length-i/\i<=ds.length/\aK (c.plus l) (Lake.bC cs Y) (bt cs S') H1 (Lake.bC cs Y) SL H2/\H2 l=some (.lst vs)/\aH H2 (Av (c.plus l) (Lake.bC cs Y) SL) vs acc/\post c (dP cs g t el (ds.drop i) SL acc) Fin,⟨ds.length,bt cs S',[],[],V',Q6 _,⟨k0,λa w e _=>up a w e,λa z=>.inl z,λa w e=>⟨w,up a w e⟩⟩,cJ,.nil,%[List.drop_zero|q2]⟩,?_⟩;rintro i m H2⟨SL,acc,vs,rfl,xX,a2,hv,rv,p2⟩;by_cases bh:i<ds.length;.right;have e:ds[i]?=some ds[i]:=#v[bh];rw[Qx bh]at p2;refine⟨((x5 H2 a2.keep).2 i _ e).1,λx H3 y=>hg l _ _ _ _ ?_⟩;obtain⟨a3,r3⟩:=D9 x5 a2 e y;simp only[dP]at p2;cases eg:g (.pure ds[i]) SL with|none=>rw[eg]at p2;exact p2.elim|some Pv=>
    rw[eg]at p2;have p3:post c ((t Pv).bind λb SL=>if b then(el SL).bind λx Pv=>if acc.length<W9 then dP cs g t el (ds.drop (i+1)) (bt cs Pv) (acc++[x.d])else .stuck else dP cs g t el (ds.drop (i+1)) (bt cs SL) acc) Fin:=p2;refine⟨Lake.bC cs Y,SL,H3,SL,.pure ds[i],Pv,.refl a3.ok,r3,eg,λN' a4 o4=>?_⟩;have le:Le (Lake.bC cs Y) N':=⟨o4.1,λj v ej=>by rw[o4.2 j (lI cs Y j v ej).2];exact ej⟩;have hs:∀(j:Nat)v,N'[j]?=some (some v)->j∉cs->Y[j]?=some (some v):=λj v ej hj=>by rw[o4.2 j hj]at ej;exact(lI cs Y j v ej).1
    refine⟨le,ht l _ _ _ ⟨Pv,a4.ok,?_⟩⟩;rw[bx]at p3;have Ed:∀p∈(c.plus l).pin,p.1∉cs:=hp;have iw:=a2.trans (a3.trans a4);have ln:∀{SC:St}{SZ:Dl}{H':Hp},Ok (c.plus l) SC SZ H'->¬Own SC SZ l:=λ{SC SZ H'}k=>tR k;have SN:post (c.plus l) (t Pv) λb KE=>post c (if b then(el KE).bind λx Pv=>if acc.length<W9 then dP cs g t el (ds.drop (i+1)) (bt cs Pv) (acc++[x.d])else .stuck else dP cs g t el (ds.drop (i+1)) (bt cs KE) acc) Fin:=p3;refine aT SN λb KE p5 H5 a5=>?_;have Ee:=iw.trans a5;have SQ:H3 l=some (.lst vs):=a3.keep l _ hv (ln a2.ok);have Ef:H5 l=some (.lst vs):=a5.keep l _ SQ (ln a4.ok);have Eg:=aH.dG (aH.dG (aH.dG rv a3) a4) a5;cases b with|false=>have c5:=Ee.clear le Ed hs;refine⟨ds.length-(i+1),Y',bt cs KE,acc,vs,rfl,bh,c5,Ef,aH.bj Eg λb z=>.inl ?_,p5⟩;exact z.elim .inl λ⟨j,d,e1,e2⟩=>.inr ⟨j,d,(i6 cs KE j _ e1).1,le.2 j _ e2⟩|true=>
     have Eh:post c ((el KE).bind λx Pv=>if acc.length<W9 then dP cs g t el (ds.drop (i+1)) (bt cs Pv) (acc++[x.d])else .stuck) Fin:=p5;rw[bx]at Eh;refine he l _ _ _ ⟨KE,a5.ok,?_⟩;have p6:post (c.plus l) (el KE) λx G'=>post c (if acc.length<W9 then dP cs g t el (ds.drop (i+1)) (bt cs G') (acc++[x.d])else .stuck) Fin:=Eh;refine aT p6 λx G' p7 v H6 a6 r6=>?_;split at p7
     .rename_i hz;have SR:=Ee.trans a6;have SU:H6 l=some (.lst vs):=a6.keep l _ Ef (ln a5.ok);have Ei:=aH.dG Eg a6;have rr:aH H6 (Av (c.plus l) N' G') (vs++[v]) (acc++[x.d]):=Ei.append (.cons r6.rep .nil);have c6:=SR.clear le Ed hs;have SV:∀b o,H6 b=some o->¬Av (c.plus l) N' G' b->upd H6 l (.lst (vs++[v])) b=some o:=λb o e n=>by rw[aY λz=>n %[z|.inl (.inr rfl)]];exact e
      have SY:∀b,Av (c.plus l) (Lake.bC cs Y) (bt cs G') b->Av (c.plus l) N' G' b:=λb z=>z.elim .inl λ⟨j,d,e1,e2⟩=>.inr ⟨j,d,(i6 cs G' j _ e1).1,le.2 j _ e2⟩;refine⟨vs,ds.length-(i+1),SU,%[Ei.1|hz],Y',bt cs G',acc++[x.d],vs++[v],rfl,bh,?_,cJ,aH.bj (aH.keep rr SV) λb z=>.inl (SY b z),p7⟩;refine⟨c6.ok.Su (.inr rfl) h0 _,λa o ea n=>?_,λa z=>c6.own a z,λa o ea=>?_⟩
      .have j6:a≠l:=λz=>by grind
       rw[aY j6];exact c6.keep a o ea n
      .by_cases j6:a=l;.grind
       .obtain⟨o',e'⟩:=c6.there a o ea;exact⟨o',%[aY j6|e']⟩
     .exact p7.elim
  .left;have xY:i=ds.length:=by lia
   subst xY;rw[List.drop_length]at p2;exact⟨(x5 H2 a2.keep).1,p2 H2 vs a2 hv rv⟩
theorem S0(hc:X.calm=true)(S:mR X scope cs)(hi:SI X c tg iter it)(hg:∀l s₀ H₀ ex,oD (fg X scope s₀ H₀ ex) (c.plus l) cs tg g)(ht:∀l s₀ H₀ ex,qr (fg X scope s₀ H₀ ex) (c.plus l) ifs t)(he:∀l s₀ H₀ ex,SE (fg X scope s₀ H₀ ex) (c.plus l) elt el)(hp:∀p∈c.pin,p.1∉cs)(hs:∀x,Jo iter X.env x=pure x:=by intro _;rfl):SE X c (.ListComp elt [⟨tg,iter,ifs,0⟩] scope pos) (bI cs it g t el):=PE.weak (Pu (g:=λv Y H Q=>∃l,uw cs (c.plus l) g v Y H Q) (tt:=λY H Q=>∃l,tT (c.plus l) t Y H Q) (te:=λY H Q=>∃l,tD (c.plus l) el Y H Q) hc S hi (λs₀ H₀ ex pins s Y H v u Q I r⟨l,q⟩=>hg l s₀ H₀ ex pins s Y H v u Q I r q) (λs₀ H₀ ex pins s Y H Q I⟨l,q⟩=>ht l s₀ H₀ ex pins s Y H Q I q) (λs₀ H₀ ex pins s Y H Q I⟨l,q⟩=>he l s₀ H₀ ex pins s Y H Q I q) hs) λY H Q h=>Eb (λj j j h=>h) (λl j j j j h=>⟨l,h⟩) (λl j j j h=>⟨l,h⟩) (λl j j j h=>⟨l,h⟩) hp h
theorem S5{y:Str}{tQ:Pos}(fW:Np c np)(hc:X.calm=true)(S:mR X scope cs)(hN:X.N.Nodup)(dF:X.N[i]?=some y)(hy:X.env.scope.names.lookup y=some .local)(hi:SI X c tg iter it)(hg:∀l s₀ H₀ ex,oD (fg X scope s₀ H₀ ex) (c.plus l) cs tg g)(ht:∀l s₀ H₀ ex,qr (fg X scope s₀ H₀ ex) (c.plus l) ifs t)(he:∀l s₀ H₀ ex,SE (fg X scope s₀ H₀ ex) (c.plus l) elt el)(hp:∀p∈c.pin,p.1∉cs)(qd:Ua (.ListComp elt [⟨tg,iter,ifs,0⟩] scope pos) (some (.Name y py)) tQ.line X.env=pure true:=by rfl)(hs:∀x,Jo iter X.env x=pure x:=by intro _;rfl):SS X c (.Assign [.Name y py] (.ListComp elt [⟨tg,iter,ifs,0⟩] scope pos) tQ) (az (bI cs it g t el) (ah np i)):=PS.weak (Pw (g:=λv Y H Q=>∃l,uw cs (c.plus l) g v Y H Q) (tt:=λY H Q=>∃l,tT (c.plus l) t Y H Q) (te:=λY H Q=>∃l,tD (c.plus l) el Y H Q) hc S hN dF hy hi (λs₀ H₀ ex pins s Y H v u Q I r⟨l,q⟩=>hg l s₀ H₀ ex pins s Y H v u Q I r q) (λs₀ H₀ ex pins s Y H Q I⟨l,q⟩=>ht l s₀ H₀ ex pins s Y H Q I q) (λs₀ H₀ ex pins s Y H Q I⟨l,q⟩=>he l s₀ H₀ ex pins s Y H Q I q) qd hs) λD Y H h=>xV (λY H Q h=>Eb (λj j j h=>h) (λl j j j j h=>⟨l,h⟩) (λl j j j h=>⟨l,h⟩) (λl j j j h=>⟨l,h⟩) hp h) (λj j j j h=>xU fW h) h
end
abbrev DF:=List S->Option (S×List S)
variable{G:DF}
def bX:Nat->List S->List V->List (Nat×Addr)|n,.own _::ss,.ref a::vs=>(n,a)::bX (n+1) ss vs|n,_::ss,_::vs=>bX (n+1) ss vs|_,_,_=>[]
theorem lV:∀{n:Nat}{ss:List S}{vs:List V}{i:Nat}{a:Addr},(i,a)∈bX n ss vs->∃j d,i=n+j/\ss[j]?=some (.own d)/\vs[j]?=some (.ref a)
 |n,[],vs,i,a,h=>by simp[bX]at h|n,s::ss,[],i,a,h=>by cases s<;>simp[bX]at h|n,s::ss,v::vs,i,a,h=>by
  have x8:(i,a)∈bX (n+1) ss vs->∃j d,i=n+j/\(s::ss)[j]?=some (.own d)/\(v::vs)[j]?=some (.ref a):=λh=>by obtain⟨j,d,e,h1,h2⟩:=lV h;exact⟨j+1,d,Y',~~~h1,~~~h2⟩
  cases s with|pure d=>exact x8 h|own d=>
 cases v with|ref b=>
    rcases Wq.mp h with e|h;.cases e;exact⟨0,d,rfl,rfl,rfl⟩
    .exact x8 h|_=>exact x8 h
theorem ux:∀{n:Nat}{ss:List S}{vs:List V}{j:Nat}{d:D}{a:Addr},ss[j]?=some (.own d)->vs[j]?=some (.ref a)->(n+j,a)∈bX n ss vs
 |n,[],vs,j,d,a,h,_=>by simp at h|n,s::ss,[],j,d,a,_,h=>by simp at h|n,s::ss,v::vs,0,d,a,h1,h2=>by simp at h1 h2;subst h1 h2;exact Wi|n,s::ss,v::vs,j+1,d,a,h1,h2=>by
  have ih:=ux (n:=n+1) (ss:=ss) (vs:=vs) (j:=j) (d:=d) (a:=a) (~~~h1) (~~~h2);have e:n+1+j=n+(j+1):=by lia
  rw[e]at ih;cases s with|pure d=>exact ih|own d=>cases v with|ref b=>exact Wf _ ih|_=>exact ih
abbrev bY(vs:List V):St:=vs.map some
abbrev cy(ss:List S):Dl:=ss.map some
theorem fq{r:S}:(cy ss)[i]?=some (some r)↔ss[i]?=some r:=by rw[Ws];cases ss[i]?<;>simp
theorem fI:(bY vs)[i]?=some (some v)↔vs[i]?=some v:=by rw[Ws];cases vs[i]?<;>simp
def kK(n:Nat)(G:DF):Sp:=λvs H Q j=>∃ss B,vs.length=n/\Ok ⟨H,B,bX 0 ss vs,λj j=>False⟩ (bY vs) (cy ss) H/\∃r aG,G ss=some (r,aG)/\∀v H',aK ⟨H,B,bX 0 ss vs,λj j=>False⟩ (bY vs) (cy ss) H (bY vs) (cy aG) H'->aN ⟨H,B,bX 0 ss vs,λj j=>False⟩ (bY vs) (cy aG) H H' v r->Q v H'
def aM(P:Wm)(w:Wu)(K:W3)(mg:Str->Option Value)(base:Heap)(k:Nat)(x:Str)(n:Nat)(G:DF):Prop:=∃(f:Addr)(fd:Ql)(ps:List Str),mg x=some (.ref f)/\QY K (.ref f)=true/\Binds K fd ps []/\gN P w K mg base fG k f fd ps (kK n G)
def bU(n:Nat)(ss:List S):Dl:=cy ss++WJ (n-ss.length) none
def cj:Nat->List S->Dl->Option (List S)|_,[],_=>some []|n,.pure d::ss,Z=>(cj (n+1) ss Z).map (.pure d::.)|n,.own _::ss,Z=>match Z[n]? with|some (some (.own d'))=>(cj (n+1) ss Z).map (.own d'::.)|_=>none
noncomputable def dY:Fl->Option S|.next=>0#(.aD)|.ret r=>some r|_=>none
def gW(f:DS)(n:Nat)(ss:List S):Option (S×List S):=match f (bU n ss)with|.ok fl Z=>(dY fl).bind λr=>(cj 0 ss Z).map λaG=>(r,aG)|_=>none
def cY(np:List Nat):Nat->List S->Bool|_,[]=>true|n,.own _::ss=>np.contains n&&cY np (n+1) ss|n,.pure _::ss=>cY np (n+1) ss
theorem uy:∀{n:Nat}{ss:List S}{j:Nat}{d:D},cY np n ss=true->ss[j]?=some (.own d)->np.contains (n+j)=true
 |n,[],j,d,_,h=>by simp at h|n,s::ss,0,d,h,e=>by simp at e;subst e;simp only[cY,Wr]at h;exact h.1|n,s::ss,j+1,d,h,e=>by
  have h':cY np (n+1) ss=true:=by cases s with|pure d=>exact h|own d=>simp only[cY,Wr]at h;exact h.2
  have:=uy (n:=n+1) (j:=j) h' (~~~e);rw[show n+(j+1)=n+1+j by lia];exact this
universe H in theorem qu:∀{n:Nat}{ss aG:List S}{Z:Dl},cj n ss Z=some aG->aG.length=ss.length/\∀(i:Nat)s,ss[i]?=some s->(∃d,s=.pure d/\aG[i]?=0#d)\/∃d d',s=.own d/\Z[n+i]?=some (some (.own d'))/\aG[i]?=some (.own d')
 |n,[],aG,Z,h=>by simp only[cj,Wb]at h;subst h;exact⟨rfl,λi s e=>by simp at e⟩|n,.pure d::ss,aG,Z,h=>by simp only[cj]at h;cases e:cj (n+1) ss Z with|none=>rw[e]at h;cases h|some os=>rw[e]at h;simp only[WM,Wb]at h;subst h;obtain⟨h1,h2⟩:=qu e;refine⟨#v[h1],λi s es=>?_⟩;cases i with|zero=>simp at es;subst es;exact .inl ⟨d,rfl,rfl⟩|succ i=>
    rcases h2 i s (~~~es)with⟨d,z1,z2⟩|⟨d,d',z1,z2,z3⟩;.exact .inl ⟨d,z1,~~~z2⟩
    .exact .inr ⟨d,d',z1,%[show n+(i+1)=n+1+i by lia|z2],~~~z3⟩
 |n,.own d::ss,aG,Z,h=>by
  simp only[cj]at h;split at h;.rename_i d' ed;cases e:cj (n+1) ss Z with|none=>rw[e]at h;cases h|some os=>rw[e]at h;simp only[WM,Wb]at h;subst h;obtain⟨h1,h2⟩:=qu e;refine⟨#v[h1],λi s es=>?_⟩;cases i with|zero=>simp at es;subst es;exact .inr ⟨d,d',rfl,ed,rfl⟩|succ i=>
     rcases h2 i s (~~~es)with⟨d,z1,z2⟩|⟨d,d',z1,z2,z3⟩;.exact .inl ⟨d,z1,~~~z2⟩
     .exact .inr ⟨d,d',z1,%[show n+(i+1)=n+1+i by lia|z2],~~~z3⟩
  .cases h
section
variable{c:Fc}
theorem lW{α:Type}{l:List (Option α)}{k:Nat}{v:α}(h:(l++WJ k none)[i]?=some (some v)):l[i]?=some (some v):=by
 by_cases hi:i<l.length;.rw[Qw hi]at h;exact h
 .rw[Jj Y',List.getElem?_replicate]at h;split at h<;>cases h
theorem kL{α:Type}{l:List (Option α)}{k:Nat}{v:α}(h:l[i]?=some (some v)):(l++WJ k none)[i]?=some (some v):=by have hi:i<l.length:=(W8.mp h).1;rw[Qw hi];exact h
theorem Own.ext{k:Nat}{a:Addr}:Own (Y++WJ k none) (Z++WJ k none) a↔Own Y Z a:=⟨λ⟨i,d,e1,e2⟩=>⟨i,d,lW e1,lW e2⟩,λ⟨i,d,e1,e2⟩=>⟨i,d,kL e1,kL e2⟩⟩
theorem Ok.ext(k:Ok c Y Z H)(n:Nat):Ok c (Y++WJ n none) (Z++WJ n none) H:=by
 have sub:∀b,Av c (Y++WJ n none) (Z++WJ n none) b->Av c Y Z b:=λb z=>z.elim .inl λz=>.inr (Own.ext.mp z);refine⟨k.keep,k.bd,k.d_,#v[k.len],λi d e=>?_,λi d e=>?_,λi j a d d' e1 e2 e3 e4=>k.inj i j a d d' (lW e1) (lW e2) (lW e3) (lW e4),λp hm=>kL (k.pinned p hm)⟩;.obtain⟨v,h1,h2⟩:=k.slot i d (lW e);exact⟨v,kL h1,h2.bj λb z=>.inl (sub b z)⟩
 .obtain⟨a,h1,h2,h3⟩:=k.own i d (lW e);exact⟨a,kL h1,h2.bj λb z=>.inl (sub b z),h3⟩
theorem lX(hc:c=⟨H,B,bX 0 ss vs,λy y=>False⟩)(k:Ok c (bY vs) (cy ss) H)(x:aK c (bY vs++WJ n none) (cy ss++WJ n none) H SC SZ H')(ho:cj 0 ss SZ=some aG):aK c (bY vs) (cy ss) H (bY vs) (cy aG) H'/\∀v r,aN c SC SZ H H' v r->aN c (bY vs) (cy aG) H H' v r:=by
 obtain⟨hlen,hat⟩:=qu ho;have kM:ss.length=vs.length:=by have:=k.len;simpa using this
 have pin:∀(i:Nat)(a:Addr)(d:D),ss[i]?=some (.own d)->vs[i]?=some (.ref a)->SC[i]?=some (some (.ref a)):=λi a d h1 h2=>by have:=ux (n:=0) h1 h2;rw[Jx]at this;exact x.ok.pinned (i,a) %[hc|this]
 have uz:∀(i:Nat)(d:D),aG[i]?=some (.own d)->(∃d₀,ss[i]?=some (.own d₀))/\SZ[i]?=some (some (.own d)):=λi d e=>by
  have hi:i<ss.length:=by rw[<-hlen];exact(W8.mp e).1
  rcases hat i ss[i] #v[hi]with⟨d₁,z1,z2⟩|⟨d₁,d',z1,z2,z3⟩;all_goals grind
 have sub:∀b,Own (bY vs) (cy aG) b->Own SC SZ b:=λb⟨i,d,e1,e2⟩=>by obtain⟨⟨d₀,h0⟩,h1⟩:=uz i d (fq.mp e1);exact⟨i,d,h1,pin i b d₀ h0 (fI.mp e2)⟩
 have m4:∀b,Av c (bY vs) (cy aG) b->Av c SC SZ b:=λb z=>z.elim .inl λz=>.inr (sub b z);have Ej:∀{c':Fc},c'.pin=c.pin->Ok c' SC SZ H'->(∀b,c.B b->c'.B b)->(∀(i:Nat)d v,ss[i]?=0#d->vs[i]?=some v->Rep H' (Av c' SC SZ) v d)->Ok c' (bY vs) (cy aG) H':=λ{c'}ep k' hB x9=>by
  have Ek:∀b,Av c' (bY vs) (cy aG) b->Av c' SC SZ b:=λb z=>z.elim .inl λz=>.inr (sub b z);refine⟨k'.keep,k'.bd,k'.d_,#v[hlen,kM],λi d e=>?_,λi d e=>?_,λi j a d d' e1 e2 e3 e4=>?_,λp hm=>?_⟩
  .have e':=fq.mp e;have hi:i<ss.length:=by rw[<-hlen];exact(W8.mp e').1
   have hv:i<vs.length:=by lia
   rcases hat i ss[i] #v[hi]with⟨d₁,z1,z2⟩|⟨d₁,d',z1,z2,z3⟩;.rw[e']at z2;cases z2;exact⟨vs[i],#v[hv],(x9 i d vs[i] (by rw[W4 hi,z1]) #v[hv]).bj λb z=>.inl (Ek b z)⟩
   grind
  .have e':=fq.mp e;obtain⟨⟨d₀,h0⟩,h1⟩:=uz i d e';obtain⟨a₀,h2,_⟩:=k.own i d₀ (fq.mpr h0);obtain⟨a,h3,h4,h5⟩:=k'.own i d h1;rw[pin i a₀ d₀ h0 (fI.mp h2)]at h3;cases h3;exact⟨a₀,h2,h4.bj λb z=>.inl (Ek b z),h5⟩
  .obtain⟨⟨d₀,h0⟩,h1⟩:=uz i d (fq.mp e1);obtain⟨⟨d₁,h2⟩,h3⟩:=uz j d' (fq.mp e2);exact k'.inj i j a d d' h1 h3 (pin i a d₀ h0 (fI.mp e3)) (pin j a d₁ h2 (fI.mp e4))
  .exact k.pinned p (by rw[<-ep];exact hm)
 have slots:∀(i:Nat)d v,ss[i]?=0#d->vs[i]?=some v->Rep H' (Av c SC SZ) v d:=λi d v h1 h2=>by obtain⟨w,e1,r⟩:=(k.ext n).slot i d (kL (fq.mpr h1));rw[kL (fI.mpr h2)]at e1;cases e1;exact Rep.dG r x
 refine⟨⟨Ej rfl x.ok (λy z=>z) slots,λa o e m=>x.keep a o e λz=>m (Own.ext.mp z),λa z=>(x.own a (sub a z)).elim (λz=>.inl (Own.ext.mp z)) .inr,x.there⟩,λv r hr=>?_⟩;cases r with|pure d=>exact Rep.bj hr λb z=>.inl (m4 b z)|own d=>
  obtain⟨a,ea,o,nb,h0,kp,hs⟩:=hr;refine⟨a,ea,o.bj λb z=>.inl (z.elim .inl λz=>.inr (sub b z)),nb,h0,Ej rfl kp (λy z=>.inl z) λi d v h1 h2=>?_,hs⟩;obtain⟨w,e1,r⟩:=(k.ext n).slot i d (kL (fq.mpr h1));rw[kL (fI.mpr h2)]at e1;cases e1;have oE:H a=none:=hs;have r1:Rep H (Av c (bY vs++WJ n none) (cy ss++WJ n none)) v d:=r;have r2:Rep H (λb=>Av c (bY vs++WJ n none) (cy ss++WJ n none) b\/Av (c.plus a) SC SZ b) v d:=r1.bj λb z=>by
   rcases z with z|(z|z)|z;.exact .inl z
   .exact .inl (.inl z)
   .exact .inr %[z|oE]
   .rcases x.own b z with q|q;.exact .inl (.inr q)
    .exact .inr q
  exact(r2.keep λb o e m=>x.keep b o e λz=>m (.inl (.inr z))).bj λb z=>.inl (.inr z)
end
theorem Em{x:Str}{st:Stmt}{k:Nat}{fb:DS}(F:eJ K x qual st f fd)(S:gw N ps (bP st))(eG:∀(c:Fc)(a_:Value)(A:Wp)(outer:List Env)(s:W1)(H:Hp)(E:XK),dz k (A.deeper (Jp qual (bP st) s.heap.objs.size f a_))->Np c np->fH (fF fG P w K mg base N qual (bP st) f a_ A outer s H E).jV c (fR st) fb)(hG:∀ss y,G ss=some y->cY np 0 ss=true/\gW fb N.length ss=some y):gN P w K mg base fG (k+1) f fd ps (kK ps.length G):=by
 refine F.ok S (λvs H Q E h=>?_) λa_ A outer s H vs Q E hr h=>?_;.obtain⟨ss,B,hl,_⟩:=h;exact hl
 .obtain⟨ss,B,hl,ok,r,aG,hg,q⟩:=h;obtain⟨gD,hrun⟩:=hG ss _ hg;have kM:ss.length=vs.length:=by have:=ok.len;simpa using this
  have qv:Np ⟨H,B,bX 0 ss vs,λu u=>False⟩ np:=λp hp=>by obtain⟨j,d,e,h1,_⟩:=lV (i:=p.1) (a:=p.2) hp;rw[e];exact uy gD h1
  refine⟨lT ⟨H,B,bX 0 ss vs,λu u=>False⟩ fb,eG ⟨H,B,bX 0 ss vs,λu u=>False⟩ a_ A outer s H E hr qv,?_⟩;have dw:fE N vs=bY vs++WJ (N.length-ss.length) none:=by rw[kM];rfl
  refine⟨bU N.length ss,%[dw|ok.ext _],?_⟩;unfold gW at hrun;unfold eK;cases e:fb (bU N.length ss)with|exc x GM=>rw[e]at hrun;cases hrun|stuck=>rw[e]at hrun;cases hrun|ok fl SZ=>rw[e]at hrun;show∀SC H',aK _ (fE N vs) (bU N.length ss) H SC SZ H'->fin _ _ SC SZ H' fl;intro SC H' a;rw[dw]at a;simp only at hrun;cases fl with
 |brk=>cases hrun|cont=>cases hrun|next=>simp only[dY,WB]at hrun;cases eo:cj 0 ss SZ with|none=>rw[eo]at hrun;cases hrun|some os=>rw[eo]at hrun;cases hrun;obtain⟨l1,l2⟩:=lX rfl ok a eo;exact q .aD H' l1 .aD
 |ret r'=>simp only[dY,WB]at hrun;cases eo:cj 0 ss SZ with|none=>rw[eo]at hrun;cases hrun|some os=>rw[eo]at hrun;cases hrun;obtain⟨l1,l2⟩:=lX rfl ok a eo;exactλv rv=>q v H' l1 (l2 v _ rv)
theorem S6{x:Str}{st:Stmt}{k:Nat}{fb:DS}(F:eJ K x qual st f fd)(hm:mg x=some (.ref f))(hb:Binds K fd ps [])(S:gw N ps (bP st))(eG:∀(c:Fc)(a_:Value)(A:Wp)(outer:List Env)(s:W1)(H:Hp)(E:XK),dz k (A.deeper (Jp qual (bP st) s.heap.objs.size f a_))->Np c np->fH (fF fG P w K mg base N qual (bP st) f a_ A outer s H E).jV c (fR st) fb)(hG:∀ss y,G ss=some y->cY np 0 ss=true/\gW fb N.length ss=some y):7#0 (k+1) x ps.length G:=⟨f,fd,ps,hm,F.kp,hb,Em F S eG hG⟩
inductive Ak where|val(f:DE)|io(i:Nat)
variable{as:List Ak}
def cD:List Ak->Dl->Rs (List (Option D))|[],Z=>.ok [] Z|.val f::r,Z=>(f Z).bind λx S'=>(cD r S').bind λxs SL=>.ok (some x.d::xs) SL|.io _::r,Z=>(cD r Z).bind λxs SL=>.ok (none::xs) SL
inductive kO(c:Fc)(Y:St)(Z:Dl)(H:Hp):List V->List Ak->List (Option D)->Prop|nil:kO c Y Z H [] [] []|val{v:V}{d:D}{f:DE}{vs:List V}{as:List Ak}{ds:List (Option D)}:Rep H (Av c Y Z) v d->kO c Y Z H vs as ds->kO c Y Z H (v::vs) (.val f::as) (some d::ds)|io{v:V}{i:Nat}{vs:List V}{as:List Ak}{ds:List (Option D)}:Y[i]?=some (some v)->kO c Y Z H vs as ds->kO c Y Z H (v::vs) (.io i::as) (none::ds)
def tX(c:Fc)(as:List Ak):TA:=λY H Q=>∃Z,Ok c Y Z H/\(∀i,Ak.io i∈as->∃v,Y[i]?=some (some v))/\post c (cD as Z) λds SZ=>∀vs H',aK c Y Z H Y SZ H'->kO c Y SZ H' vs as ds->Q vs H'
abbrev SX(X:Cx)(c:Fc)(es:List Expr)(as:List Ak):Prop:=PA X es (tX c as)
section
variable{c:Fc}
theorem S7:SX X c [] []:=PA.weak f_ λY H Q⟨Z,k,_,q⟩=>q [] H (.refl k) .nil
theorem S8(ha:SE X c e fe)(hr:SX X c es as)(hs:Wa (e::es) X.env=(false,eval e X.env)::Wa es X.env:=by rfl):SX X c (e::es) (.val fe::as):=PA.weak (dU ha hr hs) λY H Q⟨Z,k,gD,q⟩=>by unfold cD at q;rw[bx]at q;refine⟨Z,k,aT q λx S' q1 v H1 a1 r1=>⟨S',a1.ok,λi hi=>gD i (Wf _ hi),?_⟩⟩;rw[bx]at q1;exact aT q1 λxs SL q2 vs H2 a2 r2=>q2 (v::vs) H2 (a1.trans a2) (.val (Rep.dG r1.rep a2) r2)
theorem S9(ha:PE X e (fD i))(hr:SX X c es as)(hs:Wa (e::es) X.env=(false,eval e X.env)::Wa es X.env:=by rfl):SX X c (e::es) (.io i::as):=PA.weak (dU ha hr hs) λY H Q⟨Z,k,gD,q⟩=>by obtain⟨v,ev⟩:=gD i Wi;unfold cD at q;rw[bx]at q;exact⟨v,ev,Z,k,λi hi=>gD i (Wf _ hi),aT q λxs SL q2 vs H2 a2 r2=>q2 (v::vs) H2 a2 (.io ev r2)⟩
end
def bS:List Ak->List (Option D)->Dl->Option (List S)
 |[],[],_=>some []|.val _::as,some d::ds,Z=>(bS as ds Z).map (.pure d::.)|.io i::as,none::ds,Z=>match Z[i]? with|some (some (.own d))=>(bS as ds Z).map (.own d::.)|_=>none
 |_,_,_=>none
def bB:List Ak->List Nat|[]=>[]|.val _::as=>bB as|.io i::as=>i::bB as
def bp:List Ak->List S->Dl->Dl|.io i::as,r::rs,Z=>bp as rs (Z.set i (some r))|.val _::as,_::rs,Z=>bp as rs Z|_,_,Z=>Z
def cP:List Nat->Bool|[]=>true|i::r=>!r.contains i&&cP r
def ay(G:DF)(as:List Ak):DE:=λZ=>if(bB as).all (dk Z)&&cP (bB as)then(cD as Z).bind λds S'=>match bS as ds S' with|none=>.stuck|some ss=>match G ss with|none=>.stuck|some (r,aG)=>.ok r (bp as aG S')else .stuck
theorem uA:∀{l:List Nat},cP l=true->l.Nodup|[],_=>.nil|i::r,h=>by simp only[cP,Wr,Uh]at h;exact List.nodup_cons.mpr ⟨λhm=>by have:=h.1;simp at this;exact this hm,uA h.2⟩
theorem kP:∀{as:List Ak}{i:Nat},i∈bB as↔Ak.io i∈as|[],i=>#v[bB]|.val f::as,i=>#v[bB,kP (as:=as)]|.io j::as,i=>#v[bB,kP (as:=as)]
theorem x_:∀{as:List Ak}{i j k:Nat},(bB as).Nodup->as[j]?=some (.io i)->as[k]?=some (.io i)->j=k
 |[],i,j,k,_,h,_=>by simp at h|.val f::as,i,j,k,nd,h1,h2=>by cases j with|zero=>simp at h1|succ j=>cases k with|zero=>simp at h2|succ k=>exact congrArg (.+1) (x_ (as:=as) nd (~~~h1) (~~~h2))
 |.io n::as,i,j,k,nd,h1,h2=>by have oF:=JJ.mp nd;cases j with|zero=>grind[kP]|succ j=>cases k with|zero=>grind[kP]|succ k=>exact congrArg (.+1) (x_ (as:=as) oF.2 (~~~h1) (~~~h2))
section
variable{c:Fc}{ds:List (Option D)}
universe H in theorem qw(h:kO c Y Z H vs as ds):∀{ss:List S},bS as ds Z=some ss->ss.length=vs.length/\as.length=vs.length/\∀(j:Nat)s v,ss[j]?=some s->vs[j]?=some v->(∃d f,s=.pure d/\as[j]?=some (.val f)/\Rep H (Av c Y Z) v d)\/∃d i,s=.own d/\as[j]?=some (.io i)/\Y[i]?=some (some v)/\Z[i]?=some (some (.own d)):=by induction h with
 |nil=>intro ss h;simp only[bS,Wb]at h;subst h;exact⟨rfl,rfl,λj s v e _=>by simp at e⟩|@val v d f vs as ds r _ ih=>intro ss h;simp only[bS]at h;cases e:bS as ds Z with|none=>rw[e]at h;cases h|some rs=>rw[e]at h;simp only[WM,Wb]at h;subst h;obtain⟨h1,h2,h3⟩:=ih e;refine⟨#v[h1],#v[h2],λj s v' e1 e2=>?_⟩;cases j with|zero=>simp at e1 e2;subst e1 e2;exact .inl ⟨d,f,rfl,rfl,r⟩|succ j=>simpa using h3 j s v' (~~~e1) (~~~e2)
 |@io v i vs as ds ev _ ih=>
 intro ss h;simp only[bS]at h;split at h;.rename_i d ed;cases e:bS as ds Z with|none=>rw[e]at h;cases h|some rs=>rw[e]at h;simp only[WM,Wb]at h;subst h;obtain⟨h1,h2,h3⟩:=ih e;refine⟨#v[h1],#v[h2],λj s v' e1 e2=>?_⟩;cases j with|zero=>simp at e1 e2;subst e1 e2;exact .inr ⟨d,i,rfl,rfl,ev,ed⟩|succ j=>simpa using h3 j s v' (~~~e1) (~~~e2)
 .cases h
theorem ya:∀(as:List Ak)(rs:List S)(Z:Dl),(bp as rs Z).length=Z.length|[],rs,Z=>#v[bp]|.val f::as,[],Z=>#v[bp]|.io i::as,[],Z=>#v[bp]|.val f::as,r::rs,Z=>#v[bp,ya as rs Z]|.io i::as,r::rs,Z=>#v[bp,ya as rs]
theorem qx:∀(as:List Ak)(rs:List S)(Z:Dl)(i:Nat),i∉bB as->(bp as rs Z)[i]?=Z[i]?|[],rs,Z,i,_=>#v[bp]|.val f::as,[],Z,i,_=>#v[bp]|.io j::as,[],Z,i,_=>#v[bp]|.val f::as,r::rs,Z,i,h=>%[bp|qx as rs Z i h]|.io j::as,r::rs,Z,i,h=>by simp only[bB,Wq,not_or]at h;rw[bp,qx as rs _ i h.2,Wc (Ne.symm h.1)]
theorem uB:∀(as:List Ak)(rs:List S)(Z:Dl)(i j:Nat)(r:S),(bB as).Nodup->as[j]?=some (.io i)->rs[j]?=some r->i<Z.length->(bp as rs Z)[i]?=some (some r)
 |[],rs,Z,i,j,r,_,h,_,_=>by simp at h|a::as,[],Z,i,j,r,_,_,h,_=>by simp at h|.val f::as,r0::rs,Z,i,j,r,nd,h1,h2,hi=>by cases j with|zero=>simp at h1|succ j=>rw[bp];exact uB as rs Z i j r nd (~~~h1) (~~~h2) hi
 |.io k::as,r0::rs,Z,i,j,r,nd,h1,h2,hi=>by have oF:=JJ.mp nd;cases j with|zero=>simp at h1 h2;subst h1 h2;rw[bp,qx as rs _ k oF.1,WE hi]|succ j=>rw[bp];exact uB as rs _ i j r oF.2 (~~~h1) (~~~h2) (~~~hi)
theorem yb(k:Ok c Y Z H)(hr:kO c Y Z H vs as ds)(hm:bS as ds Z=some ss)(nd:(bB as).Nodup):Ok ⟨H,λa=>Av c Y Z a/\¬∃(j:Nat)(d:D),ss[j]?=some (S.own d)/\vs[j]?=some (V.ref a),bX 0 ss vs,λy y=>False⟩ (bY vs) (cy ss) H:=by
 obtain⟨h1,h2,h3⟩:=qw hr hm;have at':∀(j:Nat)s,ss[j]?=some s->∃v,vs[j]?=some v:=λj s e=>by
  have:j<vs.length:=by rw[<-h1];exact(W8.mp e).1
  simp_all
 have En:∀a,Own (bY vs) (cy ss) a↔∃(j:Nat)(d:D),ss[j]?=some (S.own d)/\vs[j]?=some (V.ref a):=λa=>⟨λ⟨j,d,e1,e2⟩=>⟨j,d,fq.mp e1,fI.mp e2⟩,λ⟨j,d,e1,e2⟩=>⟨j,d,fq.mpr e1,fI.mpr e2⟩⟩;have Eo:∀a,Own (bY vs) (cy ss) a->Own Y Z a:=λa z=>by
  obtain⟨j,d,e1,e2⟩:=(En a).mp z;rcases h3 j _ _ e1 e2 with⟨d',f,e,_⟩|⟨d',i,e,_,es,ed⟩;.cases e
  .exact⟨i,d',ed,es⟩
 have sub:∀a,Av ⟨H,λa=>Av c Y Z a/\¬∃(j:Nat)(d:D),ss[j]?=some (S.own d)/\vs[j]?=some (V.ref a),bX 0 ss vs,λy y=>False⟩ (bY vs) (cy ss) a->Av c Y Z a:=λa z=>z.elim (λz=>z.1) λz=>.inr (Eo a z);refine⟨λa o e y=>e,λa z=>k.CZ z.1,λa⟨i,hi⟩=>?_,#v[h1],λj d e=>?_,λj d e=>?_,λi j a d d' e1 e2 e3 e4=>?_,λp hp=>?_⟩;.obtain⟨j,d,_,e1,e2⟩:=lV hi;exact k.CY (Eo a ((En a).mpr ⟨j,d,e1,e2⟩))
 .have e':=fq.mp e;obtain⟨v,ev⟩:=at' j _ e';rcases h3 j _ v e' ev with⟨d',f,e,_,r⟩|⟨d',i,e,_⟩;.cases e;exact⟨v,fI.mpr ev,r.bj λb z=>.inl (sub b z)⟩
  .cases e
 .have e':=fq.mp e;obtain⟨v,ev⟩:=at' j _ e';rcases h3 j _ v e' ev with⟨d',f,e,_,r⟩|⟨d',i,e,_,es,ed⟩;.cases e
  .cases e;obtain⟨a,g1,g2,g3⟩:=k.own i d ed;rw[es]at g1;cases g1;refine⟨a,fI.mpr ev,g2.bj λb z=>.inl (sub b z),.inl ⟨0+j,ux e' ev⟩,λz=>z.2 ⟨j,d,e',ev⟩⟩
 .have f1:=fq.mp e1;have f2:=fq.mp e2;rcases h3 i _ _ f1 (fI.mp e3)with⟨_,_,e,_⟩|⟨d1,i1,e,a1,s1,x1⟩;.cases e
  .rcases h3 j _ _ f2 (fI.mp e4)with⟨_,_,e',_⟩|⟨d2,i2,e',a2,s2,x2⟩;.cases e'
   .have:=k.inj i1 i2 a d1 d2 x1 x2 s1 s2;subst this;exact x_ nd a1 a2
 .obtain⟨j,d,e,e1,e2⟩:=lV (i:=p.1) (a:=p.2) hp;rw[Jx]at e;rw[e];exact fI.mpr e2
theorem uC(k:Ok c Y Z H)(hr:kO c Y Z H vs as ds)(hm:bS as ds Z=some ss)(nd:(bB as).Nodup)(hB:B=λa=>Av c Y Z a/\¬∃(j:Nat)(d:D),ss[j]?=some (S.own d)/\vs[j]?=some (V.ref a))(x:aK ⟨H,B,bX 0 ss vs,λy y=>False⟩ (bY vs) (cy ss) H (bY vs) (cy aG) H')(gD:∀(j:Nat)d,ss[j]?=some (.own d)->∃d',aG[j]?=some (.own d'))(hpo:∀(j:Nat)d,ss[j]?=0#d->∃d',aG[j]?=0#d'):aK c Y Z H Y (bp as aG Z) H'/\∀v r,aN ⟨H,B,bX 0 ss vs,λy y=>False⟩ (bY vs) (cy aG) H H' v r->aN c Y (bp as aG Z) H H' v r:=by
 obtain⟨h1,h2,h3⟩:=qw hr hm;have uD:∀i,i∈bB as->∃(j:Nat)(d:D)(a:Addr),as[j]?=some (.io i)/\ss[j]?=some (.own d)/\vs[j]?=some (.ref a)/\Y[i]?=some (some (.ref a))/\Z[i]?=some (some (.own d)):=λi hi=>by
  obtain⟨j,hj,ej⟩:=J4.mp (kP.mp hi);have hv:j<vs.length:=by lia
  have hs:j<ss.length:=by lia
  have Ep:as[j]?=some (.io i):=by rw[W4 hj,ej]
  rcases h3 j ss[j] vs[j] #v[hs] #v[hv]with⟨d,f,e,a1,_⟩|⟨d,i',e,a1,s1,x1⟩;.grind
  .rw[Ep]at a1;cases a1;obtain⟨a,g1,_⟩:=k.own i d x1;rw[s1]at g1;have g2:vs[j]=.ref a:=by have:=WL g1;exact WL this
   exact⟨j,d,a,Ep,by rw[W4 hs,e],by rw[W4 hv,g2],by rw[s1,g2],x1⟩
 have uE:∀a,(∃(j:Nat)(d:D),ss[j]?=some (S.own d)/\vs[j]?=some (V.ref a))->Own Y Z a:=λa⟨j,d,e1,e2⟩=>by
  rcases h3 j _ _ e1 e2 with⟨d',f,e,_⟩|⟨d',i,e,_,es,ed⟩;.cases e
  .exact⟨i,d',ed,es⟩
 have qaD:∀a,(⟨H,B,bX 0 ss vs,λy y=>False⟩:Fc).I a↔∃(j:Nat)(d:D),ss[j]?=some (S.own d)/\vs[j]?=some (V.ref a):=λa=>⟨λ⟨i,hi⟩=>by obtain⟨j,d,_,e1,e2⟩:=lV hi;exact⟨j,d,e1,e2⟩,λ⟨j,d,e1,e2⟩=>⟨0+j,ux e1 e2⟩⟩;have ownIn:∀a,Own (bY vs) (cy ss) a->∃(j:Nat)(d:D),ss[j]?=some (S.own d)/\vs[j]?=some (V.ref a):=λa⟨j,d,e1,e2⟩=>⟨j,d,fq.mp e1,fI.mp e2⟩;have uF:∀(i:Nat)(d:D),(bp as aG Z)[i]?=some (some (.own d))->i∉bB as/\Z[i]?=some (some (.own d))\/i∈bB as/\∃(j:Nat)(d0:D)(a:Addr),as[j]?=some (.io i)/\ss[j]?=some (.own d0)/\vs[j]?=some (.ref a)/\Y[i]?=some (some (.ref a))/\aG[j]?=some (.own d):=λi d e=>by
  by_cases hi:i∈bB as;.right;obtain⟨j,d0,a,a1,a2,a3,a4,a5⟩:=uD i hi;obtain⟨d',ed'⟩:=gD j d0 a2;have bh:i<Z.length:=(W8.mp a5).1;have:=uB as aG Z i j (.own d') nd a1 ed' bh;rw[e]at this;cases this;exact⟨hi,j,d0,a,a1,a2,a3,a4,ed'⟩
  .rw[qx as aG Z i hi]at e;exact .inl ⟨hi,e⟩
 have qy:∀b,Own Y (bp as aG Z) b->Own Y Z b:=λb⟨i,d,e1,e2⟩=>by
  rcases uF i d e1 with⟨_,e⟩|⟨hi,j,d0,a,_,a2,a3,a4,_⟩;.exact⟨i,d,e,e2⟩
  grind
 have S_:∀(i:Nat)(d:D),(bp as aG Z)[i]?=some 0#d->i∉bB as/\Z[i]?=some 0#d:=λi d e=>by
  by_cases hi:i∈bB as;.obtain⟨j,d0,a,a1,a2,a3,a4,a5⟩:=uD i hi;obtain⟨d',ed'⟩:=gD j d0 a2;have bh:i<Z.length:=(W8.mp a5).1;have:=uB as aG Z i j (.own d') nd a1 ed' bh;rw[e]at this;cases this
  .rw[qx as aG Z i hi]at e;exact⟨hi,e⟩
 have Er:∀a o,H a=some o->¬Av c Y Z a->H' a=some o:=λa o e n=>x.keep a o e λz=>n (.inr (uE a (ownIn a z)));have m4:∀b,Av c Y (bp as aG Z) b->Av c Y Z b:=λb z=>z.elim .inl λz=>.inr (qy b z);have big:∀{c':Fc},c'.B=B->∀b,Av c Y Z b->Av c' (bY vs) (cy aG) b:=λ{c'}hB' b z=>by
  by_cases hp:∃(j:Nat)(d:D),ss[j]?=some (S.own d)/\vs[j]?=some (V.ref b);.obtain⟨j,d,e1,e2⟩:=hp;obtain⟨d',ed'⟩:=gD j d e1;exact .inr ⟨j,d',fq.mpr ed',fI.mpr e2⟩
  .exact .inl (by rw[hB',hB];exact⟨z,hp⟩)
 have Es:∀(c1 c2:Fc),c1.H₀=c.H₀->c1.pin=c.pin->(∀b,c1.B b->c.B b\/c2.B b/\H b=none)->c2.pin=bX 0 ss vs->(∀b,B b->c2.B b)->Ok c2 (bY vs) (cy aG) H'->(∀b,c1.B b->∃o,H' b=some o)->Ok c1 Y (bp as aG Z) H':=λc1 c2 e0 e1 e2 e3 e4 k2 hex=>by
  have Et:∀b,Av c1 Y (bp as aG Z) b->Av c Y Z b\/H b=none:=λb z=>by
   rcases z with z|z
   .rcases e2 b z with z|⟨_,z⟩;.exact .inl (.inl z)
    .exact .inr z
   .exact .inl (.inr (qy b z))
  have tS:∀b,Av c1 Y (bp as aG Z) b->Av c2 (bY vs) (cy aG) b:=λb z=>by
   have bg:∀b,Av c Y Z b->Av c2 (bY vs) (cy aG) b:=λb z=>by
    by_cases hp:∃(j:Nat)(d:D),ss[j]?=some (S.own d)/\vs[j]?=some (V.ref b);.obtain⟨j,d,e1,e2⟩:=hp;obtain⟨d',ed'⟩:=gD j d e1;exact .inr ⟨j,d',fq.mpr ed',fI.mpr e2⟩
    .exact .inl (e4 b (by rw[hB];exact⟨z,hp⟩))
   rcases z with z|z
   .rcases e2 b z with z|⟨z,_⟩;.exact bg b (.inl z)
    .exact .inl z
   .exact bg b (.inr (qy b z))
  have Ta:∀{v:V}{d:D},Rep H (Av c Y Z) v d->Rep H' (Av c1 Y (bp as aG Z)) v d:=λ{v d}r=>by have r1:Rep H (λb=>Av c Y Z b\/Av c1 Y (bp as aG Z) b) v d:=r.bj λb z=>z.elim .inl (Et b);exact(r1.keep λb o e n=>Er b o e λz=>n (.inl z)).bj λb z=>.inl (.inr z)
  refine⟨λa o e n=>?_,hex,λa z=>?_,%[ya|k.len],λi d e=>?_,λi d e=>?_,λi j a d d' f1 f2 f3 f4=>?_,%[e1|k.pinned]⟩;.rw[e0]at e;have n':¬c.I a:=λz=>n (by unfold Fc.I at z⊢;rw[e1];exact z);refine x.keep a o (k.keep a o e n') λz=>?_;obtain⟨i,d,g1,g2⟩:=uE a (ownIn a z);obtain⟨a',g3,_,g4,_⟩:=k.own i d g1;grind
  .have z':c.I a:=by unfold Fc.I at z⊢;rw[<-e1];exact z
   obtain⟨o,e⟩:=k.d_ a z';exact x.there a o e
  .obtain⟨hi,e'⟩:=S_ i d e;obtain⟨v,g1,g2⟩:=k.slot i d e';exact⟨v,g1,Ta g2⟩
  .rcases uF i d e with⟨hi,e'⟩|⟨hi,j,d0,a,b1,b2,b3,b4,b5⟩
   .obtain⟨a,g1,g2,g3,g4⟩:=k.own i d e';have na:¬Own (bY vs) (cy ss) a:=λz=>by
     obtain⟨j,d1,q1,q2⟩:=ownIn a z;rcases h3 j _ _ q1 q2 with⟨d',f,ee,_⟩|⟨d',i',ee,ai,es,ed⟩;.cases ee
     .have:=k.inj i i' a d d' e' ed g1 es;grind[kP]
    have Tb:gc H' (Av c1 Y (bp as aG Z)) a d:=by have o1:gc H (λb=>Av c Y Z b\/Av c1 Y (bp as aG Z) b) a d:=g2.bj λb z=>z.elim .inl (Et b);exact(o1.keep (λb o e n=>Er b o e λz=>n (.inl z)) λo e=>x.keep a o e na).bj λb z=>.inl (.inr z)
    refine⟨a,g1,Tb,by unfold Fc.I at g3⊢;rw[e0,e1];exact g3,λz=>?_⟩;rcases e2 a z with z|⟨_,z⟩;.exact g4 z
    .obtain⟨o,eo⟩:=g2.some;rw[z]at eo;cases eo
   .obtain⟨a',g1,g2,g3,g4⟩:=k2.own j d (fq.mpr b5);rw[fI.mpr b3]at g1;cases g1;obtain⟨i0,d1,q1,q2⟩:=uE a ⟨j,d0,b2,b3⟩;obtain⟨a'',q3,q4,q5,q6⟩:=k.own i0 d1 q1;rw[q2]at q3;cases q3;refine⟨a,b4,g2.bj λb z=>.inl (tS b z),by unfold Fc.I at q5⊢;rw[e0,e1];exact q5,λz=>?_⟩;grind
  .obtain⟨d1,g1⟩:∃d1,Z[i]?=some (some (.own d1)):=by
    rcases uF i d f1 with⟨_,e'⟩|⟨hi,_⟩;.exact⟨d,e'⟩
    .obtain⟨_,d1,_,_,_,_,_,a5⟩:=uD i hi;exact⟨d1,a5⟩
   obtain⟨d2,g2⟩:∃d2,Z[j]?=some (some (.own d2)):=by
    rcases uF j d' f2 with⟨_,e'⟩|⟨hi,_⟩;.exact⟨d',e'⟩
    .obtain⟨_,d1,_,_,_,_,_,a5⟩:=uD j hi;exact⟨d1,a5⟩
   exact k.inj i j a d1 d2 g1 g2 f3 f4
 have Tc:Ok c Y (bp as aG Z) H':=Es c ⟨H,B,bX 0 ss vs,λy y=>False⟩ rfl rfl (λb z=>.inl z) rfl (λb z=>z) x.ok λb z=>by obtain⟨o,e⟩:=k.bd b z;exact x.there b o e
 refine⟨⟨Tc,λa o e n=>x.keep a o e λz=>n (uE a (ownIn a z)),λa z=>.inl (qy a z),x.there⟩,λv r hr=>?_⟩;cases r with|pure d=>exact Rep.bj hr λb z=>.inl (big rfl b (m4 b z))|own d=>
  obtain⟨a,ea,o,nb,h0,kp,hs⟩:=hr;have oE:H a=none:=hs;have ju:¬Av c Y Z a:=k.ju oE;refine⟨a,ea,o.bj λb z=>.inl ?_,λz=>ju (.inl z),k.kG oE,?_,oE⟩
  .rcases z with(z|z)|z;.exact(big rfl b (.inl z)).elim (λz=>.inl (.inl z)) .inr
   .exact .inl (.inr z)
   .exact(big rfl b (.inr (qy b z))).elim (λz=>.inl (.inl z)) .inr
  .refine Es (c.plus a) (Fc.plus ⟨H,B,bX 0 ss vs,λy y=>False⟩ a) rfl rfl (λb z=>?_) rfl (λb z=>.inl z) kp λb z=>?_
   .rcases z with z|z;.exact .inl z
    .exact .inr ⟨.inr z,%[z|oE]⟩
   .rcases z with z|z;.obtain⟨o,e⟩:=k.bd b z;exact x.there b o e
    .rw[z];exact o.some
end
def qz(G:DF):Prop:=∀ss r aG,G ss=some (r,aG)->aG.length=ss.length/\∀(j:Nat),(∀d,ss[j]?=some (.own d)->∃d',aG[j]?=some (.own d'))/\∀d,ss[j]?=0#d->∃d',aG[j]?=0#d'
theorem Td{fb}(hG:∀ss y,G ss=some y->gW fb n ss=some y):qz G:=λss r aG h=>by have:=hG ss _ h;unfold gW at this;cases e:fb (bU n ss)with|exc x GM=>rw[e]at this;cases this|stuck=>rw[e]at this;cases this|ok fl Z=>rw[e]at this;simp only at this;cases e1:dY fl with|none=>rw[e1]at this;cases this|some r'=>rw[e1]at this;simp only[WB]at this;cases e2:cj 0 ss Z with|none=>rw[e2]at this;cases this|some os=>
    rw[e2]at this;cases this;obtain⟨h1,h2⟩:=qu e2;refine⟨h1,λj=>⟨λd ed=>?_,λd ed=>?_⟩⟩
    .rcases h2 j _ ed with⟨d',z,_⟩|⟨d',d'',_,_,z⟩;.cases z
     .exact⟨d'',z⟩
    .rcases h2 j _ ed with⟨d',z,z'⟩|⟨d',d'',z,_⟩;.exact⟨d',z'⟩
     .cases z
section
variable{c:Fc}{k:Nat}{x:Str}
universe H in theorem Eu{ps:List Str}(hK:qz G){Q:VK}(hl:as.length=n)(h:tD c (ay G as) Y H Q):wK (kK n G) [] E0 (tX c as) Y H Q:=by
 obtain⟨Z,kk,q⟩:=h;unfold ay at q;split at q
 .rename_i hc;rw[Wr]at hc;have nd:=uA hc.2;rw[bx]at q;refine⟨Z,kk,λi hi=>?_,aT q λds S' q1 vs H1 a1 r1=>?_⟩
  .have:=WW.mp hc.1 i (kP.mpr hi);unfold dk at this;split at this;.rename_i d ed;exact ou kk ed
   .cases this
  .cases em:bS as ds S' with|none=>rw[em]at q1;exact q1.elim|some ss=>rw[em]at q1;simp only at q1;cases eg:G ss with|none=>rw[eg]at q1;exact q1.elim|some y=>obtain⟨r,aG⟩:=y;rw[eg]at q1;have m5:=yb a1.ok r1 em nd;obtain⟨m1,m2,_⟩:=qw r1 em;obtain⟨g1,g2⟩:=hK ss r aG eg;refine⟨ss,_,by rw[Qg,<-m2];exact hl,%[Qg|m5],r,aG,eg,λv H2 a2 r2=>?_⟩;rw[Qg]at a2 r2;obtain⟨o1,o2⟩:=uC a1.ok r1 em nd rfl a2 (λj d ed=>(g2 j).1 d ed) λj d ed=>(g2 j).2 d ed;exact q1 v H2 (a1.trans o1) (aN.back (o2 v r r2) a1)
 .exact q.elim
theorem Te(F:aM X.prog X.w X.K X.mg X.base k x n G)(hK:qz G)(hr:dz k X.A)(hg:Gl X x)(ha:SX X c (e::es) as)(hl:as.length=n)(dE:(x==("__debug__":Str))=false:=by decide)(he:Wa (e::es) X.env=(false,eval e X.env)::Wa es X.env:=by rfl)(bZ:(Qy pos (Wa es X.env)).any (·.1)=false:=by rfl):SE X c (.Call (.Name x pp) (e::es) [] pos) (ay G as):=by obtain⟨f,fd,ps,hm,hk,hb,ok⟩:=F;exact PE.weak (N7 ok hr hg hm hk hb .nil O4 ha dE he bZ) λY H Q h=>Eu (ps:=ps) hK hl h
end
def bq(np:List Nat)(n:Nat)(b:DS):DF:=λss=>if cY np 0 ss then gW b n ss else none
universe H in theorem uG(h:bq np n b ss=some y):cY np 0 ss=true/\gW b n ss=some y:=by
 unfold bq at h;split at h;.rename_i hi;exact⟨hi,h⟩
 .cases h
theorem Ew:qz (bq np n b):=Td λj j h=>(uG h).2
theorem uH(r:dz k A):A.units+64<Q3:=by have:=r.un;lia
theorem Ex{c:Fc}(h:Np c np)(hc:cs.all (λi=>!np.contains i)=true):∀p∈c.pin,p.1∉cs:=λp hp z=>by have h1:=h p hp;grind
def uI:List Str->Bool|[]=>true|x::r=>!r.contains x&&uI r
theorem Ey:∀{l:List Str},uI l=true->l.Nodup|[],_=>.nil|x::r,h=>by simp only[uI,Wr,Uh]at h;exact List.nodup_cons.mpr ⟨λhm=>by have:=h.1;simp at this;exact this hm,Ey h.2⟩
def iy(names:List (Str×NameKind))(x:Str)(k:NameKind):Bool:=match names.lookup x with|some j=>j==k|none=>false
universe H in theorem yc(h:iy names x k=true):names.lookup x=some k:=by
 unfold iy at h;split at h;.rename_i j e;rw[e,eq_of_beq h]
 .cases h
def Ez(names:List (Str×NameKind))(N:List Str)(sc:List (Str×NameKind))(cs:List Nat):Bool:=sc.all (λx=>!x.2==.local||iy sc x.1 .local)&&sc.all (λx=>!x.2==.free||(iy names x.1 .cell||iy names x.1 .free))&&uI (sc.map (·.1))&&(Wx N.length).all λi=>match N[i]? with|some x=>!(iy sc x .local||iy sc x .cell)||cs.contains i|none=>true
theorem Tf(h:names.lookup x=some k):iy names x k=true:=by unfold iy;rw[h];simp
theorem EA{X:Cx}{scope:Scope}{cs:List Nat}(hk:scope.kind=.function)(h:Ez X.env.scope.names X.N scope.names cs=true):mR X scope cs:=by
 unfold Ez at h;simp only[Wr]at h;obtain⟨⟨⟨h1,h2⟩,h3⟩,h4⟩:=h;refine⟨hk,λx hx hl=>?_,λx hx hf=>?_,Ey h3,λi x hi hl=>?_⟩;.have:=WW.mp h1 x hx;rw[hl]at this;exact yc (~~~this)
 .have:=WW.mp h2 x hx;rw[hf]at this;have:iy X.env.scope.names x.1 .cell=true\/iy X.env.scope.names x.1 .free=true:= ~~~this;exact this.elim (λz=>.inl (yc z)) λz=>.inr (yc z)
 .have xX:i<X.N.length:=(W8.mp hi).1;have:=WW.mp h4 i (List.mem_range.mpr xX);rw[hi]at this;have iV:(iy scope.names x .local||iy scope.names x .cell)=true:=by grind[Tf]
  grind
theorem Tg:kH K "bool":=⟨rfl,rfl,rfl,rfl,rfl,rfl,rfl⟩
theorem Ti:kH K "str":=⟨rfl,rfl,rfl,rfl,rfl,rfl,rfl⟩
theorem Tj:kH K "tuple":=⟨rfl,rfl,rfl,rfl,rfl,rfl,rfl⟩
theorem EB:bw X (QW .Mult) (rI pP λi j=>.int (i*j)):=NI
def lY:Expr->Bool|.Starred ..=>false|_=>true
theorem m7(h:lY e=true):Wa (e::es) env=(false,eval e env)::Wa es env:=by
 cases e<;>first|(cases h;done)|rw[Wa]|rfl
 all_goals(intros;contradiction)
section
variable{c:Fc}{f:DE}{g:DA}
theorem Tn(ha:SE X c e f)(hr:SA X c es g)(hs:lY e=true:=by rfl):SA X c (e::es) (ao f g):=DK ha hr (m7 hs)
theorem To(ha:SE X c e fe)(hr:SX X c es as)(hs:lY e=true:=by rfl):SX X c (e::es) (.val fe::as):=S8 ha hr (m7 hs)
theorem Tp(ha:PE X e (fD i))(hr:SX X c es as)(hs:lY e=true:=by rfl):SX X c (e::es) (.io i::as):=S9 ha hr (m7 hs)
end
mutual def jz:Nat->Expr->Option D
 |_,.Constant c _ _=>match c with|.int i=>some (.int i)|.bool b=>some (.bl b)|.none=>some .aD|.str x=>some (.str x.cps.toList)|_=>none
 |n+1,.Tuple es _ _=>if es.length<=1000 then(lZ n es).map .tup else none|_,_=>none def lZ:Nat->List Expr->Option (List D)|_,[]=>some []|n,e::es=>match jz n e,lZ n es with|some d,some ds=>some (d::ds)|_,_=>none end
theorem Tq:∀{n:Nat}{e:Expr}{d:D},jz n e=some d->lY e=true:=λ{n e d}h=>by cases e<;>first|rfl|(cases n<;>simp[jz]at h)
theorem EC{c:Fc}{k:Const}{a:Nat}{b:Pos}{d:D}(h:jz n (.Constant k a b)=some d):SE X c (.Constant k a b) (eD d):=by cases k<;>cases n<;>simp[jz]at h<;>subst h<;>first|exact C0|exact C1|exact C2|exact C3 _ (Px _)
universe H in theorem yd{c:Fc}(ih:∀{e:Expr}{d:D},jz n e=some d->SE X c e (eD d)):∀{es:List Expr}{ds:List D},lZ n es=some ds->SA X c es λZ=>.ok ds Z
 |[],ds,h=>by simp only[lZ,Wb]at h;subst h;exact DJ|e::es,ds,h=>by
  simp only[lZ]at h;split at h;.rename_i d fj h1 h2;cases h;exact DK (ih h1) (yd ih h2) (m7 (Tq h1))
  .cases h
universe H in theorem ED:∀{e:Expr}{d:D},jz n e=some d->SE X c e (eD d):=by induction n with
 |zero=>intro e d h;cases e<;>first|exact EC h|(simp[jz]at h;done)
 |succ n ih=>
 intro e d h;cases e<;>first|exact EC h|(simp[jz]at h;done)|skip
 simp only[jz]at h;split at h;.rename_i es _ _ hl;cases e:lZ n es with|none=>rw[e]at h;cases h|some ds=>rw[e]at h;simp only[WM,Wb]at h;subst h;exact DO (yd ih e) hl
 .cases h
theorem Tr(h:lZ n es=some ds):SA X c es λZ=>.ok ds Z:=yd ED h
def uJ(ds:List D):DE:=λZ=>.ok (.own (.lst ds)) Z
theorem Ts{c:Fc}{d:D}(h:jz 9 e=some d):SE X c e (eD d):=ED h
theorem Tt{c:Fc}(h:lZ 9 es=some ds)(hl:es.length<=1000):SE X c (.List es pos) (uJ ds):=DP (Tr h) hl
section
variable{c:Fc}
theorem Tu{x:Str}{i:Int}(hg:Gl X x)(hm:∃t,X.mg x=some (.int i t))(hd:(x==("__debug__":Str))=false:=by decide):SE X c (.Name x pos) 3#i:=by obtain⟨t,h⟩:=hm;exact PJ hg h hd
theorem Tv(he:SE X c e fe)(hs:Ua e none pos.line X.env=pure false:=by rfl):SS X c (.Expr e pos) (gU fe):=Se he (λj=>hs) trivial (Bt he hs)
theorem Tw{o:Expr}{apos bV:Pos}(ho:PE X o (fD i))(he:SE X c e fe)(jr:JX o "append" X.env (eval o X.env)=eval o X.env:=by rfl)(js:((Qy bV (Wa [e] X.env)).all (λx=>!x.1)&&(backToKw bV (Ul [] X.env)).all (λx=>x.1.isSome)&&decide ([e].length+([]:List Keyword).length+(if([]:List Keyword).isEmpty then 0 else 1)<30))=true:=by rfl)(jt:(apos.endLine==bV.line)=true:=by rfl)(hs:Wa [e] X.env=(false,eval e X.env)::Wa [] X.env:=by rfl)(qd:Ua (.Call (.Attribute o "append" apos) [e] [] bV) none pos.line X.env=pure false:=by rfl):SS X c (.Expr (.Call (.Attribute o "append" apos) [e] [] bV) pos) (cO i fe):=Sh (p0:=apos) ho he (Bt (pY JB PySem.F.slot_list_append PySem.F.type_list_append Cr ho (dU he f_ hs) jr js jt hs rfl) qd)
end
def ye(K:W3):Bool:=K.all λp=>match p.2.cls with|.type t=>!t=="list"|_=>true
theorem EE[BEq α][LawfulBEq α]:∀{K:List (α×β)}{a:α}{o:β},K.lookup a=some o->(a,o)∈K|[],a,o,e=>by simp at e|(b,o')::r,a,o,e=>by rw[QD]at e;cases hb:a==b with|true=>rw[hb]at e;have h1:o'=o:=WL e;have h2:a=b:=eq_of_beq hb;rw[h1,h2];exact Wi|false=>rw[hb]at e;exact Wf _ (EE e)
theorem Tz{a:Addr}{o:Obj}(h:ye K=true)(e:K.lookup a=some o)(hc:o.cls=.type "list"):False:=by have hm:(a,o)∈(K:List (Addr×Obj)):=EE e;have h1:=WW.mp h (a,o) hm;have h2:(match o.cls with|.type t=>!t=="list"|_=>true)=true:=h1;rw[hc]at h2;have h3:!("list":String)=="list"=true:=h2;rw[beq_self_eq_true]at h3;cases h3
theorem TB{a:Addr}{E:XK}(hK:ye K=true)(hS:cp K H a (ns.map V.int))(hG:∃aG,G [.pure (.lst (ns.map .int))]=some (.pure (.bl true),aG)):kK 1 G [.ref a] H (λv y=>v=.bl true) E:=by
 have hR:Rd H a (.lst (ns.map V.int)):=by
  rcases hS with h|⟨o,its,n,e,hc,_⟩;.exact h
  .exact(Tz hK e hc).elim
 obtain⟨aG,hg⟩:=hG;have rep:∀O:Addr->Prop,¬O a->Rep H O (.ref a) (.lst (ns.map D.int)):=λO hO=>.lst hO hR V' λi v d e1 e2=>by rw[Ws]at e1 e2;cases e:ns[i]? with|none=>rw[e]at e1;cases e1|some k=>rw[e]at e1 e2;cases e1;cases e2;exact .int k
 refine⟨[.pure (.lst (ns.map .int))],λy=>False,rfl,⟨λb o e y=>e,λb z=>z.elim,λb⟨i,z⟩=>?_,rfl,λi d e=>?_,λi d e=>?_,λi j b d d' e1 e2 e3 e4=>?_,λp z=>?_⟩,_,aG,hg,λv H' x r=>?_⟩;.simp[bX]at z
 .cases i with
 |zero=>
 simp at e;subst e;refine⟨.ref a,rfl,rep _ λz=>?_⟩;rcases z with z|⟨j,d',z1,z2⟩;.exact z
 .cases j with|zero=>simp at z1|succ j=>simp at z1
 |succ i=>simp at e
 .cases i with|zero=>simp at e|succ i=>simp at e
 .cases i with|zero=>simp at e1|succ i=>simp at e1
 .simp[bX]at z
 .cases r;rfl
theorem TC{l:PySem.W.OpenLaw}{q:Wm}{d:DefRec}{K:Params->W3}{k:Nat}(hn:l.most=some 63)(p9:d.params.defaults=[])(hr:dz k callerA)(hY:∀(w:Wu)(h:Heap),YP w h->(K w.params).In h)(hL:∀p:Params,ye (K p)=true)(hG:∀ns:List Int,ns.length<=63->∃aG,G [.pure (.lst (ns.map .int))]=some (.pure (.bl true),aG))(F:∀(w:Wu)(mg:Str->Option Value)(fa:Addr)(h:Heap),(K w.params).In h->h.Ns Wv mg->mg d.name=some (.ref fa)->∃fd:Ql,(∀(s:W1)(u:Value),BindsTo s fd ⟨[u],[]⟩ [("script",u)])/\∀base:Heap,(K w.params).In base->base.Ns Wv mg->gN l.prog w (K w.params) mg base fG k fa fd ["script"] (kK 1 G)):PySem.W.WalkO q loose XP YP l.row.toRowW d [] λf vs=>PySem.call f vs:=Lake.O3 (n:=63) (k:=k) (x:="script") (CX:=λj=>fG) (sp:=λj=>kK 1 G) hn Z' p9 hr hY F (λw H a ns hl j hS=>TB (hL w.params) hS (hG ns hl)) λj j j j j z=>z
def yf(x:Str):It:=⟨λi j=>i<x.cps.size,λi H y H'=>H'=H/\∃c,x.cps[i]?=some c/\y=.str ⟨#[c]⟩,λi j=>i=x.cps.size⟩
theorem TF(x:Str)(t:Tok)(it:Addr)(T:String)(hT:T="str_ascii_iterator"\/T="str_iterator"):Turn P w K tg (yf x) [it] it λi h=>h.IsStrIter it T x t i:=by
 have W:∀A:Wp,A.handled=none->Walks P w A it [it] [it] x.cps.size (SignAt x) λi h=>h.IsStrIter it T x t i:=λA hh=>by
  rcases hT with rfl|rfl;.exact Walks.strAscii hh it x t
  .exact Walks.strWide hh it x t
 refine⟨V',λi h st b hb=>?_,λi h h' st k=>?_,?_,?_,λA i s Q E st h=>?_⟩;.have e:b=it:= ~~~hb;subst e;obtain⟨o,e,c,d⟩:=st;exact⟨o,e,λv z=>by rw[d]at z;cases z⟩
 .obtain⟨o,e,r⟩:=st;exact⟨o,k it V' o e,r⟩
 .intro X hP hw hK hc i pins s Y H E I hf st hg;subst hP hw hK;obtain⟨f0,f1,f2,f3,f4,f5⟩:=hf it V';refine(W X.A (I.ok.hd hc)).item i s _ _ hg st λv h' tk hv ax kk=>?_;obtain⟨c,u,hx,rfl⟩:=hv;have I1:Inv X pins Y H {s with heap:=h',toks:=tk}:=I.turned (λb o hb e=>kk b o (~~~hb) e) f0 f1 f3 f4 f5;obtain⟨o,e,c',d⟩:=id ax;refine⟨_,rfl,s_ (s:={s with heap:=h',toks:=tk}) e c' d (by rcases hT with rfl|rfl<;>decide) ⟨.str ⟨#[c]⟩,H,I1,⟨u,rfl⟩,⟨rfl,c,hx,rfl⟩,ax,λb hb=>(hf b hb).1⟩⟩
 .intro X hP hw hK hc i pins s Y H E I hf st hg;subst hP hw hK;have tO:i=x.cps.size:=hg;subst tO;obtain⟨f0,f1,f2,f3,f4,f5⟩:=hf it V';exact(W X.A (I.ok.hd hc)).done s _ _ st λh' tk eb=>⟨rfl,I.turned (λb o hb e=>eb b o (~~~hb) e) f0 f1 f3 f4 f5⟩
 grind[wpAny_pyIter_striter_ascii,wpAny_pyIter_striter_wide]
section
variable{c:Fc}
def TH(K:W3)(tl:TE):TI:=λY H R=>tl Y H λx H1=>(∃a,x=.ref a/\(∃xs,cp K H1 a xs)/\R (BH K a) H1)\/(∃a,x=.ref a/\(∃xs,cK K H1 a xs)/\R (wu K a) H1)\/∃z,x=.str z/\R (yf z) H1
theorem TJ{l:Expr}{tl:TE}(hl:PE X l tl):PI X tg l (TH X.K tl):=by
 intros R I h;refine aZ (hl pins s Y H _ I h) λv s1 hh=>?_;obtain⟨x,H1,I1,r1,q1⟩:=hh;rcases q1 with q1|q1|⟨z,e,q⟩;.obtain⟨a,e,⟨xs,hq⟩,q⟩:=q1;subst e;cases r1;obtain⟨its,rv,p,hz⟩:=I1.list hq;refine JO p.isList ?_;refine⟨s1.heap.objs.size,[s1.heap.objs.size],_,_,H1,rfl,I1.kept (t':=s1.toks) λb o e=>W5 _ e,Nu a _,⟨_,We _ rfl,rfl,rfl⟩,λb hb=>?_,q⟩;have e:b=s1.heap.objs.size:= ~~~hb;subst e;exact I1.jo (W7 _) (I1.aB.fresh (W7 _))
 .obtain⟨a,e,⟨xs,hq⟩,q⟩:=q1;subst e;cases r1;obtain⟨its,rv,p,hz⟩:=I1.tuple hq;refine Ud (show s1.heap.IsTuple a its.toArray from p) ?_;refine⟨s1.heap.objs.size,[s1.heap.objs.size],_,_,H1,rfl,I1.kept (t':=s1.toks) λb o e=>W5 _ e,Nv a _,⟨_,We _ rfl,rfl,rfl⟩,λb hb=>?_,q⟩;have e:b=s1.heap.objs.size:= ~~~hb;subst e;exact I1.jo (W7 _) (I1.aB.fresh (W7 _))
 .subst e;obtain⟨t,rfl⟩:=r1;refine wpAny_pyIter_strU ?_;have hT:Jt z="str_ascii_iterator"\/Jt z="str_iterator":=by
   unfold Jt;split;.exact .inl rfl
   .exact .inr rfl
  refine⟨s1.heap.objs.size,[s1.heap.objs.size],_,_,H1,rfl,I1.kept (t':=s1.toks) λb o e=>W5 _ e,TF z t _ _ hT,⟨_,We _ rfl,rfl,rfl⟩,λb hb=>?_,q⟩;have e:b=s1.heap.objs.size:= ~~~hb;subst e;exact I1.jo (W7 _) (I1.aB.fresh (W7 _))
theorem TK(z:Tx):oB c Y Z H (yf (toS z)) (z.map λn=>D.str [n]):=by intro H2 kp;have hsz:(toS z).cps.size=z.length:=#v[toS];refine⟨by show(z.map _).length=_;rw[hsz];simp,λi d e=>?_⟩;rw[Ws]at e;cases ez:z[i]? with|none=>rw[ez]at e;cases e|some n=>rw[ez]at e;cases e;have hi:i<z.length:=(W8.mp ez).1;refine⟨by show i<_;rw[hsz];exact hi,λx H3⟨e3,cc,hc,hx⟩=>.inl ⟨e3,?_⟩⟩;have:(toS z).cps[i]?=z[i]?:=#v[toS];rw[this,ez]at hc;cases hc;rw[hx];exact .str [n]
def a7(f:DE):DI:=λZ=>(f Z).bind λr S'=>match r.d with|.lst ds=>.ok ds S'|.tup ds=>.ok ds S'|.str x=>.ok (x.map λn=>.str [n]) S'|_=>.stuck
universe H in theorem TM(he:SE X c e fe):SI X c tg e (a7 fe):=PI.weak (TJ he) λY H R⟨Z,k,q⟩=>by
 unfold a7 at q;rw[bx]at q;refine⟨Z,k,aT q λr S' q1 v H1 a1 r1=>?_⟩;have rr:=r1.rep;generalize r.d=d at q1 rr;cases d<;>first|exact q1.elim|skip
 .cases rr;exact .inr (.inr ⟨_,rfl,q1 _ H1 a1 (TK _)⟩)
 .cases rr with|tup h1 h2 h3 h4=>exact .inr (.inl ⟨_,rfl,⟨_,.of h2⟩,q1 _ H1 a1 (Sj _ h2 (λz=>h1 (.inr z)) ⟨h3,h4⟩)⟩)
 .cases rr with|lst h1 h2 h3 h4=>refine .inl ⟨_,rfl,⟨_,.inl h2⟩,q1 _ H1 a1 ?_⟩;intro H2 kp;rename_i a vs;have h5:Rd H2 a (.lst vs):=Rd.keep h2 λo e=>kp a o e λz=>h1 (.inr z);have r':aH H1 (Av c Y S') vs _:=⟨h3,h4⟩;refine⟨⟨vs,.inl h5,%[r'.1|W7 _]⟩,λi d e=>?_⟩;obtain⟨v,ev,rv⟩:=r'.get e;refine⟨⟨vs,v,.inl h5,ev⟩,λx H3⟨e3,y⟩=>.inl ⟨e3,?_⟩⟩;have:=y vs (.inl h5);grind
end
theorem EF:∀{xs:List Nat}{us:List Value},us.length=xs.length->(∀(j n:Nat)(v:Value),xs[j]?=some n->us[j]?=some v->∃w,v=.str ⟨#[n]⟩ w)->Vals (xs.map λn=>V.str ⟨#[n]⟩) us|[],[],_,_=>.nil|[],u::us,h,_=>by simp at h|x::xs,[],h,_=>by simp at h|x::xs,u::us,h,k=>.cons (by obtain⟨w,e⟩:=k 0 x u rfl rfl;exact⟨w,e⟩) (EF (~~~h) λj n v h1 h2=>k (j+1) n v (~~~h1) (~~~h2))
theorem TN(hc:X.calm=true):dM X (.type "list") λxs H Q=>∃z:Str,xs=[.str z]/\z.cps.size<=W9/\∀l,H l=none->Q (.ref l) (upd H l (.lst (z.cps.toList.map λn=>V.str ⟨#[n]⟩))):=by
 intros xs us Q I r h;obtain⟨z,rfl,hz,q⟩:=h;obtain⟨u,rfl,t,rfl⟩:=fQ r;refine call_list_str (hn:=hz) (I.ok.hd hc) z t λh' tk acc c' kp e qA=>?_;have hv:Vals (z.cps.toList.map λn=>V.str ⟨#[n]⟩) acc.toList:=EF #v[qA.1] λj n v h1 h2=>by obtain⟨c,w,h3,h4⟩:=qA.2 j v (~~~h2);rw[show z.cps[j]?=some n by simpa using h1]at h3;cases h3;exact⟨w,h4⟩
 exact⟨.ref s.heap.objs.size,_,I.laid (t':=tk) kp (W7 _) (show bz X.prog X.w _ h' _ (.lst _)from⟨~~~hz,acc.toList,c',hv,~~~e⟩),rfl,q _ (I.aB.fresh (W7 _))⟩
theorem aN.newD(k:Ok c Y Z H)(hp:H p=none):aN c Y Z H (upd H p (.dK [])) (.ref p) (.own (.bT [])):=by refine⟨p,rfl,⟨[],cJ,rfl,λi p q e=>by simp at e⟩,λz=>k.ju hp (.inl z),k.kG hp,k.plus hp _,hp⟩
def uK:DE:=λZ=>.ok (.own (.bT [])) Z
theorem TQ{c:Fc}:SE X c (.Dict [] [] pos) uK:=PE.weak OS λY H Q⟨Z,k,q⟩=>λp hp=>q _ _ (.alloc k hp _) (aN.newD k hp)
noncomputable def qC:D->Option S|.lst ds=>some (.own (.lst ds))|.tup ds=>some (.own (.lst ds))|.str x=>if x.length<=W9 then some (.own (.lst (x.map λn=>.str [n])))else none|_=>none
section
variable{c:Fc}{a x y:Expr}{f g:DE}{p p2:Pos}
theorem EG:∀z:Tx,aH H O (z.map λn=>V.str ⟨#[n]⟩) (z.map λn=>D.str [n])|[]=>.nil|n::r=>.cons (.str [n]) (EG r)
universe H in theorem TR(hc:X.calm=true)(hg:Gl X "list")(hm:X.mg "list"=none)(he:SB X c e fb)(hs:lY e=true:=by rfl):SE X c (.Call (.Name "list" pp) [e] [] pos) (aE qC fb):=qf (r:=λv H Q=>(∃p ys,v=.ref p/\(cp X.K H p ys\/cK X.K H p ys)/\∀l,H l=none->Q (.ref l) (upd H l (.lst ys)))\/∃z:Str,v=.str z/\z.cps.size<=W9/\∀l,H l=none->Q (.ref l) (upd H l (.lst (z.cps.toList.map λn=>V.str ⟨#[n]⟩)))) (OF.or (TN hc)) λv H Q h=>by
   rcases h with⟨p,ys,e,h⟩|⟨z,e,h⟩;.exact .inl ⟨p,ys,by rw[e],h⟩
   .exact .inr ⟨z,by rw[e],h⟩
 (λc Y Z H x d s Q k rx hp q=>by cases d with
 |lst ds=>cases hp;obtain⟨a,vs,ex,ha,r⟩:=rx.lst;exact .inl ⟨a,vs,ex,.inl (.inl ha),λl hl=>q _ _ (.alloc k hl _) (aN.jv k r hl)⟩|tup ds=>cases hp;obtain⟨a,vs,ex,ha,r⟩:=rx.tup;exact .inl ⟨a,vs,ex,.inr (.of ha),λl hl=>q _ _ (.alloc k hl _) (aN.jv k r hl)⟩|str z=>
 simp only[qC]at hp;split at hp;.rename_i hz;cases hp;refine .inr ⟨toS z,rx.str,by simpa[toS]using hz,λl hl=>?_⟩;have:(toS z).cps.toList=z:=#v[toS];rw[this];exact q _ _ (.alloc k hl _) (aN.jv k (EG z) hl)
 .cases hp|_=>simp[qC]at hp) hg hm PyProof.Rows.boot_list he Z' Z' (m7 hs)
end
theorem EH:entryFor table "dict.update.loop"=some Builtin.«dict.update.loop»:=entryFor_of_tree (by kernel_rfl)
theorem m8:plainId "dict.update.loop"=true:=by decide+kernel
theorem TU:typeLookup (.type "tuple") "keys"=pure none:=by rw[typeLookup_type,JQ];kernel_rfl
theorem TV:typeLookup (.type "list") "keys"=pure none:=by rw[typeLookup_type,JQ];kernel_rfl
set_option maxRecDepth 8000 in theorem EI{xs}(hx:s.heap.get? a=some o)(hc:o.cls=.type "tuple")(l7:o.data=.seq xs k)(hd:o.dict=none)(hA:A.handled=none)(h:∀h' tk,(∀b ob,s.heap.get? b=some ob->h'.get? b=some ob)->Q none {s with heap:=h',toks:=tk}):W6 4#0 A (getAttr? (.ref a) "keys") Q E s:=by
 obtain⟨c,bT,dat,sl⟩:=o;simp only at hc l7 hd;subst hc l7 hd;obtain⟨hp,g,d,tk,os⟩:=s;have hT:∀l8,(⟨hp,g,d,l8,os⟩:W1).TypeIs (.ref a) "tuple":=λj=>⟨_,hx,rfl⟩;have f1:=sub_AttributeError;have f3:=F.slot_tuple_getattribute.lookup;have f4:=F.slot_tuple_getattribute.bind (.ref a);have f5:=am_tuple_getattr_none;have yg:=TU;unfold getAttr? getAttrBy? getAttrBy;repeat(any_goals(first|assumption|exact hT _|((with_reducible show W6 _ _ (call (Value.builtin "tuple.__getattribute__") _ _) _ _ _);refine call_meets F.slot_tuple_getattribute (hT _) am_entry_tuple_getattribute (F.args_tuple_getattribute_2 _ _) (meets_getattribute_miss_tuple a xs k sl "keys" _ yg Pi) ⟨hx,hA,λh' l8 e m9=>?_⟩)|wp_step))
 obtain⟨t',u',he⟩:=m9.there;show W6 _ _ (Ue _ _ _ _ _ _ _) _ _ _;unfold Ue;repeat(any_goals(first|assumption|wp_step))
 exact h _ _ m9.keeps
set_option maxRecDepth 8000 in theorem EJ{xs}(hx:s.heap.get? a=some o)(hc:o.cls=.type "list")(l7:o.data=.seq xs k)(hd:o.dict=none)(hA:A.handled=none)(h:∀h' tk,(∀b ob,s.heap.get? b=some ob->h'.get? b=some ob)->Q none {s with heap:=h',toks:=tk}):W6 4#0 A (getAttr? (.ref a) "keys") Q E s:=by
 obtain⟨c,bT,dat,sl⟩:=o;simp only at hc l7 hd;subst hc l7 hd;obtain⟨hp,g,d,tk,os⟩:=s;have hT:∀l8,(⟨hp,g,d,l8,os⟩:W1).TypeIs (.ref a) "list":=λj=>⟨_,hx,rfl⟩;have f1:=sub_AttributeError;have f3:=F.slot_list_getattribute.lookup;have f4:=F.slot_list_getattribute.bind (.ref a);have f5:=am_list_getattr_none;have yg:=TV;unfold getAttr? getAttrBy? getAttrBy;repeat(any_goals(first|assumption|exact hT _|((with_reducible show W6 _ _ (call (Value.builtin "list.__getattribute__") _ _) _ _ _);refine call_meets F.slot_list_getattribute (hT _) am_entry_list_getattribute (F.args_list_getattribute_2 _ _) (meets_getattribute_miss_list a xs k sl "keys" _ yg Pi) ⟨hx,hA,λh' l8 e m9=>?_⟩)|wp_step))
 obtain⟨t',u',he⟩:=m9.there;show W6 _ _ (Ue _ _ _ _ _ _ _) _ _ _;unfold Ue;repeat(any_goals(first|assumption|wp_step))
 exact h _ _ m9.keeps
def fX(kps:List (Key×V))(acc:List (Key×V)):List (Key×V):=kps.foldl (λa kv=>putK a kv.1 kv.2) acc
theorem EK{R:Result->W1->Prop}{s:W1}{dl:Addr}{i:Int}{t0:Tok}(hn:W6 4#0 A.in1 (QR (.ref it)) (λr s1=>∃(q:Addr)(k v:Value)(n:Nat),r=some (.ref q)/\s1.heap.get? q=some {cls:=.type "tuple",dict:=none,data:=.seq #[k,v] n,slots:=#[]}/\W6 4#0 A.in1 (dictSet dl k v) (λj s2=>Jd 4#0 A (.builtin "dict.update.loop" ⟨[.ref dl,.ref it,Q4 (i+1),.none],[]⟩) R s2) (λj j=>False) s1) (λj j=>False) s):Jd 4#0 A (.builtin "dict.update.loop" ⟨[.ref dl,.ref it,.int i t0,.none],[]⟩) R s:=by
 refine U9 EH ?_;rw[Around.under_plainId m8 _];show W6 _ A.in1 (QR (.ref it)>>=_) _ _ s;refine W0 (Qk hn (λr s1 hr=>?_) (by grind));obtain⟨q,k,v,n,rfl,hq,hd⟩:=hr;dsimp only;refine W0 ?_;try with_reducible refine WD ?_
 refine W0 (wpAny_tryCatch ?_);have hT:s1.TypeIs (.ref q) "tuple":=⟨_,hq,rfl⟩;unfold Builtin.Dict.pairItems;refine W0 (J3 hT ?_);rw[if_pos Z'];refine W0 ?_;unfold seqItems?;refine W0 (wpAny_load hq (W2 ?_));refine W2 ?_;show W6 _ A.in1 (holding [k,v] (dictSet dl k v)) _ _ s1;try with_reducible refine WD ?_
 refine Qk hd (λj s2 h2=>?_) (by grind);exact W2 ⟨JG m8 _,h2⟩
theorem EL{i:Int}(hn:W6 4#0 A.in1 (QR (.ref it)) (λr s1=>r=none/\R (.ok (.ret .none)) s1) (λj j=>False) s):Jd 4#0 A (.builtin "dict.update.loop" ⟨[.ref dl,.ref it,.int i t0,.none],[]⟩) R s:=by refine U9 EH ?_;rw[Around.under_plainId m8 _];show W6 _ A.in1 (QR (.ref it)>>=_) _ _ s;refine W0 (Qk hn (λr s1 hr=>?_) (by grind));obtain⟨rfl,hd⟩:=hr;dsimp only;show W6 _ A.in1 (Builtin.Dict.addKeywords dl []>>=_) _ _ s1;exact W0 (W2 (W2 hd))
theorem Rd.sub{u}(h:Rd H a u)(k:∀b o,H b=Option.some o->H' b=Option.some o):Rd H' a u:=by
 rcases h with h|⟨o,h⟩;.exact .inl (k _ _ h)
 .exact .inr ⟨o,k _ _ h⟩
def uL(H:Hp)(ys:List V)(kps:List (Key×V)):Prop:=ys.length=kps.length/\∀(i:Nat)y kv,ys[i]?=some y->kps[i]?=some kv->∃q,y=.ref q/\H q=some (.tup [kV kv.1,kv.2])
theorem EM:∀(kps acc:List (Key×V)),(fX kps acc).length<=acc.length+kps.length|[],acc=>W7 _|kv::r,acc=>by have h1:=EM r (putK acc kv.1 kv.2);have h2:=Cs acc kv.1 kv.2;show(fX r (putK acc kv.1 kv.2)).length<=_;simp only[WV];lia
theorem TX(kps:List (Key×V))(kv:Key×V)(acc:List (Key×V)):fX (kps++[kv]) acc=putK (fX kps acc) kv.1 kv.2:=by unfold fX;rw[List.foldl_append];rfl
theorem EN{ys:List V}(hP:uL H ys kps)(fu:H dl=none)(hz:kps.length<=W9)(item:∀(i:Nat)(y:V)(H':Hp)(s:W1)(Q:Option Value->W1->Prop),(∀b o,H b=some o->H' b=some o)->H' it=none->Inv X pins Y H' s->tn i s.heap->ys[i]?=some y->(∀u s',RelV y u->Inv X pins Y H' s'->tn (i+1) s'.heap->Q (some u) s')->W6 5#0 A.in1 (QR (.ref it)) Q (λc c=>False) s)(done:∀(H':Hp)(s:W1)(Q:Option Value->W1->Prop),(∀b o,H b=some o->H' b=some o)->H' it=none->Inv X pins Y H' s->tn ys.length s.heap->(∀s',Inv X pins Y H' s'->Q none s')->W6 5#0 A.in1 (QR (.ref it)) Q (λc c=>False) s)(keep:∀(i:Nat)(h h':Heap),tn i h->(∀o,h.get? it=some o->h'.get? it=some o)->tn i h')(hit:H it=none)(bN:it≠dl)(hR:∀s',Inv X pins Y (upd H dl (.dK (fX kps []))) s'->R (.ok (.ret .none)) s'):∀(k i:Nat)(s:W1)(j:Int)(t0:Tok),ys.length-i=k->i<=ys.length->Inv X pins Y (upd H dl (.dK (fX (kps.take i) []))) s->tn i s.heap->Jd 5#0 A (.builtin "dict.update.loop" ⟨[.ref dl,.ref it,.int j t0,.none],[]⟩) R s:=by
 have up:∀(acc:List (Key×V))b o,H b=some o->upd H dl (.dK acc) b=some o:=λacc b o e=>%[aY (dZ e fu)|e];have jm:∀acc:List (Key×V),upd H dl (.dK acc) it=none:=λacc=>%[aY bN|hit]
 intro k;induction k with|zero=>
 intro i s j t0 hk hi I st;have e:i=ys.length:=by lia
 subst e;rw[hP.1,QG (W7 _)]at I;refine EL (done _ s _ (up _) (jm _) I st λs' I'=>⟨rfl,hR s' I'⟩)|succ k ih=>
 intro i s j t0 hk hi I st;have bh:i<ys.length:=by lia
 have kQ:i<kps.length:=by rw[<-hP.1];exact bh
 obtain⟨q,ey,hq⟩:=hP.2 i ys[i] kps[i] #v[bh] #v[kQ];have main:∀s1,Inv X pins Y (upd H dl (.dK (fX (kps.take i) []))) s1->tn (i+1) s1.heap->∃(kk vv:Value)(n:Nat),s1.heap.get? q=some {cls:=.type "tuple",dict:=none,data:=.seq #[kk,vv] n,slots:=#[]}/\RelV (kV kps[i].1) kk/\RelV kps[i].2 vv:=λs1 I1 c=>by obtain⟨_,its,r,n,e⟩:=show bz X.prog X.w _ s1.heap q (.tup [kV kps[i].1,kps[i].2])from I1.aB q _ (up _ q _ hq);obtain⟨u,v,rfl,r1,r2⟩:=Vals.two r;exact⟨u,v,n,e,r1,r2⟩
 refine EK (item i ys[i] _ s _ (up _) (jm _) I st #v[bh] λu s' ru I' ax=>?_);rw[ey]at ru;cases ru;obtain⟨kk,vv,n,e,r1,r2⟩:=main s' I' ax;refine⟨q,kk,vv,n,rfl,e,?_⟩;obtain⟨z,hd,vs,rel,dd⟩:=Cw I'.aB cJ;have kM:vs.length<=W9:=by rw[<-rel.length];exact z
 have hl:(putK (fX (kps.take i) []) kps[i].1 kps[i].2).length<=W9:=by have h1:=Cs (fX (kps.take i) []) kps[i].1 kps[i].2;have h2:=EM (kps.take i) [];simp at h2;lia
 refine wpAny_dictSet_pairs (hsz:=kM) (p8 r1) dd λh' EO hs=>?_;have he:∃q,h'.get? dl=some q:=let⟨q,_,_,hq,_⟩:=EO;⟨q,hq⟩;have I2:=Cz (t':=s'.toks+1) I' %[cJ|True.intro] hs he (OP hl hd (rel.put kps[i].1 r2) EO);rw[nY]at I2;have et:kps.take (i+1)=kps.take i++[kps[i]]:=by simp_all
 rw[show putK (fX (kps.take i) []) kps[i].1 kps[i].2=fX (kps.take (i+1)) []by rw[et,TX]]at I2;exact ih (i+1) _ (j+1) _ Y' bh I2 (keep (i+1) _ _ ax λo eo=>(hs.2 it bN).trans eo)
theorem TY(hc:X.calm=true):dM X (.type "dict") λxs H Q=>∃p ys kps,xs=[.ref p]/\(H p=some (.tup ys)\/Rd H p (.lst ys))/\uL H ys kps/\kps.length<=W9/\∀l,H l=none->Q (.ref l) (upd H l (.dK (fX kps []))):=by
 intros xs us Q I r h;obtain⟨p,ys,kps,rfl,hp,hP,hz,q⟩:=h;obtain⟨u,rfl,rx⟩:=fQ r;cases rx;have hA:X.A.handled=none:=I.ok.hd hc;refine callType_codes (Q₁:=λobj s₁=>obj=.ref s.heap.objs.size/\s₁=9#(s.heap.push {cls:=.type "dict",data:=.dict #[]})) F.kt_called_dict (F.kt_typeCall_dict_1 _) F.entry_dict_init (kt_code_dict_new _ ⟨rfl,rfl⟩) ?_;rintro obj s₁⟨rfl,rfl⟩;have fu:H s.heap.objs.size=none:=I.aB.fresh (W7 _);have I1:Inv X pins Y (upd H s.heap.objs.size (.dK [])) 9#(s.heap.push {cls:=.type "dict",data:=.dict #[]}):=I.laid (t':=s.toks) (λj j q=>W5 _ q) (W7 _) (CA s.heap I.big);generalize i3:s.heap.objs.size=dl at fu I1;have up:∀(acc:List (Key×V))b o,H b=some o->upd H dl (.dK acc) b=some o:=λacc b o e=>%[aY (dZ e fu)|e];have qD:(9#(s.heap.push {cls:=.type "dict",data:=.dict #[]}):W1).TypeIs (.ref dl) "dict":=⟨_,by rw[<-i3];exact We _ rfl,rfl⟩;refine⟨qD,F.args_dict_init_2 _ _,?_⟩;unfold Builtin.«dict.__init__»;refine W0 ?_;unfold Builtin.Dict.selfAndRest;refine W0 (wpAny_notOrdered_dict qD ?_);show W6 _ _ (pure (dl,[Value.ref p])) _ _ _;refine W2 ?_;show W6 _ _ (JC "dict.__init__" dl (.ref p) [] .none) _ _ _;unfold JC;have fin:∀s',Inv X pins Y (upd H dl (.dK (fX kps []))) s'->EP X pins Y Q (.ref dl) s':=λs' I'=>⟨.ref dl,_,I',rfl,q dl fu⟩;rcases hp with hp|hp
 .obtain⟨_,its,r,n,e⟩:=show bz X.prog X.w _ (s.heap.push {cls:=.type "dict",data:=.dict #[]}) p (.tup ys)from I1.aB p _ (up _ p _ hp);refine W0 (J3 ⟨_,e,rfl⟩ ?_);rw[if_pos Z'];refine W0 (EI e rfl rfl rfl hA λh' tk kp=>?_);rw[if_pos (show(none:Option Value).isNone=true from rfl)];refine W0 (Qn ?_);have I2:Inv X pins Y (upd H dl (.dK [])) {s with heap:=h',toks:=tk}:=I1.kept kp;have fY:h'.IsTuple p its.toArray:=⟨_,kp _ _ e,rfl,n,rfl⟩;refine W0 (Ud (s:={s with heap:=h',toks:=tk}) fY ?_);refine W2 ⟨JG m8 _,?_⟩;have dC:upd H dl (.dK []) h'.objs.size=none:=I2.aB.fresh (W7 _);have bN:h'.objs.size≠dl:=λz=>by grind[cJ]
  have hit:H h'.objs.size=none:=by rw[aY bN]at dC;exact dC
  have fp:∀H':Hp,H' h'.objs.size=none->eQ X pins H' h'.objs.size:=λH' hn=>I2.jo (W7 _) hn;refine EN (X:=X) (pins:=pins) (Y:=Y) (H:=H) (dl:=dl) (it:=h'.objs.size) (ys:=ys) (kps:=kps) (tn:=λi h=>h.IsTupleIter h'.objs.size p i) hP fu hz ?_ ?_ (λi h h2 st k=>st.at k) hit bN (λs' I'=>⟨rfl,fin s' I'⟩) ys.length 0 _ 0 _ (Ur _) (Q6 _) ?_ ?_;.intro i y H' s' Q' sub hn I' st hy k;obtain⟨_,its2,r2,n2,e2⟩:=show bz X.prog X.w _ s'.heap p (.tup ys)from I'.aB p _ (sub p _ hp);obtain⟨v,hv,rv⟩:=r2.get hy;obtain⟨f0,f1,f2,f3,f4,f5⟩:=fp H' hn;refine wpAny_pyNext_tuple_item st (items:=its2.toArray) ⟨_,e2,rfl,n2,rfl⟩ (x:=v) (~~~hv) λh3 bu sb=>?_;exact k v {s' with heap:=h3} rv (I'.turned (t':=s'.toks) (λb o hb e=>(sb.2 b hb).trans e) f0 f1 f3 f4 f5) bu
  .intro H' s' Q' sub hn I' st k;obtain⟨_,its2,r2,n2,e2⟩:=show bz X.prog X.w _ s'.heap p (.tup ys)from I'.aB p _ (sub p _ hp);obtain⟨f0,f1,f2,f3,f4,f5⟩:=fp H' hn;have mX:=r2.length;exact wpAny_pyNext_tuple_end (show X.A.in1.in1.handled=none from hA) st (items:=its2.toArray) ⟨_,e2,rfl,n2,rfl⟩ Re λh3 eb=>k {s' with heap:=h3} (I'.turned (t':=s'.toks) (λb o hb e=>eb b o hb e) f0 f1 f3 f4 f5)
  .exact I2.kept (t':=tk) λb o e=>W5 _ e
  .exact⟨_,We _ rfl,rfl,rfl⟩
 .obtain⟨_,its,n,r,e⟩:=show bz X.prog X.w _ (s.heap.push {cls:=.type "dict",data:=.dict #[]}) p (.lst ys)from(Rd.sub hp (up _)).ok I1.aB;refine W0 (J3 ⟨_,e,rfl⟩ ?_);rw[if_pos Z'];refine W0 (EJ e rfl rfl rfl hA λh' tk kp=>?_);rw[if_pos (show(none:Option Value).isNone=true from rfl)];refine W0 (Qn ?_);have I2:Inv X pins Y (upd H dl (.dK [])) {s with heap:=h',toks:=tk}:=I1.kept kp;have fY:h'.IsList p its.toArray:=⟨_,kp _ _ e,rfl,n,rfl⟩;refine W0 (JO (s:={s with heap:=h',toks:=tk}) fY ?_);refine W2 ⟨JG m8 _,?_⟩;have dC:upd H dl (.dK []) h'.objs.size=none:=I2.aB.fresh (W7 _);have bN:h'.objs.size≠dl:=λz=>by grind[cJ]
  have hit:H h'.objs.size=none:=by rw[aY bN]at dC;exact dC
  have fp:∀H':Hp,H' h'.objs.size=none->eQ X pins H' h'.objs.size:=λH' hn=>I2.jo (W7 _) hn;refine EN (X:=X) (pins:=pins) (Y:=Y) (H:=H) (dl:=dl) (it:=h'.objs.size) (ys:=ys) (kps:=kps) (tn:=λi h=>h.IsListIter h'.objs.size p i) hP fu hz ?_ ?_ (λi h h2 st k=>st.at k) hit bN (λs' I'=>⟨rfl,fin s' I'⟩) ys.length 0 _ 0 _ (Ur _) (Q6 _) ?_ ?_;.intro i y H' s' Q' sub hn I' st hy k;obtain⟨_,its2,n2,r2,e2⟩:=show bz X.prog X.w _ s'.heap p (.lst ys)from(Rd.sub hp sub).ok I'.aB;obtain⟨v,hv,rv⟩:=r2.get hy;obtain⟨f0,f1,f2,f3,f4,f5⟩:=fp H' hn;refine wpAny_pyNext_list_item st (items:=its2.toArray) ⟨_,e2,rfl,n2,rfl⟩ (x:=v) (~~~hv) λh3 bu sb=>?_;exact k v {s' with heap:=h3} rv (I'.turned (t':=s'.toks) (λb o hb e=>(sb.2 b hb).trans e) f0 f1 f3 f4 f5) bu
  .intro H' s' Q' sub hn I' st k;obtain⟨_,its2,n2,r2,e2⟩:=show bz X.prog X.w _ s'.heap p (.lst ys)from(Rd.sub hp sub).ok I'.aB;obtain⟨f0,f1,f2,f3,f4,f5⟩:=fp H' hn;have mX:=r2.length;exact wpAny_pyNext_list_end (show X.A.in1.in1.handled=none from hA) st (items:=its2.toArray) ⟨_,e2,rfl,n2,rfl⟩ Re λh3 eb=>k {s' with heap:=h3} (I'.turned (t':=s'.toks) (λb o hb e=>eb b o hb e) f0 f1 f3 f4 f5)
  .exact I2.kept (t':=tk) λb o e=>W5 _ e
  .exact⟨_,We _ rfl,rfl,rfl⟩
def dD(aw:List (cb×D))(k:cb):Option D:=(aw.find? λkv=>decide (kv.1=k)).map (·.2)
def putD(aw:List (cb×D))(k:cb)(v:D):List (cb×D):=if(aw.any λkv=>decide (kv.1=k))=true then aw.map λkv=>if kv.1=k then(kv.1,v)else kv else aw++[(k,v)]
def m_(kps acc:List (cb×D)):List (cb×D):=kps.foldl (λa kv=>putD a kv.1 kv.2) acc
theorem TZ(h:dW k=dW j):k=j:=by
 cases k<;>cases j<;>simp[dW]at h;.rw[h]
 .rw[oj h]
def DR(H:Hp)(O:Addr->Prop):List (Key×V)->List (cb×D)->Prop|[],[]=>True|p::ws,q::ds=>p.1=dW q.1/\Rep H O p.2 q.2/\DR H O ws ds|_,_=>False
theorem DR.of:∀{ws:List (Key×V)}{ds:List (cb×D)},ws.map (·.1)=ds.map (λp=>dW p.1)->(∀(i:Nat)p q,ws[i]?=some p->ds[i]?=some q->Rep H O p.2 q.2)->DR H O ws ds|[],[],_,_=>trivial|[],_::_,h,_=>by simp at h|_::_,[],h,_=>by simp at h|p::ws,q::ds,h,k=>by simp only[Wl,Us]at h;exact⟨h.1,k 0 p q rfl rfl,DR.of h.2 λi p' q' e1 e2=>k (i+1) p' q' (~~~e1) (~~~e2)⟩
theorem DR.keys:∀{ws:List (Key×V)}{ds:List (cb×D)},DR H O ws ds->ws.map (·.1)=ds.map λp=>dW p.1|[],[],_=>rfl|[],_::_,h=>h.elim|_::_,[],h=>h.elim|p::ws,q::ds,h=>by simp only[Wl,h.1,DR.keys h.2.2]
theorem DR.vals:∀{ws:List (Key×V)}{ds:List (cb×D)},DR H O ws ds->∀(i:Nat)p q,ws[i]?=some p->ds[i]?=some q->Rep H O p.2 q.2|[],[],_,i,p,q,e,_=>by simp at e|[],_::_,h,_,_,_,_,_=>h.elim|_::_,[],h,_,_,_,_,_=>h.elim|p::ws,q::ds,h,i,p',q',e1,e2=>by cases i with|zero=>simp at e1 e2;subst e1 e2;exact h.2.1|succ i=>exact DR.vals h.2.2 i p' q' (~~~e1) (~~~e2)
theorem DR.map:∀{ws:List (Key×V)}{ds:List (cb×D)},DR H O ws ds->(∀v d,Rep H O v d->Rep H' O' v d)->DR H' O' ws ds|[],[],_,_=>trivial|[],_::_,h,_=>h.elim|_::_,[],h,_=>h.elim|p::ws,q::ds,h,k=>⟨h.1,k _ _ h.2.1,DR.map h.2.2 k⟩
theorem nc(h:p=dW q):p=dW k↔q=k:=⟨λe=>TZ (by rw[<-h];exact e),by grind⟩
theorem DR.any:∀{ws:List (Key×V)}{ds:List (cb×D)}(k:cb),DR H O ws ds->(ws.any λkv=>decide (kv.1=dW k))=ds.any λkv=>decide (kv.1=k)|[],[],_,_=>rfl|[],_::_,_,h=>h.elim|_::_,[],_,h=>h.elim|p::ws,q::ds,k,h=>by rw[QF,QF,DR.any k h.2.2];congr 1;exact decide_eq_decide.mpr (nc h.1)
theorem DR.val{H O}:∀{ws:List (Key×V)}{ds:List (cb×D)}(k:cb),DR H O ws ds->dD ds k=none/\gb ws (dW k)=none\/∃v d,dD ds k=some d/\gb ws (dW k)=some v/\Rep H O v d
 |[],[],_,_=>.inl ⟨rfl,rfl⟩|[],_::_,_,h=>h.elim|_::_,[],_,h=>h.elim|p::ws,q::ds,k,h=>by
  by_cases e:q.1=k;.have e':=(nc h.1).mpr e;exact .inr ⟨p.2,q.2,#v[dD,Qa,e],wZ e',h.2.1⟩
  .have e':¬p.1=dW k:=λz=>e ((nc h.1).mp z);have ev:dD (q::ds) k=dD ds k:=#v[dD,Qa,e];rw[ev,w8 e'];exact DR.val k h.2.2
theorem DR.append:∀{ws ER:List (Key×V)}{ds fj:List (cb×D)},DR H O ws ds->DR H O ER fj->DR H O (ws++ER) (ds++fj)|[],_,[],_,_,h'=>h'|[],_,_::_,_,h,_=>h.elim|_::_,_,[],_,h,_=>h.elim|p::ws,_,q::ds,_,h,h'=>⟨h.1,h.2.1,DR.append h.2.2 h'⟩
theorem DR.store:∀{ws:List (Key×V)}{ds:List (cb×D)}{k:cb}{v:V}{d:D},DR H O ws ds->Rep H O v d->DR H O (ws.map λkv=>if kv.1=dW k then(kv.1,v)else kv) (ds.map λkv=>if kv.1=k then(kv.1,d)else kv)
 |[],[],_,_,_,_,_=>trivial|[],_::_,_,_,_,h,_=>h.elim|_::_,[],_,_,_,h,_=>h.elim|p::ws,q::ds,k,v,d,h,r=>by
  refine⟨?_,?_,DR.store h.2.2 r⟩
  .by_cases e:q.1=k;.dsimp only;rw[if_pos ((nc h.1).mpr e),if_pos e];exact h.1
   .dsimp only;rw[if_neg λz=>e ((nc h.1).mp z),if_neg e];exact h.1
  .by_cases e:q.1=k;.dsimp only;rw[if_pos ((nc h.1).mpr e),if_pos e];exact r
   .dsimp only;rw[if_neg λz=>e ((nc h.1).mp z),if_neg e];exact h.2.1
theorem DR.put{ds}(h:DR H O ws ds)(r:Rep H O v d):DR H O (putK ws (dW k) v) (putD ds k d):=by
 unfold putK putD;rw[DR.any k h];split;.exact DR.store h r
 .exact DR.append h ⟨rfl,r,trivial⟩
theorem DR.ng:∀{kps:List (Key×V)}{uM:List (cb×D)}{ws:List (Key×V)}{ds:List (cb×D)},DR H O kps uM->DR H O ws ds->DR H O (fX kps ws) (m_ uM ds)|[],[],_,_,_,h=>h|[],_::_,_,_,h,_=>h.elim|_::_,[],_,_,h,_=>h.elim|p::kps,q::uM,ws,ds,h,h'=>by show DR H O (fX kps (putK ws p.1 p.2)) (m_ uM (putD ds q.1 q.2));rw[h.1];exact DR.ng h.2.2 (DR.put h' h.2.1)
noncomputable def eC:D->Option cb|.int i=>some (.inl i)|.str x=>some (.inr x)|_=>none
theorem ES(h:eC d=some k)(r:Rep H O v d):v=kV (dW k):=by cases d<;>simp[eC]at h<;>subst h<;>cases r<;>rfl
theorem ET(h:eC d=some k)(r:cX c Y Z H v d):v=kV (dW k):=by
 rcases r with r|⟨a,rfl,r⟩;.exact ES h r
 .cases d<;>simp[eC]at h<;>exact r.elim
noncomputable def gX:List D->Option (List (cb×D))
 |[]=>some []|.tup [k,v]::r=>match eC k,gX r with|some k',some r'=>some ((k',v)::r')|_,_=>none
 |_::_=>none
noncomputable def cZ:D->Option S|.lst ds=>(gX ds).bind λps=>if ps.length<=W9 then some (.own (.bT (m_ ps [])))else none|.tup ds=>(gX ds).bind λps=>if ps.length<=W9 then some (.own (.bT (m_ ps [])))else none|_=>none
universe H in theorem yh:∀{ds:List D}{vs:List V}{ps:List (cb×D)},gX ds=some ps->aH H O vs ds->∃kps,uL H vs kps/\DR H O kps ps/\kps.length=ps.length
 |[],[],ps,h,_=>by simp[gX]at h;subst h;exact⟨[],⟨rfl,λi y kv e=>by simp at e⟩,trivial,rfl⟩|[],_::_,_,_,r=>by have:=r.1;simp at this|_::_,[],_,_,r=>by have:=r.1;simp at this|d::ds,v::vs,ps,h,r=>by
  unfold gX at h;split at h;.grind
  .rename_i k w r' heq;cases heq;split at h;.rename_i k' r'' hk hr;cases h;obtain⟨kps,hP,hD,hL⟩:=yh hr r.tail;have rp:=r.head;cases rp with|tup h1 h2 h3 h4=>rename_i a us;rcases us with _|⟨x,_|⟨y,_|_⟩⟩<;>cases h3;have rk:=h4 0 x k rfl rfl;have rv:=h4 1 y w rfl rfl;have ek:=ES hk rk;subst ek;refine⟨(dW k',y)::kps,⟨#v[hP.1],λi z kv e1 e2=>?_⟩,⟨rfl,rv,hD⟩,#v[hL]⟩;cases i with|zero=>simp at e1 e2;subst e1 e2;exact⟨a,rfl,h2⟩|succ i=>exact hP.2 i z kv (~~~e1) (~~~e2)
   .cases h
  .cases h
theorem aN.EU{ds}(k:Ok c Y Z H)(hp:H p=none)(r:DR H (Av c Y Z) ws ds):aN c Y Z H (upd H p (.dK ws)) (.ref p) (.own (.bT ds)):=by
 have up:∀a w,H a=some w->upd H p (.dK ws) a=some w:=λa w e=>%[aY (dZ e hp)|e];have r1:DR (upd H p (.dK ws)) (Av (c.plus p) Y Z) ws ds:=r.map λv d h=>(h.bj λb z=>by
 rcases z with(z|z)|z;.exact .inl (.inl z)
 .exact .inr %[z|hp]
 .exact .inl (.inr z)).keep λb w e j=>up b w e;exact⟨p,rfl,⟨ws,cJ,r1.keys,r1.vals⟩,λz=>k.ju hp (.inl z),k.kG hp,k.plus hp _,hp⟩
section
variable{c:Fc}
theorem EV:QK "dict"=some (.type "dict"):=by decide+kernel
universe H in theorem T3(hc:X.calm=true)(hg:Gl X "dict")(hm:X.mg "dict"=none)(he:SB X c e fb)(hs:lY e=true:=by rfl):SE X c (.Call (.Name "dict" pp) [e] [] pos) (aE cZ fb):=qf (r:=λv H Q=>∃p ys kps,v=.ref p/\(H p=some (.tup ys)\/Rd H p (.lst ys))/\uL H ys kps/\kps.length<=W9/\∀l,H l=none->Q (.ref l) (upd H l (.dK (fX kps [])))) (TY hc) (λv H Q⟨p,ys,kps,e,h⟩=>⟨p,ys,kps,by rw[e],h⟩) (λc Y Z H x d s Q k rx hp q=>by cases d with
 |lst ds=>simp only[cZ]at hp;cases hps:gX ds with|none=>rw[hps]at hp;cases hp|some ps=>
 rw[hps]at hp;simp only[WB]at hp;split at hp;.rename_i hz;cases hp;obtain⟨a,vs,ex,ha,r⟩:=rx.lst;obtain⟨kps,hP,hD,hL⟩:=yh hps r;exact⟨a,vs,kps,ex,.inr ha,hP,%[hL|hz],λl hl=>q _ _ (.alloc k hl _) (aN.EU k hl (DR.ng hD (ws:=[]) (ds:=[]) trivial))⟩
 .cases hp|tup ds=>simp only[cZ]at hp;cases hps:gX ds with|none=>rw[hps]at hp;cases hp|some ps=>
 rw[hps]at hp;simp only[WB]at hp;split at hp;.rename_i hz;cases hp;obtain⟨a,vs,ex,ha,r⟩:=rx.tup;obtain⟨kps,hP,hD,hL⟩:=yh hps r;exact⟨a,vs,kps,ex,.inl ha,hP,%[hL|hz],λl hl=>q _ _ (.alloc k hl _) (aN.EU k hl (DR.ng hD (ws:=[]) (ds:=[]) trivial))⟩
 .cases hp|_=>simp[cZ]at hp) hg hm EV he Z' Z' (m7 hs)
end
theorem EW{ds}(r:cX c Y Z H v (.bT ds)):∃a ws,v=.ref a/\H a=some (.dK ws)/\DR H (Av c Y Z) ws ds:=by obtain⟨a,ws,e,h,k1,k2⟩:=r.bT;exact⟨a,ws,e,h,DR.of k1 k2⟩
def EX(neg:Bool):R2:=λx y H Q=>∃a aw k,y=.ref a/\H a=some (.dK aw)/\x=kV k/\Q (.bl (if neg then !(gb aw k).isSome else(gb aw k).isSome)) H
theorem T4(hu:X.A.units+64<Q3):bw X (WC .NotIn) (EX true):=by intros x y v u Q I rx ry h;obtain⟨a,aw,k,rfl,ha,rfl,q⟩:=h;cases ry;exact OO Y' I (og.k ha) rx λs' I'=>⟨.bl _,H,I',rfl,q⟩
def EY(K:W3)(neg:Bool):R2:=λx y H Q=>EX neg x y H Q\/Co K neg x y H Q\/∃i j,x=.str i/\y=.str j/\Q (.bl (if neg then !!(Builtin.Str.occurrences j i 0 j.length 1).isEmpty else !(Builtin.Str.occurrences j i 0 j.length 1).isEmpty)) H
theorem EZ{X:Cx}(hu:X.A.units+64<Q3):bw X (WC .NotIn) (EY X.K true):=(T4 hu).or (OB.or NT)
noncomputable def fZ(neg:Bool)(x y:D):Option S:=match y with
 |.bT ds=>(eC x).map λk=>.pure (.bl (if neg then !(dD ds k).isSome else(dD ds k).isSome))|.str y=>match x with|.str [n]=>0#(.bl (if neg then !decide (n∈y)else decide (n∈y)))|_=>none
 |.lst ds=>match x,di ds with|.str z,some ts=>0#(.bl (if neg then !ts.contains z else ts.contains z))|_,_=>none
 |.tup ds=>match x,di ds with|.str z,some ts=>0#(.bl (if neg then !ts.contains z else ts.contains z))|_,_=>none
 |_=>none
theorem E1(z:Tx)(ts:List Tx):tH (V.str (toS z)) (ts.map λz=>V.str (toS z))=ts.contains z:=by unfold tH;rw[List.any_map];induction ts with|nil=>rfl|cons t r ih=>rw[QF,List.contains_cons,ih];congr 1;show(toS t==toS z)=(z==t);rw[oq,Bool.beq_comm]
theorem E2(ts:List Tx):(ts.map λz=>V.str (toS z)).all kz=true:=by rw[JP];exact List.all_eq_true.mpr λj j=>rfl
universe H in theorem E3{K:W3}(neg:Bool):cu (EY K neg) (fZ neg):=by
 intro c Y Z H x y d e s Q k rx ry hp q;cases e<;>first|(simp[fZ]at hp;done)|skip
 .rename_i z;simp only[fZ]at hp;split at hp<;>first|(cases hp;done)|skip
  rename_i n;cases hp;refine .inr (.inr ⟨toS [n],toS z,rx.str,ry.str,?_⟩);rw[show toS [n]=⟨#[n]⟩from rfl,PySem.StrLaws.found_one,show(toS z).cps.toList=z by simp[toS]];exact q _ H (.refl k) (.bl _)
 .rename_i ds;simp only[fZ]at hp;split at hp<;>first|(cases hp;done)|skip
  rename_i z ts ht;cases hp;obtain⟨a,vs,ea,ha,r⟩:=ry.tup;have ev:=qg ht r;refine .inr (.inl ⟨a,vs,ea,.inr (.of ha),by rw[rx.str];rfl,%[ev|E2 ts],?_⟩);rw[rx.str,ev,E1];exact q _ H (.refl k) (.bl _)
 .rename_i ds;simp only[fZ]at hp;split at hp<;>first|(cases hp;done)|skip
  rename_i z ts ht;cases hp;obtain⟨a,vs,ea,ha,r⟩:=ry.lst;have ev:=qg ht r;refine .inr (.inl ⟨a,vs,ea,.inl (.inl ha),by rw[rx.str];rfl,%[ev|E2 ts],?_⟩);rw[rx.str,ev,E1];exact q _ H (.refl k) (.bl _)
 .rename_i ds;simp only[fZ]at hp;cases hk:eC d with|none=>rw[hk]at hp;cases hp|some kk=>
   rw[hk]at hp;cases hp;obtain⟨a,ws,ea,ha,dr⟩:=EW ry;refine .inl ⟨a,ws,dW kk,ea,ha,ET hk rx,?_⟩;have:(gb ws (dW kk)).isSome=(dD ds kk).isSome:=by
    rcases dr.val kk with⟨e1,e2⟩|⟨v,d,e1,e2,_⟩;.rw[e1,e2];rfl
    .rw[e1,e2];rfl
   rw[this];exact q _ H (.refl k) (.bl _)
def yj:R2:=λx y H Q=>∃a aw k v,x=.ref a/\H a=some (.dK aw)/\y=kV k/\gb aw k=some v/\Q v H
noncomputable def cE:D->D->Option S|.bT ds,k=>(eC k).bind λk=>(dD ds k).map .pure|x,y=>ag x y
theorem T5(hu:X.A.units+64<Q3):ip X yj:=by intro value slice pins s Y H x y v u Q I rx ry h hs;obtain⟨a,aw,k,w,rfl,ha,rfl,hv,q⟩:=h;cases rx;obtain⟨_,_,vs,_,dd⟩:=Cw I.aB ha;have hT:s.TypeIs (.ref a) "dict":=dd.typeIs;exact tail_any hT F.slot_dict_getitem.lookup (ON (v:=w) Y' I (by rw[<-hv];exact og.k ha) ry λw' s' I' b_=>⟨w,H,I',b_,q⟩) hs
theorem E4:cu (λx y H Q=>yj x y H Q\/tG K x y H Q) cE:=by intro c Y Z H x y d e s Q k rx ry hp q;cases d with
 |bT ds=>simp only[cE]at hp;cases hk:eC e with|none=>rw[hk]at hp;cases hp|some kk=>
 rw[hk]at hp;simp only[WB,Qo]at hp;obtain⟨dv,hv,rfl⟩:=hp;obtain⟨a,ws,ea,ha,dr⟩:=EW rx;rcases dr.val kk with⟨e1,e2⟩|⟨v,d',e1,e2,r⟩;.grind
 .rw[e1]at hv;cases hv;exact .inl ⟨a,ws,dW kk,v,ea,ha,ET hk ry,e2,q v H (.refl k) r⟩
 |_=>exact .inr (xM c Y Z H x y _ e s Q k rx ry hp q)
open Sem(wp)
section
open AutoSeq1(wpAny_loadPart')
theorem T6{items}(hit:s.heap.IsTupleIter it l i)(hl:s.heap.IsTuple l items)(hx:items[i]?=some x)(hQ:∀h',h'.IsTupleIter it l (i+1)->Jh it s.heap h'->Q x 9#h'):W6 4#0 A (WP (.ref it)) Q E s:=by obtain⟨o,ho,hc,hd⟩:=id hit;obtain⟨ol,qE,_,nl,fu⟩:=hl;unfold WP;refine W0 (Qi (name:=Str.ofString "__next__") hit.typeIs Jm (WY Jm hit.typeIs F.entry_tuple_iterator_next ?_ (F.args_tuple_iterator_next_1 _)));show W6 _ _ (field (.ref it) 0>>=_) _ _ s;refine W0 (WF ho hd (x:=.ref l) rfl ?_);show W6 _ _ (if(Value.ref l==Value.none)=true then _ else _) _ _ s;rw[if_neg (show¬(Value.ref l==Value.none)=true from WR)];show W6 _ _ (field (.ref it) 1>>=_) _ _ s;refine W0 (WF ho hd (x:=.int i 0) rfl ?_);show W6 _ _ (seqItems? (.ref l)>>=_) _ _ s;refine W0 (QA qE fu ?_);simp only[QS,hx];refine W0 (Ju ho hd V' (W2 ⟨x,rfl,W2 (hQ _ ?_ (Jb ..))⟩));exact⟨_,Qh _ ho (Obj.isFreed_of_fields (Obj.data_mapFields hd _)),(Obj.cls_mapFields ..).trans hc,by rw[Obj.data_mapFields hd];simp[Q4]⟩
theorem T7{items}(hh:A.handled=none)(hit:s.heap.IsTupleIter it l i)(hl:s.heap.IsTuple l items)(hx:items[i]?=none)(hE:∀h' e,Heap.ExtBut it s.heap h'->(∃o,h'.get? e=some o/\o.cls=.type "StopIteration")->E (.ref e) 9#h'):W6 4#0 A (WP (.ref it)) Q E s:=by
 obtain⟨o,ho,hc,hd⟩:=id hit;obtain⟨ol,qE,_,nl,fu⟩:=hl;unfold WP;refine W0 (Qi (name:=Str.ofString "__next__") hit.typeIs Jm (WY Jm hit.typeIs F.entry_tuple_iterator_next ?_ (F.args_tuple_iterator_next_1 _)));show W6 _ _ (field (.ref it) 0>>=_) _ _ s;refine W0 (WF ho hd (x:=.ref l) rfl ?_);show W6 _ _ (if(Value.ref l==Value.none)=true then _ else _) _ _ s;rw[if_neg (show¬(Value.ref l==Value.none)=true from WR)];show W6 _ _ (field (.ref it) 1>>=_) _ _ s;refine W0 (WF ho hd (x:=.int i 0) rfl ?_);show W6 _ _ (seqItems? (.ref l)>>=_) _ _ s;refine W0 (QA qE fu ?_);simp only[QS,hx];refine W0 (Qn (W0 (Ju ho hd V' ?_)));show W6 _ _ (newExc (.type "StopIteration") []>>=_) _ _ _;refine W0 ?_;simp only[newExc,newTuple];refine W0 (WZ ?_ (by size_fits));refine W0 (m:=firstArgMember _ _) (wpAny_of_eq (a:=Value.none) (by first|rfl|(simp only[firstArgMember];rfl)) ?_);refine WZ ?_ (by size_fits);simp only[raiseNew];refine W0 (wpAny_handled ?_);first|rw[show A.in1.handled=none from hh]|rw[hh]
 refine W0 (W2 (wpAny_throw ?_));exact hE _ _ (((Jb ..).extBut.push _).push _) ⟨_,We _ rfl,rfl⟩
theorem IsTuple.at'{h:Heap}{l:Addr}(x:h.IsTuple l items)(k:∀o,h.get? l=some o->h'.get? l=some o):h'.IsTuple l items:=by obtain⟨o,ho,r⟩:=x;exact⟨o,k o ho,r⟩
theorem Draws.tuple'(hh:A.handled=none)(it l:Addr)(bN:l≠it)(items:Array Value):Draws prog w A it [it,l] items.size (λi v=>items[i]?=some v) λi h=>h.IsTupleIter it l i/\h.IsTuple l items where
 live:=λj j st=>let⟨o,ho,_⟩:=st.1;⟨o,ho⟩
 frame:=λj j j st hk=>⟨st.1.at λo e=>hk it V' o e,IsTuple.at' st.2 λo e=>hk l V' o e⟩
 item:=λi s Q E hi st hQ=>by refine T6 st.1 st.2 (x:=items[i]) #v[hi] λh' oG iq=>?_;exact hQ _ h' s.toks #v[hi] ⟨oG,IsTuple.at' st.2 λo e=>(iq.2 l bN).trans e⟩ iq
 done:=λs Q E st hE=>T7 hh st.1 st.2 V' hE
end
theorem Inv.uN(fp:List Addr)(I:6#0)(k:∀b o,b∉fp->s.heap.get? b=some o->h'.get? b=some o)(hf:∀b∈fp,eQ X pins H b):Inv X pins Y H {s with heap:=h',toks:=t'}:=by
 have jm:∀b u,H b=some u->b∉fp:=λb u e z=>by rw[(hf b z).1]at e;cases e
 refine I.step (g':=s.gens) (d':=s.drawn) (ch:=fp) (λb hb=>?_) (λb o j j hc e j=>k b o hc e) (λb o j j hc e j=>⟨o.slots,k b o hc e⟩) (λj j j j n=>n) (λb o hc e=>⟨o,k b o hc e⟩) (λj j e=>e) (λj j j e=>e) (λb ps e=>⟨#[],by rw[e];simp⟩) (λm hm=>?_) (λb u e=>?_) I.bare;.obtain⟨f0,f1,f2,f3,f4,f5⟩:=hf b hb;exact⟨f3,f1,f4,f5⟩
 .obtain⟨o,es,ep,ho,r⟩:=hm;exact⟨o,es,ep,k _ o (λz=>(hf _ z).2.1 rfl) ho,r⟩
 .refine(I.aB b u e).e8 (λc v hc q=>k c v ?_ q) (λj q=>q) (λj j q=>q) λj j j q=>q;rcases hc with z|z;.rw[z];exact jm b u e
  .exact jm c _ z
theorem T8(n:Nat):QI none none (-1) (n:Int)=((n:Int)-1,-1):=by unfold QI;simp
theorem T9(n:Nat):Qm ((n:Int)-1) (-1) (-1)=n:=by unfold Qm;simp;try lia
theorem T_{t:Tok}{Q:Int×Int×Nat->W1->Prop}(hs:s.heap.IsSliceOf sl .none .none (.int (-1) t))(h:Q ((n:Int)-1,-1,n) s):W6 4#0 A (Jk (.ref sl) (pure (n:Int))) Q E s:=by obtain⟨os,hos,hcs,hds⟩:=id hs;unfold Jk Builtin.Slice.sliceFields;refine W0 (W0 (WF hos hds (x:=.none) rfl (W0 (WF hos hds (x:=.none) rfl (W0 (WF hos hds (x:=.int (-1) t) rfl (W2 ?_)))))));refine W0 (slicePart_int ?_);show W6 _ _ (if((-1:Int)==0)=true then _ else _) _ _ s;rw[if_neg Z'];refine W0 (slicePart_none (W0 (slicePart_none (W0 (W2 ?_)))));show W6 _ _ (match QI none none (-1) (n:Int)with|(lo,hi)=>pure (lo,(-1:Int),Qm lo hi (-1))) _ _ s;rw[T8 n];show W6 _ _ (pure ((n:Int)-1,(-1:Int),Qm ((n:Int)-1) (-1) (-1))) _ _ s;rw[T9];exact W2 h
theorem E5{f}:∀{l:List α},(∀x∈l,f x=g x)->l.filterMap f=l.filterMap g|[],_=>rfl|x::l,h=>by rw[Jz,Jz,h x V',E5 λy hy=>h y #v[hy]]
theorem Uv(xs:Array Value):((Wx xs.size).filterMap λ(m:Nat)=>xs[(((xs.size:Int)-1)+(m:Int)*-1).toNat]?).toArray=xs.toList.reverse.toArray:=by
 have e:((Wx xs.size).filterMap λ(m:Nat)=>xs[(((xs.size:Int)-1)+(m:Int)*-1).toNat]?)=((Wx xs.size).map λk=>xs.size-1-k).filterMap (xs[.]?):=by
  rw[List.filterMap_map];refine E5 λm hm=>?_;have:(((xs.size:Int)-1)+(m:Int)*-1).toNat=xs.size-1-m:=by have:=List.mem_range.mp hm;lia
  simp only[this,Function.comp]
 rw[e,PySem.W.krv_range,List.filterMap_reverse,PySem.W.krv_all]
theorem Uw(ht:IsTup s.heap t items)(hs:s.heap.IsSliceOf sl .none .none (.int (-1) tk))(h:Q (.ref s.heap.objs.size) 9#(s.heap.push {cls:=.type "tuple",data:=.seq items.toList.reverse.toArray}))(hsz:items.size<=W9):W6 4#0 A (JZ (.ref t) (.ref sl)) Q E s:=by
 have ku:sizeOk (.seq items.toList.reverse.toArray):=by show items.toList.reverse.toArray.size<=W9;simpa using hsz
 obtain⟨os,hos,hcs,hds⟩:=id hs;have pV:s.TypeIs (.ref sl) "slice":=⟨os,hos,hcs⟩;unfold JZ;try with_reducible refine WD ?_
 first|refine W0 (W2 ?_)|skip
 refine W0 (wpAny_sequenceKey ht.typeIs Z' ?_);refine W0 (Qi (name:=Str.ofString "__getitem__") ht.typeIs Qs (WY Qs ht.typeIs entry_tuple_getitem ?_ (args_tuple_getitem _ _)));show W6 _ _ (Jl (.ref t)>>=_) _ _ s;refine W0 (tupleItemsOf_ ht ?_);refine W0 (J3 pV ?_);rw[if_pos Z'];refine W0 (T_ hs ?_);have gx:¬(((items.size:Int)-1)==0&&(-1:Int)==1&&items.size==items.size)=true:=by intro q;rw[Wr,Wr]at q;exact absurd q.1.2 Z'
 show W6 _ _ (if(((items.size:Int)-1)==0&&(-1:Int)==1&&items.size==items.size)=true then _ else _) _ _ s;rw[if_neg gx,Uv];first|exact W0 (m:=Qp _) (WZ (W2 ⟨_,rfl,W2 h⟩) ku)|exact W0 (m:=Qp _) (WZ (W0 (W2 (W2 ⟨_,rfl,W2 h⟩))) ku)|exact W0 (W0 (m:=Qp _) (WZ (W2 (W2 ⟨_,rfl,W2 h⟩)) ku))|exact W0 (W0 (m:=Qp _) (WZ (W2 ⟨_,rfl,W2 h⟩) ku))
theorem Ux:lN X λx H Q=>∃a xs,x=.ref a/\cK X.K H a xs/\∀p,H p=none->Q (.ref p) (upd H p (.tup xs.reverse)):=by intros x v t sl Q I rx hs h;obtain⟨a,xs,rfl,hx,q⟩:=h;cases rx;obtain⟨its,r,ht,hz⟩:=I.tuple hx;have hlen:=r.length;refine⟨"tuple",_,PyProof.Rows.slot_tuple_getitem.lookup,ht.typeIs,?_⟩;refine Uw ht hs ?_ (by rw[Wn];lia);refine⟨.ref s.heap.objs.size,_,I.laid (t':=s.toks) (o:=.tup xs.reverse) (λb ob q=>W5 _ q) (W7 _) ?_,rfl,q _ (I.aB.fresh (W7 _))⟩;exact⟨%[List.length_reverse|hz],_,r.reverse,iS.new _ _⟩
section
variable{c:Fc}{p2:Pos}
noncomputable def l9:D->Option S|.tup ds=>0#(.tup ds.reverse)|d=>uq d
def Uy(K:W3):V->Hp->VK->Prop:=λx H Q=>(∃a xs,x=.ref a/\cK K H a xs/\∀p,H p=none->Q (.ref p) (upd H p (.tup xs.reverse)))\/RW K x H Q
universe H in theorem Uz{st:Expr}(he:SB X c e fb)(dw:PE X st (tC (.int (-1)))):SE X c (.Subscript e (.Slice none none (some st) p2) pos) (aE l9 fb):=PE.weak (P7 (r:=Uy X.K) (Ux.or (P_.or Q_)) he dw) λY H Q h=>oz (λc Y Z H x d s Q k rx hp q=>by cases d with
 |tup ds=>simp only[l9,Wb]at hp;subst hp;obtain⟨a,vs,ea,ha,ra⟩:=rx.tup;exact .inl ⟨a,vs,ea,.of ha,λp hp=>q _ _ (.alloc k hp _) (aN.om k ra.reverse hp)⟩|str z=>
 simp only[l9,uq]at hp;split at hp;.rename_i hz;simp only[Wb]at hp;subst hp;exact .inr (.inl ⟨z,rx.str,hz,q _ H (.refl k) (.str _)⟩)
 .cases hp|lst ds=>simp only[l9,uq,Wb]at hp;subst hp;obtain⟨a,vs,ea,ha,ra⟩:=rx.lst;exact .inr (.inr ⟨a,vs,ea,.inl ha,λp hp=>q _ _ (.alloc k hp _) (aN.jv k ra.reverse hp)⟩)|_=>simp[l9,uq]at hp) h
noncomputable def uO:D->Bool|.aD=>true|_=>false
noncomputable def j7(neg:Bool)(d e:D):Option S:=match e with|.aD=>0#(.bl (neg !=uO d))|_=>none
theorem E6:cu (λx y H Q=>y=.aD/\Q (.bl (decide (x=.aD))) H) (j7 false):=by
 intro c Y Z H x y d e s Q k rx ry hp q
 cases e with|aD=>
  simp only[j7,Wb]at hp;subst hp;have ey:y=.aD:=by
   rcases ry with r|⟨a,e,o⟩;.cases r;rfl
   .exact o.elim
  have:decide (x=V.aD)=(false !=uO d):=by
   rcases rx with r|⟨a,e,o⟩;.cases r<;>simp[uO]
   .subst e;cases d<;>first|exact o.elim|simp[uO]
  exact⟨ey,%[this|q _ H (.refl k) (.bl _)]⟩|_=>simp[j7]at hp
end
theorem E7(hu:X.A.units+64<Q3):ip X λx y H Q=>yj x y H Q\/tG X.K x y H Q:=(T5 hu).or wV
section
variable{c:Fc}
def oH(np:List Nat)(i:Nat)(fe:DE):DS:=λZ=>match Z[i]? with
 |some 0#(.int a)=>(fe Z).bind λr S'=>match r with|.pure (.int b)=>if np.contains i then .stuck else .ok .next (S'.set i 0#(.int (a+b)))|_=>.stuck
 |_=>.stuck
universe H in theorem UA(hp:Np c np)(hN:X.N.Nodup)(hi:X.N[i]?=some x)(hx:Loc X.env.scope x)(he:SE X c e fe)(hf:X.fn x=true\/X.env.scope.names.lookup x=some .local):SS X c (.AugAssign (.Name x pos') .Add e pos) (oH np i fe):=PS.weak (Nq hN hi hx he NL hf) λD Y H⟨Z,k,q⟩=>by
 unfold oH eK at q;split at q
 .rename_i a ea;obtain⟨v,e1,r⟩:=k.slot i _ ea;cases r;refine⟨.int a,e1,Z,k,?_⟩;rw[bx]at q;refine aT q λr S' q1 v H1 a1 r1=>?_;split at q1
  .rename_i b;cases r1;split at q1;.exact q1.elim
   .rename_i hn;refine⟨a,b,rfl,rfl,?_⟩;exact q1 _ H1 (Ok.set a1 (show aN c Y S' H H1 (.int (a+b)) (.pure (.int (a+b)))from .int _) λp hm e=>hn (by rw[<-e];exact hp p hm))
  .exact q1.elim
 .exact q.elim
end
def i7(h:Heap)(a C T:Addr)(dx:Option Addr)(fl:Value):Prop:=∃vs sl oT ts a0,h.get? a=some ⟨.ref C,dx,.fields vs,sl⟩/\vs[0]?=some a0/\vs[1]?=some (.ref T)/\T≠a/\h.get? T=some oT/\oT.data=.fields ts/\ts[3]?=some fl
structure yl(h h':Heap)(fs:List Addr)(a T:Addr)(old:Value):Prop where
 new:h.get? T=none
 keep:∀b o,h.get? b=some o->b≠a->old≠.ref b->b∉fs->h'.get? b=some o
 frame:∀b o,h.get? b=some o->(∀vs,o.data≠.fields vs)->∃sl,h'.get? b=some {o with slots:=sl}
theorem E8{vs sl}(dC:A.frames=some (env::outer))(hl:s.heap.FunFrames base (env::outer))(hf:env.frame=some L)(he:s.heap.get? a=some ⟨.ref C,dx,.fields vs,sl⟩)(h0:vs[0]?=some a0)(h1:1<vs.size)(q:∀h' T,i7 h' a C T dx (Q4 L)->yl s.heap h' ((env::outer).filterMap (·.frame)) a T .none->Q () 9#h'):W6 M A (do let x<-frameOf env;let pl<-entryPlaceOf L b0;let y<-EntryCells.newEntry head x .none (Q4 L) .none pl;setField (.ref a) 1 y) Q E s:=by
 have na:a∉(env::outer).filterMap (·.frame):=λz=>by obtain⟨_,o,g1,g2⟩:=hl.mem z;rw[he]at g1;cases g1;exact g2 vs rfl
 refine W0 (wpAny_frameOf_fun dC hl hf λhA k=>W0 (wpAny_entryPlaceOf λpl bZ=>?_));unfold EntryCells.newEntry newFields;refine W0 (WZ ?_ (bZ.sizeOk5 _ _ _ _ _));have eA:hA.get? a=some ⟨.ref C,dx,.fields vs,sl⟩:=(k.2.1 a na).trans he;generalize uP:([head,.ref L,.none,Q4 L,.none]++if pl.isEmpty then WJ 6 Value.none else pl).toArray=ts;have t3:ts[3]?=some (Q4 L):=by rw[<-uP];rcases bZ with rfl|⟨_,_,_,_,_,_,_,rfl⟩<;>simp
 have eB:=W5 (h:=hA) {cls:=.type "traceback",dict:=none,data:=.fields ts} eA;have nT:hA.objs.size≠a:=QL (Wj eA);refine Ju eB rfl h1 (q _ hA.objs.size ⟨vs.setIfInBounds 1 (.ref hA.objs.size),sl,{cls:=.type "traceback",dict:=none,data:=.fields ts},ts,a0,?_,?_,?_,nT,?_,rfl,t3⟩ ⟨?_,λb o e n j nf=>?_,λb o e d=>?_⟩);.exact Qh _ eB rfl
 .rw[Array.getElem?_setIfInBounds_ne Z'];exact h0
 .simp[h1]
 .rw[Q5 _ _ (Ne.symm nT)];exact We hA rfl
 .cases z:s.heap.get? hA.objs.size with|none=>rfl|some o=>obtain⟨sl',z'⟩:=k.2.2 _ o z;exact absurd (Wj z') (QE _)
 .rw[Q5 _ _ (Ne.symm n)];exact W5 _ ((k.2.1 b nf).trans e)
 .have nb:b≠a:=λz=>by rw[z,he]at e;cases e;exact d vs rfl
  obtain⟨sl',z⟩:=k.2.2 b o e;exact⟨sl',%[Q5 _ _ (Ne.symm nb)|W5 _ z]⟩
theorem UB{vs sl}(dC:A.frames=some (env::outer))(hl:s.heap.FunFrames base (env::outer))(hf:env.frame=some L)(he:s.heap.get? a=some ⟨.ref C,dx,.fields vs,sl⟩)(h0:vs[0]?=some a0)(h1:vs[1]?=some .none)(q:∀h' T,i7 h' a C T dx (Q4 L)->yl s.heap h' ((env::outer).filterMap (·.frame)) a T .none->Q () 9#h'):W6 M A (Uc (.ref a) env) Q E s:=by unfold Uc;simp only[hf];refine W0 (WF he rfl h1 ?_);rw[if_neg Z'];exact E8 dC hl hf he h0 (Jn.mp h1).1 q
theorem UC(dC:A.frames=some (env::outer))(hl:s.heap.FunFrames base (env::outer))(hf:env.frame=some L)(hx:i7 s.heap a C T₀ dx .none)(q:∀h' T,i7 h' a C T dx (Q4 L)->yl s.heap h' ((env::outer).filterMap (·.frame)) a T (.ref T₀)->Q () 9#h'):W6 M A (Uc (.ref a) env) Q E s:=by
 obtain⟨vs,sl,oT,ts,a0,e1,e2,e3,e4,e5,e6,e7⟩:=hx;unfold Uc;simp only[hf];refine W0 (WF e1 rfl e3 ?_);rw[if_pos V'];refine W0 (WF e5 e6 e7 ?_);rw[if_neg #v[Q4]];refine W0 (Ju e5 e6 (Jn.mp e7).1 ?_);have iA:∀b,b≠T₀->(s.heap.update T₀ (Obj.mapFields (·.setIfInBounds 3 Value.none))).get? b=s.heap.get? b:=λb n=>Q5 _ _ (Ne.symm n);have E9:∀b o,s.heap.get? b=some o->(∀us,o.data≠.fields us)->b≠T₀:=λb o e d z=>by rw[z,e5]at e;cases e;exact d ts e6
 refine E8 (s:=9#(s.heap.update T₀ (Obj.mapFields (·.setIfInBounds 3 Value.none)))) dC (hl.of_keeps λb o e d=>⟨o,(iA b (E9 b o e d)).trans e,rfl⟩) hf ((iA a (Ne.symm e4)).trans e1) e2 (Jn.mp e3).1 λh' T f n=>q h' T f ⟨?_,λb o e n1 n2 n3=>?_,λb o e d=>n.frame b o ((iA b (E9 b o e d)).trans e) d⟩
 .have:=n.new;by_cases z:T=T₀;.exfalso;rw[z]at this;have g:=Qh (h:=s.heap) (Obj.mapFields (·.setIfInBounds 3 Value.none)) e5 (Obj.isFreed_of_fields (Obj.data_mapFields e6 _));rw[this]at g;cases g
  .exact(iA T z).symm.trans this
 .exact n.keep b o ((iA b λz=>n2 (by rw[z])).trans e) n1 V' n3
theorem UD{a T:Addr}{Q:Unit->W1->Prop}(hf:env.frame=some L)(hx:i7 s.heap a C T dx (Q4 L))(q:Q () s):W6 M A (Uc (.ref a) env) Q E s:=by obtain⟨vs,sl,oT,ts,a0,e1,e2,e3,e4,e5,e6,e7⟩:=hx;unfold Uc;simp only[hf];refine W0 (WF e1 rfl e3 ?_);rw[if_pos V'];refine W0 (WF e5 e6 e7 ?_);rw[if_pos V'];exact W2 q
theorem UE(hx:i7 s.heap a C T dx fl)(q:∀h',i7 h' a C T dx (o.elim .none λf=>Q4 f)->(∀b,b≠T->h'.get? b=s.heap.get? b)->Q () 9#h'):W6 M A (setFlight (.ref a) o) Q E s:=by obtain⟨vs,sl,oT,ts,a0,e1,e2,e3,e4,e5,e6,e7⟩:=hx;have hi:=(Jn.mp e7).1;have iA:∀b,b≠T->(s.heap.update T (Obj.mapFields (·.setIfInBounds 3 (o.elim Value.none λf=>Q4 f)))).get? b=s.heap.get? b:=λb n=>Q5 _ _ (Ne.symm n);unfold setFlight;refine W0 (WF e1 rfl e3 ?_);rw[if_pos V'];exact Ju e5 e6 hi (q _ ⟨vs,sl,_,_,a0,(iA a (Ne.symm e4)).trans e1,e2,e3,e4,Qh _ e5 (Obj.isFreed_of_fields (Obj.data_mapFields e6 _)),Obj.data_mapFields e6 _,#v[hi]⟩ iA)
abbrev E_:List Value:=[.type "ValueError",.type "Exception",.type "BaseException",.type "object"]
def uQ(K:W3)(C:Addr):Bool:=match K.lookup C with|none=>false|some o=>match o.data with
 |.cls cd=>match cd.mro with|[]=>false|m::bm=>m==.ref C&&PySem.W.tailIn K E_ bm&&o.cls==.type "type"&&o.slots==#[o.slots.getD 0 none,o.slots.getD 1 none,o.slots.getD 2 none,o.slots.getD 3 none,some (.builtin "ValueError.__new__"),o.slots.getD 5 none]&&!cd.hasDel&&PySem.W.nsOkIn K cd.ns&&PySem.W.nsIn K cd.ns "__init__"==some none
 |_=>false
def j8(K:W3)(C:Addr):Prop:=uQ K C=true
theorem j8.obj{h:Heap}(q:j8 K C)(X:K.In h):∃(bm:List Value)(N:Addr)(nm qn:Str)(bs:List Value)(hdct:Bool)(sn:List Str)(sub:List Value)(ab:Bool)(col:Option Bool)(dd:Option Addr)(k0 k1 k2 k3 k5:Option Value)(mN:Str->Option Value),h.get? C=some (excClassObj nm qn C N bs bm hdct sn sub ab col dd k0 k1 k2 k3 k5 "ValueError.__new__")/\h.Ns N mN/\mN "__init__"=none/\OwnTail h E_ bm:=by unfold j8 uQ at q;cases lk:K.lookup C with|none=>rw[lk]at q;cases q|some o=>rw[lk]at q;obtain⟨cl,dd,data,sl⟩:=o;cases data with
 |cls cd=>obtain⟨nm,bs,mro,ns,qn,hd,sn,sub,ab,col,del⟩:=cd;cases mro with|nil=>cases q|cons m bm=>simp only[Wr,beq_iff_eq,Uh]at q;obtain⟨⟨⟨⟨⟨⟨rfl,c4⟩,rfl⟩,c1⟩,rfl⟩,c5⟩,c6⟩:=q;rw[c1]at lk;exact⟨bm,_,_,_,_,_,_,_,_,_,dd,_,_,_,_,_,_,X _ _ lk,.of_isNs (PySem.W.isNs_of_in X c5),PySem.W.nsMap_none_of_in X c5 c6,PySem.W.tail_of_in X c4⟩
 |_=>cases q
def kR(P:Wm)(w:Wu):iX:=λouter H s E v s'=>∃(a C T:Addr)(dx:Option Addr)(H':Hp),v=.ref a/\s'.os=s.os/\AllBare s'.gens/\Un (eO outer) [] H H' s.heap s'.heap/\cG P w H' s'.heap/\i7 s'.heap a C T dx .none/\s.heap.get? a=none/\s.heap.get? T=none/\H' a=none/\H' T=none/\E (.ref C) dx H'
section
variable{x:Str}{np:Pos}
theorem UG{W:St->Hp->Prop}(q:j8 X.K C)(hc:X.calm=true)(hg:Gl X x)(hm:X.mg x=some (.ref C))(hd:(x==("__debug__":Str))=false)(oi:∀pins Y H s h' e,6#0->W Y H->Heap.MadeExcOf s.heap h' e (.ref C) []->X.xe (.ref e) 9#h'):PS X (.Raise (some (.Call (.Name x np) [] [] bV)) none pos) λj Y H=>W Y H:=by intros D I hw;obtain⟨bm,N,nm,qn,bs,hdct,sn,sub,ab,col,dd,k0,k1,k2,k3,k5,mN,hC,hN,hi,hT⟩:=q.obj I.dI;refine wpAny_Raise_call_subT (C:=C) (nm:=nm) (q:=qn) (N:=N) (bs:=bs) (bm:=bm) (hdct:=hdct) (sn:=sn) (sub:=sub) (ab:=ab) (col:=col) (dd:=dd) (k0:=k0) (k1:=k1) (k2:=k2) (k3:=k3) (k5:=k5) (mN:=mN) PySem.F.excBase_ValueError (hT.hasType rfl) (I.ok.hd hc) rfl hi (mK I hg hm ⟨rfl,?_⟩ hd);exact evalArgs_empty ⟨rfl,Q6 _,hC,hN,hT,λh' e hm=>oi pins Y H s h' e I hw hm⟩
end
theorem Inv.gone(I:6#0)(hx:X.ex=[])(e:s.heap.get? b=none):H b=none/\X.s₀.heap.get? b=none:=by
 constructor;.cases q:H b with|none=>rfl|some o=>
   exfalso;have:∃u,s.heap.get? b=some u:=by have z:=I.aB b o q;clear q;induction o with|lst xs=>obtain⟨_,_,_,_,e⟩:=z;exact⟨_,e⟩|tup xs=>obtain⟨_,_,_,_,e⟩:=z;exact⟨_,e⟩|dK aw=>obtain⟨_,_,_,_,_,_,_,e,_⟩:=z;exact⟨_,e⟩|dT aw=>obtain⟨_,_,_,_,_,_,_,e,_⟩:=z;exact⟨_,e⟩|set S n=>obtain⟨_,_,_,_,e,_⟩:=z;exact⟨_,e⟩|ins C dx fs=>obtain⟨_,_,_,e,_⟩:=z;exact⟨_,e⟩|own y=>exact z|xd fs=>obtain⟨_,⟨_,_,_,e,_⟩,_⟩:=z;exact⟨_,e⟩|jS lo hi=>obtain⟨_,_,_,e⟩:=z;exact⟨_,e⟩|frz ob u ih=>exact⟨_,z.1⟩|tbl ps=>exact⟨_,z⟩|ctab pos q=>obtain⟨_,e,_⟩:=z;exact⟨_,e⟩|dN ep aw=>obtain⟨_,_,_,_,e,_⟩:=z;exact⟨_,e⟩|met f y=>exact⟨_,z⟩|ext φ=>exact z.2.1
   obtain⟨u,q⟩:=this;rw[e]at q;cases q
 .cases q:X.s₀.heap.get? b with|none=>rfl|some o=>obtain⟨o',q'⟩:=I.base.there b o q (by rw[hx];simp);rw[e]at q';cases q'
structure Apart(X:Cx)(pins:List (Addr×Obj))(H:Hp)(b:Addr):Prop where
 old:X.s₀.heap.get? b=none
 free:H b=none
 loc:b≠X.env.locals
 jY:∀x c,X.env.cells.lookup x=some c->c≠b
 pin:∀p∈X.pn++pins,p.1≠b
section
variable{a T:Addr}
theorem Inv.mI(I:6#0)(e:X.s₀.heap.get? b=some o):b≠X.env.locals:=WQ (WG (Wj e) I.ok.above)
theorem Inv.yn(I:6#0)(ha:Apart X pins H a)(hT:Apart X pins H T)(k1:∀b o,s.heap.get? b=some o->b∉eO X.stack->b≠a->b≠T->h'.get? b=some o)(k2:∀b o,s.heap.get? b=some o->b∈eO X.stack->∃sl,h'.get? b=some {o with slots:=sl}):Inv X pins Y H 9#h':=by
 have any:∀b o,s.heap.get? b=some o->b≠a->b≠T->∃sl,h'.get? b=some {o with slots:=sl}:=λb o e n1 n2=>by
  by_cases hb:b∈eO X.stack;.exact k2 b o e hb
  .exact⟨o.slots,k1 b o e hb n1 n2⟩
 have ne:∀b o,X.s₀.heap.get? b=some o->b≠a/\b≠T:=λb o e=>⟨λz=>(by rw[z,ha.old]at e;cases e),λz=>by rw[z,hT.old]at e;cases e⟩;have Fb:∀b,b≠X.env.locals->b∉X.fs->b∉eO X.stack:=λb n1 n2 z=>(Wq.mp (I.sT b z)).elim n1 n2;have cellK:∀y c,X.env.cells.lookup y=some c->∀v,s.heap.IsCell c v->h'.IsCell c v:=λy c e v⟨o,ho,hd⟩=>by obtain⟨sl,q⟩:=any c o ho (ha.jY y c e) (hT.jY y c e);exact⟨_,q,hd⟩
 refine⟨I.ok,I.os,I.bare,⟨λb o e n hb hx=>?_,λb o e n hb hx=>?_,I.base.free,λb o e hx=>?_,I.base.ji,I.base.iU,I.base.jj⟩,?_,λy c e=>?_,I.free,I.e9,λp hp=>?_,λb o e=>?_,I.len⟩;.exact k1 b o (I.base.keep b o e n hb hx) (Fb b (I.mI e) hb) (ne b o e).1 (ne b o e).2
 .obtain⟨sl,q⟩:=I.base.slot b o e n hb hx;obtain⟨sl',q'⟩:=any b _ q (ne b o e).1 (ne b o e).2;exact⟨sl',q'⟩
 .obtain⟨o',q⟩:=I.base.there b o e hx;obtain⟨sl',q'⟩:=any b _ q (ne b o e).1 (ne b o e).2;exact⟨_,q'⟩
 .obtain⟨m,⟨o,es,ep,ho,hd,r⟩,hl⟩:=I.loc;obtain⟨sl,q⟩:=any _ o ho (λz=>ha.loc z.symm) λz=>hT.loc z.symm;refine⟨m,⟨_,es,ep,q,hd,r⟩,λi y v e1 e2 e3=>?_⟩;obtain⟨u,ru,lk⟩:=hl i y v e1 e2 e3;refine⟨u,ru,lk.elim .inl λ⟨k,c,e,z⟩=>.inr ⟨k,c,e,cellK y c e _ z⟩⟩
 .obtain⟨v,z⟩:=I.cell y c e;exact⟨v,cellK y c e v z⟩
 .obtain⟨e,n,nl,nf,d⟩:=I.pin p hp;exact⟨k1 p.1 p.2 e (Fb _ nl nf) (ha.pin p hp) (hT.pin p hp),n,nl,nf,d⟩
 .refine(I.aB b o e).e8 (λc u hc q=>k1 c u q (λz=>?_) (λz=>?_) λz=>?_) (λj q=>q) (λj j q=>q) λj j j q=>q
  .have:=I.sU c z;rcases hc with rfl|hc;.rw[e]at this;cases this
   .rw[hc]at this;cases this
  .subst z;rcases hc with rfl|hc;.rw[ha.free]at e;cases e
   .rw[ha.free]at hc;cases hc
  .subst z;rcases hc with rfl|hc;.rw[hT.free]at e;cases e
   .rw[hT.free]at hc;cases hc
theorem Inv.UH(I:6#0)(ha:Apart X pins H a)(ob:bz X.prog X.w (upd H a o) s.heap a o):Inv X pins Y (upd H a o) s:=by
 have ne:∀{b:Addr}{u:HO},H b=some u->b≠a:=λ{b u}e z=>by rw[z,ha.free]at e;cases e
 have up:∀{b:Addr}{u:HO},H b=some u->upd H a o b=some u:=λ{b u}e=>%[aY (ne e)|e];have no:∀{b:Addr},b≠a->H b=none->upd H a o b=none:=λ{b}n e=>%[aY n|e];refine⟨I.ok,I.os,I.bare,⟨I.base.keep,I.base.slot,λb u e n hx=>no (λz=>by rw[z,ha.old]at e;cases e) (I.base.free b u e n hx),I.base.there,λb xs e=>up (I.base.ji b xs e),λb u z e=>up (I.base.iU b u z e),λb ps e=>?_⟩,I.loc,I.cell,no (Ne.symm ha.loc) I.free,λx c e=>no (ha.jY x c e) (I.e9 x c e),λp hp=>?_,λb u e=>?_,I.len⟩;.obtain⟨m,q⟩:=I.base.jj b ps e;exact⟨m,up q⟩
 .obtain⟨e,n,nl,nf,d⟩:=I.pin p hp;exact⟨e,no (ha.pin p hp) n,nl,nf,d⟩
 .by_cases hb:b=a;.subst hb;rw[cJ]at e;cases e;exact ob
  .rw[aY hb]at e;exact(I.aB b u e).e8 (λj j j q=>q) (λc q=>up q) (λc xs q=>up q) λj j j q=>up q
theorem UI(I:6#0)(hN:X.N.Nodup)(hi:X.N[i]?=some x)(hk:X.env.scope.names.lookup x=some .local)(h:∀s',Inv X pins (Y.set i none) H s'->Q () s'):W6 M A (do bindName X.env x .none;unbindBehindTheSuite X.env x pos) Q E s:=by
 have pJ:i<Y.length:=by rw[I.len];exact(W8.mp hi).1
 refine W0 (wpAny_bindName (sW (v:=.aD) (u:=.none) I hN hi (.inl hk) rfl (λs1 I1 f=>?_) (.inr hk)));obtain⟨m,hn,hl⟩:=id I1.loc;obtain⟨u,ru,lk⟩:=hl i x .aD hi (WE pJ) (.inl hk);have hv:m x=some u:=by
  rcases lk with⟨_,e⟩|⟨z,_⟩;.exact e
  .have:X.env.kindOf x=some .local:=hk;rw[this]at z;rcases z with z|z<;>cases z
 refine wpAny_onRaise (wpAny_unbindName_local hk hn hv (by rw[I.ok.kind];rfl) λh' w' pK hs=>h _ ?_);obtain⟨oL,_,_,gL,_⟩:=id hn;have hZ:=I1.hZ;refine⟨I1.ok,I1.os,I1.bare,⟨λb o e n hb hx=>?_,λb o e n hb hx=>?_,I1.base.free,λb o e hx=>?_,I1.base.ji,I1.base.iU,I1.base.jj⟩,⟨_,pK,λj y v' e1 e2 e3=>?_⟩,λy c e=>?_,I1.free,I1.e9,λp hp=>?_,λb ob e=>?_,~~~I.len⟩;.exact(hs.2 b (I1.mI e)).trans (I1.base.keep b o e n hb hx)
 .obtain⟨sl,q⟩:=I1.base.slot b o e n hb hx;exact⟨sl,(hs.2 b (I1.mI e)).trans q⟩
 .obtain⟨o',q⟩:=I1.base.there b o e hx;exact⟨o',(hs.2 b (I1.mI e)).trans q⟩
 .by_cases hj:j=i;.subst hj;rw[WE pJ]at e2;cases e2
  .rw[Wc (Ne.symm hj)]at e2;obtain⟨u',r',q⟩:=hl j y v' e1 %[Wc (Ne.symm hj)|e2] e3;have yo:y≠x:=λz=>hj (wk hN e1 (z▸hi));refine⟨u',r',?_⟩;rcases q with⟨k,e⟩|⟨k,c,e,z⟩;.exact .inl ⟨k,#v[yo,e]⟩
   .exact .inr ⟨k,c,e,z.sameBut hs (hZ y c e)⟩
 .obtain⟨w2,z⟩:=I1.cell y c e;exact⟨w2,z.sameBut hs (hZ y c e)⟩
 .obtain⟨e,n,nl,nf,d⟩:=I1.pin p hp;exact⟨(hs.2 p.1 nl).trans e,n,nl,nf,d⟩
 .refine(I1.aB b ob e).e8 (λc u' hc q=>(hs.2 c λz=>?_).trans q) (λf q=>q) (λf f q=>q) λf f f q=>q;subst z;have:=I1.free;rcases hc with rfl|hc;.rw[e]at this;cases this
  .rw[hc]at this;cases this
end
noncomputable def j9:List D->Option (List Int)|[]=>some []|.int i::r=>(j9 r).map (i::.)|_::_=>none
theorem ints_map(ns:List Int):j9 (ns.map D.int)=some ns:=by induction ns with|nil=>rfl|cons n r ih=>simp[j9,ih]
theorem UJ{B e:Addr}{h:Heap}{g:Array GenState}{d:Drawn}{t:Nat}{Q:Bool->W1->Prop}(X:K.In h)(qB:j8 K B)(qm:PySem.W.mroIn K C (.ref B)=some true)(he:h.get? e=some oe)(hc:oe.cls=.ref C)(hq:Q true ⟨h,g,d,t,os⟩):W6 4#0 A (excMatches (.ref e) (.ref B)) Q E ⟨h,g,d,t,os⟩:=by
 obtain⟨bm,N,nm,qn,bs,hdct,sn,sub,ab,col,dd,k0,k1,k2,k3,k5,mN,hB,_,_,hT⟩:=qB.obj X;have cB:(Value.ref B::bm).contains (.type "BaseException")=true:=by rw[List.contains_cons,hT.hasType (X:="BaseException") (b:=true) rfl,Bool.or_true]
 have lk:=PySem.W.looks_mroIn (M:=4#0) X qm;have f:=tc_notTuple;unfold excMatches;repeat(first|with_reducible refine PySem.W.Looks.at lk ?_|(with_reducible refine Ui he ?_;rw[hc])|with_reducible refine Ui hB ?_|(with_reducible refine wpAny_isSubtype_exc hB ?_;rw[cB])|wp_step)
 exact hq
def Cx.wt(X:Cx)(pn:List (Addr×Obj))(xe:Value->W1->Prop):Cx:={X with pn:=pn,xe:=xe}
def Cx.hand(X:Cx)(a:Addr):Cx:={X with A:=X.A.mark (some (.ref a)),calm:=false,xe:=λj j=>False}
section
variable{ps:List (Addr×Obj)}{a:Addr}
theorem Cx.Ok.wt(o:X.Ok):(X.wt pn xe).Ok:=⟨o.mod,o.kind,o.glob,o.blt,o.above,o.inj,o.has,o.lg,o.hd,o.frames,o.mG,o.mH,o.bs,o.jk,o.lh,o.lj,o.gr,o.jT⟩
theorem Cx.Ok.hand(o:X.Ok):(X.hand a).Ok:=⟨o.mod,o.kind,o.glob,o.blt,o.above,o.inj,o.has,o.lg,λz=>(by cases z),o.frames,o.mG,o.mH,o.bs,o.jk,o.lh,o.lj,o.gr,o.jT⟩
theorem Inv.wt(I:6#0):Inv (X.wt (X.pn++pins) xe) [] Y H s:=⟨I.ok.wt,I.os,I.bare,I.base,I.loc,I.cell,I.free,I.e9,λp hp=>I.pin p (by simpa[Cx.wt]using hp),I.aB,I.len⟩
theorem Inv.jA(o:X.Ok)(J:Inv (X.wt (X.pn++pins) xe) ps Y H s):6#0:=⟨o,J.os,J.bare,J.base,J.loc,J.cell,J.free,J.e9,λp hp=>J.pin p (Jr _ hp),J.aB,J.len⟩
theorem Inv.hand(I:6#0):Inv (X.hand a) pins Y H s:=⟨I.ok.hand,I.os,I.bare,I.base,I.loc,I.cell,I.free,I.e9,I.pin,I.aB,I.len⟩
theorem Inv.UK(o:X.Ok)(J:Inv (X.hand a) pins Y H s):6#0:=⟨o,J.os,J.bare,J.base,J.loc,J.cell,J.free,J.e9,J.pin,J.aB,J.len⟩
theorem Apart.jA(h:Apart (X.wt (X.pn++pins) xe) ps H a):Apart X pins H a:=⟨h.old,h.free,h.loc,h.jY,λp hp=>h.pin p (Jr _ hp)⟩
theorem SP.jA{D f}(o:X.Ok)(h:SP (X.wt (X.pn++pins) xe) ps D f s):SP X pins D f s:=by cases f with|next=>obtain⟨SC,H',J,q⟩:=h;exact⟨SC,H',Inv.jA o J,q⟩|brk=>obtain⟨SC,H',J,q⟩:=h;exact⟨SC,H',Inv.jA o J,q⟩|cont=>obtain⟨SC,H',J,q⟩:=h;exact⟨SC,H',Inv.jA o J,q⟩|ret u=>obtain⟨v,SC,H',J,r,q⟩:=h;exact⟨v,SC,H',Inv.jA o J,r,q⟩
def qF(X:Cx)(pins:List (Addr×Obj))(H:Hp)(s:W1)(a C:Addr)(dx:Option Addr):Prop:=∃T fl,i7 s.heap a C T dx fl/\(fl=.none\/∃L,X.env.frame=some L/\fl=Q4 L)/\Apart X pins H a/\Apart X pins H T
def uR(X:Cx)(ps:List (Addr×Obj))(H:Hp)(s:W1)(a C:Addr)(dx:Option Addr):Prop:=(∃vs sl a0,s.heap.get? a=some ⟨.ref C,dx,.fields vs,sl⟩/\vs[0]?=some a0/\vs[1]?=some .none)/\Apart X ps H a
theorem Inv.apart(I:6#0)(hx:X.ex=[])(e:s.heap.get? b=none)(f:H' b=none):Apart X pins H' b:=by
 refine⟨(I.gone hx e).2,f,λz=>?_,λx c hc z=>?_,λp hp z=>?_⟩;.obtain⟨m,⟨o,_,_,ho,_⟩,_⟩:=I.loc;rw[<-z,e]at ho;cases ho
 .obtain⟨v,o,ho,_⟩:=I.cell x c hc;rw[z,e]at ho;cases ho
 .have:=(I.pin p hp).1;rw[z,e]at this;cases this
section
variable{Q:Unit->W1->Prop}
theorem Inv.Fd(I:6#0)(dw:X.stack=X.env::X.outer)(hf:X.env.frame=some L)(hex:X.ex=[])(hc:qF X pins H s a C dx\/uR X pins H s a C dx)(q:∀h' T,Inv X pins Y H 9#h'->i7 h' a C T dx (Q4 L)->Apart X pins H a->Apart X pins H T->Q () 9#h'):W6 M X.A (Uc (.ref a) X.env) Q E s:=by
 have dC:X.A.frames=some (X.env::X.outer):=by rw[<-dw];exact I.ok.frames
 have hl:s.heap.FunFrames X.base (X.env::X.outer):=by rw[<-dw];exact I.stack
 have mem:∀{b},b∈eO X.stack->∃o,s.heap.get? b=some o/\∀vs,o.data≠.fields vs:=λ{b}z=>let⟨_,o,g1,g2⟩:=I.stack.mem z;⟨o,g1,g2⟩;rcases hc with⟨T,fl,f,qc,pa,pT⟩|⟨⟨vs,sl,a0,e1,e2,e3⟩,pa⟩
 .rcases qc with rfl|⟨L',e,rfl⟩;.refine UC dC hl hf f λh' T' f' n=>?_;refine q h' T' (I.yn pa pT (λb o z m n1 n2=>n.keep b o z n1 (λw=>n2 (by cases w;rfl)) (by rw[<-dw];exact m)) λb o z m=>?_) f' pa (I.apart hex n.new (I.gone hex n.new).1);obtain⟨o',g1,g2⟩:=mem m;rw[z]at g1;cases g1;exact n.frame b o z g2
  .rw[hf]at e;cases e;exact UD hf f (q s.heap T I f pa pT)
 .refine UB dC hl hf e1 e2 e3 λh' T' f' n=>?_;refine q h' T' (I.yn pa pa (λb o z m n1 n2=>n.keep b o z n1 (λw=>by cases w) (by rw[<-dw];exact m)) λb o z m=>?_) f' pa (I.apart hex n.new (I.gone hex n.new).1);obtain⟨o',g1,g2⟩:=mem m;rw[z]at g1;cases g1;exact n.frame b o z g2
theorem Inv.yp{A:Wp}{o:Option Addr}{fl:Value}(I:6#0)(f:i7 s.heap a C T dx fl)(pT:Apart X pins H T)(q:∀h',Inv X pins Y H 9#h'->i7 h' a C T dx (o.elim .none λf=>Q4 f)->Q () 9#h'):W6 M A (setFlight (.ref a) o) Q E s:=UE f λh' f' k=>q h' (I.yn pT pT (λb u z j n j=>(k b n).trans z) λb u z j=>by
 by_cases n:b=T;.subst n;obtain⟨vs,sl,oT,ts,a0,e1,e2,e3,e4,e5,e6,e7⟩:=f;have:=I.sU b ‹_›;obtain⟨_,o',g1,g2⟩:=I.stack.mem ‹b∈eO X.stack›;rw[e5]at g1;cases g1;exact absurd e6 (g2 ts)
 .exact⟨u.slots,(k b n).trans z⟩) f'
end
def Ends.hand(D:Ends)(i:Nat):Ends where
 nx:=λY H=>D.nx (Y.set i none) H
 rt:=D.rt
 bk:=λY H=>D.bk (Y.set i none) H
 ct:=λY H=>D.ct (Y.set i none) H
theorem UL{x n:Str}{np yq:Pos}{B:Addr}{tb:(Addr->Option Addr->St->Hp->Prop)->TS}(hex:X.ex=[])(dw:X.stack=X.env::X.outer)(hf:X.env.frame=some X.env.locals)(hN:X.N.Nodup)(hi:X.N[i]?=some n)(hl:X.env.scope.names.lookup n=some .local)(hg:Gl X x)(hm:X.mg x=some (.ref B))(qB:j8 X.K B)(dE:(x==("__debug__":Str))=false)(eG:∀(W:Addr->Option Addr->St->Hp->Prop)(pn:List (Addr×Obj))(xe:Value->W1->Prop),(∀ps Y H s a C dx,Inv (X.wt pn xe) ps Y H s->qF (X.wt pn xe) ps H s a C dx\/uR (X.wt pn xe) ps H s a C dx->W C dx Y H->xe (.ref a) s)->dJ (X.wt pn xe) body (tb W))(UM:∀C a,dJ (X.hand a) (b₀::uS) (th C a)):PS X (.Try body [.ExceptHandler (some (.Name x np)) (some n) (b₀::uS) yq] [] [] pos) λD Y H=>tb (λC dx SC H'=>PySem.W.mroIn X.K C (.ref B)=some true/\∃v,(∀x,v=.ref x->dx=some x)/\∀a,H' a=none->th C a (D.hand i) (SC.set i (some (.ref a))) (upd H' a (.ext (excAt C v a)))) D Y H:=by
 intros D I hw;refine wpAny_Try_except (Qk (eG _ (X.pn++pins) _ (λps KM H1 s1 a C dx J hc hW=>?_) [] s Y H D I.wt hw) (λf s1 hs=>?_) λe s1 he=>he)
 .have J:Inv X pins KM H1 s1:=Inv.jA I.ok J;have hc:qF X pins H1 s1 a C dx\/uR X pins H1 s1 a C dx:=by
   rcases hc with⟨T,fl,f,qc,pa,pT⟩|⟨y,pa⟩;.exact .inl ⟨T,fl,f,qc,pa.jA,pT.jA⟩
   .exact .inr ⟨y,pa.jA⟩
  refine J.Fd dw hf hex hc λh2 T J2 f2 pa pT=>?_;refine J2.yp f2 pT λh3 I3 f3=>?_;obtain⟨vs3,sl3,_,_,_,u3,_⟩:=id f3;obtain⟨qm,v,hv,qh⟩:=hW;refine wpAny_handleBy_cons (codeAny_handlers_test ?_) (by intro z;cases z);have UO:Inv (X.hand a) pins KM H1 {s1 with heap:=h3}:=I3.hand;refine mK (X:=X.hand a) UO hg hm ?_ dE;refine UJ I3.dI qB qm u3 rfl ?_;refine codeAny_handlers_suite_as (I3.yp f3 pT λh4 I4 f4=>?_);obtain⟨vs4,sl4,_,_,_,u1,_⟩:=f4;have I5:Inv X pins KM (upd H1 a (.ext (excAt C v a))) {s1 with heap:=h4}:=I4.UH pa ⟨⟨_,u1,rfl,λx z=>hv x z,vs4,rfl⟩,⟨_,u1⟩,λh1 h2⟨o,e1,e2⟩k=>⟨o,k o e1,e2⟩⟩;refine sW (v:=.ref a) (u:=.ref a) (X:=X.hand a) I5.hand hN hi (.inl hl) rfl (λs6 I6 j=>?_) (.inr hl);refine Qk (UM C a pins s6 _ _ (D.hand i) I6 (qh a pa.free)) (λf s7 hs=>?_) λe s7 he=>he.elim;have un:∀{SC:St}{H':Hp}{Q:Flow->W1->Prop},Inv (X.hand a) pins SC H' s7->(∀s8,Inv X pins (SC.set i none) H' s8->Q f s8)->W6 5#0 X.A (do bindName X.env n .none;unbindBehindTheSuite X.env n yq) (λj s8=>Q f s8) X.xe s7:=λ{SC H' Q}J7 k=>UI (Inv.UK I.ok J7) hN hi hl λs8 J8=>k s8 J8;cases f with|next=>obtain⟨SC,H',J7,q⟩:=hs;exact un J7 λs8 J8=>⟨_,_,J8,q⟩|brk=>obtain⟨SC,H',J7,q⟩:=hs;exact un J7 λs8 J8=>⟨_,_,J8,q⟩|cont=>obtain⟨SC,H',J7,q⟩:=hs;exact un J7 λs8 J8=>⟨_,_,J8,q⟩|ret u=>obtain⟨v,SC,H',J7,r,q⟩:=hs;exact un J7 λs8 J8=>⟨v,_,_,J8,r,q⟩
 .have hs:=SP.jA I.ok hs;cases f with|next=>exact U3 hs|brk=>exact hs|cont=>exact hs|ret u=>exact hs
end
def nh(X:Cx)(W:Addr->Option Addr->St->Hp->Prop):Prop:=∀ps Y H s a C dx,Inv X ps Y H s->qF X ps H s a C dx\/uR X ps H s a C dx->W C dx Y H->X.xe (.ref a) s
section
variable{b:Addr}
theorem Inv.UP{E v}(I:6#0)(hx:X.ex=[])(h:kR X.prog X.w X.stack H s E v s'):∃a C dx H',v=.ref a/\Inv X pins Y H' s'/\qF X pins H' s' a C dx/\E (.ref C) dx H':=by obtain⟨a,C,T,dx,H',rfl,ho,hb,un,aB,fl,na,nT,fa,fT,q⟩:=h;exact⟨a,C,dx,H',rfl,I.Bl (ch:=[]) ho un aB hb λb z=>absurd z V',⟨T,.none,fl,.inl rfl,I.apart hx na fa,I.apart hx nT fT⟩,q⟩
end
section
variable{k:Nat}{x:Str}{p:Pos}{t:TA}
theorem Fe(F:gN X.prog X.w X.K X.mg X.base (kR X.prog X.w) k f fd ps sp)(hr:dz k X.A)(hex:X.ex=[])(hg:Gl X x)(hm:X.mg x=some (.ref f))(hk:QY X.K (.ref f)=true)(hb:Binds X.K fd ps [])(hx:nh X W)(ha:PA X (e::es) t)(dE:(x==("__debug__":Str))=false:=by decide)(he:Wa (e::es) X.env=(false,eval e X.env)::Wa es X.env:=by rfl)(bZ:(Qy pos (Wa es X.env)).any (·.1)=false:=by rfl):PE X (.Call (.Name x p) (e::es) [] pos) λY H Q=>t Y H λvs H1=>sp vs H1 Q λc dx H'=>∃C,c=.ref C/\W C dx Y H':=by
 intros Q I h;refine JI (mK I hg hm ?_ dE);refine PySem.W.callWith_K (h₀:=X.base) I.ok.mod.n5 hk (aZ (ha pos pins s Y H _ I h) λus s1⟨vs,H1,I1,r,q⟩=>⟨I1.dI,?_⟩) he bZ;have hl:(us++[]).length=ps.length:=by rw[Qg,<-r.length];exact F.len _ _ _ _ q
 refine wpAny_call (codeAny_mono (F.run X.A X.stack s1 H1 ⟨us,[]⟩ us vs Q _ hr I1.wJ (by have:=hb s1 us I1.dI hl;rwa[Qg]at this) r q) λr s' hq=>?_);cases r with|error e=>obtain⟨a,C,dx,H',ea,I2,co,C',hC,hW⟩:=I1.UP (E:=λc dx H'=>∃C,c=.ref C/\W C dx Y H') (v:=e) (s':=s') hex hq;cases hC;subst ea;exact hx pins Y H' s' a C dx I2 (.inl co) hW|ok fl=>cases fl with|ret u=>exact I1.after hq|next=>exact False.elim hq|brk=>exact False.elim hq|cont=>exact False.elim hq
end
section
variable{s₀:W1}{H₀:Hp}{E:XK}
theorem UQ(hW:∀C dx Y H,W C dx Y H->E (.ref C) dx H):nh (fF (kR P w) P w K mg base N qual scope f cd A outer s₀ H₀ E) W:=λps Y H s a C dx I hc q=>by show W6 _ _ (leaving _ _) _ _ _;unfold leaving;refine W0 (I.Fd rfl rfl rfl hc λh2 T I2 f2 pa pT=>I2.yp f2 pT λh3 I3 f3=>?_);exact⟨a,C,T,dx,H,rfl,I3.os,I3.bare,I3.base,I3.aB,f3,pa.old,pT.old,pa.free,pT.free,hW C dx Y H q⟩
end
def Cx.loop(X:Cx):Cx:={X with xe:=notedBy 5#0 X.A X.env (cameBackBy 5#0 X.A X.env X.xe)}
section
variable{c:Fc}{g:Xc->Dl->Prop}
theorem Ok.since(h0:c.H₀=H)(k:Ok c Y Z H)(hI:∀a,c.I a->Own Y Z a)(k':Ok c SC SZ H'):aK c Y Z H SC SZ H':=by
 refine⟨k',λa o e n=>k'.keep a o %[h0|e] λz=>n (hI a z),λa⟨i,d,e1,e2⟩=>?_,λa o e=>?_⟩
 .obtain⟨b,e3,_,q,_⟩:=k'.own i d e1;rw[e2]at e3;cases e3;rcases q with q|q;.exact .inl (hI a q)
  .rw[h0]at q;exact .inr q
 .by_cases z:c.I a;.exact k'.d_ a z
  .exact⟨o,k'.keep a o %[h0|e] z⟩
end
def wD(mg:Str->Option Value)(c:Fc)(C:Addr)(dx:Option Addr)(Y:St)(H:Hp):Prop:=∃(x:Xc)(Z:Dl)(v:V),mg (toS x.cls)=some (.ref C)/\Ok c Y Z H/\Rep H (Av c Y Z) v x.kF/\(∀y,v=.ref y->dx=some y)/\c.xc x Z
def Ff(x:Tx):DS:=λZ=>.exc ⟨x,.aD⟩ Z
theorem UR{c:Fc}{x:Str}{np bV pos:Pos}(y:Tx)(q:j8 X.K C)(hc:X.calm=true)(hg:Gl X x)(hm:X.mg x=some (.ref C))(hx:nh X (wD X.mg c))(hy:x=toS y:=by decide+kernel)(hd:(x==("__debug__":Str))=false:=by decide)(hex:X.ex=[]:=by rfl):SS X c (.Raise (some (.Call (.Name x np) [] [] bV)) none pos) (Ff y):=PS.weak (UG (W:=λY H=>wD X.mg c C none Y H) q hc hg hm hd λps Y H s h' e I w hm=>by obtain⟨t,ht,_⟩:=hm.there;have I1:Inv X ps Y H 9#h':=I.kept (t':=s.toks) hm.keeps;exact hx ps Y H _ e C none I1 (.inr ⟨⟨_,_,_,ht,rfl,rfl⟩,I.apart hex hm.new (I.gone hex hm.new).1⟩) w) λD Y H⟨Z,k,w⟩=>⟨⟨y,.aD⟩,Z,.aD,by rw[<-hy];exact hm,k,.aD,λj z=>(by cases z),w⟩
abbrev DX:=List S->Option ((S×List S)⊕Xc×List S)
def kS(f:DS)(n:Nat)(ss:List S):Option ((S×List S)⊕Xc×List S):=match f (bU n ss)with|.ok fl Z=>(dY fl).bind λr=>(cj 0 ss Z).map λaG=>.inl (r,aG)|.exc x Z=>(cj 0 ss Z).map λaG=>.inr (x,aG)|.stuck=>none
def uT(mg:Str->Option Value)(n:Nat)(G:DX):Sp:=λvs H Q E=>∃ss B,vs.length=n/\Ok ⟨H,B,bX 0 ss vs,λj j=>False⟩ (bY vs) (cy ss) H/\∃y,G ss=some y/\match y with|.inl (r,aG)=>∀v H',aK ⟨H,B,bX 0 ss vs,λj j=>False⟩ (bY vs) (cy ss) H (bY vs) (cy aG) H'->aN ⟨H,B,bX 0 ss vs,λj j=>False⟩ (bY vs) (cy aG) H H' v r->Q v H'|.inr (x,aG)=>∀C dx v H',mg (toS x.cls)=some (.ref C)->aK ⟨H,B,bX 0 ss vs,λj j=>False⟩ (bY vs) (cy ss) H (bY vs) (cy aG) H'->Rep H' (Av ⟨H,B,bX 0 ss vs,λj j=>False⟩ (bY vs) (cy aG)) v x.kF->(∀y,v=.ref y->dx=some y)->E (.ref C) dx H'
def l_(P:Wm)(w:Wu)(K:W3)(mg:Str->Option Value)(base:Heap)(k:Nat)(x:Str)(n:Nat)(G:DX):Prop:=∃(f:Addr)(fd:Ql)(ps:List Str),mg x=some (.ref f)/\QY K (.ref f)=true/\Binds K fd ps []/\gN P w K mg base (kR P w) k f fd ps (uT mg n G)
theorem US(h:(⟨H,B,bX 0 ss vs,g⟩:Fc).I a):Own (bY vs) (cy ss) a:=by obtain⟨i,hi⟩:=h;obtain⟨j,d,_,e1,e2⟩:=lV hi;exact⟨j,d,fq.mpr e1,fI.mpr e2⟩
theorem aN.UT(h:aN {c with xc:=g} Y Z Hs H v r):aN c Y Z Hs H v r:=by cases r with|pure d=>exact h|own d=>obtain⟨a,e,o,n,f,k,q⟩:=h;exact⟨a,e,o,n,f,⟨k.keep,k.bd,k.d_,k.len,k.slot,k.own,k.inj,k.pinned⟩,q⟩
theorem UU{x:Str}{st:Stmt}{k:Nat}{fb:DS}{G:DX}(F:eJ K x qual st f fd)(S:gw N ps (bP st))(eG:∀(c:Fc)(a_:Value)(A:Wp)(outer:List Env)(s:W1)(H:Hp)(E:XK),dz k (A.deeper (Jp qual (bP st) s.heap.objs.size f a_))->Np c np->nh (fF (kR P w) P w K mg base N qual (bP st) f a_ A outer s H E) (wD mg c)->fH (fF (kR P w) P w K mg base N qual (bP st) f a_ A outer s H E) c (fR st) fb)(hG:∀ss y,G ss=some y->cY np 0 ss=true/\kS fb N.length ss=some y):gN P w K mg base (kR P w) (k+1) f fd ps (uT mg ps.length G):=by
 obtain⟨oc,od,kV,doc,pm,an,a_,ct,jW,rfl,lk,dS⟩:=F.ex;refine B5 lk dS S (λvs H Q E h=>?_) λA outer s H vs Q E hr h=>?_;.obtain⟨ss,B,hl,_⟩:=h;exact hl
 .obtain⟨ss,B,hl,ok,y,hg,q⟩:=h;obtain⟨gD,hrun⟩:=hG ss _ hg;have kM:ss.length=vs.length:=by have:=ok.len;simpa using this
  let g:Xc->Dl->Prop:=λx SZ=>∃aG,cj 0 ss SZ=some aG/\y=.inr (x,aG);have qv:Np ⟨H,B,bX 0 ss vs,g⟩ np:=λp hp=>by obtain⟨j,d,e,h1,_⟩:=lV (i:=p.1) (a:=p.2) hp;rw[e];exact uy gD h1
  have dw:fE N vs=bY vs++WJ (N.length-ss.length) none:=by rw[kM];rfl
  have j_:Ok ⟨H,B,bX 0 ss vs,λu u=>False⟩ (fE N vs) (bU N.length ss) H:=%[dw|ok.ext _];have h_:∀C dx SC H',wD mg ⟨H,B,bX 0 ss vs,g⟩ C dx SC H'->E (.ref C) dx H':=λC dx SC H' hh=>by obtain⟨z,SZ,v,hm,k',rv,hv,aG,ho,hy⟩:=hh;rw[hy]at q;have k1:Ok ⟨H,B,bX 0 ss vs,λu u=>False⟩ SC SZ H':=⟨k'.keep,k'.bd,k'.d_,k'.len,k'.slot,k'.own,k'.inj,k'.pinned⟩;have a:aK ⟨H,B,bX 0 ss vs,λu u=>False⟩ (bY vs++WJ (N.length-ss.length) none) (cy ss++WJ (N.length-ss.length) none) H SC SZ H':=Ok.since rfl (by rw[dw]at j_;exact j_) (λa z=>Own.ext.mpr (US z)) k1;exact q C dx v H' hm (lX rfl ok a ho).1 ((lX rfl ok a ho).2 v (.pure z.kF) rv) hv
  refine⟨lT ⟨H,B,bX 0 ss vs,g⟩ fb,eG ⟨H,B,bX 0 ss vs,g⟩ a_ A outer s H E hr qv (UQ h_),bU N.length ss,⟨j_.keep,j_.bd,j_.d_,j_.len,j_.slot,j_.own,j_.inj,j_.pinned⟩,?_⟩;unfold kS at hrun;unfold eK;cases e:fb (bU N.length ss)with
 |stuck=>rw[e]at hrun;cases hrun|exc x GM=>rw[e]at hrun;simp only at hrun;cases eo:cj 0 ss GM with|none=>rw[eo]at hrun;cases hrun|some os=>rw[eo]at hrun;cases hrun;exact⟨os,eo,rfl⟩
 |ok fl SZ=>rw[e]at hrun;show∀SC H',aK _ (fE N vs) (bU N.length ss) H SC SZ H'->fin _ _ SC SZ H' fl;intro SC H' a;rw[dw]at a;have k1:=a.ok;have a1:aK ⟨H,B,bX 0 ss vs,λu u=>False⟩ (bY vs++WJ (N.length-ss.length) none) (bU N.length ss) H SC SZ H':=⟨⟨k1.keep,k1.bd,k1.d_,k1.len,k1.slot,k1.own,k1.inj,k1.pinned⟩,a.keep,a.own,a.there⟩;simp only at hrun;cases fl with
 |brk=>cases hrun|cont=>cases hrun|next=>simp only[dY,WB]at hrun;cases eo:cj 0 ss SZ with|none=>rw[eo]at hrun;cases hrun|some os=>rw[eo]at hrun;cases hrun;obtain⟨l1,l2⟩:=lX rfl ok a1 eo;exact q .aD H' l1 .aD
 |ret r'=>simp only[dY,WB]at hrun;cases eo:cj 0 ss SZ with|none=>rw[eo]at hrun;cases hrun|some os=>rw[eo]at hrun;cases hrun;obtain⟨l1,l2⟩:=lX rfl ok a1 eo;exactλv rv=>q v H' l1 (l2 v _ (aN.UT (c:=⟨H,B,bX 0 ss vs,λu u=>False⟩) (g:=g) rv))
theorem Fg{x:Str}{st:Stmt}{k:Nat}{fb:DS}{G:DX}(F:eJ K x qual st f fd)(hm:mg x=some (.ref f))(hb:Binds K fd ps [])(S:gw N ps (bP st))(eG:∀(c:Fc)(a_:Value)(A:Wp)(outer:List Env)(s:W1)(H:Hp)(E:XK),dz k (A.deeper (Jp qual (bP st) s.heap.objs.size f a_))->Np c np->nh (fF (kR P w) P w K mg base N qual (bP st) f a_ A outer s H E) (wD mg c)->fH (fF (kR P w) P w K mg base N qual (bP st) f a_ A outer s H E) c (fR st) fb)(hG:∀ss y,G ss=some y->cY np 0 ss=true/\kS fb N.length ss=some y):l_ P w K mg base (k+1) x ps.length G:=⟨f,fd,ps,hm,F.kp,hb,UU F S eG hG⟩
def yr:S×List S⊕Xc×List S->List S|.inl y=>y.2|.inr y=>y.2
def qG(G:DX):Prop:=∀ss y,G ss=some y->∀(j:Nat),(∀d,ss[j]?=some (.own d)->∃d',(yr y)[j]?=some (.own d'))/\∀d,ss[j]?=0#d->∃d',(yr y)[j]?=0#d'
theorem UW{os:List S}(e:cj 0 ss Z=some os)(j:Nat):(∀d,ss[j]?=some (.own d)->∃d',os[j]?=some (.own d'))/\∀d,ss[j]?=0#d->∃d',os[j]?=0#d':=by
 obtain⟨h1,h2⟩:=qu e;refine⟨λd ed=>?_,λd ed=>?_⟩
 .rcases h2 j _ ed with⟨d',z,_⟩|⟨d',d'',_,_,z⟩;.cases z
  .exact⟨d'',z⟩
 .rcases h2 j _ ed with⟨d',z,z'⟩|⟨d',d'',z,_⟩;.exact⟨d',z'⟩
  .cases z
theorem UX{fb}(h:kS fb n ss=some y):∃Z,cj 0 ss Z=some (yr y):=by unfold kS at h;cases e:fb (bU n ss)with
 |stuck=>rw[e]at h;cases h|exc x Z=>rw[e]at h;simp only at h;cases e2:cj 0 ss Z with|none=>rw[e2]at h;cases h|some os=>rw[e2]at h;cases h;exact⟨Z,e2⟩
 |ok fl Z=>rw[e]at h;simp only at h;cases e1:dY fl with|none=>rw[e1]at h;cases h|some r=>rw[e1]at h;simp only[WB]at h;cases e2:cj 0 ss Z with|none=>rw[e2]at h;cases h|some os=>rw[e2]at h;cases h;exact⟨Z,e2⟩
def ka(np:List Nat)(n:Nat)(b:DS):DX:=λss=>if cY np 0 ss then kS b n ss else none
theorem yt(h:ka np n b ss=some y):cY np 0 ss=true/\kS b n ss=some y:=by
 unfold ka at h;split at h;.exact⟨by assumption,h⟩
 .cases h
theorem Fh{b:DS}:qG (ka np n b):=λss y h j=>by obtain⟨Z,e⟩:=UX (yt h).2;exact UW e j
def jB(G:DX)(as:List Ak):DE:=λZ=>if(bB as).all (dk Z)&&cP (bB as)then(cD as Z).bind λds S'=>match bS as ds S' with|none=>.stuck|some ss=>match G ss with|none=>.stuck|some (.inl (r,aG))=>.ok r (bp as aG S')|some (.inr (x,aG))=>.exc x (bp as aG S')else .stuck
section
variable{c:Fc}{k:Nat}{x:Str}{G:DX}
universe H in theorem UY(hK:qG G)(hl:as.length=n)(h:tD c (jB G as) Y H Q):tX c as Y H λvs H1=>uT X.mg n G vs H1 Q λc' dx H'=>∃C,c'=.ref C/\wD X.mg c C dx Y H':=by
 obtain⟨Z,kk,q⟩:=h;unfold jB at q;split at q
 .rename_i hc;rw[Wr]at hc;have nd:=uA hc.2;rw[bx]at q;refine⟨Z,kk,λi hi=>?_,aT q λds S' q1 vs H1 a1 r1=>?_⟩
  .have:=WW.mp hc.1 i (kP.mpr hi);unfold dk at this;split at this;.rename_i d ed;exact ou kk ed
   .cases this
  .cases em:bS as ds S' with|none=>rw[em]at q1;exact q1.elim|some ss=>rw[em]at q1;simp only at q1;cases eg:G ss with|none=>rw[eg]at q1;exact q1.elim|some y=>rw[eg]at q1;have m5:=yb a1.ok r1 em nd;obtain⟨m1,m2,_⟩:=qw r1 em;have g2:=hK ss y eg;refine⟨ss,_,by rw[<-m2];exact hl,m5,y,eg,?_⟩;cases y with|inl y=>obtain⟨r,aG⟩:=y;intro v H2 a2 r2;obtain⟨o1,o2⟩:=uC a1.ok r1 em nd rfl a2 (λj d ed=>(g2 j).1 d ed) λj d ed=>(g2 j).2 d ed;exact q1 v H2 (a1.trans o1) (aN.back (o2 v r r2) a1)|inr y=>obtain⟨z,aG⟩:=y;intro C dx v H2 hm a2 rv hv;obtain⟨o1,o2⟩:=uC a1.ok r1 em nd rfl a2 (λj d ed=>(g2 j).1 d ed) λj d ed=>(g2 j).2 d ed;exact⟨C,rfl,z,bp as aG S',v,hm,o1.ok,o2 v (.pure z.kF) rv,hv,q1⟩
 .exact q.elim
theorem UZ(F:l_ X.prog X.w X.K X.mg X.base k x n G)(hK:qG G)(hr:dz k X.A)(hex:X.ex=[])(hx:nh X (wD X.mg c))(hg:Gl X x)(ha:SX X c (e::es) as)(hl:as.length=n)(dE:(x==("__debug__":Str))=false:=by decide)(he:Wa (e::es) X.env=(false,eval e X.env)::Wa es X.env:=by rfl)(bZ:(Qy pos (Wa es X.env)).any (·.1)=false:=by rfl):SE X c (.Call (.Name x pp) (e::es) [] pos) (jB G as):=by obtain⟨f,fd,ps,hm,hk,hb,ok⟩:=F;exact PE.weak (Fe ok hr hex hg hm hk hb hx ha dE he bZ) λY H Q h=>UY hK hl h
end
def yv(Z:Dl):Bool:=Z.all fun|some (.own _)=>false|_=>true
def unset(i:Nat):Rs Fl->Rs Fl|.ok fl Z=>.ok fl (Z.set i none)|r=>r
def ni(ce:Tx->Nat)(ys:List Tx)(i:Nat)(fb fh:DS):DS:=λZ=>if yv Z then match fb Z with|.exc x SZ=>if ys.contains x.cls&&decide (i<SZ.length)then unset i (fh (SZ.set i 0#(.exc (ce x.cls) x.kF)))else .stuck|r=>r else .stuck
section
variable{c:Fc}
theorem U_(h:Np c []):c.pin=[]:=by cases e:c.pin with|nil=>rfl|cons p r=>have:=h p %[e|Wi];simp at this
theorem aK.unset(x:aK c Y₀ Z₀ H₀ Y Z H)(hp:c.pin=[])(i:Nat):aK c Y₀ Z₀ H₀ (Y.set i none) (Z.set i none) H:=by
 have k:=x.ok;have back:∀{α:Type}{l:List (Option α)}{j:Nat}{v:α},(l.set i none)[j]?=some (some v)->l[j]?=some (some v)/\i≠j:=λ{α l j v}e=>by
  by_cases hj:i=j;.subst hj;rw[Qj]at e;simp at e
  .rw[Wc hj]at e;exact⟨e,hj⟩
 have own:∀a,Own (Y.set i none) (Z.set i none) a->Own Y Z a:=λa⟨j,d,e1,e2⟩=>⟨j,d,(back e1).1,(back e2).1⟩;have av:∀a,Av c (Y.set i none) (Z.set i none) a->Av c Y Z a:=λa z=>z.elim .inl λz=>.inr (own a z);refine⟨⟨k.keep,k.bd,k.d_,#v[k.len],λj d e=>?_,λj d e=>?_,λj1 j2 a d d' e1 e2 e3 e4=>k.inj j1 j2 a d d' (back e1).1 (back e2).1 (back e3).1 (back e4).1,λp hm=>by rw[hp]at hm;simp at hm⟩,x.keep,λa z=>x.own a (own a z),x.there⟩;.obtain⟨e',n⟩:=back e;obtain⟨v,e1,r⟩:=k.slot j d e';exact⟨v,%[Wc n|e1],r.bj λa z=>.inl (av a z)⟩
 .obtain⟨e',n⟩:=back e;obtain⟨a,e1,r,q⟩:=k.own j d e';exact⟨a,%[Wc n|e1],r.bj λa z=>.inl (av a z),q⟩
end
section
variable{c:Fc}{g:Xc->Dl->Prop}
theorem Ok.Fi(k:Ok c Y Z H)(h:yv Z=true):Ok ⟨H,c.B,[],g⟩ Y Z H:=⟨λj j e j=>e,k.bd,λa⟨i,z⟩=>by simp at z,k.len,k.slot,λi d e=>(by have:=WW.mp h _ (Wz e);cases this),k.inj,λp z=>by simp at z⟩
theorem Ok.nj(k:Ok c Y Z H)(hp:c.pin=[])(k':Ok ⟨H,B',[],g⟩ SC SZ H'):Ok {c with B:=B'} SC SZ H':=by
 have nI:∀a,¬c.I a:=λa⟨i,z⟩=>by rw[hp]at z;simp at z
 have Fj:∀a,¬(⟨H,B',[],g⟩:Fc).I a:=λa⟨i,z⟩=>by simp at z
 refine⟨λa o e n=>k'.keep a o (k.keep a o e n) (Fj a),k'.bd,λa z=>absurd z (nI a),k'.len,k'.slot,λi d e=>?_,k'.inj,λp z=>by rw[show({c with B:=B'}:Fc).pin=c.pin from rfl,hp]at z;simp at z⟩;obtain⟨a,e1,r,q,nb⟩:=k'.own i d e;refine⟨a,e1,r,.inr ?_,nb⟩;rcases q with q|q;.exact absurd q (Fj a)
 .exact k.kG q
theorem aK.nj(k:Ok c Y Z H)(hp:c.pin=[])(x:aK ⟨H,c.B,[],g⟩ Y Z H SC SZ H'):aK c Y Z H SC SZ H':=⟨k.nj hp x.ok,x.keep,x.own,x.there⟩
theorem aN.nj(k:Ok c Y Z H)(hp:c.pin=[])(h:aN ⟨H,c.B,[],g⟩ SC SZ H H' v r):aN c SC SZ c.H₀ H' v r:=by cases r with|pure d=>exact h|own d=>obtain⟨a,e,o,n,f,k',q⟩:=h;exact⟨a,e,o,n,k.kG f,k.nj hp k',k.kG f⟩
theorem aN.unset(hp:c.pin=[])(i:Nat)(h:aN c Y Z Hs H v r):aN c (Y.set i none) (Z.set i none) Hs H v r:=by
 have own:∀a,Own (Y.set i none) (Z.set i none) a->Own Y Z a:=λa⟨j,d,e1,e2⟩=>by
  have back:∀{α:Type}{l:List (Option α)}{v:α},(l.set i none)[j]?=some (some v)->l[j]?=some (some v):=λ{α l v}e=>by
   by_cases hj:i=j;.subst hj;rw[Qj]at e;simp at e
   .rw[Wc hj]at e;exact e
  exact⟨j,d,back e1,back e2⟩
 cases r with|pure d=>exact Rep.bj h λa z=>.inl (z.elim .inl λz=>.inr (own a z))|own d=>obtain⟨a,e,o,n,f,k,q⟩:=h;exact⟨a,e,o.bj λb z=>.inl (z.elim .inl λz=>.inr (own b z)),n,f,(aK.unset (aK.refl k) hp i).ok,q⟩
end
universe H in theorem Va{n B fb np}(hex:X.ex=[])(fW:Np c [])(dw:X.stack=X.env::X.outer)(hf:X.env.frame=some X.env.locals)(hN:X.N.Nodup)(hi:X.N[i]?=some n)(hl:X.env.scope.names.lookup n=some .local)(hg:Gl X x)(hm:X.mg x=some (.ref B))(qB:j8 X.K B)(Vb:∀y∈ys,X.mg (toS y)=some (.ref (ce y))/\PySem.W.mroIn X.K (ce y) (.ref B)=some true)(hb:∀(c':Fc)(pn:List (Addr×Obj))(xe:Value->W1->Prop),Np c' []->nh (X.wt pn xe) (wD X.mg c')->fH (X.wt pn xe) c' body fb)(hh:∀a,fH (X.hand a) c (b₀::uS) fh)(dE:(x==("__debug__":Str))=false:=by decide):SS X c (.Try body [.ExceptHandler (some (.Name x np)) (some n) (b₀::uS) yq] [] [] pos) (ni ce ys i fb fh):=by
 have hp:=U_ fW;refine PS.weak (UL (i:=i) (B:=B) (th:=λ_ _=>lT c fh) (tb:=λW D Y H=>lT ⟨H,c.B,[],λz SZ=>∀SC H',Ok ⟨H,c.B,[],λ_ _=>False⟩ SC SZ H'->∀C dx v,X.mg (toS z.cls)=some (.ref C)->Rep H' (Av ⟨H,c.B,[],λ_ _=>False⟩ SC SZ) v z.kF->(∀y,v=.ref y->dx=some y)->W C dx SC H'⟩ fb D Y H) hex dw hf hN hi hl hg hm qB dE (λW pn xe acc pins s Y H D I hw=>hb _ pn xe (λp z=>by simp at z) (λps SC H' s' a C dx J co⟨y,SZ,v,hy,k',rv,hv,w'⟩=>acc ps SC H' s' a C dx J co (w' SC H' ⟨k'.keep,k'.bd,k'.d_,k'.len,k'.slot,k'.own,k'.inj,k'.pinned⟩ C dx v hy rv hv)) pins s Y H D I hw) λ_ a=>hh a) λD Y H⟨Z,k,q⟩=>?_;unfold ni at q;split at q;.rename_i gx;refine⟨Z,k.Fi gx,?_⟩;unfold eK at q⊢;cases e:fb Z with
 |stuck=>rw[e]at q;exact q.elim|ok fl SZ=>rw[e]at q;intro SC H' a;have f0:=q SC H' (aK.nj k hp a);cases fl with|next=>exact f0|brk=>exact f0|cont=>exact f0|ret r=>exactλv rv=>f0 v (aN.nj k hp rv)
 |exc z SZ=>
   rw[e]at q;simp only at q;split at q;.rename_i hc;simp only[Wr,decide_eq_true_eq]at hc;obtain⟨hy,bh⟩:=hc;intro SC H' k' C dx v hC rv hv;obtain⟨y1,y2⟩:=Vb z.cls (~~~hy);rw[y1]at hC;cases hC;refine⟨y2,v,hv,λa ha=>?_⟩;have A1:aK c Y Z H SC SZ H':=aK.nj k hp (Ok.since (c:=⟨H,c.B,[],λ_ _=>False⟩) rfl (k.Fi gx) (λa⟨j,z⟩=>by simp at z) k');have A2:=A1.trans (aK.alloc A1.ok ha (.ext (excAt (ce z.cls) v a)));have A3:=Ok.set (i:=i) (v:=.ref a) (r:=.pure (.exc (ce z.cls) z.kF)) A2 (.exc (A1.ok.ju ha) cJ (Rep.dG rv (aK.alloc A1.ok ha _))) (λp zz=>by rw[hp]at zz;simp at zz);refine⟨SZ.set i 0#(.exc (ce z.cls) z.kF),A3.ok,?_⟩;unfold eK;generalize fh (SZ.set i 0#(.exc (ce z.cls) z.kF))=r at q;cases r with|stuck=>exact q.elim|exc z' Os=>exact q|ok fl Os=>intro N' H4 A4;have f0:=q (N'.set i none) H4 (aK.unset (A3.trans A4) hp i);cases fl with|next=>exact f0|brk=>exact f0|cont=>exact f0|ret r=>exactλv rv=>f0 v (aN.unset hp i rv)
   .exact q.elim
 .exact q.elim
section
open PySem.W Builtin Builtin.ObjectAttr Builtin.Getset_descriptor
section
variable{e:Addr}{h:Heap}{g:Array GenState}{d:Drawn}{t:Nat}
structure nq(K:W3)(C:Addr):Prop where
 ga:findIn K (.ref C) "__getattribute__"=some (some (.builtin "BaseException.__getattribute__"))gt:findIn K (.ref C) "__getattr__"=some none
 cl:findIn K (.ref C) "__class__"=some (some (.builtin "object.__class__"))sp:specialIn K (.builtin "object.__class__") "__get__"=some (some (.builtin "getset_descriptor.__get__"))tk:takesIn K (.builtin "object.__class__")=some true
 mo:mroIn K C (.type "object")=some true
 mb:mroIn K C (.type "BaseException")=some true
theorem Vc(X:K.In h)(k:nq K C)(he:h.get? e=some oe)(hc:oe.cls=.ref C)(q:R (.ok (.ret (.ref C))) ⟨h,g,d,t,os⟩):Jd 4#0 A (.call (.builtin "getset_descriptor.__get__") ⟨[.builtin "object.__class__",.ref e,tp],[]⟩) R ⟨h,g,d,t,os⟩:=by
 have l1:Looks 4#0 h (typeOf (.ref e)) (.ref C):=hc▸(Looks.ld he).andThen .now;have l2:=looks_mroIn (M:=4#0) X k.mo;refine codeAny_call_builtin KF.slot_gs.plain KF.entry_gs (KF.slot_gs.check _ _ _ _ _ _ _ _ KF.type_class (KF.args_gs _ _ _) ?_);unfold Builtin.«getset_descriptor.__get__» descrGet;rw[dga_obj];refine W0 (W2 ?_);unfold descrGetter descrCheckInstance descrNameAndClass isInstance;simp only[KF.owner_class];repeat lk
 refine⟨Code.quiet_builtin _ Pi,U9 KF.entry_class ?_⟩;unfold Builtin.«object.__class__» shownTypeOf;repeat lk
 exact q
theorem Vd(X:K.In h)(k:nq K C)(he:h.get? e=some oe)(hc:oe.cls=.ref C)(q:Q (.done (.ret (.ref C))) ⟨h,g,d,t,os⟩):W6 4#0 A (Builtin.«object.__getattribute__» ⟨[.ref e,.str "__class__" tk],[]⟩) Q E ⟨h,g,d,t,os⟩:=by
 have l0:Looks 4#0 h (typeOf (.ref e)) (.ref C):=hc▸(Looks.ld he).andThen .now;have l1:=looks_findIn (M:=4#0) X k.cl;have l2:=KF.type_class;have l3:=F.slot_gs_get.lookup;have l4:=F.slot_gs_set.lookup;repeat(any_goals(first|assumption|with_reducible refine Looks.at l0 ?_|with_reducible refine Looks.at l1 ?_|(with_reducible refine Ui he ?_;rw[hc])|wp_step))
 refine Vc X k he hc ?_;repeat(any_goals(first|assumption|wp_step))
theorem Ve(X:K.In h)(k:nq K C)(he:h.get? e=some oe)(hc:oe.cls=.ref C)(q:Q () ⟨h,g,d,t,os⟩):W6 4#0 A (checkBuiltinCall "BaseException.__getattribute__" ⟨[.ref e,nv],[]⟩) Q E ⟨h,g,d,t,os⟩:=by
 have l0:Looks 4#0 h (typeOf (.ref e)) (.ref C):=hc▸(Looks.ld he).andThen .now;have l1:=looks_mroIn (M:=4#0) X k.mb;have b1:builtinKind "BaseException.__getattribute__"=some .slot:=by decide+kernel
 have b2:splitId "BaseException.__getattribute__"=some ("BaseException","__getattribute__"):=by decide+kernel
 have b3:=F.args_bexc_ga (.ref e) nv;simp only[checkBuiltinCall,b1,b2];refine W0 ?_;unfold isInstance;repeat(first|with_reducible refine Looks.at l0 ?_|with_reducible refine Looks.at l1 ?_|(with_reducible refine Ui he ?_;rw[hc])|wp_step)
 exact q
theorem Vf(X:K.In h)(k:nq K C)(he:h.get? e=some oe)(hc:oe.cls=.ref C)(q:Q (some (.ref C)) ⟨h,g,d,t+1,os⟩):W6 4#0 A (getAttr? (.ref e) "__class__") Q E ⟨h,g,d,t,os⟩:=by
 have L0:Looks 4#0 h (typeOf (.ref e)) (.ref C):=hc▸(Looks.ld he).andThen .now;have L1:=looks_findIn (M:=4#0) X k.ga;have L2:=looks_findIn (M:=4#0) X k.gt;have L3:=looks_mroIn (M:=4#0) X k.mb;have hx0:(false&&onTheHeap (Value.builtin "BaseException.__getattribute__"))=false:=rfl;have Vg:(Value.builtin "BaseException.__getattribute__"==Value.builtin "object.__getattribute__")=false:=by decide+kernel
 have f3:=F.attrBase_ValueError.ga.bind (.ref e);unfold getAttr? getAttrBy? getAttrBy;refine W0 (wpAny_mkText (W0 (JY (WD (W0 (L0.at (W0 (L1.at ?_))))))));dsimp only;rw[Vg,Bool.and_false];simp only[WO,if_false];unfold getAttrByItsOwn hookBefore;repeat(any_goals(first|assumption|with_reducible refine Looks.at L2 ?_|wp_step))
 refine codeAny_call_builtin F.attrBase_ValueError.ga.plain F.entry_bexc_ga (Ve X k he hc (Vd X k he hc ?_));repeat(any_goals(first|assumption|wp_step))
universe H in theorem Vh(k:nq K C)(hk:(clsIn K C).isSome=true):KitX K (.ref e) (.ref C) (excAt C v e)where
 ty:=λM h X⟨o,h1,h2,_⟩=>h2▸(Looks.ld h1).andThen .now
 it:=λM h X j=>by
  obtain⟨cd,dS⟩:=QM.mp hk;unfold clsIn at dS;split at dS;next c' d' cd' sl' ho=>exactλA' Q' E' s' kk q=>by unfold isType loadHead;exact W0 (wpAny_loadPart (kk _ _ (X _ _ ho)) (W2 q))
  next=>cases dS
 ne:=λh tp dd its n sl X Vi=>by
  obtain⟨cd,dS⟩:=QM.mp hk;refine Bool.eq_false_iff.mpr λq=>?_;obtain rfl:C=tp:=Value.ref.inj (beq_iff_eq.mp q);unfold clsIn at dS;split at dS;next c' d' cd' sl' ho=>have z:=(X _ _ ho).symm.trans Vi;cases z
  next=>cases dS
 ca:=λ{prog w A E Q s}X⟨o,h1,h2,_⟩q=>by obtain⟨hh,gg,dd,tt,oo⟩:=s;exact Vf X k h1 h2 q
end
section
variable{y:Str}{D:Addr}
theorem Vj(hg:Gl X y)(hm:X.mg y=some (.ref D))(hd:(y==("__debug__":Str))=false:=by decide):PE X (.Name y pos) λY H Q=>Q (.ref D) H:=λpins s Y H Q I h=>mK I hg hm ⟨.ref D,H,I,rfl,h⟩ hd
structure IsT(K:W3)(ce:Tx->Nat)(ys:List Tx)(cv:Value)(tab:Tx->Bool):Prop where
 k:∀z∈ys,nq K (ce z)c:∀z∈ys,(PySem.W.clsIn K (ce z)).isSome=true
 one:∀z∈ys,QX K (.ref (ce z)) cv=some (tab z)
theorem Fm(Vk:∀u,RelV cV u->u=cv)(T:IsT X.K ce ys cv tab):dM X (.builtin "isinstance") λxs H Q=>∃(a:Addr)(z:Tx)(v:V),xs=[.ref a,cV]/\H a=some (.ext (excAt (ce z) v a))/\z∈ys/\Q (.bl (tab z)) H:=by intros xs us Q I r h;obtain⟨a,z,v,rfl,ha,hz,q⟩:=h;obtain⟨u,w',rfl,r1,r2⟩:=wG r;cases r1;have e:=Vk _ r2;subst e;obtain⟨p,_,_⟩:=I.aB a _ ha;exact Qt (Vh (T.k z hz) (T.c z hz)) I.dI p (T.one z hz) (λz=>nomatch z) λtk=>⟨.bl (tab z),H,I.tok tk,rfl,q⟩
end
structure f6(k:Nat)(A:Wp):Prop where
 dp:A.depth+3*k+5<recursionLimit
 un:A.units+16*k+200<Q3
theorem f6.deeper(r:f6 (k+1) A)(env:Env):f6 k (A.deeper env):=⟨by have:=r.dp;show A.depth+1+3*k+5<_;lia,by have:=r.un;show A.units+3+16*k+200<_;lia⟩
theorem dz.h(r:dz k A):f6 k A:=⟨r.dp,r.un⟩
theorem f6.mono(r:f6 k A)(h:j<=k):f6 j A:=⟨by have:=r.dp;lia,by have:=r.un;lia⟩
theorem f6.mark(r:f6 k A)(v:Option Value):f6 k (A.mark v):=⟨r.dp,r.un⟩
def Cx.uU(X:Cx):Cx:={X with calm:=false,xe:=λj j=>False}
structure yw(P:Wm)(w:Wu)(K:W3)(mg:Str->Option Value)(base:Heap)(k:Nat)(f:Addr)(fd:Ql)(ps:List Str)(sp:Sp):Prop where
 len:∀vs H Q E,sp vs H Q E->vs.length=ps.length
 run:∀(A:Wp)(outer:List Env)(s:W1)(H:Hp)(args:Args)(us:List Value)(vs:List V)(Q:VK),f6 k A->n_ P w K mg base A outer s H->BindsTo s fd args (ps.zip us)->Vals vs us->sp vs H Q E0->Jd (model P w) A (.call (.ref f) args) (CR fG outer P w H s Q E0) s
section
variable{k:Nat}
theorem Vl{x:Str}{st:Stmt}(F:eJ K x qual st f fd)(S:gw N ps (bP st))(len:∀vs H Q E,sp vs H Q E->vs.length=ps.length)(eG:∀(a_:Value)(A:Wp)(outer:List Env)(s:W1)(H:Hp)(vs:List V)(Q:VK),f6 k (A.deeper (Jp qual (bP st) s.heap.objs.size f a_))->sp vs H Q E0->∃t,dJ (fF fG P w K mg base N qual (bP st) f a_ A outer s H E0).uU (fR st) t/\t {nx:=λj H'=>Q .aD H',rt:=Q} (fE N vs) H):yw P w K mg base (k+1) f fd ps sp:=by
 obtain⟨oc,od,kV,doc,pm,an,a_,ct,jW,rfl,lk,dS⟩:=F.ex;refine⟨len,λA outer s H args us vs Q hr e0 hb r jq=>?_⟩;have hl:=len _ _ _ _ jq;have KX:K.In s.heap:=e0.mod.n5.keeps λb o e=>(e0.bs b o e).1;have lim:s.heap.NoLimit:=e0.mod.nolimit.keeps λb o e=>(e0.bs b o e).1;have wN:∀y∈ps.zip us,(bP st).names.lookup y.1=some .local\/(bP st).names.lookup y.1=some .cell/\((QU (s.heap.objs.size+1) (bP st).names []).lookup y.1).isSome=true:=λ⟨n,v⟩hy=>by
  rcases S.par n (U4 hy).1 with q|q;.exact .inl q
  .exact .inr ⟨q,JL _ _ _ (.inl q)⟩
 have Vm:A.depth<recursionLimit:=by have:=hr.dp;lia
 refine codeAny_call_function Vm (KX _ _ lk) rfl S.co S.gen rfl (PySem.W.codeRec_of KX dS) (hb _ _ _ _ ?_);refine wpAny_newFunctionEnv_cells S.kind wN λenv he s1 x=>?_;subst he;refine⟨lim.keeps x.toInCall.keep,codeAny_func ?_⟩;obtain⟨t,ht,hq⟩:=eG a_ A outer s H vs Q (hr.deeper _) jq;have e1:n_ P w K mg base {A with handled:=none} outer s H:=⟨e0.frames,e0.mod,e0.bs,e0.jk,e0.gr,e0.jT,e0.aB,e0.bare⟩;have J:=B3 (CX:=fG) (E:=E0) (qual:=qual) (f:=f) (cd:=a_) (A:={A with handled:=none}) S rfl e1 hl r x;have I:Inv (fF fG P w K mg base N qual (bP st) f a_ A outer s H E0).uU [] (fE N vs) H s1:=by have o:=J.ok;exact⟨⟨o.mod,o.kind,o.glob,o.blt,o.above,o.inj,o.has,o.lg,λz=>(by cases z),Around.frames_deeper e0.frames,o.mG,o.mH,o.bs,o.jk,o.lh,o.lj,o.gr,o.jT⟩,J.os,J.bare,J.base,J.loc,J.cell,J.free,J.e9,J.pin,J.aB,J.len⟩
 refine Qk (ht [] s1 (fE N vs) H _ I hq) (λfl s' hs=>?_) λe s' hs=>hs.elim;cases fl with|ret u=>obtain⟨v,SC,H',J2,rv,q⟩:=hs;exact⟨v,H',J2.os,J2.bare,J2.base,J2.aB,rv,q⟩|next=>obtain⟨SC,H',J2,q⟩:=hs;exact⟨V.aD,H',J2.os,J2.bare,J2.base,J2.aB,rfl,q⟩|brk=>obtain⟨_,_,_,q⟩:=hs;exact False.elim q|cont=>obtain⟨_,_,_,q⟩:=hs;exact False.elim q
end
section
variable{k:Nat}{x:Str}{p:Pos}{t:TA}
theorem Vn(F:yw X.prog X.w X.K X.mg X.base k f fd ps sp)(hr:f6 k X.A)(hg:Gl X x)(hm:X.mg x=some (.ref f))(hk:QY X.K (.ref f)=true)(hb:Binds X.K fd ps [])(ha:PA X (e::es) t)(dE:(x==("__debug__":Str))=false:=by decide)(he:Wa (e::es) X.env=(false,eval e X.env)::Wa es X.env:=by rfl)(bZ:(Qy pos (Wa es X.env)).any (·.1)=false:=by rfl):PE X (.Call (.Name x p) (e::es) [] pos) (wK sp [] E0 t):=by
 intros Q I h;refine JI (mK I hg hm ?_ dE);refine PySem.W.callWith_K (h₀:=X.base) I.ok.mod.n5 hk (aZ (ha pos pins s Y H _ I h) λus s1⟨vs,H1,I1,r,q⟩=>⟨I1.dI,?_⟩) he bZ;have q:sp vs H1 Q E0:=by have q':sp (vs++[]) H1 Q E0:=q;rwa[Qg]at q'
 have hl:(us++[]).length=ps.length:=by rw[Qg,<-r.length];exact F.len _ _ _ _ q
 refine wpAny_call (codeAny_mono (F.run X.A X.stack s1 H1 ⟨us,[]⟩ us vs Q hr I1.wJ (by have:=hb s1 us I1.dI hl;rwa[Qg]at this) r q) λr s' hq=>?_);cases r with|error e=>exact False.elim hq|ok fl=>cases fl with|ret u=>exact I1.after hq|next=>exact False.elim hq|brk=>exact False.elim hq|cont=>exact False.elim hq
end
end
def f7(ce:Tx->Nat)(ys:List Tx)(tab:Tx->Bool)(fb:BE):DE:=λZ=>(fb Z).bind λd SZ=>match d with
 |.exc n _=>match ys.find? λz=>ce z==n with|some z=>.ok (.pure (.bl (tab z))) SZ|none=>.stuck
 |_=>.stuck
section
variable{c:Fc}{y:Str}{ys:List Tx}
universe H in theorem Fn(h:tD c (f7 ce ys tab fb) Y H Q):UF c fb Y H λv H1=>∃(a:Addr)(z:Tx)(w:V),[v,cV]=[.ref a,cV]/\H1 a=some (.ext (excAt (ce z) w a))/\z∈ys/\Q (.bl (tab z)) H1:=by
 obtain⟨Z,k,q⟩:=h;unfold f7 at q;rw[bx]at q;refine⟨Z,k,aT q λd S' q1 v H1 a1 r1=>?_⟩;cases d<;>first|exact q1.elim|skip
 rename_i n fl;simp only at q1;split at q1
 .rename_i z hz;have h1:=List.find?_some hz;have h2:=List.mem_of_find?_eq_some hz;have e:ce z=n:= ~~~h1;subst e;rcases r1 with r1|⟨a,_,o⟩;.cases r1 with|exc _ ha _=>exact⟨_,z,_,rfl,ha,h2,q1 _ H1 a1 (.bl _)⟩
  .exact o.elim
 .exact q1.elim
theorem Vo{D:Addr}(T:IsT X.K ce ys (.ref D) tab)(hg:Gl X "isinstance")(hm:X.mg "isinstance"=none)(qk:Gl X y)(ql:X.mg y=some (.ref D))(he:SB X c e fb)(qo:(y==("__debug__":Str))=false:=by decide)(hs:Wa [e,.Name y py] X.env=(false,eval e X.env)::Wa [.Name y py] X.env:=by rfl)(bZ:(Qy pos (Wa [.Name y py] X.env)).any (·.1)=false:=by rfl):SE X c (.Call (.Name "isinstance" pp) [e,.Name y py] [] pos) (f7 ce ys tab fb):=PE.weak (pU (Fm (cV:=.ref D) λu r=>by cases r;rfl T) hg hm PyProof.Rows.boot_isinstance (dU he (dU (Vj qk ql qo) f_) hs) Z' Z' hs bZ) λY H Q h=>Fn h
theorem Vp(T:IsT X.K ce ys (.type T') tab)(hg:Gl X "isinstance")(hm:X.mg "isinstance"=none)(qk:Gl X y)(ql:X.mg y=none)(xQ:QK y=some (.type T'))(he:SB X c e fb)(xR:y≠"__name__":=by decide)(qo:(y==("__debug__":Str))=false:=by decide)(hs:Wa [e,.Name y py] X.env=(false,eval e X.env)::Wa [.Name y py] X.env:=by rfl)(bZ:(Qy pos (Wa [.Name y py] X.env)).any (·.1)=false:=by rfl):SE X c (.Call (.Name "isinstance" pp) [e,.Name y py] [] pos) (f7 ce ys tab fb):=PE.weak (pU (Fm (cV:=.ty T') λu r=>by cases r;rfl T) hg hm PyProof.Rows.boot_isinstance (dU he (dU (Bp (v:=.ty T') qk ql xQ rfl xR qo) f_) hs) Z' Z' hs bZ) λY H Q h=>Fn h
end
def qH(P:Wm)(w:Wu)(K:W3)(mg:Str->Option Value)(base:Heap)(k:Nat)(x:Str)(n:Nat)(G:DF):Prop:=∃(f:Addr)(fd:Ql)(ps:List Str),mg x=some (.ref f)/\QY K (.ref f)=true/\Binds K fd ps []/\yw P w K mg base k f fd ps (kK n G)
theorem Vq(r:f6 k A):A.units+64<Q3:=by have:=r.un;lia
theorem Vr{x:Str}{st:Stmt}{k:Nat}{fb:DS}(F:eJ K x qual st f fd)(hm:mg x=some (.ref f))(hb:Binds K fd ps [])(S:gw N ps (bP st))(eG:∀(c:Fc)(a_:Value)(A:Wp)(outer:List Env)(s:W1)(H:Hp)(E:XK),f6 k (A.deeper (Jp qual (bP st) s.heap.objs.size f a_))->Np c np->fH (fF fG P w K mg base N qual (bP st) f a_ A outer s H E).uU c (fR st) fb)(hG:∀ss y,G ss=some y->cY np 0 ss=true/\gW fb N.length ss=some y):qH P w K mg base (k+1) x ps.length G:=by
 refine⟨f,fd,ps,hm,F.kp,hb,Vl F S (λvs H Q E h=>?_) λa_ A outer s H vs Q hr h=>?_⟩;.obtain⟨ss,B,hl,_⟩:=h;exact hl
 .obtain⟨ss,B,hl,ok,r,aG,hg,q⟩:=h;obtain⟨gD,hrun⟩:=hG ss _ hg;have kM:ss.length=vs.length:=by have:=ok.len;simpa using this
  have qv:Np ⟨H,B,bX 0 ss vs,λu u=>False⟩ np:=λp hp=>by obtain⟨j,d,e,h1,_⟩:=lV (i:=p.1) (a:=p.2) hp;rw[e];exact uy gD h1
  refine⟨lT ⟨H,B,bX 0 ss vs,λu u=>False⟩ fb,eG ⟨H,B,bX 0 ss vs,λu u=>False⟩ a_ A outer s H E0 hr qv,?_⟩;have dw:fE N vs=bY vs++WJ (N.length-ss.length) none:=by rw[kM];rfl
  refine⟨bU N.length ss,%[dw|ok.ext _],?_⟩;unfold gW at hrun;unfold eK;cases e:fb (bU N.length ss)with|exc x GM=>rw[e]at hrun;cases hrun|stuck=>rw[e]at hrun;cases hrun|ok fl SZ=>rw[e]at hrun;show∀SC H',aK _ (fE N vs) (bU N.length ss) H SC SZ H'->fin _ _ SC SZ H' fl;intro SC H' a;rw[dw]at a;simp only at hrun;cases fl with
 |brk=>cases hrun|cont=>cases hrun|next=>simp only[dY,WB]at hrun;cases eo:cj 0 ss SZ with|none=>rw[eo]at hrun;cases hrun|some os=>rw[eo]at hrun;cases hrun;obtain⟨l1,l2⟩:=lX rfl ok a eo;exact q .aD H' l1 .aD
 |ret r'=>simp only[dY,WB]at hrun;cases eo:cj 0 ss SZ with|none=>rw[eo]at hrun;cases hrun|some os=>rw[eo]at hrun;cases hrun;obtain⟨l1,l2⟩:=lX rfl ok a eo;exactλv rv=>q v H' l1 (l2 v _ rv)
section
variable{c:Fc}{k:Nat}{x:Str}
theorem Vs(F:qH X.prog X.w X.K X.mg X.base k x n G)(hK:qz G)(hr:f6 k X.A)(hg:Gl X x)(ha:SX X c (e::es) as)(hl:as.length=n)(dE:(x==("__debug__":Str))=false:=by decide)(he:Wa (e::es) X.env=(false,eval e X.env)::Wa es X.env:=by rfl)(bZ:(Qy pos (Wa es X.env)).any (·.1)=false:=by rfl):SE X c (.Call (.Name x pp) (e::es) [] pos) (ay G as):=by obtain⟨f,fd,ps,hm,hk,hb,ok⟩:=F;exact PE.weak (Vn ok hr hg hm hk hb ha dE he bZ) λY H Q h=>Eu (ps:=ps) hK hl h
end
section
open PySem.SeqAt
theorem yx:∀{bs:List Bool}{us:List Value},Vals (bs.map V.bl) us->us=bs.map Value.bool|[],us,r=>by cases r;rfl|b::bs,us,r=>by cases r with|cons r1 r2=>cases r1;rw[yx r2];rfl
def qI:Value->Bool|.bool b=>b|_=>false
theorem Fo:∀bs:List Bool,(bs.map Value.bool).countP qI=bs.count true|[]=>rfl|b::bs=>by rw[Wl,List.countP_cons,Fo bs,List.count_cons];cases b<;>rfl
def Fp(K:W3):V->List V->Hp->VK->Prop:=λx xs H Q=>∃(a:Addr)(bs:List Bool),x=.ref a/\xs=[.bl true]/\cp K H a (bs.map V.bl)/\Q (.int (bs.count true:Nat)) H
def zev(K:W3):V->List V->Hp->VK->Prop:=λx xs H Q=>∃(a:Addr)(bs:List Bool),x=.ref a/\xs=[.bl true]/\cp K H a (bs.map V.bl)/\true∈bs/\bs.length<=1000/\Q (.int (bs.idxOf true:Nat)) H
theorem Vt:pW X "list.count" (Fp X.K):=by
 intros x xs v us Q I rx rs h;obtain⟨a,bs,rfl,rfl,hq,q⟩:=h;obtain⟨u,rfl,ru⟩:=fQ rs;cases ru;cases rx;obtain⟨its,r',p,_⟩:=I.list hq;obtain rfl:=yx r';obtain⟨⟨cls,dd,data,sl⟩,ho,hc,n,hd⟩:=p.isList;simp only at hc hd;subst hc;subst hd;refine call_meets PySem.F.slot_list_count ⟨_,ho,rfl⟩ PySem.F.entry_list_count (PySem.F.args_list_count_2 _ _) (list_countAt a _ n dd sl (.bool true) qI) ⟨ho,λy hy=>?_,?_⟩;.have kT:y∈bs.map Value.bool:= ~~~hy;obtain⟨b,_,rfl⟩:=WA.mp kT;have:=EqAt.bool_bool (A:=X.A.in1) (s:=s) b true;cases b<;>exact this
 .rw[show(bs.map Value.bool).toArray.toList=bs.map Value.bool from rfl,Fo];exact⟨.int (bs.count true:Nat),H,I.tok _,⟨_,rfl⟩,q⟩
theorem Vu:pW X "list.index" (zev X.K):=by
 intros x xs v us Q I rx rs h;obtain⟨a,bs,rfl,rfl,hq,hm,hl,q⟩:=h;obtain⟨u,rfl,ru⟩:=fQ rs;cases ru;cases rx;obtain⟨its,r',p,_⟩:=I.list hq;obtain rfl:=yx r';obtain⟨⟨cls,dd,data,sl⟩,ho,hc,n,hd⟩:=p.isList;simp only at hc hd;subst hc;subst hd;have hj:bs.idxOf true<bs.length:=List.idxOf_lt_length_iff.mpr hm;refine call_meets JD ⟨_,ho,rfl⟩ PySem.F.entry_list_index (PySem.F.args_list_index_2 _ _) (list_indexAt a _ n dd sl (.bool true) qI (bs.idxOf true) (~~~hj) Y' ?_ ?_) ⟨ho,λy hy=>?_,⟨.int (bs.idxOf true:Nat),H,I.tok _,⟨_,rfl⟩,q⟩⟩;.have:=List.getElem_idxOf hj;simp[qI,this]
 .intro m hm' bh;have Fq:m<bs.length:= ~~~hm';have:bs[m]≠true:=λz=>by have z2:=List.not_of_lt_findIdx (p:=(.==true)) (xs:=bs) (i:=m) bh;rw[z]at z2;cases z2
  simp[qI,this]
 .have kT:y∈bs.map Value.bool:= ~~~hy;obtain⟨b,_,rfl⟩:=WA.mp kT;have:=EqAt.bool_bool (A:=X.A.in1) (s:=s) b true;cases b<;>exact this
end
noncomputable def qJ:D->Option S|.lst ds=>(gP ds).map λbs=>.pure (.int (bs.count true:Nat))|_=>none
noncomputable def qK:D->Option S
 |.lst ds=>match gP ds with|some bs=>if true∈bs/\bs.length<=1000 then 0#(.int (bs.idxOf true:Nat)) else none|none=>none
 |_=>none
section
variable{c:Fc}
theorem Vv:j5 (λx H Q=>pX K "list" x H/\Fp K x [.bl true] H Q) qJ:=by intro c Y Z H x d s Q k rx hp q;cases d with
 |lst ds=>simp only[qJ]at hp;cases e:gP ds with|none=>rw[e]at hp;cases hp|some bs=>rw[e]at hp;cases hp;obtain⟨a,vs,ea,ha,ra⟩:=rx.lst;obtain rfl:=um e ra;subst ea;exact⟨.inl ⟨rfl,_,.inl ha⟩,a,bs,rfl,rfl,.inl ha,q _ H (.refl k) (.int _)⟩
 |_=>simp[qJ]at hp
universe H in theorem Vw:j5 (λx H Q=>pX K "list" x H/\zev K x [.bl true] H Q) qK:=by intro c Y Z H x d s Q k rx hp q;cases d with
 |lst ds=>simp only[qK]at hp;cases e:gP ds with|none=>rw[e]at hp;cases hp|some bs=>
 rw[e]at hp;simp only at hp;split at hp;.rename_i hz;cases hp;obtain⟨a,vs,ea,ha,ra⟩:=rx.lst;obtain rfl:=um e ra;subst ea;exact⟨.inl ⟨rfl,_,.inl ha⟩,a,bs,rfl,rfl,.inl ha,hz.1,hz.2,q _ H (.refl k) (.int _)⟩
 .cases hp|_=>simp[qK]at hp
theorem Vx{j}{p0 apos bV:Pos}(he:SB X c e fb)(jr:JX e "count" X.env (eval e X.env)=eval e X.env:=by rfl)(js:((Qy bV (Wa [.Constant (.bool true) j p0] X.env)).all (λx=>!x.1)&&(backToKw bV (Ul [] X.env)).all (λx=>x.1.isSome)&&decide ([Expr.Constant (.bool true) j p0].length+([]:List Keyword).length+(if([]:List Keyword).isEmpty then 0 else 1)<30))=true:=by rfl)(jt:(apos.endLine==bV.line)=true:=by rfl)(hs:Wa [.Constant (.bool true) j p0] X.env=(false,eval (.Constant (.bool true) j p0) X.env)::Wa [] X.env:=by rfl):SE X c (.Call (.Attribute e "count" apos) [.Constant (.bool true) j p0] [] bV) (aE qJ fb):=by refine PE.weak (pY JB PySem.F.slot_list_count PySem.F.type_list_count Vt he (dU wo f_ hs) jr js jt hs rfl) λY H Q h=>?_;obtain⟨Z,k,q⟩:=oz (Vv (K:=X.K)) h;exact⟨Z,k,aT q λy S' q1 v H1 a1 r1=>q1 v H1 a1 r1⟩
theorem Vy{j}{p0 apos bV:Pos}(he:SB X c e fb)(jr:JX e "index" X.env (eval e X.env)=eval e X.env:=by rfl)(js:((Qy bV (Wa [.Constant (.bool true) j p0] X.env)).all (λx=>!x.1)&&(backToKw bV (Ul [] X.env)).all (λx=>x.1.isSome)&&decide ([Expr.Constant (.bool true) j p0].length+([]:List Keyword).length+(if([]:List Keyword).isEmpty then 0 else 1)<30))=true:=by rfl)(jt:(apos.endLine==bV.line)=true:=by rfl)(hs:Wa [.Constant (.bool true) j p0] X.env=(false,eval (.Constant (.bool true) j p0) X.env)::Wa [] X.env:=by rfl):SE X c (.Call (.Attribute e "index" apos) [.Constant (.bool true) j p0] [] bV) (aE qK fb):=by refine PE.weak (pY JB JD PySem.F.type_list_index Vu he (dU wo f_ hs) jr js jt hs rfl) λY H Q h=>?_;obtain⟨Z,k,q⟩:=oz (Vw (K:=X.K)) h;exact⟨Z,k,aT q λy S' q1 v H1 a1 r1=>q1 v H1 a1 r1⟩
end
theorem SS.jV{c:Fc}{st:Stmt}{f:DS}(h:SS X.jV c st f):SS X c st f:=λpins s Y H D I hw=>Qk (h pins s Y H D (I.h_ _) hw) (λj j q=>q.kq) λj j z=>False.elim z
def Fs:List (Tx×Nat)->Tx->Nat|[],_=>0|p::r,x=>bif p.1==x then p.2 else Fs r x
structure ZA(z TI TO i1 i2:Addr)(f1 f2:List Addr):Prop where
 m1:i1∈f1
 m2:i2∈f2
 z1:z∉f1
 z2:z∉f2
 t1:TO∉f1
 t2:TO∉f2
 k1:i1∉f2
 k2:i2∉f1
 tz:TO≠z
 iz:TI≠z
 io:TI≠TO
 n1:TI≠i1
 n2:TI≠i2
def kU(b:Bool)(h:Heap)(a:Addr)(its:Array Value):Prop:=match b with|true=>h.IsList a its|false=>h.IsTuple a its
def Ft(b:Bool)(h:Heap)(it a:Addr)(i:Nat):Prop:=match b with|true=>h.IsListIter it a i|false=>h.IsTupleIter it a i
def Fu(b:Bool)(a:Addr):Obj:={cls:=.type (match b with|true=>"list_iterator"|false=>"tuple_iterator"),data:=.fields #[.ref a,.int 0 0]}
theorem kU.lt{its}(q:kU b h a its):a<h.objs.size:=by
 cases b;.obtain⟨o,e,_⟩:=(q:h.IsTuple a its);exact Wj e
 .obtain⟨o,e,_⟩:=(q:h.IsList a its);exact Wj e
theorem kU.push{its}(q:kU b h a its)(o:Obj):kU b (h.push o) a its:=by
 cases b;.obtain⟨o,e,r⟩:=(q:h.IsTuple a its);exact⟨o,W5 _ e,r⟩
 .obtain⟨o,e,r⟩:=(q:h.IsList a its);exact⟨o,W5 _ e,r⟩
theorem Vz{its}(h:kU b s.heap a its)(q:Q (.ref s.heap.objs.size) 9#(s.heap.push (Fu b a))):W6 4#0 A (pyIter (.ref a)) Q E s:=by
 cases b;.exact Ud h q
 .exact JO h q
theorem VA(b:Bool)(hh:A.handled=none)(it a:Addr)(bN:a≠it)(its:Array Value):Draws prog w A it [it,a] its.size (λi v=>its[i]?=some v) λi h=>Ft b h it a i/\kU b h a its:=by
 cases b;.exact Draws.tuple' hh it a bN its
 .exact Draws.list hh it a bN its
theorem Inv.VB{v}(fp:List Addr)(I:6#0)(hf:∀b∈fp,eQ X pins H b)(bh:∀b∈fp,b<s.heap.objs.size)(ru:RelV x u)(rv:RelV y v)(hT:h'.get? s.heap.objs.size=some {cls:=.type "tuple",data:=.seq #[u,v]})(k:∀b o,b∉fp->s.heap.get? b=some o->h'.get? b=some o):Inv X pins Y (upd H s.heap.objs.size (.tup [x,y])) {s with heap:=h',toks:=t'}:=by
 have I1:Inv X pins Y (upd H s.heap.objs.size (.tup [x,y])) {s with heap:=s.heap.push {cls:=.type "tuple",data:=.seq #[u,v]},toks:=t'}:=I.laid (t':=t') (λb o e=>W5 _ e) (W7 _) (show bz X.prog X.w _ _ _ (.tup [x,y])from⟨by simp only[WV,U7];rw[Qb];decide,[u,v],.cons ru (.cons rv .nil),iS.new _ _⟩);have:=Inv.uN (t':=t') (h':=h') fp I1 (λb o hb eb=>?_) λb hb=>?_;.exact this
 .rcases Heap.get?_push_cases eb with⟨z,z'⟩|eb;.subst z z';exact hT
  .exact k b o hb eb
 .obtain⟨f0,r⟩:=hf b hb;exact⟨%[aY (WQ (bh b hb))|f0],r⟩
def nr(b:Bool)(K:W3)(H:Hp)(a:Addr)(xs:List V):Prop:=match b with|true=>cp K H a xs|false=>cK K H a xs
theorem Inv.Fv{xs}(I:6#0)(h:nr b X.K H a xs):∃its,Vals xs its/\kU b s.heap a its.toArray:=by
 cases b;.obtain⟨its,rv,p,_⟩:=I.tuple (h:cK X.K H a xs);exact⟨its,rv,p⟩
 .obtain⟨its,rv,p,_⟩:=I.list (h:cp X.K H a xs);exact⟨its,rv,p.isList⟩
theorem Inv.VC{xs}(I:6#0)(h:nr b X.K H a xs)(h':nr b X.K H a ys):xs=ys:=by
 cases b;.exact I.Bs h h'
 .exact I.Br h h'
section
variable{c:Fc}
def kW(xs ys:List D):List D:=List.zipWith (λx y=>D.tup [x,y]) xs ys
theorem Fw{xs ys:List D}{d:D}(h:(kW xs ys)[i]?=some d):∃x y,xs[i]?=some x/\ys[i]?=some y/\d=.tup [x,y]:=by unfold kW at h;rw[List.getElem?_zipWith]at h;cases e1:xs[i]? with|none=>rw[e1]at h;cases h|some x=>cases e2:ys[i]? with|none=>rw[e1,e2]at h;cases h|some y=>rw[e1,e2]at h;cases h;exact⟨x,y,rfl,rfl,rfl⟩
theorem aH.two{u}(r:Rep H O u x)(r':Rep H O v y):aH H O [u,v] [x,y]:=by refine⟨rfl,λj v' d' e1 e2=>?_⟩;match j with|0=>simp at e1 e2;subst e1 e2;exact r|1=>simp at e1 e2;subst e1 e2;exact r'|j+2=>simp at e1
noncomputable def qL:D->Option (List D)|.lst ds=>some ds|.tup ds=>some ds|_=>none
theorem Rep.sq{d:D}(r:Rep H O v d)(e:qL d=some ds):∃(b:Bool)(a:Addr)(vs:List V),v=.ref a/\nr b K H a vs/\aH H O vs ds/\∀H2,(∀p o,H p=some o->¬O p->H2 p=some o)->nr b K H2 a vs:=by
 cases d<;>first|(simp[qL]at e;done)|skip
 .cases r with|tup h1 h2 h3 h4=>simp only[qL,Wb]at e;subst e;exact⟨false,_,_,rfl,cK.of h2,⟨h3,h4⟩,λH2 k=>cK.of (k _ _ h2 h1)⟩
 .cases r with|lst h1 h2 h3 h4=>simp only[qL,Wb]at e;subst e;exact⟨true,_,_,rfl,.inl h2,⟨h3,h4⟩,λH2 k=>.inl (Rd.keep h2 λo e=>k _ o e h1)⟩
end
def jD(G:DX)(as:List Ak):DE:=λZ=>if(bB as).all (dk Z)&&cP (bB as)then(cD as Z).bind λds S'=>match bS as ds S' with|none=>.stuck|some ss=>match G ss with|some (.inl (r,aG))=>.ok r (bp as aG S')|_=>.stuck else .stuck
section
variable{c:Fc}{k:Nat}{x:Str}{G:DX}
universe H in theorem VD(hK:qG G)(hl:as.length=n)(h:tD c (jD G as) Y H Q):tX c as Y H λvs H1=>uT X.mg n G vs H1 Q λc' _ H'=>∃C,c'=.ref C/\False:=by
 obtain⟨Z,kk,q⟩:=h;unfold jD at q;split at q
 .rename_i hc;rw[Wr]at hc;have nd:=uA hc.2;rw[bx]at q;refine⟨Z,kk,λi hi=>?_,aT q λds S' q1 vs H1 a1 r1=>?_⟩
  .have:=WW.mp hc.1 i (kP.mpr hi);unfold dk at this;split at this;.rename_i d ed;exact ou kk ed
   .cases this
  .cases em:bS as ds S' with|none=>rw[em]at q1;exact q1.elim|some ss=>rw[em]at q1;simp only at q1;cases eg:G ss with|none=>rw[eg]at q1;exact q1.elim|some y=>rw[eg]at q1;have m5:=yb a1.ok r1 em nd;obtain⟨m1,m2,_⟩:=qw r1 em;have g2:=hK ss y eg;cases y with|inl y=>refine⟨ss,_,by rw[<-m2];exact hl,m5,.inl y,eg,?_⟩;obtain⟨r,aG⟩:=y;intro v H2 a2 r2;obtain⟨o1,o2⟩:=uC a1.ok r1 em nd rfl a2 (λj d ed=>(g2 j).1 d ed) λj d ed=>(g2 j).2 d ed;exact q1 v H2 (a1.trans o1) (aN.back (o2 v r r2) a1)|inr y=>exact q1.elim
 .exact q.elim
theorem VE(F:l_ X.prog X.w X.K X.mg X.base k x n G)(hK:qG G)(hr:dz k X.A)(hex:X.ex=[])(hg:Gl X x)(ha:SX X c (e::es) as)(hl:as.length=n)(dE:(x==("__debug__":Str))=false:=by decide)(he:Wa (e::es) X.env=(false,eval e X.env)::Wa es X.env:=by rfl)(bZ:(Qy pos (Wa es X.env)).any (·.1)=false:=by rfl):SE X c (.Call (.Name x pp) (e::es) [] pos) (jD G as):=by obtain⟨f,fd,ps,hm,hk,hb,ok⟩:=F;exact PE.weak (Fe (W:=λj j j j=>False) ok hr hex hg hm hk hb (λj j j j j j j j j h=>h.elim) ha dE he bZ) λY H Q h=>VD hK hl h
end
section
variable{h:Heap}{x q:Str}{st:Stmt}
abbrev aV(K:W3)(x:Str)(st:Stmt):Prop:=∃(f:Addr)(oc:Value)(od:Option Addr)(kV dc pm:Value)(an:Option Addr)(cd ct:Value)(sl:Array (Option Value)),PySem.W.nsIn K Wv x=some (some (.ref f))/\K.lookup f=some ⟨oc,od,.func (J1 x x (lH st) (fR st) (bP st) .none kV dc pm an cd ct),sl⟩/\PySem.W.codeIn K cd x=true/\QY K (.ref f)=true
theorem uV(X:K.In h)(G:h.Ns Wv mg)(d:aV K x st):∃f fd,eJ K x x st f fd/\mg x=some (.ref f):=by obtain⟨f,oc,od,kV,dc,pm,an,cd,ct,sl,a,l,c,k⟩:=d;exact⟨f,_,CG l c k,PySem.W.mg_of X G a⟩
abbrev Bd(x q:Str)(st:Stmt)(ps:List Str)(us:List Value):Prop:=∀(kV doc pm:Value)(an:Option Addr)(a_ ct:Value),bindArgs (J1 x q (lH st) (fR st) (bP st) .none kV doc pm an a_ ct) ⟨us,[]⟩=pure (ps.zip us)
variable{p1 p2 p3 p4 p5 p6:Str}
theorem Fx(F:eJ K x q st f fd)(h:∀a,Bd x q st [p1] [a]):Binds K fd [p1] []:=F.binds λj j j j j j us hl=>by rcases us with _|⟨a,_|_⟩<;>cases hl;exact h a _ _ _ _ _ _
theorem yy(F:eJ K x q st f fd)(h:∀a b,Bd x q st [p1,p2] [a,b]):Binds K fd [p1,p2] []:=F.binds λj j j j j j us hl=>by rcases us with _|⟨a,_|⟨b,_|_⟩⟩<;>cases hl;exact h a b _ _ _ _ _ _
theorem yz(F:eJ K x q st f fd)(h:∀a b c,Bd x q st [p1,p2,p3] [a,b,c]):Binds K fd [p1,p2,p3] []:=F.binds λj j j j j j us hl=>by rcases us with _|⟨a,_|⟨b,_|⟨c,_|_⟩⟩⟩<;>cases hl;exact h a b c _ _ _ _ _ _
theorem Fy(F:eJ K x q st f fd)(h:∀a b c d,Bd x q st [p1,p2,p3,p4] [a,b,c,d]):Binds K fd [p1,p2,p3,p4] []:=F.binds λj j j j j j us hl=>by rcases us with _|⟨a,_|⟨b,_|⟨c,_|⟨d,_|_⟩⟩⟩⟩<;>cases hl;exact h a b c d _ _ _ _ _ _
end
theorem c7{α:Type}{P:α->Prop}{a:α}(x:P a):∀z∈[a],P z:=λj h=>by cases h with|head=>exact x|tail _ h=>cases h
section
open PySem.SeqAt
def yA(z:Str):Value->Bool|.str x _=>x==z|_=>false
theorem VF{xs}(h:Vals xs us):∀(j:Nat)(u:Value),us[j]?=some u->∃v,xs[j]?=some v/\RelV v u:=by induction h with|nil=>intro j u e;simp at e|cons r rs ih=>intro j u e;cases j with|zero=>simp at e;subst e;exact⟨_,rfl,r⟩|succ j=>simpa using ih j u (~~~e)
def Fz(K:W3):V->List V->Hp->VK->Prop:=λx xs H Q=>∃(a:Addr)(ts:List Tx)(z:Tx),x=.ref a/\xs=[.str (toS z)]/\cp K H a (ts.map λt=>V.str (toS t))/\z∈ts/\ts.length<=1000/\Q (.int (ts.idxOf z:Nat)) H
theorem VG:pW X "list.index" (Fz X.K):=by
 intros x xs v us Q I rx rs h;obtain⟨a,ts,z,rfl,rfl,hq,hm,hl,q⟩:=h;obtain⟨u,rfl,ru⟩:=fQ rs;obtain⟨tk,rfl⟩:=ru;cases rx;obtain⟨its,r',p,_⟩:=I.list hq;obtain⟨⟨cls,dd,data,sl⟩,ho,hc,n,hd⟩:=p.isList;simp only at hc hd;subst hc;subst hd;have at':∀j(hj:j<its.length),∃t tk,ts[j]?=some t/\its[j]=.str (toS t) tk:=λj hj=>by obtain⟨v,e1,r1⟩:=VF r' j _ (W4 hj);rw[Ws]at e1;obtain⟨t,e2,e3⟩:=Option.map_eq_some_iff.mp e1;subst e3;obtain⟨tk,e4⟩:=r1;exact⟨t,tk,e2,e4⟩
 have hlen:its.length=ts.length:=by have:=r'.length;simpa using this.symm
 have hj:ts.idxOf z<ts.length:=List.idxOf_lt_length_iff.mpr hm;have f9:ts.idxOf z<its.length:=by lia
 refine call_meets JD ⟨_,ho,rfl⟩ PySem.F.entry_list_index (PySem.F.args_list_index_2 _ _) (list_indexAt a _ n dd sl (.str (toS z) tk) (yA (toS z)) (ts.idxOf z) (~~~f9) Y' ?_ ?_) ⟨ho,λy hy=>?_,⟨.int (ts.idxOf z:Nat),H,I.tok _,⟨_,rfl⟩,q⟩⟩;.obtain⟨t,l8,e1,e2⟩:=at' _ f9;have e3:ts[ts.idxOf z]=z:=List.getElem_idxOf hj;rw[W4 hj,e3]at e1;cases e1;simp only[List.getElem_toArray,e2,yA];exact beq_self_eq_true _
 .intro m hm' bh;have uW:m<its.length:= ~~~hm';obtain⟨t,l8,e1,e2⟩:=at' m uW;have bN:t≠z:=λe=>by
   subst e;have Fq:m<ts.length:=by lia
   have z2:=List.not_of_lt_findIdx (p:=(.==t)) (xs:=ts) (i:=m) bh;rw[W4 Fq]at e1;cases e1;simp at z2
  simp only[List.getElem_toArray,e2,yA];rw[oq];exact beq_false_of_ne bN
 .have kT:y∈its:= ~~~hy;obtain⟨j,hjj,rfl⟩:=List.getElem_of_mem kT;obtain⟨t,l8,e1,e2⟩:=at' j hjj;rw[e2];exact EqAt.str_str _ _ _ _
end
noncomputable def VH:D->Bool|.lst _=>true|_=>false
noncomputable def nt(x y:D):Option S:=match x,y with
 |.lst ds,.str z=>match di ds with|some ts=>if z∈ts/\ts.length<=1000 then 0#(.int (ts.idxOf z:Nat)) else none|none=>none
 |_,_=>none
def nu(i:Nat)(fb:DE):DE:=λZ=>match Z[i]? with|some (some s)=>if VH s.d then(fb Z).bind λy S'=>match S'[i]? with|some (some s)=>p2 nt s.d y.d S'|_=>.stuck else .stuck|_=>.stuck
section
variable{c:Fc}{o:Expr}{fb:DE}
universe H in theorem VI:cu (λx y H Q=>Fz K x [y] H Q) nt:=by intro c Y Z H x y d e s Q k rx ry hp q;cases d with
 |lst ds=>cases e with
  |str z=>
   simp only[nt]at hp;split at hp
   .rename_i ts ht;split at hp;.rename_i hz;cases hp;obtain⟨a,vs,ea,ha,r⟩:=rx.lst;have ev:=qg ht r;subst ev;exact⟨a,ts,z,ea,by rw[ry.str],.inl ha,hz.1,hz.2,q _ H (.refl k) (.int _)⟩
    .cases hp
   .cases hp|_=>simp[nt]at hp
 |_=>simp[nt]at hp
universe H in theorem VJ(he:PE X o (fD i))(hx:SE X c e fb)(jr:JX o "index" X.env (eval o X.env)=eval o X.env:=by rfl)(js:((Qy bV (Wa [e] X.env)).all (λx=>!x.1)&&(backToKw bV (Ul [] X.env)).all (λx=>x.1.isSome)&&decide ([e].length+([]:List Keyword).length+(if([]:List Keyword).isEmpty then 0 else 1)<30))=true:=by rfl)(jt:(apos.endLine==bV.line)=true:=by rfl)(hs:Wa [e] X.env=(false,eval e X.env)::Wa [] X.env:=by rfl):SE X c (.Call (.Attribute o "index" apos) [e] [] bV) (nu i fb):=by refine PE.weak (pY JB JD PySem.F.type_list_index VG he (dU hx f_ hs) jr js jt hs rfl) λY H Q h=>?_;obtain⟨Z,k,q⟩:=h;unfold nu at q;cases e0:Z[i]? with|none=>rw[e0]at q;exact q.elim|some o=>cases o with|none=>rw[e0]at q;exact q.elim|some w=>
   rw[e0]at q;simp only at q;split at q;case isFalse=>exact q.elim
   rename_i hL;obtain⟨v,ev⟩:=ou k e0;have rb:=xS k e0 ev;have ty:pX X.K "list" v H:=by
    cases hd:w.d<;>rw[hd]at hL<;>try cases hL
    rw[hd]at rb;obtain⟨a,vs,ea,ha,_⟩:=rb.lst;subst ea;exact .inl ⟨rfl,_,.inl ha⟩
   rw[bx]at q;refine⟨v,ev,ty,Z,k,aT q λy S' q1 u H1 a1 r1=>?_⟩;cases e:S'[i]? with|none=>rw[e]at q1;exact q1.elim|some o=>cases o with|none=>rw[e]at q1;exact q1.elim|some w1=>rw[e]at q1;have VL:=xS a1.ok e ev;exact qe VI a1.ok VL (.inl r1.rep) (aT q1 λs Pv q3 v' H3 a3 r3=>q3 v' H3 (a1.trans a3) (aN.back r3 a1))
end
section
open PySem.W
theorem Vals.at2(r:Vals vs its)(e1:vs[i]?=some v)(e2:its[i]?=some u):RelV v u:=by obtain⟨u',e,q⟩:=Vals.get r e1;rw[e2]at e;cases e;exact q
theorem Vals.pick(r:Vals vs its):∀is:List Nat,(∀i∈is,i<vs.length)->Vals (is.map λi=>vs.getD i .aD) (is.map λi=>its.getD i Value.none)|[],_=>.nil|i::is,h=>by refine .cons ?_ (Vals.pick r is λj hj=>h j (Wf _ hj));have hi:=h i Wi;have hl:=r.length;have e1:vs.getD i .aD=vs[i]:=#v[hi];have e2:its.getD i Value.none=its[i]' Y':=#v[show i<its.length by lia];show RelV (vs.getD i .aD) (its.getD i Value.none);rw[e1,e2];exact Vals.at2 (i:=i) r (W4 hi) (W4 Y')
end
section
variable{c:Fc}
theorem aH.pick(r:aH H O vs ds):∀is:List Nat,(∀i∈is,i<vs.length)->aH H O (is.map λi=>vs.getD i .aD) (is.map λi=>ds.getD i .aD)
 |[],_=>.nil|i::is,h=>by
  have hi:=h i Wi;have hl:=r.1;refine .cons (r.2 i _ _ ?_ ?_) (aH.pick r is λj hj=>h j (Wf _ hj));.simp[hi]
  .simp[show i<ds.length by lia]
end
section
open PySem.W
section
variable{vs:List Value}
theorem FA{P}(ho:s.heap.get? a=some (WX "list" vs.toArray n))(h1:vs.length<2)(h:P (.done (.ret .none)) 9#(sortedHeap s.heap a vs vs.toArray)):W6 4#0 A (Builtin.«list.sort» ⟨[.ref a],[]⟩) P E s:=by
 obtain⟨e1,ho1⟩:∃e1,(s.heap.update a (Obj.mapSeq λj=>(#[]:Array Value))).get? a=some (WX "list" #[] e1):=⟨_,get?_update_seq ho λj=>#[]⟩;rw[list_sort_plain];refine W0 (listItems_at ho rfl (W0 (listUpdate_at ho rfl (W0 (seqEpoch_at ho1 rfl (W0 (wpAny_newTuple (W0 (wpAny_newList (WD ?_) (Q6 _))) (by show vs.length<=_;rw[Qb];lia))))) (by rw[Wn,Qb];lia) (Q6 _))));show W6 4#0 A _ P E 9#(((s.heap.update a (Obj.mapSeq λj=>(#[]:Array Value))).push (WX "tuple" vs.toArray 0)).push (WX "list" #[] 0));have h6:(((s.heap.update a (Obj.mapSeq λj=>(#[]:Array Value))).push (WX "tuple" vs.toArray 0)).push (WX "list" #[] 0)).get? a=some (WX "list" #[] e1):=W5 _ (W5 _ ho1);dsimp only;have mP:vs.toArray.size<2:=%[Wn|h1];rw[if_pos mP,if_pos mP];refine W0 (W2 (W0 (W2 ?_)));dsimp only;have q1:(Wg (SortSt.mk' general' (vs.toArray.zip vs.toArray) #[] 7 none)).map (·.2)=vs.toArray:=by show(vs.toArray.zip vs.toArray).map (·.2)=vs.toArray;have:List.map (λx:Value×Value=>x.2) (vs.zip vs)=vs:=List.map_snd_zip (W7 _);simpa using this
 rw[q1];refine W0 (seqEpoch_at h6 rfl (W0 (listUpdate_at h6 rfl ?_ (Q6 _) (by rw[Wn,Qb];lia))));simp only[bne_self_eq_false,WO,if_false];exact W2 h
theorem VM(hl:s.heap.IsList l vs.toArray)(h1:vs.length<2)(h:Q (.ref (s.heap.objs.size+1)) 9#(sortedAll s.heap vs vs.toArray)):W6 4#0 A (call (.builtin "sorted") [.ref l]) Q E s:=by
 refine Calls.call_function_entry kind_sorted plain_sorted entry_sorted (args_sorted1 _) ?_;unfold Builtin.«sorted»;refine W0 (m:=checkCount "sorted" 1 1 _) (W2 (W0 (collect_list hl (W0 (wpAny_newList ?_ (by rw[Qb];lia))) (by rw[Qb];lia))));have hz:((s.heap.push (WX "list" #[] 0)).update s.heap.objs.size (Obj.mapSeq (.++vs.toArray))).objs.size=s.heap.objs.size+1:=by rw[Heap.size_update,size_push']
 have gL:(((s.heap.push (WX "list" #[] 0)).update s.heap.objs.size (Obj.mapSeq (.++vs.toArray))).push (WX "list" vs.toArray 0)).get? (s.heap.objs.size+1)=some (WX "list" vs.toArray 0):=by rw[<-hz];exact We _ rfl
 show W6 _ _ _ _ _ 9#(((s.heap.push (WX "list" #[] 0)).update s.heap.objs.size (Obj.mapSeq (.++vs.toArray))).push (WX "list" vs.toArray 0));rw[hz];refine W0 (WD (WY slot_list_sort ⟨_,gL,rfl⟩ entry_list_sort (FA (s:=9#(((s.heap.push (WX "list" #[] 0)).update s.heap.objs.size (Obj.mapSeq (.++vs.toArray))).push (WX "list" vs.toArray 0))) gL h1 ⟨_,rfl,?_⟩) (args_list_sort _)));exact W2 ⟨_,rfl,h⟩
end
theorem VN:dM X (.builtin "sorted") λxs H Q=>∃(a:Addr)(vs:List V),xs=[.ref a]/\cp X.K H a vs/\vs.length<2/\∀p,H p=none->Q (.ref p) (upd H p (.lst vs)):=by intros xs us Q I r h;obtain⟨a,vs,rfl,hq,h1,q⟩:=h;obtain⟨u,rfl,ru⟩:=fQ r;cases ru;obtain⟨its,r',p,_⟩:=I.list hq;have hl:=r'.length;refine VM p.isList Y' ?_;obtain⟨e,he⟩:=sortedAll_at s.heap its its.toArray;have I1:Inv X pins Y (upd H (s.heap.objs.size+1) (.lst vs)) 9#(sortedAll s.heap its its.toArray):=I.laid (t':=s.toks) (λb o z=>sortedAll_old z) (Nat.le_succ _) (show bz X.prog X.w _ _ _ (.lst vs)from⟨by rw[Qb];lia,its,e,r',he⟩);exact⟨.ref _,_,I1,rfl,q _ (I.aB.fresh (Nat.le_succ _))⟩
section
variable{lt:Nat->Nat->Bool}{r:Nat->Nat}{α β:Type}
structure Lt(lt:Nat->Nat->Bool)(r:Nat->Nat)(n:Nat):Prop where lt:∀i j,i<n->j<n->lt i j=decide (r i<r j)inj:∀i j,i<n->j<n->i≠j->r i≠r j
end
end
section
variable{c:Fc}
abbrev FC(K:W3):V->Hp->VK->Prop:=λv H Q=>∃(a:Addr)(vs:List V),v=.ref a/\cp K H a vs/\vs.length<2/\∀p,H p=none->Q (.ref p) (upd H p (.lst vs))
end
section
variable{α β:Type}
@[simp]theorem kb(a:α)(Z:Dl)(f:α->Dl->Rs β):(Rs.ok a Z).bind f=f a Z:=id rfl
@[simp]theorem zdQ(f:α->Dl->Rs β):(Rs.stuck:Rs α).bind f=.stuck:=id rfl
@[simp]theorem qaE(d:D):(S.pure d).d=d:=id rfl
@[simp]theorem qaF(d:D):(S.own d).d=d:=id rfl
end
section
variable(Z:Dl)(i:Nat)(d e:D)(f g:DE)(fb:BE)(t u:DT)(p:D->D->Option S)
@[simp]theorem qaG:eD d Z=.ok (.pure d) Z:=id rfl
@[simp]theorem qaH:ae f Z=(f Z).bind λr SZ=>.ok r.d SZ:=id rfl
@[simp]theorem qaI:au p f fb Z=(f Z).bind λx S'=>(fb S').bind λy SL=>p2 p x.d y SL:=id rfl
@[simp]theorem qaJ:xI t u Z=(t Z).bind λb S'=>if b then u S' else .ok false S':=id rfl
@[simp]theorem qaK:dg t u Z=(t Z).bind λb S'=>if b then .ok true S' else u S':=id rfl
@[simp]theorem qaL:cR t Z=(t Z).bind λb S'=>.ok (!b) S':=id rfl
@[simp]theorem qaM:Rn t f g Z=(t Z).bind λb S'=>if b then f S' else g S':=id rfl
@[simp]theorem qaN:aW Z=.ok .next Z:=id rfl
@[simp]theorem qaO:cA Z=.ok true Z:=id rfl
@[simp]theorem qaP:gU f Z=(f Z).bind λj S'=>.ok .next S':=id rfl
@[simp]theorem qaQ:aI f Z=(f Z).bind λr S'=>.ok (.ret r) S':=id rfl
@[simp]theorem qaR(a b:DS):aX t a b Z=(t Z).bind λx S'=>if x then a S' else b S':=id rfl
@[simp]theorem qaS(it:DI)(gg:DG)(b:DS):bM it gg b Z=(it Z).bind λds S'=>forL gg b ds S':=id rfl
@[simp]theorem qaT(a:DA):aO a Z=(a Z).bind λds SZ=>.ok (.pure (.tup ds)) SZ:=id rfl
@[simp]theorem qaU(a:DA):cC a Z=(a Z).bind λds SZ=>.ok (.own (.lst ds)) SZ:=id rfl
@[simp]theorem qaV(ds:List D):uJ ds Z=.ok (.own (.lst ds)) Z:=id rfl
@[simp]theorem qaW:aF Z=.ok [] Z:=id rfl
@[simp]theorem qaX(a:DA):ao f a Z=(f Z).bind λx S'=>(a S').bind λxs SL=>.ok (x.d::xs) SL:=id rfl
@[simp]theorem qaY(q:D->Option S):aE q fb Z=(fb Z).bind λx S'=>p1 q x S':=id rfl
@[simp]theorem qaZ:uo f g Z=(f Z).bind λx S'=>(g S').bind λy SL=>p2 xP x.d y.d SL:=id rfl
@[simp]theorem qa0(fl fh:lR):fm f fl fh Z=(f Z).bind λx S'=>(fl S').bind λl SL=>(fh SL).bind λh Pv=>p1 (cW l h) x.d Pv:=id rfl
@[simp]theorem qa1:cq Z=.ok none Z:=id rfl
@[simp]theorem qa2(cs:List Nat)(it:DI)(gg:DG)(el:DE):bI cs it gg t el Z=(it Z).bind λds S'=>if cs.any (dk S')then .stuck else(dP cs gg t el ds (bt cs S') []).bind λacc SL=>.ok (.own (.lst acc)) (dj cs S' SL):=id rfl
@[simp]theorem qa3(np:List Nat)(r:S):ah np i r Z=if np.contains i then none else some (Z.set i (some r)):=id rfl
@[simp]theorem zgI(gg:DG)(b:DS):forL gg b [] Z=.ok .next Z:=id rfl
end
section
variable(Z:Dl)(i:Nat)(d e:D)(f g:DE)(fb:BE)(p:D->D->Option S)(s:S)
@[simp]theorem qa4(x y:D):p2 p x y Z=match p x y with|some s=>.ok s Z|none=>.stuck:=id rfl
@[simp]theorem qa5(q:D->Option S)(x:D):p1 q x Z=match q x with|some s=>.ok s Z|none=>.stuck:=id rfl
@[simp]theorem qa6(a b:DS):ar a b Z=(a Z).bind λfl S'=>match fl with|.next=>b S'|.ret r=>.ok (.ret r) S'|.brk=>.ok .brk S'|.cont=>.ok .cont S':=id rfl
@[simp]theorem zgW{α β:Type}(c:Prop)[Decidable c](x y:Rs α)(k:α->Dl->Rs β):(if c then x else y).bind k=if c then x.bind k else y.bind k:=by split<;>rfl
end
theorem i8:W9=16777216:=rfl
theorem jE(xs:List α)(i:Nat):ff xs (i:Int)=xs[i]?:=by
 unfold ff e_;by_cases h:i<xs.length;.rw[if_pos Y',if_pos Y'];simp
 .rw[if_pos Y',if_neg Y'];simp[Q0 (Nat.le_of_not_lt h)]
theorem yB(xs:List α):ff xs 2=xs[2]?:=jE xs 2
theorem oI(xs:List α):ff xs 0=xs[0]?:=jE xs 0
theorem yC(xs:List α):ff xs 1=xs[1]?:=jE xs 1
theorem yD{el}(I:Dl->Prop)(R:D->D->Prop):∀(ds:List D)(Z:Dl)(acc:List D),I Z->acc.length+ds.length<=W9->(∀d∈ds,∀Z,I Z->∃S' SL x Pv,g (.pure d) Z=some S'/\t S'=.ok true SL/\el SL=.ok x Pv/\I (bt cs Pv)/\R d x.d)->∃xs SZ,dP cs g t el ds Z acc=.ok (acc++xs) SZ/\I SZ/\xs.length=ds.length/\∀(i:Nat)d x,ds[i]?=some d->xs[i]?=some x->R d x
 |[],Z,acc,h,_,_=>⟨[],Z,#v[dP],h,rfl,λi d x e=>by simp at e⟩|d::r,Z,acc,h,hl,hs=>by
  obtain⟨S',SL,x,Pv,e1,e2,e3,h3,hr⟩:=hs d Wi Z h;have iV:acc.length<W9:=by simp at hl;lia
  obtain⟨xs,SZ,e4,h4,hn,hf⟩:=yD (g:=g) (t:=t) (el:=el) I R r (bt cs Pv) (acc++[x.d]) h3 P3 λd hd=>hs d (Wf _ hd);refine⟨x.d::xs,SZ,?_,h4,#v[hn],λi d' x' f1 f2=>?_⟩;.unfold dP;simp_all
  .cases i with|zero=>simp at f1 f2;subst f1 f2;exact hr|succ i=>exact hf i d' x' (~~~f1) (~~~f2)
theorem uX(I:Nat->Dl->Prop):∀(ds:List D)(n:Nat)(Z:Dl),I n Z->(∀(i:Nat)d Z,ds[i]?=some d->I (n+i) Z->∃S' SL,g (.pure d) Z=some S'/\b S'=.ok .next SL/\I (n+i+1) SL)->∃SZ,forL g b ds Z=.ok .next SZ/\I (n+ds.length) SZ
 |[],n,Z,h,_=>⟨Z,rfl,h⟩|d::r,n,Z,h,hs=>by
  obtain⟨S',SL,e1,e2,h2⟩:=hs 0 d Z rfl h;obtain⟨SZ,e3,h3⟩:=uX (g:=g) (b:=b) I r (n+1) SL h2 λi d' SZ e hi=>by have:=hs (i+1) d' SZ (~~~e) %[show n+(i+1)=n+1+i by lia|hi];rw[show n+(i+1)+1=n+1+i+1 by lia]at this;exact this
  refine⟨SZ,?_,%[WV,show n+(r.length+1)=n+1+r.length by lia|h3]⟩;unfold forL;rw[e1];simp only[e2,kb,e3]
theorem yE(xs:List Tx):di (xs.map .str)=some xs:=by induction xs with|nil=>rfl|cons x r ih=>simp[di,ih]
theorem uY:∀ts:List Tx,jy [] ts=ts.flatten|[]=>rfl|[x]=>#v[jy]|x::y::r=>by rw[jy,uY (y::r)];simp
theorem VO(xs:List Nat):iu (xs.map λn=>[n])=xs.length:=by unfold iu;induction xs with|nil=>rfl|cons x r ih=>simp at ih⊢;lia
theorem VP(xs:List Nat):(xs.map λn=>[n]).flatten=xs:=by induction xs with|nil=>rfl|cons x r ih=>simp[ih]
theorem FD(xs:List Nat)(h:xs.length<=16777216):dX [] (.lst (xs.map λn=>.str [n]))=0#(.str xs):=by
 have e:(xs.map λn=>D.str [n])=(xs.map λn=>[n]).map D.str:=by simp
 unfold dX;simp only[e,yE,VO,uY,VP];rw[if_pos (~~~h)]
theorem FE(bs:List Bool):gP (bs.map .bl)=some bs:=by induction bs with|nil=>rfl|cons x r ih=>simp[gP,ih]
theorem uZ(r:Tx)(c:Nat)(h:c<r.length)(hl:r.length<=64):ag (.str r) (.int c)=0#(.str [r.getD c 0]):=by unfold ag;have:W9=16777216:=rfl;simp only;rw[if_pos Y',jE];simp[h]
theorem FF(r:Tx)(hl:r.length<=64):br (.str r)=0#(.int r.length):=by unfold br;have:W9=16777216:=rfl;simp only;rw[if_pos Y']
abbrev bA(fl:List Tx):D:=.tup (fl.map .str)
def turn(w:Nat)(fl:List Tx):List Tx:=(Wx w).map λc=>fl.map λr=>r.getD c 0
def jS(r:S)(S':Dl):Rs (List D):=match r with|.pure (.int j)=>if oC j then .ok (c_ 0 j.toNat) S' else .stuck|_=>.stuck
@[simp]theorem VQ(f:DE)(Z:Dl):eT f Z=(f Z).bind λr S'=>jS r S':=id rfl
theorem VR(w:Nat)(hw:w<=1000000):oC (w:Int)=true:=by
 have h1:-(4611686018427387904:Int)<=(w:Int):=by lia
 have h2:(w:Int)<4611686018427387904:=by lia
 unfold oC;rw[Wr];exact⟨decide_eq_true h1,decide_eq_true h2⟩
theorem VS(j:Int)(hs:oC j=true)(Z:Dl):jS (.pure (.int j)) Z=.ok (c_ 0 j.toNat) Z:=by unfold jS;grind
theorem qM(w:Nat)(hw:w<=1000000)(Z:Dl):jS (.pure (.int w)) Z=.ok (c_ 0 w) Z:=by have:=VS (w:Int) (VR w hw) Z;rwa[QS]at this
theorem VT(h:(c_ 0 n)[i]?=some d):i<n/\d=.int (i:Int):=by
 unfold c_ at h;rw[Ws]at h;by_cases hi:i<n;.rw[List.getElem?_range hi]at h;simp at h;exact⟨hi,h.symm⟩
 .rw[Q0 (~~~hi)]at h;cases h
@[simp]theorem zf1(lo:Int)(n:Nat):(c_ lo n).length=n:=#v[c_]
theorem VU(a b:Nat):([a]:Tx)<[b]↔a<b:=by
 constructor;.intro h;cases h<;>simp_all
 .intro h;exact List.Lex.rel h
theorem yF{P:Nat->Prop}:∀{xs:List D},(∀x∈xs,∃n,P n/\x=.str [n])->∃row:List Nat,xs=row.map (λn=>.str [n])/\∀n∈row,P n|[],_=>⟨[],rfl,V'⟩|x::r,h=>by obtain⟨n,hn,rfl⟩:=h x Wi;obtain⟨row,rfl,hr⟩:=yF (xs:=r) λy hy=>h y (Wf _ hy);exact⟨n::row,rfl,by simpa using⟨hn,hr⟩⟩
theorem yG{R:D->D->Prop}{xs:List D}{Q:D->Prop}(hn:xs.length=ds.length)(hf:∀(i:Nat)d x,ds[i]?=some d->xs[i]?=some x->R d x)(hq:∀d x,d∈ds->R d x->Q x):∀x∈xs,Q x:=λx hx=>by obtain⟨i,hi⟩:=List.getElem?_of_mem hx;have h1:=(W8.mp hi).1;have h2:ds[i]?=some (ds[i]' Y'):=#v[show i<ds.length by lia];exact hq _ x (Qv _) (hf i _ x h2 hi)
abbrev bG(b:Nat×List Tx):D:=.tup [.str [b.1],bA b.2]
abbrev aC(h w:Nat)(bs:8#0):D:=.tup [.int h,.int w,.tup (bs.map bG)]
structure cF(h w:Nat)(bs:8#0):Prop where
 h0:0<h
 h1:h<=4w0:0<w
 w1:w<=4hw:2<h+w
 n0:0<bs.length
 n1:bs.length<=26up:(bs.map (·.1)).Pairwise (.<.)qN:∀b∈bs,97<=b.1/\b.1<=122bE:∀b∈bs,b.2.length=h/\∀r∈b.2,r.length=w/\∀n∈r,n∈bs.map (·.1)
theorem oJ{el cs A}(f F:A->D)(Z:Dl):∀(as:List A)(acc:List D),acc.length+as.length<=W9->(∀a∈as,∃S' SL x Pv,g (.pure (f a)) Z=some S'/\t S'=.ok true SL/\el SL=.ok x Pv/\bt cs Pv=Z/\x.d=F a)->dP cs g t el (as.map f) Z acc=.ok (acc++as.map F) Z
 |[],acc,_,_=>#v[dP]|a::r,acc,hl,hs=>by
  obtain⟨S',SL,x,Pv,e1,e2,e3,e4,e5⟩:=hs a Wi;have iV:acc.length<W9:=by simp at hl;lia
  have ih:=oJ (cs:=cs) (g:=g) (t:=t) (el:=el) f F Z r (acc++[x.d]) P3 λa ha=>hs a (Wf _ ha);rw[Wl];unfold dP;simp_all
abbrev oK(h:Heap)(z TI TO a:Addr)(f:Bool):Prop:=h.get? z=some {cls:=.type "zip",dict:=none,data:=.fields #[Q4 a,.bool f,.bool false,.ref TI,.ref TO],slots:=#[]}
theorem VV(ho:s.heap.get? a=some o)(h:Q (some o) s):W6 4#0 A (loadIfAlive a) Q E s:=by have h':Q (s.heap.get? a) s:=%[ho|h];exactλj j j=>h'
theorem FG{TI TO f}(hz:oK s.heap z TI TO a f)(ha:s.heap.get? a=some oa)(h:∀h',oK h' z TI TO a true->Jh z s.heap h'->Q false 9#h'):W6 4#0 A (WS (.ref z)) Q E s:=by unfold WS;refine W0 (WF hz rfl (x:=Q4 a) rfl ?_);show W6 _ _ (loadIfAlive (a:Int).toNat>>=_) _ _ _;rw[QS];refine W0 (VV ha ?_);simp only[Option.isNone_some,WO,if_false];refine W0 (WF hz rfl (x:=.bool f) rfl ?_);cases f with|true=>rw[if_neg (show¬(Value.bool true !=Value.bool true)=true from WR)];exact W2 (h s.heap hz (Heap.SameBut.refl _ _))|false=>rw[if_pos (show(Value.bool false !=Value.bool true)=true from rfl)];exact W0 (QO hz V' λh₃ VW VX=>W2 (h h₃ VW VX))
theorem VY{z TI TO a:Addr}{f:Bool}{Q:Value->W1->Prop}(D1:Draws prog w A i1 f1 n1 P1 S1)(D2:Draws prog w A i2 f2 n2 P2 S2)(C:ZA z TI TO i1 i2 f1 f2)(hz:oK s.heap z TI TO a f)(ha:s.heap.get? a=some oa)(hI:IsPair s.heap TI (.ref i1) (.ref i2))(g1:S1 i s.heap)(g2:S2 i s.heap)(l1:i<n1)(l2:i<n2)(q:∀x y h' tk,P1 i x->P2 i y->oK h' z TI TO a true->S1 (i+1) h'->S2 (i+1) h'->IsPair h' s.heap.objs.size x y->h'.objs.size=s.heap.objs.size+1->(∀c o,c≠z->c≠i1->c≠i2->s.heap.get? c=some o->h'.get? c=some o)->Q (.ref s.heap.objs.size) {s with heap:=h',toks:=tk}):W6 4#0 A (Builtin.«zip.__next__» ⟨[.ref z],[]⟩) (λfin s'=>∃v,fin=.done (.ret v)/\Q v s') E s:=by
 have i1z:i1≠z:=λe=>C.z1 (e▸C.m1);have i2z:i2≠z:=λe=>C.z2 (e▸C.m2);have i12:i1≠i2:=λe=>C.k1 (e▸C.m2);show W6 _ _ (field (.ref z) 2>>=_) _ _ _;refine W0 (WF hz rfl (x:=.bool false) rfl ?_);show W6 _ _ (field (.ref z) 3>>=_) _ _ _;refine W0 (WF hz rfl (x:=.ref TI) rfl (W0 (QA hI rfl ?_)));show W6 _ _ (WS (.ref z)>>=_) _ _ _;refine W0 (FG hz ha λh1 gj s1=>?_);simp only[WO,if_false];refine W0 ?_;simp only[List.forIn_toArray,U8,Ug];refine W0 (W0 (WD ?_));show W6 _ _ (WP (.ref i1)>>=_) _ _ _;have e1:S1 i h1:=D1.frame _ _ _ g1 λc hc o e=>s1.extBut _ _ (λx=>C.z1 (x▸hc)) e;refine W0 (D1.item i _ _ _ l1 e1 λx h2 yH p1 e2 s2=>W2 ?_);refine W2 (W0 (W0 (WD ?_)));show W6 _ _ (WP (.ref i2)>>=_) _ _ _;have e3:S2 i h2:=D2.frame _ _ _ g2 λc hc o e=>s2.extBut _ _ (λx=>C.k1 (x▸hc)) (s1.extBut _ _ (λx=>C.z2 (x▸hc)) e);refine W0 (D2.item i _ _ _ l2 e3 λy h4 VZ p2 e4 s4=>W2 ?_);refine W2 (W2 (W0 (wpAny_newTuple ?_ (by show 2<=W9;decide))));have hsz:h4.objs.size=s.heap.objs.size:=by rw[s4.1,s2.1,s1.1]
 have qO:oK h4 z TI TO a true:=s4.extBut _ _ i2z.symm (s2.extBut _ _ i1z.symm gj);have r1:S1 (i+1) h4:=D1.frame _ _ _ e2 λc hc o e=>s4.extBut _ _ (λx=>C.k2 (x▸hc)) e;refine W2 ⟨_,rfl,?_⟩;show Q (.ref h4.objs.size) _;rw[hsz];refine q x y _ _ p1 p2 (W5 _ qO) (D1.frame _ _ _ r1 λc j o e=>W5 _ e) (D2.frame _ _ _ e4 λc j o e=>W5 _ e) ?_ (by rw[Je,hsz]) λc o c1 c3 c4 e=>W5 _ (s4.extBut _ _ c4 (s2.extBut _ _ c3 (s1.extBut _ _ c1 e)));rw[<-hsz];exact We _ rfl
theorem V0{TI TO f}(D1:Draws prog w A i1 f1 n1 P1 S1)(D2:Draws prog w A i2 f2 n2 P2 S2)(C:ZA z TI TO i1 i2 f1 f2)(hz:oK s.heap z TI TO a f)(ha:s.heap.get? a=some oa)(hI:IsPair s.heap TI (.ref i1) (.ref i2))(g1:S1 i s.heap)(g2:S2 i s.heap)(l:i=n1\/i<n1/\i=n2)(q:∀h' tk e,(∀c o,c≠z->c≠i1->c≠i2->s.heap.get? c=some o->h'.get? c=some o)->(∃o,h'.get? e=some o/\o.cls=.type "StopIteration")->E (.ref e) {s with heap:=h',toks:=tk}):W6 4#0 A (Builtin.«zip.__next__» ⟨[.ref z],[]⟩) Q E s:=by
 have i1z:i1≠z:=λe=>C.z1 (e▸C.m1);have i2z:i2≠z:=λe=>C.z2 (e▸C.m2);show W6 _ _ (field (.ref z) 2>>=_) _ _ _;refine W0 (WF hz rfl (x:=.bool false) rfl ?_);show W6 _ _ (field (.ref z) 3>>=_) _ _ _;refine W0 (WF hz rfl (x:=.ref TI) rfl (W0 (QA hI rfl ?_)));show W6 _ _ (WS (.ref z)>>=_) _ _ _;refine W0 (FG hz ha λh1 gj s1=>?_);simp only[WO,if_false];refine W0 ?_;simp only[List.forIn_toArray,U8,Ug];refine W0 (W0 (WD ?_));show W6 _ _ (WP (.ref i1)>>=_) _ _ _;have e1:S1 i h1:=D1.frame _ _ _ g1 λc hc o e=>s1.extBut _ _ (λx=>C.z1 (x▸hc)) e;rcases l with l|⟨l,l'⟩;.subst l;refine W0 (D1.done _ _ _ e1 λh2 e s2⟨oe,he,ce⟩=>?_);exact q h2 _ e (λc o c1 c3 j x=>s2 _ _ c3 (s1.extBut _ _ c1 x)) ⟨oe,he,ce⟩
 .refine W0 (D1.item i _ _ _ l e1 λx h2 yH p1 e2 s2=>W2 ?_);refine W2 (W0 (W0 (WD ?_)));show W6 _ _ (WP (.ref i2)>>=_) _ _ _;have e3:S2 i h2:=D2.frame _ _ _ g2 λc hc o e=>s2.extBut _ _ (λx=>C.k1 (x▸hc)) (s1.extBut _ _ (λx=>C.z2 (x▸hc)) e);subst l';refine W0 (D2.done _ _ _ e3 λh4 e s4⟨oe,he,ce⟩=>?_);exact q h4 _ e (λc o c1 c3 c4 x=>s4 _ _ c4 (s2.extBut _ _ c3 (s1.extBut _ _ c1 x))) ⟨oe,he,ce⟩
theorem V1:typeLookup (.type "zip") "__len__"=pure none:=by rw[typeLookup_type,JQ];kernel_rfl
theorem V2:typeLookup (.type "zip") "__length_hint__"=pure none:=by rw[typeLookup_type,JQ];kernel_rfl
theorem Inv.adopt(I:6#0)(hf:eQ X pins H b)(new:bz X.prog X.w (upd H b o) s.heap b o):Inv X pins Y (upd H b o) s:=by
 obtain⟨hn,f1,f2,f3,f4,f5⟩:=hf;have ne:∀{c u},H c=some u->c≠b:=λe=>dZ e hn;refine I.step (g':=s.gens) (d':=s.drawn) (t':=s.toks) (h':=s.heap) (ch:=[b]) (λc hc=>?_) (λc u j j j e j=>e) (λc u j j j e j=>⟨u.slots,e⟩) (λc u hc j e=>?_) (λc u j e=>⟨u,e⟩) (λc xs e=>%[aY (ne e)|e]) (λc u xs e=>%[aY (ne e)|e]) (λc ps e=>⟨#[],by rw[aY (ne e),e];simp⟩) (λm h=>h) (λc u e=>?_) I.bare;.have z:c=b:= ~~~hc;subst z;exact⟨f3,f1,f4,f5⟩
 .rw[aY λz=>hc #v[z]];exact e
 .by_cases hb:c=b;.subst hb;rw[cJ]at e;cases e;exact new
  .rw[aY hb]at e;exact(I.aB c u e).e8 (λj j j q=>q) (λj q=>%[aY (ne q)|q]) (λj j q=>%[aY (ne q)|q]) λj j j q=>%[aY (ne q)|q]
def yI(K:W3)(neg:Bool):R2:=λx y H Q=>∃p vs ds d,y=.ref p/\cp K H p vs/\aH H cU vs ds/\Rep H cU x d/\flat 49 d=true/\(∀e∈ds,flat 49 e=true)/\Q (.bl (if neg then !ds.any λe=>aU e d else ds.any λe=>aU e d)) H
theorem FH{v}(hu:X.A.units+64<Q3)(I:Lake.Inv X pins Y H s)(rx:RelV x v)(r1:Rep H cU x d)(f1:flat 49 d=true)(rv:Vals vs its)(rs:aH H cU vs ds)(fs:∀e∈ds,flat 49 e=true):∃e:Value->Bool,(∀y∈its.toArray,SeqAt.EqAt X.A.in1 s y v (e y))/\its.toArray.any e=ds.any λe=>aU e d:=by
 have pre:=xF I (A:=X.A) 50 Y';obtain⟨_,it⟩:=pre;have lv:=rv.length;have at_:∀(i:Nat)(y:Value)(e:D),its[i]?=some y->ds[i]?=some e->SeqAt.EqAt X.A.in1 s y v (aU e d):=λi y e h1 h2=>by
  have hi:i<vs.length:=by rw[rs.1];exact(W8.mp h2).1
  have hv:vs[i]?=some vs[i]:=W4 hi;obtain⟨y',e1,ry⟩:=rv.get hv;rw[h1]at e1;cases e1;exact it _ _ _ _ _ _ _ (show X.A.units+1+49+1<Q3 by lia) (fs e (Wz h2)) f1 (rs.2 i _ _ hv h2) r1 ry rx
 have dec:∀p:Prop,Decidable p:=Classical.propDecidable;refine⟨λy=>decide (∃(i:Nat)(e:D),its[i]?=some y/\ds[i]?=some e/\aU e d=true),λy hy=>?_,?_⟩
 .have kT:y∈its:= ~~~hy;obtain⟨i,h1⟩:=List.getElem?_of_mem kT;have hi:i<ds.length:=by have:=(W8.mp h1).1;rw[<-rs.1,lv];exact this
  have h2:ds[i]?=some ds[i]:=W4 hi;by_cases q:∃(i:Nat)(e:D),its[i]?=some y/\ds[i]?=some e/\aU e d=true;.obtain⟨j,e,q1,q2,q3⟩:=id q;have:=at_ j y e q1 q2;rw[q3]at this;show SeqAt.EqAt X.A.in1 s y v (decide _);rw[decide_eq_true q];exact this
  .have:=at_ i y _ h1 h2;have hf:aU ds[i] d=false:=by cases z:aU ds[i] d with|false=>rfl|true=>exact absurd ⟨i,_,h1,h2,z⟩ q
   rw[hf]at this;show SeqAt.EqAt X.A.in1 s y v (decide _);rw[decide_eq_false q];exact this
 .rw[Qu,Uq];simp only[List.any_toArray,Uq,decide_eq_true_eq];constructor;.rintro⟨y,_,i,e,h1,h2,h3⟩;exact⟨e,Wz h2,h3⟩
  .rintro⟨e,he,h3⟩;obtain⟨i,h2⟩:=List.getElem?_of_mem he;have hi:i<its.length:=by rw[<-lv,rs.1];exact(W8.mp h2).1
   have h1:its[i]?=some its[i]:=W4 hi;exact⟨its[i],Qv hi,i,e,h1,h2,h3⟩
theorem FI(hu:X.A.units+64<Q3):bw X (WC .NotIn) (yI X.K true):=by intros x y v u Q I rx ry h;obtain⟨p,vs,ds,d,rfl,hq,rs,r1,f1,fs,q⟩:=h;cases ry;obtain⟨its,r,pl,hz⟩:=I.list hq;obtain⟨e,h1,h2⟩:=FH hu I rx r1 f1 r rs fs;refine SeqAt.notIn_listAt e pl.isList h1 ⟨.bl _,H,I,rfl,?_⟩;rw[h2];exact q
noncomputable def gk(neg:Bool)(x y:D):Option S:=match y with|.lst ds=>if flat 49 x&&ds.all (flat 49)then 0#(.bl (if neg then !ds.any λe=>aU e x else ds.any λe=>aU e x)) else none|_=>none
universe H in theorem FJ(neg:Bool):cu (yI K neg) (gk neg):=by
 intro c Y Z H x y d e s Q k rx ry hp q;cases e<;>first|(simp[gk]at hp;done)|skip
 rename_i ds;simp only[gk]at hp;split at hp;.rename_i hf;cases hp;simp only[Wr,WW]at hf;obtain⟨a,vs,ea,ha,r⟩:=ry.lst;exact⟨a,vs,ds,d,ea,.inl ha,aH.bj r λ_ z=>z.elim,rx.un,hf.1,hf.2,q _ H (.refl k) (.bl _)⟩
 .cases hp
section
open PySem.SeqAt
mutual def iB:NK->Nat|.i _=>1|.s _=>1|.t ks=>i9 ks+1def i9:List NK->Nat|[]=>0|k::ks=>iB k+i9 ks end
inductive dA(h:Heap):Nat->NK->Value->Prop|int{n:Nat}(z:Int)(t:Tok):dA h n (.i z) (.int z t)|bl{n:Nat}(b:Bool):dA h n (.i (if b then 1 else 0)) (.bool b)|str{n:Nat}(x:Str)(t:Tok):dA h n (.s x) (.str x t)|tup{n:Nat}{a:Addr}{its:Array Value}{ks:List NK}:h.IsTuple a its->ks.length=its.toList.length->(∀(i:Nat)k v,ks[i]?=some k->its.toList[i]?=some v->dA h n k v)->dA h (n+1) (.t ks) (.ref a)
section
variable{h:Heap}
theorem V3{α β:Type}{xs ys:List α}{vs:List β}(h1:xs.length=vs.length)(h2:ys.length=vs.length)(q:∀(i:Nat)x y v,xs[i]?=some x->ys[i]?=some y->vs[i]?=some v->x=y):xs=ys:=by apply List.ext_getElem Y';intro i a b;exact q i _ _ vs[i] (W4 a) (W4 b) (W4 Y')
theorem dA.inj{x:NK}{v:Value}(r:dA h n x v):∀{m:Nat}{y:NK},dA h m y v->x=y:=by induction r with|int z t=>intro m y k;cases k;rfl|bl b=>intro m y k;cases k;rfl|str x t=>intro m y k;cases k;rfl|@tup n a its ks h1 h2 h3 ih=>intro m y k;cases k with|@tup m _ its' ks' k1 k2 k3=>obtain⟨o,e,c,q,d⟩:=h1;obtain⟨o',e',c',q',d'⟩:=k1;rw[e]at e';cases e';rw[d]at d';cases d';rw[V3 h2 k2 λi x y v e1 e2 e3=>ih i x v e1 e3 (k3 i y v e2 e3)]
theorem dA.kept{v}(r:dA h n x v)(k:∀b its,h.IsTuple b its->h'.IsTuple b its):dA h' n x v:=by induction r with|int z t=>exact .int z t|bl b=>exact .bl b|str x t=>exact .str x t|tup h1 h2 h3 ih=>exact .tup (k _ _ h1) h2 ih
theorem dA.up{v}(r:dA h n x v):∀{m:Nat},n<=m->dA h m x v:=by induction r with|int z t=>intro m _;exact .int z t|bl b=>intro m _;exact .bl b|str x t=>intro m _;exact .str x t|tup h1 h2 h3 ih=>intro m l;obtain⟨m,rfl⟩:∃m',m=m'+1:=⟨m-1,Y'⟩;exact .tup h1 h2 λi k v e1 e2=>ih i k v e1 e2 Y'
end
theorem V4(h:Q (hashInt (if b then 1 else 0)) {s with toks:=s.toks+1}):W6 4#0 A (PySem.pyHash (.bool b)) Q E s:=by
 have z:reduceHash (if b then 1 else 0)=hashInt (if b then 1 else 0):=by cases b<;>decide+kernel
 refine PySem.W.pyHash_slot (id:="int.__hash__") (T:="bool") (hT:=rfl) (slot:=F.slot_bool_hash) (entry:=entry_int_hash) (args:=args_int_hash _) (hid:=beq_builtin_none _) (hu:=.inl rfl) (body:=?_);cases b;.exact show W6 _ _ (mkInt 0>>=λv=>ret v) _ _ _ from W0 (wpAny_mkInt (W2 ⟨_,_,rfl,z▸h⟩))
 .exact show W6 _ _ (mkInt 1>>=λv=>ret v) _ _ _ from W0 (wpAny_mkInt (W2 ⟨_,_,rfl,z▸h⟩))
theorem FK(w:Wu):∀ks:List NK,sR w ks=ks.map (fP w)|[]=>rfl|k::ks=>by simp only[sR,Wl,FK w ks]
theorem FN:∀xs ys:List NK,i9 (xs++ys)=i9 xs+i9 ys|[],ys=>#v[i9]|x::xs,ys=>by simp only[List.cons_append,i9,FN xs ys];lia
theorem dA.pyHash{v}(r:dA h n k v):∀{A:Wp}{s:W1}{Q:Int->W1->Prop},s.heap=h->A.units+n<Q3->Q (fP w k) {s with toks:=s.toks+iB k}->W6 4#0 A (PySem.pyHash v) Q E s:=by induction r with|int z t=>intro A s Q _ _ q;exact wpAny_pyHash_int q|bl b=>intro A s Q _ _ q;exact V4 q|str x t=>intro A s Q _ _ q;exact wpAny_pyHash_str q|@tup n a its ks h1 h2 h3 ih=>
  intro A s Q hs hu q;subst hs;obtain⟨o,ho,hc,m,hd⟩:=id h1;have hT:s.TypeIs (.ref a) "tuple":=⟨o,ho,hc⟩;refine PySem.W.pyHash_slot (T:="tuple") hT F.slot_tuple_hash F.entry_tuple_hash (F.args_tuple_hash_1 _) (beq_builtin_none _) (.inr Y') ?_;show W6 _ _ (Jl (.ref a)>>=_) _ _ s;refine W0 (wpAny_tupleItemsOf ho hd ?_);refine W0 ?_;rw[<-Array.forIn_toList];refine wpAny_forIn_list _ (λrest(b:Array Int)s'=>∃i,i<=ks.length/\rest=its.toList.drop i/\b.toList=(ks.take i).map (fP w)/\s'={s with toks:=s.toks+i9 (ks.take i)}) _ ?_ ?_ _ _ ⟨0,Q6 _,rfl,rfl,#v[i9]⟩
  .rintro x rest b s'⟨i,hi,hr,hb,rfl⟩;have bh:i<its.toList.length:=by
    rcases Nat.lt_or_ge i its.toList.length with z|z;.exact z
    .rw[List.drop_eq_nil_of_le z]at hr;cases hr
   rw[Qx bh]at hr;injection hr with hx hr;have kQ:i<ks.length:=by lia
   refine W0 (ih i ks[i] x (W4 kQ) %[hx|W4 bh] rfl (show A.units+1+n<Q3 by lia) ?_);have ht:ks.take (i+1)=ks.take i++[ks[i]]:=by simp_all
   have fin:∃j,j<=ks.length/\rest=its.toList.drop j/\(b.push (fP w ks[i])).toList=(ks.take j).map (fP w)/\({s with toks:=s.toks+i9 (ks.take i)+iB ks[i]}:W1)={s with toks:=s.toks+i9 (ks.take j)}:=by refine⟨i+1,kQ,hr,by rw[ht,WN,Array.toList_push,hb];rfl,?_⟩;rw[ht,FN];simp only[i9];rw[Nat.add_zero,Nat.add_assoc]
   first|exact W2 fin|exact W0 (W2 (W2 fin))
  .rintro b s'⟨i,hi,hr,hb,rfl⟩;have hz:i=ks.length:=by have:=congrArg QB hr;simp at this;simp at h2;lia
   subst hz;rw[List.take_length]at hb⊢;show W6 _ _ (retInt (Builtin.Tuple.tupleHashOf b.toList)) _ _ _;rw[hb];refine W0 (wpAny_mkInt (W2 ⟨_,_,rfl,?_⟩));simp only[fP,iB,FK]at q;simpa[Nat.add_assoc]using q
theorem dA.quiet{v}(r:dA s.heap n k v):∀{A:Wp}{m:Nat}{Q:Bool->W1->Prop},n<=m->Q true s->W6 4#0 A (eqIsQuiet m v) Q E s:=by induction r with|int z t=>intro A m Q _ q;rw[eqIsQuiet_byValue _ rfl];exact W2 q|bl b=>intro A m Q _ q;rw[eqIsQuiet_byValue _ rfl];exact W2 q|str x t=>intro A m Q _ q;rw[eqIsQuiet_byValue _ rfl];exact W2 q|@tup n a its ks h1 h2 h3 ih=>
  intro A m Q hm q;obtain⟨o,ho,hc,mm,hd⟩:=id h1;have hT:s.TypeIs (.ref a) "tuple":=⟨o,ho,hc⟩;obtain⟨m,rfl⟩:∃m',m=m'+1:=⟨m-1,Y'⟩;unfold eqIsQuiet;refine W0 (wpAny_specialOf hT F.slot_tuple_eq.lookup ?_);show W6 _ _ (isInstance (.ref a) (.type "tuple")>>=_) _ _ s;refine W0 (wpAny_isInstance hT isSubtype_tuple_tuple ?_);simp only[JF,WO,if_false];refine W0 (QA ho hd ?_);refine W0 ?_;show W6 _ _ (forIn its _ _) _ _ s;rw[<-Array.forIn_toList];refine wpAny_forIn_list _ (λrest r s'=>r.1=none/\s'=s/\∃i,rest=its.toList.drop i) _ ?_ ?_ _ _ ⟨rfl,rfl,0,rfl⟩
  .rintro x rest r s'⟨hr,rfl,i,hi⟩;have bh:i<its.toList.length:=by grind[List.drop_eq_nil_of_le]
   rw[Qx bh]at hi;injection hi with hx hi;have kQ:i<ks.length:=by lia
   refine W0 (ih i ks[i] x (W4 kQ) %[hx|W4 bh] Y' ?_);simp only[JF,WO,if_false];exact W2 ⟨rfl,rfl,i+1,hi⟩
  grind[W2]
theorem md(a b:Int):decide (NK.i a=NK.i b)=(a==b):=by grind
theorem yJ(a b:Str):decide (NK.s a=NK.s b)=(a==b):=by grind
theorem yK(a b:Bool):(a==b)=(((if a then 1 else 0:Int))==(if b then 1 else 0:Int)):=by cases a<;>cases b<;>rfl
theorem V5{xs e}(he:∀(j:Nat)x y,xs[j]?=some x->ys[j]?=some y->e j=decide (x=y)):((Wx (min xs.length ys.length)).all e&&xs.length==ys.length)=decide (NK.t xs=NK.t ys):=by
 by_cases hl:xs.length=ys.length
 .rw[<-hl,Nat.min_self];simp only[beq_self_eq_true,Bool.and_true];by_cases hx:xs=ys;.simp_all
  .rw[decide_eq_false λq=>hx (NK.t.inj q)];rw[List.all_eq_false];apply Classical.byContradiction;intro hn;apply hx;apply List.ext_getElem hl;intro j a b;apply Classical.byContradiction;intro bN;refine hn ⟨j,List.mem_range.mpr a,?_⟩;rw[he j _ _ (W4 a) (W4 b)];simpa using bN
 grind
theorem dA.V6(r:dA s.heap n x u):∀{A:Wp}{m:Nat}{y:NK}{v:Value},dA s.heap m y v->A.units+n<Q3->EqAt A s u v (decide (x=y)):=by induction r with
 |int z t=>intro A m y v k hu;cases k with|int z' t'=>rw[md];exact EqAt.int_int _ _ _ _|bl b=>rw[md];exact EqAt.int_bool _ _ _|str x t'=>rw[decide_eq_false λq=>nomatch q];exact EqAt.int_str _ _ _ _|tup k1 k2 k3=>rw[decide_eq_false λq=>nomatch q];exact EqAt.int_tuple _ _ k1 Y'
 |bl b=>intro A m y v k hu;cases k with|int z' t'=>rw[md];exact EqAt.bool_int _ _ _|bl b=>rw[md,<-yK];exact EqAt.bool_bool _ _|str x t'=>rw[decide_eq_false λq=>nomatch q];exact EqAt.bool_str _ _ _|tup k1 k2 k3=>rw[decide_eq_false λq=>nomatch q];exact EqAt.bool_tuple _ k1 Y'
 |str x t=>intro A m y v k hu;cases k with|int z' t'=>rw[decide_eq_false λq=>nomatch q];exact EqAt.str_int _ _ _ _|bl b=>rw[decide_eq_false λq=>nomatch q];exact EqAt.str_bool _ _ _|str x t'=>rw[yJ];exact EqAt.str_str _ _ _ _|tup k1 k2 k3=>rw[decide_eq_false λq=>nomatch q];exact EqAt.str_tuple _ _ k1 Y'
 |@tup n a its ks h1 h2 h3 ih=>intro A m y v k hu;cases k with|int z' t'=>rw[decide_eq_false λq=>nomatch q];exact EqAt.tuple_int _ _ h1 Y'|bl b=>rw[decide_eq_false λq=>nomatch q];exact EqAt.tuple_bool _ h1 Y'|str x t'=>rw[decide_eq_false λq=>nomatch q];exact EqAt.tuple_str _ _ h1 Y'|@tup m' b its' ks' k1 k2 k3=>
   by_cases lM:a=b;.subst lM;have e:NK.t ks=NK.t ks':=dA.inj (dA.tup h1 h2 h3) (dA.tup k1 k2 k3);rw[decide_eq_true e];exact EqAt.same _
   .refine EqAt.of_refs lM ?_;let e:Nat->Bool:=λj=>match ks[j]?,ks'[j]? with|some x,some y=>decide (x=y)|_,_=>false;have z1:its.size=ks.length:= ~~~h2.symm;have z2:its'.size=ks'.length:= ~~~k2.symm;have q:=RcAt.tuples (A:=A) (s:=s) (e:=e) h1 k1 Y' λj j1 j2=>by
     have l1:j<ks.length:=by lia
     have l2:j<ks'.length:=by lia
     have ee:e j=decide (ks[j]=ks'[j]):=by simp only[e,W4 l1,W4 l2]
     rw[ee];exact ih j ks[j] its[j] (W4 l1) #v[j1] (k3 j ks'[j] its'[j] (W4 l2) #v[j2]) (show A.units+1+n<Q3 by lia)
    rw[z1,z2,V5 λj x y e1 e2=>by simp only[e,e1,e2]]at q;exact q
theorem V7{es ep}(ho:h.get? d=some o)(hd:o.data=.dict es ep)(hs:Jh d h h'):∀b its,h.IsTuple b its->h'.IsTuple b its:=λb its hh=>by
 obtain⟨o',e,c,n,q⟩:=hh
 have bN:b≠d:=by grind
 exact⟨o',(hs.2 b bN).trans e,c,n,q⟩
noncomputable def nkKind(prog:Wm)(w:Wu):HeapKind prog w NK where
 is:=λh k a=>dA h 6 k (.ref a)
 hash:=fP w
 draws:=iB
 room:=λA=>A.units+6<Q3
 inj:=λhx hy=>hx.inj hy
 keeps:=λx ho hd hs=>x.kept (V7 ho hd hs)
 pyHash:=λhu hk h=>hk.pyHash rfl hu h
 eqBool:=λhu hx hy h=>hx.V6 hy hu _ _ _ _ h
 quiet:=λhk h=>hk.quiet Y' h
def kN:Key->NK|.inl z=>.i z|.inr x=>.s x
theorem V8(h:kN p=kN q):p=q:=by cases p<;>cases q<;>first|(cases h;rfl)|cases h
def kc(h:Heap)(m:Bool)(k:NK)(u:Value):Prop:=match m with|true=>∃a,u=.ref a/\dA h 6 k u|false=>∃q:Key,iR q u=true/\k=kN q
theorem V9(h1:iR p u=true)(h2:iR q u=true):p=q:=by all_goals grind[jR]
def ent(w:Wu)(x:NK×Value×Value):DictEntry:=⟨fP w x.1,x.2.1,x.2.2⟩
theorem FO(hu:A.units+6<Q3)(hk:kc s.heap m k u)(h:Q (fP w k) {s with toks:=s.toks+iB k}):W6 4#0 A (PySem.pyHash u) Q E s:=by cases m with|true=>obtain⟨a,rfl,r⟩:=hk;exact r.pyHash rfl hu h|false=>obtain⟨q,h1,rfl⟩:=hk;refine(fA prog w).pyHash (k:=q) h1 ?_;cases q<;>exact h
theorem FP:∀{xs:List (NK×Value×Value)},(∀x∈xs,kc h true x.1 x.2.1)->∃ys:List (NK×Addr×Value),xs=ys.map λy=>(y.1,Value.ref y.2.1,y.2.2)|[],_=>⟨[],rfl⟩|x::xs,q=>by obtain⟨ys,e⟩:=FP (xs:=xs) λy hy=>q y (Wf _ hy);obtain⟨a,e1,_⟩:=q x Wi;exact⟨(x.1,a,x.2.2)::ys,by rw[Wl,<-e];simp only[<-e1]⟩
theorem FQ{k:NK}{d:Addr}{o:Obj}{es ep}{Q:Option Nat->W1->Prop}(hu:A.units+6<Q3)(hk:kc s.heap m k u)(ho:s.heap.get? d=some o)(hd:o.data=.dict es ep)(he:es.toList=xs.map (ent w))(hx:∀x∈xs,kc s.heap m x.1 x.2.1)(hn:(xs.map (·.1)).Nodup)(FR:(∀(j:Nat)p,xs[j]?≠some (k,p))->Q none s)(V_:∀(j:Nat)p,xs[j]?=some (k,p)->Q (some j) s):W6 4#0 A (dictFind d u (fP w k)) Q E s:=by
 cases m with|true=>
 obtain⟨a,rfl,r⟩:=hk;obtain⟨ys,rfl⟩:=FP hx;refine wpAny_dictFind_heap (knd:=nkKind prog w) (xs:=ys) hu r ho hd (by rw[he,WU];rfl) (λy hy=>?_) (by rw[WU]at hn;exact hn) (λgx=>FR λj p e=>?_) λj p e=>?_;.obtain⟨b,e1,e2⟩:=hx _ (Jc hy);cases e1;exact e2
 .rw[Ws]at e;cases q:ys[j]? with|none=>rw[q]at e;cases e|some y=>rw[q]at e;simp only[WM,Wb]at e;exact gx j y.2 (by rw[q,<-show y.1=k from congrArg Prod.fst e])
 .exact V_ j (.ref p.1,p.2) (by rw[Ws,e];rfl)|false=>
 obtain⟨q,h1,rfl⟩:=hk;have yL:∀(j:Nat)e,es[j]?=some e->∃x,xs[j]?=some x/\e=ent w x:=λj e z=>by rw[<-Qq,he,Ws]at z;cases y:xs[j]? with|none=>rw[y]at z;cases z|some x=>rw[y]at z;simp only[WM,Wb]at z;exact⟨x,rfl,z.symm⟩
 have ks:KeysOf (fA prog w) es:=λe m5=>by obtain⟨j,hj⟩:=List.mem_iff_getElem?.mp (Array.mem_toList_iff.mpr m5);obtain⟨x,e1,rfl⟩:=yL j e (by rw[<-Qq];exact hj);obtain⟨q',e2,e3⟩:=hx x (Wz e1);refine⟨q',e2,?_⟩;show fP w x.1=_;rw[e3];cases q'<;>rfl
 have hh:fP w (kN q)=(fA prog w).hash q:=by cases q<;>rfl
 rw[hh];refine wpAny_dictFind_of (knd:=fA prog w) (k:=q) h1 ho hd ks ?_;cases hf:es.findIdx? λe=>(fA prog w).is q e.key with|none=>
 refine FR λj p e=>?_;have hj:j<xs.length:=(W8.mp e).1;have hz:es.size=xs.length:=by rw[<-Q8,he,Wd]
 obtain⟨x,e1,e2⟩:=yL j es[j] #v[hz,hj];rw[e]at e1;cases e1;have:=Array.findIdx?_eq_none_iff.mp hf es[j] (J9 _);obtain⟨q',e3,e4⟩:=hx _ (Wz e);rw[V8 e4]at this;rw[e2]at this;have z:iR q' p.1=false:=this;grind|some j=>obtain⟨bh,hp,_⟩:=Array.findIdx?_eq_some_iff_getElem.mp hf;obtain⟨x,e1,e2⟩:=yL j es[j] #v[bh];obtain⟨q',e3,e4⟩:=hx x (Wz e1);rw[e2]at hp;have:q=q':=V9 (show iR q x.2.1=true from hp) e3;grind
noncomputable def atN(xs:List (NK×Value×Value))(k:NK):Option (Value×Value):=(xs.find? λx=>decide (x.1=k)).map (·.2)
noncomputable def stN(xs:List (NK×Value×Value))(k:NK)(u v:Value):List (NK×Value×Value):=if(xs.any λx=>decide (x.1=k))=true then xs.map λx=>if x.1=k then(x.1,x.2.1,v)else x else xs++[(k,u,v)]
theorem FU(h:∀(j:Nat)p,xs[j]?≠some (k,p)):atN xs k=none/\(xs.any λx=>decide (x.1=k))=false:=by
 have z:∀x∈xs,decide (x.1=k)=false:=λx hx=>by grind[List.mem_iff_getElem?]
 grind[atN]
theorem yM:∀{xs:List (NK×Value×Value)}{k:NK}{j:Nat}{p:Value×Value},(xs.map (·.1)).Nodup->xs[j]?=some (k,p)->atN xs k=some p/\(xs.any λx=>decide (x.1=k))=true|[],k,j,p,_,e=>by simp at e|x::xs,k,j,p,hn,e=>by rw[Wl,List.nodup_cons]at hn;cases j with|zero=>simp at e;subst e;simp[atN]|succ j=>have e':xs[j]?=some (k,p):= ~~~e;have bN:¬x.1=k:=λz=>hn.1 (by rw[z];exact WA.mpr ⟨_,Wz e',rfl⟩);obtain⟨h1,h2⟩:=yM hn.2 e';grind[atN]
theorem W_{k:NK}{d:Addr}{o:Obj}{es ep}{Q:Option Value->W1->Prop}(hu:A.units+6<Q3)(hk:kc s.heap m k u)(ho:s.heap.get? d=some o)(hd:o.data=.dict es ep)(he:es.toList=xs.map (ent w))(hx:∀x∈xs,kc s.heap m x.1 x.2.1)(hn:(xs.map (·.1)).Nodup)(h:Q ((atN xs k).map (·.2)) {s with toks:=s.toks+iB k}):W6 4#0 A (dictGet d u) Q E s:=by
 unfold dictGet;try with_reducible refine WD ?_
 refine W0 (FO hu hk (W0 (FQ (s:={s with toks:=s.toks+iB k}) hu hk ho hd he hx hn ?_ ?_)));.intro gx;rw[(FU gx).1]at h;exact W2 h
 .intro j p hj;rw[(yM hn hj).1]at h;refine W0 (Uj (s:={s with toks:=s.toks+iB k}) ho hd ?_);rw[<-Qq,he,Ws,hj];exact W2 h
universe H in theorem Xa{v}(hn:(xs.map (·.1)).Nodup):((stN xs k u v).map (·.1)).Nodup:=by
 unfold stN;split;.rw[WU];rw[show((λx:NK×Value×Value=>x.1)∘λx=>if x.1=k then(x.1,x.2.1,v)else x)=(·.1)from funext λx=>by simp only[Function.comp];split<;>rfl];exact hn
 .rename_i hh;rw[WN,Uk];refine⟨hn,V',λx hx y hy e=>?_⟩;simp only[Wl,List.map_nil,Qe]at hy;subst hy e;obtain⟨z,hz,e⟩:=WA.mp hx;exact hh (List.any_eq_true.mpr ⟨z,hz,decide_eq_true e⟩)
theorem FV{v}:∀{xs:List (NK×Value×Value)}{j:Nat}{p:Value×Value},(xs.map (·.1)).Nodup->xs[j]?=some (k,p)->(xs.map (ent w)).modify j (λe=>{e with val:=v})=(xs.map λx=>if x.1=k then(x.1,x.2.1,v)else x).map (ent w)
 |[],j,p,_,e=>by simp at e|x::xs,j,p,hn,e=>by
  rw[Wl,List.nodup_cons]at hn
  cases j with|zero=>
   simp at e;subst e;have z:(xs.map λx=>if x.1=k then(x.1,x.2.1,v)else x)=xs:=by
    conv=>rhs;rw[<-List.map_id xs]
    refine JA λy hy=>?_;rw[if_neg λq=>hn.1 (WA.mpr ⟨y,hy,q⟩)];rfl
   rw[Wl,Wl,Wl,z,if_pos rfl];rfl|succ j=>have e':xs[j]?=some (k,p):= ~~~e;have bN:¬x.1=k:=λz=>hn.1 (by rw[z];exact WA.mpr ⟨_,Wz e',rfl⟩);rw[Wl,Wl,Wl,if_neg bN];show ent w x::(xs.map (ent w)).modify j _=_;rw[FV hn.2 e']
theorem Xb{k:NK}{v:Value}{d:Addr}{o:Obj}{es ep}{Q:Unit->W1->Prop}(hu:A.units+6<Q3)(hk:kc s.heap m k u)(ho:s.heap.get? d=some o)(hc:o.ExactDict)(hd:o.data=.dict es ep)(he:es.toList=xs.map (ent w))(hx:∀x∈xs,kc s.heap m x.1 x.2.1)(hn:(xs.map (·.1)).Nodup)(hz:xs.length<=W9)(hQ:∀h' o' mJ jl,h'.get? d=some o'->o'.ExactDict->o'.data=.dict mJ jl->mJ.toList=(stN xs k u v).map (ent w)->Jh d s.heap h'->Q () {s with heap:=h',toks:=s.toks+iB k}):W6 4#0 A (dictSet d u v) Q E s:=by
 have hsz:es.size=xs.length:=by rw[<-Q8,he,Wd]
 unfold dictSet;try with_reducible refine WD ?_
 refine W0 (FO hu hk ?_);unfold dictSetHashed;try with_reducible refine WD ?_
 refine W0 (FQ (s:={s with toks:=s.toks+iB k}) hu hk ho hd he hx hn ?_ ?_);.intro gx;refine W0 (Qn (wpAny_updateDictKeys (hz:=by lia) (s:={s with toks:=s.toks+iB k}) ho hd (hQ _ _ _ (ep+1) (Qh _ ho (Obj.isFreed_of_dict (Obj.data_mapDictKeys hd _))) (hc.mapDictKeys _) (Obj.data_mapDictKeys hd _) ?_ (Jb ..))));unfold stN;rw[if_neg (by rw[(FU gx).2];simp)];simp[he,ent]
 .intro j p hj;refine W0 (Qn (W0 (wpAny_updateDict (s:={s with toks:=s.toks+iB k}) ho hd (wpAny_point (hQ _ _ _ ep (Qh _ ho (Obj.isFreed_of_dict (Obj.data_mapDict hd _))) (hc.mapDict _) (Obj.data_mapDict hd _) ?_ (Jb ..))))));unfold stN;rw[if_pos (yM hn hj).2,<-FV hn hj,<-he];grind
inductive i_(H:Hp):Nat->NK->V->Prop|int{n:Nat}(z:Int):i_ H n (.i z) (.int z)|bl{n:Nat}(b:Bool):i_ H n (.i (if b then 1 else 0)) (.bl b)|str{n:Nat}(x:Str):i_ H n (.s x) (.str x)|tup{n:Nat}{a:Addr}{vs:List V}{ks:List NK}:H a=some (.tup vs)->ks.length=vs.length->(∀(i:Nat)k v,ks[i]?=some k->vs[i]?=some v->i_ H n k v)->i_ H (n+1) (.t ks) (.ref a)
def gY(H:Hp)(m:Bool)(k:NK)(v:V):Prop:=match m with|true=>(∃a,v=.ref a)/\i_ H 6 k v|false=>∃q:Key,k=kN q/\v=kV q
theorem Vals.Xd{xs:List V}(r:Vals xs us)(e:us[i]?=some u):∃x,xs[i]?=some x/\RelV x u:=by
 have h1:=r.length;have h2:i<xs.length:=by have:=(W8.mp e).1;lia
 obtain⟨u',e',rr⟩:=r.get (W4 h2);rw[e]at e';cases e';exact⟨_,W4 h2,rr⟩
theorem i_.nk{h:Heap}{k:NK}(ok:cG P w H h)(r:i_ H n k v):∀{u:Value},RelV v u->dA h n k u:=by induction r with|int z=>intro u q;obtain⟨t,rfl⟩:=q;exact .int z t|bl b=>intro u q;cases q;exact .bl b|str x=>intro u q;obtain⟨t,rfl⟩:=q;exact .str x t|@tup n a vs ks h1 h2 h3 ih=>intro u q;cases q;obtain⟨_,its,r,p⟩:=show bz P w H h a (.tup vs)from ok a _ h1;have ht:h.IsTuple a its.toArray:=p.tup;refine .tup ht (by rw[h2];simpa using r.length) λi k u e1 e2=>?_;obtain⟨x,e3,rx⟩:=r.Xd (u:=u) (i:=i) (~~~e2);exact ih i k x e1 e3 rx
theorem gY.key(ok:cG P w H h)(r:gY H m k v)(q:RelV v u):kc h m k u:=by cases m with|true=>obtain⟨⟨a,rfl⟩,r⟩:=r;cases q;exact⟨a,rfl,r.nk ok rfl⟩|false=>obtain⟨q',rfl,rfl⟩:=r;exact⟨q',by rw[<-MB P w];exact p8 q,rfl⟩
abbrev NE:=NK×V×V
def dQ:List NE->List (NK×Value×Value)->Prop:=Paired λ(p:NE)(x:NK×Value×Value)=>p.1=x.1/\RelV p.2.1 x.2.1/\RelV p.2.2 x.2.2
theorem FW{aw:List NE}{es:List DictEntry}(h:Paired (λ(p:NE)(e:DictEntry)=>e.hash=fP w p.1/\RelV p.2.1 e.key/\RelV p.2.2 e.val) aw es):∃xs,dQ aw xs/\es=xs.map (ent w):=by induction h with|nil=>exact⟨[],.nil,rfl⟩|@cons p e _ _ r t ih=>obtain⟨xs,h1,h2⟩:=ih;refine⟨(p.1,e.key,e.val)::xs,.cons ⟨rfl,r.2.1,r.2.2⟩ h1,?_⟩;rw[Wl,<-h2];unfold ent;rw[<-r.1]
theorem FX{aw:List NE}{xs:List (NK×Value×Value)}(h:dQ aw xs):Paired (λ(p:NE)(e:DictEntry)=>e.hash=fP w p.1/\RelV p.2.1 e.key/\RelV p.2.2 e.val) aw (xs.map (ent w)):=by induction h with|nil=>exact .nil|@cons p x _ _ r t ih=>exact .cons ⟨by show fP w x.1=_;rw[r.1],r.2.1,r.2.2⟩ ih
theorem dQ.keys{aw:List NE}{xs:List (NK×Value×Value)}(h:dQ aw xs):aw.map (·.1)=xs.map (·.1):=by induction h with|nil=>rfl|cons r t ih=>rw[Wl,Wl,r.1,ih]
noncomputable def valN(aw:List NE)(k:NK):Option V:=(aw.find? λp=>decide (p.1=k)).map (·.2.2)
noncomputable def putN(aw:List NE)(k:NK)(y v:V):List NE:=if(aw.any λp=>decide (p.1=k))=true then aw.map λp=>if p.1=k then(p.1,p.2.1,v)else p else aw++[(k,y,v)]
theorem dQ.val(k:NK){aw:List NE}{xs:List (NK×Value×Value)}(h:dQ aw xs):fB (valN aw k) ((atN xs k).map (·.2))/\(aw.any λp=>decide (p.1=k))=xs.any λx=>decide (x.1=k):=by induction h with|nil=>exact⟨trivial,rfl⟩|@cons p x aw xs r t ih=>
  obtain⟨i1,i2⟩:=ih;rw[QF,QF,i2,r.1];refine⟨?_,rfl⟩;unfold valN atN at i1⊢;rw[Qa,Qa,r.1];by_cases e:x.1=k;.rw[decide_eq_true e];exact r.2.2
  .rw[decide_eq_false e];exact i1
theorem dQ.st(rv:RelV v r){aw:List NE}{xs:List (NK×Value×Value)}(h:dQ aw xs):dQ (aw.map λp=>if p.1=k then(p.1,p.2.1,v)else p) (xs.map λx=>if x.1=k then(x.1,x.2.1,r)else x):=by induction h with|nil=>exact .nil|@cons p x _ _ q t ih=>
  rw[Wl,Wl];refine .cons ?_ ih;rw[q.1];by_cases e:x.1=k;.rw[if_pos e,if_pos e];exact⟨rfl,q.2.1,rv⟩
  .rw[if_neg e,if_neg e];exact q
theorem dQ.app(ry:RelV y u)(rv:RelV v r){aw:List NE}{xs:List (NK×Value×Value)}(h:dQ aw xs):dQ (aw++[(k,y,v)]) (xs++[(k,u,r)]):=by induction h with|nil=>exact .cons ⟨rfl,ry,rv⟩ .nil|cons q t ih=>exact .cons q ih
theorem dQ.put(ry:RelV y u)(rv:RelV v r)(h:dQ aw xs):dQ (putN aw k y v) (stN xs k u r):=by
 unfold putN stN;rw[(dQ.val k h).2];split;.exact h.st rv
 .exact h.app ry rv
section
variable{h:Heap}{a:Addr}{aw:List NE}
structure me(w:Wu)(h:Heap)(a:Addr)(ep:Nat)(xs:List (NK×Value×Value))(o:Obj)(es:Array DictEntry):Prop where
 get:h.get? a=some o
 ex:o.ExactDict
 data:o.data=.dict es ep
 ents:es.toList=xs.map (ent w)mf:(xs.map (·.1)).Nodup
theorem u7(ok:cG P w H h)(e:H a=some (.dN ep aw)):aw.length<=W9/\(a==QH)=false/\∃xs o es,dQ aw xs/\me w h a ep xs o es:=by obtain⟨z,hS,o,es,h1,h2,h3,h4,h5⟩:=show bz P w H h a (.dN ep aw)from ok a _ e;obtain⟨xs,q1,q2⟩:=FW h4;exact⟨z,hS,xs,o,es,q1,h1,h2,h3,q2,by rw[<-q1.keys];exact h5⟩
theorem Xe{es}(z:aw.length<=W9)(hS:(a==QH)=false)(r:dQ aw xs)(d:me w h a ep xs o es):bz P w H h a (.dN ep aw):=⟨z,hS,o,es,d.get,d.ex,d.data,%[d.ents|FX r],%[r.keys|d.mf]⟩
theorem me.typeIs{o:Obj}{es:Array DictEntry}(d:me w s.heap a ep xs o es):s.TypeIs (.ref a) "dict":=⟨o,d.get,d.ex.1⟩
theorem me.noDict{es}(d:me w h a ep xs o es):∀b,Value.ref a=.ref b->∃ob,h.get? b=some ob/\ob.dict=none:=λb e=>by cases e;exact⟨o,d.get,d.ex.2.1⟩
theorem FY(ok:cG P w H h)(r:dQ aw xs)(hk:∀p∈aw,gY H m p.1 p.2.1):∀x∈xs,kc h m x.1 x.2.1:=by induction r with|nil=>intro x hx;simp at hx|cons q t ih=>
 intro x hx;rcases Wq.mp hx with rfl|hx;.rw[<-q.1];exact(hk _ Wi).key ok q.2.1
 .exact ih (λp hp=>hk p (Wf _ hp)) x hx
end
def oM(H:Hp)(a:Addr)(y:V)(r:Option V):Prop:=∃m ep aw k,H a=some (.dN ep aw)/\(∀p∈aw,gY H m p.1 p.2.1)/\gY H m k y/\r=valN aw k
section
variable{a:Addr}{y:V}{r:Value}{o:Option V}
theorem Xf(hu:A.units+6<Q3)(I:6#0)(g:oM H a y o)(ry:RelV y u)(h:∀w' s',Inv X pins Y H s'->fB o w'->Q w' s'):W6 5#0 A (dictGet a u) Q E s:=by obtain⟨m,ep,aw,k,e,hk,ky,rfl⟩:=g;obtain⟨z,hS,xs,ob,es,rx,d⟩:=u7 I.aB e;exact W_ hu (ky.key I.aB ry) d.get d.data d.ents (FY I.aB rx hk) d.mf (h _ _ (I.tok _) (rx.val k).1)
theorem Xg(I:6#0)(g:oM H a y o):s.TypeIs (.ref a) "dict"/\(∀b,Value.ref a=.ref b->∃ob,s.heap.get? b=some ob/\ob.dict=none)/\(a==QH)=false:=by obtain⟨m,ep,aw,k,e,hk,ky,rfl⟩:=g;obtain⟨z,hS,xs,ob,es,rx,d⟩:=u7 I.aB e;exact⟨d.typeIs,d.noDict,hS⟩
theorem Xh(hu:A.units+8<Q3)(I:6#0)(g:oM H a y o)(ry:RelV y u)(h:∀s',Inv X pins Y H s'->Q o.isSome s'):W6 5#0 A (contains (.ref a) u) Q E s:=by
 obtain⟨hT,_,hS⟩:=Xg I g;unfold contains;try with_reducible refine WD ?_
 refine W0 (wpAny_specialOf hT slot_dict_contains.lookup ?_);show W6 _ _ (if(some (Value.builtin "dict.__contains__")==some Value.none)=true then _ else _) _ E s;rw[if_neg %[beq_builtin_none|WR]];refine W0 (wpAny_callSpecialUnlessNone?_slot (name:=Str.ofString "__contains__") hT slot_dict_contains (WY slot_dict_contains hT entry_dict_contains ?_ (args_dict_contains _ _)));show W6 _ _ (dictGet a u>>=_) _ _ s;refine W0 (Xf (show A.units+1+6<Q3 by lia) I g ry λw' s' I' rr=>?_);cases o with|some x=>obtain⟨w2,rfl,r2⟩:=fB.some_of rr;show W6 _ _ (ret (.bool true)) _ _ _;exact W2 ⟨_,rfl,Qz (h s' I')⟩|none=>obtain rfl:=fB.none_of rr;show W6 _ _ (Builtin.Dict.pendingKey? a u>>=_) _ _ _;exact W0 (wpAny_pendingKey_other hS (W2 ⟨_,rfl,Qz (h s' I')⟩))
theorem Xi(hu:A.units+8<Q3)(I:6#0)(g:oM H a y o)(ry:RelV y u)(h:∀s',Inv X pins Y H s'->Q (.bool o.isSome) s'):W6 5#0 A (WC .In u (.ref a)) Q E s:=by show W6 _ _ (do return .bool (<-contains (.ref a) u)) Q E s;exact W0 (Xh hu I g ry λs' I'=>W2 (h s' I'))
theorem FZ(aw:List NE)(k:NK)(y v:V):(putN aw k y v).length<=aw.length+1:=by
 unfold putN;split;.simp
 .simp
end
end
variable{acc:List NE}
theorem Xj(n:Nat)(i:Int):cL n (.int i)=some (.i i):=by cases n<;>rfl
theorem Xk(n:Nat)(b:Bool):cL n (.bl b)=some (.i (if b then 1 else 0)):=by cases n<;>rfl
theorem Xl(n:Nat)(x:Tx):cL n (.str x)=some (.s (toS x)):=by cases n<;>rfl
theorem Xm(n:Nat)(xs:List D):cL (n+1) (.tup xs)=(iZ n xs).map .t:=rfl
theorem u9(h:cL n d=some x):(∃i,d=.int i/\x=.i i)\/(∃b,d=.bl b/\x=.i (if b then 1 else 0))\/(∃s,d=.str s/\x=.s (toS s))\/∃m xs ks,n=m+1/\d=.tup xs/\iZ m xs=some ks/\x=.t ks:=by cases d with
 |int i=>rw[Xj]at h;exact .inl ⟨i,rfl,(WL h).symm⟩|bl b=>rw[Xk]at h;exact .inr (.inl ⟨b,rfl,(WL h).symm⟩)|str s=>rw[Xl]at h;exact .inr (.inr (.inl ⟨s,rfl,(WL h).symm⟩))|tup xs=>cases n with|zero=>cases h|succ m=>rw[Xm,Qo]at h;obtain⟨ks,hk,e⟩:=h;exact .inr (.inr (.inr ⟨m,xs,ks,rfl,rfl,hk,e.symm⟩))
 |_=>cases n<;>cases h
theorem F0(ih:∀(d e:D)(x y:NK),cL n d=some x->cL n e=some y->aU d e=decide (x=y)):∀(xs ys:List D)(ks ls:List NK),iZ n xs=some ks->iZ n ys=some ls->dO xs ys=decide (ks=ls)|[],[],ks,ls,h1,h2=>by grind[dO]|[],y::ys,ks,ls,h1,h2=>by simp only[iZ,Wb,JE,Qo]at h1 h2;subst h1;obtain⟨k,_,l,_,rfl⟩:=h2;simp[dO]|x::xs,[],ks,ls,h1,h2=>by simp only[iZ,Wb,JE,Qo]at h1 h2;subst h2;obtain⟨k,_,l,_,rfl⟩:=h1;simp[dO]|x::xs,y::ys,ks,ls,h1,h2=>by simp only[iZ,JE,Qo]at h1 h2;obtain⟨k,hk,k',iY,rfl⟩:=h1;obtain⟨l,hl,l',iV,rfl⟩:=h2;simp only[dO];rw[ih x y k l hk hl,F0 ih xs ys k' l' iY iV];grind
theorem F3:∀(n:Nat)(d e:D)(x y:NK),cL n d=some x->cL n e=some y->aU d e=decide (x=y):=by intro n;induction n with
 |zero=>intro d e x y h1 h2;rcases u9 h1 with⟨i,rfl,rfl⟩|⟨b,rfl,rfl⟩|⟨s,rfl,rfl⟩|⟨m,xs,ks,e,_⟩<;>rcases u9 h2 with⟨i,rfl,rfl⟩|⟨b,rfl,rfl⟩|⟨s,rfl,rfl⟩|⟨m,xs,ks,e,_⟩<;>first|(cases e;done)|(simp only[aU];first|(rw[decide_eq_false λq=>nomatch q];done)|(rw[md,<-yK];done)|(rw[md];done)|(rw[yJ,oq];done))
 |succ n ih=>
 intro d e x y h1 h2;rcases u9 h1 with⟨i,rfl,rfl⟩|⟨b,rfl,rfl⟩|⟨s,rfl,rfl⟩|⟨m,xs,ks,e1,rfl,hk,rfl⟩<;>rcases u9 h2 with⟨i,rfl,rfl⟩|⟨b,rfl,rfl⟩|⟨s,rfl,rfl⟩|⟨m,ys,ls,e2,rfl,hl,rfl⟩<;>first|(simp only[aU];first|(rw[decide_eq_false λq=>nomatch q];done)|(rw[md,<-yK];done)|(rw[md];done)|(rw[yJ,oq];done))|skip
 cases e1;cases e2;simp only[aU];rw[F0 ih xs ys ks ls hk hl];grind
theorem F4:∀{xs:List D}{ks:List NK},iZ n xs=some ks->ks.length=xs.length/\∀(i:Nat)d k,xs[i]?=some d->ks[i]?=some k->cL n d=some k|[],ks,h=>by simp[iZ]at h;subst h;exact⟨rfl,λi d k e=>by simp at e⟩|x::xs,ks,h=>by simp only[iZ,JE,Qo]at h;obtain⟨k,hk,k',iY,rfl⟩:=h;obtain⟨h1,h2⟩:=F4 iY;refine⟨#v[h1],λi d kk e1 e2=>?_⟩;cases i with|zero=>simp at e1 e2;subst e1;subst e2;exact hk|succ i=>exact h2 i d kk (~~~e1) (~~~e2)
theorem Xn(r:Rep H O v d):∀{n:Nat}{k:NK},cL n d=some k->i_ H n k v:=by
 induction r with|int i=>intro n k h;cases n<;>(simp[cL]at h;subst h;exact .int i)|bl b=>intro n k h;cases n<;>(simp only[cL,Wb]at h;subst h;exact .bl b)|str x=>intro n k h;cases n<;>(simp[cL]at h;subst h;exact .str _)|@tup a vs ds h1 h2 h3 h4 ih=>intro n k h;cases n with|zero=>simp[cL]at h|succ n=>
 simp only[cL,Qo]at h;obtain⟨ks,hk,rfl⟩:=h;obtain⟨l,g⟩:=F4 hk;refine .tup h2 Y' λi k v e1 e2=>?_;have hi:i<ds.length:=by have:=(W8.mp e1).1;lia
 exact ih i v ds[i] e2 (W4 hi) (g i ds[i] k (W4 hi) e1)|_=>intro n k h;cases n<;>simp[cL]at h
def gE(m:Bool)(d:D):Bool:=match d with|.tup _=>m|.int _=>!m|.str _=>!m|_=>false
theorem yN(hm:gE m d=true)(hk:cL 6 d=some k)(r:Rep H O v d):gY H m k v:=by cases m with|true=>have r':=Xn r hk;cases r<;>simp[gE]at hm;exact⟨⟨_,rfl⟩,r'⟩|false=>
 cases r<;>simp[gE]at hm;.simp[cL]at hk;subst hk;exact⟨.inl _,rfl,rfl⟩
 .simp[cL]at hk;subst hk;exact⟨.inr _,rfl,rfl⟩
def qR(m:Bool)(ds:List (D×D))(k:D):Bool:=gE m k&&(cL 6 k).isSome&&ds.all λq=>gE m q.1
def F5(k:D):Bool:=gE true k
def ke(ds:List (D×D))(k:D):Option D:=(ds.find? λq=>aU q.1 k).map (·.2)
def ny(ds:List (D×D))(k d:D):List (D×D):=if(ds.any λq=>aU q.1 k)=true then ds.map λq=>if aU q.1 k=true then(q.1,d)else q else ds++[(k,d)]
section
variable{ws:List NE}{ds:List (D×D)}{p:NE}{q:D×D}
theorem DN.nil:DN H O [] []:=⟨rfl,λi p q e=>by simp at e,λi p q e=>by simp at e,λi p q e=>by simp at e⟩
theorem DN.cons{H O ws ds p q}(h1:Rep H O p.2.1 q.1)(h2:Rep H O p.2.2 q.2)(h3:cL 6 q.1=some p.1)(r:DN H O ws ds):DN H O (p::ws) (q::ds):=by
 refine⟨#v[r.len],λi a b e1 e2=>?_,λi a b e1 e2=>?_,λi a b e1 e2=>?_⟩<;>cases i<;>simp at e1 e2;.subst e1;subst e2;exact h1
 .exact r.key _ a b e1 e2
 .subst e1;subst e2;exact h2
 .exact r.val _ a b e1 e2
 .subst e1;subst e2;exact h3
 .exact r.mT _ a b e1 e2
theorem DN.un(r:DN H O (p::ws) (q::ds)):Rep H O p.2.1 q.1/\Rep H O p.2.2 q.2/\cL 6 q.1=some p.1/\DN H O ws ds:=⟨r.key 0 p q rfl rfl,r.val 0 p q rfl rfl,r.mT 0 p q rfl rfl,~~~r.len,λi a b e1 e2=>r.key (i+1) a b (~~~e1) (~~~e2),λi a b e1 e2=>r.val (i+1) a b (~~~e1) (~~~e2),λi a b e1 e2=>r.mT (i+1) a b (~~~e1) (~~~e2)⟩
theorem DN.get(hk:cL 6 k=some kk):∀{ws:List NE}{ds:List (D×D)},DN H O ws ds->((ke ds k=none/\valN ws kk=none)\/∃v d,ke ds k=some d/\valN ws kk=some v/\Rep H O v d)/\(ds.any λq=>aU q.1 k)=ws.any λp=>decide (p.1=kk)
 |[],[],_=>⟨.inl ⟨rfl,rfl⟩,rfl⟩|[],_::_,r=>by have:=r.len;simp at this|_::_,[],r=>by have:=r.len;simp at this|p::ws,q::ds,r=>by
  obtain⟨r1,r2,r3,r4⟩:=r.un;obtain⟨i1,i2⟩:=DN.get hk r4;have e:=F3 6 q.1 k p.1 kk r3 hk;refine⟨?_,by rw[QF,QF,i2,e]⟩;unfold ke valN at i1⊢;rw[Qa,Qa,e];by_cases z:p.1=kk;.rw[decide_eq_true z];exact .inr ⟨_,_,rfl,rfl,r2⟩
  .rw[decide_eq_false z];exact i1
theorem DN.app(hk:cL 6 k=some kk)(ry:Rep H O y k)(rv:Rep H O v d):∀{ws:List NE}{ds:List (D×D)},DN H O ws ds->DN H O (ws++[(kk,y,v)]) (ds++[(k,d)])|[],[],_=>.cons ry rv hk .nil|[],_::_,r=>by have:=r.len;simp at this|_::_,[],r=>by have:=r.len;simp at this|p::ws,q::ds,r=>by obtain⟨r1,r2,r3,r4⟩:=r.un;exact .cons r1 r2 r3 (DN.app hk ry rv r4)
theorem DN.st(hk:cL 6 k=some kk)(rv:Rep H O v d):∀{ws:List NE}{ds:List (D×D)},DN H O ws ds->DN H O (ws.map λp=>if p.1=kk then(p.1,p.2.1,v)else p) (ds.map λq=>if aU q.1 k=true then(q.1,d)else q)
 |[],[],_=>.nil|[],_::_,r=>by have:=r.len;simp at this|_::_,[],r=>by have:=r.len;simp at this|p::ws,q::ds,r=>by
  obtain⟨r1,r2,r3,r4⟩:=r.un;have e:=F3 6 q.1 k p.1 kk r3 hk;rw[Wl,Wl,e];by_cases z:p.1=kk;.rw[decide_eq_true z,if_pos z,if_pos rfl];exact .cons r1 rv r3 (DN.st hk rv r4)
  .rw[decide_eq_false z,if_neg z,if_neg V'];exact .cons r1 r2 r3 (DN.st hk rv r4)
theorem DN.put(hk:cL 6 k=some kk)(ry:Rep H O y k)(rv:Rep H O v d)(r:DN H O ws ds):DN H O (putN ws kk y v) (ny ds k d):=by
 unfold putN ny;rw[(DN.get hk r).2];split;.exact r.st hk rv
 .exact r.app hk ry rv
theorem DN.Xo(hm:(ds.all λq=>gE m q.1)=true)(r:DN H O ws ds):∀p∈ws,gY H m p.1 p.2.1:=λp hp=>by
 obtain⟨i,e⟩:=List.mem_iff_getElem?.mp hp;have hi:i<ds.length:=by have:=(W8.mp e).1;have:=r.len;lia
 exact yN (WW.mp hm ds[i] (Qv hi)) (r.mT i p ds[i] e (W4 hi)) (r.key i p ds[i] e (W4 hi))
end
theorem F6{ds}(r:cX c Y Z H v (.dic ds)):∃a ep ws,v=.ref a/\H a=some (.dN ep ws)/\DN H (Av c Y Z) ws ds:=by
 rcases r with r|⟨a,rfl,ep,ws,h1,h2⟩;.cases r with|dic h1 h2 h3 h4 h5 h6=>exact⟨_,_,_,rfl,h2,h3,h4,h5,h6⟩
 .exact⟨a,ep,ws,rfl,h1,h2⟩
theorem Xp(h:gE m d=true)(r:cX c Y Z H v d):Rep H (Av c Y Z) v d:=by
 rcases r with r|⟨a,rfl,r⟩;.exact r
 .cases d<;>first|exact r.elim|simp[gE]at h
theorem Xq{ds}(h:qR m ds k=true):gE m k=true/\(∃kk,cL 6 k=some kk)/\(ds.all λq=>gE m q.1)=true:=by unfold qR at h;simp only[Wr]at h;exact⟨h.1.1,QM.mp h.1.2,h.2⟩
theorem Xr{ds}(rx:cX c Y Z H x (.dic ds))(ry:cX c Y Z H y k)(h:qR m ds k=true):∃a o,x=.ref a/\oM H a y o/\((ke ds k=none/\o=none)\/∃v d,ke ds k=some d/\o=some v/\Rep H (Av c Y Z) v d):=by obtain⟨a,ep,ws,e,ha,dn⟩:=F6 rx;obtain⟨h1,⟨kk,hk⟩,h2⟩:=Xq h;exact⟨a,valN ws kk,e,⟨m,ep,ws,kk,ha,dn.Xo h2,yN h1 hk (Xp h1 ry),rfl⟩,(dn.get hk).1⟩
def F7(neg:Bool):R2:=λx y H Q=>∃a o,y=.ref a/\oM H a x o/\Q (.bl (if neg then !o.isSome else o.isSome)) H
theorem Xs(hu:X.A.units+64<Q3):bw X (WC .In) (F7 false):=by intros x y v u Q I rx ry h;obtain⟨a,o,rfl,g,q⟩:=h;cases ry;exact Xi Y' I g rx λs' I'=>⟨.bl _,H,I',rfl,q⟩
noncomputable def kX(neg:Bool)(x y:D):Option S:=match y with|.dic ds=>if qR (F5 x) ds x then 0#(.bl (if neg then !(ke ds x).isSome else(ke ds x).isSome)) else none|_=>none
universe H in theorem Xt(neg:Bool):cu (F7 neg) (kX neg):=by
 intro c Y Z H x y d e s Q k rx ry hp q;cases e<;>first|(simp[kX]at hp;done)|skip
 rename_i ds;simp only[kX]at hp;split at hp
 .rename_i hg;cases hp;obtain⟨a,o,ea,g,r⟩:=Xr ry rx hg;refine⟨a,o,ea,g,?_⟩;have:o.isSome=(ke ds d).isSome:=by rcases r with⟨r1,rfl⟩|⟨_,_,r1,rfl,_⟩<;>rw[r1]<;>rfl
  rw[this];exact q _ H (.refl k) (.bl _)
 .cases hp
theorem Xu{Q:Option Value->W1->Prop}{R:PySem.Fin->W1->Prop}{o:Obj}{fs:Array Value}{j:Nat}{v:Value}(hh:A.handled=none)(ho:s.heap.get? it=some o)(hd:o.data=.fields fs)(hj:j<fs.size)(h:∀h',Heap.ExtBut it s.heap h'->Q none 9#h'):W6 4#0 A.in1 (do
 setField (.ref it) j v
 raiseNew (<-newExc (.type "StopIteration") [])) R (λe s'=>W6 4#0 A (do if<-isInstance e (.type "StopIteration")then pure none else throw e) Q E s') s:=by refine W0 (Ju ho hd hj ?_);refine W0 ?_;simp only[newExc,newTuple];refine W0 (WZ ?_ (by size_fits));refine W0 (m:=firstArgMember _ _) (wpAny_of_eq (a:=Value.none) (by first|rfl|(simp only[firstArgMember];rfl)) ?_);refine WZ ?_ (by size_fits);simp only[raiseNew];refine W0 (wpAny_handled ?_);rw[show A.in1.handled=none from hh];refine W0 (W2 (wpAny_throw ?_));refine W0 (wpAny_isInstance (T:="StopIteration") (b:=true) ⟨_,We _ rfl,rfl⟩ isSubtype_stop ?_);exact W2 (h _ (((Jb ..).extBut.push _).push _))
theorem Xv(h:Heap)(hb:QH<h.objs.size):bz P w H (h.push {cls:=.type "dict",data:=.dict #[]}) h.objs.size (.dN 0 []):=⟨Q6 _,beq_eq_false_iff_ne.mpr (Ne.symm (WQ hb)),_,#[],We _ rfl,⟨rfl,rfl,rfl⟩,rfl,.nil,List.nodup_nil⟩
theorem aN.F8{ds}(k:Ok c Y Z H)(hp:H p=none)(r:DN H (Av c Y Z) ws ds):aN c Y Z H (upd H p (.dN ep ws)) (.ref p) (.own (.dic ds)):=by
 refine⟨p,rfl,⟨ep,ws,cJ,?_⟩,λz=>k.ju hp (.inl z),k.kG hp,k.plus hp _,hp⟩;exact(r.bj λb z=>by
 rcases z with(z|z)|z;.exact .inl (.inl z)
 .exact .inr %[z|hp]
 .exact .inl (.inr z)).keep λb w e j=>%[aY (dZ e hp)|e]
theorem Xw{es}(hd:(d==QH)=false)(hT:s.TypeIs (.ref d) "dict")(ho:s.heap.get? d=some o)(l7:o.data=.dict es ep)(hQ:Q (.ref s.heap.objs.size) 9#(s.heap.push {cls:=.type "dict_keyiterator",data:=.fields #[.ref d,.int 0 0,.int es.size 0,.int ep 0]})):W6 4#0 A (pyIter (.ref d)) Q E s:=by refine wpAny_pyIter_slot hT F.slot_dict_iter (WY F.slot_dict_iter hT F.entry_dict_iter ?_ (F.args_dict_iter_1 _));unfold Builtin.«dict.__iter__»;refine W0 ?_;unfold Builtin.Dict.dictSlotNone;refine W0 (wpAny_notOrdered_dict hT ?_);show W6 _ _ (pure (Value.ref d)) _ _ s;refine W2 ?_;show W6 _ _ (Builtin.Dict.showsAll d>>=_) _ _ s;unfold Builtin.Dict.showsAll;rw[if_neg %[hd|WR]];refine W0 (W2 (W0 (Uj ho l7 (W0 (wpAny_dictEpoch ho l7 ?_)))));refine W0 (WZ (W2 ⟨_,rfl,"dict_keyiterator",_,⟨_,We _ rfl,rfl⟩,F.slot_dict_keyiterator_next.lookup,?_⟩));simpa[Q4]using hQ
theorem nextK{od es e}(hit:s.heap.IsKeyIter it d i es.size ep)(qS:s.heap.get? d=some od)(i3:od.data=.dict es ep)(hx:es[i]?=some e)(hQ:∀h',h'.IsKeyIter it d (i+1) es.size ep->Jh it s.heap h'->Q (some e.key) 9#h'):W6 4#0 A (QR (.ref it)) Q E s:=by
 obtain⟨o,ho,hc,hd⟩:=id hit;unfold QR;refine W0 (JY (Qi (name:=Str.ofString "__next__") hit.typeIs Jg (WY Jg hit.typeIs F.entry_dict_keyiterator_next ?_ (F.args_dict_keyiterator_next_1 _))));refine W0 (W2 (W0 (W0 ?_)));refine W0 (Ja hit.typeIs (W2 ?_));refine W0 (wpAny_fieldsOf ho hd ?_);have m3:Builtin.Dict_items.ownsTuple "dict_keyiterator"=false:=by decide
 simp only[m3,WO,if_false];show W6 _ _ (if(Value.ref d==Value.none)=true then _ else _) _ _ s;rw[if_neg (show¬(Value.ref d==Value.none)=true from WR)];refine W0 (W2 (W0 (Uj qS i3 ?_)));rw[if_neg V'];refine W0 (W2 (W0 (wpAny_dictEpoch qS i3 ?_)));rw[if_neg V'];refine W2 ?_;simp only[show¬(i:Int)<0from Y',if_false,QS,hx];refine W0 ?_;refine W0 (Ja hit.typeIs (W2 ?_));refine W0 (wpAny_isOneOf_keyiter hit.typeIs ?_);show W6 _ _ (setField (.ref it) 1 (Q4 ((i:Int)+1))>>=_) _ _ s;refine W0 (Ju ho hd V' ?_);have oG:(s.heap.update it (Obj.mapFields (·.setIfInBounds 1 (Q4 ((i:Int)+1))))).IsKeyIter it d (i+1) es.size ep:=⟨_,Qh _ ho (Obj.isFreed_of_fields (Obj.data_mapFields hd _)),(Obj.cls_mapFields ..).trans hc,by rw[Obj.data_mapFields hd];simp[Q4]⟩;refine W0 (WD ?_);refine W0 (wpAny_isOneOf_keyiter (s:=9#(s.heap.update it (Obj.mapFields (·.setIfInBounds 1 (Q4 ((i:Int)+1)))))) oG.typeIs ?_);show W6 _ _ (pure e.key) _ _ _;exact W2 (W2 ⟨_,rfl,W2 (hQ _ oG (Jb ..))⟩)
theorem Xx{od es}(hh:A.handled=none)(hit:s.heap.IsKeyIter it d i es.size ep)(qS:s.heap.get? d=some od)(i3:od.data=.dict es ep)(hx:es.size<=i)(hQ:∀h',Heap.ExtBut it s.heap h'->Q none 9#h'):W6 4#0 A (QR (.ref it)) Q E s:=by
 obtain⟨o,ho,hc,hd⟩:=id hit;unfold QR;refine W0 (JY (Qi (name:=Str.ofString "__next__") hit.typeIs Jg (WY Jg hit.typeIs F.entry_dict_keyiterator_next ?_ (F.args_dict_keyiterator_next_1 _))));refine W0 (W2 (W0 (W0 ?_)));refine W0 (Ja hit.typeIs (W2 ?_));refine W0 (wpAny_fieldsOf ho hd ?_);have m3:Builtin.Dict_items.ownsTuple "dict_keyiterator"=false:=by decide
 simp only[m3,WO,if_false];show W6 _ _ (if(Value.ref d==Value.none)=true then _ else _) _ _ s;rw[if_neg (show¬(Value.ref d==Value.none)=true from WR)];refine W0 (W2 (W0 (Uj qS i3 ?_)));rw[if_neg V'];refine W0 (W2 (W0 (wpAny_dictEpoch qS i3 ?_)));rw[if_neg V'];refine W2 ?_;simp only[show¬(i:Int)<0from Y',if_false,QS,Array.getElem?_eq_none hx];refine W0 ?_;refine W0 (Ja hit.typeIs (W2 ?_));exact Xu (j:=0) hh ho hd V' hQ
theorem Xy{es}(lo:(d==QH)=false):PySem.W.KdlSrc prog w "dict" d d es.size (λi v=>∃e,es[i]?=some e/\e.key=v) λh=>∃o,me w h d ep xs o es where
 type:=λ_⟨_,hm⟩=>hm.typeIs
 there:=λ_⟨_,hm⟩=>⟨Wj hm.get,Wj hm.get⟩
 keep:=λ_ _⟨o,hm⟩hk=>⟨o,hk d (.inl rfl) o hm.get,hm.ex,hm.data,hm.ents,hm.mf⟩
 notList:=by decide
 notTuple:=by decide
 hint:=λ_ _ _ _⟨_,hm⟩hq=>PySem.W.kdl_hint_dict hm.typeIs hq
 iter:=λA s hh⟨o,hm⟩=>⟨_,λi h=>h.IsKeyIter s.heap.objs.size d i es.size ep/\∃o,me w h d ep xs o es,λj j hq=>Xw lo hm.typeIs hm.get hm.data hq,{
 sub:=λb hb=>by simp at hb;simp[hb]
 frame:=λj j j st hk=>⟨st.1.at λo e=>hk _ V' o e,let⟨o,m⟩:=st.2;⟨o,hk d V' o m.get,m.ex,m.data,m.ents,m.mf⟩⟩
 item:=λi s1 Q E hi st hQ=>by obtain⟨st1,o1,m1⟩:=st;have hx:es[i]?=some es[i]:=#v[hi];have bN:d≠s.heap.objs.size:=WQ (Wj hm.get);exact nextK st1 m1.get m1.data hx λh' oG iq=>hQ _ h' s1.toks ⟨_,hx,rfl⟩ ⟨oG,o1,iq.extBut d o1 bN m1.get,m1.ex,m1.data,m1.ents,m1.mf⟩ λb o hb e=>iq.extBut b o (λh=>hb #v[h]) e
 done:=λs1 Q E st hQ=>by obtain⟨st1,o1,m1⟩:=st;exact Xx hh st1 m1.get m1.data (W7 _) λh' tP=>hQ h' s1.toks λb o hb e=>tP b o (λh=>hb #v[h]) e
 self:=λj j j j st hQ=>wpAny_pyIter_keyiter st.1 hQ},⟨⟨_,We _ rfl,rfl,rfl⟩,o,W5 _ hm.get,hm.ex,hm.data,hm.ents,hm.mf⟩⟩
theorem F9{w:Wu}:∀{aw:List NE}{xs:List (NK×Value×Value)}{us:List Value},dQ aw xs->us.length=xs.length->(∀(j:Nat)v,us[j]?=some v->∃x,xs[j]?=some x/\x.2.1=v)->Vals (aw.map (·.2.1)) us|[],_,[],.nil,_,_=>.nil|[],_,_::_,.nil,h,_=>by simp at h|p::r,_,[],.cons _ _,h,_=>by simp at h|p::r,q::vs,u::us,.cons h1 h2,hl,hk=>by refine .cons ?_ (F9 (w:=w) h2 (~~~hl) λj v e=>by simpa using hk (j+1) v (~~~e));obtain⟨x,e,z⟩:=hk 0 u rfl;simp at e;subst e;rw[<-z];exact h1.2.1
theorem DN.F_:∀{ws:List NE}{ds:List (D×D)},DN H O ws ds->aH H O (ws.map (·.2.1)) (ds.map (·.1))|[],[],_=>.nil|[],_::_,r=>by have:=r.len;simp at this|_::_,[],r=>by have:=r.len;simp at this|p::ws,q::ds,r=>by obtain⟨r1,_,_,r4⟩:=r.un;exact .cons r1 (DN.F_ r4)
abbrev fJ(h:Heap)(z TI TO:Addr)(v0:Value)(f:Bool):Prop:=h.get? z=some {cls:=.type "zip",dict:=none,data:=.fields #[v0,.bool f,.bool false,.ref TI,.ref TO],slots:=#[]}
theorem Xz(ho:s.heap.get? a=none)(h:Q none s):W6 4#0 A (loadIfAlive a) Q E s:=by have h':Q (s.heap.get? a) s:=%[ho|h];exactλj j j=>h'
theorem Ga{TI TO f}(hz:fJ s.heap z TI TO v0 f)(hv:v0=.none\/∃p:Addr,v0=Q4 p/\s.heap.get? p=none)(h:Q true s):W6 4#0 A (WS (.ref z)) Q E s:=by
 unfold WS;rcases hv with rfl|⟨p,rfl,hp⟩;.exact W0 (WF hz rfl (x:=.none) rfl (W2 h))
 .refine W0 (WF hz rfl (x:=Q4 p) rfl ?_);show W6 _ _ (loadIfAlive (p:Int).toNat>>=_) _ _ _;rw[QS];exact W0 (Xz hp (W2 h))
theorem XA{z TI TO:Addr}{a b:Value}{f:Bool}{Q:Value->W1->Prop}(D1:Draws prog w A i1 f1 n1 P1 S1)(D2:Draws prog w A i2 f2 n2 P2 S2)(C:ZA z TI TO i1 i2 f1 f2)(hz:fJ s.heap z TI TO v0 f)(hv:v0=.none\/∃p:Addr,v0=Q4 p/\s.heap.get? p=none)(hI:IsPair s.heap TI (.ref i1) (.ref i2))(hO:IsPair s.heap TO a b)(g1:S1 i s.heap)(g2:S2 i s.heap)(l1:i<n1)(l2:i<n2)(q:∀x y h' tk,P1 i x->P2 i y->fJ h' z TI TO (Q4 s.heap.objs.size) false->IsPair h' TO x y->S1 (i+1) h'->S2 (i+1) h'->IsPair h' s.heap.objs.size x y->(∀c o,c≠z->c≠TO->c≠i1->c≠i2->s.heap.get? c=some o->h'.get? c=some o)->Q (.ref s.heap.objs.size) {s with heap:=h',toks:=tk}):W6 4#0 A (Builtin.«zip.__next__» ⟨[.ref z],[]⟩) (λfin s'=>∃v,fin=.done (.ret v)/\Q v s') E s:=by
 have i1z:i1≠z:=λe=>C.z1 (e▸C.m1);have i2z:i2≠z:=λe=>C.z2 (e▸C.m2);have qT:TO≠i1:=λe=>C.t1 (e▸C.m1);have yO:TO≠i2:=λe=>C.t2 (e▸C.m2);have i12:i1≠i2:=λe=>C.k1 (e▸C.m2);show W6 _ _ (field (.ref z) 2>>=_) _ _ _;refine W0 (WF hz rfl (x:=.bool false) rfl ?_);show W6 _ _ (field (.ref z) 3>>=_) _ _ _;refine W0 (WF hz rfl (x:=.ref TI) rfl (W0 (QA hI rfl ?_)));show W6 _ _ (WS (.ref z)>>=_) _ _ _;refine W0 ?_;refine Ga hz hv ?_;simp only[if_true];refine W0 (Qn (W0 (WF hz rfl (x:=.ref TO) rfl (W0 (QO hz V' λh1 gj s1=>?_)))));replace gj:fJ h1 z TI TO .ellipsis f:=gj;refine W0 ?_;simp only[List.zipIdx_cons,List.zipIdx_nil,U8,Ug];refine W0 (W0 (wpAny_onRaise ?_));show W6 _ _ (WP (.ref i1)>>=_) _ _ _;have e1:S1 i h1:=D1.frame _ _ _ g1 λc hc o e=>s1.extBut _ _ (λx=>C.z1 (x▸hc)) e;refine W0 (D1.item i _ _ _ l1 e1 λx h2 yH p1 e2 s2=>W2 ?_);have qU:IsPair h2 TO a b:=s2.extBut _ _ qT (s1.extBut _ _ C.tz hO);refine W0 (QA qU rfl (W0 (wpAny_updateSeq_pair qU λh3 u_ s3=>?_)));replace u_:IsPair h3 TO x b:=u_;refine W0 (wpAny_letGo (W2 (W0 (W0 (wpAny_onRaise ?_)))));show W6 _ _ (WP (.ref i2)>>=_) _ _ _;have e3:S2 i h3:=D2.frame _ _ _ g2 λc hc o e=>s3.extBut _ _ (λx=>C.t2 (x▸hc)) (s2.extBut _ _ (λx=>C.k1 (x▸hc)) (s1.extBut _ _ (λx=>C.z2 (x▸hc)) e));refine W0 (D2.item i _ _ _ l2 e3 λy h4 VZ p2 e4 s4=>W2 ?_);have Gb:IsPair h4 TO x b:=s4.extBut _ _ yO u_;refine W0 (QA Gb rfl (W0 (wpAny_updateSeq_pair Gb λh5 va s5=>?_)));replace va:IsPair h5 TO x y:=va;refine W0 (wpAny_letGo (W2 (W2 (W0 (QA va rfl (W0 (wpAny_newTuple ?_)))))));have hsz:h5.objs.size=s.heap.objs.size:=by rw[s5.1,s4.1,s3.1,s2.1,s1.1]
 have Gd:fJ h5 z TI TO .ellipsis f:=s5.extBut _ _ C.tz.symm (s4.extBut _ _ i2z.symm (s3.extBut _ _ C.tz.symm (s2.extBut _ _ i1z.symm gj)));have k5:∀c o,c≠z->c≠TO->c≠i1->c≠i2->s.heap.get? c=some o->h5.get? c=some o:=λc o c1 c2 c3 c4 e=>s5.extBut _ _ c2 (s4.extBut _ _ c4 (s3.extBut _ _ c2 (s2.extBut _ _ c3 (s1.extBut _ _ c1 e))));have r1:S1 (i+1) h5:=D1.frame _ _ _ e2 λc hc o e=>s5.extBut _ _ (λx=>C.t1 (x▸hc)) (s4.extBut _ _ (λx=>C.k2 (x▸hc)) (s3.extBut _ _ (λx=>C.t1 (x▸hc)) e));have r2:S2 (i+1) h5:=D2.frame _ _ _ e4 λc hc o e=>s5.extBut _ _ (λx=>C.t2 (x▸hc)) e;have zl:z<h5.objs.size:=Wj Gd;show W6 _ _ (Builtin.SmallTypes.ownedTupleHandOut (.ref z) (.ref h5.objs.size)>>=_) _ _ _;refine W0 ?_;unfold Builtin.SmallTypes.ownedTupleHandOut;have XB:fJ (h5.push {cls:=.type "tuple",data:=.seq #[x,y]}) z TI TO .ellipsis f:=W5 _ Gd;refine W0 (QO XB V' λh7 yP s7=>?_);replace yP:fJ h7 z TI TO (Q4 h5.objs.size) f:=yP;refine QO yP V' λh8 vb s8=>?_;replace vb:fJ h8 z TI TO (Q4 h5.objs.size) false:=vb;have up:∀c o,c≠z->h5.get? c=some o->h8.get? c=some o:=λc o c1 e=>s8.extBut _ _ c1 (s7.extBut _ _ c1 (W5 _ e));have hT:IsPair h8 h5.objs.size x y:=s8.extBut _ _ (QL zl) (s7.extBut _ _ (QL zl) (We _ rfl));rw[hsz]at vb hT;refine W2 ⟨_,rfl,?_⟩;show Q (.ref h5.objs.size) _;rw[hsz];exact q x y h8 _ p1 p2 vb (up _ _ C.tz va) (D1.frame _ _ _ r1 λc hc o e=>up c o (λx=>C.z1 (x▸hc)) e) (D2.frame _ _ _ r2 λc hc o e=>up c o (λx=>C.z2 (x▸hc)) e) hT λc o c1 c2 c3 c4 e=>up c o c1 (k5 c o c1 c2 c3 c4 e)
theorem XD{TI TO f}(D1:Draws prog w A i1 f1 n1 P1 S1)(D2:Draws prog w A i2 f2 n2 P2 S2)(C:ZA z TI TO i1 i2 f1 f2)(hz:fJ s.heap z TI TO v0 f)(hv:v0=.none\/∃p:Addr,v0=Q4 p/\s.heap.get? p=none)(hI:IsPair s.heap TI (.ref i1) (.ref i2))(hO:IsPair s.heap TO a b)(g1:S1 i s.heap)(g2:S2 i s.heap)(l:i=n1\/i<n1/\i=n2)(q:∀h' tk e,(∀c o,c≠z->c≠TO->c≠i1->c≠i2->s.heap.get? c=some o->h'.get? c=some o)->(∃o,h'.get? e=some o/\o.cls=.type "StopIteration")->E (.ref e) {s with heap:=h',toks:=tk}):W6 4#0 A (Builtin.«zip.__next__» ⟨[.ref z],[]⟩) Q E s:=by
 have i1z:i1≠z:=λe=>C.z1 (e▸C.m1);have i2z:i2≠z:=λe=>C.z2 (e▸C.m2);have qT:TO≠i1:=λe=>C.t1 (e▸C.m1);show W6 _ _ (field (.ref z) 2>>=_) _ _ _;refine W0 (WF hz rfl (x:=.bool false) rfl ?_);show W6 _ _ (field (.ref z) 3>>=_) _ _ _;refine W0 (WF hz rfl (x:=.ref TI) rfl (W0 (QA hI rfl ?_)));show W6 _ _ (WS (.ref z)>>=_) _ _ _;refine W0 ?_;refine Ga hz hv ?_;simp only[if_true];refine W0 (Qn (W0 (WF hz rfl (x:=.ref TO) rfl (W0 (QO hz V' λh1 gj s1=>?_)))));replace gj:fJ h1 z TI TO .ellipsis f:=gj;refine W0 ?_;simp only[List.zipIdx_cons,List.zipIdx_nil,U8,Ug];refine W0 (W0 (wpAny_onRaise ?_));show W6 _ _ (WP (.ref i1)>>=_) _ _ _;have e1:S1 i h1:=D1.frame _ _ _ g1 λc hc o e=>s1.extBut _ _ (λx=>C.z1 (x▸hc)) e;rcases l with l|⟨l,l'⟩
 .subst l;refine W0 (D1.done _ _ _ e1 λh2 e s2⟨oe,he,ce⟩=>?_);have vc:fJ h2 z TI TO .ellipsis f:=s2 _ _ i1z.symm gj;have ez:e≠z:=λx=>by subst x;rw[vc]at he;cases he;simp at ce
  exact QO vc V' λh3 j s3=>q h3 _ e (λc o c1 j c3 j x=>s3.extBut _ _ c1 (s2 _ _ c3 (s1.extBut _ _ c1 x))) ⟨oe,s3.extBut _ _ ez he,ce⟩
 .refine W0 (D1.item i _ _ _ l e1 λx h2 yH p1 e2 s2=>W2 ?_);have qU:IsPair h2 TO a b:=s2.extBut _ _ qT (s1.extBut _ _ C.tz hO);refine W0 (QA qU rfl (W0 (wpAny_updateSeq_pair qU λh3 u_ s3=>?_)));refine W0 (wpAny_letGo (W2 (W0 (W0 (wpAny_onRaise ?_)))));show W6 _ _ (WP (.ref i2)>>=_) _ _ _;have e3:S2 i h3:=D2.frame _ _ _ g2 λc hc o e=>s3.extBut _ _ (λx=>C.t2 (x▸hc)) (s2.extBut _ _ (λx=>C.k1 (x▸hc)) (s1.extBut _ _ (λx=>C.z2 (x▸hc)) e));subst l';refine W0 (D2.done _ _ _ e3 λh4 e s4⟨oe,he,ce⟩=>?_);have qO:fJ h4 z TI TO .ellipsis f:=s4 _ _ i2z.symm (s3.extBut _ _ C.tz.symm (s2.extBut _ _ i1z.symm gj));have ez:e≠z:=λx=>by subst x;rw[qO]at he;cases he;simp at ce
  exact QO qO V' λh5 j s5=>q h5 _ e (λc o c1 c2 c3 c4 x=>s5.extBut _ _ c1 (s4 _ _ c4 (s3.extBut _ _ c2 (s2.extBut _ _ c3 (s1.extBut _ _ c1 x))))) ⟨oe,s5.extBut _ _ ez he,ce⟩
theorem XE{z TI TO:Addr}{a b:Value}{f:Bool}{Q:Option Value->W1->Prop}(D1:Draws prog w A.in1 i1 f1 n1 P1 S1)(D2:Draws prog w A.in1 i2 f2 n2 P2 S2)(C:ZA z TI TO i1 i2 f1 f2)(hz:fJ s.heap z TI TO v0 f)(hv:v0=.none\/∃p:Addr,v0=Q4 p)(hI:IsPair s.heap TI (.ref i1) (.ref i2))(hO:IsPair s.heap TO a b)(g1:S1 i s.heap)(g2:S2 i s.heap)(l1:i<n1)(l2:i<n2)(q:∀x y h' tk(p':Addr)f',P1 i x->P2 i y->fJ h' z TI TO (Q4 p') f'->(∃a b,IsPair h' TO a b)->S1 (i+1) h'->S2 (i+1) h'->IsPair h' s.heap.objs.size x y->(∀c o,c≠z->c≠TO->c≠i1->c≠i2->s.heap.get? c=some o->h'.get? c=some o)->Q (some (.ref s.heap.objs.size)) {s with heap:=h',toks:=tk}):W6 4#0 A (QR (.ref z)) Q E s:=by
 have ty:s.TypeIs (.ref z) "zip":=⟨_,hz,rfl⟩;have qT:TO≠i1:=λe=>C.t1 (e▸C.m1);have yO:TO≠i2:=λe=>C.t2 (e▸C.m2);unfold QR;refine W0 (JY (Qi (name:=Str.ofString "__next__") ty F.slot_zip_next (WY F.slot_zip_next ty F.entry_zip_next ?_ (F.args_zip_next_1 _))));have cs:(v0=.none\/∃p:Addr,v0=Q4 p/\s.heap.get? p=none)\/∃(p:Addr)(oa:Obj),v0=Q4 p/\s.heap.get? p=some oa:=by
  rcases hv with e|⟨p,e⟩;.exact .inl (.inl e)
  .cases hp:s.heap.get? p with|none=>exact .inl (.inr ⟨p,e,hp⟩)|some oa=>exact .inr ⟨p,oa,e,hp⟩
 rcases cs with hf|⟨p,oa,e,hp⟩;.exact XA D1 D2 C hz hf hI hO g1 g2 l1 l2 λx y h' tk b1 b2 b3 b4 b5 b6 b7 b8=>W2 (q x y h' tk _ _ b1 b2 b3 ⟨_,_,b4⟩ b5 b6 b7 b8)
 .subst e;exact VY D1 D2 C hz hp hI g1 g2 l1 l2 λx y h' tk b1 b2 b3 b5 b6 b7 b8 b9=>W2 (q x y h' tk _ _ b1 b2 b3 ⟨_,_,b9 _ _ C.tz qT yO hO⟩ b5 b6 b7 λc o c1 j c3 c4 e=>b9 c o c1 c3 c4 e)
theorem XF{TI TO f}(D1:Draws prog w A.in1 i1 f1 n1 P1 S1)(D2:Draws prog w A.in1 i2 f2 n2 P2 S2)(C:ZA z TI TO i1 i2 f1 f2)(hz:fJ s.heap z TI TO v0 f)(hv:v0=.none\/∃p:Addr,v0=Q4 p)(hI:IsPair s.heap TI (.ref i1) (.ref i2))(hO:IsPair s.heap TO a b)(g1:S1 i s.heap)(g2:S2 i s.heap)(l:i=n1\/i<n1/\i=n2)(q:∀h' tk,(∀c o,c≠z->c≠TO->c≠i1->c≠i2->s.heap.get? c=some o->h'.get? c=some o)->Q none {s with heap:=h',toks:=tk}):W6 4#0 A (QR (.ref z)) Q E s:=by
 have ty:s.TypeIs (.ref z) "zip":=⟨_,hz,rfl⟩;unfold QR;refine W0 (JY (Qi (name:=Str.ofString "__next__") ty F.slot_zip_next (WY F.slot_zip_next ty F.entry_zip_next ?_ (F.args_zip_next_1 _))));have cs:(v0=.none\/∃p:Addr,v0=Q4 p/\s.heap.get? p=none)\/∃(p:Addr)(oa:Obj),v0=Q4 p/\s.heap.get? p=some oa:=by
  rcases hv with e|⟨p,e⟩;.exact .inl (.inl e)
  .cases hp:s.heap.get? p with|none=>exact .inl (.inr ⟨p,e,hp⟩)|some oa=>exact .inr ⟨p,oa,e,hp⟩
 rcases cs with hf|⟨p,oa,e,hp⟩;.refine XD D1 D2 C hz hf hI hO g1 g2 l λh' tk e k⟨o,ho,hc⟩=>?_;exact W0 (wpAny_isInstance (T:="StopIteration") (b:=true) ⟨o,ho,hc⟩ isSubtype_stop (W2 (q _ _ k)))
 .subst e;refine V0 D1 D2 C hz hp hI g1 g2 l λh' tk e k⟨o,ho,hc⟩=>?_;exact W0 (wpAny_isInstance (T:="StopIteration") (b:=true) ⟨o,ho,hc⟩ isSubtype_stop (W2 (q _ _ λc o c1 j c3 c4 x=>k c o c1 c3 c4 x)))
theorem aK.XG(k:Ok c Y Z H)(ext:∀a o,H a=some o->H2 a=some o):aK c Y Z H Y Z H2:=by
 refine⟨⟨λa o h n=>ext a o (k.keep a o h n),λa z=>(k.bd a z).elim λo h=>⟨o,ext a o h⟩,λa z=>(k.d_ a z).elim λo h=>⟨o,ext a o h⟩,k.len,λj d q=>?_,λj d q=>?_,k.inj,k.pinned⟩,λa o h y=>ext a o h,λa h=>.inl h,λa o h=>⟨o,ext a o h⟩⟩;.obtain⟨v,g1,g2⟩:=k.slot j d q;exact⟨v,g1,g2.keep λb w e y=>ext b w e⟩
 .obtain⟨b,g1,g2,g3,g4⟩:=k.own j d q;exact⟨b,g1,g2.keep (λb w e y=>ext b w e) λw e=>ext b w e,g3,g4⟩
inductive Sd where|sq(b:Bool)(a:Addr)|tx(x:Str)(t:Tok)
def Sd.val:Sd->Value|.sq _ a=>.ref a|.tx x t=>.str x t
def Sd.obj:Sd->Obj|.sq b a=>Fu b a|.tx x t=>{cls:=.type (Jt x),data:=.fields #[.str x t,.int 0 0]}
def Sd.there(h:Heap):Sd->Prop|.sq b a=>∃its,kU b h a its|.tx _ _=>True
def Sd.at(h:Heap)(it:Addr)(i:Nat):Sd->Prop|.sq b a=>Ft b h it a i|.tx x t=>h.IsStrIter it (Jt x) x t i
def Sd.fp:Sd->List Addr|.sq _ a=>[a]|.tx _ _=>[]
theorem Sd.live{S:Sd}{h:Heap}(q:S.at h it i):∃o,h.get? it=some o/\∀v,o.data≠.cell v:=by
 cases S with|sq b a=>
 cases b;.obtain⟨o,e,c,d⟩:=(q:h.IsTupleIter it a i);exact⟨o,e,λv z=>by rw[d]at z;cases z⟩
 .obtain⟨o,e,c,d⟩:=(q:h.IsListIter it a i);exact⟨o,e,λv z=>by rw[d]at z;cases z⟩|tx x t=>obtain⟨o,e,c,d⟩:=(q:h.IsStrIter it _ x t i);exact⟨o,e,λv z=>by rw[d]at z;cases z⟩
theorem Sd.e8{S:Sd}{h:Heap}(q:S.at h it i)(k:∀o,h.get? it=some o->h'.get? it=some o):S.at h' it i:=by
 cases S with|sq b a=>
 cases b;.obtain⟨o,e,r⟩:=(q:h.IsTupleIter it a i);exact⟨o,k o e,r⟩
 .obtain⟨o,e,r⟩:=(q:h.IsListIter it a i);exact⟨o,k o e,r⟩|tx x t=>obtain⟨o,e,r⟩:=(q:h.IsStrIter it _ x t i);exact⟨o,k o e,r⟩
theorem Sd.iter{prog:Wm}{w:Wu}{A:Wp}{E:Value->W1->Prop}{S:Sd}{Q:Value->W1->Prop}(h:S.there s.heap)(q:Q (.ref s.heap.objs.size) 9#(s.heap.push S.obj)):W6 4#0 A (pyIter S.val) Q E s:=by cases S with|sq b a=>obtain⟨its,h⟩:=h;exact Vz h q|tx x t=>exact wpAny_pyIter_strU q
theorem Sd.push{S:Sd}{h:Heap}(q:S.there h)(o:Obj):S.there (h.push o):=by cases S with|sq b a=>obtain⟨its,q⟩:=q;exact⟨its,q.push o⟩|tx x t=>trivial
abbrev vd(h:Heap)(a:Obj):Heap:=h.push a
abbrev ve(h:Heap)(a b:Obj):Heap:=(vd h a).push b
abbrev vf(h:Heap)(a b:Obj):Heap:=(ve h a b).push {cls:=.type "tuple",data:=.seq #[.ref h.objs.size,.ref (vd h a).objs.size]}
abbrev vg(h:Heap)(a b:Obj):Heap:=(vf h a b).push {cls:=.type "tuple",data:=.seq #[.none,.none]}
abbrev oN(h:Heap)(a b:Obj):Heap:=(vg h a b).push {cls:=.type "zip",data:=.fields #[.none,.bool false,.bool false,.ref (ve h a b).objs.size,.ref (vf h a b).objs.size]}
theorem XH(S T:Sd):Meets (Builtin.«zip.__new__» ⟨[.type "zip",S.val,T.val],[]⟩) λj R s=>S.there s.heap/\T.there s.heap/\R (.ok (.ret (.ref (vg s.heap S.obj T.obj).objs.size))) 9#(oN s.heap S.obj T.obj):=.of_wp λprog w A R s h=>by obtain⟨hp,g,d,tk,os⟩:=s;obtain⟨h1,h2,h⟩:=h;have qa7:=sub_zip;have p1:∀{A:Wp}{E:Value->W1->Prop}{s:W1}{Q:Value->W1->Prop},S.there s.heap->Q (.ref s.heap.objs.size) 9#(s.heap.push S.obj)->W6 4#0 A (pyIter S.val) Q E s:=λq h=>Sd.iter q h;have p2:∀{A:Wp}{E:Value->W1->Prop}{s:W1}{Q:Value->W1->Prop},T.there s.heap->Q (.ref s.heap.objs.size) 9#(s.heap.push T.obj)->W6 4#0 A (pyIter T.val) Q E s:=λq h=>Sd.iter q h;have h1:S.there (Shared.heap ⟨hp,g,d,tk,os⟩):=h1;have h2:T.there (Shared.heap ⟨hp.push S.obj,g,d,tk,os⟩):=Sd.push h2 _;generalize S.val=u1 at*;generalize T.val=u2 at*;generalize S.obj=o1 at*;generalize T.obj=o2 at*;wp_walk using p1 h1,p2 h2;exact⟨_,rfl,h⟩
def oO(S T:Sd)(n i:Nat)(h:Heap):Prop:=(∃v0 f,fJ h (n+4) (n+2) (n+3) v0 f/\(v0=.none\/∃p:Addr,v0=Q4 p))/\IsPair h (n+2) (.ref n) (.ref (n+1))/\(∃a b,IsPair h (n+3) a b)/\S.at h n i/\T.at h (n+1) i
abbrev eU(n:Nat):List Addr:=[n+4,n+2,n+3,n,n+1]
theorem Ge{S}(h1:S.there s.heap)(h2:T.there s.heap)(h:∀h',oO S T s.heap.objs.size 0 h'->IsZip h' (s.heap.objs.size+4) (s.heap.objs.size+2) (s.heap.objs.size+3) .none->(∀c o,s.heap.get? c=some o->h'.get? c=some o)->Q (.ref (s.heap.objs.size+4)) 9#h'):W6 4#0 A (call (.type "zip") [S.val,T.val]) Q E s:=by
 refine callType_new F.called_zip Z' (F.typeCall_zip_2 _ _) (F.newCall_zip_2 _ _) (λobj=>F.args_object_init_3 obj _ _) F.entry_zip_new (XH S T) ⟨h1,h2,?_⟩;have z1:(vd s.heap S.obj).objs.size=s.heap.objs.size+1:=Je ..;have z2:(ve s.heap S.obj T.obj).objs.size=s.heap.objs.size+2:=by rw[Je,z1]
 have z3:(vf s.heap S.obj T.obj).objs.size=s.heap.objs.size+3:=by rw[Je,z2]
 have z4:(vg s.heap S.obj T.obj).objs.size=s.heap.objs.size+4:=by rw[Je,z3]
 have up:∀{h:Heap}{o:Obj}{c:Addr}{o':Obj},h.get? c=some o'->(h.push o).get? c=some o':=λe=>W5 _ e;have g5:(oN s.heap S.obj T.obj).get? (vg s.heap S.obj T.obj).objs.size=some _:=We _ rfl;have g4:(oN s.heap S.obj T.obj).get? (vf s.heap S.obj T.obj).objs.size=some _:=up (We _ rfl);have g3:(oN s.heap S.obj T.obj).get? (ve s.heap S.obj T.obj).objs.size=some _:=up (up (We _ rfl));have g2:(oN s.heap S.obj T.obj).get? (vd s.heap S.obj).objs.size=some T.obj:=up (up (up (We _ (by cases T with|sq b a=>cases b<;>rfl|tx x t=>rfl))));have g1:(oN s.heap S.obj T.obj).get? s.heap.objs.size=some S.obj:=up (up (up (up (We _ (by cases S with|sq b a=>cases b<;>rfl|tx x t=>rfl)))));have mk:∀{U:Sd}{h:Heap}{it:Addr},h.get? it=some U.obj->U.at h it 0:=λ{U h it}e=>by cases U with|sq b a=>cases b<;>exact⟨_,e,rfl,rfl⟩|tx x t=>exact⟨_,e,rfl,rfl⟩
 show _/\_;rw[z2,z3,z4]at g5;rw[z1,z2]at g3;rw[z3]at g4;rw[z1]at g2;rw[z4];exact⟨⟨_,g5,rfl⟩,h _ ⟨⟨_,_,g5,.inl rfl⟩,g3,⟨_,_,g4⟩,mk g1,mk g2⟩ g5 λc o x=>up (up (up (up (up x))))⟩
theorem XI{TI TO f}(hz:fJ s.heap z TI TO v0 f)(hv:v0=.none\/∃p:Addr,v0=Q4 p)(hQ:∀h' vh,fJ h' z TI TO vh f->(vh=.none\/∃p:Addr,vh=Q4 p)->Jh z s.heap h'->Q () 9#h'):W6 4#0 A (JH tg (.ref z) (.ref T)) Q E s:=by
 have no:Q () s:=hQ s.heap v0 hz hv ⟨rfl,λj j=>rfl⟩;have yes:W6 4#0 A (do let o<-load z match o.cls,o.data with|.type n,.fields vs=>if["enumerate","zip","dict_itemiterator","dict_reverseitemiterator","odict_iterator","itertools.zip_longest","itertools.pairwise"].contains n&&vs[0]?==some (Q4 T)then rule "for.unpacks-the-owned-tuple"updateField z 0 .none|_,_=>pure ()) Q E s:=by
  refine W0 (wpAny_load hz ?_);dsimp only;split;.refine W0 (Qn ?_);show W6 _ _ (setField (.ref z) 0 .none) Q E s;exact QO hz V' λh' kf iq=>hQ h' _ kf (.inl rfl) iq
  .exact W2 no
 unfold JH;cases tg<;>first|exact yes|exact W2 no
def mh(K:W3)(H:Hp)(xs:List V):Sd->Prop|.sq b a=>nr b K H a xs|.tx x _=>xs=x.cps.toList.map λc=>.str ⟨#[c]⟩
section
variable{S T:Sd}{xs ys:List V}
theorem Inv.side(I:6#0)(hA:A.handled=none)(hv:mh X.K H xs S)(bN:it∉S.fp):∃St:Nat->Heap->Prop,Draws X.prog X.w A.in1 it (it::S.fp) xs.length (λi v=>∃x,xs[i]?=some x/\RelV x v) St/\(∀i h,St i h->S.at h it i)/\∀i,S.at s.heap it i->St i s.heap:=by cases S with|sq b a=>obtain⟨is,rv,p⟩:=I.Fv hv;have D:=VA (prog:=X.prog) (w:=X.w) (A:=A.in1) b (show A.in1.handled=none from hA) it a (λz=>bN #v[Sd.fp,z]) is.toArray;have hl:is.toArray.size=xs.length:= ~~~rv.length.symm;rw[hl]at D;refine⟨_,⟨D.live,D.frame,λi s Q E hi st hQ=>D.item i s Q E hi st λx h' tk e=>hQ x h' tk ?_,D.done⟩,λi h q=>q.1,λi q=>⟨q,p⟩⟩;obtain⟨u,hu,ru⟩:=rv.get (x:=xs[i]) (show xs[i]?=some xs[i]by simp[hi]);have e:is[i]?=some x:= ~~~e;rw[hu]at e;cases e;exact⟨xs[i],#v[hi],ru⟩|tx x t=>
  obtain rfl:xs=_:=hv;have hT:Jt x="str_ascii_iterator"\/Jt x="str_iterator":=by
   unfold Jt;split;.exact .inl rfl
   .exact .inr rfl
  have D:Draws X.prog X.w A.in1 it [it] x.cps.size (λi v=>∃c u,x.cps[i]?=some c/\v=.str ⟨#[c]⟩ u) λi h=>h.IsStrIter it (Jt x) x t i:=by
   rcases hT with e|e;.rw[e];exact Draws.strAscii (show A.in1.handled=none from hA) it x t
   .rw[e];exact Draws.strWide (show A.in1.handled=none from hA) it x t
  rw[show x.cps.size=(x.cps.toList.map λc=>V.str ⟨#[c]⟩).length by simp]at D;refine⟨_,⟨D.live,D.frame,λi s Q E hi st hQ=>D.item i s Q E hi st λy h' tk⟨c,u,e1,e2⟩=>hQ y h' tk ⟨.str ⟨#[c]⟩,#v[e1],u,e2⟩,D.done⟩,λi h q=>q,λi q=>q⟩
theorem qV(h:b∈eU n):b=n+4\/b=n+2\/b=n+3\/b=n\/b=n+1:= ~~~h
theorem gZ(n:Nat)(h:i≠j):(n+i:Addr)≠n+j:=λe=>h (Nat.add_left_cancel e)
theorem Gf(h1:∀a∈S.fp,a<n)(h2:∀a∈T.fp,a<n):ZA (n+4) (n+2) (n+3) n (n+1) (n::S.fp) ((n+1)::T.fp):=by
 have k:∀{l:List Addr}{j i:Nat},(∀a∈l,a<n)->j≠i->(n+j:Addr)∉(n+i)::l:=λ{l j i}h e z=>by
  rcases Wq.mp z with z|z;.exact gZ n e z
  .exact absurd (h _ z) (Nat.not_lt.mpr (QP n j))
 exact⟨Wi,Wi,k (i:=0) h1 Z',k h2 Z',k (i:=0) h1 Z',k h2 Z',k (j:=0) h2 Z',k (i:=0) h1 Z',gZ n Z',gZ n Z',gZ n Z',gZ n (j:=0) Z',gZ n Z'⟩
theorem Gg(I:6#0)(hA:A.handled=none)(h1:∀a∈S.fp,a<n)(h2:∀a∈T.fp,a<n)(v1:mh X.K H xs S)(v2:mh X.K H ys T)(st:oO S T n i s.heap)(hx:xs[i]?=some x)(hy:ys[i]?=some y)(q:∀u v h' tk,RelV x u->RelV y v->oO S T n (i+1) h'->IsPair h' s.heap.objs.size u v->(∀c o,c∉eU n->s.heap.get? c=some o->h'.get? c=some o)->Q (some (.ref s.heap.objs.size)) {s with heap:=h',toks:=tk}):W6 5#0 A (QR (.ref (n+4))) Q E s:=by obtain⟨⟨v0,f,hz,hv⟩,hI,⟨a,b,hO⟩,q1,q2⟩:=st;obtain⟨St1,D1,a1,b1⟩:=I.side (it:=n) hA v1 λz=>absurd (h1 _ z) (QE _);obtain⟨St2,D2,a2,b2⟩:=I.side (it:=n+1) hA v2 λz=>absurd (h2 _ z) (Nat.not_lt.mpr (QP n 1));have l1:=(W8.mp hx).1;have l2:=(W8.mp hy).1;refine XE D1 D2 (Gf h1 h2) hz hv hI hO (b1 i q1) (b2 i q2) l1 l2 λu v h' tk p' f' e1 e2 kf XJ s1 s2 hT k=>?_;obtain⟨x',g1,r1⟩:=e1;obtain⟨y',g2,r2⟩:=e2;rw[hx]at g1;cases g1;rw[hy]at g2;cases g2;have k2:∀c o,c∉eU n->s.heap.get? c=some o->h'.get? c=some o:=λc o hc e=>k c o (λz=>hc #v[z]) (λz=>hc #v[z]) (λz=>hc #v[z]) (λz=>hc #v[z]) e;exact q u v h' tk r1 r2 ⟨⟨_,_,kf,.inr ⟨p',rfl⟩⟩,k _ _ (gZ n Z') (gZ n Z') (gZ n (j:=0) Z') (gZ n Z') hI,XJ,a1 _ _ s1,a2 _ _ s2⟩ hT k2
theorem Gh(I:6#0)(hA:A.handled=none)(h1:∀a∈S.fp,a<n)(h2:∀a∈T.fp,a<n)(v1:mh X.K H xs S)(v2:mh X.K H ys T)(st:oO S T n i s.heap)(hl:i=xs.length\/i<xs.length/\i=ys.length)(q:∀h' tk,(∀c o,c∉eU n->s.heap.get? c=some o->h'.get? c=some o)->Q none {s with heap:=h',toks:=tk}):W6 5#0 A (QR (.ref (n+4))) Q E s:=by obtain⟨⟨v0,f,hz,hv⟩,hI,⟨a,b,hO⟩,q1,q2⟩:=st;obtain⟨St1,D1,a1,b1⟩:=I.side (it:=n) hA v1 λz=>absurd (h1 _ z) (QE _);obtain⟨St2,D2,a2,b2⟩:=I.side (it:=n+1) hA v2 λz=>absurd (h2 _ z) (Nat.not_lt.mpr (QP n 1));exact XF D1 D2 (Gf h1 h2) hz hv hI hO (b1 i q1) (b2 i q2) hl λh' tk k=>q h' tk λc o hc e=>k c o (λz=>hc #v[z]) (λz=>hc #v[z]) (λz=>hc #v[z]) (λz=>hc #v[z]) e
end
def fv(K:W3)(H:Hp)(xs:List V)(b:Bool):V->Prop|.ref a=>nr b K H a xs|.str x=>xs=x.cps.toList.map λc=>.str ⟨#[c]⟩|_=>False
def jc(b:Bool):V->Tok->Sd|.ref a,_=>.sq b a|.str x,t=>.tx x t|_,t=>.tx ⟨#[]⟩ t
section
variable{b:Bool}{xs ys:List V}{t:Tok}
theorem fv.sd(h:fv K H xs b v):mh K H xs (jc b v t):=by cases v<;>first|exact h|exact h.elim
theorem Inv.vi(I:6#0)(h:fv X.K H xs b v)(r:RelV v u):∃t,(jc b v t).val=u/\(jc b v t).there s.heap/\∀a∈(jc b v t).fp,a<s.heap.objs.size:=by
 cases v with|ref a=>obtain⟨its,_,p⟩:=I.Fv h;cases r;exact⟨0,rfl,⟨_,p⟩,λc hc=>by
 have:c=a:=by simpa[jc,Sd.fp]using hc
 subst this;exact p.lt⟩|str x=>obtain⟨t,rfl⟩:=r;exact⟨t,rfl,trivial,λc hc=>by simp[jc,Sd.fp]at hc⟩|_=>exact h.elim
theorem Inv.Gi(I:6#0)(h:fv X.K H xs b v)(h':fv X.K H ys b v):xs=ys:=by cases v with|ref a=>exact I.VC h h'|str x=>exact h.trans h'.symm|_=>exact h.elim
end
def Gj(K:W3)(b1 b2:Bool)(v w:V):It:=⟨λi H=>∃xs ys x y,fv K H xs b1 v/\fv K H ys b2 w/\xs[i]?=some x/\ys[i]?=some y,λi H z H'=>∃p x y,H p=none/\(∀xs,fv K H xs b1 v->xs[i]?=some x)/\(∀ys,fv K H ys b2 w->ys[i]?=some y)/\H'=upd H p (.tup [x,y])/\z=.ref p,λi H=>∃xs ys,fv K H xs b1 v/\fv K H ys b2 w/\(i=xs.length\/i<xs.length/\i=ys.length)⟩
theorem XM(b1 b2:Bool)(x y:V)(t u:Tok)(n:Nat)(h1:∀a∈(jc b1 x t).fp,a<n)(h2:∀a∈(jc b2 y u).fp,a<n):Turn P w K tg (Gj K b1 b2 x y) (eU n) (n+4) (oO (jc b1 x t) (jc b2 y u) n):=by
 refine⟨V',?_,?_,?_,?_,?_⟩
 .rintro i h⟨⟨v0,f,hz,_⟩,hI,⟨a,b,hO⟩,q1,q2⟩c hc;rcases qV hc with e|e|e|e|e<;>subst e;.exact⟨_,hz,λv z=>by have z':Data.fields _=Data.cell v:=z;cases z'⟩
  .exact⟨_,hI,λv z=>by have z':Data.seq _ _=Data.cell v:=z;cases z'⟩
  .exact⟨_,hO,λv z=>by have z':Data.seq _ _=Data.cell v:=z;cases z'⟩
  .exact Sd.live q1
  .exact Sd.live q2
 .rintro i h h'⟨⟨v0,f,hz,hv⟩,hI,⟨a,b,hO⟩,q1,q2⟩k;exact⟨⟨v0,f,k _ V' _ hz,hv⟩,k _ V' _ hI,⟨a,b,k _ V' _ hO⟩,Sd.e8 q1 λo e=>k _ V' o e,Sd.e8 q2 λo e=>k _ V' o e⟩
 .intro X hP hw hK hc i pins s Y H E I hf st hg;subst hP hw hK;obtain⟨xs,ys,x',y',c1,c2,hx,hy⟩:=hg;have bh:∀c∈eU n,c<s.heap.objs.size:=λc hc=>by
   obtain⟨⟨v0,f,hz,hv⟩,_⟩:=st;have z:=Wj hz;have le:∀k:Nat,k<=4->n+k<s.heap.objs.size:=λk hk=>QN (U1 hk n) z;rcases qV hc with e|e|e|e|e<;>subst e;.exact z
   .exact le 2 Z'
   .exact le 3 Z'
   .exact le 0 Z'
   .exact le 1 Z'
  refine Gg I (I.ok.hd hc) h1 h2 c1.sd c2.sd st hx hy λu v h' tk ru rv hh hT k=>?_;obtain⟨⟨v0,f,hz,hv⟩,hI,⟨a,b,hO⟩,q1,q2⟩:=hh;refine⟨_,rfl,XI hz hv λh2 vh vc XN sb=>?_⟩;have nz:s.heap.objs.size≠n+4:=QL (bh (n+4) V');have k2:∀c o,c∉eU n->s.heap.get? c=some o->h2.get? c=some o:=λc o hc e=>(sb.2 c λz=>hc #v[z]).trans (k c o hc e);have I2:Inv X pins Y (upd H s.heap.objs.size (.tup [x',y'])) {s with heap:=h2,toks:=tk}:=Inv.VB (t':=tk) _ I hf bh ru rv ((sb.2 _ nz).trans hT) k2;refine⟨.ref s.heap.objs.size,_,I2,rfl,⟨s.heap.objs.size,x',y',I.aB.fresh (W7 _),λzs yQ=>%[I.Gi yQ c1|hx],λzs yQ=>%[I.Gi yQ c2|hy],rfl,rfl⟩,⟨⟨_,_,vc,XN⟩,(sb.2 _ (gZ n Z')).trans hI,⟨_,_,(sb.2 _ (gZ n Z')).trans hO⟩,Sd.e8 q1 λo e=>(sb.2 _ (gZ n (i:=0) Z')).trans e,Sd.e8 q2 λo e=>(sb.2 _ (gZ n Z')).trans e⟩,λc hc=>?_⟩;rw[aY (WQ (bh c hc))];exact(hf c hc).1
 .intro X hP hw hK hc i pins s Y H E I hf st hg;subst hP hw hK;obtain⟨xs,ys,c1,c2,hl⟩:=hg;exact Gh I (I.ok.hd hc) h1 h2 c1.sd c2.sd st hl λh' tk k=>⟨rfl,Inv.uN (t':=tk) (eU n) I k hf⟩
 .intro A i s Q E st h;obtain⟨v0,f,hz,_⟩:=st.1;have hT:s.TypeIs (.ref (n+4)) "zip":=⟨_,hz,rfl⟩;refine wpAny_pyIter_slot hT F.slot_zip_iter (WY F.slot_zip_iter hT F.entry_zip_iter ?_ (F.args_zip_iter_1 _));show W6 _ _ (ret (.ref (n+4))) _ _ s;exact W2 ⟨_,rfl,"zip",_,hT,F.slot_zip_next.lookup,h⟩
theorem yR(I:6#0)(b:Addr)(hb:b∈eU s.heap.objs.size):s.heap.objs.size<=b:=by rcases qV hb with z|z|z|z|z<;>subst z<;>first|exact W7 _|exact QP _ _
section
variable{c:Fc}{a b:Expr}{f g:DE}
def XO(K:W3)(ta:TA):TI:=λY H R=>ta Y H λvs H1=>∃(b1 b2:Bool)(v w:V),vs=[v,w]/\(∃xs,fv K H1 xs b1 v)/\(∃ys,fv K H1 ys b2 w)/\R (Gj K b1 b2 v w) H1
theorem XQ{ta:TA}(hg:Gl X "zip")(hm:X.mg "zip"=none)(ha:PA X [a,b] ta)(hs:Wa [a,b] X.env=(false,eval a X.env)::Wa [b] X.env:=by rfl)(bZ:(Qy pos (Wa [b] X.env)).any (·.1)=false:=by rfl):PI X tg (.Call (.Name "zip" pp) [a,b] [] pos) (XO X.K ta):=by intros R I h;refine Call_ (mL I hg hm boot_zip (QT (aZ (ha pos pins s Y H _ I h) λus s1 hh=>?_) hs bZ));obtain⟨vs,H1,I1,r1,q1⟩:=hh;obtain⟨b1,b2,v,w,rfl,⟨xs,hx⟩,⟨ys,hy⟩,q⟩:=q1;cases r1 with|cons r rr=>cases rr with|cons r' rr=>cases rr;obtain⟨t,rfl,p1,l1⟩:=I1.vi hx r;obtain⟨u,rfl,p2,l2⟩:=I1.vi hy r';refine Ge p1 p2 λh' st hz kp=>wpAny_pyIter_zip hz ?_;exact⟨s1.heap.objs.size+4,_,_,_,H1,rfl,I1.kept (t':=s1.toks) kp,XM b1 b2 v w t u s1.heap.objs.size l1 l2,st,λb hb=>I1.jo (yR I1 b hb) (I1.aB.fresh (yR I1 b hb)),q⟩
noncomputable def kY:D->Option (List D)|.lst ds=>some ds|.tup ds=>some ds|.str x=>some (x.map λn=>.str [n])|_=>none
def jF(f g:DE):DI:=λZ=>(f Z).bind λx S'=>(g S').bind λy SL=>match kY x.d,kY y.d with|some xs,some ys=>.ok (kW xs ys) SL|_,_=>.stuck
universe H in theorem Rep.sd{d:D}(r:Rep H O v d)(e:kY d=some ds):∃(b:Bool)(vs:List V),fv K H vs b v/\aH H O vs ds/\∀H2,(∀p o,H p=some o->¬O p->H2 p=some o)->fv K H2 vs b v:=by
 have sq:∀{ds},qL d=some ds->∃(b:Bool)(vs:List V),fv K H vs b v/\aH H O vs ds/\∀H2,(∀p o,H p=some o->¬O p->H2 p=some o)->fv K H2 vs b v:=λe=>by obtain⟨b,a,vs,rfl,h1,h2,h3⟩:=r.sq (K:=K) e;exact⟨b,vs,h1,h2,h3⟩
 cases d<;>first|(simp[kY]at e;done)|exact sq e|skip
 rename_i x;cases r;cases e;refine⟨true,_,rfl,⟨#v[toS],λi v d e1 e2=>?_⟩,λ_ _=>rfl⟩;rw[Ws]at e1 e2;cases z:x[i]? with|none=>rw[z]at e2;cases e2|some n=>rw[z]at e2;cases e2;simp only[toS,z,WM]at e1;cases e1;exact .str [n]
universe H in theorem XR(hg:Gl X "zip")(hm:X.mg "zip"=none)(ha:SE X c a f)(hb:SE X c b g)(hs:Wa [a,b] X.env=(false,eval a X.env)::Wa [b] X.env:=by rfl)(qj:Wa [b] X.env=(false,eval b X.env)::Wa [] X.env:=by rfl)(bZ:(Qy pos (Wa [b] X.env)).any (·.1)=false:=by rfl):SI X c tg (.Call (.Name "zip" pp) [a,b] [] pos) (jF f g):=PI.weak (XQ hg hm (dU ha (dU hb f_ qj) hs) hs bZ) λY H R⟨Z,k,q⟩=>by
  unfold jF at q;rw[bx]at q;refine⟨Z,k,aT q λx S' q1 v H1 a1 r1=>⟨S',a1.ok,?_⟩⟩;rw[bx]at q1;refine aT q1 λy SL q2 u H2 a2 r2=>?_;have hx:Rep H2 (Av c Y SL) v x.d:=Rep.dG r1.rep a2;have hy:Rep H2 (Av c Y SL) u y.d:=r2.rep;split at q2
  .rename_i xs ys e1 e2;obtain⟨b1,vs,s1,w1,k1⟩:=hx.sd (K:=X.K) e1;obtain⟨b2,us,s2,w2,k2⟩:=hy.sd (K:=X.K) e2;refine⟨b1,b2,v,u,rfl,⟨vs,s1⟩,⟨us,s2⟩,q2 _ H2 (a1.trans a2) λH3 kp=>?_⟩;have t1:=k1 H3 λp o e n=>kp p o e λz=>n (.inr z);have t2:=k2 H3 λp o e n=>kp p o e λz=>n (.inr z);refine⟨⟨vs,us,t1,t2,?_⟩,λi d e=>?_⟩;.rw[w1.1,w2.1];simp only[kW,List.length_zipWith];lia
   .obtain⟨x,y,ex,ey,rfl⟩:=Fw e;obtain⟨v,ev,rv⟩:=w1.get ex;obtain⟨u,eu,ru⟩:=w2.get ey;refine⟨⟨vs,us,v,u,t1,t2,ev,eu⟩,λz H4 hh=>?_⟩;obtain⟨p,v',u',hp,hv,hu,e3,ez⟩:=hh;refine .inr ⟨p,_,_,hp,e3,ez,rfl,?_⟩;have h1:=hv vs t1;have h2:=hu us t2;rw[ev]at h1;rw[eu]at h2;cases h1;cases h2;exact aH.two rv ru
  .exact q2.elim
end
def yS(H H':Hp)(xs ys:List V)(as:List Addr):Prop:=(∀b o,H b=some o->H' b=some o)/\∀(i:Nat)a,as[i]?=some a->H a=none/\∃x y,xs[i]?=some x/\ys[i]?=some y/\H' a=some (.tup [x,y])
section
variable{S T:Sd}{xs ys:List V}{m n0:Nat}
theorem XS(hA:A.handled=none)(h1:∀a∈S.fp,a<n)(h2:∀a∈T.fp,a<n)(XT:L∉eU n)(hz:m<=W9)(v1:∀H',(∀b o,H b=some o->H' b=some o)->mh X.K H' xs S)(v2:∀H',(∀b o,H b=some o->H' b=some o)->mh X.K H' ys T)(hx:∀i<m,∃x y,xs[i]?=some x/\ys[i]?=some y)(hl:m=xs.length\/m<xs.length/\m=ys.length)(fr:∀b,n0<=b->H b=none)(fo:∀(H':Hp)b,n0<=b->H' b=none->eQ X pins H' b)(hn:∀b∈eU n,n0<=b)(hL:n0<=L)(hR:∀H' as s',yS H H' xs ys as->as.length=m->H' L=none->Inv X pins Y (upd H' L (.lst (as.map V.ref))) s'->R (.ok (.ret .none)) s'):∀(k i:Nat)(as:List Addr)(H':Hp)(s:W1),m-i=k->i<=m->as.length=i->yS H H' xs ys as->H' L=none->(∀b∈eU n,H' b=none)->Inv X pins Y (upd H' L (.lst (as.map V.ref))) s->oO S T n i s.heap->Jd 5#0 A (.builtin "list.extend.loop" ⟨[.ref L,.ref (n+4),.none],[]⟩) R s:=by
 have ne:∀b∈eU n,b≠L:=λb hb z=>XT (by rw[<-z];exact hb);intro k;induction k with|zero=>
 intro i as H' s hk hi el P hL' hf I st;have up:=P.1;have qW:∀b o,H b=some o->upd H' L (.lst (as.map V.ref)) b=some o:=λb o e=>%[aY (dZ e (fr L hL))|up b o e];have e:i=m:=by lia
 subst e;refine U9 F.entry_extend_loop ?_;rw[Around.under_plainId U2 _];show W6 _ A.in1 (QR (.ref (n+4))>>=_) _ _ _;refine W0 (Gh (A:=A.in1) I hA h1 h2 (v1 _ qW) (v2 _ qW) st hl λh' tk k2=>W2 (hR H' as _ P el hL' (Inv.uN (t':=tk) (eU n) I k2 λb hb=>fo _ b (hn b hb) %[aY (ne b hb)|hf b hb])))|succ k ih=>
  intro i as H' s hk hi el P hL' hf I st;have up:=P.1;have qW:∀b o,H b=some o->upd H' L (.lst (as.map V.ref)) b=some o:=λb o e=>%[aY (dZ e (fr L hL))|up b o e];obtain⟨x,y,ex,ey⟩:=hx i Y';refine U9 F.entry_extend_loop ?_;rw[Around.under_plainId U2 _];show W6 _ A.in1 (QR (.ref (n+4))>>=_) _ _ _;refine W0 (Gg (A:=A.in1) I hA h1 h2 (v1 _ qW) (v2 _ qW) st ex ey λu v h' tk r1 r2 ax hT k2=>?_);have XU:∃o,s.heap.get? L=some o:=let⟨_,_,_,e,_⟩:=I.lst cJ;⟨_,e⟩;have lL:L<s.heap.objs.size:=Wj XU.choose_spec;have zl:∀b∈eU n,b≠s.heap.objs.size:=λb hb=>by
   have h4:n+4<s.heap.objs.size:=by obtain⟨⟨v0,f,kf,_⟩,_⟩:=st;exact Wj kf
   have le:∀j:Nat,j<=4->n+j<s.heap.objs.size:=λj hj=>QN (U1 hj n) h4;rcases qV hb with e|e|e|e|e<;>subst e<;>first|exact WQ h4|exact WQ (le 2 Z')|exact WQ (le 3 Z')|exact WQ (le 0 Z')|exact WQ (le 1 Z')
  have I1:=Inv.uN (t':=tk) (eU n) I k2 λb hb=>fo _ b (hn b hb) %[aY (ne b hb)|hf b hb];have yT:upd H' L (.lst (as.map V.ref)) s.heap.objs.size=none:=I.aB.fresh (W7 _);generalize s.heap.objs.size=a at*;have aL:a≠L:=QL lL;have Gk:n0<=a:=QV (QN hL lL);have ha:H' a=none:=by rw[aY aL]at yT;exact yT
  have I2:=I1.adopt (b:=a) (o:=.tup [x,y]) (fo _ a Gk yT) ⟨by simp only[WV,U7];rw[Qb];decide,[u,v],.cons r1 (.cons r2 .nil),⟨0,hT⟩⟩;have ec:upd (upd H' L (.lst (as.map V.ref))) a (.tup [x,y])=upd (upd H' a (.tup [x,y])) L (.lst (as.map V.ref)):=by
   funext b;by_cases e1:b=a;.subst e1;rw[cJ,aY aL,cJ]
   .by_cases e2:b=L;.subst e2;rw[aY e1,cJ,cJ]
    .rw[aY e1,aY e2,aY e2,aY e1]
  rw[ec]at I2;obtain⟨its,nn,r,ho,_⟩:=I2.lst cJ;have hlen:its.length=i:=by rw[<-r.length,Wd,el]
  have I3:=I2.pZ (t':=tk) (f:=(·.push (Value.ref a))) (its':=its++[.ref a]) cJ ho V' (Vals.append r (show Vals [V.ref a] [Value.ref a]from .cons rfl .nil)) (by simp[el];lia);rw[nY,show as.map V.ref++[V.ref a]=(as++[a]).map V.ref by simp]at I3;have Gm:∀b o,H' b=some o->upd H' a (.tup [x,y]) b=some o:=λb o e=>%[aY (dZ e ha)|e];refine W0 (wpAny_updateSeq ho rfl ?_ (by simp[hlen];lia) (by simp[hlen];lia));refine W2 ⟨JG U2 _,ih (i+1) (as++[a]) (upd H' a (.tup [x,y])) _ Y' Y' #v[el] ⟨λb o e=>Gm b o (up b o e),λj c e=>?_⟩ %[aY aL.symm|hL'] (λb hb=>by rw[aY (zl b hb)];exact hf b hb) I3 ?_⟩
  .rw[List.getElem?_append]at e;split at e;.obtain⟨g1,x',y',g2,g3,g4⟩:=P.2 j c e;exact⟨g1,x',y',g2,g3,Gm _ _ g4⟩
   .have ej:j=i:=by have:=(W8.mp e).1;simp at this;lia
    subst ej;rw[el,Nat.sub_self]at e;cases e;exact⟨fr a Gk,x,y,ex,ey,cJ⟩
  .obtain⟨⟨v0,f,kf,hv⟩,hI,⟨a',b',hO⟩,q1,q2⟩:=ax;have kk:∀b∈eU n,∀o,h'.get? b=some o->(h'.update L (Obj.mapSeq (·.push (Value.ref a)))).get? b=some o:=λb hb o eo=>(Q5 _ _ (Ne.symm (ne b hb))).trans eo;exact⟨⟨v0,f,kk _ V' _ kf,hv⟩,kk _ V' _ hI,⟨a',b',kk _ V' _ hO⟩,Sd.e8 q1 λo e=>kk _ V' o e,Sd.e8 q2 λo e=>kk _ V' o e⟩
end
section
variable{a b:Expr}
theorem XW{ta:TA}(hc:X.calm=true)(yU:Gl X "list")(yV:X.mg "list"=none)(hg:Gl X "zip")(hm:X.mg "zip"=none)(ha:PA X [a,b] ta)(hs:Wa [a,b] X.env=(false,eval a X.env)::Wa [b] X.env:=by rfl)(bZ:(Qy pos (Wa [b] X.env)).any (·.1)=false:=by rfl)(vj:Wa [.Call (.Name "zip" pp) [a,b] [] pos] X.env=(false,eval (.Call (.Name "zip" pp) [a,b] [] pos) X.env)::Wa [] X.env:=by rfl):PE X (.Call (.Name "list" qP) [.Call (.Name "zip" pp) [a,b] [] pos] [] qQ) λY H Q=>ta Y H λvs H1=>∃(b1 b2:Bool)(v w:V)(xs ys:List V)(m:Nat),vs=[v,w]/\(∀H',(∀b o,H1 b=some o->H' b=some o)->fv X.K H' xs b1 v)/\(∀H',(∀b o,H1 b=some o->H' b=some o)->fv X.K H' ys b2 w)/\m<=W9/\(∀i<m,∃x y,xs[i]?=some x/\ys[i]?=some y)/\(m=xs.length\/m<xs.length/\m=ys.length)/\∀H2 l as,yS H1 H2 xs ys as->as.length=m->H1 l=none->H2 l=none->Q (.ref l) (upd H2 l (.lst (as.map V.ref))):=by intro pins s0 Y H0 Q I0 h;refine Call_ (mL I0 yU yV PyProof.Rows.boot_list (QT ?_ vj rfl));rw[vj];refine Calls.spliced_cons (Call_ (mL I0 hg hm boot_zip (QT (aZ (ha pos pins s0 Y H0 _ I0 h) λus s1 hh=>?_) hs bZ)));obtain⟨vs,H,I1,r1,q1⟩:=hh;obtain⟨b1,b2,v,w,xs,ys,m,rfl,hx,hy,hz,hk,hl,q⟩:=q1;cases r1 with|cons r rr=>cases rr with|cons r' rr=>
   cases rr;obtain⟨t,rfl,p1,l1⟩:=I1.vi (hx H λk k e=>e) r;obtain⟨u,rfl,p2,l2⟩:=I1.vi (hy H λk k e=>e) r';refine Ge p1 p2 λh' st Gn kp=>Calls.spliced_nil ?_;have I:Inv X pins Y H {s1 with heap:=h'}:=I1.kept (t':=s1.toks) kp;generalize hn:s1.heap.objs.size=n at*;have hA:X.A.handled=none:=I.ok.hd hc;have vk:n+4<h'.objs.size:=Wj Gn;have fr:∀b,n<=b->H b=none:=λb hb=>I1.aB.fresh %[hn|hb];have fo:∀(H':Hp)b,n<=b->H' b=none->eQ X pins H' b:=λH' b hb e=>I1.jo %[hn|hb] e;have ge:∀b∈eU n,n<=b:=λb hb=>by subst hn;exact yR I1 b hb
   have lt:h'.objs.size∉eU n:=λhb=>by
    have le:∀j:Nat,j<=4->n+j<h'.objs.size:=λj hj=>QN (U1 hj n) vk;rcases qV hb with e|e|e|e|e;.exact QL vk e
    .exact QL (le 2 Z') e
    .exact QL (le 3 Z') e
    .exact QL (le 0 Z') e
    .exact QL (le 1 Z') e
   have nL:n<=h'.objs.size:=QV (QN (QP n 4) vk);refine callType_codes (Q₁:=λobj s₁=>obj=.ref h'.objs.size/\s₁={s1 with heap:=h'.push {cls:=.type "list",data:=.seq #[]}}) F.called_list (F.typeCall_list_1 _) F.entry_list_init (code_list_new _ ⟨rfl,rfl⟩) ?_;rintro obj s₁⟨rfl,rfl⟩;have hS:(h'.push {cls:=.type "list",data:=.seq #[]}).get? h'.objs.size=some {cls:=.type "list",data:=.seq #[]}:=We _ rfl;have I2:Inv X pins Y (upd H h'.objs.size (.lst [])) {s1 with heap:=h'.push {cls:=.type "list",data:=.seq #[]}}:=I.wY (t':=s1.toks) (its:=[]) .nil V';refine⟨⟨_,hS,rfl⟩,F.args_list_init_2 _ _,?_⟩;have Gp:=W5 {cls:=.type "list",data:=.seq #[]} Gn;have hT:({s1 with heap:=h'.push {cls:=.type "list",data:=.seq #[]}}:W1).TypeIs (.ref (n+4)) "zip":=⟨_,Gp,rfl⟩;generalize hL:h'.objs.size=L at*;show W6 _ _ (do let old<-Builtin.List.listItems (.ref L);Builtin.List.listUpdate (.ref L) λk=>#[];letGo old.toList.reverse;Builtin.List.listExtendWith (.ref L) (.ref (n+4)) .none) _ _ _;refine W0 ?_;unfold Builtin.List.listItems;refine W0 (QA hS rfl (W2 ?_));show W6 _ _ (updateSeq L (λk=>#[])>>=λk=>letGo (#[]:Array Value).toList.reverse>>=λk=>Builtin.List.listExtendWith (.ref L) (.ref (n+4)) .none) _ _ _;refine W0 (wpAny_updateSeq hS rfl ?_);have I3:=I2.pZ (t':=s1.toks) (f:=λk=>#[]) (its:=[]) (its':=[]) (ys:=[]) cJ hS rfl .nil V';rw[nY]at I3;refine W0 (wpAny_letGo ?_);unfold Builtin.List.listExtendWith;have iA:∀{hh:Heap}{f:Array Value->Array Value}{b o},b≠L->hh.get? b=some o->(hh.update L (Obj.mapSeq f)).get? b=some o:=λhb e=>(Q5 _ _ (Ne.symm hb)).trans e;have zL:n+4≠L:=WQ vk;have gj:=iA (f:=λk=>#[]) zL Gp;have yW:=Qh (Obj.mapSeq λk=>(#[]:Array Value)) hS rfl;refine W0 (J3 (T:="zip") ⟨_,gj,rfl⟩ ?_);have h1:Builtin.List.listSameRef (.ref L) (.ref (n+4))=false:=#v[Builtin.List.listSameRef,Ne.symm zL];have h2:(Value.type "zip"==Value.type "list")=false:=by decide
   have h3:(Value.type "zip"==Value.type "tuple")=false:=by decide
   simp only[h1,h2,h3,Bool.or_false,WO,if_false];refine W0 (wpAny_pyIter_zip gj ?_);refine W0 (WD ?_);unfold Builtin.List.listLengthHint;refine W0 (wpAny_specialOf ⟨_,gj,rfl⟩ V1 ?_);show W6 _ _ (specialOf (Value.ref (n+4)) (Str.ofString "__length_hint__")>>=_) _ _ _;refine W0 (wpAny_specialOf ⟨_,gj,rfl⟩ V2 ?_);refine W2 ?_;show W6 _ _ (rule "list.extend.makes-room">>=λk=>Builtin.List.listTouch (.ref L)>>=λk=>again (.builtin "list.extend.loop" ⟨[.ref L,.ref (n+4),.none],[]⟩)) _ _ _;refine W0 (Qn ?_);refine W0 ?_;show W6 _ _ (updateSeq L (·.push .none)>>=λk=>updateSeq L (·.pop)) _ _ _;refine W0 (wpAny_updateSeq yW rfl ?_);have Gq:=Qh (Obj.mapSeq (·.push Value.none)) yW rfl;refine wpAny_updateSeq (hz:=by seq_fits) Gq rfl ?_;have I4:=I3.pZ (t':=s1.toks) (f:=(·.push Value.none)) (its:=[]) (its':=[Value.none]) (ys:=[V.aD]) cJ yW rfl (.cons rfl .nil) (by rw[Qb];decide);rw[nY]at I4;have I5:=I4.pZ (t':=s1.toks) (f:=(·.pop)) (its:=[Value.none]) (its':=[]) (ys:=[]) cJ Gq rfl .nil V';rw[nY]at I5;refine W2 ⟨JG U2 _,?_⟩;refine XS (A:=X.A.in1) (R:=wants (λr s₂=>r=Value.none/\EP X pins Y Q (Value.ref L) s₂) X.xe) (X:=X) (pins:=pins) (Y:=Y) (H:=H) (S:=jc b1 v t) (T:=jc b2 w u) (n:=n) (n0:=n) (m:=m) (L:=L) (xs:=xs) (ys:=ys) hA l1 l2 lt hz (λH' up=>(hx H' up).sd) (λH' up=>(hy H' up).sd) hk hl fr fo ge nL (λH' as s' P e1 e2 I'=>⟨rfl,.ref _,_,I',rfl,q H' L as P e1 (fr L nL) e2⟩) m 0 [] H _ (Ur _) (Q6 _) rfl ⟨λk k e=>e,λi a e=>by simp at e⟩ (fr L nL) (λb hb=>fr b (ge b hb)) I5 ?_;have kk:∀b∈eU n,∀o,h'.get? b=some o->(((h'.push {cls:=.type "list",data:=.seq #[]}).update L (Obj.mapSeq λk=>#[])).update L (Obj.mapSeq (·.push Value.none))|>.update L (Obj.mapSeq (·.pop))).get? b=some o:=λb hb o e=>by have hb:b≠L:=λz=>lt (z▸hb);exact iA hb (iA hb (iA hb (W5 _ e)))
   obtain⟨⟨v0,f,kf,hv⟩,hI,⟨a,b,hO⟩,q1,q2⟩:=st;exact⟨⟨v0,f,kk _ V' _ kf,hv⟩,kk _ V' _ hI,⟨a,b,kk _ V' _ hO⟩,Sd.e8 q1 λo e=>kk _ V' o e,Sd.e8 q2 λo e=>kk _ V' o e⟩
end
def qX(f g:DE):DE:=λZ=>(f Z).bind λx S'=>(g S').bind λy SL=>match kY x.d,kY y.d with|some xs,some ys=>if xs.length=ys.length/\xs.length<=1000 then .ok (.own (.lst (kW xs ys))) SL else .stuck|_,_=>.stuck
section
variable{c:Fc}{a b:Expr}{f g:DE}
universe H in theorem XX(hc:X.calm=true)(yU:Gl X "list")(yV:X.mg "list"=none)(hg:Gl X "zip")(hm:X.mg "zip"=none)(ha:SE X c a f)(hb:SE X c b g)(hs:Wa [a,b] X.env=(false,eval a X.env)::Wa [b] X.env:=by rfl)(qj:Wa [b] X.env=(false,eval b X.env)::Wa [] X.env:=by rfl)(bZ:(Qy pos (Wa [b] X.env)).any (·.1)=false:=by rfl)(vj:Wa [.Call (.Name "zip" pp) [a,b] [] pos] X.env=(false,eval (.Call (.Name "zip" pp) [a,b] [] pos) X.env)::Wa [] X.env:=by rfl):SE X c (.Call (.Name "list" qP) [.Call (.Name "zip" pp) [a,b] [] pos] [] qQ) (qX f g):=PE.weak (XW hc yU yV hg hm (dU ha (dU hb f_ qj) hs) hs bZ vj) λY H Q⟨Z,k,q⟩=>by
  unfold qX at q;rw[bx]at q;refine⟨Z,k,aT q λx S' q1 v H1 a1 r1=>⟨S',a1.ok,?_⟩⟩;rw[bx]at q1;refine aT q1 λy SL q2 u H2 a2 r2=>?_;have hx:Rep H2 (Av c Y SL) v x.d:=Rep.dG r1.rep a2;have hy:Rep H2 (Av c Y SL) u y.d:=r2.rep;split at q2
  .rename_i xs ys e1 e2;obtain⟨b1,vs,s1,w1,k1⟩:=hx.sd (K:=X.K) e1;obtain⟨b2,us,s2,w2,k2⟩:=hy.sd (K:=X.K) e2;split at q2
   .rename_i hl;have z1:=w1.1;have z2:=w2.1;refine⟨b1,b2,v,u,vs,us,xs.length,rfl,λH' up=>k1 H' λp o e _=>up p o e,λH' up=>k2 H' λp o e _=>up p o e,by rw[Qb];lia,λi hi=>⟨vs[i],us[i],#v[z1,hi],by simp[z2,<-hl.1,hi]⟩,.inl z1.symm,λH3 l as P el hl0 Gr=>?_⟩;have kk:=(a1.trans a2).ok;have a3:aK c Y SL H2 Y SL H3:=aK.XG kk P.1;have rr:aH H3 (Av c Y SL) (as.map V.ref) (kW xs ys):=by refine⟨by simp[kW,el];lia,λi p d h1 h2=>?_⟩;rw[Ws]at h1;obtain⟨d1,d2,g1,g2,rfl⟩:=Fw h2;obtain⟨a,ea,rfl⟩:=Option.map_eq_some_iff.mp h1;obtain⟨n0,x',y',f1,f2,f3⟩:=P.2 i a ea;refine .tup (λz=>kk.ju n0 z) f3 rfl λj p d h1 h2=>?_;.have rx:=Rep.dG (w1.2 i x' d1 f1 g1) a3;have ry:=Rep.dG (w2.2 i y' d2 f2 g2) a3;match j with|0=>cases h1;cases h2;exact rx|1=>cases h1;cases h2;exact ry|j+2=>cases h1
    exact q2 _ _ ((a1.trans a2).trans (a3.trans (.alloc a3.ok Gr _))) ((aN.jv a3.ok rr Gr).back ((a1.trans a2).trans a3))
   .exact q2.elim
  .exact q2.elim
end
namespace Lake.SM
open PySem.W
def kr(rk:Keyed->Nat)(xs:Array Keyed)(i:Nat):Nat:=(xs[i]?.map rk).getD 0
theorem g6{rk:Keyed->Nat}{xs ys:Array Keyed}{i j:Nat}(h:xs[i]?=ys[j]?):kr rk xs i=kr rk ys j:=by unfold kr;rw[h]
def Up(rk:Keyed->Nat)(xs:Array Keyed)(lo hi:Nat):Prop:=∀i j,lo<=i->i<=j->j<hi->kr rk xs i<=kr rk xs j
def Dn(rk:Keyed->Nat)(xs:Array Keyed)(lo hi:Nat):Prop:=∀i j,lo<=i->i<=j->j<hi->kr rk xs j<=kr rk xs i
theorem qY{rk:Keyed->Nat}{xs:Array Keyed}{i j:Nat}(hj:j<=xs.size)(k:Nat):kr rk (mirror xs i j ((j-i)/2)) k=if i<=k/\k<j then kr rk xs (i+j-1-k)else kr rk xs k:=by
 have e:=getElem?_mirror_all (i:=i) hj k;by_cases h:i<=k/\k<j;.rw[if_pos h]at e⊢;exact g6 e
 .rw[if_neg h]at e⊢;exact g6 e
theorem Gs{rk:Keyed->Nat}{xs:Array Keyed}{src d:Nat}(hs:src<xs.size)(hd:d<=src)(k:Nat):kr rk (bubble xs src d) k=if k=src-d then kr rk xs src else if src-d<k/\k<=src then kr rk xs (k-1)else kr rk xs k:=by
 have e:=getElem?_bubble hs d hd k;by_cases h1:k=src-d;.rw[if_pos h1]at e⊢;exact g6 e
 .rw[if_neg h1]at e⊢;by_cases h2:src-d<k/\k<=src;.rw[if_pos h2]at e⊢;exact g6 e
  .rw[if_neg h2]at e⊢;exact g6 e
def iD(prog:Wm)(w:Wu)(A:Wp)(E:Value->W1->Prop)(s:W1)(a₀:Array Keyed)(κ:SortKind)(rk:Keyed->Nat):Prop:=∀(x y:Keyed)(st:SortSt)(Q:Option Bool->SortSt->Prop),x∈a₀->y∈a₀->kindOf st=κ->Q (some (decide (rk x<rk y))) st->wpS 4#0 A E s (lt' x y) Q st
structure UV(a₀:Array Keyed)(κ:SortKind)(st:SortSt):Prop where
 perm:(Wg st).Perm a₀
 kind:kindOf st=κ
 good:failedOf st=none
structure eE(a₀:Array Keyed)(κ:SortKind)(lo:Nat)(st ax:SortSt):Prop where
 sb:UV a₀ κ ax
 pd:Ww ax=Ww st
 at':∀i,i<lo->(Wg ax)[i]?=(Wg st)[i]?
theorem UV.size{a₀:Array Keyed}{κ:SortKind}{st:SortSt}(h:UV a₀ κ st):(Wg st).size=a₀.size:=h.perm.size_eq
theorem UV.mem{a₀:Array Keyed}{κ:SortKind}{st:SortSt}(h:UV a₀ κ st){x:Keyed}(hx:x∈Wg st):x∈a₀:=by have:=(Array.perm_iff_toList_perm.mp h.perm).mem_iff (a:=x);simpa using this.mp (~~~hx)
theorem eE.refl{a₀:Array Keyed}{κ:SortKind}{lo:Nat}{st:SortSt}(h:UV a₀ κ st):eE a₀ κ lo st st:=⟨h,rfl,λj j=>rfl⟩
theorem eE.vm{a₀:Array Keyed}{κ:SortKind}{lo:Nat}{st ax:SortSt}(h:eE a₀ κ lo st ax){i j d:Nat}(hi:lo<=i)(hj:j<=a₀.size)(hd:2*d<=j-i):eE a₀ κ lo st (setArr ax (mirror (Wg ax) i j d)):=⟨⟨(mirror_perm _ _ _ _).trans h.sb.perm,h.sb.kind,h.sb.good⟩,h.pd,λk hk=>by show(mirror (Wg ax) i j d)[k]?=_;rw[getElem?_mirror %[h.sb.size|hj] d hd,if_neg Y'];exact h.at' k hk⟩
theorem eE.XY{a₀:Array Keyed}{κ:SortKind}{lo:Nat}{st ax:SortSt}(h:eE a₀ κ lo st ax){src d:Nat}(hi:lo+d<=src)(hj:src<a₀.size):eE a₀ κ lo st (setArr ax (bubble (Wg ax) src d)):=⟨⟨(bubble_perm _ _ _).trans h.sb.perm,h.sb.kind,h.sb.good⟩,h.pd,λk hk=>by show(bubble (Wg ax) src d)[k]?=_;rw[getElem?_bubble %[h.sb.size|hj] d Y',if_neg Y',if_neg Y'];exact h.at' k hk⟩
section
variable{a₀:Array Keyed}{κ:SortKind}{rk:Keyed->Nat}
theorem vn{arr:Array Keyed}{i:Nat}{Q:Keyed->SortSt->Prop}{st:SortSt}(hi:i<arr.size)(h:Q arr[i] st):wpS 4#0 A E s (elem' arr i) Q st:=by rw[elem'_eq,getElem?_pos arr i hi];exact Wh h
theorem gm{arr:Array Keyed}{i:Nat}(hi:i<arr.size):rk arr[i]=kr rk arr i:=by unfold kr;rw[getElem?_pos arr i hi];rfl
theorem oP{st:SortSt}{i j:Nat}{Q:Option Bool->SortSt->Prop}(hA:iD prog w A E s a₀ κ rk)(hB:UV a₀ κ st)(hi:i<a₀.size)(hj:j<a₀.size)(h:Q (some (decide (kr rk (Wg st) i<kr rk (Wg st) j))) st):wpS 4#0 A E s (ltAt' i j) Q st:=by rw[ltAt'_eq];have zi:i<(Wg st).size:=%[hB.size|hi];have zj:j<(Wg st).size:=%[hB.size|hj];refine Wt (wpS_get ?_);refine Wt (vn zi (Wt (vn zj ?_)));refine hA _ _ _ _ (hB.mem (J9 zi)) (hB.mem (J9 zj)) hB.kind ?_;rw[gm (rk:=rk) zi,gm (rk:=rk) zj];exact h
theorem XZ{st:SortSt}{lo eM:Nat}{Q:Option Nat->SortSt->Prop}(hA:iD prog w A E s a₀ κ rk)(hn:lo+eM<=a₀.size)(h1:1<=eM)(hB:UV a₀ κ st)(h:∀m ax,eE a₀ κ lo st ax->1<=m->m<=eM->Up rk (Wg ax) lo (lo+m)->Q (some m) ax):wpS 4#0 A E s (countRun' lo eM) Q st:=by
 rw[countRun'_eq];refine Wt (J5 (QQ (I:=λx c ax=>ax=st/\c=(none,x)/\Up rk (Wg st) lo (lo+x)) (Q:=λc ax=>ax=st/\∃n,c=(none,n)/\1<=n/\n<=eM/\Up rk (Wg st) lo (lo+n)/\(n=eM\/kr rk (Wg st) (lo+n)<kr rk (Wg st) (lo+n-1))) ?step ?fin ?qZ) ?post);case qZ=>exact⟨rfl,rfl,λi j h1 h2 h3=>%[show i=j by lia|W7 _]⟩
 case fin=>rintro c ax⟨rfl,rfl,u⟩;rw[show max 1 eM=eM by lia]at u⊢;exact⟨rfl,eM,rfl,h1,W7 _,u,.inl rfl⟩
 case step=>
  rintro x c ax hx hxn⟨rfl,rfl,u⟩;dsimp only;refine Wt (oP hA hB Y' Y' ?_);by_cases hl:kr rk (Wg ax) (lo+x)<kr rk (Wg ax) (lo+x-1);.simp only[hl,decide_true,if_true];exact Wh ⟨rfl,x,rfl,Y',Y',u,.inr hl⟩
  .simp only[hl,decide_false,WO,if_false];refine Wh ⟨rfl,rfl,λi j a b c=>?_⟩;by_cases hj:j<lo+x;.exact u i j a b hj
   .by_cases hi:i=j;.rw[hi];exact W7 _
    .have:=u i (lo+x-1) a Y' Y';rw[show j=lo+x by lia];lia
 case post=>
  rintro c ax⟨rfl,n,rfl,n1,n2,u,o⟩;show wpS _ _ _ _ (if(n==eM)=true then _ else _) Q ax;by_cases hnn:n=eM;.rw[if_pos (~~~hnn)];exact Wh (h n ax (eE.refl hB) n1 n2 u)
  .rw[if_neg (~~~hnn)];have lt:=o.resolve_left hnn;extract_lets k z jp;have HD:∀bH,eE a₀ κ lo ax bH->Dn rk (Wg bH) lo (lo+(n+1))->wpS 4#0 A E s (jp ()) Q bH:=by
    intro bH K2 d2;refine Wt (wpS_lift (Qn ⟨rfl,?_⟩));show wpS _ _ _ _ (forIn [n+1:eM] (none,n+1,0) _>>=_) Q bH;refine Wt (J5 (QQ (I:=λx c bu=>∃q,c=(none,x,q)/\eE a₀ κ lo ax bu/\Dn rk (Wg bu) lo (lo+x)/\q+1<=x/\∀i,lo+x-(q+1)<=i->i<lo+x->kr rk (Wg bu) i=kr rk (Wg bu) (lo+x-1)) (Q:=λc bu=>∃x q,c=(none,x,q)/\1<=x/\x<=eM/\eE a₀ κ lo ax bu/\Dn rk (Wg bu) lo (lo+x)/\q+1<=x/\∀i,lo+x-(q+1)<=i->i<lo+x->kr rk (Wg bu) i=kr rk (Wg bu) (lo+x-1)) ?dstep ?dfin ?dini) ?dpost);case dini=>exact⟨0,rfl,K2,d2,Y',λi a b=>by congr 1;lia⟩
    case dfin=>rintro c bu⟨q,rfl,K3,d3,q1,e3⟩;rw[show max (n+1) eM=eM by lia]at*;exact⟨eM,q,rfl,h1,W7 _,K3,d3,q1,e3⟩
    case dstep=>
     rintro x c bu hx hxn⟨q,rfl,K3,d3,q1,e3⟩;have hz:=K3.sb.size;dsimp only;refine Wt (oP hA K3.sb Y' Y' ?_);have grow:∀ys:Array Keyed,(∀k,k<lo+x+1->kr rk ys k=kr rk (Wg bu) k)->kr rk (Wg bu) (lo+x)<=kr rk (Wg bu) (lo+x-1)->Dn rk ys lo (lo+(x+1)):=λys e l i j a b c=>by
      rw[e i Y',e j Y'];by_cases hj:j<lo+x;.exact d3 i j a b hj
      .by_cases hi:i=j;.rw[hi];exact W7 _
       .have:=d3 i (lo+x-1) a Y' Y';rw[show j=lo+x by lia];lia
     by_cases hl:kr rk (Wg bu) (lo+x)<kr rk (Wg bu) (lo+x-1)
     .simp only[hl,decide_true,if_true];by_cases hq:q>0
      .rw[if_pos hq];refine Wt (wpS_reverse (Wh ⟨0,rfl,K3.vm Y' Y' Y',?_,Y',λi a b=>by congr 1;lia⟩));refine grow _ (λk hk=>?_) Y';show kr rk (mirror (Wg bu) _ _ _) k=_;rw[qY Y'];by_cases hc:lo+x-(q+1)<=k/\k<lo+x;.rw[if_pos hc,e3 _ Y' Y',e3 k hc.1 hc.2]
       .rw[if_neg hc]
      .rw[if_neg hq];exact Wh ⟨0,rfl,K3,grow _ (λv v=>rfl) Y',Y',λi a b=>by congr 1;lia⟩
     .simp only[hl,decide_false,WO,if_false];refine Wt (oP hA K3.sb Y' Y' ?_);by_cases hm:kr rk (Wg bu) (lo+x-1)<kr rk (Wg bu) (lo+x);.simp only[hm,decide_true,if_true];exact Wh ⟨x,q,rfl,Y',Y',K3,d3,q1,e3⟩
      .simp only[hm,decide_false,WO,if_false];refine Wh ⟨q+1,rfl,K3,grow _ (λv v=>rfl) Y',Y',λi a b=>?_⟩;rw[show lo+(x+1)-1=lo+x by lia];by_cases hi:i=lo+x;.rw[hi]
       .rw[e3 i Y' Y'];lia
    case dpost=>
     rintro c bu⟨x,q,rfl,x1,x2,K3,d3,q1,e3⟩;have hz:=K3.sb.size;show wpS _ _ _ _ (have mj:=_;if q>0 then _ else _) Q bu;extract_lets mj;have HT:∀bQ,eE a₀ κ lo ax bQ->Dn rk (Wg bQ) lo (lo+x)->wpS 4#0 A E s (mj ()) Q bQ:=by
      intro bQ K4 d4;have qO:=K4.sb.size;show wpS _ _ _ _ (_>>=_) Q bQ;have K5:=K4.vm (i:=lo) (j:=lo+x) (d:=(lo+x-lo)/2) (W7 _) Y' Y';have u5:Up rk (Wg (setArr bQ (mirror (Wg bQ) lo (lo+x) ((lo+x-lo)/2)))) lo (lo+x):=λi j a b c=>by show kr rk (mirror (Wg bQ) lo (lo+x) ((lo+x-lo)/2)) i<=kr rk (mirror (Wg bQ) lo (lo+x) ((lo+x-lo)/2)) j;rw[qY Y',qY Y',if_pos Y',if_pos Y'];exact d4 _ _ Y' Y' Y'
      refine Wt (wpS_reverse ?_);revert K5 u5;generalize setArr bQ (mirror (Wg bQ) lo (lo+x) ((lo+x-lo)/2))=gM;intro K5 u5;show wpS _ _ _ _ (forIn [x:eM] (none,x) _>>=_) Q gM;refine Wt (J5 (QQ (I:=λy c ax=>ax=gM/\c=(none,y)/\Up rk (Wg gM) lo (lo+y)) (Q:=λc ax=>ax=gM/\∃y,c=(none,y)/\1<=y/\y<=eM/\Up rk (Wg gM) lo (lo+y)) ?tstep ?tfin ⟨rfl,rfl,u5⟩) ?tpost);case tfin=>rintro c ax⟨rfl,rfl,u⟩;rw[show max x eM=eM by lia]at u⊢;exact⟨rfl,eM,rfl,h1,W7 _,u⟩
      case tstep=>
       rintro y c st6 hx hxn⟨rfl,rfl,u⟩;dsimp only;refine Wt (oP hA K5.sb Y' Y' ?_);by_cases hl:kr rk (Wg st6) (lo+y)<kr rk (Wg st6) (lo+y-1);.simp only[hl,decide_true,if_true];exact Wh ⟨rfl,y,rfl,Y',Y',u⟩
       .simp only[hl,decide_false,WO,if_false];refine Wh ⟨rfl,rfl,λi j a b c=>?_⟩;by_cases hj:j<lo+y;.exact u i j a b hj
        .by_cases hi:i=j;.rw[hi];exact W7 _
         .have:=u i (lo+y-1) a Y' Y';rw[show j=lo+y by lia];lia
      case tpost=>rintro c st6⟨rfl,y,rfl,y1,y2,u⟩;exact Wh (h y _ K5 y1 y2 u)
     by_cases hq:q>0
     .rw[if_pos hq];refine Wt (wpS_reverse (HT _ (K3.vm (i:=lo+x-(q+1)) (j:=lo+x) (d:=(lo+x-(lo+x-(q+1)))/2) Y' Y' Y') ?_));intro i j a b c;have e:∀k,k<lo+x->kr rk (Wg (setArr bu (mirror (Wg bu) (lo+x-(q+1)) (lo+x) ((lo+x-(lo+x-(q+1)))/2)))) k=kr rk (Wg bu) k:=λk hk=>by
       show kr rk (mirror (Wg bu) _ _ _) k=_;rw[qY Y'];by_cases hc:lo+x-(q+1)<=k/\k<lo+x;.rw[if_pos hc,e3 _ Y' Y',e3 k hc.1 hc.2]
       .rw[if_neg hc]
      rw[e i Y',e j c];exact d3 i j a b c
     .rw[if_neg hq];exact HT _ K3 d3
   show wpS _ _ _ _ (if n>1 then _ else _) Q ax;by_cases hgt:n>1
   .rw[if_pos hgt];refine Wt (oP hA hB Y' Y' ?_);by_cases hr:kr rk (Wg ax) lo<kr rk (Wg ax) (lo+n-1);.simp only[hr,decide_true,if_true];exact Wh (h n ax (eE.refl hB) n1 n2 u)
    .simp only[hr,decide_false,WO,if_false];have hz:=hB.size;refine Wt (wpS_reverse (HD _ ((eE.refl hB).vm (i:=lo) (j:=lo+n) (W7 _) Y' Y') ?_));intro i j a b c;have all:∀k,lo<=k->k<lo+n->kr rk (Wg ax) k=kr rk (Wg ax) lo:=λk a b=>by have a1:=u lo k (W7 _) a b;have a2:=u k (lo+n-1) a Y' Y';lia
     have e:∀k,lo<=k->kr rk (Wg (setArr ax (mirror (Wg ax) lo (lo+n) ((lo+n-lo)/2)))) k=kr rk (Wg ax) k:=λk hk=>by
      show kr rk (mirror (Wg ax) _ _ _) k=_;rw[qY Y'];by_cases hc:lo<=k/\k<lo+n;.rw[if_pos hc,all _ Y' Y',all k hc.1 hc.2]
      .rw[if_neg hc]
     rw[e i a,e j Y'];by_cases hj:j<lo+n;.rw[all i a Y',all j Y' hj];exact W7 _
     .have ej:j=lo+n:=by lia
      by_cases hi:i=j;.rw[hi];exact W7 _
      .have:=all (lo+n-1) Y' Y';rw[all i a Y',ej];lia
   .rw[if_neg hgt];refine HD _ (eE.refl hB) λi j a b c=>?_;by_cases hi:i=j;.rw[hi];exact W7 _
    .rw[show i=lo+n-1 by lia,show j=lo+n by lia];lia
end
end Lake.SM
namespace Lake.SM
open PySem.W
section
variable{a₀:Array Keyed}{κ:SortKind}{rk:Keyed->Nat}
theorem X0{st:SortSt}{lo n ok:Nat}{Q:Bool->SortSt->Prop}(hA:iD prog w A E s a₀ κ rk)(hn:lo+n<=a₀.size)(h1:1<=ok)(aB:ok<=n)(hB:UV a₀ κ st)(hs:Up rk (Wg st) lo (lo+ok))(h:∀ax,eE a₀ κ lo st ax->Up rk (Wg ax) lo (lo+n)->Q true ax):wpS 4#0 A E s (binarySort' lo n ok) Q st:=by
 rw[binarySort'_eq];refine Wt (J5 (QQ (I:=λk c ax=>c=(none,())/\eE a₀ κ lo st ax/\Up rk (Wg ax) lo (lo+min k n)) (Q:=λc ax=>c=(none,())/\eE a₀ κ lo st ax/\Up rk (Wg ax) lo (lo+n)) ?step ?fin ?init) ?post);case post=>rintro c ax⟨rfl,K,u⟩;exact Wh (h ax K u)
 case init=>exact⟨rfl,eE.refl hB,λi j a b c=>hs i j a b Y'⟩
 case fin=>rintro c ax⟨hc,K,u⟩;exact⟨hc,K,by rwa[show min (max (max ok 1) n) n=n by lia]at u⟩
 case step=>
  rintro k c ax hak hkn⟨rfl,K,u⟩;rw[show min k n=k by lia]at u;have hz:=K.sb.size;refine Wt (J5 (QQ (I:=λx c jG=>jG=ax/\∃l r,c=(none,l,r)/\l<=r/\r<=k/\r+x<=k+l/\(∀i,lo<=i->i<lo+l->kr rk (Wg ax) i<=kr rk (Wg ax) (lo+k))/\∀i,lo+r<=i->i<lo+k->kr rk (Wg ax) (lo+k)<kr rk (Wg ax) i) (Q:=λc jG=>jG=ax/\∃l r,c=(none,l,r)/\l<=k/\(∀i,lo<=i->i<lo+l->kr rk (Wg ax) i<=kr rk (Wg ax) (lo+k))/\∀i,lo+l<=i->i<lo+k->kr rk (Wg ax) (lo+k)<kr rk (Wg ax) i) ?istep ?ifin ?iinit) ?ipost);case iinit=>exact⟨rfl,0,k,rfl,Y',Y',Y',λi a b=>by lia,λi a b=>by lia⟩
  case ifin=>
   rintro c jG⟨rfl,l,r,rfl,hlr,hrk,hm,a,b⟩;have:l=r:=by lia
   subst this;exact⟨rfl,l,l,rfl,hrk,a,b⟩
  case istep=>
   rintro x c jG _ hxk⟨rfl,l,r,rfl,hlr,hrk,hm,a,b⟩;dsimp only;by_cases hge:l≥r
   .rw[if_pos hge];have:l=r:=by lia
    subst this;exact Wh ⟨rfl,l,l,rfl,hrk,a,b⟩
   .rw[if_neg hge];refine Wt (oP hA K.sb Y' Y' ?_);by_cases hl:kr rk (Wg jG) (lo+k)<kr rk (Wg jG) (lo+(l+r)/2);.simp only[hl,decide_true,if_true];refine Wh ⟨rfl,l,(l+r)/2,rfl,Y',Y',Y',a,λi x y=>?_⟩;have:=u (lo+(l+r)/2) i Y' x y;lia
    .simp only[hl,decide_false,WO,if_false];refine Wh ⟨rfl,(l+r)/2+1,r,rfl,Y',Y',Y',λi x y=>?_,b⟩;have:=u i (lo+(l+r)/2) x Y' Y';lia
  case ipost=>
   rintro c jG⟨rfl,l,r,rfl,hl,a,b⟩;show wpS _ _ _ _ (moveDown' (lo+k) (lo+l)>>=_) _ jG;rw[moveDown'_eq];refine Wt (wpS_modify ?_);have e0:lo+k-(lo+l)=k-l:=by lia
   refine Wh ⟨rfl,K.XY Y' Y',λi j x y z=>?_⟩;show kr rk (bubble (Wg jG) (lo+k) (lo+k-(lo+l))) i<=kr rk (bubble (Wg jG) (lo+k) (lo+k-(lo+l))) j;rw[e0,Gs Y' Y',Gs Y' Y'];have z':j<lo+k+1:=by lia
   have e1:lo+k-(k-l)=lo+l:=by lia
   rw[e1];by_cases i1:i=lo+l
   .rw[if_pos i1];by_cases j1:j=lo+l;.rw[if_pos j1];exact W7 _
    .rw[if_neg j1,if_pos Y'];exact QV (b (j-1) Y' Y')
   .rw[if_neg i1];by_cases i2:lo+l<i/\i<=lo+k;.rw[if_pos i2,if_neg Y',if_pos Y'];exact u _ _ Y' Y' Y'
    .rw[if_neg i2];by_cases j1:j=lo+l;.rw[if_pos j1];exact a i x Y'
     .rw[if_neg j1];by_cases j2:lo+l<j/\j<=lo+k;.rw[if_pos j2];exact u _ _ x Y' Y'
      .rw[if_neg j2];exact u _ _ x y Y'
end
end Lake.SM
namespace Lake.SM
open PySem.W
def Gu:Bool->Keyed->Array Keyed->Nat->Nat->Nat->StateT SortSt Sem (Option Nat):=sortPriv%PySem.Builtin.gallop
def nA(left:Bool)(key:Keyed)(arr:Array Keyed)(base i:Nat):StateT SortSt Sem (Option Bool):=elem' arr (base+i)>>=λx=>if left=true then lt' x key else lt' key x>>=λr=>pure (r.map (!.))
def iE(rk:Keyed->Nat)(left:Bool)(key:Keyed)(arr:Array Keyed)(base i:Nat):Bool:=if left then decide (kr rk arr (base+i)<rk key)else decide (kr rk arr (base+i)<=rk key)
theorem X1{rk:Keyed->Nat}{left:Bool}{key:Keyed}{arr:Array Keyed}{base n:Nat}(u:Up rk arr base (base+n)){i j:Nat}(oQ:i<=j)(hj:j<n)(h:iE rk left key arr base j=true):iE rk left key arr base i=true:=by
 have:=u (base+i) (base+j) Y' Y' Y';unfold iE at h⊢;cases left;.simp at h⊢;lia
 .simp at h⊢;lia
section
variable{a₀:Array Keyed}{κ:SortKind}{rk:Keyed->Nat}
theorem Gv{left:Bool}{key:Keyed}{arr:Array Keyed}{base n i:Nat}{st:SortSt}{Q:Option Bool->SortSt->Prop}(hA:iD prog w A E s a₀ κ rk)(hk:key∈a₀)(hm:∀x∈arr,x∈a₀)(hn:base+n<=arr.size)(hK:kindOf st=κ)(hi:i<n)(hq:Q (some (iE rk left key arr base i)) st):wpS 4#0 A E s (nA left key arr base i) Q st:=by
 have hz:base+i<arr.size:=by lia
 unfold nA;refine Wt (vn hz ?_);have e:=gm (rk:=rk) hz;have m1:=hm _ (J9 hz);cases left with|true=>show wpS _ _ _ _ (lt' arr[base+i] key) Q st;refine hA _ _ _ _ m1 hk hK ?_;rw[e];exact hq|false=>
  show wpS _ _ _ _ (lt' key arr[base+i]>>=λr=>pure (r.map (!.))) Q st;refine Wt (hA _ _ _ _ hk m1 hK (Wh ?_));rw[e];have:(some (decide (rk key<kr rk arr (base+i)))).map (!.)=some (iE rk false key arr base i):=by
   show some (!decide (rk key<kr rk arr (base+i)))=some (decide (kr rk arr (base+i)<=rk key));by_cases c:rk key<kr rk arr (base+i);.rw[decide_eq_true c,decide_eq_false Y'];rfl
   .rw[decide_eq_false c,decide_eq_true Y'];rfl
  rw[this];exact hq
theorem X2{left:Bool}{key:Keyed}{arr:Array Keyed}{base n hint:Nat}{st:SortSt}{Q:Option Nat->SortSt->Prop}(hA:iD prog w A E s a₀ κ rk)(hk:key∈a₀)(hm:∀x∈arr,x∈a₀)(hn:base+n<=arr.size)(hh:hint<n)(hK:kindOf st=κ)(u:Up rk arr base (base+n))(h:∀m,m<=n->(∀i,i<m->iE rk left key arr base i=true)->(∀i,m<=i->i<n->iE rk left key arr base i=false)->Q (some m) st):wpS 4#0 A E s (Gu left key arr base n hint) Q st:=by
 refine Wt (m:=nA left key arr base hint) (Gv hA hk hm hn hK hh ?_);have mono:∀{i j},i<=j->j<n->iE rk left key arr base j=true->iE rk left key arr base i=true:=λa b c=>X1 u a b c;have HB:∀i,i<n->∀Q:Option Bool->SortSt->Prop,Q (some (iE rk left key arr base i)) st->wpS 4#0 A E s (nA left key arr base i) Q st:=λi hi Q hq=>Gv hA hk hm hn hK hi hq;revert mono HB h;generalize iE rk left key arr base=g;intro h mono HB;dsimp-zeta only;extract_lets jp;have HJ:∀lastofs ofs lo hi,lo<=hi->hi<=n->(∀i,i<lo->g i=true)->(∀i,hi<=i->i<n->g i=false)->wpS 4#0 A E s (jp () lastofs ofs lo hi) Q st:=by
  intro lastofs ofs lo hi h1 h2 h3 h4;refine Wt (J5 (QQ (I:=λx c ax=>ax=st/\∃l r,c=(none,l,r)/\l<=r/\r<=n/\r+x<=n+l/\(∀i,i<l->g i=true)/\∀i,r<=i->i<n->g i=false) (Q:=λc ax=>ax=st/\∃l,c=(none,l,l)/\l<=n/\(∀i,i<l->g i=true)/\∀i,l<=i->i<n->g i=false) ?bstep ?bfin ⟨rfl,lo,hi,rfl,h1,h2,Y',h3,h4⟩) ?bpost);case bfin=>
   rintro c ax⟨rfl,l,r,rfl,a,b,c,d,e⟩;have:l=r:=by lia
   subst this;exact⟨rfl,l,rfl,b,d,e⟩
  case bstep=>
   rintro x c ax _ hx⟨rfl,l,r,rfl,a,b,c,d,e⟩;show wpS _ _ _ _ (if l≥r then _ else _) _ ax;by_cases hge:l≥r
   .rw[if_pos hge];have:l=r:=by lia
    subst this;exact Wh ⟨rfl,l,rfl,b,d,e⟩
   .rw[if_neg hge];refine Wt (m:=nA left key arr base (l+(r-l)/2)) (HB _ Y' _ ?_);cases hg:g (l+(r-l)/2)with|true=>refine Wh ⟨rfl,l+(r-l)/2+1,r,rfl,Y',b,Y',λi hi=>mono (j:=l+(r-l)/2) Y' Y' hg,e⟩|false=>refine Wh ⟨rfl,l,l+(r-l)/2,rfl,Y',Y',Y',d,λi x y=>?_⟩;cases hi:g i with|false=>rfl|true=>rw[mono x y hi]at hg;exact hg
  case bpost=>rintro c ax⟨rfl,l,rfl,a,b,c⟩;exact Wh (h l a b c)
 clear_value jp;cases hg:g hint with
 |true=>
  show wpS _ _ _ _ (forIn [:n] (none,0,1) _>>=_) Q st;refine Wt (J5 (QQ (I:=λx c ax=>ax=st/\∃l o,c=(none,l,o)/\l<o/\x+1<=o/\hint+l<n/\g (hint+l)=true) (Q:=λc ax=>ax=st/\∃l o,c=(none,l,o)/\l<o/\hint+l<n/\g (hint+l)=true/\(n-hint<=o\/g (hint+o)=false)) ?rstep ?rfin ⟨rfl,0,1,rfl,Y',Y',hh,hg⟩) ?rpost);case rfin=>rintro c ax⟨rfl,l,o,rfl,a,b,c,d⟩;exact⟨rfl,l,o,rfl,a,c,d,.inl Y'⟩
  case rstep=>
   rintro x c ax _ hx⟨rfl,l,o,rfl,a,b,c,d⟩;show wpS _ _ _ _ (if o≥n-hint then _ else _) _ ax;by_cases hge:o≥n-hint;.rw[if_pos hge];exact Wh ⟨rfl,l,o,rfl,a,c,d,.inl hge⟩
   .rw[if_neg hge];refine Wt (m:=nA left key arr base (hint+o)) (HB _ Y' _ ?_);cases hg:g (hint+o)with|true=>exact Wh ⟨rfl,o,2*o+1,rfl,Y',Y',Y',hg⟩|false=>exact Wh ⟨rfl,l,o,rfl,a,c,d,.inr hg⟩
  case rpost=>rintro c ax⟨rfl,l,o,rfl,a,b,c,d⟩;refine HJ l o (hint+l+1) (hint+min o (n-hint)) Y' Y' (λi hi=>mono (j:=hint+l) Y' b c) λi x y=>?_;have hd:=d.resolve_left Y';cases hi:g i with|false=>rfl|true=>rw[mono (i:=hint+o) Y' y hi]at hd;exact hd
 |false=>
  show wpS _ _ _ _ (forIn [:n] (none,0,1) _>>=_) Q st;refine Wt (J5 (QQ (I:=λx c ax=>ax=st/\∃l o,c=(none,l,o)/\l<o/\x+1<=o/\l<=hint/\g (hint-l)=false) (Q:=λc ax=>ax=st/\∃l o,c=(none,l,o)/\l<o/\l<=hint/\g (hint-l)=false/\(hint+1<=o\/g (hint-o)=true)) ?lstep ?lfin ⟨rfl,0,1,rfl,Y',Y',Y',hg⟩) ?lpost);case lfin=>rintro c ax⟨rfl,l,o,rfl,a,b,c,d⟩;exact⟨rfl,l,o,rfl,a,c,d,.inl Y'⟩
  case lstep=>
   rintro x c ax _ hx⟨rfl,l,o,rfl,a,b,c,d⟩;show wpS _ _ _ _ (if o≥hint+1 then _ else _) _ ax;by_cases hge:o≥hint+1;.rw[if_pos hge];exact Wh ⟨rfl,l,o,rfl,a,c,d,.inl hge⟩
   .rw[if_neg hge];refine Wt (m:=nA left key arr base (hint-o)) (HB _ Y' _ ?_);cases hg:g (hint-o)with|true=>exact Wh ⟨rfl,l,o,rfl,a,c,d,.inr hg⟩|false=>exact Wh ⟨rfl,o,2*o+1,rfl,Y',Y',Y',hg⟩
  case lpost=>
 rintro c ax⟨rfl,l,o,rfl,a,b,c,d⟩;refine HJ l o (hint+1-min o (hint+1)) (hint-l) Y' Y' (λi hi=>?_) λi x y=>?_;.have hd:=d.resolve_left Y';exact mono (j:=hint-o) Y' Y' hd
 .cases hi:g i with|false=>rfl|true=>rw[mono (i:=hint-l) Y' y hi]at c;exact c
end
end Lake.SM
namespace Lake.SM
open PySem.W
def Gw:Array Keyed->Array Keyed->StateT SortSt Sem (Array Keyed):=sortPriv%PySem.Builtin.mergeLo
def Gx:Array Keyed->Array Keyed->StateT SortSt Sem (Array Keyed):=sortPriv%PySem.Builtin.mergeHi
structure ML(rk:Keyed->Nat)(a b:Array Keyed)(o:List Keyed)(ia ib:Nat):Prop where
 pa:(o++a.toList.drop ia).Pairwise λx y=>rk x<=rk y
 pb:(o++b.toList.drop ib).Pairwise λx y=>rk x<=rk y
 pm:(o++(a.toList.drop ia++b.toList.drop ib)).Perm (a.toList++b.toList)
structure MR(rk:Keyed->Nat)(a b:Array Keyed)(r:Array Keyed):Prop where
 up:r.toList.Pairwise λx y=>rk x<=rk y
 pm:r.toList.Perm (a.toList++b.toList)
theorem X3{rk:Keyed->Nat}{b:Array Keyed}{n i:Nat}{y:Keyed}(u:Up rk b 0 b.size)(hy:y∈b.toList.drop i):kr rk b i<=rk y:=by
 obtain⟨k,hk,rfl⟩:=J4.mp hy;have iY:i+k<b.size:=by simp at hk;lia
 have e:(b.toList.drop i)[k]=b[i+k]:=by simp
 rw[e,gm (rk:=rk) iY];exact u i (i+k) Y' Y' iY
theorem q_{rk:Keyed->Nat}{a:Array Keyed}{i k:Nat}{x:Keyed}(hx:x∈(a.toList.drop i).take k):∃j,j<k/\i+j<a.size/\rk x=kr rk a (i+j):=by
 obtain⟨j,hj,rfl⟩:=J4.mp hx;have f9:j<k/\i+j<a.size:=by simp at hj;lia
 have e:((a.toList.drop i).take k)[j]=a[i+j]'f9.2:=by simp
 exact⟨j,f9.1,f9.2,by rw[e,gm (rk:=rk) f9.2]⟩
theorem yX{α:Type}(l:List α)(i k:Nat):l.drop i=(l.drop i).take k++l.drop (i+k):=by rw[<-List.drop_drop,JR]
theorem ML.a{rk:Keyed->Nat}{a b:Array Keyed}{o:List Keyed}{ia ib:Nat}(J:ML rk a b o ia ib)(k:Nat)(h:∀x∈(a.toList.drop ia).take k,∀y∈b.toList.drop ib,rk x<=rk y):ML rk a b (o++(a.toList.drop ia).take k) (ia+k) ib:=by
 have e:=yX a.toList ia k;have pa:=J.pa;rw[e]at pa;refine⟨%[WI|pa],?_,?_⟩
 .rw[WT];refine⟨?_,(WT.mp J.pb).2.1,λx hx y hy=>?_⟩;.rw[<-WI]at pa;exact(WT.mp pa).1
  .rcases WK.mp hx with hx|hx;.exact(WT.mp J.pb).2.2 x hx y hy
   .exact h x hx y hy
 .refine List.Perm.trans ?_ J.pm;conv=>rhs;rw[e]
  simp only[WI];exact List.Perm.refl _
theorem ML.sym{rk:Keyed->Nat}{a b:Array Keyed}{o:List Keyed}{ia ib:Nat}(J:ML rk a b o ia ib):ML rk b a o ib ia:=⟨J.pb,J.pa,((List.perm_append_comm.append_left o).trans J.pm).trans List.perm_append_comm⟩
theorem take_one{a:Array Keyed}{i:Nat}(h:i<a.size):(a.toList.drop i).take 1=[a[i]]:=by rw[List.take_one,List.head?_drop];simp[h]
theorem jH(a:Array Keyed)(i j:Nat):(a.extract i j).toList=(a.toList.drop i).take (j-i):=by simp[List.extract_eq_take_drop]
theorem vo(a:Array Keyed)(i:Nat):(a.extract i).toList=a.toList.drop i:=by rw[jH,QG V']
theorem vp(a:Array Keyed)(j:Nat):(a.extract 0 j).toList=a.toList.take j:=by rw[jH];simp
theorem ML.done{rk:Keyed->Nat}{a b out:Array Keyed}{ia ib:Nat}(J:ML rk a b out.toList ia ib)(h:ia=a.size\/ib=b.size):MR rk a b (out++a.extract ia++b.extract ib):=by
 have e:(out++a.extract ia++b.extract ib).toList=out.toList++(a.toList.drop ia++b.toList.drop ib):=by rw[Q9,Q9,vo,vo,WI]
 refine⟨?_,%[e|J.pm]⟩;rw[e];rcases h with h|h;.rw[List.drop_of_length_le (l:=a.toList) #v[h],QJ];exact J.pb
 .rw[List.drop_of_length_le (l:=b.toList) #v[h],Qg];exact J.pa
theorem ML.last{rk:Keyed->Nat}{a b out:Array Keyed}{ia ib:Nat}(J:ML rk a b out.toList ia ib)(h:ia+1=a.size)(hl:∀j,j<b.size->kr rk b j<=kr rk a (a.size-1)):MR rk a b (out++b.extract ib++a.extract ia):=by
 have e:(out++b.extract ib++a.extract ia).toList=out.toList++b.toList.drop ib++a.toList.drop ia:=by rw[Q9,Q9,vo,vo]
 have el:a.toList.drop ia=[a[ia]' Y']:=by rw[<-take_one Y',QG Re]
 refine⟨?_,by rw[e,WI];exact(List.perm_append_comm.append_left _).trans J.pm⟩;rw[e,WT];refine⟨J.pb,(WT.mp J.pa).2.1,λx hx y hy=>?_⟩;rcases WK.mp hx with hx|hx;.exact(WT.mp J.pa).2.2 x hx y hy
 .rw[el,Qe]at hy;rw[hy,gm (rk:=rk) (show ia<a.size by lia)];obtain⟨k,hk,rfl⟩:=J4.mp hx;have iY:ib+k<b.size:=by simp at hk;lia
  have e:(b.toList.drop ib)[k]=b[ib+k]:=by simp
  rw[e,gm (rk:=rk) iY,show ia=a.size-1 by lia];exact hl _ iY
structure Sm(st ax:SortSt):Prop where
 k:kindOf ax=kindOf st
 a:Wg ax=Wg st
 p:Ww ax=Ww st
 f:failedOf ax=failedOf st
theorem Sm.refl(st:SortSt):Sm st st:=⟨rfl,rfl,rfl,rfl⟩
theorem Sm.vq{st ax:SortSt}(h:Sm st ax)(g:Nat):Sm st (SortSt.mk' (kindOf ax) (Wg ax) (Ww ax) g (failedOf ax)):=⟨h.k,h.a,h.p,h.f⟩
theorem rf{rk:Keyed->Nat}{a:Array Keyed}(u:Up rk a 0 a.size):a.toList.Pairwise λx y=>rk x<=rk y:=by rw[List.pairwise_iff_getElem];intro i j hi hj oQ;have dF:i<a.size:= ~~~hi;have f9:j<a.size:= ~~~hj;have e:=u i j Y' Y' f9;rw[<-gm (rk:=rk) dF,<-gm (rk:=rk) f9]at e;simpa using e
theorem ML.qZ{rk:Keyed->Nat}{a b:Array Keyed}(ua:Up rk a 0 a.size)(ub:Up rk b 0 b.size):ML rk a b [] 0 0:=⟨by simpa using rf ua,by simpa using rf ub,V'⟩
theorem ML.ak{rk:Keyed->Nat}{a b out:Array Keyed}{ia ib:Nat}(J:ML rk a b out.toList ia ib)(ub:Up rk b 0 b.size)(k:Nat)(h:∀i,i<k->kr rk a (ia+i)<=kr rk b ib):ML rk a b (out++a.extract ia (ia+k)).toList (ia+k) ib:=by rw[Q9,jH,show ia+k-ia=k by lia];refine J.a k λx hx y hy=>?_;obtain⟨j,j1,_,e⟩:=q_ (rk:=rk) hx;have:=X3 (rk:=rk) (n:=0) ub hy;have:=h j j1;lia
theorem ML.bk{rk:Keyed->Nat}{a b out:Array Keyed}{ia ib:Nat}(J:ML rk a b out.toList ia ib)(ua:Up rk a 0 a.size)(k:Nat)(h:∀i,i<k->kr rk b (ib+i)<=kr rk a ia):ML rk a b (out++b.extract ib (ib+k)).toList ia (ib+k):=(J.sym.ak ua k h).sym
theorem ML.a1{rk:Keyed->Nat}{a b out:Array Keyed}{ia ib:Nat}(J:ML rk a b out.toList ia ib)(ub:Up rk b 0 b.size)(hi:ia<a.size)(h:kr rk a ia<=kr rk b ib):ML rk a b (out.push a[ia]).toList (ia+1) ib:=by have:=J.ak ub 1 λi hi=>%[show i=0 by lia|h];rw[Q9,jH,show ia+1-ia=1 by lia,take_one hi]at this;simpa using this
theorem ML.b1{rk:Keyed->Nat}{a b out:Array Keyed}{ia ib:Nat}(J:ML rk a b out.toList ia ib)(ua:Up rk a 0 a.size)(hi:ib<b.size)(h:kr rk b ib<=kr rk a ia):ML rk a b (out.push b[ib]).toList ia (ib+1):=(J.sym.a1 ua hi h).sym
structure g7(rk:Keyed->Nat)(a b:Array Keyed)(n:Nat)(out:Array Keyed)(ia ib:Nat):Prop where
 J:ML rk a b out.toList ia ib
 h1:ia+1<a.size
 h2:ib<b.size
 h3:n<=ia+ib
inductive LQ{α β γ τ:Type}(S:SortSt->Prop)(P P':α->β->γ->Prop)(R:Array Keyed->Prop):ForInStep (Option (Array Keyed)×α×β×γ×τ)->SortSt->Prop|yi{x y z t st}(s:S st)(h:P x y z):LQ S P P' R (.yield (none,x,y,z,t)) st|no{x y z t st}(s:S st)(h:P' x y z):LQ S P P' R (.done (none,x,y,z,t)) st|dn{r c st}(s:S st)(h:R r):LQ S P P' R (.done (some r,c)) st
section
variable{a₀:Array Keyed}{κ:SortKind}{rk:Keyed->Nat}{α β γ τ Z:Type}{st:SortSt}{Q:Z->SortSt->Prop}
theorem eV{m n:Nat}{t e:StateT SortSt Sem Z}(h1:m=n->wpS 4#0 A E s t Q st)(h2:m≠n->wpS 4#0 A E s e Q st):wpS 4#0 A E s (if(m==n)=true then t else e) Q st:=by
 by_cases h:m=n;.rw[if_pos (~~~h)];exact h1 h
 .rw[if_neg (~~~h)];exact h2 h
theorem iF{c:Prop}[Decidable c]{t e:StateT SortSt Sem Z}(h1:c->wpS 4#0 A E s t Q st)(h2:¬c->wpS 4#0 A E s e Q st):wpS 4#0 A E s (if c then t else e) Q st:=by
 by_cases h:c;.rw[if_pos h];exact h1 h
 .rw[if_neg h];exact h2 h
theorem iG{arr:Array Keyed}{i:Nat}{f:Keyed->StateT SortSt Sem Z}(hi:i<arr.size)(h:wpS 4#0 A E s (f arr[i]) Q st):wpS 4#0 A E s (elem' arr i>>=f) Q st:=Wt (vn hi h)
theorem Gy{b a:Array Keyed}{i j:Nat}{f:Keyed->Keyed->Option Bool->StateT SortSt Sem Z}(hA:iD prog w A E s a₀ κ rk)(hK:kindOf st=κ)(mb:∀x∈b,x∈a₀)(ma:∀x∈a,x∈a₀)(hi:i<b.size)(hj:j<a.size)(h1:kr rk b i<kr rk a j->wpS 4#0 A E s (f b[i] a[j] (some true)) Q st)(h2:kr rk a j<=kr rk b i->wpS 4#0 A E s (f b[i] a[j] (some false)) Q st):wpS 4#0 A E s (elem' b i>>=λx=>elem' a j>>=λy=>lt' x y>>=f x y) Q st:=by
 refine iG hi (iG hj (Wt (hA _ _ _ _ (mb _ (J9 hi)) (ma _ (J9 _)) hK ?_)));rw[gm (rk:=rk) hi,gm (rk:=rk) hj];by_cases c:kr rk b i<kr rk a j;.rw[decide_eq_true c];exact h1 c
 .rw[decide_eq_false c];exact h2 (Nat.le_of_not_lt c)
theorem vt{Gz:SortSt}{g:SortSt->SortSt}{f:PUnit->StateT SortSt Sem Z}(S:Sm Gz (g st))(h:∀ax,Sm Gz ax->wpS 4#0 A E s (f ⟨⟩) Q ax):wpS 4#0 A E s (modify g>>=f) Q st:=Wt (wpS_modify (h _ S))
theorem oR{n:Nat}{f:Nat->Option (Array Keyed)×α×β×γ×τ->StateT SortSt Sem (ForInStep (Option (Array Keyed)×α×β×γ×τ))}{k:Option (Array Keyed)×α×β×γ×τ->StateT SortSt Sem Z}(S:SortSt->Prop)(P:Nat->α->β->γ->Prop)(P':α->β->γ->Prop)(R:Array Keyed->Prop)(X4:∀x y z,P n x y z->P' x y z){x:α}{y:β}{z:γ}{t:τ}(hS:S st)(h:P 0 x y z)(X5:∀i x y z t st,S st->P i x y z->wpS 4#0 A E s (f i (none,x,y,z,t)) (LQ S (P (i+1)) P' R) st)(hd:∀r c st,S st->R r->wpS 4#0 A E s (k (some r,c)) Q st)(hn:∀x y z t st,S st->P' x y z->wpS 4#0 A E s (k (none,x,y,z,t)) Q st):wpS 4#0 A E s (forIn [:n] (none,x,y,z,t) f>>=k) Q st:=by
 refine Wt (J5 (QQ (I:=λi c st=>LQ (τ:=τ) S (P i) (P i) R (.yield c) st) (Q:=λc st=>LQ S P' P' R (.done c) st) (λi c st j j h=>?_) (λc st h=>?_) (.yi hS h)) λc st h=>?_);.cases h with|yi s h=>refine J5 (X5 i _ _ _ _ st s h) λr st h=>?_;cases h with|yi s h=>exact .yi s h|no s h=>exact .no s h|dn s h=>exact .dn s h
 .cases h with|yi s h=>exact .no s (X4 _ _ _ (by rwa[Nat.max_eq_right (Q6 n)]at h))
 .cases h with|no s h=>exact hn _ _ _ _ _ s h|dn s h=>exact hd _ _ _ s h
theorem Up.sub{rk:Keyed->Nat}{a:Array Keyed}{lo hi GF dF:Nat}(u:Up rk a lo hi)(h1:lo<=GF)(h2:dF<=hi):Up rk a GF dF:=λi j x y z=>u i j (Wy h1 x) y (WG z h2)
theorem oS{left:Bool}{b a:Array Keyed}{i base n hint:Nat}{f:Keyed->Option Nat->StateT SortSt Sem Z}(hA:iD prog w A E s a₀ κ rk)(hK:kindOf st=κ)(mb:∀x∈b,x∈a₀)(ma:∀x∈a,x∈a₀)(hi:i<b.size)(hn:base+n<=a.size)(hh:hint<n)(ua:Up rk a base (base+n))(h:∀k,k<=n->(∀j,j<k->kr rk a (base+j)<=kr rk b i)->(∀j,k<=j->j<n->kr rk b i<=kr rk a (base+j))->wpS 4#0 A E s (f b[i] (some k)) Q st):wpS 4#0 A E s (elem' b i>>=λx=>Gu left x a base n hint>>=f x) Q st:=by
 refine iG hi (Wt (X2 hA (mb _ (J9 hi)) ma hn hh hK ua λk k1 k2 k3=>h k k1 (λj hj=>?_) λj h1 h2=>?_));.have:=k2 j hj;unfold iE at this;rw[gm (rk:=rk) hi]at this;cases left<;>simp at this<;>lia
 .have:=k3 j h1 h2;unfold iE at this;rw[gm (rk:=rk) hi]at this;cases left<;>simp at this<;>lia
theorem X6{a b:Array Keyed}{st:SortSt}{Q:Array Keyed->SortSt->Prop}(hA:iD prog w A E s a₀ κ rk)(hK:kindOf st=κ)(ma:∀x∈a,x∈a₀)(mb:∀x∈b,x∈a₀)(za:0<a.size)(zb:0<b.size)(ua:Up rk a 0 a.size)(ub:Up rk b 0 b.size)(h0:kr rk b 0<=kr rk a 0)(hl:∀j,j<b.size->kr rk b j<=kr rk a (a.size-1))(h:∀r ax,Sm st ax->MR rk a b r->Q r ax):wpS 4#0 A E s (Gw a b) Q st:=by
 have J0:ML rk a b (#[b[0]]:Array Keyed).toList 0 1:=ML.b1 (out:=#[]) (ML.qZ ua ub) ua zb h0;refine Wt (wpS_lift (Qn ⟨rfl,?_⟩));refine iG (arr:=b) zb ?_;refine eV (λb1=>Wh (h _ _ (Sm.refl st) (J0.done (.inr b1)))) λb1=>?_;refine eV (λa1=>Wh (h _ _ (Sm.refl st) (J0.last a1 hl))) λa1=>?_;refine Wt (wpS_get ?_);refine oR (Sm st) (g7 rk a b) (λu u u=>False) (MR rk a b) λu u u h=>by have:=h.h1;have:=h.h2;have:=h.h3;lia (Sm.refl st) ⟨J0,Y',Y',Y'⟩ (λx out ia ib g ax S H=>?_) (λr c ax S hr=>Wh (h _ ax S hr)) λu u u u u u h=>h.elim;refine oR (.=ax) (λy=>g7 rk a b (x+y)) (g7 rk a b (x+1)) (MR rk a b) (λu u u h=>⟨h.J,h.h1,h.h2,by have:=h.h1;have:=h.h3;lia⟩) rfl H (λy out ia ib t bH e⟨J,h1,h2,h3⟩=>?_) (λr c bH e hr=>?_) λout ia ib p bH e⟨J,h1,h2,h3⟩=>?_
 .cases e;have h4:ia<a.size:=by lia
  refine Gy (i:=ib) (j:=ia) hA (S.k.trans hK) mb ma h2 h4 (λc=>iG (arr:=b) (i:=ib) h2 ?_) λc=>iG (arr:=a) (i:=ia) h4 ?_;.have J':=J.b1 ua h2 (QV c);refine eV (m:=ib+1) (λe=>Wh (.dn rfl (J'.done (.inr e)))) λe=>?_;have q:g7 rk a b (x+1) (out.push b[ib]) ia (ib+1)/\x+(y+1)<=ia+(ib+1):=⟨⟨J',h1,Y',Y'⟩,Y'⟩;exact iF (λu=>Wh (.no rfl q.1)) λu=>Wh (.yi rfl {q.1 with h3:=q.2})
  .have J':=J.a1 ub h4 c;refine eV (m:=ia+1+1) (λe=>Wh (.dn rfl (J'.last e hl))) λe=>?_;have q:g7 rk a b (x+1) (out.push a[ia]) (ia+1) ib/\x+(y+1)<=ia+1+ib:=⟨⟨J',Y',h2,Y'⟩,Y'⟩;exact iF (λu=>Wh (.no rfl q.1)) λu=>Wh (.yi rfl {q.1 with h3:=q.2})
 .cases e;exact Wh (.dn S hr)
 .cases e;refine Wt (wpS_lift (Qn ⟨rfl,?_⟩));refine oR (Sm st) (λu=>g7 rk a b (x+1)) (g7 rk a b (x+1)) (MR rk a b) (λu u u h=>h) S ⟨J,h1,h2,h3⟩ (λy out ia ib t bu S3 hh=>?_) (λr c bu S hr=>Wh (.dn S hr)) λout ia ib t bu S3 H=>vt (S3.vq _) λbQ S4=>Wh (.yi S4 H);obtain⟨J,h1,h2,h3⟩:=hh;dsimp-zeta only;extract_lets-underBinder c1 out1 c2 ia1 c3 ib1 c4 g1 c5 p1 q1 jp;have HJ:∀g':Nat,wpS 4#0 A E s (jp () g') (LQ (Sm st) (g7 rk a b (x+1)) (g7 rk a b (x+1)) (MR rk a b)) bu:=by
   refineλg'=>vt (S3.vq g') λbQ S4=>oS (i:=ib) (base:=ia) (n:=a.size-ia) hA (S4.k.trans hK) mb ma h2 Y' Y' (ua.sub Y' Y') λk k1 e2 e3=>?_;dsimp-zeta only;extract_lets-underBinder ac mj;have rh:∀(out:Array Keyed)(ia:Nat),ML rk a b out.toList ia ib->ia+1<a.size->kr rk b ib<=kr rk a ia->x+1<=ia+ib->wpS 4#0 A E s (mj () out ia) (LQ (Sm st) (g7 rk a b (x+1)) (g7 rk a b (x+1)) (MR rk a b)) bQ:=by
    intro out ia J h1 hc h3;have J':=J.b1 ua h2 hc;have hi:ia<a.size:=by lia
    refine iG (arr:=b) h2 (eV (m:=ib+1) (λe=>Wh (.dn S4 (J'.done (.inr e)))) λe=>oS (i:=ia) (base:=ib+1) (n:=b.size-(ib+1)) hA (S4.k.trans hK) ma mb hi Y' Y' (ub.sub Y' Y') λk k1 e2 e3=>?_);dsimp-zeta only;extract_lets-underBinder bc jp3;have rj:∀(out:Array Keyed)(ib:Nat),ML rk a b out.toList ia ib->ib<b.size->kr rk a ia<=kr rk b ib->x+1<=ia+ib->wpS 4#0 A E s (jp3 () out ib) (LQ (Sm st) (g7 rk a b (x+1)) (g7 rk a b (x+1)) (MR rk a b)) bQ:=by intro out ib J h2 hc h3;have J':=J.a1 ub hi hc;refine iG (arr:=a) hi (eV (m:=ia+1+1) (λe=>Wh (.dn S4 (J'.last e hl))) λe=>?_);have q:g7 rk a b (x+1) (out.push a[ia]) (ia+1) ib:=⟨J',Y',h2,Y'⟩;exact iF (λu=>Wh (.no S4 q)) λu=>Wh (.yi S4 q)
    clear_value jp3;refine iF (λk0=>?_) λk0=>?_;.have J2:=J'.bk ua k e2;exact eV (m:=ib+1+k) (λe=>Wh (.dn S4 (J2.done (.inr e)))) λe=>rj _ (ib+1+k) J2 Y' (e3 k (W7 _) Y') Y'
    .have:k=0:=by lia
     exact rj _ (ib+1) J' Y' (e3 0 Y' Y') Y'
   clear_value mj;refine iF (λk0=>?_) λk0=>?_;.have J2:=J.ak ub k e2;exact eV (m:=ia+k+1) (λe=>Wh (.dn S4 (J2.last e hl))) λe=>eV (m:=ia+k) (λe=>Wh (.dn S4 (J2.done (.inl e)))) λe=>rh _ (ia+k) J2 Y' (e3 k (W7 _) Y') Y'
   .have:k=0:=by lia
    exact rh _ ia J Y' (e3 0 Y' Y') Y'
  clear_value jp;exact iF (λu=>HJ _) λu=>HJ _
end
end Lake.SM
namespace Lake.SM
open PySem.W
structure MH(rk:Keyed->Nat)(a b:Array Keyed)(o:List Keyed)(na nb:Nat):Prop where
 pa:(a.toList.take na++o).Pairwise λx y=>rk x<=rk y
 pb:(b.toList.take nb++o).Pairwise λx y=>rk x<=rk y
 pm:((a.toList.take na++b.toList.take nb)++o).Perm (a.toList++b.toList)
theorem X7{α:Type}(l:List α){m n:Nat}(h:m<=n):l.take n=l.take m++(l.drop m).take (n-m):=by
 have:n=m+(n-m):=by lia
 conv=>lhs;rw[this,List.take_add]
theorem yY{rk:Keyed->Nat}{a:Array Keyed}{n:Nat}{x:Keyed}(hx:x∈a.toList.take n):∃j,j<n/\j<a.size/\rk x=kr rk a j:=by obtain⟨j,h1,h2,h3⟩:=q_ (rk:=rk) (i:=0) (k:=n) (~~~hx);exact⟨j,h1,Y',by rw[h3];congr 1;lia⟩
theorem MH.a{rk:Keyed->Nat}{a b:Array Keyed}{o:List Keyed}{na nb:Nat}(J:MH rk a b o na nb){m:Nat}(hm:m<=na)(h:∀x∈(a.toList.drop m).take (na-m),∀y∈b.toList.take nb,rk y<=rk x):MH rk a b ((a.toList.drop m).take (na-m)++o) m nb:=by
 have e:=X7 a.toList hm;have pa:=J.pa;rw[e]at pa;refine⟨by rw[<-WI];exact pa,?_,?_⟩
 .rw[WT];refine⟨(WT.mp J.pb).1,?_,λx hx y hy=>?_⟩;.rw[WI]at pa;exact(WT.mp pa).2.1
  .rcases WK.mp hy with hy|hy;.exact h y hy x hx
   .exact(WT.mp J.pb).2.2 x hx y hy
 .refine List.Perm.trans ?_ J.pm;conv=>rhs;rw[e]
  simp only[WI];refine List.Perm.append_left _ ?_;rw[<-WI,<-WI];exact List.perm_append_comm.append_right _
theorem MH.sym{rk:Keyed->Nat}{a b:Array Keyed}{o:List Keyed}{na nb:Nat}(J:MH rk a b o na nb):MH rk b a o nb na:=⟨J.pb,J.pa,((List.perm_append_comm.append_right o).trans J.pm).trans List.perm_append_comm⟩
theorem MH.ak{rk:Keyed->Nat}{a b out:Array Keyed}{na nb:Nat}(J:MH rk a b out.toList.reverse na nb)(ub:Up rk b 0 b.size)(hn:nb<=b.size){m:Nat}(hm:m<=na)(h:∀i,m<=i->i<na->kr rk b (nb-1)<=kr rk a i):MH rk a b (out++(a.extract m na).reverse).toList.reverse m nb:=by
 have e:(out++(a.extract m na).reverse).toList.reverse=(a.toList.drop m).take (na-m)++out.toList.reverse:=by rw[Q9,JS,jH,List.reverse_append,List.reverse_reverse]
 rw[e];refine J.a hm λx hx y hy=>?_;obtain⟨j,j1,_,e1⟩:=q_ (rk:=rk) hx;obtain⟨k,k1,k2,e2⟩:=yY (rk:=rk) hy;have:=h (m+j) Y' Y';have:=ub k (nb-1) Y' Y' Y';lia
theorem MH.a1{rk:Keyed->Nat}{a b out:Array Keyed}{na nb:Nat}(J:MH rk a b out.toList.reverse na nb)(ub:Up rk b 0 b.size)(hn:nb<=b.size)(h0:0<na)(ha:na<=a.size)(h:kr rk b (nb-1)<=kr rk a (na-1)):MH rk a b (out.push (a[na-1]' Y')).toList.reverse (na-1) nb:=by have:=J.ak ub hn (m:=na-1) Y' λi h1 h2=>%[show i=na-1 by lia|h];rw[Q9,JS,jH,show na-(na-1)=1 by lia,take_one Y']at this;simpa using this
theorem MH.bk{rk:Keyed->Nat}{a b out:Array Keyed}{na nb:Nat}(J:MH rk a b out.toList.reverse na nb)(ua:Up rk a 0 a.size)(hn:na<=a.size){m:Nat}(hm:m<=nb)(h:∀i,m<=i->i<nb->kr rk a (na-1)<=kr rk b i):MH rk a b (out++(b.extract m nb).reverse).toList.reverse na m:=(J.sym.ak ua hn hm h).sym
theorem MH.b1{rk:Keyed->Nat}{a b out:Array Keyed}{na nb:Nat}(J:MH rk a b out.toList.reverse na nb)(ua:Up rk a 0 a.size)(hn:na<=a.size)(h0:0<nb)(hb:nb<=b.size)(h:kr rk a (na-1)<=kr rk b (nb-1)):MH rk a b (out.push (b[nb-1]' Y')).toList.reverse na (nb-1):=(J.sym.a1 ua hn h0 hb h).sym
theorem MH.qZ{rk:Keyed->Nat}{a b:Array Keyed}(ua:Up rk a 0 a.size)(ub:Up rk b 0 b.size):MH rk a b (#[]:Array Keyed).toList.reverse a.size b.size:=by
 have e1:a.toList.take a.size=a.toList:=QG V';have e2:b.toList.take b.size=b.toList:=QG V';refine⟨?_,?_,?_⟩;.rw[e1];simpa using rf ua
 .rw[e2];simpa using rf ub
 .rw[e1,e2];simp
theorem MH.done{rk:Keyed->Nat}{a b out:Array Keyed}{na nb:Nat}(J:MH rk a b out.toList.reverse na nb)(h:na=0\/nb=0):MR rk a b (a.extract 0 na++b.extract 0 nb++out.reverse):=by
 have e:(a.extract 0 na++b.extract 0 nb++out.reverse).toList=a.toList.take na++b.toList.take nb++out.toList.reverse:=by rw[Q9,Q9,vp,vp,JS]
 refine⟨?_,%[e|J.pm]⟩;rw[e];rcases h with h|h;.rw[h,List.take_zero,QJ];exact J.pb
 .rw[h,List.take_zero,Qg];exact J.pa
theorem MH.first{rk:Keyed->Nat}{a b out:Array Keyed}{na nb:Nat}(J:MH rk a b out.toList.reverse na nb)(h:nb=1)(h0:∀j,j<a.size->kr rk b 0<=kr rk a j):MR rk a b (b.extract 0 nb++a.extract 0 na++out.reverse):=by
 have e:(b.extract 0 nb++a.extract 0 na++out.reverse).toList=b.toList.take nb++(a.toList.take na++out.toList.reverse):=by rw[Q9,Q9,vp,vp,JS,WI]
 refine⟨?_,by rw[e,<-WI];exact(List.perm_append_comm.append_right _).trans J.pm⟩;rw[e,WT];refine⟨(WT.mp J.pb).1,J.pa,λx hx y hy=>?_⟩;rcases WK.mp hy with hy|hy;.obtain⟨j,j1,_,e1⟩:=yY (rk:=rk) hx;obtain⟨k,k1,k2,e2⟩:=yY (rk:=rk) hy;have:=h0 k k2;rw[show j=0 by lia]at e1;lia
 .exact(WT.mp J.pb).2.2 x hx y hy
structure gn(rk:Keyed->Nat)(a b:Array Keyed)(n na nb:Nat)(out:Array Keyed):Prop where
 J:MH rk a b out.toList.reverse na nb
 h1:0<na
 h2:na<=a.size
 h3:1<nb
 h4:nb<=b.size
 h5:n+(na+nb)<=a.size+b.size
section
variable{a₀:Array Keyed}{κ:SortKind}{rk:Keyed->Nat}
theorem X8{a b:Array Keyed}{st:SortSt}{Q:Array Keyed->SortSt->Prop}(hA:iD prog w A E s a₀ κ rk)(hK:kindOf st=κ)(ma:∀x∈a,x∈a₀)(mb:∀x∈b,x∈a₀)(za:0<a.size)(zb:0<b.size)(ua:Up rk a 0 a.size)(ub:Up rk b 0 b.size)(h0:kr rk b 0<=kr rk a 0)(hl:∀j,j<b.size->kr rk b j<=kr rk a (a.size-1))(h:∀r ax,Sm st ax->MR rk a b r->Q r ax):wpS 4#0 A E s (Gx a b) Q st:=by
 have hf:∀j,j<a.size->kr rk b 0<=kr rk a j:=λj hj=>Wy h0 (ua 0 j Y' Y' hj);have zz:a.size-1<a.size:=by lia
 have J0:MH rk a b (#[a[a.size-1]]:Array Keyed).toList.reverse (a.size-1) b.size:=MH.a1 (out:=#[]) (MH.qZ ua ub) ub (W7 _) za (W7 _) (hl _ Y');refine Wt (wpS_lift (Qn ⟨rfl,?_⟩));refine iG (arr:=a) (i:=a.size-1) zz ?_;refine eV (m:=a.size-1) (λa1=>Wh (h _ _ (Sm.refl st) (J0.done (.inl a1)))) λa1=>?_;refine eV (λb1=>Wh (h _ _ (Sm.refl st) (J0.first b1 hf))) λb1=>?_;refine Wt (wpS_get ?_);refine oR (Sm st) (gn rk a b) (λu u u=>False) (MR rk a b) λu u u h=>by have:=h.h1;have:=h.h3;have:=h.h5;lia (Sm.refl st) ⟨J0,Y',Y',Y',Y',Y'⟩ (λx na nb out g ax S H=>?_) (λr c ax S hr=>Wh (h _ ax S hr)) λu u u u u u h=>h.elim;refine oR (.=ax) (λy=>gn rk a b (x+y)) (gn rk a b (x+1)) (MR rk a b) (λu u u h=>{h with h5:=by have:=h.h1;have:=h.h5;lia}) rfl H (λy na nb out t bH e⟨J,h1,h2,h3,h4,h5⟩=>?_) (λr c bH e hr=>?_) λna nb out p bH e⟨J,h1,h2,h3,h4,h5⟩=>?_
 .cases e;have ib:nb-1<b.size:=by lia
  have ia:na-1<a.size:=by lia
  refine Gy (i:=nb-1) (j:=na-1) hA (S.k.trans hK) mb ma ib ia (λc=>iG (arr:=a) (i:=na-1) ia ?_) λc=>iG (arr:=b) (i:=nb-1) ib ?_;.have J':=J.a1 ub h4 h1 h2 (QV c);refine eV (m:=na-1) (λe=>Wh (.dn rfl (J'.done (.inl e)))) λe=>?_;have q:gn rk a b (x+1) (na-1) nb (out.push a[na-1])/\x+(y+1)+(na-1+nb)<=a.size+b.size:=⟨⟨J',Y',Y',h3,h4,Y'⟩,Y'⟩;exact iF (λu=>Wh (.no rfl q.1)) λu=>Wh (.yi rfl {q.1 with h5:=q.2})
  .have J':=J.b1 ua h2 Y' h4 c;refine eV (m:=nb-1) (λe=>Wh (.dn rfl (J'.first e hf))) λe=>?_;have q:gn rk a b (x+1) na (nb-1) (out.push b[nb-1])/\x+(y+1)+(na+(nb-1))<=a.size+b.size:=⟨⟨J',h1,h2,Y',Y',Y'⟩,Y'⟩;exact iF (λu=>Wh (.no rfl q.1)) λu=>Wh (.yi rfl {q.1 with h5:=q.2})
 .cases e;exact Wh (.dn S hr)
 .cases e;refine Wt (wpS_lift (Qn ⟨rfl,?_⟩));refine oR (Sm st) (λu=>gn rk a b (x+1)) (gn rk a b (x+1)) (MR rk a b) (λu u u h=>h) S ⟨J,h1,h2,h3,h4,h5⟩ (λy na nb out t bu S3 hh=>?_) (λr c bu S hr=>Wh (.dn S hr)) λna nb out t bu S3 H=>vt (S3.vq _) λbQ S4=>Wh (.yi S4 H);obtain⟨J,h1,h2,h3,h4,h5⟩:=hh;dsimp-zeta only;extract_lets-underBinder c1 na1 c2 nb1 c3 out1 c4 g1 c5 p1 q1 jp;have HJ:∀g':Nat,wpS 4#0 A E s (jp () g') (LQ (Sm st) (gn rk a b (x+1)) (gn rk a b (x+1)) (MR rk a b)) bu:=by
   have ib:nb-1<b.size:=by lia
   refineλg'=>vt (S3.vq g') λbQ S4=>oS (i:=nb-1) (base:=0) (n:=na) (hint:=na-1) hA (S4.k.trans hK) mb ma ib Y' Y' (ua.sub Y' Y') λk k1 e2 e3=>?_;simp only[Jx]at e2 e3;dsimp-zeta only;extract_lets-underBinder kk ac mj;have rh:∀(na:Nat)(out:Array Keyed),gn rk a b (x+1) na nb out->kr rk a (na-1)<=kr rk b (nb-1)->wpS 4#0 A E s (mj () na out) (LQ (Sm st) (gn rk a b (x+1)) (gn rk a b (x+1)) (MR rk a b)) bQ:=by
    intro na out⟨J,h1,h2,h3,h4,h5⟩hc;have J':=J.b1 ua h2 Y' h4 hc;have hi:na-1<a.size:=by lia
    refine iG (arr:=b) ib (eV (m:=nb-1) (λe=>Wh (.dn S4 (J'.first e hf))) λe=>oS (i:=na-1) (base:=0) (n:=nb-1) (hint:=nb-1-1) hA (S4.k.trans hK) ma mb hi Y' Y' (ub.sub Y' Y') λk k1 e2 e3=>?_);simp only[Jx]at e2 e3;dsimp-zeta only;extract_lets-underBinder kk bc jp3;have rj:∀(nb:Nat)(out:Array Keyed),gn rk a b (x+1) na nb out->kr rk b (nb-1)<=kr rk a (na-1)->wpS 4#0 A E s (jp3 () nb out) (LQ (Sm st) (gn rk a b (x+1)) (gn rk a b (x+1)) (MR rk a b)) bQ:=by intro nb out⟨J,h1,h2,h3,h4,h5⟩hc;have J':=J.a1 ub h4 h1 h2 hc;refine iG (arr:=a) hi (eV (m:=na-1) (λe=>Wh (.dn S4 (J'.done (.inl e)))) λe=>?_);have q:gn rk a b (x+1) (na-1) nb (out.push a[na-1]):=⟨J',Y',Y',h3,h4,Y'⟩;exact iF (λu=>Wh (.no S4 q)) λu=>Wh (.yi S4 q)
    clear_value jp3;refine iF (c:=nb-1-k>0) (λk0=>?_) λk0=>?_;.have J2:=J'.bk ua h2 k1 e3;exact eV (m:=k) (λe=>Wh (.dn S4 (J2.first e hf))) λe=>eV (m:=k) (λe=>Wh (.dn S4 (J2.done (.inr e)))) λe=>rj k _ ⟨J2,h1,h2,Y',Y',Y'⟩ (e2 _ Y')
    .have:k=nb-1:=by lia
     cases this;exact rj (nb-1) _ ⟨J',h1,h2,Y',Y',Y'⟩ (e2 _ Y')
   clear_value mj;refine iF (c:=na-k>0) (λk0=>?_) λk0=>?_;.have J2:=J.ak ub h4 k1 e3;exact eV (m:=k) (λe=>Wh (.dn S4 (J2.done (.inl e)))) λe=>rh k _ ⟨J2,Y',Y',h3,h4,Y'⟩ (e2 _ Y')
   .have:k=na:=by lia
    cases this;exact rh na _ ⟨J,h1,h2,h3,h4,h5⟩ (e2 _ Y')
  clear_value jp;exact iF (λu=>HJ _) λu=>HJ _
end
end Lake.SM
namespace Lake.SM
open PySem.W
theorem GG(k:Nat):∀(l:List Keyed)(n:Nat)(a:Array Keyed),k+n+l.length<=a.size->((l.zipIdx n).foldl (λa(x:Keyed×Nat)=>a.setIfInBounds (k+x.2) x.1) a).toList=a.toList.take (k+n)++(l++a.toList.drop (k+n+l.length))
 |[],n,a,h=>by simp|x::l,n,a,h=>by
  rw[List.zipIdx_cons,JK];have hl:k+n<a.size:=by simp at h;lia
  have ih:=GG k l (n+1) (a.setIfInBounds (k+n) x) (by simp at h⊢;lia);rw[ih];have e:(a.setIfInBounds (k+n) x).toList=a.toList.set (k+n) x:=by simp
  rw[e];have iV:k+n<a.toList.length:= ~~~hl;rw[show k+(n+1)=k+n+1 by lia,List.take_succ_eq_append_getElem (~~~hl)];rw[List.take_set_of_le (W7 _)];have e2:(a.toList.set (k+n) x)[k+n]'(~~~hl)=x:=by simp
  rw[e2,WI];congr 1;rw[List.drop_set_of_lt Y',WV,show k+n+(l.length+1)=k+n+1+l.length by lia];rfl
theorem X9{arr' arr M:Array Keyed}{sa e:Nat}(h:arr'.toList=arr.toList.take sa++(M.toList++arr.toList.drop e))(he:sa+M.size=e)(hz:e<=arr.size)(j:Nat):arr'[j]?=if j<sa then arr[j]? else if j<e then M[j-sa]? else arr[j]?:=by
 rw[<-Qq,h];have hl:(arr.toList.take sa).length=sa:=by simp;lia
 by_cases h1:j<sa;.rw[if_pos h1,Qw Y',List.getElem?_take_of_lt h1,Qq]
 .rw[if_neg h1,Jj Y',hl];by_cases h2:j<e;.rw[if_pos h2,Qw Re,Qq]
  .rw[if_neg h2,Jj Re,List.getElem?_drop,Qq];congr 1;simp;lia
theorem four{α:Type}(l:List α){a b c:Nat}(h1:a<=b)(h2:b<=c):l=l.take a++((l.drop a).take (b-a)++((l.drop b).take (c-b)++l.drop c)):=by have e1:=yX l b (c-b);rw[show b+(c-b)=c by lia]at e1;have e2:=yX l a (b-a);rw[show a+(b-a)=b by lia]at e2;rw[<-e1,<-e2,JR]
theorem X_{arr arr' M:Array Keyed}{sa0 sa sb n' nb:Nat}(hM:MR rk (arr.extract sa sb) (arr.extract sb (sb+n')) M)(h:arr'.toList=arr.toList.take sa++(M.toList++arr.toList.drop (sb+n')))(hs:sa+M.size=sb+n')(a0:sa0<=sa)(ab:sa<=sb)(hn:n'<=nb)(hz:sb+nb<=arr.size)(ua:Up rk arr sa0 sb)(ub:Up rk arr sb (sb+nb))(F1:∀i t,sa0<=i->i<sa->sa<=t->t<sb+nb->kr rk arr i<=kr rk arr t)(F2:∀t j,sa0<=t->t<sb+n'->sb+n'<=j->j<sb+nb->kr rk arr t<=kr rk arr j):arr'.Perm arr/\Up rk arr' sa0 (sb+nb)/\∀j,j<sa0\/sb+nb<=j->arr'[j]?=arr[j]?:=by
 have at':=X9 h Y' Y';refine⟨?_,?_,λj hj=>?_⟩
 .rw[Array.perm_iff_toList_perm,h];conv=>rhs;rw[four arr.toList ab (show sb<=sb+n' by lia)]
  refine List.Perm.append_left _ ?_;rw[<-WI];refine List.Perm.append_right _ ?_;have:=hM.pm;rw[jH,jH]at this;exact this
 .have GH:∀j,sa<=j->j<sb+n'->∃t,sa<=t/\t<sb+n'/\kr rk arr' j=kr rk arr t:=λj h1 h2=>by
   have hj:j-sa<M.size:=by lia
   have e:kr rk arr' j=kr rk M (j-sa):=by refine g6 ?_;rw[at' j,if_neg Y',if_pos h2]
   rw[e,<-gm (rk:=rk) hj];have hm:M[j-sa]∈M.toList:=by simp
   have hm:=hM.pm.mem_iff.mp hm;rcases WK.mp hm with hm|hm;.rw[jH]at hm;obtain⟨u,u1,u2,e⟩:=q_ (rk:=rk) hm;exact⟨sa+u,Y',Y',e⟩
   .rw[jH]at hm;obtain⟨u,u1,u2,e⟩:=q_ (rk:=rk) hm;exact⟨sb+u,Y',Y',e⟩
  have out:∀j,j<sa\/sb+n'<=j->kr rk arr' j=kr rk arr j:=λj hj=>by
   refine g6 ?_;rw[at' j];by_cases h1:j<sa;.rw[if_pos h1]
   .rw[if_neg h1,if_neg Y']
  intro i j h1 h2 h3;by_cases ia:i<sa
  .rw[out i (.inl ia)];by_cases ja:j<sa;.rw[out j (.inl ja)];exact ua i j h1 h2 Y'
   .by_cases jb:j<sb+n';.obtain⟨t,t1,t2,e⟩:=GH j Y' jb;rw[e];exact F1 i t h1 ia t1 Y'
    .rw[out j (.inr Y')];exact F1 i j h1 ia Y' h3
  .by_cases ib:i<sb+n'
   .by_cases jb:j<sb+n'
    .by_cases ij:i=j;.rw[ij];exact W7 _
     .have hi:i-sa<M.size:=by lia
      have hj:j-sa<M.size:=by lia
      have e1:kr rk arr' i=kr rk M (i-sa):=g6 (by rw[at' i,if_neg Y',if_pos ib]);have e2:kr rk arr' j=kr rk M (j-sa):=g6 (by rw[at' j,if_neg Y',if_pos jb]);rw[e1,e2,<-gm (rk:=rk) hi,<-gm (rk:=rk) hj];have:=List.pairwise_iff_getElem.mp hM.up (i-sa) (j-sa) (~~~hi) (~~~hj) Y';simpa using this
    .obtain⟨t,t1,t2,e⟩:=GH i Y' ib;rw[e,out j (.inr Y')];exact F2 t j Y' t2 Y' h3
   .rw[out i (.inr Y'),out j (.inr Y')];exact ub i j Y' h2 h3
 .rw[at' j];by_cases h1:j<sa;.rw[if_pos h1]
  .rw[if_neg h1,if_neg Y']
theorem Ya{Y:Type}{M:Model}{A:Wp}{E:Value->W1->Prop}{s:W1}{st ax:Y}{Q:PUnit->Y->Prop}(h:Q ⟨⟩ ax):wpS M A E s (set ax:StateT Y Sem PUnit) Q st:=by unfold wpS;rw[StateT.run_set];exact W2 ⟨rfl,h⟩
theorem GI{rk:Keyed->Nat}{arr:Array Keyed}{a b n:Nat}(e:b=a+n)(h:b<=arr.size)(u:Up rk arr a b):Up rk (arr.extract a b) 0 (arr.extract a b).size/\(arr.extract a b).size=n/\(∀i,i<n->kr rk (arr.extract a b) i=kr rk arr (a+i))/\∀x∈arr.extract a b,x∈arr:=by
 cases e;have hs:(arr.extract a (a+n)).size=n:=by rw[Array.size_extract,Ut h,Nat.add_sub_cancel_left]
 have e:∀i,i<n->kr rk (arr.extract a (a+n)) i=kr rk arr (a+i):=λi hi=>g6 (by rw[Array.getElem?_extract,if_pos %[Ut h,Nat.add_sub_cancel_left|hi]]);refine⟨λi j k h2 h3=>?_,hs,e,λx hx=>?_⟩;.rw[hs]at h3;rw[e i (QN h2 h3),e j h3];exact u _ _ (QP _ _) (U1 h2 _) (Nat.add_lt_add_left h3 _)
 .have:x∈(arr.extract a (a+n)).toList:=Array.mem_toList_iff.mpr hx;rw[jH]at this;have:=JT (Js this);simpa using this
section
variable{a₀:Array Keyed}{κ:SortKind}{rk:Keyed->Nat}
theorem Yb{st:SortSt}{i sa na pw sb nb yZ:Nat}{Q:Bool->SortSt->Prop}(hA:iD prog w A E s a₀ κ rk)(hB:UV a₀ κ st)(p1:(Ww st)[i]?=some (sa,na,pw))(p2:(Ww st)[i+1]?=some (sb,nb,yZ))(es:sb=sa+na)(a1:0<na)(b1:0<nb)(hz:sb+nb<=a₀.size)(ua:Up rk (Wg st) sa sb)(ub:Up rk (Wg st) sb (sb+nb))(h:∀ax,UV a₀ κ ax->Ww ax=((Ww st).setIfInBounds i (sa,na+nb,pw)).eraseIdxIfInBounds (i+1)->Up rk (Wg ax) sa (sb+nb)->(∀j,j<sa\/sb+nb<=j->(Wg ax)[j]?=(Wg st)[j]?)->Q true ax):wpS 4#0 A E s (mergeAt' i) Q st:=by
 refine Wt (wpS_get ?_);rw[p1,p2];have zz:=hB.size;have hm:∀x∈Wg st,x∈a₀:=λx hx=>hB.mem hx;refine Wt (Ya ?_);have S1:kindOf (JU st (((Ww st).setIfInBounds i (sa,na+nb,pw)).eraseIdxIfInBounds (i+1)))=κ/\Wg (JU st (((Ww st).setIfInBounds i (sa,na+nb,pw)).eraseIdxIfInBounds (i+1)))=Wg st/\Ww (JU st (((Ww st).setIfInBounds i (sa,na+nb,pw)).eraseIdxIfInBounds (i+1)))=((Ww st).setIfInBounds i (sa,na+nb,pw)).eraseIdxIfInBounds (i+1)/\failedOf (JU st (((Ww st).setIfInBounds i (sa,na+nb,pw)).eraseIdxIfInBounds (i+1)))=none:=⟨hB.kind,rfl,rfl,hB.good⟩;show wpS _ _ _ _ _ _ (JU st (((Ww st).setIfInBounds i (sa,na+nb,pw)).eraseIdxIfInBounds (i+1)));revert S1;generalize JU st (((Ww st).setIfInBounds i (sa,na+nb,pw)).eraseIdxIfInBounds (i+1))=st1;intro⟨k1,ar1,pe1,fa1⟩;have GJ:UV a₀ κ st1:=⟨%[ar1|hB.perm],k1,fa1⟩;refine oS (b:=Wg st) (a:=Wg st) (i:=sb) (base:=sa) (n:=na) hA k1 hm hm Y' Y' a1 (by rw[<-es];exact ua) λk c1 e2 e3=>?_;have ek:k+(na-k)=na:=Nat.add_sub_cancel' c1;refine eV (m:=na-k) (λn0=>Wh (h st1 GJ pe1 ?_ λj v=>by rw[ar1])) λn0=>?_
 .rw[ar1];intro x y h1 h2 h3;by_cases hy:y<sb;.exact ua x y h1 h2 hy
  .by_cases hx:x<sb;.obtain⟨j,rfl⟩:=Nat.exists_eq_add_of_le h1;exact Wy (e2 j Y') (ub sb y (W7 _) Y' h3)
   .exact ub x y Y' h2 h3
 obtain⟨p,ep⟩:∃p,sb=p+1:=⟨sb-1,Y'⟩;have el:sa+k+(na-k)-1=p:=by lia
 refine oS (b:=Wg st) (a:=Wg st) (i:=sa+k+(na-k)-1) (base:=sb) (n:=nb) (hint:=nb-1) hA k1 hm hm Y' Y' Y' ub λn' d1 f2 f3=>?_;rw[el]at f2 f3;clear el;generalize na-k=d at*;have F1:∀i t,sa<=i->i<sa+k->sa+k<=t->t<sb+nb->kr rk (Wg st) i<=kr rk (Wg st) t:=λi t h1 h2 h3 h4=>by
  by_cases ht:t<sb;.exact ua i t h1 Y' ht
  .obtain⟨j,rfl⟩:=Nat.exists_eq_add_of_le h1;exact Wy (e2 j Y') (ub sb t (W7 _) Y' h4)
 have F2:∀t j,sa<=t->t<sb+n'->sb+n'<=j->j<sb+nb->kr rk (Wg st) t<=kr rk (Wg st) j:=λt j h1 h2 h3 h4=>by
  by_cases ht:t<sb;.obtain⟨u,rfl⟩:=Nat.exists_eq_add_of_le (Wy (QP _ _) h3);exact Wy (ua t p h1 Y' Y') (f3 u Y' Y')
  .exact ub t j Y' Y' h4
 refine eV (m:=n') (λm0=>Wh (h st1 GJ pe1 ?_ λj v=>by rw[ar1])) λm0=>?_
 .rw[ar1];intro x y h1 h2 h3;by_cases hy:y<sb;.exact ua x y h1 h2 hy
  .by_cases hx:x<sb;.exact F2 x y h1 Y' Y' h3
   .exact ub x y Y' h2 h3
 obtain⟨xu,xs,xk,xm⟩:=GI (rk:=rk) (arr:=Wg st) (a:=sa+k) (b:=sb) (n:=d) Y' Y' (ua.sub Y' (W7 _));obtain⟨yu,ys,yk,ym⟩:=GI (rk:=rk) (arr:=Wg st) (a:=sb) (b:=sb+n') rfl Y' (ub.sub (W7 _) Y');have g0:kr rk ((Wg st).extract sb (sb+n')) 0<=kr rk ((Wg st).extract (sa+k) sb) 0:=by rw[xk 0 Y',yk 0 Y'];exact e3 k (W7 _) Y'
 have gl:∀j,j<((Wg st).extract sb (sb+n')).size->kr rk ((Wg st).extract sb (sb+n')) j<=kr rk ((Wg st).extract (sa+k) sb) (((Wg st).extract (sa+k) sb).size-1):=λj hj=>by rw[ys]at hj;rw[xs,xk _ Y',yk j hj,show sa+k+(d-1)=p by lia];exact f2 j hj
 dsimp-zeta only;extract_lets-underBinder x y jp;have HJ:∀(M:Array Keyed)bH,Sm st1 bH->MR rk ((Wg st).extract (sa+k) sb) ((Wg st).extract sb (sb+n')) M->wpS 4#0 A E s (jp M) Q bH:=by
  intro M bH S2 hM;have hs:sa+k+M.size=sb+n':=by have:=hM.pm.length_eq;simp only[Qc,Q8,xs,ys]at this;lia
  have e2:Wg bH=Wg st:=S2.a.trans ar1;refine Wt (wpS_modify (Wt (wpS_get ?_)));have W:=GG (sa+k) M.toList 0 (Wg st) Re;obtain⟨r1,r2,r3⟩:=X_ (rk:=rk) (arr':=(M.toList.zipIdx 0).foldl (λa(x:Keyed×Nat)=>a.setIfInBounds (sa+k+x.2) x.1) (Wg st)) (sa0:=sa) (nb:=nb) hM (by rw[W,Nat.add_zero,Q8,hs]) hs (QP _ _) Y' d1 Y' ua ub F1 F2;have go:=h (setArr bH ((M.toList.zipIdx 0).foldl (λa(x:Keyed×Nat)=>a.setIfInBounds (sa+k+x.2) x.1) (Wg bH))) (by rw[e2];exact⟨r1.trans hB.perm,S2.k.trans k1,S2.f.trans fa1⟩) (S2.p.trans pe1) %[e2|r2] %[e2|r3];have ft:(failedOf bH).isNone=true:=by rw[S2.f,fa1];rfl
  have:=Wh (M:=4#0) (A:=A) (E:=E) (s:=s) (a:=true) (Q:=Q) go;show wpS _ _ _ _ (pure (failedOf bH).isNone) Q _;rw[ft];exact this
 clear_value jp;refine iF (λhle=>?_) λhle=>?_;.exact Wt (m:=Gw ((Wg st).extract (sa+k) sb) ((Wg st).extract sb (sb+n'))) (X6 hA k1 (λx hx=>hm x (xm x hx)) (λx hx=>hm x (ym x hx)) Y' Y' xu yu g0 gl λr bH S2 hr=>HJ r bH S2 hr)
 .exact Wt (m:=Gx ((Wg st).extract (sa+k) sb) ((Wg st).extract sb (sb+n'))) (X8 hA k1 (λx hx=>hm x (xm x hx)) (λx hx=>hm x (ym x hx)) Y' Y' xu yu g0 gl λr bH S2 hr=>HJ r bH S2 hr)
end
end Lake.SM
namespace Lake.SM
open PySem.W
def gG(rk:Keyed->Nat)(xs:Array Keyed):List (Nat×Nat×Nat)->Nat->Nat->Prop|[],a,b=>a=b|t::r,a,b=>t.1=a/\0<t.2.1/\Up rk xs a (a+t.2.1)/\gG rk xs r (a+t.2.1) b
theorem vw{rk:Keyed->Nat}{xs:Array Keyed}:∀(l1 l2:List (Nat×Nat×Nat))(a b:Nat),gG rk xs (l1++l2) a b↔∃c,gG rk xs l1 a c/\gG rk xs l2 c b|[],l2,a,b=>⟨λh=>⟨a,rfl,h⟩,λ⟨c,h1,h2⟩=>by cases h1;exact h2⟩|t::r,l2,a,b=>by show t.1=a/\0<t.2.1/\Up rk xs a (a+t.2.1)/\gG rk xs (r++l2) (a+t.2.1) b↔_;rw[vw r l2];exact⟨λ⟨h1,h2,h3,c,h4,h5⟩=>⟨c,⟨h1,h2,h3,h4⟩,h5⟩,λ⟨c,⟨h1,h2,h3,h4⟩,h5⟩=>⟨h1,h2,h3,c,h4,h5⟩⟩
theorem rm{rk:Keyed->Nat}{xs:Array Keyed}:∀(l:List (Nat×Nat×Nat))(a b:Nat),gG rk xs l a b->a+l.length<=b|[],a,b,h=>by cases h;simp|t::r,a,b,⟨_,h2,_,h4⟩=>by have:=rm r _ _ h4;simp;lia
theorem vx{rk:Keyed->Nat}{xs ys:Array Keyed}:∀(l:List (Nat×Nat×Nat))(a b:Nat),(∀j,a<=j->j<b->ys[j]?=xs[j]?)->gG rk xs l a b->gG rk ys l a b|[],a,b,_,h=>h|t::r,a,b,e,⟨h1,h2,h3,h4⟩=>by have:=rm r _ _ h4;refine⟨h1,h2,λi j x y z=>?_,vx r _ _ (λj h5 h6=>e j Y' h6) h4⟩;rw[g6 (rk:=rk) (e i Y' Y'),g6 (rk:=rk) (e j Y' Y')];exact h3 i j x y z
theorem GN{rk:Keyed->Nat}{xs:Array Keyed}:∀(l m:List (Nat×Nat×Nat))(a b:Nat),l.map (λt=>(t.1,t.2.1))=m.map (λt=>(t.1,t.2.1))->gG rk xs l a b->gG rk xs m a b|[],[],a,b,_,h=>h|[],_::_,_,_,e,_=>by simp at e|_::_,[],_,_,e,_=>by simp at e|t::l,u::m,a,b,e,⟨h1,h2,h3,h4⟩=>by simp only[Wl,Us,Prod.mk.injEq]at e;obtain⟨⟨e1,e2⟩,e3⟩:=e;rw[e2]at h2 h3 h4;exact⟨e1▸h1,h2,h3,GN l m _ _ e3 h4⟩
theorem Yc{α:Type}{l:List α}{i:Nat}(h:i+1<l.length):∃l1 x y l2,l=l1++x::y::l2/\l1.length=i/\l[i]?=some x/\l[i+1]?=some y:=by refine⟨l.take i,l[i],l[i+1],l.drop (i+2),?_,by simp;lia,#v[show i<l.length by lia],#v[h]⟩;rw[<-Qx h,<-Qx Y',JR]
section
variable{a₀:Array Keyed}{κ:SortKind}{rk:Keyed->Nat}
theorem GQ{st:SortSt}{i lo:Nat}{Q:Bool->SortSt->Prop}(hA:iD prog w A E s a₀ κ rk)(hB:UV a₀ κ st)(hs:gG rk (Wg st) (Ww st).toList 0 lo)(hz:lo<=a₀.size)(hi:i+1<(Ww st).size)(h:∀ax,UV a₀ κ ax->gG rk (Wg ax) (Ww ax).toList 0 lo->(Ww ax).size+1=(Ww st).size->(∀j,lo<=j->(Wg ax)[j]?=(Wg st)[j]?)->Q true ax):wpS 4#0 A E s (mergeAt' i) Q st:=by
 obtain⟨l1,⟨sa,na,pw⟩,⟨sb,nb,yZ⟩,l2,el,hl,e1,e2⟩:=Yc (l:=(Ww st).toList) (i:=i) (~~~hi);rw[el,vw]at hs;obtain⟨c,s1,s2⟩:=hs;obtain⟨x1,x2,x3,x4⟩:=s2;obtain⟨y1,y2,y3,y4⟩:=x4;have z1:=rm _ _ _ s1;have z2:=rm _ _ _ y4;simp only at x1 x2 x3 y1 y2 y3 y4 z2;subst x1;subst y1;rw[Qq]at e1 e2;refine Yb hA hB e1 e2 rfl x2 y2 Y' x3 y3 λax B' P' U' K'=>?_;have ep:(Ww ax).toList=l1++(sa,na+nb,pw)::l2:=by
  rw[P'];have q:((Ww st).setIfInBounds i (sa,na+nb,pw)).toList=l1++(sa,na+nb,pw)::(sa+na,nb,yZ)::l2:=by rw[Array.toList_setIfInBounds,el,List.set_append_right _ _ Y',hl];simp
  have hlen:i+1<((Ww st).setIfInBounds i (sa,na+nb,pw)).size:= ~~~hi;rw[Array.eraseIdxIfInBounds,dif_pos hlen,Array.toList_eraseIdx,q,List.eraseIdx_append_of_length_le Y',hl,show i+1-i=1 by lia];rfl
 refine h ax B' ?_ ?_ λj hj=>K' j (.inr Y')
 .rw[ep,vw];refine⟨sa,vx _ _ _ (λj k h2=>K' j (.inl h2)) s1,rfl,by simp only;lia,?_,?_⟩;.simp only;rw[<-Nat.add_assoc];exact U'
  .simp only;rw[<-Nat.add_assoc];exact vx _ _ _ (λj h1 k=>K' j (.inr Y')) y4
 .rw[<-Q8,<-Q8,ep,el];simp;lia
theorem Yd(c:Prop)[Decidable c]{a b n:Nat}(h1:a+1<n)(h2:b+1<n):(if c then a else b)+1<n:=by split<;>assumption
theorem GV{α β:Type}(g:α->β)(f:α->α)(h:∀t,g (f t)=g t):∀(l:List α)(k:Nat),(l.modify k f).map g=l.map g|[],k=>by simp|t::l,0=>#v[h]|t::l,k+1=>#v[GV g f h l k]
structure At(a₀:Array Keyed)(κ:SortKind)(rk:Keyed->Nat)(lo:Nat)(st:SortSt):Prop where
 b:UV a₀ κ st
 g:gG rk (Wg st) (Ww st).toList 0 lo
theorem At.keep{lo:Nat}{st ax:SortSt}(a:At a₀ κ rk lo st)(k:eE a₀ κ lo st ax):At a₀ κ rk lo ax:=⟨k.sb,%[k.pd|vx _ _ _ (λj y h=>k.at' j h) a.g]⟩
theorem At.push{lo n pw:Nat}{st:SortSt}(a:At a₀ κ rk lo st)(n0:0<n)(u:Up rk (Wg st) lo (lo+n)):At a₀ κ rk (lo+n) (JU st ((Ww st).push (lo,n,pw))):=⟨⟨a.b.perm,a.b.kind,a.b.good⟩,by show gG rk (Wg st) ((Ww st).push (lo,n,pw)).toList 0 (lo+n);rw[Array.toList_push,vw];exact⟨lo,a.g,rfl,n0,u,rfl⟩⟩
theorem Ye{st:SortSt}{Q:Unit->SortSt->Prop}(hA:iD prog w A E s a₀ κ rk)(hB:UV a₀ κ st)(hp:Ww st=#[])(h2:2<=a₀.size)(h:∀ax,UV a₀ κ ax->Up rk (Wg ax) 0 a₀.size->Q () ax):wpS 4#0 A E s sortRuns' Q st:=by
 rw[sortRuns'_eq];refine Wt (wpS_get ?_);rw[hB.size];refine Wt (J5 (QQ (I:=λx c ax=>∃lo,c=(none,lo)/\x<=lo/\lo<=a₀.size/\At a₀ κ rk lo ax) (Q:=λc ax=>c=(none,a₀.size)/\At a₀ κ rk a₀.size ax) ?step ?fin ⟨0,rfl,W7 _,Q6 _,hB,by rw[hp];rfl⟩) ?post);case fin=>
  rintro c ax⟨lo,rfl,l1,l2,a⟩;have:lo=a₀.size:=by lia
  subst this;exact⟨rfl,a⟩
 case step=>
  rintro x c ax _ hx⟨lo,rfl,l1,l2,a⟩;show wpS _ _ _ _ (if lo≥a₀.size then _ else _) _ ax;by_cases qa:lo≥a₀.size
  .rw[if_pos qa];have:lo=a₀.size:=by lia
   subst this;exact Wh ⟨rfl,a⟩
  rw[if_neg qa];refine Wt (XZ hA Y' Y' a.b λm bH K2 m1 m2 u2=>?_);have a2:=a.keep K2;dsimp-zeta only;extract_lets-underBinder n jp;have HJ:∀(n:Nat)bu,At a₀ κ rk lo bu->1<=n->lo+n<=a₀.size->Up rk (Wg bu) lo (lo+n)->wpS 4#0 A E s (jp () n) (λr ax=>match r with|.done c'=>c'=(none,a₀.size)/\At a₀ κ rk a₀.size ax|.yield c'=>∃lo,c'=(none,lo)/\x+1<=lo/\lo<=a₀.size/\At a₀ κ rk lo ax) bu:=by intro n bu a3 n1 n2 u3;refine Wt (wpS_get ?_);cases hb:(Ww bu).back? with|none=>show wpS _ _ _ _ (modify _>>=_) _ bu;exact Wt (wpS_modify (Wh ⟨lo+n,rfl,Y',n2,a3.push n1 u3⟩))|some t=>
    obtain⟨s1,n1',z⟩:=t;have np:0<(Ww bu).size:=by
     rcases Nat.eq_zero_or_pos (Ww bu).size with e|e;.rw[Array.eq_empty_of_size_eq_zero e]at hb;simp at hb
     .exact e
    show wpS _ _ _ _ (forIn [:a₀.size] (none,()) _>>=_) _ bu;refine Wt (J5 (QQ (I:=λy c bQ=>c=(none,())/\At a₀ κ rk lo bQ/\Up rk (Wg bQ) lo (lo+n)/\0<(Ww bQ).size) (Q:=λc bQ=>c=(none,())/\At a₀ κ rk lo bQ/\Up rk (Wg bQ) lo (lo+n)/\0<(Ww bQ).size) ?mstep (λk k hh=>hh) ⟨rfl,a3,u3,np⟩) ?mpost);case mstep=>
     rintro y c bQ _ hy⟨rfl,a4,u4,p4⟩;refine Wt (wpS_get ?_);dsimp only;by_cases hp:(Ww bQ).size>1
     .rw[if_pos hp];have bh:(Ww bQ).size-2<(Ww bQ).size:=by lia
      rw[getElem?_pos (Ww bQ) ((Ww bQ).size-2) bh];generalize(Ww bQ)[(Ww bQ).size-2]=t;obtain⟨t1,t2,t3⟩:=t;dsimp only;split;.exact Wh ⟨rfl,a4,u4,p4⟩
      .refine Wt (GQ hA a4.b a4.g l2 Y' λgM b5 g5 z5 k5=>?_);refine Wh ⟨rfl,⟨b5,g5⟩,λi j h1 h2 h3=>?_,Y'⟩;rw[g6 (rk:=rk) (k5 i h1),g6 (rk:=rk) (k5 j Y')];exact u4 i j h1 h2 h3
     .rw[if_neg hp];exact Wh ⟨rfl,a4,u4,p4⟩
    case mpost=>rintro c bQ⟨rfl,a4,u4,p4⟩;refine Wt (wpS_modify ?_);have a5:At a₀ κ rk lo (JU bQ ((Ww bQ).modify ((Ww bQ).size-1) λx=>(x.1,x.2.1,power' a₀.size (2*s1+n1') (2*s1+n1'+n1'+n) a₀.size))):=⟨⟨a4.b.perm,a4.b.kind,a4.b.good⟩,by show gG rk (Wg bQ) ((Ww bQ).modify _ _).toList 0 lo;refine GN _ _ _ _ ?_ a4.g;rw[Array.toList_modify];exact(GV (λt:Nat×Nat×Nat=>(t.1,t.2.1)) (λx=>(x.1,x.2.1,power' a₀.size (2*s1+n1') (2*s1+n1'+n1'+n) a₀.size)) (λt=>rfl) _ _).symm⟩;exact Wt (wpS_modify (Wh ⟨lo+n,rfl,Y',n2,a5.push n1 u4⟩))
  clear_value jp;show wpS _ _ _ _ (if m<minRun' a₀.size a₀.size 0 then _ else _) _ bH;by_cases hm:m<minRun' a₀.size a₀.size 0;.rw[if_pos hm];refine Wt (wpS_lift (Qn ⟨rfl,?_⟩));refine Wt (X0 hA Y' m1 Y' K2.sb u2 λbu K3 u3=>?_);exact J5 (HJ _ bu (a2.keep K3) Y' Y' u3) λr ax hr=>by cases r<;>exact hr
  .rw[if_neg hm];exact J5 (HJ _ bH a2 m1 Y' u2) λr ax hr=>by cases r<;>exact hr
 case post=>
  rintro c ax⟨rfl,a⟩;show wpS _ _ _ _ (forIn [:a₀.size] (none,()) _>>=_) Q ax;refine Wt (J5 (QQ (I:=λx c bH=>c=(none,())/\At a₀ κ rk a₀.size bH/\((Ww bH).size+x<=a₀.size\/(Ww bH).size<=1)) (Q:=λc bH=>c=(none,())/\At a₀ κ rk a₀.size bH/\(Ww bH).size<=1) ?lstep ?lfin ⟨rfl,a,.inl (by have:=rm _ _ _ a.g;simpa using this)⟩) ?lpost);case lfin=>rintro c bH⟨rfl,a2,o⟩;exact⟨rfl,a2,Y'⟩
  case lstep=>
   rintro x c bH _ hx⟨rfl,a2,o⟩;refine Wt (wpS_get ?_);show wpS _ _ _ _ (if(Ww bH).size<=1 then _ else _) _ bH;by_cases hp:(Ww bH).size<=1;.rw[if_pos hp];exact Wh ⟨rfl,a2,hp⟩
   .rw[if_neg hp];refine Wt (GQ hA a2.b a2.g (W7 _) ?_ λgM b5 g5 z5 k5=>?_);.exact Yd _ Y' Y'
    .exact Wh ⟨rfl,⟨b5,g5⟩,Y'⟩
  case lpost=>rintro c bH⟨rfl,a2,o⟩;refine Wh (h bH a2.b ?_);have g:=a2.g;rw[<-Q8]at o;match hl:(Ww bH).toList,g,o with|[],g,_=>have:0=a₀.size:=g;lia|[t],g,_=>obtain⟨g1,g2,g3,g4⟩:=g;have g4:0+t.2.1=a₀.size:=g4;rw[g4]at g3;exact g3|_::_::_,_,o=>simp at o
end
end Lake.SM
namespace Lake.SM
open PySem.W
theorem y6{α β:Type}(f:α->β){l' m:List β}(h:l'.Perm m):∀l:List α,m=l.map f->∃l'':List α,l''.Perm l/\l'=l''.map f:=by induction h with
 |nil=>intro l e;cases l with|nil=>exact⟨[],.refl _,rfl⟩|cons a l=>simp at e
 |cons x p ih=>intro l e;cases l with|nil=>simp at e|cons a l=>simp only[Wl,Us]at e;obtain⟨l'',p',e'⟩:=ih l e.2;exact⟨a::l'',p'.cons a,by rw[Wl,<-e',e.1]⟩
 |swap x y t=>intro l e;match l,e with|[],e=>simp at e|[_],e=>simp at e|a::b::r,e=>simp only[Wl,Us]at e;exact⟨b::a::r,.swap a b r,#v[e.1,e.2.1,e.2.2]⟩
 |trans p q ih1 ih2=>intro l e;obtain⟨l2,p2,e2⟩:=ih2 l e;obtain⟨l3,p3,e3⟩:=ih1 l2 e2;exact⟨l3,p3.trans p2,e3⟩
theorem y8{α:Type}(l:List α)(d:α):(Wx l.length).map (λi=>l.getD i d)=l:=by
 apply JN;intro i;by_cases hi:i<l.length;.simp[hi]
 .simp[hi]
theorem GX{α:Type}:∀l:List α,l.zip l=l.map λv=>(v,v)|[]=>rfl|a::l=>by rw[Uf,GX l];rfl
noncomputable def rkV(vs:List Value)(r:Nat->Nat)(x:Keyed):Nat:=by classical exact if h:∃i,i<vs.length/\vs.getD i Value.none=x.1 then r h.choose else 0
section
variable{κ:SortKind}
theorem Yf{vs:List Value}{r:Nat->Nat}(h2:2<=vs.length)(hf:∀i j,i<vs.length->j<vs.length->vs.getD i Value.none=vs.getD j Value.none->r i=r j)(ha:∀i j,i<vs.length->j<vs.length->∀C:Bool->W1->Prop,C (decide (r i<r j)) s->kas_ask prog w A κ vs i j C s):W6 4#0 A (sortRuns'.run (SortSt.mk' κ (vs.toArray.zip vs.toArray) #[] 7 none)) (λq s'=>s'=s/\failedOf q.2=none/\∃ord:List Nat,ord.Perm (Wx vs.length)/\(Wg q.2).map (·.2)=Jy (ord.map λi=>vs.getD i Value.none)/\ord.Pairwise λi j=>r i<=r j) E s:=by
 have hr:∀i,i<vs.length->rkV vs r (vs.getD i Value.none,vs.getD i Value.none)=r i:=λi hi=>by unfold rkV;have h:∃j,j<vs.length/\vs.getD j Value.none=vs.getD i Value.none:=⟨i,hi,rfl⟩;rw[dif_pos h];exact hf _ _ h.choose_spec.1 hi h.choose_spec.2
 have el:(vs.toArray.zip vs.toArray).toList=(Wx vs.length).map λi=>((vs.getD i Value.none,vs.getD i Value.none):Keyed):=by
  have:(vs.toArray.zip vs.toArray).toList=vs.map λv=>((v,v):Keyed):=by rw[Array.toList_zip];exact GX vs
  rw[this];conv=>lhs;rw[<-y8 vs Value.none]
  rw[WU];rfl
 have mem:∀x,x∈vs.toArray.zip vs.toArray->∃i,i<vs.length/\x=(vs.getD i Value.none,vs.getD i Value.none):=λx hx=>by have hx:x∈(vs.toArray.zip vs.toArray).toList:=Array.mem_toList_iff.mpr hx;rw[el]at hx;obtain⟨i,hi,e⟩:=WA.mp hx;exact⟨i,~~~hi,e.symm⟩
 have hz:(vs.toArray.zip vs.toArray).size=vs.length:=by simp
 have hA:iD prog w A E s (vs.toArray.zip vs.toArray) κ (rkV vs r):=by intro x y st Q hx hy hk hq;obtain⟨i,hi,rfl⟩:=mem x hx;obtain⟨j,hj,rfl⟩:=mem y hy;rw[lt'_eq];refine Wt (wpS_get ?_);rw[hk];refine Wt (wpS_lift (JY (Qk (ha i j hi hj (λc s'=>c=decide (r i<r j)/\s'=s) ⟨rfl,rfl⟩) (λc s' hc=>?_) λk k hF=>hF.elim)));obtain⟨rfl,rfl⟩:=hc;refine⟨rfl,Wh ?_⟩;rw[hr i hi,hr j hj]at hq;exact hq
 refine Qk (Ye (E:=E) hA (st:=SortSt.mk' κ (vs.toArray.zip vs.toArray) #[] 7 none) (Q:=λk ax=>failedOf ax=none/\∃ord:List Nat,ord.Perm (Wx vs.length)/\(Wg ax).map (·.2)=Jy (ord.map λi=>vs.getD i Value.none)/\ord.Pairwise λi j=>r i<=r j) ⟨.refl _,rfl,rfl⟩ rfl %[hz|h2] λax hB u=>⟨hB.good,?_⟩) (λq s' hq=>hq) λk k e=>e;obtain⟨ord,p,e⟩:=y6 (λi=>((vs.getD i Value.none,vs.getD i Value.none):Keyed)) (Array.perm_iff_toList_perm.mp hB.perm) _ el;refine⟨ord,p,?_,?_⟩;.apply Array.toList_inj.mp;rw[Array.toList_map,e,WU];rfl
 .have hs:(Wg ax).size=(vs.toArray.zip vs.toArray).size:=hB.size;have u':=rf (rk:=rkV vs r) (a:=Wg ax) %[hs|u];rw[e,Qr]at u';refine u'.imp_of_mem λ{i j}hi hj oQ=>?_;have hi:i<vs.length:=by simpa using p.mem_iff.mp hi
  have hj:j<vs.length:=by simpa using p.mem_iff.mp hj
  rw[hr i hi,hr j hj]at oQ;exact oQ
end
theorem GY{α:Type}{p q:α->Bool}:∀(l:List α),(∀x∈l,p x=true->q x=true)->l.countP p<=l.countP q|l,h=>List.countP_mono_left λx hx=>h x hx
theorem G0{α:Type}{p q:α->Bool}:∀(l:List α),(∀x∈l,p x=true->q x=true)->(∃x∈l,q x=true/\p x=false)->l.countP p<l.countP q
 |[],_,h=>by obtain⟨_,h,_⟩:=h;simp at h|a::l,h,⟨x,hx,h1,h2⟩=>by
  rw[List.countP_cons,List.countP_cons];rcases Wq.mp hx with rfl|hx;.have:=GY l λy hy=>h y (Wf _ hy);rw[h1,h2];simp;lia
  .have:=G0 l (λy hy=>h y (Wf _ hy)) ⟨x,hx,h1,h2⟩;have h3:=h a Wi;cases hp:p a with|true=>rw[h3 hp];simp;lia|false=>cases q a<;>simp<;>lia
theorem G1{α:Type}{lt:α->α->Bool}(as:∀a b,lt a b=true->lt b a=false)(tr:∀a b c,lt a b=false->lt b c=false->lt a c=false){l:List α}{a b:α}(ha:a∈l):lt a b=decide (l.countP (λz=>lt z a)<l.countP λz=>lt z b):=by cases h:lt a b with
 |true=>
 symm;rw[decide_eq_true_eq];refine G0 l (λz j hz=>?_) ⟨a,ha,h,?_⟩;.cases e:lt z b with|true=>rfl|false=>rw[tr z b a e (as a b h)]at hz;exact hz
 .cases e:lt a a with|false=>rfl|true=>exact absurd (as a a e) (by rw[e];decide)
 |false=>symm;rw[decide_eq_false_iff_not,Nat.not_lt];refine GY l λz j hz=>?_;cases e:lt z a with|true=>rfl|false=>rw[tr z a b e h]at hz;exact hz
end Lake.SM
namespace Lake.SO
open Lake.SM PySem.W
def ltL:List Tx->List Tx->Bool|[],[]=>false|[],_::_=>true|_::_,[]=>false|a::x,b::y=>if a=b then ltL x y else decide (a<b)
def z1X:List Value->List Tx->Prop|[],[]=>True|v::vs,x::xs=>(∃t,v=Value.str (toS x) t)/\z1X vs xs|_,_=>False
structure kZ(h:Heap)(vs:List Value)(ks:List (List Tx)):Prop where
 len:ks.length=vs.length
 at':∀i v,vs[i]?=some v->ks.getD i []≠[]/\∃b o xs m,v=.ref b/\h.get? b=some o/\o.cls=.type "tuple"/\o.data=.seq xs m/\z1X xs.toList (ks.getD i [])
theorem kZ.keeps{h h':Heap}{vs:List Value}{ks:List (List Tx)}(t:kZ h vs ks)(k:∀b o,h.get? b=some o->o.cls=.type "tuple"->h'.get? b=some o):kZ h' vs ks:=⟨t.len,λi v e=>by obtain⟨e0,b,o,xs,m,e1,e2,e3,r⟩:=t.at' i v e;exact⟨e0,b,o,xs,m,e1,k b o e2 e3,e3,r⟩⟩
theorem G2{h:Heap}:∀{vs:List Value}{ks:List (List Tx)},kZ h vs ks->∃fs,KatTups h vs fs/\fs.length=vs.length/\∀v∈fs,∃x t,v=Value.str x t
 |[],ks,t=>⟨[],trivial,rfl,λv h=>by simp at h⟩|v::vs,[],t=>by have:=t.len;simp at this|v::vs,k::ks,t=>by
  obtain⟨fs,a,b,c⟩:=G2 (vs:=vs) (ks:=ks) ⟨by have:=t.len;simpa using this,λi v e=>by have:=t.at' (i+1) v (~~~e);simpa using this⟩;obtain⟨e0,x,o,xs,m,rfl,e2,e3,e4,e5⟩:=t.at' 0 v rfl;have e5:z1X xs.toList k:=e5;have e0:k≠[]:=e0;obtain⟨z,tk,h0⟩:∃z tk,xs[0]?=some (Value.str z tk):=by cases k with|nil=>exact absurd rfl e0|cons y k=>cases hx:xs.toList with|nil=>rw[hx]at e5;exact e5.elim|cons u r=>
     rw[hx]at e5;obtain⟨tk,eu⟩:=e5.1;refine⟨toS y,tk,?_⟩;rw[<-eu];have:xs.toList[0]?=some u:=by rw[hx];rfl
     simpa using this
  exact⟨_::fs,⟨⟨x,o,xs,m,rfl,e2,e3,e4,h0⟩,a⟩,#v[b],λv hv=>by
 rcases Wq.mp hv with rfl|hv;.exact⟨_,_,rfl⟩
 .exact c v hv⟩
theorem y9{a b:Tx}(h:¬a<b)(e:a≠b):b<a:=by
 have h1:=List.not_lt.mp h;by_cases z:b<a;.exact z
 .exact absurd (List.le_antisymm (List.not_lt.mp z) h1) e
theorem nB:∀x y:List Tx,ltL x y=true->ltL y x=false
 |[],[],h=>by cases h|[],_::_,_=>rfl|_::_,[],h=>by cases h|a::x,b::y,h=>by
  have h:(if a=b then ltL x y else decide (a<b))=true:=h;show(if b=a then ltL y x else decide (b<a))=false;by_cases e:a=b;.rw[if_pos e]at h;rw[if_pos e.symm];exact nB x y h
  .rw[if_neg e,decide_eq_true_eq]at h;rw[if_neg (Ne.symm e),decide_eq_false_iff_not];exact List.lt_asymm h
theorem rq:∀x y z:List Tx,ltL x y=false->ltL y z=false->ltL x z=false
 |[],[],z,_,h=>h|[],_::_,_,h,_=>by cases h|_::_,_,[],_,_=>rfl|_::_,[],_::_,_,h=>by cases h|a::x,b::y,c::z,h1,h2=>by
  have h1:(if a=b then ltL x y else decide (a<b))=false:=h1;have h2:(if b=c then ltL y z else decide (b<c))=false:=h2;show(if a=c then ltL x z else decide (a<c))=false;by_cases e1:a=b
  .subst e1;rw[if_pos rfl]at h1;by_cases e2:a=c;.rw[if_pos e2]at h2⊢;exact rq x y z h1 h2
   .rw[if_neg e2]at h2⊢;exact h2
  .rw[if_neg e1,decide_eq_false_iff_not]at h1;by_cases e2:b=c;.subst e2;rw[if_neg e1,decide_eq_false_iff_not];exact h1
   .rw[if_neg e2,decide_eq_false_iff_not]at h2;have l1:=y9 h1 e1;have l2:=y9 h2 e2;have l3:c<a:=List.lt_trans l2 l1;have e3:a≠c:=λe=>by rw[e]at l3;exact List.lt_irrefl _ l3
    rw[if_neg e3,decide_eq_false_iff_not];exact List.lt_asymm l3
theorem y_:∀x y:List Tx,ltL x y=false->ltL y x=false->x=y
 |[],[],_,_=>rfl|[],_::_,h,_=>by cases h|_::_,[],_,h=>by cases h|a::x,b::y,h1,h2=>by
  have h1:(if a=b then ltL x y else decide (a<b))=false:=h1;have h2:(if b=a then ltL y x else decide (b<a))=false:=h2;by_cases e:a=b;.rw[if_pos e]at h1;rw[if_pos e.symm]at h2;rw[e,y_ x y h1 h2]
  .rw[if_neg e,decide_eq_false_iff_not]at h1;rw[if_neg (Ne.symm e),decide_eq_false_iff_not]at h2;exact absurd (y9 h1 e) h2
def iH(ks:List (List Tx)):List (List Tx):=ks.mergeSort λa b=>!ltL b a
theorem zc(ks:List (List Tx)):(iH ks).Perm ks:=List.mergeSort_perm _ _
theorem G3(ks:List (List Tx)):(iH ks).Pairwise λa b=>ltL b a=false:=by have:=List.pairwise_mergeSort (le:=λa b:List Tx=>!ltL b a) (λa b c h1 h2=>by simp only[Uh]at*;exact rq c b a h2 h1) λa b=>by cases h:ltL b a with|false=>rfl|true=>rw[nB b a h];rfl ks;refine this.imp λh=>?_;simpa using h
theorem G4{l ks:List (List Tx)}(p:l.Perm ks)(u:l.Pairwise λa b=>ltL b a=false):l=iH ks:=List.Perm.eq_of_pairwise (λa b j j h1 h2=>y_ a b h2 h1) u (G3 ks) (p.trans (zc ks).symm)
theorem G5{α:Type}{R:α->α->Prop}:∀{l:List α},l.length<2->l.Pairwise R|[],_=>.nil|[_],_=>List.pairwise_singleton _ _|_::_::_,h=>by simp at h;lia
theorem Yg{ks:List (List Tx)}(h:ks.length<2):iH ks=ks:=(G4 (.refl _) (G5 h)).symm
theorem G6:∀{vs:List Value}{x y:List Tx},z1X vs x->z1X vs y->x=y
 |[],[],[],_,_=>rfl|v::vs,a::x,b::y,⟨⟨t,e⟩,h1⟩,⟨⟨u,f⟩,h2⟩=>by
  rw[e]at f;have:toS a=toS b:=by cases f;rfl
  rw[oj this,G6 h1 h2]|[],_::_,_,h,_=>h.elim|[],_,_::_,_,h=>h.elim|_::_,[],_,h,_=>h.elim|_::_,_,[],_,h=>h.elim
section
variable{vs:List Value}{κ:SortKind}{T:Heap->Prop}{r:Nat->Nat}
structure zd(prog:Wm)(w:Wu)(A:Wp)(vs:List Value)(κ:SortKind)(T:Heap->Prop)(r:Nat->Nat):Prop where
 keep:∀{h h':Heap},T h->(∀b o,h.get? b=some o->o.cls=.type "tuple"->h'.get? b=some o)->T h'
 kind:∀(E:Value->W1->Prop)(s:W1)(Q:SortKind->W1->Prop),T s.heap->Q κ s->W6 4#0 A (keyKind' vs.toArray) Q E s
 ask:∀s:W1,T s.heap->∀i j,i<vs.length->j<vs.length->∀C:Bool->W1->Prop,C (decide (r i<r j)) s->kas_ask prog w A κ vs i j C s
 one:∀i j,i<vs.length->j<vs.length->vs.getD i Value.none=vs.getD j Value.none->r i=r j
theorem G7{a:Addr}{n:Nat}{P:PySem.Fin->W1->Prop}(G:zd prog w A vs κ T r)(ho:s.heap.get? a=some (WX "list" vs.toArray n))(t:T s.heap)(h2:2<=vs.length)(hb:vs.length<=1000000)(h:∀ord:List Nat,ord.Perm (Wx vs.length)->(ord.Pairwise λi j=>r i<=r j)->P (.done (.ret .none)) 9#(sortedHeap s.heap a vs (Jy (ord.map λi=>vs.getD i Value.none)))):W6 4#0 A (Builtin.«list.sort» ⟨[.ref a],[]⟩) P E s:=by
 have bh:a<s.heap.objs.size:=Wj ho;obtain⟨e1,ho1⟩:∃e1,(s.heap.update a (Obj.mapSeq λk=>(#[]:Array Value))).get? a=some (WX "list" #[] e1):=⟨_,get?_update_seq ho λk=>#[]⟩;rw[list_sort_plain];refine W0 (listItems_at ho rfl (W0 (listUpdate_at ho rfl (W0 (seqEpoch_at ho1 rfl (W0 (wpAny_newTuple (W0 (wpAny_newList (WD ?_) (Q6 _))) (by show vs.length<=_;rw[Qb];lia))))) (by rw[Wn,Qb];lia) (Q6 _))));show W6 4#0 A _ P E 9#(((s.heap.update a (Obj.mapSeq λk=>(#[]:Array Value))).push (WX "tuple" vs.toArray 0)).push (WX "list" #[] 0));have h6:(((s.heap.update a (Obj.mapSeq λk=>(#[]:Array Value))).push (WX "tuple" vs.toArray 0)).push (WX "list" #[] 0)).get? a=some (WX "list" #[] e1):=W5 _ (W5 _ ho1);have t6:T (((s.heap.update a (Obj.mapSeq λk=>(#[]:Array Value))).push (WX "tuple" vs.toArray 0)).push (WX "list" #[] 0)):=G.keep t λb o e c=>by
  have nb:b≠a:=λz=>by rw[z,ho]at e;cases e;exact absurd (Value.type.inj c) Z'
  refine W5 _ (W5 _ ?_);rw[Q5 _ _ (Ne.symm nb)];exact e
 dsimp only;have mP:¬vs.toArray.size<2:=by rw[Wn];lia
 rw[if_neg mP,if_neg mP];refine W0 (G.kind E 9#(((s.heap.update a (Obj.mapSeq λk=>(#[]:Array Value))).push (WX "tuple" vs.toArray 0)).push (WX "list" #[] 0)) _ t6 ?_);refine W0 (Qk (Yf (s:=9#(((s.heap.update a (Obj.mapSeq λk=>(#[]:Array Value))).push (WX "tuple" vs.toArray 0)).push (WX "list" #[] 0))) (E:=E) h2 G.one (G.ask _ t6)) ?_ λk k e=>e);rintro⟨⟨⟩,ax⟩s'⟨rfl,q2,ord,q3,q1,q4⟩;dsimp only at q1 q2⊢;have hz:(ord.map λi=>vs.getD i Value.none).length=vs.length:=by rw[Wd,q3.length_eq,Jq]
 rw[q1];refine W0 (seqEpoch_at h6 rfl (W0 (listUpdate_at h6 rfl ?_ (Q6 _) (by rw[Wn,hz,Qb];lia))));rw[q2];simp only[bne_self_eq_false,WO,if_false];exact W2 (h ord q3 q4)
theorem Yh{l:Addr}{Q:Value->W1->Prop}(G:zd prog w A.in1.in1 vs κ T r)(hl:s.heap.IsList l vs.toArray)(t:T s.heap)(h2:2<=vs.length)(hb:vs.length<=1000000)(h:∀ord:List Nat,ord.Perm (Wx vs.length)->(ord.Pairwise λi j=>r i<=r j)->Q (.ref (s.heap.objs.size+1)) 9#(sortedAll s.heap vs (Jy (ord.map λi=>vs.getD i Value.none)))):W6 4#0 A (call (.builtin "sorted") [.ref l]) Q E s:=by
 refine Calls.call_function_entry kind_sorted plain_sorted entry_sorted (args_sorted1 _) ?_;unfold Builtin.«sorted»;refine W0 (m:=checkCount "sorted" 1 1 _) (W2 (W0 (collect_list hl (W0 (wpAny_newList ?_ (by rw[Qb];lia))) (by rw[Qb];lia))));have hz:((s.heap.push (WX "list" #[] 0)).update s.heap.objs.size (Obj.mapSeq (.++vs.toArray))).objs.size=s.heap.objs.size+1:=by rw[Heap.size_update,size_push']
 have gL:(((s.heap.push (WX "list" #[] 0)).update s.heap.objs.size (Obj.mapSeq (.++vs.toArray))).push (WX "list" vs.toArray 0)).get? (s.heap.objs.size+1)=some (WX "list" vs.toArray 0):=by rw[<-hz];exact We _ rfl
 have t2:T (((s.heap.push (WX "list" #[] 0)).update s.heap.objs.size (Obj.mapSeq (.++vs.toArray))).push (WX "list" vs.toArray 0)):=G.keep t λb o e k=>by have hb:b<s.heap.objs.size:=Wj e;refine W5 _ ?_;rw[Q5 _ _ (QL hb)];exact W5 _ e
 show W6 _ _ _ _ _ 9#(((s.heap.push (WX "list" #[] 0)).update s.heap.objs.size (Obj.mapSeq (.++vs.toArray))).push (WX "list" vs.toArray 0));rw[hz];refine W0 (WD (WY slot_list_sort ⟨_,gL,rfl⟩ entry_list_sort (G7 (s:=9#(((s.heap.push (WX "list" #[] 0)).update s.heap.objs.size (Obj.mapSeq (.++vs.toArray))).push (WX "list" vs.toArray 0))) G gL t2 h2 hb λord p1 p2=>⟨_,rfl,?_⟩) (args_list_sort _)));exact W2 ⟨_,rfl,h ord p1 p2⟩
end
section
variable{vs:List Value}
theorem G8{C:Bool->W1->Prop}:∀(us vs:List Value)(x y:List Tx)(i:Nat),z1X us x->z1X vs y->C (ltL x y) s->KatLex prog w A true (decide (us.length<vs.length)) C (us.zip vs) i s
 |[],[],[],[],i,_,_,h=>h|[],v::vs,[],y::ys,i,_,_,h=>kat_nil (by simpa[ltL]using h)|u::us,[],x::xs,[],i,_,_,h=>kat_nil (by simpa[ltL]using h)|u::us,v::vs,x::xs,y::ys,i,hu,hv,h=>by
  obtain⟨⟨t1,rfl⟩,hu⟩:=hu;obtain⟨⟨t2,rfl⟩,hv⟩:=hv;rw[Uf];refine kat_cons (eqBool_str ?_);by_cases e:x=y
  .have eb:(toS x==toS y)=true:=by rw[e];simp
   rw[eb];refine kat_yes ?_;have hl:decide ((Value.str (toS x) t1::us).length<(Value.str (toS y) t2::vs).length)=decide (us.length<vs.length):=by simp
   rw[hl];refine G8 us vs xs ys (i+1) hu hv ?_;have:ltL (x::xs) (y::ys)=ltL xs ys:=by show(if x=y then _ else _)=_;rw[if_pos e]
   rw[this]at h;exact h
  .have eb:(toS x==toS y)=false:=by rw[beq_eq_false_iff_ne];intro z;exact e (oj z)
   rw[eb];have hl:ltL (x::xs) (y::ys)=decide (x<y):=by show(if x=y then _ else _)=_;rw[if_neg e]
   rw[hl]at h;refine kat_no ?_;cases hb:true&&i==0with|true=>refine oneLt_str ?_;rw[kD,kD];exact h|false=>refine kat_one _ _ (lt_str ?_);rw[kD,kD];exact h
 |[],_,_::_,_,_,hu,_,_=>hu.elim|_::_,_,[],_,_,hu,_,_=>hu.elim|_,[],_,_::_,_,_,hv,_=>hv.elim|_,_::_,_,[],_,_,hv,_=>hv.elim
theorem Yi(t:kZ s.heap vs ks){i j:Nat}(hi:i<vs.length)(hj:j<vs.length){C:Bool->W1->Prop}(h:C (ltL (ks.getD i []) (ks.getD j [])) s):kas_ask prog w A (tuples' true) vs i j C s:=by obtain⟨_,a,o,xs,m,e1,e2,e3,e4,e5⟩:=t.at' i vs[i] #v[hi];obtain⟨_,b,p,ys,n,f1,f2,f3,f4,f5⟩:=t.at' j vs[j] #v[hj];unfold kas_ask;rw[Q7,Q7,W4 hi,W4 hj];simp only[Jw];rw[e1,f1];refine kat_lt e2 e4 f2 f4 ?_;have:=G8 (prog:=prog) (w:=w) (A:=A) (s:=s) (C:=C) xs.toList ys.toList _ _ 0 e5 f5 h;simpa using this
def oU(ks:List (List Tx))(i:Nat):Nat:=ks.countP λz=>ltL z (ks.getD i [])
theorem G9(h:Heap)(t:kZ h vs ks)(h2:2<=vs.length):zd prog w A vs (tuples' true) (λh=>kZ h vs ks) (oU ks)where
 keep:=λt k=>t.keeps k
 kind:=λE s Q t h=>by obtain⟨fs,kt,fl,ft⟩:=G2 t;exact kat_kind (T:=.type "str") kt Y' (λv hv=>by obtain⟨x,tk,rfl⟩:=ft v hv;exact .now) rfl h
 ask:=λs t i j hi hj C h=>by
  refine Yi t hi hj ?_;have hm:ks.getD i []∈ks:=by have dF:i<ks.length:=%[t.len|hi];rw[Q7,W4 dF];exact Qv dF
  rw[G1 nB rq hm];exact h
 one:=λi j hi hj e=>by obtain⟨_,b,o,xs,m,e1,e2,e3,e4,e5⟩:=t.at' i vs[i] #v[hi];obtain⟨_,c,p,ys,n,f1,f2,f3,f4,f5⟩:=t.at' j vs[j] #v[hj];simp only[Q7,W4 hi,W4 hj,Jw]at e;rw[e1,f1]at e;cases e;rw[e2]at f2;cases f2;rw[e4]at f4;cases f4;unfold oU;rw[G6 e5 f5]
theorem G_{n:Nat}(hn:ks.length=n){ord:List Nat}(p:ord.Perm (Wx n))(u:ord.Pairwise λi j=>oU ks i<=oU ks j):(ord.map λi=>ks.getD i [])=iH ks:=by
 refine G4 ?_ ?_;.have:=p.map λi=>ks.getD i [];rw[<-hn,y8]at this;exact this
 .rw[Qr];refine u.imp_of_mem λ{i j}hi hj oQ=>?_;have f9:j<ks.length:=by rw[hn];simpa using p.mem_iff.mp hj
  have hm:ks.getD j []∈ks:=by rw[Q7,W4 f9];exact Qv f9
  rw[G1 nB rq hm,decide_eq_false_iff_not,Nat.not_lt];exact oQ
end
end Lake.SO
namespace Lake.SO
open Lake.SM PySem.W
theorem vy{H:Hp}{us:List Value}:∀{ws:List V}{x:List Tx},Vals ws us->ws=x.map (λt=>V.str (toS t))->z1X us x:=by intro ws x r e;subst e;induction x generalizing us with
 |nil=>have:=r.length;match us,this with|[],_=>trivial
 |cons t x ih=>cases r with|cons a b=>obtain⟨tk,e⟩:=show∃tk,_=Value.str (toS t) tk from a;exact⟨⟨tk,e⟩,ih b⟩
abbrev ze(K:W3):V->Hp->VK->Prop:=λv H Q=>∃(a:Addr)(vs:List V)(ks:List (List Tx)),v=.ref a/\cp K H a vs/\ks.length=vs.length/\(∀(i:Nat)v,vs[i]?=some v->ks.getD i []≠[]/\∃b ws,v=.ref b/\H b=some (.tup ws)/\ws=(ks.getD i []).map λt=>V.str (toS t))/\2<=vs.length/\vs.length<=1000000/\∀p(ord:List Nat),H p=none->ord.Perm (Wx vs.length)->(ord.map λi=>ks.getD i [])=iH ks->Q (.ref p) (upd H p (.lst (ord.map λi=>vs.getD i .aD)))
theorem Yj:dM X (.builtin "sorted") λxs H Q=>∃v,xs=[v]/\ze X.K v H Q:=by
 intros xs us Q I r h;obtain⟨_,rfl,a,vs,ks,rfl,hq,hlen,ht,h2,h64,q⟩:=h;obtain⟨u,rfl,ru⟩:=fQ r;cases ru;obtain⟨its,r',p,_⟩:=I.list hq;have hl:=r'.length;have t:kZ s.heap its ks:=⟨Y',λi v e=>by have hi:i<its.length:=(W8.mp e).1;have hv:vs[i]?=some (vs[i]' Y'):=#v[show i<vs.length by lia];have rv:=Vals.at2 r' hv e;obtain⟨bN,b,ws,eb,hb,h0⟩:=ht i _ hv;rw[eb]at rv;obtain rfl:v=Value.ref b:=rv;obtain⟨_,its',r2,n,eo⟩:=show bz X.prog X.w H s.heap b (.tup ws)from I.aB b _ hb;exact⟨bN,b,_,its'.toArray,n,rfl,eo,rfl,rfl,vy (H:=H) r2 h0⟩⟩;refine Yh (G9 _ t Y') p.isList t Y' Y' λord hp hu=>?_;rw[<-hl]at hp;have qa:(ord.map λi=>vs.getD i V.aD).length=vs.length:=by rw[Wd,hp.length_eq,Jq]
 obtain⟨e,he⟩:=sortedAll_at s.heap its (Jy (ord.map λi=>its.getD i Value.none));have I1:Inv X pins Y (upd H (s.heap.objs.size+1) (.lst (ord.map λi=>vs.getD i .aD))) 9#(sortedAll s.heap its (Jy (ord.map λi=>its.getD i Value.none))):=I.laid (t':=s.toks) (λb o z=>sortedAll_old z) (Nat.le_succ _) (show bz X.prog X.w _ _ _ (.lst (ord.map λi=>vs.getD i .aD))from⟨by rw[qa,Qb];lia,ord.map λi=>its.getD i Value.none,e,r'.pick _ λi hi=>by have:=hp.mem_iff.mp hi;simp at this;lia,he⟩);exact⟨.ref _,_,I1,rfl,q _ ord (I.aB.fresh (Nat.le_succ _)) hp (G_ hlen hp hu)⟩
end Lake.SO
section
open Lake.SO
noncomputable def kg:List D->Option (List (List Tx))|[]=>some []|.tup (x::xs)::r=>(di (x::xs)).bind λk=>(kg r).map (k::.)|_::_=>none
theorem vz:∀{ds:List D}{ks:List Tx},di ds=some ks->ds=ks.map D.str|[],ks,h=>by cases h;rfl|d::r,ks,h=>by cases d with
 |str x=>have h:(di r).map (x::.)=some ks:=h;cases e:di r with|none=>rw[e]at h;cases h|some k'=>rw[e]at h;cases h;rw[vz e];rfl
 |_=>cases h
universe H in theorem zf:∀{ds:List D}{ks:List (List Tx)},kg ds=some ks->ks.length=ds.length/\∀(i:Nat)d,ds[i]?=some d->ks.getD i []≠[]/\d=.tup ((ks.getD i []).map D.str)
 |[],ks,h=>by cases h;exact⟨rfl,λi d e=>by simp at e⟩|d::r,ks,h=>by
  unfold kg at h;split at h;.rename_i e;cases e
  .rename_i x xs r' e;cases e;cases e1:di (x::xs)with|none=>rw[e1]at h;cases h|some k=>rw[e1]at h;cases e:kg r with|none=>rw[e]at h;cases h|some ks'=>rw[e]at h;cases h;obtain⟨h1,h2⟩:=zf e;have et:=vz e1;refine⟨#v[h1],λi d' e'=>?_⟩;cases i with|zero=>simp at e';subst e';refine⟨λz=>?_,by rw[et];rfl⟩;have z:k=[]:=z;rw[z]at et;cases et|succ i=>simpa using h2 i d' (~~~e')
  .cases h
abbrev iI(k:List Tx):D:=.tup (k.map D.str)
noncomputable def jI:D->Option S
 |.lst ds=>if ds.length<2 then some (.own (.lst ds))else match kg ds with|some ks=>if ks.length<=1000000 then some (.own (.lst ((iH ks).map iI)))else none|none=>none
 |_=>none
section
variable{c:Fc}
universe H in theorem Yk(hg:Gl X "sorted")(hm:X.mg "sorted"=none)(he:SB X c e fb)(hs:Wa [e] X.env=(false,eval e X.env)::Wa [] X.env:=by rfl):SE X c (.Call (.Name "sorted" pp) [e] [] pos) (aE jI fb):=uk (r:=λv H Q=>FC X.K v H Q\/ze X.K v H Q) (rl:=λxs H Q=>∃v,xs=[v]/\(FC X.K v H Q\/ze X.K v H Q)) (λpins s Y H xs us Q I r⟨v,ex,h⟩=>h.elim (λ⟨a,vs,e,h⟩=>VN pins s Y H xs us Q I r ⟨a,vs,by rw[ex,e],h⟩) λh=>Yj pins s Y H xs us Q I r ⟨v,ex,h⟩) (λv H Q h=>⟨v,rfl,h⟩) (λc Y Z H x d s Q k rx hp q=>by
 cases d with|lst ds=>
 simp only[jI]at hp;split at hp;.rename_i hl;cases hp;obtain⟨a,vs,ea,ha,ra⟩:=rx.lst;exact .inl ⟨a,vs,ea,.inl ha,%[ra.1|hl],λp hp=>q _ _ (.alloc k hp _) (aN.jv k ra hp)⟩
 .rename_i hl;refine .inr ?_;cases e:kg ds with|none=>rw[e]at hp;cases hp|some ks=>
      rw[e]at hp;simp only at hp;split at hp
      .rename_i hh;cases hp;obtain⟨h1,h2⟩:=zf e;obtain⟨a,vs,ea,ha,ra⟩:=rx.lst;have mX:=ra.1;refine⟨a,vs,ks,ea,.inl ha,Y',λi v ev=>?_,Y',Y',λp ord hp ho hs=>?_⟩;.have hi:i<vs.length:=(W8.mp ev).1;have hd:ds[i]?=some (ds[i]' Y'):=#v[show i<ds.length by lia];obtain⟨bN,er⟩:=h2 i _ hd;refine⟨bN,?_⟩;have rv:=ra.2 i v _ ev hd;rw[er]at rv;cases rv with|@tup b ws _ _ hb hlen hat=>
         refine⟨b,ws,rfl,hb,?_⟩;apply JN;intro j;rw[Ws];have hlen:ws.length=(ks.getD i []).length:=by rw[hlen];simp
         by_cases hj:j<ws.length
         .have nC:j<(ks.getD i []).length:=by lia
          have r0:=hat j (ws[j]'hj) (.str ((ks.getD i [])[j]'nC)) #v[hj] (by rw[Ws,W4 nC];rfl);rw[W4 hj,W4 nC];generalize ws[j]'hj=z at r0;cases r0;rfl
         .rw[Q0 Y',Q0 Y'];rfl
       .have ed:(iH ks).map iI=ord.map λi=>ds.getD i .aD:=by
         rw[<-hs,WU];apply JA;intro i hi;have hi:i<ds.length:=by have:=ho.mem_iff.mp hi;simp at this;lia
         obtain⟨_,er⟩:=h2 i ds[i] #v[hi];show iI (ks.getD i [])=ds.getD i .aD;simp only[Q7,W4 hi,Jw]at er⊢;exact er.symm
        have R:=aN.jv k (aH.pick ra ord λi hi=>by have:=ho.mem_iff.mp hi;simp at this;lia) hp;rw[<-ed]at R;exact q _ _ (.alloc k hp _) R
      .cases hp|_=>cases hp) hg hm PyProof.Rows.boot_sorted he Z' Z' hs
theorem zg:∀{ks:List (List Tx)},(∀k∈ks,k≠[])->kg (ks.map iI)=some ks
 |[],_=>rfl|[]::r,h=>absurd rfl (h [] Wi)|(x::xs)::r,h=>by
  have ih:=zg (ks:=r) λk hk=>h k (Wf _ hk);have et:∀l:List Tx,di (l.map D.str)=some l:=λl=>by induction l with|nil=>rfl|cons a l ih=>show(di (l.map D.str)).map (a::.)=_;rw[ih];rfl
  show((di ((x::xs).map D.str)).bind λk=>(kg (r.map iI)).map (k::.))=_;rw[et,ih];rfl
theorem zh(h:∀k∈ks,k≠[])(hb:ks.length<=1000000):jI (.lst (ks.map iI))=some (.own (.lst ((iH ks).map iI))):=by
 simp only[jI];rw[Wd];by_cases h2:ks.length<2;.rw[if_pos h2];rw[Yg h2]
 .rw[if_neg h2,zg h];simp only;rw[if_pos hb]
end
end
theorem i_.mono{k:NK}(r:i_ H n k v)(up:∀b o,H b=some o->H' b=some o):i_ H' n k v:=by induction r with|int z=>exact .int z|bl b=>exact .bl b|str x=>exact .str x|tup h1 h2 _ ih=>exact .tup (up _ _ h1) h2 ih
theorem gY.mono{k:NK}(r:gY H m k v)(up:∀b o,H b=some o->H' b=some o):gY H' m k v:=by cases m with|true=>exact⟨r.1,r.2.mono up⟩|false=>exact r
def vA(H:Hp)(m:Bool)(ys:List V)(kps:List NE):Prop:=ys.length=kps.length/\∀(i:Nat)y kv,ys[i]?=some y->kps[i]?=some kv->(∃q,y=.ref q/\H q=some (.tup [kv.2.1,kv.2.2]))/\gY H m kv.1 kv.2.1
noncomputable def putAllN(kps acc:List NE):List NE:=kps.foldl (λa p=>putN a p.1 p.2.1 p.2.2) acc
theorem Ha:∀(kps acc:List NE),(putAllN kps acc).length<=acc.length+kps.length|[],acc=>W7 _|kv::r,acc=>by have h1:=Ha r (putN acc kv.1 kv.2.1 kv.2.2);have h2:=FZ acc kv.1 kv.2.1 kv.2.2;show(putAllN r (putN acc kv.1 kv.2.1 kv.2.2)).length<=_;simp only[WV];lia
theorem Yl(kps:List NE)(kv:NE)(acc:List NE):putAllN (kps++[kv]) acc=putN (putAllN kps acc) kv.1 kv.2.1 kv.2.2:=by unfold putAllN;rw[List.foldl_append];rfl
theorem Ym{k:NK}{y:V}{p:NE}(h:p∈putN acc k y v):(∃p'∈acc,p.1=p'.1/\p.2.1=p'.2.1)\/p.1=k/\p.2.1=y:=by
 unfold putN at h;split at h;.obtain⟨p',bJ,rfl⟩:=WA.mp h;refine .inl ⟨p',bJ,?_⟩;split<;>exact⟨rfl,rfl⟩
 .rcases WK.mp h with h|h;.exact .inl ⟨p,h,rfl,rfl⟩
  .have:p=(k,y,v):= ~~~h;rw[this];exact .inr ⟨rfl,rfl⟩
theorem Hb:∀(kps acc:List NE)(p:NE),p∈putAllN kps acc->p∈([]:List NE)\/∃p'∈acc++kps,p.1=p'.1/\p.2.1=p'.2.1
 |[],acc,p,h=>.inr ⟨p,%[Qg|h],rfl,rfl⟩|kv::r,acc,p,h=>by
  rcases Hb r (putN acc kv.1 kv.2.1 kv.2.2) p h with z|⟨p',bJ,e1,e2⟩;.cases z
  .refine .inr ?_;rcases WK.mp bJ with bJ|bJ
   .rcases Ym bJ with⟨p2,h2,f1,f2⟩|⟨f1,f2⟩;.exact⟨p2,#v[h2],e1.trans f1,e2.trans f2⟩
    .exact⟨kv,V',e1.trans f1,e2.trans f2⟩
   .exact⟨p',#v[bJ],e1,e2⟩
theorem Yn{a:Addr}{y:V}{r:Value}{Q:Unit->W1->Prop}{aw:List NE}{k:NK}(hu:A.units+6<Q3)(I:6#0)(e:H a=some (.dN ep aw))(hk:∀p∈aw,gY H m p.1 p.2.1)(ky:gY H m k y)(hz:aw.length<W9)(ry:RelV y u)(rv:RelV v r)(h:∀s' jl,Inv X pins Y (upd H a (.dN jl (putN aw k y v))) s'->(∀b,b≠a->s'.heap.get? b=s.heap.get? b)->Q () s'):W6 5#0 A (dictSet a u r) Q E s:=by
 obtain⟨z,hS,xs,ob,es,rx,d⟩:=u7 I.aB e;have hl:xs.length<=W9:=by rw[<-Paired.length rx];exact z
 refine Xb hu (ky.key I.aB ry) d.get d.ex d.data d.ents (FY I.aB rx hk) d.mf hl λh' o' mJ jl q1 q2 q3 q4 hs=>h _ jl ?_ λb hb=>hs.2 b hb;have iV:(putN aw k y v).length<=W9:=by have:=FZ aw k y v;lia
 exact Cz I %[e|True.intro] hs ⟨o',q1⟩ (Xe iV hS (rx.put ry rv) ⟨q1,q2,q3,q4,Xa d.mf⟩)
theorem Hc{ys:List V}{kps:List NE}(hu:A.in1.units+6<Q3)(hP:vA H m ys kps)(fu:H dl=none)(hz:kps.length<W9)(item:∀(i:Nat)(y:V)(H':Hp)(s:W1)(Q:Option Value->W1->Prop),(∀b o,H b=some o->H' b=some o)->H' it=none->Inv X pins Y H' s->tn i s.heap->ys[i]?=some y->(∀u s',RelV y u->Inv X pins Y H' s'->tn (i+1) s'.heap->Q (some u) s')->W6 5#0 A.in1 (QR (.ref it)) Q (λc c=>False) s)(done:∀(H':Hp)(s:W1)(Q:Option Value->W1->Prop),(∀b o,H b=some o->H' b=some o)->H' it=none->Inv X pins Y H' s->tn ys.length s.heap->(∀s',Inv X pins Y H' s'->Q none s')->W6 5#0 A.in1 (QR (.ref it)) Q (λc c=>False) s)(keep:∀(i:Nat)(h h':Heap),tn i h->(∀o,h.get? it=some o->h'.get? it=some o)->tn i h')(hit:H it=none)(bN:it≠dl)(hR:∀ep s',Inv X pins Y (upd H dl (.dN ep (putAllN kps []))) s'->R (.ok (.ret .none)) s'):∀(k i:Nat)(s:W1)(j:Int)(t0:Tok),ys.length-i=k->i<=ys.length->(∃ep,Inv X pins Y (upd H dl (.dN ep (putAllN (kps.take i) []))) s)->tn i s.heap->Jd 5#0 A (.builtin "dict.update.loop" ⟨[.ref dl,.ref it,.int j t0,.none],[]⟩) R s:=by
 have up:∀(ep:Nat)(acc:List NE)b o,H b=some o->upd H dl (.dN ep acc) b=some o:=λep acc b o e=>%[aY (dZ e fu)|e];have jm:∀(ep:Nat)(acc:List NE),upd H dl (.dN ep acc) it=none:=λep acc=>%[aY bN|hit]
 intro k;induction k with|zero=>
 intro i s j t0 hk hi⟨ep,I⟩st;have e:i=ys.length:=by lia
 subst e;rw[hP.1,QG (W7 _)]at I;refine EL (done _ s _ (up _ _) (jm _ _) I st λs' I'=>⟨rfl,hR ep s' I'⟩)|succ k ih=>
  intro i s j t0 hk hi⟨ep,I⟩st;have bh:i<ys.length:=by lia
  have kQ:i<kps.length:=by rw[<-hP.1];exact bh
  obtain⟨⟨q,ey,hq⟩,hkey⟩:=hP.2 i ys[i] kps[i] #v[bh] #v[kQ];have main:∀s1,Inv X pins Y (upd H dl (.dN ep (putAllN (kps.take i) []))) s1->∃(kk vv:Value)(n:Nat),s1.heap.get? q=some {cls:=.type "tuple",dict:=none,data:=.seq #[kk,vv] n,slots:=#[]}/\RelV kps[i].2.1 kk/\RelV kps[i].2.2 vv:=λs1 I1=>by obtain⟨_,its,r,n,e⟩:=show bz X.prog X.w _ s1.heap q (.tup [kps[i].2.1,kps[i].2.2])from I1.aB q _ (up _ _ q _ hq);obtain⟨u,v,rfl,r1,r2⟩:=Vals.two r;exact⟨u,v,n,e,r1,r2⟩
  refine EK (item i ys[i] _ s _ (up _ _) (jm _ _) I st #v[bh] λu s' ru I' ax=>?_);rw[ey]at ru;cases ru;obtain⟨kk,vv,n,e,r1,r2⟩:=main s' I';refine⟨q,kk,vv,n,rfl,e,?_⟩;have hl:(putAllN (kps.take i) []).length<W9:=by have h2:=Ha (kps.take i) [];simp at h2;lia
  have Yo:∀p∈putAllN (kps.take i) [],gY (upd H dl (.dN ep (putAllN (kps.take i) []))) m p.1 p.2.1:=λp hp=>by
   rcases Hb _ _ p hp with z|⟨p',bJ,e1,e2⟩;.cases z
   .rw[QJ]at bJ;obtain⟨i',dF,e'⟩:=J4.mp (Js bJ);have:=(hP.2 i' (ys[i']'%[hP.1|dF]) kps[i'] #v[show i'<ys.length by rw[hP.1];exact dF] #v[dF]).2;rw[e']at this;rw[e1,e2];exact this.mono (up _ _)
  refine Yn hu I' cJ Yo (hkey.mono (up _ _)) hl r1 r2 λs2 jl I2 hs=>?_;rw[nY]at I2;have et:kps.take (i+1)=kps.take i++[kps[i]]:=by rw[List.take_add_one];simp[kQ]
  rw[show putN (putAllN (kps.take i) []) kps[i].1 kps[i].2.1 kps[i].2.2=putAllN (kps.take (i+1)) []by rw[et,Yl]]at I2;exact ih (i+1) _ (j+1) _ Y' bh ⟨jl,I2⟩ (keep (i+1) _ _ ax λo eo=>(hs it bN).trans eo)
theorem Yp(hu:X.A.units+64<Q3)(hc:X.calm=true):dM X (.type "dict") λxs H Q=>∃p ys kps m,xs=[.ref p]/\(H p=some (.tup ys)\/Rd H p (.lst ys))/\vA H m ys kps/\kps.length<W9/\∀l ep,H l=none->Q (.ref l) (upd H l (.dN ep (putAllN kps []))):=by
 intros xs us Q I r h;obtain⟨p,ys,kps,m,rfl,hp,hP,hz,q⟩:=h;obtain⟨u,rfl,rx⟩:=fQ r;cases rx;have hA:X.A.handled=none:=I.ok.hd hc;have Hd:X.A.in1.in1.units+6<Q3:=by show X.A.units+1+1+6<Q3;lia
 refine callType_codes (Q₁:=λobj s₁=>obj=.ref s.heap.objs.size/\s₁=9#(s.heap.push {cls:=.type "dict",data:=.dict #[]})) F.kt_called_dict (F.kt_typeCall_dict_1 _) F.entry_dict_init (kt_code_dict_new _ ⟨rfl,rfl⟩) ?_;rintro obj s₁⟨rfl,rfl⟩;have fu:H s.heap.objs.size=none:=I.aB.fresh (W7 _);have I1:Inv X pins Y (upd H s.heap.objs.size (.dN 0 [])) 9#(s.heap.push {cls:=.type "dict",data:=.dict #[]}):=I.laid (t':=s.toks) (λj j q=>W5 _ q) (W7 _) (Xv s.heap I.big);generalize i3:s.heap.objs.size=dl at fu I1;have up:∀(acc:List NE)b o,H b=some o->upd H dl (.dN 0 acc) b=some o:=λacc b o e=>%[aY (dZ e fu)|e];have qD:(9#(s.heap.push {cls:=.type "dict",data:=.dict #[]}):W1).TypeIs (.ref dl) "dict":=⟨_,by rw[<-i3];exact We _ rfl,rfl⟩;refine⟨qD,F.args_dict_init_2 _ _,?_⟩;unfold Builtin.«dict.__init__»;refine W0 ?_;unfold Builtin.Dict.selfAndRest;refine W0 (wpAny_notOrdered_dict qD ?_);show W6 _ _ (pure (dl,[Value.ref p])) _ _ _;refine W2 ?_;show W6 _ _ (JC "dict.__init__" dl (.ref p) [] .none) _ _ _;unfold JC;have fin:∀ep s',Inv X pins Y (upd H dl (.dN ep (putAllN kps []))) s'->EP X pins Y Q (.ref dl) s':=λep s' I'=>⟨.ref dl,_,I',rfl,q dl ep fu⟩;rcases hp with hp|hp
 .obtain⟨_,its,r,n,e⟩:=show bz X.prog X.w _ (s.heap.push {cls:=.type "dict",data:=.dict #[]}) p (.tup ys)from I1.aB p _ (up _ p _ hp);refine W0 (J3 ⟨_,e,rfl⟩ ?_);rw[if_pos Z'];refine W0 (EI e rfl rfl rfl hA λh' tk kp=>?_);rw[if_pos (show(none:Option Value).isNone=true from rfl)];refine W0 (Qn ?_);have I2:Inv X pins Y (upd H dl (.dN 0 [])) {s with heap:=h',toks:=tk}:=I1.kept kp;have fY:h'.IsTuple p its.toArray:=⟨_,kp _ _ e,rfl,n,rfl⟩;refine W0 (Ud (s:={s with heap:=h',toks:=tk}) fY ?_);refine W2 ⟨JG m8 _,?_⟩;have dC:upd H dl (.dN 0 []) h'.objs.size=none:=I2.aB.fresh (W7 _);have bN:h'.objs.size≠dl:=λz=>by rw[z,cJ]at dC;cases dC
  have hit:H h'.objs.size=none:=by rw[aY bN]at dC;exact dC
  have fp:∀H':Hp,H' h'.objs.size=none->eQ X pins H' h'.objs.size:=λH' hn=>I2.jo (W7 _) hn;refine Hc (X:=X) (m:=m) (show X.A.in1.in1.units+6<Q3 from Hd) (pins:=pins) (Y:=Y) (H:=H) (dl:=dl) (it:=h'.objs.size) (ys:=ys) (kps:=kps) (tn:=λi h=>h.IsTupleIter h'.objs.size p i) hP fu hz ?_ ?_ (λi h h2 st k=>st.at k) hit bN (λep s' I'=>⟨rfl,fin ep s' I'⟩) ys.length 0 _ 0 _ (Ur _) (Q6 _) ⟨0,?_⟩ ?_;.intro i y H' s' Q' sub hn I' st hy k;obtain⟨_,its2,r2,n2,e2⟩:=show bz X.prog X.w _ s'.heap p (.tup ys)from I'.aB p _ (sub p _ hp);obtain⟨v,hv,rv⟩:=r2.get hy;obtain⟨f0,f1,f2,f3,f4,f5⟩:=fp H' hn;refine wpAny_pyNext_tuple_item st (items:=its2.toArray) ⟨_,e2,rfl,n2,rfl⟩ (x:=v) (~~~hv) λh3 bu sb=>?_;exact k v {s' with heap:=h3} rv (I'.turned (t':=s'.toks) (λb o hb e=>(sb.2 b hb).trans e) f0 f1 f3 f4 f5) bu
  .intro H' s' Q' sub hn I' st k;obtain⟨_,its2,r2,n2,e2⟩:=show bz X.prog X.w _ s'.heap p (.tup ys)from I'.aB p _ (sub p _ hp);obtain⟨f0,f1,f2,f3,f4,f5⟩:=fp H' hn;have mX:=r2.length;exact wpAny_pyNext_tuple_end (show X.A.in1.in1.handled=none from hA) st (items:=its2.toArray) ⟨_,e2,rfl,n2,rfl⟩ Re λh3 eb=>k {s' with heap:=h3} (I'.turned (t':=s'.toks) (λb o hb e=>eb b o hb e) f0 f1 f3 f4 f5)
  .exact I2.kept (t':=tk) λb o e=>W5 _ e
  .exact⟨_,We _ rfl,rfl,rfl⟩
 .obtain⟨_,its,n,r,e⟩:=show bz X.prog X.w _ (s.heap.push {cls:=.type "dict",data:=.dict #[]}) p (.lst ys)from(Rd.sub hp (up _)).ok I1.aB;refine W0 (J3 ⟨_,e,rfl⟩ ?_);rw[if_pos Z'];refine W0 (EJ e rfl rfl rfl hA λh' tk kp=>?_);rw[if_pos (show(none:Option Value).isNone=true from rfl)];refine W0 (Qn ?_);have I2:Inv X pins Y (upd H dl (.dN 0 [])) {s with heap:=h',toks:=tk}:=I1.kept kp;have fY:h'.IsList p its.toArray:=⟨_,kp _ _ e,rfl,n,rfl⟩;refine W0 (JO (s:={s with heap:=h',toks:=tk}) fY ?_);refine W2 ⟨JG m8 _,?_⟩;have dC:upd H dl (.dN 0 []) h'.objs.size=none:=I2.aB.fresh (W7 _);have bN:h'.objs.size≠dl:=λz=>by rw[z,cJ]at dC;cases dC
  have hit:H h'.objs.size=none:=by rw[aY bN]at dC;exact dC
  have fp:∀H':Hp,H' h'.objs.size=none->eQ X pins H' h'.objs.size:=λH' hn=>I2.jo (W7 _) hn;refine Hc (X:=X) (m:=m) (show X.A.in1.in1.units+6<Q3 from Hd) (pins:=pins) (Y:=Y) (H:=H) (dl:=dl) (it:=h'.objs.size) (ys:=ys) (kps:=kps) (tn:=λi h=>h.IsListIter h'.objs.size p i) hP fu hz ?_ ?_ (λi h h2 st k=>st.at k) hit bN (λep s' I'=>⟨rfl,fin ep s' I'⟩) ys.length 0 _ 0 _ (Ur _) (Q6 _) ⟨0,?_⟩ ?_;.intro i y H' s' Q' sub hn I' st hy k;obtain⟨_,its2,n2,r2,e2⟩:=show bz X.prog X.w _ s'.heap p (.lst ys)from(Rd.sub hp sub).ok I'.aB;obtain⟨v,hv,rv⟩:=r2.get hy;obtain⟨f0,f1,f2,f3,f4,f5⟩:=fp H' hn;refine wpAny_pyNext_list_item st (items:=its2.toArray) ⟨_,e2,rfl,n2,rfl⟩ (x:=v) (~~~hv) λh3 bu sb=>?_;exact k v {s' with heap:=h3} rv (I'.turned (t':=s'.toks) (λb o hb e=>(sb.2 b hb).trans e) f0 f1 f3 f4 f5) bu
  .intro H' s' Q' sub hn I' st k;obtain⟨_,its2,n2,r2,e2⟩:=show bz X.prog X.w _ s'.heap p (.lst ys)from(Rd.sub hp sub).ok I'.aB;obtain⟨f0,f1,f2,f3,f4,f5⟩:=fp H' hn;have mX:=r2.length;exact wpAny_pyNext_list_end (show X.A.in1.in1.handled=none from hA) st (items:=its2.toArray) ⟨_,e2,rfl,n2,rfl⟩ Re λh3 eb=>k {s' with heap:=h3} (I'.turned (t':=s'.toks) (λb o hb e=>eb b o hb e) f0 f1 f3 f4 f5)
  .exact I2.kept (t':=tk) λb o e=>W5 _ e
  .exact⟨_,We _ rfl,rfl,rfl⟩
noncomputable def kh:List D->Option (List (D×D))|[]=>some []|.tup [k,v]::r=>if(gE true k&&(cL 6 k).isSome)=true then(kh r).map ((k,v)::.)else none|_::_=>none
def oV(ps acc:List (D×D)):List (D×D):=ps.foldl (λa q=>ny a q.1 q.2) acc
noncomputable def mn:D->Option S|.lst ds=>(kh ds).bind λps=>if ps.length<W9 then some (.own (.dic (oV ps [])))else none|.tup ds=>(kh ds).bind λps=>if ps.length<W9 then some (.own (.dic (oV ps [])))else none|_=>none
universe H in theorem zk{H:Hp}{O:Addr->Prop}:∀{ds:List D}{vs:List V}{ps:List (D×D)},kh ds=some ps->aH H O vs ds->∃kps,vA H true vs kps/\DN H O kps ps/\kps.length=ps.length
 |[],[],ps,h,_=>by cases h;exact⟨[],⟨rfl,λi y kv e=>by simp at e⟩,.nil,rfl⟩|[],_::_,_,_,r=>by have:=r.1;simp at this|_::_,[],_,_,r=>by have:=r.1;simp at this|d::ds,v::vs,ps,h,r=>by
  unfold kh at h;split at h;.rename_i heq;cases heq
  .rename_i k w r' heq;cases heq;split at h;.rename_i hk;rw[Wr]at hk;obtain⟨hm,hc⟩:=hk;obtain⟨kk,hc⟩:=QM.mp hc;cases hr:kh ds with|none=>rw[hr]at h;cases h|some ps'=>rw[hr]at h;cases h;obtain⟨kps,hP,hD,hL⟩:=zk hr r.tail;have rp:=r.head;cases rp with|tup h1 h2 h3 h4=>rename_i a us;rcases us with _|⟨x,_|⟨y,_|_⟩⟩<;>cases h3;have rk:=h4 0 x k rfl rfl;have rv:=h4 1 y w rfl rfl;refine⟨(kk,x,y)::kps,⟨#v[hP.1],λi z kv e1 e2=>?_⟩,.cons rk rv hc hD,#v[hL]⟩;cases i with|zero=>simp at e1 e2;subst e1 e2;exact⟨⟨a,rfl,h2⟩,yN hm hc rk⟩|succ i=>exact hP.2 i z kv (~~~e1) (~~~e2)
   .cases h
  .cases h
theorem DN.ng:∀{kps:List NE}{ps:List (D×D)}{ws:List NE}{ds:List (D×D)},DN H O kps ps->DN H O ws ds->DN H O (putAllN kps ws) (oV ps ds)|[],[],_,_,_,h=>h|[],_::_,_,_,h,_=>by have:=h.1;simp at this|_::_,[],_,_,h,_=>by have:=h.1;simp at this|p::kps,q::ps,ws,ds,h,h'=>by obtain⟨h1,h2,h3,h4⟩:=h.un;show DN H O (putAllN kps (putN ws p.1 p.2.1 p.2.2)) (oV ps (ny ds q.1 q.2));exact DN.ng h4 (DN.put h3 h1 h2 h')
section
variable{c:Fc}
universe H in theorem Yq(hu:X.A.units+64<Q3)(hc:X.calm=true)(hg:Gl X "dict")(hm:X.mg "dict"=none)(he:SB X c e fb)(hs:lY e=true:=by rfl):SE X c (.Call (.Name "dict" pp) [e] [] pos) (aE mn fb):=qf (r:=λv H Q=>∃p ys kps m,v=.ref p/\(H p=some (.tup ys)\/Rd H p (.lst ys))/\vA H m ys kps/\kps.length<W9/\∀l ep,H l=none->Q (.ref l) (upd H l (.dN ep (putAllN kps [])))) (Yp hu hc) (λv H Q⟨p,ys,kps,m,e,h⟩=>⟨p,ys,kps,m,by rw[e],h⟩) (λc Y Z H x d s Q k rx hp q=>by cases d with
 |lst ds=>simp only[mn]at hp;cases hps:kh ds with|none=>rw[hps]at hp;cases hp|some ps=>
 rw[hps]at hp;simp only[WB]at hp;split at hp;.rename_i hz;cases hp;obtain⟨a,vs,ex,ha,r⟩:=rx.lst;obtain⟨kps,hP,hD,hL⟩:=zk hps r;exact⟨a,vs,kps,true,ex,.inr ha,hP,%[hL|hz],λl ep hl=>q _ _ (.alloc k hl _) (aN.F8 k hl (DN.ng hD .nil))⟩
 .cases hp|tup ds=>simp only[mn]at hp;cases hps:kh ds with|none=>rw[hps]at hp;cases hp|some ps=>
 rw[hps]at hp;simp only[WB]at hp;split at hp;.rename_i hz;cases hp;obtain⟨a,vs,ex,ha,r⟩:=rx.tup;obtain⟨kps,hP,hD,hL⟩:=zk hps r;exact⟨a,vs,kps,true,ex,.inl ha,hP,%[hL|hz],λl ep hl=>q _ _ (.alloc k hl _) (aN.F8 k hl (DN.ng hD .nil))⟩
 .cases hp|_=>simp[mn]at hp) hg hm EV he Z' Z' (m7 hs)
end
namespace PySem.SeqAt
open AutoSeq1(wpAny_loadPart')
open MeetsSeq
open Lake.SO(z1X ltL)
theorem Yr(l b:Addr)(xs ys:Array Value)(x y:List Tx)(hx:z1X xs.toList x)(hy:z1X ys.toList y)(n n2:Nat)(dd mO:Option Addr)(sl lE:Array (Option Value)):Meets (Builtin.«tuple.__le__» ⟨[.ref l,.ref b],[]⟩) λj R s=>s.heap.get? l=some {cls:=.type "tuple",dict:=dd,data:=.seq xs n,slots:=sl}/\s.heap.get? b=some {cls:=.type "tuple",dict:=mO,data:=.seq ys n2,slots:=lE}/\R (.ok (.ret (.bool !ltL y x))) s:=.of_wp λprog w A R s h=>by
  obtain⟨hp,g,d,tk,os⟩:=s;obtain⟨hl,hb,h⟩:=h;have f2:=AutoSeq1.sub_tuple_tuple;wp_walk using U5 hl,U5 hb,wpAny_forIn_list _ (λrest c s'=>c.1=none/\s'=⟨hp,g,d,tk,os⟩/\∃us vs x' y',rest=List.zip us vs/\z1X us x'/\z1X vs y'/\ltL y' x'=ltL y x/\us.length+ys.size=vs.length+xs.size) _;case turn=>rintro⟨u,v⟩rest c s'⟨hc,rfl,us,vs,x',y',hz,hu,hv,bh,hlen⟩;cases us with|nil=>cases hz|cons u0 us=>cases vs with|nil=>cases hz|cons v0 vs=>rw[Uf]at hz;injection hz with yo hrest;cases yo;cases x' with|nil=>exact hu.elim|cons a x'=>cases y' with|nil=>exact hv.elim|cons e y'=>
       obtain⟨⟨t1,rfl⟩,hu⟩:=hu;obtain⟨⟨t2,rfl⟩,hv⟩:=hv;refine W0 (eqBool_str ?_);by_cases q:a=e
       .rw[show(toS a==toS e)=true by rw[q];simp];wp_walk;have:ltL (e::y') (a::x')=ltL y' x':=by show(if e=a then _ else _)=_;rw[if_pos q.symm]
        rw[this]at bh;exact⟨rfl,rfl,us,vs,x',y',hrest,hu,hv,bh,by simp only[WV]at hlen;lia⟩
       .rw[show(toS a==toS e)=false by rw[beq_eq_false_iff_ne];intro z;exact q (oj z)];have:ltL (e::y') (a::x')=decide (e<a):=by show(if e=a then _ else _)=_;rw[if_neg (Ne.symm q)]
        rw[<-bh,this]at h;simp only[Jf,if_true];refine W0 (Qn ?_);refine W0 (show W6 _ _ (richCompare .LtE (.str (toS a) t1) (.str (toS e) t2)) _ _ _ from PySem.P.le_str ?_);refine W0 (W2 ?_);rw[kD,kD];exact W2 (W2 ⟨_,rfl,h⟩)
  case fin=>
   rintro⟨c1,c2⟩s'⟨hc,rfl,us,vs,x',y',hz,hu,hv,bh,hlen⟩;simp only at hc;subst hc;have:(!ltL y x)=decide (xs.size<=ys.size):=by rw[<-bh];cases us with
 |nil=>cases x' with|cons a x'=>exact hu.elim|nil=>
      have e:ltL y' []=false:=by cases y'<;>rfl
      rw[e];simp only[U7]at hlen;exact(decide_eq_true Y').symm
 |cons u0 us=>cases vs with|cons v0 vs=>cases hz|nil=>cases x' with|nil=>exact hu.elim|cons a x'=>cases y' with|cons b y'=>exact hv.elim|nil=>simp only[U7,WV]at hlen;show false=_;exact(decide_eq_false Y').symm
   rw[this]at h;wp_walk;exact⟨_,rfl,h⟩
  case h=>exact⟨rfl,rfl,xs.toList,ys.toList,x,y,rfl,hx,hy,rfl,by simp;lia⟩
end PySem.SeqAt
section
open Lake.SO
def He:R2:=λx y H Q=>∃(a b:Addr)(ks ls:List Tx),x=.ref a/\y=.ref b/\H a=some (.tup (ks.map λt=>V.str (toS t)))/\H b=some (.tup (ls.map λt=>V.str (toS t)))/\Q (.bl !ltL ls ks) H
theorem Ys(hu:X.A.units+64<Q3):bw X (WC .LtE) He:=by intros x y v u Q I rx ry h;obtain⟨a,b,ks,ls,rfl,rfl,ha,hb,q⟩:=h;cases rx;cases ry;obtain⟨_,its,r1,n,e1⟩:=show bz X.prog X.w H s.heap a (.tup (ks.map λt=>V.str (toS t)))from I.aB a _ ha;obtain⟨_,gf,r2,m,e2⟩:=show bz X.prog X.w H s.heap b (.tup (ls.map λt=>V.str (toS t)))from I.aB b _ hb;show W6 _ _ (richCompare .LtE (.ref a) (.ref b)) _ _ _;exact richCompare_meets_room (op:=.LtE) ⟨_,e1,rfl⟩ ⟨_,e2,rfl⟩ F.slot_tuple_le F.entry_tuple_le (F.args_tuple_le_2 _ _) (PySem.SeqAt.Yr a b its.toArray gf.toArray ks ls (vy (H:=H) r1 rfl) (vy (H:=H) r2 rfl) n m none none #[] #[]) ⟨e1,e2,(λx=>nomatch x),⟨.bl _,H,I,rfl,q⟩⟩ (show X.A.units<Q3 by lia)
noncomputable def mr(x y:D):Option S:=match x,y with|.tup xs,.tup ys=>(di xs).bind λks=>(di ys).map λls=>.pure (.bl !ltL ls ks)|_,_=>none
theorem zm{ws:List V}{ks:List Tx}(r:aH H O ws (ks.map D.str)):ws=ks.map λt=>V.str (toS t):=by
 apply JN;intro j;rw[Ws];have hlen:ws.length=ks.length:=by have:=r.1;simpa using this
 by_cases hj:j<ws.length
 .have nC:j<ks.length:=by lia
  have r0:=r.2 j (ws[j]'hj) (.str (ks[j]'nC)) #v[hj] (by rw[Ws,W4 nC];rfl);rw[W4 hj,W4 nC];generalize ws[j]'hj=z at r0;cases r0;rfl
 .rw[Q0 Y',Q0 Y'];rfl
universe H in theorem Yt:cu He mr:=by
 intro c Y Z H x y d e s Q k rx ry hp q;unfold mr at hp;split at hp;.rename_i xs ys;cases e1:di xs with|none=>rw[e1]at hp;cases hp|some ks=>cases e2:di ys with|none=>rw[e1,e2]at hp;cases hp|some ls=>rw[e1,e2]at hp;cases hp;rw[vz e1]at rx;rw[vz e2]at ry;obtain⟨a,vs,ea,ha,ra⟩:=rx.tup;obtain⟨b,ws,eb,hb,rb⟩:=ry.tup;have ta:vs=ks.map λt=>V.str (toS t):=zm ra;have tb:ws=ls.map λt=>V.str (toS t):=zm rb;rw[ta]at ha;rw[tb]at hb;exact⟨a,b,ks,ls,ea,eb,ha,hb,q _ H (.refl k) (.bl _)⟩
 .cases hp
end
namespace Lake.SO
open Lake.SM PySem.W
abbrev zo:V->Hp->VK->Prop:=λv H Q=>∃(a:Addr)(ep:Nat)(aw:List NE)(ks:List (List Tx)),v=.ref a/\H a=some (.dN ep aw)/\ks.length=aw.length/\(∀(i:Nat)v,(aw.map (·.2.1))[i]?=some v->ks.getD i []≠[]/\∃b ws,v=.ref b/\H b=some (.tup ws)/\ws=(ks.getD i []).map λt=>V.str (toS t))/\aw.length<=1000000/\∀p(ord:List Nat),H p=none->ord.Perm (Wx aw.length)->(ord.map λi=>ks.getD i [])=iH ks->Q (.ref p) (upd H p (.lst (ord.map λi=>(aw.map (·.2.1)).getD i .aD)))
theorem Yu{X:Cx}(hc:X.calm=true):dM X (.builtin "sorted") λxs H Q=>∃v,xs=[v]/\zo v H Q:=by
 intros xs us Q I r h;obtain⟨_,rfl,a,ep,aw,ks,rfl,ha,hlen,ht,h64,q⟩:=h;obtain⟨u,rfl,ru⟩:=fQ r;cases ru;obtain⟨z,lo,ys,o,es,rx,d⟩:=u7 I.aB ha;have hl:aw.length=ys.length:=Paired.length rx;have hz:es.size=ys.length:=by rw[<-Q8,d.ents,Wd]
 refine Calls.call_function_entry kind_sorted plain_sorted entry_sorted (args_sorted1 _) ?_;unfold Builtin.«sorted»;refine W0 (m:=checkCount "sorted" 1 1 _) (W2 ?_);refine W0 (kdu_collect (A:=X.A.in1) (Xy (prog:=X.prog) (w:=X.w) (d:=a) (ep:=ep) (xs:=ys) (es:=es) lo) (I.ok.hd hc) ⟨o,d⟩ Y' λh' tk acc kp qA=>?_);have hv:Vals (aw.map (·.2.1)) acc.toList:=F9 (w:=X.w) rx (by rw[Q8,qA.1,hz]) λj v ej=>by obtain⟨en,e1,e2⟩:=qA.2 j v (~~~ej);rw[<-Qq,d.ents,Ws]at e1;cases hy:ys[j]? with|none=>rw[hy]at e1;cases e1|some x=>rw[hy]at e1;cases e1;exact⟨x,rfl,e2⟩
 have j6:acc.toList.length=aw.length:=by rw[<-hv.length];simp
 refine W0 (wpAny_newList ?_ (by rw[j6,Qb];lia));have I1:Inv X pins Y H {s with heap:=h',toks:=tk}:=I.kept kp;generalize acc.toList=its at hv j6;have gL:(h'.push (WX "list" its.toArray 0)).get? h'.objs.size=some (WX "list" its.toArray 0):=We _ rfl;have t:kZ (h'.push (WX "list" its.toArray 0)) its ks:=⟨Y',λi v e=>by have hi:i<its.length:=(W8.mp e).1;have hvl:=hv.length;have hw:(aw.map (·.2.1))[i]?=some ((aw.map (·.2.1))[i]' Y'):=W4 Y';have rv:=Vals.at2 hv hw e;obtain⟨bN,b,ws,eb,hb,h0⟩:=ht i _ hw;rw[eb]at rv;obtain rfl:v=Value.ref b:=rv;obtain⟨_,its',r2,n,eo⟩:=show bz X.prog X.w H h' b (.tup ws)from I1.aB b _ hb;exact⟨bN,b,_,its'.toArray,n,rfl,W5 _ eo,rfl,rfl,vy (H:=H) r2 h0⟩⟩;have fin:∀ord:List Nat,ord.Perm (Wx its.length)->(ord.Pairwise λi j=>oU ks i<=oU ks j)->EP X pins Y Q (.ref h'.objs.size) {s with heap:=sortedHeap (h'.push (WX "list" its.toArray 0)) h'.objs.size its (Jy (ord.map λi=>its.getD i Value.none)),toks:=tk}:=λord hp hu=>by
  obtain⟨e,he⟩:=sortedHeap_at (vs:=its) (out:=Jy (ord.map λi=>its.getD i Value.none)) gL;rw[j6]at hp;have qE:(ord.map λi=>(aw.map (·.2.1)).getD i V.aD).length<=1000000:=by rw[Wd,hp.length_eq,Jq];lia
  refine⟨.ref h'.objs.size,_,I1.laid (t':=tk) (λb u hb=>?_) (W7 _) (show bz X.prog X.w _ _ _ (.lst (ord.map λi=>(aw.map (·.2.1)).getD i .aD))from⟨Wy qE (by rw[Qb];lia),ord.map λi=>its.getD i Value.none,e,hv.pick _ λi hi=>by have:=hp.mem_iff.mp hi;simp at this⊢;lia,he⟩),rfl,q _ ord (I1.aB.fresh (W7 _)) hp (G_ hlen hp hu)⟩;have bh:b<h'.objs.size:=Wj hb;rw[sortedHeap_old (WQ bh) %[size_push'|Nat.lt_succ_of_lt bh]];exact W5 _ hb
 show W6 _ _ _ _ _ {s with heap:=h'.push (WX "list" its.toArray 0),toks:=tk};by_cases h2:its.length<2;.refine W0 (WD (WY slot_list_sort ⟨_,gL,rfl⟩ entry_list_sort (FA (s:={s with heap:=h'.push (WX "list" its.toArray 0),toks:=tk}) gL h2 ⟨_,rfl,?_⟩) (args_list_sort _)));have f:=fin (Wx its.length) (.refl _) (G5 %[Jq|h2]);rw[y8]at f;exact W2 ⟨_,rfl,f⟩
 .refine W0 (WD (WY slot_list_sort ⟨_,gL,rfl⟩ entry_list_sort (G7 (s:={s with heap:=h'.push (WX "list" its.toArray 0),toks:=tk}) (G9 _ t Y') gL t Y' Y' λord p1 p2=>⟨_,rfl,?_⟩) (args_list_sort _)));exact W2 ⟨_,rfl,fin ord p1 p2⟩
end Lake.SO
section
open Lake.SO
noncomputable def nD:D->Option S|.dic ds=>(kg (ds.map (·.1))).bind λks=>if ks.length<=1000000 then some (.own (.lst ((iH ks).map iI)))else none|_=>none
section
variable{c:Fc}
universe H in theorem Yv(hc:X.calm=true)(hg:Gl X "sorted")(hm:X.mg "sorted"=none)(he:SB X c e fb)(hs:Wa [e] X.env=(false,eval e X.env)::Wa [] X.env:=by rfl):SE X c (.Call (.Name "sorted" pp) [e] [] pos) (aE nD fb):=uk (r:=zo) (rl:=λxs H Q=>∃v,xs=[v]/\zo v H Q) (Yu hc) (λv H Q h=>⟨v,rfl,h⟩) (λc Y Z H x d s Q k rx hp q=>by cases d with
 |dic ds=>simp only[nD]at hp;cases e:kg (ds.map (·.1))with|none=>rw[e]at hp;cases hp|some ks=>
     rw[e]at hp;simp only[WB]at hp;split at hp
     .rename_i hh;cases hp;obtain⟨h1,h2⟩:=zf e;obtain⟨a,ep,ws,ea,ha,dn⟩:=F6 rx;have rk:=dn.F_;have hl:=rk.1;have hlw:ws.length=ds.length:= ~~~hl;have h1:ks.length=ds.length:= ~~~h1;refine⟨a,ep,ws,ks,ea,ha,Y',λi v ev=>?_,Y',λp ord hp ho hs=>?_⟩;.have hi:i<(ws.map (·.2.1)).length:=(W8.mp ev).1;rw[Wd]at hi;have hd:(ds.map (·.1))[i]?=some ((ds.map (·.1))[i]'(by rw[Wd];lia)):=W4 (by rw[Wd];lia);obtain⟨bN,er⟩:=h2 i _ hd;have rv:=rk.2 i v _ ev hd;rw[er]at rv;refine⟨bN,?_⟩;cases rv with|@tup b us _ _ hb hlen hat=>exact⟨b,us,rfl,hb,zm (H:=H) (O:=Av c Y Z) ⟨hlen,hat⟩⟩
      .have ed:(iH ks).map iI=ord.map λi=>(ds.map (·.1)).getD i .aD:=by
        rw[<-hs,WU];apply JA;intro i hi;have hi:i<(ds.map (·.1)).length:=by have:=ho.mem_iff.mp hi;simp at this⊢;lia
        obtain⟨_,er⟩:=h2 i (ds.map (·.1))[i] (by simp only[W4 hi]);show iI (ks.getD i [])=(ds.map (·.1)).getD i .aD;rw[Q7 (l:=ds.map (·.1)),W4 hi,Jw];exact er.symm
       have R:=aN.jv k (aH.pick rk ord λi hi=>by have:=ho.mem_iff.mp hi;simp at this⊢;lia) hp;rw[<-ed]at R;exact q _ _ (.alloc k hp _) R
     .cases hp|_=>simp[nD]at hp) hg hm PyProof.Rows.boot_sorted he Z' Z' hs
theorem Yw{ps:List (D×D)}(hk:ps.map (·.1)=ks.map iI)(h:∀k∈ks,k≠[])(hb:ks.length<=1000000):nD (.dic ps)=some (.own (.lst ((iH ks).map iI))):=by simp only[nD];rw[hk,zg h];simp only[WB];rw[if_pos hb]
end
def Hf(K:W3)(neg:Bool):R2:=λx y H Q=>yI K neg x y H Q\/∃p vs ds d,y=.ref p/\H p=some (.tup vs)/\aH H cU vs ds/\Rep H cU x d/\flat 49 d=true/\(∀e∈ds,flat 49 e=true)/\Q (.bl (if neg then !ds.any λe=>aU e d else ds.any λe=>aU e d)) H
theorem Yx(hu:X.A.units+64<Q3):bw X (WC .NotIn) (Hf X.K true):=by
 intros x y v u Q I rx ry h;rcases h with h|⟨p,vs,ds,d,rfl,hq,rs,r1,f1,fs,q⟩;.exact FI hu pins s Y H x y v u Q I rx ry h
 .cases ry;obtain⟨_,its,r,n,eo⟩:=show bz X.prog X.w H s.heap p (.tup vs)from I.aB p _ hq;obtain⟨e,h1,h2⟩:=FH hu I rx r1 f1 r rs fs;refine SeqAt.notIn_tupleAt e ⟨_,eo,rfl,n,rfl⟩ h1 ⟨.bl _,H,I,rfl,?_⟩;rw[h2];exact q
noncomputable def gH(neg:Bool)(x y:D):Option S:=match y with|.tup ds=>if flat 49 x&&ds.all (flat 49)then 0#(.bl (if neg then !ds.any λe=>aU e x else ds.any λe=>aU e x)) else none|y=>gk neg x y
universe H in theorem Yy(neg:Bool):cu (Hf K neg) (gH neg):=by
 intro c Y Z H x y d e s Q k rx ry hp q;unfold gH at hp;split at hp
 .rename_i ds;split at hp;.rename_i hf;cases hp;simp only[Wr,WW]at hf;obtain⟨a,vs,ea,ha,r⟩:=ry.tup;exact .inr ⟨a,vs,ds,d,ea,ha,aH.bj r λ_ z=>z.elim,rx.un,hf.1,hf.2,q _ H (.refl k) (.bl _)⟩
  .cases hp
 .exact .inl (FJ neg c Y Z H x y d e s Q k rx ry hp q)
theorem gR{v}(e:b (bU n ss)=.ok (.ret v) S')(h1:cY np 0 ss=true)(h2:cj 0 ss S'=some aG):bq np n b ss=some (v,aG):=by unfold bq gW;rw[if_pos h1,e];simp[dY,h2]
theorem nE{b:DS}{v:S}(e:b (bU n ss)=.ok (.ret v) S')(h1:cY np 0 ss=true)(h2:cj 0 ss S'=some aG):ka np n b ss=some (.inl (v,aG)):=by unfold ka kS;rw[if_pos h1,e];simp[dY,h2]
theorem dH(h:b S'=x)(e:a Z=.ok .next S'):ar a b Z=x:=by unfold ar;rw[e];exact h
theorem vB(h:ar a r S'=x)(e:t Z=.ok true S'):ar (aX t a b) r Z=x:=by rw[<-h];unfold ar aX;rw[e];rfl
theorem vC(h:ar b r S'=x)(e:t Z=.ok false S'):ar (aX t a b) r Z=x:=by rw[<-h];unfold ar aX;rw[e];rfl
theorem zp(h:r Z=x):ar aW r Z=x:=h
theorem zq(h:ar a (ar b r) Z=x):ar (ar a b) r Z=x:=by rw[<-h];unfold ar;rcases a Z with⟨v,S'⟩|_|_<;>first|rfl|(cases v<;>rfl)
theorem eN{v}(e:a Z=.ok (.ret v) S'):ar a b Z=.ok (.ret v) S':=by unfold ar;rw[e];rfl
theorem ai(i j:Int):aQ (.int i) (.int j)=0#(.int (i+j)):=rfl
theorem Hg(i j:Int):mZ (.int i) (.int j)=0#(.int (i-j)):=rfl
theorem Hh(xs:List D):dh (.lst xs)=0#(.tup xs):=rfl
theorem zr(a b:D):ag (.tup [a,b]) (.int 0)=0#a/\ag (.tup [a,b]) (.int 1)=0#b:=⟨rfl,rfl⟩
theorem Hi(a b c:D):ag (.tup [a,b,c]) (.int 0)=0#a/\ag (.tup [a,b,c]) (.int 1)=0#b/\ag (.tup [a,b,c]) (.int 2)=0#c:=⟨rfl,rfl,rfl⟩
theorem Hj(f:DE)(Z:Dl):a7 f Z=(f Z).bind λr S'=>match r.d with|.lst ds=>.ok ds S'|.tup ds=>.ok ds S'|.str x=>.ok (x.map λn=>.str [n]) S'|_=>.stuck:=id rfl
@[simp high]theorem zzg{α:Type}(a:α)(l:List α):(a::l)[0]?=some a:=rfl
@[simp high]theorem zzh{α:Type}(a:α)(l:List α)(n:Nat):(a::l)[n+1]?=l[n]?:=rfl
theorem Hk{α β:Type}(a:α)(Z:Dl)(f:α->Dl->Rs β):(Rs.ok a Z).bind f=f a Z:=rfl
theorem rz{p:Prop}(h:p:=by exists "WU List.map_take List.map_drop;bU aA az au af bW fm c9 cq bK aa aq cg aS cx S.d ay bB cP dk cD bS bp aE cR xI dg ai Hg Hh nu cO gC putL eS bt dj uK Hj gy zr Hi",_,_,_<;>first|rfl|(refine⟨?_,?_⟩<;>rfl)|(refine⟨⟨?_,?_⟩,?_⟩<;>rfl)):p:=h
theorem cT{p:Prop}(h:p:=by exists "kb WU List.map_take List.map_drop;Hk bU aA az au af bW fm c9 cq bK aa aq cg aS cx S.d ay bB cP dk cD bS bp aE cR xI dg ai Hg Hh nu cO gC putL eS bt dj uK Hj gy zr Hi",_,_,_<;>first|rfl|(refine⟨?_,?_⟩<;>rfl)|(refine⟨⟨?_,?_⟩,?_⟩<;>rfl)):p:=h
theorem Run{p:Prop}(h:p:=by repeat' first|((with_reducible show bq _ _ _ _=_);apply gR)|((with_reducible show ka _ _ _ _=_);apply nE)|((with_reducible show cj _ _ _=_);rfl)|((with_reducible show cY _ _ _=_);rfl)|((with_reducible refine zq ?_))|((with_reducible refine zp ?_))|((with_reducible show ar (aX _ _ _) _ _=_);first|refine vB ?_ cT|refine vC ?_ cT)|refine dH ?_ cT|exact eN cT|exact cT):p:=h
theorem gF(h:bq np n b ss=x)(io:cY np 0 ss=true):∃y,b (bU n ss)=y/\∀{v S' aG},.ok (.ret v) S'=y->cj 0 ss S'=some aG->x=some (v,aG):=⟨_,rfl,λe o=>by rw[<-h];exact gR e.symm io o⟩
theorem fw{b b1:DS}{y:Rs Fl}(h:b Z=y)(e:b Z=b1 S'):b1 S'=y:=e▸h
theorem nF{p:Prop}(h:p:=by repeat' first|((with_reducible refine zq ?_))|((with_reducible refine zp ?_))|((with_reducible show ar (aX _ _ _) _ _=_);first|refine vB ?_ cT|refine vC ?_ cT)|refine dH ?_ cT|exact rfl):p:=h
theorem fL{it}(h:ar (bM it g b) r Z=y)(e:it Z=.ok ds N1)(I:Nat->Dl->Prop)(h0:I 0 N1)(hs:∀(i:Nat)d Z,ds[i]?=some d->I i Z->∃S',g (.pure d) Z=some S'/\∀y,b S'=y->∃SL,y=.ok .next SL/\I (i+1) SL):∃SZ,I ds.length SZ/\r SZ=y:=by
 obtain⟨SZ,e1,h1⟩:=uX (g:=g) (b:=b) I ds 0 N1 h0 λi d Z hd hi=>by rw[Jx]at hi⊢;obtain⟨S',e1,h1⟩:=hs i d Z hd hi;obtain⟨SL,e2,h2⟩:=h1 _ rfl;exact⟨S',SL,e1,e2,h2⟩
 rw[Jx]at h1;refine⟨SZ,h1,?_⟩;rw[<-h];unfold ar bM;rw[e];show _=Rs.bind (forL g b ds N1) _;rw[e1];rfl
theorem nm{b:DS}{N1:Dl}{y:Rs Fl}(h:b N1=y):∃Z,N1=Z/\b Z=y:=⟨_,rfl,h⟩
theorem cM{A:Type}(f F:A->D){as:List A}{it:DI}{g:DG}{t:DT}(e:it Z=.ok (as.map f) S')(hl:as.length<=1000)(hs:∀a∈as,∃Z1' SL x Pv,g (.pure (f a)) (bt cs S')=some Z1'/\t Z1'=.ok true SL/\el SL=.ok x Pv/\bt cs Pv=bt cs S'/\x.d=F a)(no:cs.any (dk S')=false:=by rfl):bI cs it g t el Z=.ok (.own (.lst (as.map F))) (dj cs S' (bt cs S')):=by have c:=oJ (cs:=cs) (g:=g) (t:=t) (el:=el) f F (bt cs S') as [] (by have:PySem.sizeLine=16777216:=rfl;simp;lia) hs;unfold bI;rw[e];show(if _ then _ else _)=_;rw[if_neg (by rw[no];decide),c];rfl
theorem cI{it:DI}{g:DG}{t:DT}(e:it Z=.ok ds S')(hl:ds.length<=1000)(I:Dl->Prop)(R:D->D->Prop)(h0:I (bt cs S'))(hs:∀d∈ds,∀Z,I Z->∃S' SL x Pv,g (.pure d) Z=some S'/\t S'=.ok true SL/\el SL=.ok x Pv/\I (bt cs Pv)/\R d x.d)(no:cs.any (dk S')=false:=by rfl):∃xs SZ,bI cs it g t el Z=.ok (.own (.lst xs)) (dj cs S' SZ)/\I SZ/\xs.length=ds.length/\∀(i:Nat)d x,ds[i]?=some d->xs[i]?=some x->R d x:=by obtain⟨xs,SZ,c,h1,h2,h3⟩:=yD (cs:=cs) (g:=g) (t:=t) (el:=el) I R ds (bt cs S') [] h0 (by have:PySem.sizeLine=16777216:=rfl;simp;lia) hs;refine⟨xs,SZ,?_,h1,h2,h3⟩;unfold bI;rw[e];show(if _ then _ else _)=_;rw[if_neg (by rw[no];decide),c];rfl
theorem Hl{it:DI}{g:DG}{t:DT}{E:DE}(hE:bI cs it g t el=E)(e:it Z=.ok ds S')(hl:ds.length<=1000)(I:Dl->Prop)(R:D->D->Prop)(h0:I (bt cs S'))(hs:∀d∈ds,∀Z,I Z->∃S' SL x Pv,g (.pure d) Z=some S'/\t S'=.ok true SL/\el SL=.ok x Pv/\I (bt cs Pv)/\R d x.d)(no:cs.any (dk S')=false):∃xs SZ,E Z=.ok (.own (.lst xs)) (dj cs S' SZ)/\I SZ/\xs.length=ds.length/\∀(i:Nat)d x,ds[i]?=some d->xs[i]?=some x->R d x:=hE▸cI e hl I R h0 hs no
theorem xp{b:DS}{y:Rs Fl}(h:b Z=y)(e:Z=S'):b S'=y:=e▸h
end
end Lake
namespace Lake.K60
open _root_.PySem.W(nsIn keepIn codeIn findIn mroIn kitOne mg_of)
open _root_.PySem _root_.PySem.Spec PyProof.Rows
abbrev mz:Tx:=[97,98,99,100,101,102,103,104,105,106,107,108,109,110,111,112,113,114,115,116,117,118,119,120,121,122]
variable{A B BD C DB P1 P2 T1 T2 d1 d2 f1 f2 pd r1 r2 ru x y:D}{B' B1 B2 bs':8#0}{G GR GS GT GZ:DF}{H W h' i j m n n' s t' w w':Nat}{K:W3}{L acc ds es ls r xs:List D}{N:List Str}{P:Wm}{R:Rs Fl}{as:List S}{base:Heap}{bb:Bool}{cs np t1 t2 ts:List Nat}{el f f3 fh:DE}{fa:Addr}{fl:List Tx}{g:DG}{h2 w2 z:Int}{it:DI}{mg:Str->Option Value}{p:D->D->Option S}{q:D->Option S}{s6 v:S}{u:DT}{Z N1 S' SL:Dl}
theorem oRR{a b:Prop}(h:a\/b:=by first|exact Or.inl rfl|exact Or.inr rfl):a\/b:=h
def top(i:Nat):Stmt:=PySem.Challenge.pw_tilegrow_k60_alike_by_anybody.main.body.getD i (.Pass ⟨0,0,0,0⟩)
abbrev Hm:Stmt:=top 32
abbrev Hn:Stmt:=top 34
abbrev Ho:Stmt:=top 33
abbrev Hq:Stmt:=top 35
abbrev Hr:Stmt:=top 37
abbrev Ht:Stmt:=top 40
abbrev Hu:Stmt:=top 39
abbrev Hv:Stmt:=top 41
abbrev Hw:Stmt:=top 42
abbrev Hx:Stmt:=top 38
abbrev Hy:Stmt:=top 43
abbrev Hz:Stmt:=top 44
abbrev HA:Stmt:=top 45
abbrev HC:Stmt:=top 46
abbrev HE:Stmt:=top 18
abbrev HF:Stmt:=top 23
abbrev HG:Stmt:=top 24
abbrev HH:Stmt:=top 21
abbrev HI:Stmt:=top 16
abbrev HK:Stmt:=top 17
abbrev HL:Stmt:=top 19
abbrev HM:Stmt:=top 20
abbrev HN:Stmt:=top 25
abbrev zt:Stmt:=top 26
abbrev HP:Stmt:=top 12
abbrev HQ:Stmt:=top 13
abbrev HR:Stmt:=top 29
abbrev HS:Stmt:=top 28
abbrev HU:Stmt:=top 27
abbrev zu:Stmt:=top 30
abbrev HV:Stmt:=top 36
abbrev HW:Stmt:=top 52
abbrev HX:Stmt:=top 47
abbrev HY:Stmt:=top 48
abbrev HZ:Stmt:=top 50
abbrev H_:Stmt:=top 49
abbrev Ia:Stmt:=top 51
abbrev Ib:Stmt:=top 53
abbrev k6:Stmt:=top 54
abbrev ys:List Tx:=[[85,110,108,105,107,101]]
section
variable(ce:Tx->Nat)
structure Txt(K:W3)(mg:Str->Option Value):Prop where
 rA:mg "ValueError"=none
 rB:mg "all"=none
 rC:mg "bool"=none
 rD:mg "dict"=none
 rE:mg "int"=none
 rF:mg "isinstance"=none
 rG:mg "len"=none
 rH:mg "list"=none
 rJ:mg "max"=none
 rK:mg "range"=none
 rL:mg "sorted"=none
 rM:mg "str"=none
 rN:mg "tuple"=none
 rO:mg "zip"=none
 ty_bool:kH K "bool"ty_str:kH K "str"ty_tuple:kH K "tuple"rP:∃t,mg "MOST_TILES"=some (.int 64 t)Yz:mg "FloorError"=some (.ref (ce [70,108,111,111,114,69,114,114,111,114]))YA:mg "NoFloor"=some (.ref (ce [78,111,70,108,111,111,114]))YB:mg "NoPlace"=some (.ref (ce [78,111,80,108,97,99,101]))YC:mg "NoNumber"=some (.ref (ce [78,111,78,117,109,98,101,114]))YD:mg "NoRow"=some (.ref (ce [78,111,82,111,119]))YE:mg "Unlike"=some (.ref (ce [85,110,108,105,107,101]))YF:mg "NoTile"=some (.ref (ce [78,111,84,105,108,101]))YG:mg "NoRule"=some (.ref (ce [78,111,82,117,108,101]))YH:mg "NoText"=some (.ref (ce [78,111,84,101,120,116]))YI:mg "TooGreat"=some (.ref (ce [84,111,111,71,114,101,97,116]))YJ:j8 K (ce [70,108,111,111,114,69,114,114,111,114])YK:j8 K (ce [85,110,108,105,107,101])YL:IsT K ce ys (.ref (ce [78,111,70,108,111,111,114])) λz=>z==[78,111,70,108,111,111,114]YM:IsT K ce ys (.ref (ce [78,111,80,108,97,99,101])) λz=>z==[78,111,80,108,97,99,101]YN:IsT K ce ys (.ref (ce [78,111,78,117,109,98,101,114])) λz=>z==[78,111,78,117,109,98,101,114]YO:IsT K ce ys (.ref (ce [78,111,82,111,119])) λz=>z==[78,111,82,111,119]YQ:IsT K ce ys (.ref (ce [85,110,108,105,107,101])) λz=>z==[85,110,108,105,107,101]YR:IsT K ce ys (.ref (ce [78,111,84,105,108,101])) λz=>z==[78,111,84,105,108,101]YS:IsT K ce ys (.ref (ce [78,111,82,117,108,101])) λz=>z==[78,111,82,117,108,101]YT:IsT K ce ys (.ref (ce [78,111,84,101,120,116])) λz=>z==[78,111,84,101,120,116]YU:IsT K ce ys (.ref (ce [84,111,111,71,114,101,97,116])) λz=>z==[84,111,111,71,114,101,97,116]YV:IsT K ce ys (.type "ValueError") λj=>true
 YW:∀y∈ys,mg (toS y)=some (.ref (ce y))/\mroIn K (ce y) (.ref (ce [70,108,111,111,114,69,114,114,111,114]))=some true
end
abbrev Ic:DS:=ar (aX (aA (af jx 1 (ae (aE br (aq 0))))) (aI (af ag 0 (aq 1))) aW) (aI 3#0)
def oW:DF:=bq [] 2 Ic
abbrev Ie:DS:=ar (az (uo (aa 0) (au mZ 3#0 (aq 0))) (ah [] 1)) (aI (cC (ao (aa 1) (ao (aE oA (ae (af xN 1 (ae (au ug 3#10 1#18))))) (ao (af i4 1 1#1000003) aF)))))
def oX:DF:=bq [] 2 Ie
abbrev Ig:DS:=ar (az (au i4 (af aQ 0 1#7919) 1#2147483647) (ah [] 0)) (aI (au i4 (au aQ (au aQ (af cN 0 (aq 0)) (ae (au cN 3#48271 (aq 0)))) 1#12345) 1#2147483629))
def oY:DF:=bq [] 1 Ig
abbrev Ih:DS:=ar (aX (aA (au bo (af ag 0 1#1) 1#1)) (ar (az (au i4 (af ag 0 1#0) (aq 1)) (ah [0] 2)) (ar (eS 0 3#0 (au ir (af ag 0 1#0) (aq 1))) (aI (aa 2)))) aW) (ar (eS 0 3#2 (ay oY [.val (au aQ (ay oY [.val (af ag 0 1#2)]) 1#7)])) (aI (au i4 (au ir (af ag 0 1#2) 1#64) (aq 1))))
def cm:DF:=bq [0] 3 Ih
abbrev Ii:DS:=ar (az (eD (.str mz)) (ah [0] 2)) (ar (az (au ag (uJ [.tup [.int 2,.int 2],.tup [.int 1,.int 2],.tup [.int 2,.int 1],.tup [.int 2,.int 2],.tup [.int 1,.int 3],.tup [.int 2,.int 3],.tup [.int 3,.int 1],.tup [.int 3,.int 2],.tup [.int 4,.int 4],.tup [.int 2,.int 2]]) (ae (ay cm [.io 0,.val 3#10]))) (cg 2 (aS (ah [0] 3) (aS (ah [0] 4) cx)))) (ar (az (ay cm [.io 0,.val (au mZ 3#27 (aq 1))]) (ah [0] 5)) (ar (az (c9 2 (bK (aa 5)) (bK (au aQ (af aQ 5 1#1) (ae (ay cm [.io 0,.val (aa 1)]))))) (ah [0] 6)) (ar (az (au aQ 3#1 (ae (ay cm [.io 0,.val 3#3]))) (ah [0] 7)) (ar (az (cC aF) (ah [0] 8)) (ar (bM (a7 (aa 6)) (ah [0] 9) (ar (az (cC aF) (ah [0] 10)) (ar (bM (eT (aa 3)) (ah [0] 11) (ar (az (bI [14] (eT (aa 4)) (ah [0] 14) cA (af ag 6 (ae (au ir (ay cm [.io 0,.val (aE br (aq 6))]) (aq 7))))) (ah [0] 12)) (cO 10 (aE (dX []) (aq 12))))) (cO 8 (aO (ao (aa 9) (ao (aE dh (aq 10)) aF))))))) (ar (aX (aA (au bo (ay cm [.io 0,.val 3#2]) 1#0)) (ar (az (af ag 8 1#0) (cg 2 (aS (ah [0] 9) (aS (ah [0] 13) cx)))) (eS 8 3#0 (aO (ao (aa 9) (ao (au aQ (aO (ao (af aQ 9 (ae (fm (af ag 13 1#0) (bK 3#1) cq))) aF)) (ae (c9 13 (bK 3#1) cq))) aF))))) aW) (aI (aO (ao (aa 3) (ao (aa 4) (ao (aE dh (aq 8)) aF))))))))))))
def rQ:DF:=bq [0] 15 Ii
abbrev Ij:DS:=ar (az (ay rQ [.io 0,.val (aa 1)]) (cg 3 (aS (ah [0] 2) (aS (ah [0] 3) (aS (ah [0] 4) cx))))) (ar (az (af ag 4 1#0) (cg 2 (aS (ah [0] 5) (aS (ah [0] 6) cx)))) (ar (az (au aQ (aO (ao (aO (ao (aa 5) (ao (au aQ (aO (ao (af aQ 5 (ae (fm (af ag 6 1#0) (bK 3#1) cq))) aF)) (ae (c9 6 (bK 3#1) cq))) aF))) aF)) (ae (c9 4 (bK 3#1) cq))) (ah [0] 4)) (aI (aO (ao (aO (ao (aa 2) (ao (aa 3) (ao (aa 4) aF)))) (ao (aa 5) aF))))))
def nG:DF:=bq [0] 7 Ij
abbrev Ik:DS:=aI (bI [1,2] (a7 (af ag 0 1#2)) (cg 2 (aS (ah [] 1) (aS (ah [] 2) cx))) cA (aa 1))
def eF:DF:=bq [] 3 Ik
abbrev Il:DS:=ar (az (fm (eD (.str [112,113,114])) cq (bK (au aQ 3#1 (ae (ay cm [.io 0,.val 3#3]))))) (ah [0] 2)) (aI (aE dh (ae (bI [3] (a7 (ay eF [.val (aa 1)])) (ah [0] 3) cA (aO (ao (aa 3) (ao (af ag 2 (ae (ay cm [.io 0,.val (aE br (aq 2))]))) aF)))))))
def mv:DF:=bq [0] 4 Il
abbrev Im:DS:=ar (az (eD (.str mz)) (ah [0] 2)) (ar (az (aa 1) (cg 3 (aS (ah [0] 3) (aS (ah [0] 4) (aS (ah [0] 5) cx))))) (ar (az (ay eF [.val (aa 3)]) (ah [0] 6)) (ar (az (ay cm [.io 0,.val (au mZ 3#27 (ae (au cN 3#2 (ae (aE br (aq 6))))))]) (ah [0] 7)) (ar (az (cC aF) (ah [0] 8)) (ar (az (cC aF) (ah [0] 9)) (ar (bM (eT (au cN 3#2 (ae (aE br (aq 6))))) (ah [0] 10) (ar (az (cC aF) (ah [0] 11)) (ar (bM (a7 (au cE (aE cZ (ae (af ag 3 1#2))) (ae (af ag 6 (ae (af ir 10 1#2)))))) (ah [0] 12) (cO 11 (aE (dX []) (ae (bI [13] (a7 (aa 12)) (ah [0] 13) cA (af ag 2 (ae (au aQ (af aQ 7 (ae (au cN 3#2 (ae (nu 6 (aa 13)))))) (ae (ay cm [.io 0,.val 3#2])))))))))) (ar (aX (aA (af bo 10 (ae (au cN 3#2 (ae (nu 6 (aa 4))))))) (eS 11 3#0 (au aQ (af ag 2 (ae (af aQ 7 (aq 10)))) (ae (fm (af ag 11 1#0) (bK 3#1) cq)))) aW) (ar (cO 8 (aO (ao (af ag 2 (ae (af aQ 7 (aq 10)))) (ao (aE dh (aq 11)) aF)))) (cO 9 (aO (ao (af ag 2 (ae (af aQ 7 (aq 10)))) (ao (au cE (aE cZ (aq 5)) (ae (af ag 6 (ae (af ir 10 1#2))))) aF))))))))) (aI (aO (ao (aO (ao (af ag 3 1#0) (ao (af ag 3 1#1) (ao (aE dh (aq 8)) aF)))) (ao (af ag 2 (ae (af aQ 7 (ae (au cN 3#2 (ae (nu 6 (aa 4)))))))) (ao (aE dh (aq 9)) aF)))))))))))
def rR:DF:=bq [0] 14 Im
abbrev Io:DS:=ar (az (aE cZ (ae (af ag 0 1#2))) (ah [] 2)) (ar (az (cC aF) (ah [] 3)) (ar (bM (a7 (aa 1)) (ah [] 4) (bM (eT (af ag 0 1#0)) (ah [] 5) (ar (az (eD (.str [])) (ah [] 6)) (ar (bM (a7 (aa 4)) (ah [] 7) (az (af aQ 6 (ae (au ag (af cE 2 (aq 7)) (aq 5)))) (ah [] 6))) (cO 3 (aa 6)))))) (aI (aE dh (aq 3)))))
def oZ:DF:=bq [] 8 Io
abbrev zw:DS:=ar (az (aa 0) (cg 3 (aS (ah [] 1) (aS (ah [] 2) (aS (ah [] 3) cx))))) (ar (aX (dg (aA (au gO (af ag 1 1#0) 1#2)) (aA (au gO (af ag 1 1#1) 1#2))) (aI (aa 0)) aW) (ar (az (bI [5,6] (a7 (af ag 1 1#2)) (cg 2 (aS (ah [] 5) (aS (ah [] 6) cx))) cA (aO (ao (aa 5) (ao (ay oZ [.val (aa 1),.val (aa 6)]) aF)))) (ah [] 4)) (aI (aO (ao (aO (ao (au cN (af ag 1 1#0) (ae (af ag 1 1#0))) (ao (au cN (af ag 1 1#1) (ae (af ag 1 1#1))) (ao (aE dh (aq 4)) aF)))) (ao (aa 2) (ao (aa 3) aF)))))))
def jJ:DF:=bq [] 7 zw
abbrev Ip:DS:=ar (az (aa 1) (cg 3 (aS (ah [0] 2) (aS (ah [0] 3) (aS (ah [0] 4) cx))))) (ar (az (ay cm [.io 0,.val (aE br (aq 4))]) (ah [0] 5)) (ar (aX (aA (au bo (ay cm [.io 0,.val 3#2]) 1#0)) (ar (az (au ag (eD (.str [112,113,114,115])) (ae (ay cm [.io 0,.val 3#4]))) (ah [0] 6)) (aI (aO (ao (aa 2) (ao (aa 3) (ao (au aQ (au aQ (c9 4 cq (bK (aa 5))) (ae (aO (ao (aO (ao (au ag (af ag 4 (aq 5)) 1#0) (ao (aa 6) aF))) aF)))) (ae (c9 4 (bK (af aQ 5 1#1)) cq))) aF)))))) aW) (ar (az (au ag (af ag 2 1#2) (aq 5)) (cg 2 (aS (ah [0] 7) (aS (ah [0] 8) cx)))) (ar (az (ay cm [.io 0,.val (af ag 2 1#0)]) (ah [0] 9)) (ar (az (ay cm [.io 0,.val (af ag 2 1#1)]) (ah [0] 10)) (ar (aX (aA (au bo (af aQ 9 (aq 10)) 1#0)) (aI (aa 1)) aW) (ar (az (au aQ (au aQ (fm (af ag 8 (aq 9)) cq (bK (aa 10))) (ae (au ag (ay eF [.val (aa 2)]) (ae (ay cm [.io 0,.val (aE br (aq 4))]))))) (ae (fm (af ag 8 (aq 9)) (bK (af aQ 10 1#1)) cq))) (ah [0] 11)) (ar (az (au aQ (au aQ (c9 8 cq (bK (aa 9))) (ae (aO (ao (aa 11) aF)))) (ae (c9 8 (bK (af aQ 9 1#1)) cq))) (ah [0] 8)) (aI (aO (ao (aO (ao (af ag 2 1#0) (ao (af ag 2 1#1) (ao (au aQ (au aQ (fm (af ag 2 1#2) cq (bK (aa 5))) (ae (aO (ao (aO (ao (aa 7) (ao (aa 8) aF))) aF)))) (ae (fm (af ag 2 1#2) (bK (af aQ 5 1#1)) cq))) aF)))) (ao (aa 3) (ao (aa 4) aF)))))))))))))
def nH:DF:=bq [0] 12 Ip
abbrev Iq:DS:=ar (az (ay nG [.io 0,.val 3#4]) (cg 2 (aS (ah [0] 1) (aS (ah [0] 2) cx)))) (ar (az (aO (ao (aa 1) (ao (aa 2) (ao (ay mv [.io 0,.val (aa 1)]) aF)))) (ah [0] 3)) (ar (az (ay cm [.io 0,.val 3#6]) (ah [0] 4)) (ar (aX (aA (af bo 4 1#0)) (ar (az (ay nG [.io 0,.val 3#3]) (cg 2 (aS (ah [0] 1) (aS (ah [0] 2) cx)))) (aI (aO (ao (aa 3) (ao (aO (ao (aa 1) (ao (aa 2) (ao (ay mv [.io 0,.val (aa 1)]) aF)))) aF))))) aW) (ar (az (au ag (cC (ao (aa 3) (ao (ay rR [.io 0,.val (aa 3)]) aF))) (ae (ay cm [.io 0,.val 3#2]))) (ah [0] 5)) (ar (aX (aA (au bo (ay cm [.io 0,.val 3#3]) 1#0)) (az (ay jJ [.val (aa 5)]) (ah [0] 5)) aW) (ar (aX (aA (af jx 4 1#4)) (az (ay nH [.io 0,.val (aa 5)]) (ah [0] 5)) aW) (ar (aX (aA (au bo (ay cm [.io 0,.val 3#2]) 1#0)) (aI (aO (ao (aa 5) (ao (aa 3) aF)))) aW) (aI (aO (ao (aa 3) (ao (aa 5) aF)))))))))))
def o_:DF:=bq [0] 6 Iq
abbrev Ir:DS:=ar (bM (a7 (eD (.tup [.int 1,.int 2]))) (ah [] 2) (bM (a7 (eD (.tup [.int 1,.int 2]))) (ah [] 3) (ar (az (cC (ao (af ag 0 1#0) (ao (af ag 0 1#1) (ao (af ag 1 1#0) (ao (af ag 1 1#1) aF))))) (ah [] 4)) (ar (aX (aA (af bo 2 1#2)) (ar (eS 4 3#0 (au cN (af ag 4 1#0) (ae (af ag 0 1#0)))) (eS 4 3#1 (au cN (af ag 4 1#1) (ae (af ag 0 1#1))))) aW) (ar (aX (aA (af bo 3 1#2)) (ar (eS 4 3#2 (au cN (af ag 4 1#2) (ae (af ag 1 1#0)))) (eS 4 3#3 (au cN (af ag 4 1#3) (ae (af ag 1 1#1))))) aW) (aX (aA (au bo (c9 4 cq (bK 3#2)) (ae (c9 4 (bK 3#2) cq)))) (aI (aO (ao (aa 2) (ao (aa 3) aF)))) aW)))))) (aI (eD .aD))
def rS:DF:=bq [] 5 Ir
abbrev Iu:DS:=ar (bM (eT (aa 2)) (ah [] 3) (az (af cN 0 (aq 1)) (ah [] 0))) (aI (aa 0))
def k7:DF:=bq [] 4 Iu
abbrev Iv:DS:=aI (aO (ao (ay k7 [.val 3#1,.val (af ag 0 1#0),.val (aa 1)]) (ao (ay k7 [.val 3#1,.val (af ag 0 1#1),.val (aa 1)]) aF)))
def iJ:DF:=bq [] 2 Iv
abbrev Iw:DS:=ar (bM (a7 (eD (.tup [.int 1,.int 2]))) (ah [] 2) (bM (a7 (eD (.tup [.int 1,.int 2]))) (ah [] 3) (aX (aA (au bo (ay iJ [.val (aa 0),.val (aa 2)]) (ae (ay iJ [.val (aa 1),.val (aa 3)])))) (aI (aO (ao (aa 2) (ao (aa 3) aF)))) aW))) (aI (eD .aD))
def pe:DF:=bq [] 4 Iw
abbrev Iy:DS:=aI (bI [1,2] (a7 (af ag 0 1#2)) (cg 2 (aS (ah [] 1) (aS (ah [] 2) cx))) cA (aa 1))
def rT:DF:=bq [] 3 Iy
abbrev Iz:DS:=bM (a7 (aE (dX []) (aq 1))) (ah [] 2) (aX (aA (au (fZ true) (aa 2) (aq 0))) ur aW)
def rV:DF:=bq [] 3 Iz
abbrev IA:DS:=ar (aX (aA (af gO 0 (aq 2))) ur aW) (aX (aA (af gO 1 (aq 2))) ur aW)
def rW:DF:=bq [] 3 IA
abbrev IB:DS:=ar (az (cC aF) (ah [] 3)) (ar (bM (a7 (aa 2)) (ah [] 4) (bM (eT (aa 1)) (ah [] 5) (cO 3 (aE (dX []) (ae (bI [6] (a7 (aa 4)) (ah [] 6) cA (au ag (af cE 0 (aq 6)) (aq 5)))))))) (aI (aE dh (aq 3))))
def mw:DF:=bq [] 7 IB
abbrev IC:DS:=ar (az (aa 0) (cg 3 (aS (ah [] 3) (aS (ah [] 4) (aS (ah [] 5) cx))))) (ar (az (aE cZ (aq 5)) (ah [] 6)) (ar (gU (ay rV [.val (aa 6),.val (aa 1)])) (ar (gU (ay rW [.val (ay k7 [.val (aE br (aq 1)),.val (aa 3),.val (aa 2)]),.val (ay k7 [.val (aE br (ae (af ag 1 1#0))),.val (aa 4),.val (aa 2)]),.val 3#64])) (ar (az (aa 1) (ah [] 7)) (ar (bM (eT (aa 2)) (ah [] 8) (az (ay mw [.val (aa 6),.val (aa 3),.val (aa 7)]) (ah [] 7))) (aI (aa 7)))))))
def pf:DF:=bq [] 9 IC
abbrev ID:DS:=aI (aE cZ (ae (bI [2] (a7 (ay rT [.val (aa 0)])) (ah [] 2) cA (aO (ao (aa 2) (ao (aE (dX []) (ae (ay pf [.val (aa 0),.val (aO (ao (aa 2) aF)),.val (aa 1)]))) aF))))))
def ph:DF:=bq [] 3 ID
abbrev vD:DS:=ar (az (ay pe [.val (af ag 0 1#0),.val (af ag 1 1#0)]) (ah [] 2)) (ar (aX (aA (au (j7 false) (aa 2) (ae (eD .aD)))) (Ff [85,110,108,105,107,101]) aW) (aI (aO (ao (ay ph [.val (af ag 0 1#0),.val (af ag 2 1#0)]) (ao (ay ph [.val (af ag 1 1#0),.val (af ag 2 1#1)]) aF)))))
def nJ:DX:=ka [] 3 vD
theorem IE:gw ["painted","other","power"] ["painted","other"] (bP zt):=scc
abbrev IF:DS:=ar (aX (dg (cR (aA (fk "str" (aq 0)))) (cR (aA (j0 lQ lQ 3#1 (aE br (aq 0)) (aq 1))))) (aI (eD (.bl false))) aW) (aI (aE gQ (ae (bI [2] (a7 (aa 0)) (ah [] 2) cA (j0 lQ lQ (eD (.str [97])) (aa 2) (ae (eD (.str [122]))))))))
def rX:DF:=bq [] 3 IF
abbrev IG:DS:=aI (ay rX [.val (aa 0),.val 3#1])
def mx:DF:=bq [] 1 IG
abbrev IH:DS:=ar (aX (cR (aA (fk "tuple" (aq 1)))) (aI (eD (.bl false))) aW) (ar (az (aO aF) (ah [] 2)) (ar (bM (a7 (aa 1)) (ah [] 3) (ar (aX (dg (cR (aA (fk "tuple" (aq 3)))) (aA (au fV (aE br (aq 3)) 1#2))) (aI (eD (.bl false))) aW) (ar (aX (dg (cR (aA (ay mx [.val (af ag 3 1#0)]))) (dg (cR (aA (ay mx [.val (af ag 3 1#1)]))) (aA (af mr 3 (aq 2))))) (aI (eD (.bl false))) aW) (ar (aX (dg (aA (au (fZ true) (af ag 3 1#0) (ae (af ag 0 1#0)))) (aA (au (fZ true) (af ag 3 1#1) (ae (af ag 0 1#1))))) (aI (eD (.bl false))) aW) (az (aa 3) (ah [] 2)))))) (aI (eD (.bl true)))))
def rY:DF:=bq [] 4 IH
abbrev II:DS:=ar (az (aE cZ (ae (af ag 0 1#2))) (ah [] 3)) (ar (az (aE cZ (ae (af ag 1 1#2))) (ah [] 4)) (aI (bI [5] (a7 (aa 2)) (ah [] 5) (aA (au fV (af cE 3 (ae (af ag 5 1#0))) (ae (af cE 4 (ae (af ag 5 1#1)))))) (aa 5))))
def rZ:DF:=bq [] 6 II
abbrev IJ:DS:=aI (qX (au cE (af ag 0 1#0) (ae (af ag 1 1#0))) (au cE (af ag 0 1#1) (ae (af ag 1 1#1))))
def nK:DF:=bq [] 2 IJ
abbrev vE:DS:=ar (az (jB nJ [.val (aa 0),.val (aa 1)]) (ah [] 3)) (ar (aX (dg (cR (aA (ay rY [.val (aa 3),.val (aa 2)]))) (aA (au (gH true) (aO (ao (af ag 0 1#1) (ao (af ag 1 1#1) aF))) (aq 2)))) (aI (eD (.bl false))) aW) (ar (aX (aA (au gO (aE br (ae (ay rZ [.val (aa 0),.val (aa 1),.val (aa 2)]))) 1#0)) (aI (eD (.bl false))) aW) (ar (az (aE mn (ae (bI [5] (a7 (aa 2)) (ah [] 5) cA (aO (ao (aa 5) (ao (eD (.bl true)) aF)))))) (ah [] 4)) (ar (bM (a7 (aa 2)) (ah [] 5) (aX (cR (aA (aE gQ (ae (bI [6] (a7 (ay nK [.val (aa 3),.val (aa 5)])) (ah [] 6) cA (au (kX false) (aa 6) (aq 4))))))) (aI (eD (.bl false))) aW)) (aI (eD (.bl true)))))))
def jd:DX:=ka [] 7 vE
theorem IK:gw ["painted","other","thing","texts","listed","pair","part"] ["painted","other","thing"] (bP zu):=scc
abbrev IL(ce:Tx->Nat):DS:=ar (az (cC (ao (f7 ce ys (λz=>z==[78,111,70,108,111,111,114]) (aq 0)) (ao (f7 ce ys (λz=>z==[78,111,80,108,97,99,101]) (aq 0)) aF))) (ah [] 1)) (ar (az (af aQ 1 (ae (cC (ao (f7 ce ys (λz=>z==[78,111,78,117,109,98,101,114]) (aq 0)) (ao (f7 ce ys (λz=>z==[78,111,82,111,119]) (aq 0)) aF))))) (ah [] 1)) (ar (az (af aQ 1 (ae (cC (ao (f7 ce ys (λz=>z==[85,110,108,105,107,101]) (aq 0)) (ao (f7 ce ys (λz=>z==[78,111,84,105,108,101]) (aq 0)) aF))))) (ah [] 1)) (ar (az (af aQ 1 (ae (cC (ao (f7 ce ys (λz=>z==[78,111,82,117,108,101]) (aq 0)) (ao (f7 ce ys (λz=>z==[78,111,84,101,120,116]) (aq 0)) aF))))) (ah [] 1)) (ar (cO 1 (f7 ce ys (λz=>z==[84,111,111,71,114,101,97,116]) (aq 0))) (ar (aX (dg (cR (aA (f7 ce ys (λj=>true) (aq 0)))) (aA (au fV (aE qJ (aq 1)) 1#1))) (aI (eD (.str [111,116,104,101,114]))) aW) (ar (az (uJ [.str [102,108,111,111,114],.str [112,108,97,99,101],.str [110,117,109,98,101,114],.str [114,111,119],.str [117,110,108,105,107,101],.str [116,105,108,101],.str [114,117,108,101],.str [116,101,120,116],.str [103,114,101,97,116]]) (ah [] 2)) (aI (af ag 2 (ae (aE qK (aq 1)))))))))))
def pj(ce:Tx->Nat):DF:=bq [] 3 (IL ce)
abbrev IM(ce:Tx->Nat):DS:=ar (ni ce ys 2 (gU (jB jd [.val (af ag 0 1#0),.val (af ag 0 1#1),.val (aa 1)])) (aI (au bo (ay (pj ce) [.val (aa 2)]) (ae (eD (.str [117,110,108,105,107,101])))))) (aI (eD (.bl false)))
def pk(ce:Tx->Nat):DF:=bq [] 3 (IM ce)
abbrev IP:DS:=ar (aX (aA (af bo 1 1#1)) (aI (aa 0)) aW) (aI (ay jJ [.val (aa 0)]))
def nM:DF:=bq [] 2 IP
abbrev IQ:DS:=ar (az (cC aF) (ah [] 3)) (ar (bM (a7 (aa 2)) (ah [] 4) (aX (aA (au (gk true) (aa 4) (aq 3))) (cO 3 (aa 4)) aW)) (ar (az 3#0 (ah [] 5)) (ar (gi (aA (af jx 5 (ae (aE br (aq 3))))) (ar (az (af ag 3 (aq 5)) (ah [] 6)) (ar (bM (jF (au cE (aE cZ (ae (au ag (af ag 0 1#0) 1#2))) (ae (af ag 6 1#0))) (au cE (aE cZ (ae (au ag (af ag 1 1#0) 1#2))) (ae (af ag 6 1#1)))) (cg 2 (aS (ah [] 7) (aS (ah [] 8) cx))) (bM (jF (aa 7) (aa 8)) (ah [] 9) (aX (aA (au (gk true) (aa 9) (aq 3))) (cO 3 (aa 9)) aW))) (oH [] 5 3#1))) 1000000) (aI (aE jI (aq 3))))))
def ki:DF:=bq [] 10 IQ
abbrev IS:DS:=ar (az (ay cm [.io 0,.val (aE br (aq 3))]) (ah [0] 4)) (ar (az (af ag 3 (aq 4)) (cg 2 (aS (ah [0] 5) (aS (ah [0] 6) cx)))) (ar (az (ay eF [.val (af ag 1 1#0)]) (ah [0] 7)) (ar (az (aO (ao (af ag 7 (ae (ay cm [.io 0,.val (aE br (aq 7))]))) (ao (aa 6) aF))) (ah [0] 8)) (ar (az (cC (ao (aO (ao (aa 6) (ao (aa 5) aF))) (ao (aO (ao (aa 5) aF)) (ao (aO (ao (aa 5) (ao (aa 6) (ao (aa 5) aF)))) (ao (cC (ao (aa 5) (ao (aa 6) aF))) (ao (eD .aD) (ao (af aQ 5 (aq 6)) (ao (aO (ao (aa 5) (ao (eD (.str [65])) aF))) aF)))))))) (ah [0] 9)) (ar (az (af aQ 9 (ae (cC (ao (aO (ao (eD (.str [])) (ao (aa 6) aF))) (ao (aO (ao (aa 5) (ao (eD .aD) aF))) (ao (aO (ao (aa 5) (ao 3#0 aF))) (ao (aa 8) (ao (aO (ao (aa 5) (ao (aa 5) aF))) aF)))))))) (ah [0] 9)) (ar (az (bI [11] (a7 (aa 9)) (ah [0] 11) cA (au aQ (au aQ (c9 3 cq (bK (aa 4))) (ae (cC (ao (aa 11) aF)))) (ae (c9 3 (bK (af aQ 4 1#1)) cq)))) (ah [0] 10)) (ar (az (af aQ 10 (ae (cC (ao (au aQ (c9 3 cq (bK (aa 4))) (ae (c9 3 (bK (af aQ 4 1#1)) cq))) (ao (au aQ (c9 3 cq (bK (af aQ 4 1#1))) (ae (c9 3 (bK (aa 4)) cq))) (ao (aE l9 (aq 3)) aF)))))) (ah [0] 10)) (ar (cO 10 (aE jI (ae (af aQ 3 (ae (cC (ao (aa 8) aF))))))) (ar (az (au aQ (bI [12] (a7 (aa 10)) (ah [0] 12) cA (aE dh (aq 12))) (ae (cC (ao (aa 3) (ao (aO aF) (ao (eD .aD) (ao 3#0 (ao (eD (.str [])) (ao uK (ao (aO (ao (aE dh (aq 3)) aF)) aF)))))))))) (ah [0] 10)) (aI (af ag 10 (ae (ay cm [.io 0,.val (aE br (aq 10))])))))))))))))
def r8:DF:=bq [0] 13 IS
abbrev IT:DS:=ar (aX (dg (cR (aA (fk "tuple" (aq 2)))) (cR (aA (aE gQ (ae (bI [5] (a7 (aa 2)) (ah [] 5) cA (gy (fk "tuple" (aq 5)) (au bo (aE br (aq 5)) 1#2)))))))) (aI (eD (.bl false))) aW) (ar (bM (a7 (aa 2)) (cg 2 (aS (ah [] 3) (aS (ah [] 4) cx))) (ar (aX (dg (cR (aA (fk "str" (aq 3)))) (aA (au (gH true) (aa 3) (ae (ay eF [.val (af ag 0 1#0)]))))) (aI (eD (.bl false))) aW) (aX (dg (cR (aA (fk "str" (aq 4)))) (aA (au (gH true) (aa 4) (ae (ay eF [.val (af ag 1 1#0)]))))) (aI (eD (.bl false))) aW))) (ar (aX (dg (aA (au fV (aE qC (aq 2)) (ae (aE nD (ae (aE mn (ae (bI [5] (a7 (aa 2)) (ah [] 5) cA (aO (ao (aa 5) (ao 3#1 aF))))))))))) (aA (au (gH true) (aO (ao (af ag 0 1#1) (ao (af ag 1 1#1) aF))) (aq 2)))) (aI (eD (.bl false))) aW) (ar (aX (cR (aA (aE gQ (ae (bI [3,4] (a7 (aa 2)) (cg 2 (aS (ah [] 3) (aS (ah [] 4) cx))) cA (au bo (au cE (aE cZ (ae (af ag 0 1#2))) (aq 3)) (ae (au cE (aE cZ (ae (af ag 1 1#2))) (aq 4))))))))) (aI (eD (.bl false))) aW) (aI (au bo (aE dh (ae (ay ki [.val (aa 0),.val (aa 1),.val (aa 2)]))) (aq 2))))))
def pq:DF:=bq [] 6 IT
abbrev IU:DS:=ar (az (ay pq [.val (aa 1),.val (aa 2),.val (aa 3)]) (ah [] 4)) (ar (az (jD jd [.val (af ag 0 1#0),.val (af ag 0 1#1),.val (aa 3)]) (ah [] 5)) (aI (gy (fk "bool" (aq 5)) (gy (af bo 5 (aq 4)) (au bo (jD jd [.val (af ag 0 1#0),.val (af ag 0 1#1),.val (aa 3)]) (aq 4))))))
def r9:DF:=bq [] 6 IU
abbrev IV(ce:Tx->Nat):DS:=ar (az (ay rS [.val (au ag (af ag 1 1#0) 1#0),.val (au ag (af ag 1 1#1) 1#0)]) (ah [0] 2)) (ar (aX (aA (au (j7 false) (aa 2) (ae (eD .aD)))) (aI (gy (ay (pk ce) [.val (aa 1),.val (aO aF)]) (ay (pk ce) [.val (aa 1),.val (eD .aD)]))) aW) (ar (az (ay nM [.val (af ag 1 1#0),.val (af ag 2 1#0)]) (ah [0] 3)) (ar (az (ay nM [.val (af ag 1 1#1),.val (af ag 2 1#1)]) (ah [0] 4)) (ar (az (aO (ao (af ag 3 1#1) (ao (af ag 4 1#1) aF))) (ah [0] 5)) (ar (az (ay eF [.val (af ag 3 1#0)]) (ah [0] 6)) (ar (az (aO (ao (af ag 6 (ae (ay cm [.io 0,.val (aE br (aq 6))]))) (ao (au ag (ay eF [.val (af ag 4 1#0)]) 1#0) aF))) (ah [0] 7)) (ar (az (ay ki [.val (aa 3),.val (aa 4),.val (cC (ao (aa 5) aF))]) (ah [0] 8)) (ar (az (ay ki [.val (aa 3),.val (aa 4),.val (cC (ao (aa 5) (ao (aa 7) aF)))]) (ah [0] 9)) (ar (az (au aQ (cC (ao (aE dh (aq 8)) (ao (aE dh (aq 9)) aF))) (ae (bI [11] (eT 3#4) (ah [0] 11) cA (ay r8 [.io 0,.val (aa 3),.val (aa 4),.val (aa 8)])))) (ah [0] 10)) (aI (aE gQ (ae (bI [12] (a7 (aa 10)) (ah [0] 12) cA (ay r9 [.val (aa 1),.val (aa 3),.val (aa 4),.val (aa 12)]))))))))))))))
def my(ce:Tx->Nat):DF:=bq [0] 13 (IV ce)
abbrev zx(ce:Tx->Nat):DS:=ar (bM (a7 (au aQ (cC (ao (ay oW [.val (aa 0),.val 3#0]) aF)) (ae (c9 0 (bK 3#1) (bK 3#4))))) (ah [] 1) (ar (az (ay oX [.val (aa 1)]) (ah [] 2)) (ar (az (ay o_ [.io 2]) (ah [] 3)) (aX (dg (cR (aA (ay (my ce) [.io 2,.val (aa 3)]))) (cR (aA (ay (my ce) [.io 2,.val (aO (ao (af ag 3 1#0) (ao (af ag 3 1#0) aF)))])))) (aI (eD (.bl false))) aW)))) (aI (eD (.bl true)))
def r_(ce:Tx->Nat):DF:=bq [] 4 (zx ce)
theorem IW:gw ["script","cell","pen","pair"] ["script"] (bP k6):=scc
section
variable{w:Wu}{h:Heap}{x:Str}{st:Stmt}{k:Nat}{fb:DS}
theorem cH(M':K.In h)(W':h.Ns Wv mg)(d:aV K x st)(hG:G=bq np N.length fb:=by rfl)(hn:(N.take n).length=n:=by rfl)(S:gw N (N.take n) (bP st):=by exact⟨rfl,rfl,rfl,Pi,rfl,Pi,Pi⟩)(hb:∀{f fd},eJ K x x st f fd->Binds K fd (N.take n) []:=by intro f fd F;first|exact Fx F λj j j j j j j=>rfl|exact yy F λj j j j j j j j=>rfl|exact yz F λj j j j j j j j j=>rfl|exact Fy F λj j j j j j j j j j=>rfl|exact bd5 F λj j j j j j j j j j j=>rfl|exact bd6 F λj j j j j j j j j j j j=>rfl)(eG:∀(f:Addr)(c:Fc)(a_:Value)(A:Wp)(outer:List Env)(s:W1)(H:Hp)(E:XK),dz k (A.deeper (Jp x (bP st) s.heap.objs.size f a_))->Np c np->N.Nodup->fH (fF fG P w K mg base N x (bP st) f a_ A outer s H E).jV c (fR st) fb:=by intro f c a_ A outer s H E hr fW px;have hq:=uH hr;infer_instance):7#0 (k+1) x n G:=by obtain⟨f,fd,F,m⟩:=uV M' W' d;subst hG;have:=S6 F m (hb F) S (λc a_ A outer s H E hr fW=>eG f c a_ A outer s H E hr fW S.nd) λss y h=>uG h;rwa[hn]at this
theorem YX(M':K.In h)(W':h.Ns Wv mg)(d:aV K x st)(hG:G=bq np N.length fb:=by rfl)(hn:(N.take n).length=n:=by rfl)(S:gw N (N.take n) (bP st):=by exact⟨rfl,rfl,rfl,Pi,rfl,Pi,Pi⟩)(hb:∀{f fd},eJ K x x st f fd->Binds K fd (N.take n) []:=by intro f fd F;first|exact Fx F λj j j j j j j=>rfl|exact yy F λj j j j j j j j=>rfl|exact yz F λj j j j j j j j j=>rfl|exact Fy F λj j j j j j j j j j=>rfl|exact bd5 F λj j j j j j j j j j j=>rfl|exact bd6 F λj j j j j j j j j j j j=>rfl)(eG:∀(f:Addr)(c:Fc)(a_:Value)(A:Wp)(outer:List Env)(s:W1)(H:Hp)(E:XK),f6 k (A.deeper (Jp x (bP st) s.heap.objs.size f a_))->Np c np->N.Nodup->fH (fF fG P w K mg base N x (bP st) f a_ A outer s H E).uU c (fR st) fb:=by intro f c a_ A outer s H E hr fW px;have hq:=Vq hr;infer_instance):qH P w K mg base (k+1) x n G:=by obtain⟨f,fd,F,m⟩:=uV M' W' d;subst hG;have:=Vr F m (hb F) S (λc a_ A outer s H E hr fW=>eG f c a_ A outer s H E hr fW S.nd) λss y h=>uG h;rwa[hn]at this
end
section
theorem cv{p:Prop}(x:p):p:=x
local macro_rules|`(tactic|exists$e:ident)=>`(tactic|with_reducible refine'@$e ..)
local macro_rules|`(tactic|exists$p,$e:ident,$a,$b,$_)=>`(tactic|(with_reducible show SE _ _ _ $p;refine'@$e ..);rotate_left;exact$a;exact$b)
local macro_rules|`(tactic|exists$p,$e:ident,$a,$b,$_,$_)=>`(tactic|(with_reducible show ST _ _ _ $p;refine'@$e ..);rotate_left;exact$a;exact$b)
local macro_rules|`(tactic|exists$s:str)=>do let ts<-(s.getString.splitOn " ").toArray.mapM λh=>`(tacticSeq|with_reducible refine'@$(Lean.mkIdent h.toName) ..);`(tactic|first$[|$ts]*)
local macro_rules|`(tactic|exists$s:str,$_)=>do let ts<-(s.getString.splitOn " ").toArray.mapM λh=>`(tacticSeq|exact$(Lean.mkIdent h.toName));`(tactic|first$[|$ts]*)
local macro_rules|`(tactic|exists$s:str,$_,$_)=>do let i(x:String):=Lean.mkIdent x.toName;let ts<-(s.getString.splitOn ";").toArray.mapM λl=>match l.splitOn " " with|[x,o,r,a,b]=>`(tacticSeq|exists $(i x) $(i o) _ _,$(i r):ident,$(i a),$(i b),_)|[_,x,o,r,a,b]=>`(tacticSeq|exists aA ($(i x) $(i o) _ _),$(i r):ident,$(i a),$(i b),_,_)|_=>`(tacticSeq|fail);`(tactic|first$[|$ts]*)
set_option hygiene false in 
local macro_rules|`(tactic|infer_instance)=>`(tactic|(repeat' first|((with_reducible show SS _ _ _ _);first|((with_reducible show SS _ _ _ (bM _ _ _));first|(refine D_ PassesOwn.never rfl ?_ ?_ ?_)|(refine SS.jV ?_;refine D_ PassesOwn.never rfl ?_ ?_ ?_))|((with_reducible show SS _ _ _ (ni _ _ _ _ _));refine Va (ce:=ce) (ys:=ys) (i:=2) rfl fW rfl rfl px rfl rfl rfl T.Yz T.YJ (λy hy=>T.YW y hy) (λc pn xe fW IX=>?_) λea=>?_)|((with_reducible show SS _ _ _ (az (bI _ _ _ _ _) (ah _ _)));refine S5 fW rfl (@EA _ _ _ rfl rfl) px rfl rfl ?_ (λl s0 H0 ex=>?_) (λl s0 H0 ex=>?_) (λl s0 H0 ex=>?_) (Ex fW rfl))|((with_reducible show SS _ _ _ (gi _ _ _));refine Sq 1000000 (λh1 h2=>Nt PassesOwn.never h1 h2) ?_ ?_)|exists "UR R3 R4 Sb Sa Tw Si UA R0 Tv")|((with_reducible show SE _ _ _ _);first|((with_reducible show SE _ _ _ (ay _ _));first|(exists Te;rotate_left 2;assumption)|(exists Vs;rotate_left 2;assumption))|((with_reducible show SE _ _ _ (f7 _ _ _ _));first|((with_reducible show SE _ _ (.Call _ [_,.Name "ValueError" _] _ _) _);exists Vp)|exists Vo)|((with_reducible show SE _ _ _ 3#_);exists "C0 Tu")|exists au (fZ true) _ _,ox,@EZ _ hq,@E3 _ true,_|exists au (j7 false) _ _,ox,BN,E6,_|exists au cE _ _,Dk,E7 hq,E4,_|exists af cE _ _,Dm,E7 hq,E4,_|exists au bo _ _,ox,t4 hq,uh,_|exists af bo _ _,uc,t4 hq,uh,_|exists au (kX false) _ _,ox,Xs hq,Xt false,_|exists au fV _ _,ox,C9 hq,Dy,_|((with_reducible show SE _ _ _ (j0 _ _ _ _ _));refine Rq ui ui j4 j4 ?_ ?_ ?_)|((with_reducible show SE _ _ _ (aE l9 _));refine Uz ?_ (@P8 _ _ _ _))|((with_reducible show SE _ _ _ (bI _ _ _ _ _));refine S0 rfl (@EA _ _ _ rfl rfl) ?_ (λl s0 H0 ex=>?_) (λl s0 H0 ex=>?_) (λl s0 H0 ex=>?_) (Ex fW rfl))|((with_reducible show SE _ _ _ (jD _ _));refine VE (by assumption) (by first|exact Ew|exact Fh) (hr.mono Z') rfl rfl ?_ rfl)|exists "af cN t_ EB Dv;au cN ow EB Dv;au ag Dk wV xM;af ag Dm wV xM;au aQ ow Dt Du;af aQ t_ Dt Du;au mZ ow NH Rv;au i4 ow BM Dx;af i4 t_ BM Dx;au ir ow BL Dw;af ir t_ BL Dw;au ug ow NJ Rw;af xN uc Rx j4;af jx uc Dz DC;au gO ox uj j4;af gO uc uj j4",_,_|exists "UZ C3 PH C1 C2 Ts Tt DO DP TQ RD RH TR RK T3 Yq RI RZ Vx Vy Yv Yk RL VJ RT RV XX RO Rp Ro")|((with_reducible show fH _ _ _ _);first|exists "D0 D3 D4"|exact D0|refine D3 ?_ ?_|refine D4 ?_)|((with_reducible show ST _ _ _ _);first|exists aA (au bo _ _),mY,t4 hq,uh,_,_|exists aA (af bo _ _),ue,t4 hq,uh,_,_|exists aA (au fV _ _),mY,C9 hq,Dy,_,_|exists aA (af mr _ _),ue,Ys hq,Yt,_,_|exists aA (au (fZ true) _ _),mY,@EZ _ hq,@E3 _ true,_,_|exists aA (au (gk true) _ _),mY,FI hq,FJ true,_,_|exists aA (au (gH true) _ _),mY,Yx hq,Yy true,_,_|exists aA (au (j7 false) _ _),mY,BN,E6,_,_|((with_reducible show ST _ _ _ (aA (j0 _ _ _ _ _)));refine Rr ui ui j4 j4 ?_ ?_ ?_)|exists "T af jx ue Dz DC;T au gO mY uj j4;T af gO ue uj j4",_,_|exists "Ri Rm Rl")|exists "XR TM Sn PF PC DJ Tn S7 Tp To RQ RS R6 R_ R8 R9 Sy SH SD SF Rk Rj sw_and1 Sw Sx"|(refine cv ?_;first|assumption|rfl|exactλ_ _=>rfl|exactλ_=>rfl|decide|decide+kernel|exact hr.mono Z'|exact hr.mono (QP _ _)|exact(hr.h.mono Z').mark _|exact Or.inl rfl|exact Or.inr rfl|exists "T.YK T.YE Fh Ew T.YL T.rF T.YA T.YM T.YB T.YN T.YC T.YO T.YD T.YQ T.YR T.YF T.YS T.YG T.YT T.YH T.YU T.YI T.YV T.rA boot_ValueError T.rP T.rG T.rN T.rH T.rB T.rD T.rE T.rL T.rJ T.rO T.ty_bool T.rC boot_bool T.ty_str T.rM boot_str T.ty_tuple boot_tuple T.rK",_|exact pv _|exact nomark _)))
section
variable{w:Wu}{h:Heap}{ce:Tx->Nat}(T:Txt ce K mg)(M':K.In h)(W':h.Ns Wv mg)
include T M' W'
theorem YY(d:aV K "_law_cell_at" Hm):7#0 1 "_law_cell_at" 2 oW:=cH (N:=["script","k"]) M' W' d
theorem YZ(d:aV K "_law_pen_of" Hn):7#0 1 "_law_pen_of" 1 oX:=cH (N:=["cell","left"]) M' W' d
theorem Y0(d:aV K "_law_next" Ho):7#0 1 "_law_next" 1 oY:=cH (N:=["seed"]) M' W' d
theorem Y3(d:aV K "_law_draw" Hq)(IY:7#0 1 "_law_next" 1 oY):7#0 2 "_law_draw" 2 cm:=cH (N:=["pen","many","found"]) M' W' d
theorem Y4(d:aV K "_law_rule_by" Hr)(g8:7#0 2 "_law_draw" 2 cm):7#0 3 "_law_rule_by" 2 rQ:=cH (N:=["pen","most","letters","high","wide","start","tiles","alike","blocks","tile","rows","row","signs","block","column"]) M' W' d
theorem Y5(d:aV K "_law_still" Ht)(IZ:7#0 3 "_law_rule_by" 2 rQ):7#0 4 "_law_still" 2 nG:=cH (N:=["pen","most","high","wide","blocks","tile","block"]) M' W' d
theorem Y6(d:aV K "_law_tiles_of" Hu):7#0 1 "_law_tiles_of" 1 eF:=cH (N:=["rule","tile","block"]) M' W' d
theorem Y7(d:aV K "_law_paint_of" Hv)(g8:7#0 2 "_law_draw" 2 cm)(je:7#0 1 "_law_tiles_of" 1 eF):7#0 3 "_law_paint_of" 2 mv:=cH (N:=["pen","rule","signs","tile"]) M' W' d
theorem Y8(d:aV K "_law_spread" Hw)(g8:7#0 2 "_law_draw" 2 cm)(je:7#0 1 "_law_tiles_of" 1 eF):7#0 3 "_law_spread" 2 rR:=cH (N:=["pen","painted","letters","rule","first","paint","tiles","start","blocks","signs","k","rows","row","sign"]) M' W' d
theorem Y9(d:aV K "_law_grown" Hx):7#0 1 "_law_grown" 2 oZ:=cH (N:=["rule","floor","blocks","found","row","line","signs","tile"]) M' W' d
theorem Y_(d:aV K "_law_twice" Hy)(I_:7#0 1 "_law_grown" 2 oZ):7#0 2 "_law_twice" 1 jJ:=cH (N:=["painted","rule","first","paint","blocks","tile","block"]) M' W' d
theorem Za(d:aV K "_law_bent" Hz)(g8:7#0 2 "_law_draw" 2 cm)(je:7#0 1 "_law_tiles_of" 1 eF):7#0 3 "_law_bent" 2 nH:=cH (N:=["pen","painted","rule","first","paint","spot","sign","tile","block","row","column","line"]) M' W' d
theorem Zb(d:aV K "_law_two_painted" HA)(g8:7#0 2 "_law_draw" 2 cm)(J_:7#0 4 "_law_still" 2 nG)(Ka:7#0 3 "_law_paint_of" 2 mv)(Kb:7#0 3 "_law_spread" 2 rR)(vF:7#0 2 "_law_twice" 1 jJ)(Kc:7#0 3 "_law_bent" 2 nH):7#0 5 "_law_two_painted" 1 o_:=cH (N:=["pen","rule","first","one","way","other"]) M' W' d
theorem Zc(d:aV K "_law_common" HC):7#0 1 "_law_common" 2 rS:=cH (N:=["one","other","m","n","sizes"]) M' W' d
theorem Zd(d:aV K "grown_size" HE):7#0 1 "grown_size" 3 k7:=cH (N:=["size","factor","often","growing"]) M' W' d
theorem Ze(d:aV K "grown_sizes" HF)(vG:7#0 1 "grown_size" 3 k7):7#0 2 "grown_sizes" 2 iJ:=cH (N:=["rule","often"]) M' W' d
theorem Zf(d:aV K "common_power" HG)(Kd:7#0 2 "grown_sizes" 2 iJ):7#0 3 "common_power" 2 pe:=cH (N:=["rule","other","power","other_power"]) M' W' d
theorem Zg(d:aV K "rule_tiles" HH):7#0 1 "rule_tiles" 1 rT:=cH (N:=["rule","tile","block"]) M' W' d
theorem Zh(d:aV K "refuse_strange" HI):7#0 1 "refuse_strange" 2 rV:=cH (N:=["block_of","floor","tile"]) M' W' d
theorem Zi(d:aV K "refuse_beyond" HK):7#0 1 "refuse_beyond" 3 rW:=cH (N:=["rows","columns","most"]) M' W' d
theorem Zj(d:aV K "laid_floor" HL):7#0 1 "laid_floor" 3 mw:=cH (N:=["block_of","high","floor","rows","row","line","tile"]) M' W' d
theorem Zk(d:aV K "grown_often" HM)(vG:7#0 1 "grown_size" 3 k7)(Ke:7#0 1 "refuse_strange" 2 rV)(Kf:7#0 1 "refuse_beyond" 3 rW)(Kg:7#0 1 "laid_floor" 3 mw):7#0 2 "grown_often" 3 pf:=cH (N:=["rule","floor","often","high","wide","blocks","block_of","grown","growing"]) M' W' d
theorem Zl(d:aV K "floor_texts" HN)(Kh:7#0 1 "rule_tiles" 1 rT)(Ki:7#0 2 "grown_often" 3 pf):7#0 3 "floor_texts" 2 ph:=cH (N:=["rule","often","tile"]) M' W' d
end
theorem Zm{f w}(F:eJ K "common_texts" "common_texts" zt f fd)(hm:mg "common_texts"=some (.ref f))(hb:Binds K fd ["painted","other"] [])(T:Txt ce K mg)(Kj:7#0 3 "common_power" 2 pe)(Kk:7#0 3 "floor_texts" 2 ph):l_ P w K mg base 4 "common_texts" 2 nJ:=Fg (np:=[]) (fb:=vD) F hm hb IE λc a_ A outer s H E hr fW IX=>by have hq:=uH hr;have px:=IE.nd;infer_instance λss y h=>yt h
section
variable{w:Wu}{h:Heap}{ce:Tx->Nat}(T:Txt ce K mg)(M':K.In h)(W':h.Ns Wv mg)
include T M' W'
theorem Zn(d:aV K "letters_good" HP):7#0 1 "letters_good" 2 rX:=cH (N:=["thing","most","sign"]) M' W' d
theorem Zo(d:aV K "tile_good" HQ)(Kl:7#0 1 "letters_good" 2 rX):7#0 2 "tile_good" 1 mx:=cH (N:=["thing"]) M' W' d
theorem Zp(d:aV K "pairs_rising" HR)(Km:7#0 2 "tile_good" 1 mx):7#0 3 "pairs_rising" 2 rY:=cH (N:=["texts","thing","ahead","pair"]) M' W' d
theorem Zq(d:aV K "unlike_among" HS):7#0 1 "unlike_among" 3 rZ:=cH (N:=["painted","other","pairs","sign_of","other_sign","pair"]) M' W' d
theorem Zr(d:aV K "pairs_under" HU):7#0 1 "pairs_under" 2 nK:=cH (N:=["texts","pair"]) M' W' d
end
theorem Zs{f w}(F:eJ K "alike_holds" "alike_holds" zu f fd)(hm:mg "alike_holds"=some (.ref f))(hb:Binds K fd ["painted","other","thing"] [])(T:Txt ce K mg)(Kn:l_ P w K mg base 4 "common_texts" 2 nJ)(Ko:7#0 3 "pairs_rising" 2 rY)(Kp:7#0 1 "unlike_among" 3 rZ)(Kq:7#0 1 "pairs_under" 2 nK):l_ P w K mg base 5 "alike_holds" 3 jd:=Fg (np:=[]) (fb:=vE) F hm hb IK λc a_ A outer s H E hr fW IX=>by have hq:=uH hr;have px:=IK.nd;infer_instance λss y h=>yt h
section
variable{w:Wu}{h:Heap}{ce:Tx->Nat}(T:Txt ce K mg)(M':K.In h)(W':h.Ns Wv mg)
include T M' W'
theorem Zt(d:aV K "_law_kind_of" HV):qH P w K mg base 1 "_law_kind_of" 1 (pj ce):=YX (N:=["e","marks","words"]) M' W' d
theorem Zu(d:aV K "_law_refused" HW)(vH:l_ P w K mg base 5 "alike_holds" 3 jd)(Kr:qH P w K mg base 1 "_law_kind_of" 1 (pj ce)):7#0 6 "_law_refused" 2 (pk ce):=cH (N:=["pair","thing","e"]) M' W' d
theorem Zv(d:aV K "_law_raised" HX)(vF:7#0 2 "_law_twice" 1 jJ):7#0 3 "_law_raised" 2 nM:=cH (N:=["painted","often"]) M' W' d
theorem Zw(d:aV K "_law_shut" HY):7#0 1 "_law_shut" 3 ki:=cH (N:=["one","other","starts","there","start","met","pair","left","right","more"]) M' W' d
theorem Zx(d:aV K "_law_odd_of" HZ)(g8:7#0 2 "_law_draw" 2 cm)(je:7#0 1 "_law_tiles_of" 1 eF):7#0 3 "_law_odd_of" 4 r8:=cH (N:=["pen","one","other","pairs","spot","left","right","some","more","odd","found","thing","row"]) M' W' d
theorem Zy(d:aV K "_law_due_of" H_)(je:7#0 1 "_law_tiles_of" 1 eF)(vI:7#0 1 "_law_shut" 3 ki):7#0 2 "_law_due_of" 3 pq:=cH (N:=["one","other","thing","left","right","pair"]) M' W' d
theorem Zz(d:aV K "_law_right_of" Ia)(vH:l_ P w K mg base 5 "alike_holds" 3 jd)(Ks:7#0 2 "_law_due_of" 3 pq):7#0 6 "_law_right_of" 4 r9:=cH (N:=["pair","one","other","thing","due","found"]) M' W' d
theorem ZC(d:aV K "_law_pair_right" Ib)(g8:7#0 2 "_law_draw" 2 cm)(je:7#0 1 "_law_tiles_of" 1 eF)(Kt:7#0 1 "_law_common" 2 rS)(Ku:7#0 6 "_law_refused" 2 (pk ce))(Kv:7#0 3 "_law_raised" 2 nM)(vI:7#0 1 "_law_shut" 3 ki)(Kw:7#0 3 "_law_odd_of" 4 r8)(Kx:7#0 6 "_law_right_of" 4 r9):7#0 7 "_law_pair_right" 2 (my ce):=cH (N:=["pen","pair","power","one","other","start","some","more","pairs","wider","things","turn","thing"]) M' W' d
end
theorem ZE{f w}(F:eJ K "law" "law" k6 f fd)(T:Txt ce K mg)(Ky:7#0 1 "_law_cell_at" 2 oW)(Kz:7#0 1 "_law_pen_of" 1 oX)(KA:7#0 5 "_law_two_painted" 1 o_)(KC:7#0 7 "_law_pair_right" 2 (my ce)){Gt:DF}(zy:∀ss y,Gt ss=some y->r_ ce ss=some y):gN P w K mg base fG 8 f fd ["script"] (kK 1 Gt):=Em (np:=[]) (fb:=zx ce) F IW λc a_ A outer s H E hr fW=>by have hq:=uH hr;have px:=IW.nd;infer_instance λss y h=>uG (zy ss y h)
end
theorem all_mk{l:PySem.W.OpenLaw}{w:Wu}{h:Heap}{Gt:DF}(zy:∀ce ss y,Gt ss=some y->r_ ce ss=some y)(X:K.In h)(G:h.Ns Wv mg)(ZF:mg "law"=some (.ref fa))(d0:aV K "_law_cell_at" Hm)(d1:aV K "_law_pen_of" Hn)(d2:aV K "_law_next" Ho)(d3:aV K "_law_draw" Hq)(d4:aV K "_law_rule_by" Hr)(d5:aV K "_law_still" Ht)(d6:aV K "_law_tiles_of" Hu)(d7:aV K "_law_paint_of" Hv)(d8:aV K "_law_spread" Hw)(d9:aV K "_law_grown" Hx)(zA:aV K "_law_twice" Hy)(zB:aV K "_law_bent" Hz)(zC:aV K "_law_two_painted" HA)(zD:aV K "_law_common" HC)(zE:aV K "grown_size" HE)(zF:aV K "grown_sizes" HF)(zG:aV K "common_power" HG)(zH:aV K "rule_tiles" HH)(zI:aV K "refuse_strange" HI)(zJ:aV K "refuse_beyond" HK)(zK:aV K "laid_floor" HL)(zM:aV K "grown_often" HM)(zN:aV K "floor_texts" HN)(zO:aV K "common_texts" zt)(zP:aV K "letters_good" HP)(zQ:aV K "tile_good" HQ)(zR:aV K "pairs_rising" HR)(zS:aV K "unlike_among" HS)(zT:aV K "pairs_under" HU)(zU:aV K "alike_holds" zu)(zV:aV K "_law_kind_of" HV)(zW:aV K "_law_refused" HW)(zX:aV K "_law_raised" HX)(zY:aV K "_law_shut" HY)(zZ:aV K "_law_odd_of" HZ)(z6:aV K "_law_due_of" H_)(z7:aV K "_law_right_of" Ia)(z8:aV K "_law_pair_right" Ib)(z9:nsIn K Wv "law"=some (some (.ref f38)))(z_:K.lookup f38=some ⟨oc38,od38,.func (J1 "law" "law" (lH k6) (fR k6) (bP k6) .none kV38 dc38 pm38 an38 cd38 ct38),sl38⟩)(Aa:codeIn K cd38 "law"=true)(Ab:keepIn K (.ref f38)=true)(rA:nsIn K Wv "ValueError"=some none)(rB:nsIn K Wv "all"=some none)(rC:nsIn K Wv "bool"=some none)(rD:nsIn K Wv "dict"=some none)(rE:nsIn K Wv "int"=some none)(rF:nsIn K Wv "isinstance"=some none)(rG:nsIn K Wv "len"=some none)(rH:nsIn K Wv "list"=some none)(rJ:nsIn K Wv "max"=some none)(rK:nsIn K Wv "range"=some none)(rL:nsIn K Wv "sorted"=some none)(rM:nsIn K Wv "str"=some none)(rN:nsIn K Wv "tuple"=some none)(rO:nsIn K Wv "zip"=some none)(rP:nsIn K Wv "MOST_TILES"=some (some (.int 64 t_MOST_TILES)))(Ac:nsIn K Wv "FloorError"=some (some (.ref C_j)))(Ad:nsIn K Wv "NoFloor"=some (some (.ref C_a)))(Ae:nsIn K Wv "NoPlace"=some (some (.ref C_b)))(Af:nsIn K Wv "NoNumber"=some (some (.ref C_c)))(Ag:nsIn K Wv "NoRow"=some (some (.ref C_d)))(vJ:nsIn K Wv "Unlike"=some (some (.ref C_e)))(Ah:nsIn K Wv "NoTile"=some (some (.ref C_f)))(Ai:nsIn K Wv "NoRule"=some (some (.ref C_g)))(Aj:nsIn K Wv "NoText"=some (some (.ref C_h)))(Al:nsIn K Wv "TooGreat"=some (some (.ref C_i)))(Am:uQ K C_j=true)(An:uQ K C_e=true)(Ao:PySem.W.specialIn K (.builtin "object.__class__") "__get__"=some (some (.builtin "getset_descriptor.__get__")))(Ap:PySem.W.takesIn K (.builtin "object.__class__")=some true)(Aq:findIn K (.ref C_e) "__getattribute__"=some (some (.builtin "BaseException.__getattribute__")))(Ar:findIn K (.ref C_e) "__getattr__"=some none)(As:findIn K (.ref C_e) "__class__"=some (some (.builtin "object.__class__")))(Au:mroIn K C_e (.type "object")=some true)(Aw:mroIn K C_e (.type "BaseException")=some true)(jf:PySem.W.isClsIn K C_e=true)(Ax:kitOne K (.ref C_e) (.type "ValueError")=some true)(Ay:kitOne K (.ref C_e) (.ref C_a)=some false)(Az:kitOne K (.ref C_e) (.ref C_b)=some false)(AA:kitOne K (.ref C_e) (.ref C_c)=some false)(AB:kitOne K (.ref C_e) (.ref C_d)=some false)(AD:kitOne K (.ref C_e) (.ref C_e)=some true)(AE:kitOne K (.ref C_e) (.ref C_f)=some false)(AF:kitOne K (.ref C_e) (.ref C_g)=some false)(AG:kitOne K (.ref C_e) (.ref C_h)=some false)(AH:kitOne K (.ref C_e) (.ref C_i)=some false)(AI:mroIn K C_e (.ref C_j)=some true):∃fd:Ql,(∀(s:W1)(v:Value),BindsTo s fd ⟨[v],[]⟩ [("script",v)])/\∀base:Heap,K.In base->base.Ns Wv mg->gN l.prog w K mg base fG 8 fa fd ["script"] (kK 1 Gt):=by have e:=ZF.symm.trans (mg_of X G z9);cases e;have kj:nq K C_e:=⟨Aq,Ar,As,Ao,Ap,Au,Aw⟩;have T:Txt (Fs [([70,108,111,111,114,69,114,114,111,114],C_j),([78,111,70,108,111,111,114],C_a),([78,111,80,108,97,99,101],C_b),([78,111,78,117,109,98,101,114],C_c),([78,111,82,111,119],C_d),([85,110,108,105,107,101],C_e),([78,111,84,105,108,101],C_f),([78,111,82,117,108,101],C_g),([78,111,84,101,120,116],C_h),([84,111,111,71,114,101,97,116],C_i)]) K mg:=⟨Q2 X G rA,Q2 X G rB,Q2 X G rC,Q2 X G rD,Q2 X G rE,Q2 X G rF,Q2 X G rG,Q2 X G rH,Q2 X G rJ,Q2 X G rK,Q2 X G rL,Q2 X G rM,Q2 X G rN,Q2 X G rO,Tg,Ti,Tj,⟨_,mg_of X G rP⟩,mg_of X G Ac,mg_of X G Ad,mg_of X G Ae,mg_of X G Af,mg_of X G Ag,mg_of X G vJ,mg_of X G Ah,mg_of X G Ai,mg_of X G Aj,mg_of X G Al,Am,An,⟨c7 kj,c7 jf,c7 Ay⟩,⟨c7 kj,c7 jf,c7 Az⟩,⟨c7 kj,c7 jf,c7 AA⟩,⟨c7 kj,c7 jf,c7 AB⟩,⟨c7 kj,c7 jf,c7 AD⟩,⟨c7 kj,c7 jf,c7 AE⟩,⟨c7 kj,c7 jf,c7 AF⟩,⟨c7 kj,c7 jf,c7 AG⟩,⟨c7 kj,c7 jf,c7 AH⟩,⟨c7 kj,c7 jf,c7 Ax⟩,c7 ⟨%[show toS [85,110,108,105,107,101]=("Unlike":Str)from by decide+kernel|mg_of X G vJ],AI⟩⟩;obtain⟨f23,fd23,F23,m23⟩:=uV X G zO;obtain⟨f29,fd29,F29,m29⟩:=uV X G zU;have ZG:=CG (st:=k6) z_ Aa Ab;refine⟨J1 "law" "law" (lH k6) (fR k6) (bP k6) .none kV38 dc38 pm38 an38 cd38 ct38,λs v=>.of_eq rfl,λbase j j=>?_⟩;have Ky:=YY (P:=l.prog) (w:=w) (base:=base) T X G d0;have Kz:=YZ (P:=l.prog) (w:=w) (base:=base) T X G d1;have IY:=Y0 (P:=l.prog) (w:=w) (base:=base) T X G d2;have g8:=Y3 T X G d3 IY;have IZ:=Y4 T X G d4 g8;have J_:=Y5 T X G d5 IZ;have je:=Y6 (P:=l.prog) (w:=w) (base:=base) T X G d6;have Ka:=Y7 T X G d7 g8 je;have Kb:=Y8 T X G d8 g8 je;have I_:=Y9 (P:=l.prog) (w:=w) (base:=base) T X G d9;have vF:=Y_ T X G zA I_;have Kc:=Za T X G zB g8 je;have KA:=Zb T X G zC g8 J_ Ka Kb vF Kc;have Kt:=Zc (P:=l.prog) (w:=w) (base:=base) T X G zD;have vG:=Zd (P:=l.prog) (w:=w) (base:=base) T X G zE;have Kd:=Ze T X G zF vG;have Kj:=Zf T X G zG Kd;have Kh:=Zg (P:=l.prog) (w:=w) (base:=base) T X G zH;have Ke:=Zh (P:=l.prog) (w:=w) (base:=base) T X G zI;have Kf:=Zi (P:=l.prog) (w:=w) (base:=base) T X G zJ;have Kg:=Zj (P:=l.prog) (w:=w) (base:=base) T X G zK;have Ki:=Zk T X G zM vG Ke Kf Kg;have Kk:=Zl T X G zN Kh Ki;have Kn:=Zm F23 m23 (yy F23 λj j j j j j j j=>rfl) T Kj Kk;have Kl:=Zn (P:=l.prog) (w:=w) (base:=base) T X G zP;have Km:=Zo T X G zQ Kl;have Ko:=Zp T X G zR Km;have Kp:=Zq (P:=l.prog) (w:=w) (base:=base) T X G zS;have Kq:=Zr (P:=l.prog) (w:=w) (base:=base) T X G zT;have vH:=Zs F29 m29 (yz F29 λj j j j j j j j j=>rfl) T Kn Ko Kp Kq;have Kr:=Zt (P:=l.prog) (w:=w) (base:=base) T X G zV;have Ku:=Zu T X G zW vH Kr;have Kv:=Zv T X G zX vF;have vI:=Zw (P:=l.prog) (w:=w) (base:=base) T X G zY;have Kw:=Zx T X G zZ g8 je;have Ks:=Zy T X G z6 je vI;have Kx:=Zz T X G z7 vH Ks;have KC:=ZC T X G z8 g8 je Kt Ku Kv vI Kw Kx;exact ZE ZG T Ky Kz KA KC (zy _)
section
variable{α:Type}[DecidableEq α]
def dR(t:List α)(q:α):List α:=if q∈t then t else t++[q]
def cn(t qs:List α):List α:=qs.foldl dR t
theorem KD(t:List α)(q x:α):x∈dR t q↔x∈t\/x=q:=by
 unfold dR;by_cases h:q∈t;.rw[if_pos h];exact⟨.inl,λz=>z.elim id λe=>e▸h⟩
 .rw[if_neg h,List.mem_append,Qe]
theorem KG{t:List α}(q:α)(h:t.Nodup):(dR t q).Nodup:=by
 unfold dR;by_cases hq:q∈t;.rw[if_pos hq];exact h
 .rw[if_neg hq,Uk];refine⟨h,V',λa ha b hb=>?_⟩;rw[Qe]at hb;rintro rfl;exact hq (hb▸ha)
theorem se(qs:List α):∀(t:List α)(x:α),x∈cn t qs↔x∈t\/x∈qs:=by induction qs with|nil=>intro t x;simp[cn]|cons q r ih=>intro t x;show x∈cn (dR t q) r↔_;rw[ih,KD,Wq,or_assoc]
theorem KH(qs:List α):∀t:List α,t.Nodup->(cn t qs).Nodup:=by induction qs with|nil=>intro t h;exact h|cons q r ih=>intro t h;exact ih _ (KG q h)
theorem ZH(qs:List α):∀t:List α,∃r,cn t qs=t++r:=by induction qs with|nil=>intro t;exact⟨[],#v[cn]⟩|cons q r ih=>
 intro t;obtain⟨s,e⟩:=ih (dR t q);show∃s,cn (dR t q) r=t++s;rw[e];unfold dR;by_cases h:q∈t;.rw[if_pos h];exact⟨s,rfl⟩
 .rw[if_neg h];exact⟨q::s,V'⟩
theorem ZI{t qs:List α}(h:∀q∈qs,q∈t):cn t qs=t:=by induction qs with|nil=>rfl|cons q r ih=>
 show cn (dR t q) r=t;have:dR t q=t:=by unfold dR;rw[if_pos (h q Wi)]
 rw[this];exact ih λx hx=>h x (Wf _ hx)
theorem KI{ps:List α}:∀t:List α,(t++ps).Nodup->cn t ps=t++ps:=by induction ps with|nil=>intro t _;simp[cn]|cons p r ih=>
 intro t h;have hp:p∉t:=λz=>by rw[Uk]at h;exact h.2.2 p z p Wi rfl
 show cn (dR t p) r=_;have:dR t p=t++[p]:=by unfold dR;rw[if_neg hp]
 rw[this,ih (t++[p]) (~~~h)];simp
structure Wk(kids:α->List α)(U t0 t:List α)(m:Nat):Prop where
 nd:t.Nodup
 sub:∀x∈t,x∈U
 pre:∃r,t=t0++r
 le:m<=t.length
 KJ:∀i x,i<m->t[i]?=some x->∀q∈kids x,q∈t
 id:(∀x∈t0,∀q∈kids x,q∈t0)->t=t0
theorem Wk.step{kids:α->List α}{U t0 t:List α}(w:Wk kids U t0 t m)(hU:∀x∈U,∀q∈kids x,q∈U){x:α}(hx:t[m]?=some x):Wk kids U t0 (cn t (kids x)) (m+1):=by
 obtain⟨r,er⟩:=ZH (kids x) t;have hm:m<t.length:=(W8.mp hx).1;have xm:x∈t:=Wz hx;refine⟨KH _ _ w.nd,λy hy=>?_,?_,by rw[er];simp;lia,λi y hi hy q hq=>?_,λc=>?_⟩
 .rcases(se _ _ _).mp hy with hy|hy;.exact w.sub y hy
  .exact hU x (w.sub x xm) y hy
 .obtain⟨r0,e0⟩:=w.pre;exact⟨r0++r,by rw[er,e0,WI]⟩
 .rw[se];by_cases e:i=m
  .have:y=x:=by rw[e,er,Qw hm,hx]at hy;exact(WL hy).symm
   rw[this]at hq;exact .inr hq
  .have dF:i<m:=by lia
   rw[er,Qw Y']at hy;exact .inl (w.KJ i y dF hy q hq)
 .have e:=w.id c;rw[e]at xm⊢;exact ZI (c x xm)
theorem Wk.closed{kids:α->List α}{U t0 t:List α}(w:Wk kids U t0 t m)(h:t.length<=m):∀x∈t,∀q∈kids x,q∈t:=λx hx q hq=>by obtain⟨i,hi,rfl⟩:=J4.mp hx;exact w.KJ i _ Y' (W4 hi) q hq
end
noncomputable abbrev pS(d:D):Option S:=0#d
noncomputable abbrev pO(d:D):Option S:=some (.own d)
abbrev sD(t:Nat):D:=.str [t]
theorem k8(f:DE)(Z:Dl):a7 f Z=(f Z).bind λr S'=>match r.d with|.lst ds=>.ok ds S'|.tup ds=>.ok ds S'|.str x=>.ok (x.map λn=>.str [n]) S'|_=>.stuck:=id rfl
theorem KL(p p':D->D->Option S)(fa fb:DE)(fc:BE)(Z:Dl):j0 p p' fa fb fc Z=(fa Z).bind λx S'=>(fb S').bind λy SL=>(p2 p x.d y.d SL).bind λz Pv=>match z with|.pure (.bl true)=>(fc Pv).bind λw Os=>p2 p' y.d w Os|.pure (.bl false)=>.ok (.pure (.bl false)) Pv|_=>.stuck:=id rfl
theorem AJ{A:Type}{cs:List Nat}{g:DG}{t:DT}{el:DE}(f F:A->D)(p:A->Bool)(Z:Dl):∀(as:List A)(acc:List D),acc.length+as.length<=W9->(∀a∈as,∃S' SL x Pv,g (.pure (f a)) Z=some S'/\t S'=.ok (p a) SL/\bt cs SL=Z/\el SL=.ok x Pv/\bt cs Pv=Z/\x.d=F a)->dP cs g t el (as.map f) Z acc=.ok (acc++(as.filter p).map F) Z
 |[],acc,_,_=>#v[dP]|a::r,acc,hl,hs=>by
  obtain⟨S',SL,x,Pv,e1,e2,e2',e3,e4,e5⟩:=hs a Wi;have iV:acc.length<W9:=by simp at hl;lia
  rw[Wl];unfold dP;rw[e1];cases hp:p a with|true=>have ih:=AJ (cs:=cs) (g:=g) (t:=t) (el:=el) f F p Z r (acc++[x.d]) P3 λa ha=>hs a (Wf _ ha);rw[e5]at ih;rw[hp]at e2;simp only[e2,kb,if_true,e3,if_pos iV,e4,e5,ih,List.filter_cons,hp];simp|false=>have ih:=AJ (cs:=cs) (g:=g) (t:=t) (el:=el) f F p Z r acc P3 λa ha=>hs a (Wf _ ha);rw[hp]at e2;simp only[e2,kb,e2',ih,List.filter_cons,hp];simp
theorem bL{a b:DS}(h:a Z=.ok .next S'):ar a b Z=b S':=by unfold ar;rw[h];rfl
theorem fK{a b:DS}(h:a Z=.ok (.ret v) S'):ar a b Z=.ok (.ret v) S':=by unfold ar;rw[h];rfl
theorem dB{b:DS}(h:it Z=.ok ds S'):bM it g b Z=forL g b ds S':=by unfold bM;rw[h];rfl
theorem jg{b:DS}{d:D}(h1:g (.pure d) Z=some S')(h2:b S'=.ok .next SL):forL g b (d::r) Z=forL g b r SL:=by
 conv=>lhs;unfold forL
 rw[h1];simp only[h2,kb]
theorem forA{A:Type}(f:A->D){b:DS}(I:List A->Dl->Prop)(hs:∀a as Z,I (a::as) Z->∃S',g (.pure (f a)) Z=some S'/\∀y,b S'=y->∃SL,y=.ok .next SL/\I as SL):∀as Z,I as Z->∃SZ,forL g b (as.map f) Z=.ok .next SZ/\I [] SZ|[],Z,h=>⟨Z,rfl,h⟩|a::as,Z,h=>by obtain⟨S',e1,h1⟩:=hs a as Z h;obtain⟨SL,e2,h2⟩:=h1 _ rfl;obtain⟨SZ,e,h'⟩:=forA f I hs as SL h2;exact⟨SZ,(jg e1 e2).trans e,h'⟩
theorem cS{A:Type}(f F:A->D){as:List A}{np:List Nat}(e:it N1=.ok (as.map f) Z)(hl:as.length<=1000)(hs:∀a∈as,el (Z.set j (pS (f a)))=.ok (.pure (F a)) (Z.set j (pS (f a))))(hj:Z[j]?=some none:=by rfl)(hn:np.contains j=false:=by rfl):bI [j] it (ah np j) cA el N1=.ok (.own (.lst (as.map F))) Z:=by
 obtain⟨h,f9⟩:=W8.mp hj;have c:bt [j] Z=Z:=by show Z.set j none=Z;rw[<-f9];exact List.set_getElem_self h
 have:=cM (cs:=[j]) (g:=ah np j) (t:=cA) (el:=el) f F e hl (λa ha=>⟨_,_,_,_,by rw[c];unfold ah;rw[if_neg (by rw[hn];nofun)],rfl,hs a ha,by rw[c];show(Z.set j (pS (f a))).set j none=Z;rw[List.set_set];exact c,rfl⟩) #v[dk,hj];rw[this,c];show Rs.ok _ (match Z[j]? with|some o=>Z.set j o|none=>Z)=_;rw[hj];exact congrArg _ c
theorem nN{p:D->Option S}{r:S}(e:f Z=.ok v S')(h:p v.d=some r):aE p (ae f) Z=.ok r S':=#v[aE,e,h]
theorem ZJ(e:f Z=.ok v S')(h:gC Z i=true)(h1:S'[i]?=some (pO (.lst xs)))(hz:xs.length<=1000):cO i f Z=.ok .next (S'.set i (pO (.lst (xs++[v.d])))):=by
 have:xs.length<W9:=by rw[i8];lia
 simp[cO,h,e,putL,h1,this]
theorem vK(e:f Z=.ok v Z)(h:gC Z i=true)(h1:Z[i]?=some (pO (.lst xs)))(hz:xs.length<=1000)(h2:Z.set i (pO (.lst (xs++[v.d])))=SL):cO i f Z=.ok .next SL:=h2▸ZJ e h h1 hz
theorem cz(e:f Z=.ok v S')(h:g v S'=some SL):az f g Z=.ok .next SL:=#v[az,e,h]
theorem ZK(n:Nat):c_ 0 n=(Wx n).map λi:Nat=>D.int i:=#v[c_]
theorem vL(e:f Z=.ok (.pure (.int z)) S')(hz:z=w)(hw:w<=1000):eT f Z=.ok ((Wx w).map λi:Nat=>D.int i) S':=by subst hz;rw[VQ,e,<-ZK,kb];exact qM w Y' S'
def nx(s:Int):Int:=(((s+7919)%2147483647)*((s+7919)%2147483647)+48271*((s+7919)%2147483647)+12345)%2147483629
theorem ZL(s:Int):oY [.pure (.int s)]=some (.pure (.int (nx s)),[.pure (.int s)]):=by
 unfold oY bq Ig gW;have h1:=Int.emod_nonneg (s+7919) (b:=2147483647) Z';have h2:=Int.emod_lt_of_pos (s+7919) (b:=2147483647) Z';have c1:lO ((s+7919)%2147483647) ((s+7919)%2147483647)=true:=by unfold lO;simp;lia
 have c2:lO 48271 ((s+7919)%2147483647)=true:=by unfold lO;simp
 simp[cY,bU,az,af,bW,aq,aQ,i4,gh,cN,c1,c2,dY,cj];rfl
def bO(d:D):Prop:=∃l f s:Int,d=.lst [.int l,.int f,.int s]/\0<=l
theorem vM{d:D}(hp:bO d)(m:Nat)(h0:0<m)(h1:m<1073741824):∃(r:Nat)(d':D),cm [.own d,.pure (.int m)]=some (.pure (.int r),[.own d',.pure (.int m)])/\r<m/\bO d':=by
 obtain⟨l,f,s,rfl,hl⟩:=hp;have hm:(0:Int)<(m:Int):=by lia
 have hd:lP l m=true:=by unfold lP;simp;lia
 unfold cm bq Ih gW;by_cases hf:f=1;.subst hf;have e1:=Int.emod_nonneg l (b:=(m:Int)) Y';have e2:=Int.emod_lt_of_pos l hm;refine⟨(l%(m:Int)).toNat,.lst [.int (l/m),.int 1,.int s],?_,Y',⟨_,_,_,rfl,Int.ediv_nonneg hl Y'⟩⟩;simp[cY,bU,az,af,bW,aq,aa,ag,bo,aU,flat,oI,yC,yB,aA,i4,ir,gh,h0,hd,eS,gC,putL,dY,cj,e_];lia
 .have e1:=Int.emod_nonneg (nx (nx s+7)/64) (b:=(m:Int)) Y';have e2:=Int.emod_lt_of_pos (nx (nx s+7)/64) hm;refine⟨(nx (nx s+7)/64%(m:Int)).toNat,.lst [.int l,.int f,.int (nx (nx s+7))],?_,Y',⟨_,_,_,rfl,hl⟩⟩;simp[cY,bU,az,af,bW,aq,aa,ag,bo,aU,flat,oI,yC,yB,aA,i4,ir,gh,h0,hd,eS,gC,putL,dY,cj,e_,hf,ay,bB,dk,cP,cD,bS,ZL,aQ,bp,lP];lia
theorem ZM(c:Int):∃d,oX [.pure (.int c)]=some (.own d,[.pure (.int c)])/\bO d:=by unfold oX bq Ie gW;refine⟨.lst [.int (if 0-c>c then 0-c else c),.int (if decide (1000000000000000000<=if 0-c>c then 0-c else c)then 1 else 0),.int ((if 0-c>c then 0-c else c)%1000003)],?_,⟨_,_,_,rfl,by split<;>lia⟩⟩;simp[cY,bU,az,af,bW,aq,aa,xP,mZ,gh,oA,xN,jw,ug,xJ,i4,dY,cj]
theorem ZN(ns:List Int):∃c:Int,oW [.pure (.lst (ns.map .int)),.pure (.int 0)]=some (.pure (.int c),[.pure (.lst (ns.map .int)),.pure (.int 0)]):=by unfold oW bq Ic gW;cases ns with|nil=>exact⟨0,#v[cY,bU,af,bW,aq,jx,jw,aA,br,dY,cj]⟩|cons n r=>exact⟨n,by
 have:(0:Int)<(r.length:Int)+1:=by lia
 simp[cY,bU,af,bW,aq,jx,jw,aA,br,dY,cj,ag,oI,this]⟩
theorem vN{d:D}(hp:bO d)(m:Nat)(i:Int)(hi:i=m)(h0:0<m)(h1:m<1073741824):∃(r:Nat)(d':D),cm [.own d,.pure (.int i)]=some (.pure (.int r),[.own d',.pure (.int i)])/\r<m/\bO d':=by subst hi;exact vM hp m h0 h1
def jK(s n:Nat):Tx:=(Wx n).map λk=>97+s+k
theorem ZO:∀s,s<26->∀r,r<26->s+1+r<=26->(mz.drop s).take (1+r)=jK s (1+r):=by decide
theorem ZP{r:Nat}(h:s+1+r<=26):cf mz (some (s:Int)) (some ((s:Int)+1+(r:Int)))=jK s (1+r):=by
 rw[<-ZO s Y' r Y' h];have h1:¬(s:Int)<0:=by lia
 have h2:¬(s:Int)+1+(r:Int)<0:=by lia
 have h3:((s:Int)+1+(r:Int)).toNat=s+1+r:=by lia
 have hl:mz.length=26:=rfl;unfold cf Lake.aR;simp only[h1,h2,if_false,h3,hl];have e1:min (s:Int).toNat 26=s:=by lia
 have e2:min (s+1+r) 26-min (s:Int).toNat 26=1+r:=by lia
 rw[e1]at e2⊢;rw[e2]
theorem ZQ(s n:Nat):(jK s n).length=n:=#v[jK]
theorem ZR(s n:Nat):(jK s n).Pairwise (.<.):=by unfold jK;rw[Qr];exact List.pairwise_lt_range (n:=n).imp λh=>by lia
theorem ZS{t:Nat}(h:s+n<=26)(ht:t∈jK s n):97<=t/\t<=122:=by simp[jK]at ht;obtain⟨k,hk,rfl⟩:=ht;lia
theorem KN(r h:Nat)(h0:0<h)(h1:h<=1000):ir (.int r) (.int h)=pS (.int ((r/h:Nat):Int)):=by
 have hc:lP (r:Int) (h:Int)=true:=by unfold lP;simp;lia
 show(if lP (r:Int) (h:Int)then _ else _)=_;rw[if_pos hc];simp
abbrev rb(M S1:D)(h w al:Nat)(ts:Tx)(pd:D)(bl:List D)(a b c d e:Option S):Dl:=[pO pd,pS M,pS (.str mz),pS (.int h),pS (.int w),pS S1,pS (.str ts),pS (.int al),pO (.lst bl),a,b,c,d,e,none]
abbrev KO:DE:=af ag 6 (ae (au ir (ay cm [.io 0,.val (aE br (aq 6))]) (aq 7)))
abbrev AK:DS:=ar (az (bI [14] (eT (aa 4)) (ah [0] 14) cA KO) (ah [0] 12)) (cO 10 (aE (dX []) (aq 12)))
abbrev KP:DS:=ar (az (cC aF) (ah [0] 10)) (ar (bM (eT (aa 3)) (ah [0] 11) AK) (cO 8 (aO (ao (aa 9) (ao (aE dh (aq 10)) aF)))))
section
variable{M S1:D}{h al:Nat}{ts:Tx}{bl:List D}{a c d e:Option S}(AL:0<ts.length)(uP:ts.length<=26)(AM:0<al)(j6:al<=3)(hw:w<=4)
include AL uP AM j6 hw
theorem ZT(hf:fl.length<=1000)(hp:bO pd):∃(x:Tx)(ba:D)(d':Option S),AK (rb M S1 h w al ts pd bl a (pO (.lst (fl.map .str))) c d e)=.ok .next (rb M S1 h w al ts ba bl a (pO (.lst ((fl++[x]).map .str))) c d' e)/\(x.length=w/\∀n∈x,n∈ts)/\bO ba:=by
 obtain⟨xs,SZ,e1,⟨ba,bJ,rfl⟩,hn,hx⟩:=cI (cs:=[14]) (it:=eT (aa 4)) (g:=ah [0] 14) (t:=cA) (el:=KO) (Z:=rb M S1 h w al ts pd bl a (pO (.lst (fl.map .str))) c d e) (vL rfl rfl Y') Re (λZ=>∃pd,bO pd/\Z=rb M S1 h w al ts pd bl a (pO (.lst (fl.map .str))) c d e) (λj x=>∃n,n∈ts/\x=sD n) ⟨pd,hp,rfl⟩ λi _ Z⟨pd,hp,e1⟩=>by subst e1;obtain⟨r,d',g,l,p⟩:=vM hp ts.length AL Y';have hd:=KN r al AM Y';have bh:r/al<ts.length:=QN (Nat.div_le_self _ _) l;have hx:=uZ ts (r/al) bh Y';have ln:=FF ts Y';refine⟨_,_,.pure (sD (ts.getD (r/al) 0)),(rb M S1 h w al ts d' bl a (pO (.lst (fl.map .str))) c d e).set 14 (pS i),rfl,rfl,?_,⟨d',p,rfl⟩,_,#v[bh],rfl⟩;generalize((r/al:Nat):Int)=q at*;simp[af,bW,au,ay,bB,cP,dk,cD,aE,aq,ln,bS,g,bp,hd,hx,S.d]
 obtain⟨x,rfl,hxt⟩:=yF (yG hn hx λj j j h=>h);simp at hn;refine⟨x,ba,pO (.lst (x.map sD)),dH ?_ (cz e1 rfl),⟨hn,hxt⟩,bJ⟩;rw[WN];exact vK (v:=.pure (.str x)) #v[aE,aq,FD x Y',dj,S.d] rfl rfl (~~~hf) rfl
theorem ZU(hh:h<=4)(hb:bl.length<=1000)(hp:bO pd)(n:Nat){b:Option S}:∃(fl:List Tx)(ba:D)(b' c' d':Option S),KP (rb M S1 h w al ts pd bl (pS (sD n)) b c d e)=.ok .next (rb M S1 h w al ts ba (bl++[bG (n,fl)]) (pS (sD n)) b' c' d' e)/\(fl.length=h/\∀r∈fl,r.length=w/\∀n∈r,n∈ts)/\bO ba:=by obtain⟨SZ,e1,ba,fl,c',d',bJ,h1,h2,rfl⟩:=forA (λi:Nat=>D.int i) (g:=ah [0] 11) (b:=AK) (λas Z=>∃(pd:D)(fl:List Tx)(c d:Option S),bO pd/\fl.length+as.length=h/\(∀r∈fl,r.length=w/\∀n∈r,n∈ts)/\Z=rb M S1 h w al ts pd bl (pS (sD n)) (pO (.lst (fl.map .str))) c d e) (λi as Z hh=>by obtain⟨pd,fl,c,d,hp,h1,h2,e1⟩:=hh;subst e1;simp at h1;obtain⟨x,ba,d',e1,hx,bJ⟩:=ZT (M:=M) (S1:=S1) (h:=h) (bl:=bl) (a:=pS (sD n)) (c:=pS (.int i)) (d:=d) (e:=e) AL uP AM j6 hw (fl:=fl) Y' hp;exact⟨_,rfl,λy hy=>⟨_,hy.symm.trans e1,ba,_,_,_,bJ,by simp;lia,λr hr=>(WK.mp hr).elim (h2 r) λhr=>Qe.mp hr▸hx,rfl⟩⟩) (Wx h) (rb M S1 h w al ts pd bl (pS (sD n)) (pO (.lst [])) c d e) ⟨pd,[],c,d,hp,V',nofun,rfl⟩;refine⟨fl,ba,pO (.lst (fl.map .str)),c',d',dH (dH ?_ ((dB (it:=eT (aa 3)) (vL rfl rfl Y')).trans e1)) rfl,⟨~~~h1,h2⟩,bJ⟩;exact vK (v:=.pure (bG (n,fl))) #v[aE,aq,aa,dh,S.d,bG] rfl rfl hb rfl
end
def Hid(p:Prop):Prop:=p
theorem KQ(i j:Int):∃b,bo (.int i) (.int j)=pS (.bl b)/\Hid (b=true↔i=j):=⟨decide (i=j),by by_cases h:i=j<;>simp[bo,flat,aU,h],decide_eq_true_iff⟩
abbrev sf:List (Nat×Nat):=[(2,2),(1,2),(2,1),(2,2),(1,3),(2,3),(3,1),(3,2),(4,4),(2,2)]
theorem ZV(r:Nat)(hr:r<10):∃h w:Nat,ag (.lst (sf.map λp=>.tup [.int p.1,.int p.2])) (.int r)=pS (.tup [.int h,.int w])/\0<h/\h<=4/\0<w/\w<=4/\2<h+w:=by have hl:r<sf.length:=hr;exact⟨sf[r].1,sf[r].2,by simp only[ag,jE,Ws,W4 hl];rfl,(by decide:∀p∈sf,0<p.1/\p.1<=4/\0<p.2/\p.2<=4/\2<p.1+p.2) _ (Qv hl)⟩
theorem KR{α:Type}(x:List α):cf x (some 1) none=x.tail:=by unfold cf Lake.aR;cases x<;>simp
theorem KS(x:Tx)(h:x.length<=1000):cW (some 1) none (.str x)=pS (.str x.tail):=by unfold cW;simp only[KR];rw[if_pos (by rw[i8];lia)]
theorem KW(ds:List D):cW (some 1) none (.tup ds)=pS (.tup ds.tail):=by show some (S.pure (.tup (cf ds (some 1) none)))=_;rw[KR]
theorem add_str(x y:Tx)(h:x.length+y.length<=100000):aQ (.str x) (.str y)=pS (.str (x++y)):=by simp only[aQ];rw[if_pos (by rw[i8];lia)]
theorem vO(x y:List D)(h:x.length+y.length<=1000):aQ (.tup x) (.tup y)=pS (.tup (x++y)):=by simp only[aQ];rw[if_pos (by rw[i8];lia)]
theorem AN(x:D)(xs:List D):ag (.tup (x::xs)) (.int 0)=pS x/\ag (.lst (x::xs)) (.int 0)=pS x:=#v[ag,oI]
theorem KY{h:Nat}{bs:8#0}(R:cF h w bs):∃n r q l,bs=(n,r::q)::l/\l.length<26/\cF h w ((n,(n::r.tail)::q)::l)/\ag (bA (r::q)) (.int 0)=pS (.str r)/\cW (some 1) none (.str r)=pS (.str r.tail)/\aQ (sD n) (.str r.tail)=pS (.str (n::r.tail))/\cW (some 1) none (bA (r::q))=pS (.tup (q.map .str))/\aQ (.tup [.str (n::r.tail)]) (.tup (q.map .str))=pS (bA ((n::r.tail)::q)):=by have hh:=R.h0;have n0:=R.n0;match bs,R with
 |[],_=>simp at n0|(n,[])::l,R=>have:=(R.bE _ (.head _)).1;simp at this;lia|(n,r::q)::l,R=>
  have h1:=R.h1;have w1:=R.w1;have w0:=R.w0;have n1:=R.n1;have rb:=R.bE _ (.head _);have lr:=rb.2 r (.head _);have lq:q.length+1=h:= ~~~rb.1;have fx:∀b∈(n,(n::r.tail)::q)::l,∃b'∈(n,r::q)::l,b'.1=b.1/\(b.2.length=h/\∀r∈b.2,r.length=w/\∀m∈r,m∈n::l.map (·.1)):=λb hb=>by
   rcases Wq.mp hb with rfl|hb
   .refine⟨_,.head _,rfl,rb.1,λx hx=>?_⟩;rcases Wq.mp hx with rfl|hx;.exact⟨by simp;lia,λm hm=>(Wq.mp hm).elim (λe=>e▸.head _) λhm=>lr.2 m (List.mem_of_mem_tail hm)⟩
    .exact rb.2 x (.tail _ hx)
   .exact⟨b,.tail _ hb,rfl,R.bE b (.tail _ hb)⟩
  exact⟨n,r,q,l,rfl,n1,⟨hh,h1,w0,w1,R.hw,n0,n1,R.up,λb hb=>by obtain⟨b',h',e,_⟩:=fx b hb;exact e▸R.qN b' h',λb hb=>(fx b hb).elim λj z=>z.2.2⟩,(AN _ _).1,KS r Y',add_str [n] _ Re,KW _,vO [.str (n::r.tail)] _ Re⟩
theorem ZW{d:D}(hp:bO d)(m:Nat)(AO:0<m)(uW:m<=26):∃(h w:Nat)(bs:8#0)(d':D),rQ [.own d,.pure (.int m)]=some (.pure (aC h w bs),[.own d',.pure (.int m)])/\cF h w bs/\bs.length<=m/\bO d':=by
 obtain⟨r1,d1,e1,l1,p1⟩:=vN hp 10 10 rfl Z' Z';obtain⟨h,w,hx,h0,h1,w0,w1,hw⟩:=ZV r1 l1;obtain⟨s,d2,e2,l2,p2⟩:=vN p1 (27-m) (27-(m:Int)) Y' Y' Y';obtain⟨r3,d3,e3,l3,p3⟩:=vM p2 m AO Y';obtain⟨al,d4,e4,l4,p4⟩:=vN p3 3 3 rfl Z' Z';have hc:=ZP (s:=s) (r:=r3) Y';have hlen:=ZQ s (1+r3);have kI:=ZR s (1+r3);have KZ:∀t∈jK s (1+r3),97<=t/\t<=122:=λt ht=>ZS Y' ht;have x9:cW (some (s:Int)) (some ((s:Int)+1+(r3:Int))) (.str mz)=pS (.str (jK s (1+r3))):=by rw[<-hc];rfl
 generalize jK s (1+r3)=ts at x9 hlen kI KZ;obtain⟨SZ,e5,d5,bs,a,b,c,e,p5,h3,h4,rfl⟩:=forA sD (g:=ah [0] 9) (b:=KP) (λas Z=>∃(pd:D)(bs:8#0)(a b c d:Option S),bO pd/\bs.map (·.1)++as=ts/\(∀b∈bs,b.2.length=h/\∀r∈b.2,r.length=w/\∀n∈r,n∈ts)/\Z=rb (.int m) (.int s) h w (1+al) ts pd (bs.map bG) a b c d none) (λn as Z hh=>by obtain⟨pd,bs,a,b,c,d,hp,h3,h4,e⟩:=hh;subst e;have hl:=congrArg QB h3;simp at hl;obtain⟨fl,ba,b',c',d',e,hf,bJ⟩:=ZU (M:=.int m) (S1:=.int s) (h:=h) (w:=w) (al:=1+al) (ts:=ts) (bl:=bs.map bG) (b:=b) (c:=c) (d:=d) (e:=none) Y' Y' Y' Y' w1 h1 Re hp n;exact⟨_,rfl,λy hy=>⟨_,hy.symm.trans e,ba,bs++[(n,fl)],_,_,_,_,bJ,~~~h3,λb hb=>(WK.mp hb).elim (h4 b) λhb=>Qe.mp hb▸hf,by rw[WN];rfl⟩⟩) ts (rb (.int m) (.int s) h w (1+al) ts d4 [] none none none none none) ⟨d4,[],none,none,none,none,p4,rfl,nofun,rfl⟩;rw[Qg]at h3;have K0:=congrArg QB h3;simp at K0;have R:cF h w bs:=⟨h0,h1,w0,w1,hw,Y',Y',%[h3|kI],λb hb=>KZ _ (by rw[<-h3];exact Jc hb),λb hb=>%[h3|h4 b hb]⟩;obtain⟨r6,d6,e6,l6,p6⟩:=vN p5 2 2 rfl Z' Z';obtain⟨b6,c6,-⟩:=KQ r6 0;unfold rQ Ii;simp at hx;have e6:=(dB (it:=a7 (aa 6)) (Z:=rb (.int m) (.int s) h w (1+al) ts d4 [] none none none none none) rfl).trans e5
 cases b6 with|true=>
 obtain⟨n,r,q,l,rfl,hl,R',z0,z1,z2,z3,z4⟩:=KY R;refine⟨h,w,_,d6,gR (S':=rb (.int m) (.int s) h w (1+al) ts d6 (((n,(n::r.tail)::q)::l).map bG) (pS (sD n)) b c e (pS (bA (r::q)))) ?_ rfl rfl,R',by simp at K0⊢;lia,p6⟩;iterate 6 refine dH ?_ cT
 refine dH ?_ e6;refine vB ?_ cT;have i0:ag (.lst (bG (n,r::q)::l.map bG)) (.int 0)=pS (.tup [sD n,bA (r::q)]):=(AN _ _).2;refine zq (dH ?_ cT);have i1:∀k:Nat,e_ (k+1) 0=some 0:=λk=>#v[e_];exact dH rfl cT|false=>
 refine⟨h,w,bs,d6,gR (S':=rb (.int m) (.int s) h w (1+al) ts d6 (bs.map bG) a b c e none) ?_ rfl rfl,R,Y',p6⟩;iterate 6 refine dH ?_ cT
 refine dH ?_ e6;refine vC (zp rfl) cT
theorem vP{A B J:Type}{b:DS}(AQ:A->D)(mk:B->J->Dl)(f:B->A->B)(P:B->Prop)(Q:A->Prop)(hf:∀x a,P x->Q a->P (f x a))(step:∀x j a,P x->Q a->∃S' j',g (.pure (AQ a)) (mk x j)=some S'/\b S'=.ok .next (mk (f x a) j')):∀(as:List A)(x:B)(j:J),P x->(∀a∈as,Q a)->∃j',forL g b (as.map AQ) (mk x j)=.ok .next (mk (as.foldl f x) j')/\P (as.foldl f x)|[],x,j,hp,_=>⟨j,rfl,hp⟩|a::r,x,j,hp,hq=>by obtain⟨S',j',e1,e2⟩:=step x j a hp (hq a Wi);obtain⟨j'',e3,h3⟩:=vP AQ mk f P Q hf step r (f x a) j' (hf x a hp (hq a Wi)) λb hb=>hq b (Wf _ hb);refine⟨j'',?_,h3⟩;rw[Wl];unfold forL;rw[e1];simp only[e2,kb,e3];rfl
theorem ZX(n:Nat):c_ 0 n=(Wx n).map λk:Nat=>D.int (k:Int):=#v[c_]
theorem mul_int(i j:Int)(h0:0<=j)(h1:j<=1000):cN (.int i) (.int j)=0#(.int (i*j)):=by
 unfold cN gh;have:lO i j=true:=by unfold lO;simp;lia
 simp only[this,if_true]
theorem gt_int(i j:Int):gO (.int i) (.int j)=0#(.bl (decide (j<i))):=rfl
theorem nO(i j:Int):bo (.int i) (.int j)=0#(.bl (i==j)):=rfl
theorem kl(np:List Nat)(n:Nat)(b:DS)(ss:List S):bq np n b ss=if cY np 0 ss then match b (bU n ss)with|.ok fl Z=>(dY fl).bind λr=>(cj 0 ss Z).map λaG=>(r,aG)|_=>none else none:=rfl
def cQ(bs:8#0):D:=.bT (bs.map λb=>(Sum.inr [b.1],bA b.2))
theorem K1:∀bs:8#0,gX (bs.map bG)=some (bs.map λb=>(Sum.inr [b.1],bA b.2))|[]=>rfl|b::r=>by have:=K1 r;simp only[Wl];simp[gX,eC,this]
theorem vQ:∀(kps acc:List (cb×D)),((acc++kps).map (·.1)).Nodup->m_ kps acc=acc++kps
 |[],acc,_=>#v[m_]|p::r,acc,h=>by
  have hn:(acc.any λkv=>decide (kv.1=p.1))=false:=by rw[List.any_eq_false];intro kv hkv;simp only[decide_eq_true_eq];intro e;rw[WN,Uk]at h;exact h.2.2 kv.1 (Jc hkv) p.1 (Jc Wi) e
  have hp:putD acc p.1 p.2=acc++[p]:=by unfold putD;rw[hn];simp
  show m_ r (putD acc p.1 p.2)=_;rw[hp,vQ r (acc++[p]) (~~~h)];simp
theorem sh{h:Nat}{bs:8#0}(R:cF h w bs):cZ (.tup (bs.map bG))=some (.own (cQ bs)):=by
 unfold cZ;simp only[K1,WB,Wd];have hz:W9=16777216:=rfl;rw[if_pos (by have:=R.n1;lia),vQ];.rfl
 .simp only[QJ,WU];rw[List.nodup_iff_pairwise_ne,Qr];have:=R.up;rw[Qr]at this;exact this.imp λ{a b}lM=>by simp;lia
def bE(bs:8#0)(n:Nat):List Tx:=((bs.find? λb=>decide (b.1=n)).map (·.2)).getD []
theorem nP{bs:8#0}(h:n∈bs.map (·.1)):∃b∈bs,b.1=n/\(bs.find? λb=>decide (b.1=n))=some b/\bE bs n=b.2:=by cases e:bs.find? λb=>decide (b.1=n)with|none=>obtain⟨b,hb,rfl⟩:=WA.mp h;have:=List.find?_eq_none.mp e b hb;simp at this|some b=>have h1:=List.mem_of_find?_eq_some e;have h2:=List.find?_some e;refine⟨b,h1,~~~h2,rfl,?_⟩;unfold bE;rw[e];rfl
theorem K6(bs:8#0)(n:Nat):dD (bs.map λb=>((Sum.inr [b.1]:cb),bA b.2)) (.inr [n])=(bs.find? λb=>decide (b.1=n)).map λb=>bA b.2:=by unfold dD;rw[List.find?_map];simp[Function.comp_def]
theorem si{bs:8#0}(h:n∈bs.map (·.1)):cE (cQ bs) (.str [n])=0#(bA (bE bs n)):=by obtain⟨b,hb,_,e,e2⟩:=nP h;show((eC (.str [n])).bind λk=>(dD (bs.map λb=>((Sum.inr [b.1]:cb),bA b.2)) k).map S.pure)=_;simp only[eC,WB,K6,e,WM,e2]
theorem ZY{bs:8#0}(h:n∈bs.map (·.1)):fZ true (.str [n]) (cQ bs)=0#(.bl false):=by obtain⟨b,hb,_,e,e2⟩:=nP h;show((eC (.str [n])).map λk=>S.pure (.bl (if true then !(dD (bs.map λb=>((Sum.inr [b.1]:cb),bA b.2)) k).isSome else(dD (bs.map λb=>((Sum.inr [b.1]:cb),bA b.2)) k).isSome)))=_;simp only[eC,WM,K6,e,WM];rfl
theorem K7(h:Nat):∀(as:List Nat)(x:Nat),as.foldl (λx j=>x*h) x=x*h^as.length|[],x=>by simp|a::r,x=>by rw[JK,K7 h r,WV,Nat.pow_succ,Nat.mul_assoc,Nat.mul_comm h]
theorem vR(h t:Nat)(h1:h<=1000)(t1:t<=1000):k7 [.pure (.int 1),.pure (.int h),.pure (.int t)]=some (.pure (.int ((h^t:Nat):Int)),[.pure (.int 1),.pure (.int h),.pure (.int t)]):=by rw[k7,kl,Iu];obtain⟨j',e,_⟩:=vP (g:=ah [] 3) (b:=az (af cN 0 (aq 1)) (ah [] 0)) (λk:Nat=>D.int (k:Int)) (λ(x:Nat)(j:Option S)=>[0#(.int (x:Int)),0#(.int h),0#(.int t),j]) (λx y=>x*h) (λy=>True) (λy=>True) (λy y y y=>trivial) (λx j a y y=>⟨_,0#(.int a),rfl,by have:=mul_int x h Y' Y';simp[az,af,bW,aq,this]⟩) (Wx t) 1 none trivial λy y=>trivial;rw[K7,Jq,Nat.one_mul,<-ZX]at e;simp[cY,bU,aa,qM t Y'];simp only[Int.natCast_one]at e;rw[e];simp[aa,dY,cj]
theorem jL(h w:Nat)(bs:8#0):ag (aC h w bs) (.int 0)=0#(.int h)/\ag (aC h w bs) (.int 1)=0#(.int w)/\ag (aC h w bs) (.int 2)=0#(.tup (bs.map bG)):=by
 refine⟨?_,?_,?_⟩;.simp[ag,oI]
 .simp[ag,yC]
 .simp[ag,yB]
abbrev da(n:Nat):D:=.str [n]
theorem ZZ(ds:List D):gQ (.lst (ds.map λj=>D.bl true))=0#(.bl true):=by
 have e:(ds.map λj=>D.bl true)=(ds.map λj=>true).map D.bl:=by simp
 unfold gQ;simp only[e,FE,WM];simp
def K8(GD:DF):Prop:=∀(d:D)(m:Nat),bO d->0<m->m<1073741824->∃(r:Nat)(d':D),GD [.own d,.pure (.int m)]=some (.pure (.int r),[.own d',.pure (.int m)])/\r<m/\bO d'
theorem K9:K8 cm:=λd m hp h0 h1=>vM hp m h0 h1
theorem mB{h:Nat}{bs:8#0}(R:cF h w bs):eF [.pure (aC h w bs)]=some (.own (.lst ((bs.map (·.1)).map da)),[.pure (aC h w bs)]):=by have x2:=(jL h w bs).2.2;have hn:=R.n1;generalize aC h w bs=ru at*;have e:=oJ (cs:=[1,2]) (g:=cg 2 (aS (ah [] 1) (aS (ah [] 2) cx))) (t:=cA) (el:=aa 1) bG (λb:Nat×List Tx=>da b.1) [0#ru,none,none] bs [] (by rw[i8];simp;lia) λb hb=>⟨_,_,.pure (da b.1),[0#ru,0#(da b.1),0#(bA b.2)],rfl,rfl,rfl,rfl,rfl⟩;rw[eF,kl,Ik];simp[cY,bU,af,bW,aq,x2,k8,dk,bt];rw[e];simp[dj,dY,cj,Function.comp_def]
def fM(bs:8#0)(l:Nat)(row:Tx):Tx:=(row.map λn=>(bE bs n).getD l []).flatten
def layR(h:Nat)(bs:8#0)(row:Tx):List Tx:=(Wx h).map λl=>fM bs l row
def lay(h:Nat)(bs:8#0)(fl:List Tx):List Tx:=fl.flatMap (layR h bs)
structure nQ(bs:8#0)(R C:Nat)(fl:List Tx):Prop where
 rows:fl.length=R
 cols:∀r∈fl,r.length=C
 tl:∀r∈fl,∀n∈r,n∈bs.map (·.1)
theorem vS{h l:Nat}{bs:8#0}(R:cF h w bs)(hn:n∈bs.map (·.1))(hl:l<h):((bE bs n).getD l []).length=w/\(∀k∈(bE bs n).getD l [],k∈bs.map (·.1))/\ag (bA (bE bs n)) (.int l)=0#(.str ((bE bs n).getD l [])):=by
 obtain⟨b,hb,_,_,e2⟩:=nP hn;have hB:=R.bE b hb;have dF:l<b.2.length:=by lia
 have hm:b.2.getD l []∈b.2:=by rw[Q7,W4 dF];exact Qv dF
 have hr:=hB.2 _ hm;rw[e2];exact⟨hr.1,hr.2,#v[ag,jE,dF]⟩
theorem vT{h l:Nat}{bs:8#0}(R:cF h w bs)(hl:l<h):∀row:Tx,(∀n∈row,n∈bs.map (·.1))->(fM bs l row).length=row.length*w/\∀k∈fM bs l row,k∈bs.map (·.1)
 |[],_=>#v[fM]|n::r,h'=>by
  have ih:=vT R hl r λk hk=>h' k (Wf _ hk);have h1:=vS R (h' n Wi) hl;have e:fM bs l (n::r)=(bE bs n).getD l []++fM bs l r:=rfl;rw[e];refine⟨by rw[Qc,h1.1,ih.1,WV,Uu,Nat.add_comm],λk hk=>?_⟩;rcases WK.mp hk with hk|hk;.exact h1.2.1 k hk
  .exact ih.2 k hk
theorem AR{h:Nat}{bs:8#0}(R:cF h w bs){A C:Nat}(F:nQ bs A C fl):nQ bs (A*h) (C*w) (lay h bs fl):=by
 refine⟨?_,λr hr=>?_,λr hr=>?_⟩;.rw[<-F.rows];clear F;induction fl with|nil=>simp[lay]|cons x q ih=>have e:lay h bs (x::q)=layR h bs x++lay h bs q:=rfl;rw[e,Qc,ih,WV,Uu];simp[layR,Nat.add_comm]
 .simp only[lay,List.mem_flatMap,layR,WA,List.mem_range]at hr;obtain⟨x,hx,l,hl,rfl⟩:=hr;rw[(vT R hl x (F.tl x hx)).1,F.cols x hx]
 .simp only[lay,List.mem_flatMap,layR,WA,List.mem_range]at hr;obtain⟨x,hx,l,hl,rfl⟩:=hr;exact(vT R hl x (F.tl x hx)).2
theorem K_(xs:List Tx)(m:Nat)(h:∀x∈xs,x.length<=m):iu xs<=xs.length*m:=by induction xs with|nil=>simp[iu]|cons x r ih=>have h1:=h x Wi;have h2:=ih λy hy=>h y (Wf _ hy);have e:iu (x::r)=x.length+iu r:=#v[iu];rw[e,WV,Uu];lia
theorem Z0(xs:List Tx)(h:iu xs<=16777216):dX [] (.lst (xs.map .str))=0#(.str xs.flatten):=by unfold dX;simp only[yE,uY];rw[if_pos (~~~h)]
theorem Z3{A:Type}(g:A->Tx)(xs:List A)(m:Nat)(h:∀x∈xs,(g x).length<=m)(hm:xs.length*m<=16777216):dX [] (.lst (xs.map λx=>.str (g x)))=pS (.str (xs.map g).flatten):=by have:=K_ (xs.map g) m λy hy=>(WA.mp hy).elim λx hx=>hx.2▸h x hx.1;rw[Wd]at this;have e:=Z0 (xs.map g) (Wy this hm);rw[WU]at e;exact e
abbrev lC:DE:=bI [6] (a7 (aa 4)) (ah [] 6) cA (au ag (af cE 0 (aq 6)) (aq 5))
abbrev lS(W' X:D)(h:Nat)(acc:List Tx)(a b:Option S):Dl:=[pS W',pS (.int h),pS X,pO (.lst (acc.map .str)),a,b,none]
abbrev lB:DS:=bM (eT (aa 1)) (ah [] 5) (cO 3 (aE (dX []) (ae lC)))
theorem La{h:Nat}{bs:8#0}(R:cF h w bs){A C:Nat}(F:nQ bs A C fl)(hA:A<=100):(lay h bs fl).length<=400:=by rw[(AR R F).rows];exact Jv hA R.h1
theorem Z4{h:Nat}{bs:8#0}(R:cF h w bs){A C:Nat}(F:nQ bs A C fl)(hA:A<=100)(hC:C<=1000):mw [.pure (cQ bs),.pure (.int h),.pure (bA fl)]=some (.pure (bA (lay h bs fl)),[.pure (cQ bs),.pure (.int h),.pure (bA fl)]):=by
 have h1:=R.h1;have w1:=R.w1;have hl:=La R F hA;obtain⟨SZ,e,acc,a,b,h2,-,rfl⟩:=forA D.str (g:=ah [] 4) (b:=lB) (λas Z=>∃acc a b,acc++lay h bs as=lay h bs fl/\(∀r∈as,r∈fl)/\Z=lS (cQ bs) (bA fl) h acc a b) λrow as Z hh=>by obtain⟨acc,a,b,h2,h3,e⟩:=hh;subst e;have hr:=h3 row (.head _);have e0:lay h bs (row::as)=layR h bs row++lay h bs as:=rfl;rw[e0,<-WI]at h2;obtain⟨SZ,e,acc',b',h4,-,rfl⟩:=forA (λl:Nat=>D.int l) (g:=ah [] 5) (b:=cO 3 (aE (dX []) (ae lC))) (λls Z=>∃acc' b,acc'++(ls.map λl=>fM bs l row)=acc++layR h bs row/\(∀l∈ls,l<h)/\Z=lS (cQ bs) (bA fl) h acc' (pS (.str row)) b) (λl ls Z hh=>by
 obtain⟨acc',b,h4,h5,e⟩:=hh
 subst e;have hh:=h5 l (.head _);have ec:=cS (j:=6) (np:=[]) (it:=a7 (aa 4)) (el:=au ag (af cE 0 (aq 6)) (aq 5)) sD (λn=>.str ((bE bs n).getD l [])) (N1:=lS (cQ bs) (bA fl) h acc' (pS (.str row)) (pS (.int l))) (as:=row) rfl %[F.cols row hr|hC] λn hn=>by have y1:=si (F.tl row hr n hn);have y2:=(vS R (F.tl row hr n hn) hh).2.2;generalize D.str ((bE bs n).getD l [])=X,bA (bE bs n)=M',cQ bs=W' at*;simp[au,af,bW,aq,y1,y2,S.d]
 have hj:=Z3 (λn=>(bE bs n).getD l []) row w (λn hn=>Nat.le_of_eq (vS R (F.tl row hr n hn) hh).1) %[F.cols row hr|Wy (Jv hC w1) Z'];have hz:=congrArg QB h4;have hy:=congrArg QB h2;simp at hz hy;refine⟨_,rfl,λy kT=>⟨_,kT.symm.trans (vK (nN ec hj) rfl rfl Re rfl),acc'++[fM bs l row],pS (.int l),~~~h4,λx hx=>h5 x (.tail _ hx),by simp only[lS,WN];rfl⟩⟩) (Wx h) (lS (cQ bs) (bA fl) h acc (pS (.str row)) b) ⟨acc,b,rfl,λl hl=>List.mem_range.mp hl,rfl⟩;refine⟨_,rfl,λy hy=>⟨_,hy.symm.trans ((dB (it:=eT (aa 1)) (vL rfl rfl Y')).trans e),acc',_,b',?_,λr hr=>h3 r (.tail _ hr),rfl⟩⟩;rw[<-h2,<-h4];simp fl (lS (cQ bs) (bA fl) h [] none none) ⟨[],none,none,rfl,λk z=>z,rfl⟩;have h5:acc=lay h bs fl:=by simpa[lay]using h2
 subst h5;unfold mw IB;exact gR (S':=lS (cQ bs) (bA fl) h (lay h bs fl) a b) (dH (dH rfl ((dB (it:=a7 (aa 2)) (Z:=lS (cQ bs) (bA fl) h [] none none) rfl).trans e)) rfl) rfl rfl
theorem sj{b:DS}(e:b (bU n [.pure x])=.ok (.ret v) S'):bq [] n b [.pure x]=some (v,[.pure x]):=by rw[kl,e];rfl
theorem gI{b:DS}(e:b (bU n [.pure x,.pure y])=.ok (.ret v) S'):bq [] n b [.pure x,.pure y]=some (v,[.pure x,.pure y]):=by rw[kl,e];rfl
theorem km{b:DS}{z:D}(e:b (bU n [.pure x,.pure y,.pure z])=.ok (.ret v) S'):bq [] n b [.pure x,.pure y,.pure z]=some (v,[.pure x,.pure y,.pure z]):=by rw[kl,e];rfl
theorem Z5{b:DS}(e:b (bU n [.pure x,.pure y])=.ok .next S'):bq [] n b [.pure x,.pure y]=some (.pure .aD,[.pure x,.pure y]):=by rw[kl,e];rfl
theorem Z6{b:DS}{z:D}(e:b (bU n [.pure x,.pure y,.pure z])=.ok .next S'):bq [] n b [.pure x,.pure y,.pure z]=some (.pure .aD,[.pure x,.pure y,.pure z]):=by rw[kl,e];rfl
theorem Z7{bs:8#0}(hn:n∈bs.map (·.1)):rV [.pure (cQ bs),.pure (.tup [.str [n]])]=some (.pure .aD,[.pure (cQ bs),.pure (.tup [.str [n]])]):=by
 have j:dX [] (.tup [.str [n]])=0#(.str [n]):=rfl;have q:=ZY hn;rw[rV,Iz];generalize cQ bs=DB at*;refine Z5 (S':=[0#DB,0#(.tup [.str [n]]),0#(.str [n])]) ?_;generalize D.tup [.str [n]]=F at*;have i:a7 (aE (dX []) (aq 1)) [0#DB,0#F,none]=.ok [.str [n]] [0#DB,0#F,none]:=by simp[k8,aq,j]
 refine(dB i).trans ?_;rw[jg (S':=[0#DB,0#F,0#(.str [n])]) (SL:=[0#DB,0#F,0#(.str [n])]) rfl (by generalize D.str [n]=z at*;simp[aA,aa,aq,q,S.d])];rfl
theorem Z8{a b:Nat}(ha:a<=64)(hb:b<=64):rW [.pure (.int (a:Int)),.pure (.int (b:Int)),.pure (.int 64)]=some (.pure .aD,[.pure (.int (a:Int)),.pure (.int (b:Int)),.pure (.int 64)]):=by have q1:=gt_int (a:Int) 64;have q2:=gt_int (b:Int) 64;rw[decide_eq_false Y']at q1 q2;rw[rW,IA];refine Z6 (S':=[0#(.int (a:Int)),0#(.int (b:Int)),0#(.int 64)]) ?_;generalize(a:Int)=x at*;generalize(b:Int)=y at*;rw[bL (S':=[0#(.int x),0#(.int y),0#(.int 64)]) #v[bU,aA,af,bW,aq,q1]];simp[aA,af,bW,aq,q2]
def iK(h:Nat)(bs:8#0):Nat->List Tx->List Tx|0,fl=>fl|k+1,fl=>lay h bs (iK h bs k fl)
theorem AS{h:Nat}{bs:8#0}(R:cF h w bs)(hn:n∈bs.map (·.1)):∀k,nQ bs (h^k) (w^k) (iK h bs k [[n]])
 |0=>⟨rfl,λr hr=>by
 have hr:r=[n]:=by simpa[iK]using hr
 rw[hr];rfl,λr hr m hm=>by
 have hr:r=[n]:=by simpa[iK]using hr
 rw[hr]at hm;have hm:m=n:= ~~~hm;rw[hm];exact hn⟩|k+1=>by have:=AR R (AS R hn k);rw[Nat.pow_succ,Nat.pow_succ];exact this
abbrev o9(ru F:D)(t:Int)(h w:Int)(BD:D)(s6:S)(o7 o8:Option S):Dl:=[0#ru,0#F,0#(.int t),0#(.int h),0#(.int w),0#BD,some s6,o7,o8]
theorem pz(a k:Nat)(ha:a<=4)(hk:k<=2):a^k<=64:=Wy (Nat.pow_le_pow_left ha k) (Wy (Nat.pow_le_pow_right Z' hk) Z')
theorem Z9{h:Nat}{bs:8#0}(R:cF h w bs){t:Nat}(hn:n∈bs.map (·.1))(ht:t<=2)(h4:h<=4)(w4:w<=4):∃o8,forL (ah [] 8) (az (ay mw [.val (aa 6),.val (aa 3),.val (aa 7)]) (ah [] 7)) (c_ 0 t) (o9 (aC h w bs) (.tup [.str [n]]) t h w (.tup (bs.map bG)) (.pure (cQ bs)) 0#(.tup [.str [n]]) none)=.ok .next (o9 (aC h w bs) (.tup [.str [n]]) t h w (.tup (bs.map bG)) (.pure (cQ bs)) 0#(bA (iK h bs t [[n]])) o8):=by
 obtain⟨SZ,e,I⟩:=uX (g:=ah [] 8) (b:=az (ay mw [.val (aa 6),.val (aa 3),.val (aa 7)]) (ah [] 7)) (λi Z=>i<=t->∃o8,Z=o9 (aC h w bs) (.tup [.str [n]]) t h w (.tup (bs.map bG)) (.pure (cQ bs)) 0#(bA (iK h bs i [[n]])) o8) (c_ 0 t) 0 _ (λj=>⟨none,rfl⟩) λi d Z hd I=>by
   have hi:i<t:=by have:=(W8.mp hd).1;simpa[c_]using this
   rw[Jx]at I⊢;obtain⟨o8,rfl⟩:=I Y';have rl:=Z4 R (AS R hn i) (Wy (pz h i h4 Y') Z') (Wy (pz w i w4 Y') Z');refine⟨_,_,rfl,?_,λj=>⟨0#d,rfl⟩⟩;show _=Rs.ok Fl.next (o9 (aC h w bs) (.tup [.str [n]]) t h w (.tup (bs.map bG)) (.pure (cQ bs)) 0#(bA (lay h bs (iK h bs i [[n]]))) 0#d);generalize bA (lay h bs (iK h bs i [[n]]))=F2 at*;generalize bA (iK h bs i [[n]])=F1 at*;generalize aC h w bs=ru at*;generalize cQ bs=DB at*;generalize D.tup (bs.map bG)=BD at*;generalize D.tup [.str [n]]=F at*;generalize(h:Int)=hz at*;generalize mw=GL at*;simp[az,ay,bB,cP,cD,aa,bS,rl,bp,S.d]
 have hl:(c_ 0 t).length=t:=#v[c_];rw[Jx,hl]at I;obtain⟨o8,rfl⟩:=I (W7 _);exact⟨o8,e⟩
theorem Z_{F:D}{t h w:Int}(db:cZ BD=some (.own DB)):az (aE cZ (aq 5)) (ah [] 6) [0#ru,0#F,0#(.int t),0#(.int h),0#(.int w),0#BD,none,none,none]=.ok .next (o9 ru F t h w BD (.own DB) none none):=by simp[az,aq,db,S.d]
theorem zdq{F:D}{t h w:Int}(rs:GR [.pure DB,.pure F]=some (.pure .aD,[.pure DB,.pure F])):gU (ay GR [.val (aa 6),.val (aa 1)]) (o9 ru F t h w BD (.own DB) none none)=.ok .next (o9 ru F t h w BD (.pure DB) none none):=by simp[gU,ay,bB,cP,cD,aa,bS,rs,bp,S.d]
theorem zdp{GB:DF}{F X:D}{t h w a b:Int}(l1:br F=0#(.int 1))(i0:ag F (.int 0)=0#X)(l2:br X=0#(.int 1))(g1:GS [.pure (.int 1),.pure (.int h),.pure (.int t)]=some (.pure (.int a),[.pure (.int 1),.pure (.int h),.pure (.int t)]))(g2:GS [.pure (.int 1),.pure (.int w),.pure (.int t)]=some (.pure (.int b),[.pure (.int 1),.pure (.int w),.pure (.int t)]))(rb:GB [.pure (.int a),.pure (.int b),.pure (.int 64)]=some (.pure .aD,[.pure (.int a),.pure (.int b),.pure (.int 64)])):gU (ay GB [.val (ay GS [.val (aE br (aq 1)),.val (aa 3),.val (aa 2)]),.val (ay GS [.val (aE br (ae (af ag 1 1#0))),.val (aa 4),.val (aa 2)]),.val 3#64]) (o9 ru F t h w BD s6 none none)=.ok .next (o9 ru F t h w BD s6 none none):=by generalize D.int 64=c64 at*;simp[gU,ay,bB,cP,cD,aa,aq,af,bW,bS,l1,l2,i0,g1,g2,rb,bp,S.d]
theorem zdo{F:D}{t h w:Int}:az (aa 1) (ah [] 7) (o9 ru F t h w BD s6 none none)=.ok .next (o9 ru F t h w BD s6 0#F none):=by simp[az,aa]
theorem zfW{h:Nat}{bs:8#0}(R:cF h w bs){t:Nat}(hn:n∈bs.map (·.1))(ht:t<=2)(h4:h<=4)(w4:w<=4):pf [.pure (aC h w bs),.pure (.tup [.str [n]]),.pure (.int (t:Int))]=some (.pure (bA (iK h bs t [[n]])),[.pure (aC h w bs),.pure (.tup [.str [n]]),.pure (.int (t:Int))]):=by
 have rs:=Z7 hn;have rb:=Z8 (pz h t h4 ht) (pz w t w4 ht);have g1:=vR h t Y' Y';have g2:=vR w t Y' Y';have db:=sh R;have er:aC h w bs=.tup [.int (h:Int),.int (w:Int),.tup (bs.map bG)]:=rfl;have l1:br (.tup [.str [n]])=0#(.int 1):=rfl;have i0:ag (.tup [.str [n]]) (.int 0)=0#(.str [n]):=rfl;have l2:br (.str [n])=0#(.int 1):=rfl;have e0:bA [[n]]=.tup [.str [n]]:=rfl;have loop:=Z9 R hn ht h4 w4;obtain⟨o8,loop⟩:=loop;have rn:=qM t Y';rw[pf,IC];refine km (S':=o9 (aC h w bs) (.tup [.str [n]]) t h w (.tup (bs.map bG)) (.pure (cQ bs)) 0#(bA (iK h bs t [[n]])) o8) ?_;have k0:az (aa 0) (cg 3 (aS (ah [] 3) (aS (ah [] 4) (aS (ah [] 5) cx)))) (bU 9 [.pure (aC h w bs),.pure (.tup [.str [n]]),.pure (.int (t:Int))])=.ok .next [0#(aC h w bs),0#(.tup [.str [n]]),0#(.int t),0#(.int h),0#(.int w),0#(.tup (bs.map bG)),none,none,none]:=by rw[er];generalize D.tup (bs.map bG)=BD at*;simp[bU,az,aa,cg,aS,cx,S.d]
 rw[bL k0];clear k0 er;rw[bL (Z_ db),bL (zdq rs),bL (zdp l1 i0 l2 g1 g2 rb),bL zdo];refine(bL ((dB ?_).trans loop)).trans ?_;.clear loop rs rb g1 g2 db l1 i0 l2 e0;generalize c_ 0 t=RG at*;generalize(t:Int)=tz at*;generalize aC h w bs=ru at*;simp[aa,rn]
 .rfl
theorem zd4{h:Nat}{bs:8#0}(R:cF h w bs):rT [.pure (aC h w bs)]=some (.own (.lst ((bs.map (·.1)).map da)),[.pure (aC h w bs)]):=by have x2:=(jL h w bs).2.2;have hn:=R.n1;generalize aC h w bs=ru at*;have e:=oJ (cs:=[1,2]) (g:=cg 2 (aS (ah [] 1) (aS (ah [] 2) cx))) (t:=cA) (el:=aa 1) bG (λb:Nat×List Tx=>da b.1) [0#ru,none,none] bs [] (by rw[i8];simp;lia) λb hb=>⟨_,_,.pure (da b.1),[0#ru,0#(da b.1),0#(bA b.2)],rfl,rfl,rfl,rfl,rfl⟩;rw[rT,kl,Iy];simp[cY,bU,af,bW,aq,x2,k8,dk,bt];rw[e];simp[dj,dY,cj,Function.comp_def]
theorem zdE(xs:List Tx)(h:iu xs<=16777216):dX [] (bA xs)=0#(.str xs.flatten):=by unfold dX bA;simp only[yE,uY];rw[if_pos (~~~h)]
def tx(h:Nat)(bs:8#0)(t n:Nat):Tx:=(iK h bs t [[n]]).flatten
def fN(h:Nat)(bs:8#0)(t:Nat):D:=.bT (bs.map λb=>(Sum.inr [b.1],.str (tx h bs t b.1)))
theorem Lb(h:Nat)(nR:8#0)(t:Nat):∀ns:List Nat,gX (ns.map λn=>.tup [.str [n],.str (tx h nR t n)])=some (ns.map λn=>(Sum.inr [n],.str (tx h nR t n)))|[]=>rfl|b::r=>by have:=Lb h nR t r;simp only[Wl];simp[gX,eC,this]
theorem zgL{h:Nat}{bs:8#0}(R:cF h w bs)(t:Nat):cZ (.lst ((bs.map (·.1)).map λn=>.tup [.str [n],.str (tx h bs t n)]))=some (.own (fN h bs t)):=by
 unfold cZ;simp only[Lb,WB,Wd];have hz:W9=16777216:=rfl;rw[if_pos (by have:=R.n1;lia),vQ];.rw[QJ,WU];rfl
 .simp only[QJ,WU];rw[List.nodup_iff_pairwise_ne,Qr];have:=R.up;rw[Qr]at this;exact this.imp λ{a b}lM=>by simp;lia
theorem qaa{GO:DF}{t:Int}{fl:D}{x:Tx}(g:GO [.pure ru,.pure (.tup [.str [n]]),.pure (.int t)]=some (.pure fl,[.pure ru,.pure (.tup [.str [n]]),.pure (.int t)]))(j:dX [] fl=0#(.str x)):(aO (ao (aa 2) (ao (aE (dX []) (ae (ay GO [.val (aa 0),.val (aO (ao (aa 2) aF)),.val (aa 1)]))) aF))) [0#ru,0#(.int t),0#(.str [n])]=.ok (.pure (.tup [.str [n],.str x])) [0#ru,0#(.int t),0#(.str [n])]:=by generalize D.str [n]=z at*;simp[ay,bB,cP,cD,aa,aq,bS,g,bp,S.d,j]
theorem zj6{t:Int}{ds:D}(gt:GT [.pure ru]=some (.own (.lst ls),[.pure ru]))(c:dP [2] (ah [] 2) cA el ls [0#ru,0#(.int t),none] []=.ok acc [0#ru,0#(.int t),none])(d:cZ (.lst acc)=some (.own ds)):aI (aE cZ (ae (bI [2] (a7 (ay GT [.val (aa 0)])) (ah [] 2) cA el))) [0#ru,0#(.int t),none]=.ok (.ret (.own ds)) [0#ru,0#(.int t),none]:=by simp[k8,ay,bB,cP,cD,aa,bS,gt,bp,S.d,dk,bt];rw[c];simp[dj,d,S.d]
theorem Lc{h:Nat}{bs:8#0}(R:cF h w bs){t:Nat}(ht:t<=2)(h4:h<=4)(w4:w<=4):ph [.pure (aC h w bs),.pure (.int (t:Int))]=some (.own (fN h bs t),[.pure (aC h w bs),.pure (.int (t:Int))]):=by
 have hn1:=R.n1;have gt:=zd4 R;have db:=zgL R t;have c:=oJ (cs:=[2]) (g:=ah [] 2) (t:=cA) (el:=aO (ao (aa 2) (ao (aE (dX []) (ae (ay pf [.val (aa 0),.val (aO (ao (aa 2) aF)),.val (aa 1)]))) aF))) da (λn:Nat=>D.tup [.str [n],.str (tx h bs t n)]) [0#(aC h w bs),0#(.int (t:Int)),none] (bs.map (·.1)) [] (by rw[i8];simp;lia) λn hn=>by
  have F:=AS R hn t;have hl:iu (iK h bs t [[n]])<=16777216:=by refine Wy (K_ _ 64 λx hx=>%[F.cols x hx|pz w t w4 ht]) ?_;have:=pz h t h4 ht;rw[F.rows];lia
  exact⟨_,_,.pure (.tup [.str [n],.str (tx h bs t n)]),[0#(aC h w bs),0#(.int (t:Int)),0#(.str [n])],rfl,rfl,qaa (zfW R hn ht h4 w4) (zdE _ hl),rfl,rfl⟩
 rw[QJ]at c;rw[ph,ID];exact gI (zj6 gt c db)
theorem zha{h w p a b:Int}(x0:ag ru (.int 0)=0#(.int h))(x1:ag ru (.int 1)=0#(.int w))(g1:GS [.pure (.int 1),.pure (.int h),.pure (.int p)]=some (.pure (.int a),[.pure (.int 1),.pure (.int h),.pure (.int p)]))(g2:GS [.pure (.int 1),.pure (.int w),.pure (.int p)]=some (.pure (.int b),[.pure (.int 1),.pure (.int w),.pure (.int p)])):aI (aO (ao (ay GS [.val 3#1,.val (af ag 0 1#0),.val (aa 1)]) (ao (ay GS [.val 3#1,.val (af ag 0 1#1),.val (aa 1)]) aF))) [0#ru,0#(.int p)]=.ok (.ret (.pure (.tup [.int a,.int b]))) [0#ru,0#(.int p)]:=by simp[ay,bB,cP,cD,aa,aq,af,bW,bS,x0,x1,g1,g2,bp,S.d]
abbrev vU(h w p:Nat):D:=.tup [.int ((h^p:Nat):Int),.int ((w^p:Nat):Int)]
theorem vV{h:Nat}{bs:8#0}(h4:h<=1000)(w4:w<=1000)(p:Nat)(hp:p<=2):iJ [.pure (aC h w bs),.pure (.int (p:Int))]=some (.pure (vU h w p),[.pure (aC h w bs),.pure (.int (p:Int))]):=by have x:=jL h w bs;rw[iJ,Iv];exact gI (zha x.1 x.2.1 (vR h p h4 Y') (vR w p w4 Y'))
def dm(h w h' w' p q:Nat):Bool:=decide (h^p=h'^q)&&decide (w^p=w'^q)
theorem vW(h w h' w' p q:Nat):bo (vU h w p) (vU h' w' q)=0#(.bl (dm h w h' w' p q)):=by
 have e:∀a b:Nat,(((a:Nat):Int)==((b:Nat):Int))=decide (a=b):=λa b=>by rw[Qu,beq_iff_eq,decide_eq_true_eq];lia
 unfold dm vU;generalize h^p=a1;generalize h'^q=a2;generalize w^p=a3;generalize w'^q=a4;rw[<-e a1 a2,<-e a3 a4];simp[bo,flat,fU,aU,dO]
def Ld(sk dq sm so:Bool):D:=if sk then .tup [.int 1,.int 1]else if dq then .tup [.int 1,.int 2]else if sm then .tup [.int 2,.int 1]else if so then .tup [.int 2,.int 2]else .aD
abbrev g9(h w h' w':Nat):D:=Ld (dm h w h' w' 1 1) (dm h w h' w' 1 2) (dm h w h' w' 2 1) (dm h w h' w' 2 2)
abbrev sr(GZ:DF):DS:=bM (a7 (eD (.tup [.int 1,.int 2]))) (ah [] 3) (aX (aA (au bo (ay GZ [.val (aa 0),.val (aa 2)]) (ae (ay GZ [.val (aa 1),.val (aa 3)])))) (aI (aO (ao (aa 2) (ao (aa 3) aF)))) aW)
theorem Lf{p q W' M':D}{b:Bool}(g1:GZ [.pure r1,.pure p]=some (.pure W',[.pure r1,.pure p]))(g2:GZ [.pure r2,.pure q]=some (.pure M',[.pure r2,.pure q]))(e:bo W' M'=0#(.bl b)):(aX (aA (au bo (ay GZ [.val (aa 0),.val (aa 2)]) (ae (ay GZ [.val (aa 1),.val (aa 3)])))) (aI (aO (ao (aa 2) (ao (aa 3) aF)))) aW) [0#r1,0#r2,0#p,0#q]=if b then .ok (.ret (.pure (.tup [p,q]))) [0#r1,0#r2,0#p,0#q]else .ok .next [0#r1,0#r2,0#p,0#q]:=by cases b<;>simp[aA,au,ay,bB,cP,cD,aa,bS,g1,g2,bp,S.d,e]
theorem iL{b:DS}{d:D}(h1:g (.pure d) Z=some S')(h2:b S'=.ok (.ret v) SL):forL g b (d::r) Z=.ok (.ret v) SL:=by unfold forL;rw[h1];simp only[h2,kb]
theorem Lg{p W' Y1 Y2:D}{b1 b2:Bool}(o3:Option S)(g1:GZ [.pure r1,.pure p]=some (.pure W',[.pure r1,.pure p]))(g2:GZ [.pure r2,.pure (.int 1)]=some (.pure Y1,[.pure r2,.pure (.int 1)]))(g3:GZ [.pure r2,.pure (.int 2)]=some (.pure Y2,[.pure r2,.pure (.int 2)]))(e1:bo W' Y1=0#(.bl b1))(e2:bo W' Y2=0#(.bl b2)):∃q3,sr GZ [0#r1,0#r2,0#p,o3]=if b1 then .ok (.ret (.pure (.tup [p,.int 1]))) [0#r1,0#r2,0#p,q3]else if b2 then .ok (.ret (.pure (.tup [p,.int 2]))) [0#r1,0#r2,0#p,q3]else .ok .next [0#r1,0#r2,0#p,q3]:=by have i:a7 (eD (.tup [.int 1,.int 2])) [0#r1,0#r2,0#p,o3]=.ok [.int 1,.int 2] [0#r1,0#r2,0#p,o3]:=rfl;have k1:=Lf g1 g2 e1;have k2:=Lf g1 g3 e2;unfold sr;rw[dB i];cases b1 with|true=>exact⟨0#(.int 1),iL (S':=[0#r1,0#r2,0#p,0#(.int 1)]) rfl k1⟩|false=>refine⟨0#(.int 2),?_⟩;rw[jg (S':=[0#r1,0#r2,0#p,0#(.int 1)]) rfl k1];cases b2 with|true=>exact iL (S':=[0#r1,0#r2,0#p,0#(.int 2)]) rfl k2|false=>rw[jg (S':=[0#r1,0#r2,0#p,0#(.int 2)]) rfl k2];rfl
theorem zhQ{h:Nat}{bs:8#0}(h4:h<=1000)(w4:w<=1000)(jM:h'<=1000)(jN:w'<=1000):pe [.pure (aC h w bs),.pure (aC h' w' bs')]=some (.pure (g9 h w h' w'),[.pure (aC h w bs),.pure (aC h' w' bs')]):=by have a1:iJ [.pure (aC h w bs),.pure (.int 1)]=_:=vV h4 w4 1 Z';have a2:iJ [.pure (aC h w bs),.pure (.int 2)]=_:=vV h4 w4 2 Z';have c1:iJ [.pure (aC h' w' bs'),.pure (.int 1)]=_:=vV jM jN 1 Z';have c2:iJ [.pure (aC h' w' bs'),.pure (.int 2)]=_:=vV jM jN 2 Z';obtain⟨q1,k1⟩:=Lg none a1 c1 c2 (vW h w h' w' 1 1) (vW h w h' w' 1 2);obtain⟨q2,k2⟩:=Lg q1 a2 c1 c2 (vW h w h' w' 2 1) (vW h w h' w' 2 2);rw[pe,Iw];unfold g9;clear a1 a2 c1 c2;generalize dm h w h' w' 1 1=sk at*;generalize dm h w h' w' 1 2=dq at*;generalize dm h w h' w' 2 1=sm at*;generalize dm h w h' w' 2 2=so at*;generalize aC h w bs=r1 at*;generalize aC h' w' bs'=r2 at*;have i:a7 (eD (.tup [.int 1,.int 2])) [0#r1,0#r2,none,none]=.ok [.int 1,.int 2] [0#r1,0#r2,none,none]:=rfl;have fin:∀d SZ,ar (bM (a7 (eD (.tup [.int 1,.int 2]))) (ah [] 2) (sr iJ)) (aI (eD .aD)) [0#r1,0#r2,none,none]=.ok (.ret (.pure d)) SZ->bq [] 4 (ar (bM (a7 (eD (.tup [.int 1,.int 2]))) (ah [] 2) (sr iJ)) (aI (eD .aD))) [.pure r1,.pure r2]=some (.pure d,[.pure r1,.pure r2]):=λd SZ e=>gI (S':=SZ) e;cases sk with|true=>exact fin _ _ (fK ((dB i).trans (iL (S':=[0#r1,0#r2,0#(.int 1),none]) rfl k1)))|false=>cases dq with|true=>exact fin _ _ (fK ((dB i).trans (iL (S':=[0#r1,0#r2,0#(.int 1),none]) rfl k1)))|false=>have st:=(dB (g:=ah [] 2) (b:=sr iJ) i).trans (jg (S':=[0#r1,0#r2,0#(.int 1),none]) rfl k1);cases sm with|true=>exact fin _ _ (fK (st.trans (iL (S':=[0#r1,0#r2,0#(.int 2),q1]) rfl k2)))|false=>cases so with|true=>exact fin _ _ (fK (st.trans (iL (S':=[0#r1,0#r2,0#(.int 2),q1]) rfl k2)))|false=>exact fin _ _ ((bL (st.trans (jg (S':=[0#r1,0#r2,0#(.int 2),q1]) rfl k2))).trans rfl)
abbrev AU:DS:=az (cC (ao (af ag 0 1#0) (ao (af ag 0 1#1) (ao (af ag 1 1#0) (ao (af ag 1 1#1) aF))))) (ah [] 4)
abbrev su:DS:=aX (aA (af bo 2 1#2)) (ar (eS 4 3#0 (au cN (af ag 4 1#0) (ae (af ag 0 1#0)))) (eS 4 3#1 (au cN (af ag 4 1#1) (ae (af ag 0 1#1))))) aW
abbrev sv:DS:=aX (aA (af bo 3 1#2)) (ar (eS 4 3#2 (au cN (af ag 4 1#2) (ae (af ag 1 1#0)))) (eS 4 3#3 (au cN (af ag 4 1#3) (ae (af ag 1 1#1))))) aW
abbrev AV:DS:=aX (aA (au bo (c9 4 cq (bK 3#2)) (ae (c9 4 (bK 3#2) cq)))) (aI (aO (ao (aa 2) (ao (aa 3) aF)))) aW
abbrev c5(r1 r2:D)(p q:Int)(o4:Option S):Dl:=[0#r1,0#r2,0#(.int p),0#(.int q),o4]
section
variable{h w h' w':Int}(x0:ag r1 (.int 0)=0#(.int h))(x1:ag r1 (.int 1)=0#(.int w))(y0:ag r2 (.int 0)=0#(.int h'))(y1:ag r2 (.int 1)=0#(.int w'))
include x0 x1 y0 y1
theorem qab(p q:Int)(o4:Option S):AU (c5 r1 r2 p q o4)=.ok .next (c5 r1 r2 p q (some (.own (.lst [.int h,.int w,.int h',.int w'])))):=by simp[AU,az,af,bW,aq,x0,x1,y0,y1,S.d]
end
theorem Lh(r1 r2:D)(q:Int)(o4:Option S):su (c5 r1 r2 1 q o4)=.ok .next (c5 r1 r2 1 q o4):=by have e:bo (.int 1) (.int 2)=0#(.bl false):=rfl;simp[su,aA,af,bW,aq,e]
theorem Li(r1 r2:D)(p:Int)(o4:Option S):sv (c5 r1 r2 p 1 o4)=.ok .next (c5 r1 r2 p 1 o4):=by have e:bo (.int 1) (.int 2)=0#(.bl false):=rfl;simp[sv,aA,af,bW,aq,e]
theorem Lj{h w:Int}{a b:D}(q:Int)(x0:ag r1 (.int 0)=0#(.int h))(x1:ag r1 (.int 1)=0#(.int w))(m0:cN (.int h) (.int h)=0#(.int h2))(m1:cN (.int w) (.int w)=0#(.int w2)):su (c5 r1 r2 2 q (some (.own (.lst [.int h,.int w,a,b]))))=.ok .next (c5 r1 r2 2 q (some (.own (.lst [.int h2,.int w2,a,b])))):=by have e:bo (.int 2) (.int 2)=0#(.bl true):=rfl;have i0:∀x y z u:D,ag (.lst [x,y,z,u]) (.int 0)=0#x:=λj j j j=>rfl;have i1:∀x y z u:D,ag (.lst [x,y,z,u]) (.int 1)=0#y:=λj j j j=>rfl;have k0:e_ 4 0=some 0:=rfl;have k1:e_ 4 1=some 1:=rfl;simp[su,aA,af,bW,aq,e,eS,gC,putL,aa,i0,i1,x0,x1,m0,m1,k0,k1,S.d]
theorem Lk{h w:Int}{a b:D}(p:Int)(y0:ag r2 (.int 0)=0#(.int h))(y1:ag r2 (.int 1)=0#(.int w))(m0:cN (.int h) (.int h)=0#(.int h2))(m1:cN (.int w) (.int w)=0#(.int w2)):sv (c5 r1 r2 p 2 (some (.own (.lst [a,b,.int h,.int w]))))=.ok .next (c5 r1 r2 p 2 (some (.own (.lst [a,b,.int h2,.int w2])))):=by have e:bo (.int 2) (.int 2)=0#(.bl true):=rfl;have i0:∀x y z u:D,ag (.lst [x,y,z,u]) (.int 2)=0#z:=λj j j j=>rfl;have i1:∀x y z u:D,ag (.lst [x,y,z,u]) (.int 3)=0#u:=λj j j j=>rfl;have k0:e_ 4 2=some 2:=rfl;have k1:e_ 4 3=some 3:=rfl;simp[sv,aA,af,bW,aq,e,eS,gC,putL,aa,i0,i1,y0,y1,m0,m1,k0,k1,S.d]
theorem vX{p q a b c d:Int}(e:bo (.lst [.int a,.int b]) (.lst [.int c,.int d])=0#(.bl bb)):AV (c5 r1 r2 p q (some (.own (.lst [.int a,.int b,.int c,.int d]))))=if bb then .ok (.ret (.pure (.tup [.int p,.int q]))) (c5 r1 r2 p q (some (.own (.lst [.int a,.int b,.int c,.int d]))))else .ok .next (c5 r1 r2 p q (some (.own (.lst [.int a,.int b,.int c,.int d])))):=by have s1:cW none (some 2) (.lst [.int a,.int b,.int c,.int d])=some (.own (.lst [.int a,.int b])):=rfl;have s2:cW (some 2) none (.lst [.int a,.int b,.int c,.int d])=some (.own (.lst [.int c,.int d])):=rfl;generalize D.lst [.int a,.int b,.int c,.int d]=L at*;generalize D.lst [.int a,.int b]=L1 at*;generalize D.lst [.int c,.int d]=L2 at*;cases bb<;>simp[AV,aA,c9,aa,aq,cq,bK,s1,s2,e,S.d]
theorem vY(a b c d:Nat):bo (.lst [.int (a:Int),.int (b:Int)]) (.lst [.int (c:Int),.int (d:Int)])=0#(.bl (decide (a=c)&&decide (b=d))):=by
 have e:∀a b:Nat,(((a:Nat):Int)==((b:Nat):Int))=decide (a=b):=λa b=>by rw[Qu,beq_iff_eq,decide_eq_true_eq];lia
 rw[<-e a c,<-e b d];simp[bo,flat,fU,aU,dO]
abbrev mC:DS:=ar AU (ar su (ar sv AV))
theorem vZ(h w h' w' p q a b c d:Nat)(e1:h^p=a)(e2:w^p=b)(e3:h'^q=c)(e4:w'^q=d):dm h w h' w' p q=(decide (a=c)&&decide (b=d)):=by unfold dm;rw[e1,e2,e3,e4]
theorem mD{h:Nat}(h4:h<=1000):cN (.int (h:Int)) (.int (h:Int))=0#(.int ((h^2:Nat):Int)):=by rw[mul_int (h:Int) (h:Int) Y' Y',<-Int.natCast_mul,JM]
section
variable{h:Nat}(x0:ag r1 (.int 0)=0#(.int (h:Int)))(x1:ag r1 (.int 1)=0#(.int (w:Int)))(y0:ag r2 (.int 0)=0#(.int (h':Int)))(y1:ag r2 (.int 1)=0#(.int (w':Int)))(h4:h<=1000)(w4:w<=1000)(jM:h'<=1000)(jN:w'<=1000)
include x0 x1 y0 y1 h4 w4 jM jN
theorem Ll(p q:Int)(pn qn:Nat)(hp:p=1/\pn=1\/p=2/\pn=2)(hq:q=1/\qn=1\/q=2/\qn=2)(o4:Option S):∃o,mC (c5 r1 r2 p q o4)=if dm h w h' w' pn qn then .ok (.ret (.pure (.tup [.int p,.int q]))) (c5 r1 r2 p q o)else .ok .next (c5 r1 r2 p q o):=by
 have kA:=qab x0 x1 y0 y1 p q o4;rcases hp with⟨rfl,rfl⟩|⟨rfl,rfl⟩
 .rcases hq with⟨rfl,rfl⟩|⟨rfl,rfl⟩;.refine⟨some (.own (.lst [.int (h:Int),.int (w:Int),.int (h':Int),.int (w':Int)])),?_⟩;unfold mC;rw[bL kA,bL (Lh ..),bL (Li ..),vX (vY h w h' w'),vZ h w h' w' 1 1 h w h' w' (QZ _) (QZ _) (QZ _) (QZ _)]
  .refine⟨some (.own (.lst [.int (h:Int),.int (w:Int),.int ((h'^2:Nat):Int),.int ((w'^2:Nat):Int)])),?_⟩;unfold mC;rw[bL kA,bL (Lh ..),bL (Lk 1 y0 y1 (mD jM) (mD jN)),vX (vY h w (h'^2) (w'^2)),vZ h w h' w' 1 2 h w (h'^2) (w'^2) (QZ _) (QZ _) rfl rfl]
 .rcases hq with⟨rfl,rfl⟩|⟨rfl,rfl⟩;.refine⟨some (.own (.lst [.int ((h^2:Nat):Int),.int ((w^2:Nat):Int),.int (h':Int),.int (w':Int)])),?_⟩;unfold mC;rw[bL kA,bL (Lj 1 x0 x1 (mD h4) (mD w4)),bL (Li ..),vX (vY (h^2) (w^2) h' w'),vZ h w h' w' 2 1 (h^2) (w^2) h' w' rfl rfl (QZ _) (QZ _)]
  .refine⟨some (.own (.lst [.int ((h^2:Nat):Int),.int ((w^2:Nat):Int),.int ((h'^2:Nat):Int),.int ((w'^2:Nat):Int)])),?_⟩;unfold mC;rw[bL kA,bL (Lj 2 x0 x1 (mD h4) (mD w4)),bL (Lk 2 y0 y1 (mD jM) (mD jN)),vX (vY (h^2) (w^2) (h'^2) (w'^2)),vZ h w h' w' 2 2 (h^2) (w^2) (h'^2) (w'^2) rfl rfl rfl rfl]
theorem Lm(p:Int)(pn:Nat)(hp:p=1/\pn=1\/p=2/\pn=2)(o3 o4:Option S):∃q3 q4,(bM (a7 (eD (.tup [.int 1,.int 2]))) (ah [] 3) mC) [0#r1,0#r2,0#(.int p),o3,o4]=if dm h w h' w' pn 1 then .ok (.ret (.pure (.tup [.int p,.int 1]))) [0#r1,0#r2,0#(.int p),q3,q4]else if dm h w h' w' pn 2 then .ok (.ret (.pure (.tup [.int p,.int 2]))) [0#r1,0#r2,0#(.int p),q3,q4]else .ok .next [0#r1,0#r2,0#(.int p),q3,q4]:=by have i:a7 (eD (.tup [.int 1,.int 2])) [0#r1,0#r2,0#(.int p),o3,o4]=.ok [.int 1,.int 2] [0#r1,0#r2,0#(.int p),o3,o4]:=rfl;obtain⟨a,k1⟩:=Ll x0 x1 y0 y1 h4 w4 jM jN p 1 pn 1 hp (.inl ⟨rfl,rfl⟩) o4;obtain⟨b,k2⟩:=Ll x0 x1 y0 y1 h4 w4 jM jN p 2 pn 2 hp (.inr ⟨rfl,rfl⟩) a;rw[dB i];generalize mC=B at*;generalize dm h w h' w' pn 1=b1 at*;generalize dm h w h' w' pn 2=b2 at*;cases b1 with|true=>exact⟨0#(.int 1),a,iL (S':=c5 r1 r2 p 1 o4) rfl k1⟩|false=>refine⟨0#(.int 2),b,?_⟩;rw[jg (S':=c5 r1 r2 p 1 o4) rfl k1];cases b2 with|true=>exact iL (S':=c5 r1 r2 p 2 a) rfl k2|false=>rw[jg (S':=c5 r1 r2 p 2 a) rfl k2];rfl
end
theorem zaN{h:Nat}{bs:8#0}(h4:h<=1000)(w4:w<=1000)(jM:h'<=1000)(jN:w'<=1000):rS [.pure (aC h w bs),.pure (aC h' w' bs')]=some (.pure (g9 h w h' w'),[.pure (aC h w bs),.pure (aC h' w' bs')]):=by have x:=jL h w bs;have y:=jL h' w' bs';obtain⟨q3,q4,k1⟩:=Lm x.1 x.2.1 y.1 y.2.1 h4 w4 jM jN 1 1 (.inl ⟨rfl,rfl⟩) none none;obtain⟨p3,p4,k2⟩:=Lm x.1 x.2.1 y.1 y.2.1 h4 w4 jM jN 2 2 (.inr ⟨rfl,rfl⟩) q3 q4;rw[rS,Ir];clear x y;unfold g9;generalize dm h w h' w' 1 1=sk at*;generalize dm h w h' w' 1 2=dq at*;generalize dm h w h' w' 2 1=sm at*;generalize dm h w h' w' 2 2=so at*;generalize aC h w bs=r1 at*;generalize aC h' w' bs'=r2 at*;have fin:∀(B:DS)d SZ,ar (bM (a7 (eD (.tup [.int 1,.int 2]))) (ah [] 2) B) (aI (eD .aD)) [0#r1,0#r2,none,none,none]=.ok (.ret (.pure d)) SZ->bq [] 5 (ar (bM (a7 (eD (.tup [.int 1,.int 2]))) (ah [] 2) B) (aI (eD .aD))) [.pure r1,.pure r2]=some (.pure d,[.pure r1,.pure r2]):=λB d SZ e=>gI (S':=SZ) e;have i:a7 (eD (.tup [.int 1,.int 2])) [0#r1,0#r2,none,none,none]=.ok [.int 1,.int 2] [0#r1,0#r2,none,none,none]:=rfl;generalize bM (a7 (eD (.tup [.int 1,.int 2]))) (ah [] 3) mC=RB at*;cases sk with|true=>exact fin _ _ _ (fK ((dB i).trans (iL (S':=[0#r1,0#r2,0#(.int 1),none,none]) rfl k1)))|false=>cases dq with|true=>exact fin _ _ _ (fK ((dB i).trans (iL (S':=[0#r1,0#r2,0#(.int 1),none,none]) rfl k1)))|false=>have st:=(dB (g:=ah [] 2) (b:=RB) i).trans (jg (S':=[0#r1,0#r2,0#(.int 1),none,none]) rfl k1);cases sm with|true=>exact fin _ _ _ (fK (st.trans (iL (S':=[0#r1,0#r2,0#(.int 2),q3,q4]) rfl k2)))|false=>cases so with|true=>exact fin _ _ _ (fK (st.trans (iL (S':=[0#r1,0#r2,0#(.int 2),q3,q4]) rfl k2)))|false=>exact fin _ _ _ ((bL (st.trans (jg (S':=[0#r1,0#r2,0#(.int 2),q3,q4]) rfl k2))).trans rfl)
abbrev gS(ru X W':D)(acc:List Tx)(a b c d:Option S):Dl:=[pS ru,pS X,pO W',pO (.lst (acc.map .str)),a,b,c,d]
abbrev gT:DS:=ar (az (eD (.str [])) (ah [] 6)) (ar (bM (a7 (aa 4)) (ah [] 7) (az (af aQ 6 (ae (au ag (af cE 2 (aq 7)) (aq 5)))) (ah [] 6))) (cO 3 (aa 6)))
abbrev gB:DS:=bM (eT (af ag 0 1#0)) (ah [] 5) gT
theorem z81{h:Nat}{bs:8#0}(R:cF h w bs){A C:Nat}(F:nQ bs A C fl)(hA:A<=100)(hC:C<=1000):oZ [.pure (aC h w bs),.pure (bA fl)]=some (.pure (bA (lay h bs fl)),[.pure (aC h w bs),.pure (bA fl)]):=by
 have h1:=R.h1;have w1:=R.w1;have hl:=La R F hA;have hdc:=sh R;obtain⟨x0,-,x2⟩:=jL h w bs;unfold oZ Io;generalize aC h w bs=ru at*;obtain⟨SZ,e,acc,a,b,c,d,h2,-,rfl⟩:=forA D.str (g:=ah [] 4) (b:=gB) (λas Z=>∃acc a b c d,acc++lay h bs as=lay h bs fl/\(∀r∈as,r∈fl)/\Z=gS ru (bA fl) (cQ bs) acc a b c d) λrow as Z hh=>by
  obtain⟨acc,a,b,c,d,h2,h3,e⟩:=hh
  subst e;have hr:=h3 row (.head _);have e0:lay h bs (row::as)=layR h bs row++lay h bs as:=rfl;rw[e0,<-WI]at h2;obtain⟨SZ,e,acc',b',c',d',h4,-,rfl⟩:=forA (λl:Nat=>D.int l) (g:=ah [] 5) (b:=gT) (λls Z=>∃acc' b c d,acc'++(ls.map λl=>fM bs l row)=acc++layR h bs row/\(∀l∈ls,l<h)/\Z=gS ru (bA fl) (cQ bs) acc' (pS (.str row)) b c d) (λl ls Z hh=>by
   obtain⟨acc',b,c,d,h4,h5,e⟩:=hh
   subst e;have hh:=h5 l (.head _);have hz:=congrArg QB h4;have hy:=congrArg QB h2;simp at hz hy;obtain⟨SZ,e,x,d',h6,-,rfl⟩:=forA sD (g:=ah [] 7) (b:=az (af aQ 6 (ae (au ag (af cE 2 (aq 7)) (aq 5)))) (ah [] 6)) (λns Z=>∃x d,x++fM bs l ns=fM bs l row/\(∀n∈ns,n∈row)/\Z=gS ru (bA fl) (cQ bs) acc' (pS (.str row)) (pS (.int l)) (pS (.str x)) d) λn ns Z hh=>by obtain⟨x,d,h6,h7,e⟩:=hh;subst e;have hn:=F.tl row hr n (h7 n (.head _));have y1:=si hn;have y2:=(vS R hn hh).2.2;have e1:fM bs l (n::ns)=(bE bs n).getD l []++fM bs l ns:=rfl;have e2:=congrArg QB h6;rw[(vT R hh row (F.tl row hr)).1,F.cols row hr,e1,Qc,Qc]at e2;have e3:C*w<=1000*4:=Jv hC w1;have ha:=add_str x ((bE bs n).getD l []) Y';refine⟨_,rfl,λy hy=>⟨_,hy.symm.trans (cz (S':=gS ru (bA fl) (cQ bs) acc' (pS (.str row)) (pS (.int l)) (pS (.str x)) (pS (sD n))) (v:=.pure (.str (x++(bE bs n).getD l []))) ?_ rfl),_,pS (sD n),by rw[<-h6,e1,WI],λm hm=>h7 m (.tail _ hm),rfl⟩⟩;generalize D.str (x++(bE bs n).getD l [])=X,D.str ((bE bs n).getD l [])=M',bA (bE bs n)=V,cQ bs=W' at*;simp[au,af,bW,aq,y1,y2,ha,S.d] row (gS ru (bA fl) (cQ bs) acc' (pS (.str row)) (pS (.int l)) (pS (.str [])) d) ⟨[],d,rfl,λj z=>z,rfl⟩;obtain rfl:x=fM bs l row:=by simpa[fM]using h6
   exact⟨_,rfl,λy hy=>⟨_,hy.symm.trans (dH (dH (vK (v:=.pure (.str (fM bs l row))) rfl rfl rfl Re rfl) ((dB (it:=a7 (aa 4)) (Z:=gS ru (bA fl) (cQ bs) acc' (pS (.str row)) (pS (.int l)) (pS (.str [])) d) rfl).trans e)) rfl),acc'++[fM bs l row],_,_,_,~~~h4,λx hx=>h5 x (.tail _ hx),by simp only[gS,WN];rfl⟩⟩) (Wx h) (gS ru (bA fl) (cQ bs) acc (pS (.str row)) b c d) ⟨acc,b,c,d,rfl,λl hl=>List.mem_range.mp hl,rfl⟩;refine⟨_,rfl,λy hy=>⟨_,hy.symm.trans ((dB (it:=eT (af ag 0 1#0)) (vL (z:=h) ?_ rfl Y')).trans e),acc',_,b',c',d',?_,λr hr=>h3 r (.tail _ hr),rfl⟩⟩;.simp[af,bW,aq,x0]
  .rw[<-h2,<-h4];simp fl (gS ru (bA fl) (cQ bs) [] none none none none) ⟨[],none,none,none,none,rfl,λj z=>z,rfl⟩;obtain rfl:acc=lay h bs fl:=by simpa[lay]using h2
 refine gR (S':=gS ru (bA fl) (cQ bs) (lay h bs fl) a b c d) (dH ?_ cT) rfl rfl;exact dH (dH rfl ((dB (it:=a7 (aa 1)) (Z:=gS ru (bA fl) (cQ bs) [] none none none none) rfl).trans e)) rfl
theorem Ln{h:Nat}{bs:8#0}(R:cF h w bs)(hn:n∈bs.map (·.1)):lay h bs [[n]]=bE bs n:=by
 obtain⟨b,hb,_,_,e⟩:=nP hn;have hl:(bE bs n).length=h:=by rw[e];exact(R.bE b hb).1
 have e1:lay h bs [[n]]=(Wx h).map λl=>(bE bs n).getD l []:=by simp[lay,layR,fM]
 rw[e1];apply JN;intro i;rw[Ws];by_cases hi:i<h;.rw[List.getElem?_range hi,W4 Y'];simp[show i<(bE bs n).length by lia]
 .rw[Q0 (~~~hi),Q0 Y'];rfl
def tw(h:Nat)(bs:8#0):8#0:=bs.map λb=>(b.1,lay h bs b.2)
theorem sy(h:Nat)(bs:8#0):(tw h bs).map (·.1)=bs.map (·.1):=by unfold tw;rw[WU];rfl
theorem Lo{h:Nat}{bs:8#0}(R:cF h w bs){b:Nat×List Tx}(hb:b∈bs):nQ bs h w b.2:=⟨(R.bE b hb).1,λr hr=>((R.bE b hb).2 r hr).1,λr hr=>((R.bE b hb).2 r hr).2⟩
theorem zh2{h w:Nat}{bs:8#0}(hn:n∈bs.map (·.1)):bE (tw h bs) n=lay h bs (bE bs n):=by obtain⟨b,hb,e0,e1,e2⟩:=nP hn;rw[e2];unfold bE tw;rw[List.find?_map];have:((λb:Nat×List Tx=>decide (b.1=n))∘λb:Nat×List Tx=>(b.1,lay h bs b.2))=λb=>decide (b.1=n):=rfl;rw[this,e1];rfl
theorem zh0{h:Nat}{bs:8#0}(R:cF h w bs)(hn:n∈bs.map (·.1)):tx h bs 2 n=(bE (tw h bs) n).flatten:=by unfold tx;show(lay h bs (lay h bs [[n]])).flatten=_;rw[Ln R hn,zh2 (w:=w) hn]
theorem zh1{h:Nat}{bs:8#0}(R:cF h w bs)(hn:n∈bs.map (·.1)):tx h bs 1 n=(bE bs n).flatten:=by unfold tx;show(lay h bs [[n]]).flatten=_;rw[Ln R hn]
theorem Lp{h:Nat}{bs:8#0}(R:cF h w bs)(h2:h<=2)(w2:w<=2):cF (h*h) (w*w) (tw h bs):=by
 have h0:=R.h0;have w0:=R.w0;have hw:=R.hw;have ch:h=1\/h=2:=by lia
 have cw:w=1\/w=2:=by lia
 refine⟨?_,?_,?_,?_,?_,?_,?_,?_,?_,?_⟩;.rcases ch with rfl|rfl<;>decide
 .rcases ch with rfl|rfl<;>decide
 .rcases cw with rfl|rfl<;>decide
 .rcases cw with rfl|rfl<;>decide
 .rcases ch with rfl|rfl<;>rcases cw with rfl|rfl<;>lia
 .have:=R.n0;simpa[tw]using this
 .have:=R.n1;simpa[tw]using this
 .rw[sy];exact R.up
 .intro b hb;obtain⟨a,ha,rfl⟩:=WA.mp hb;exact R.qN a ha
 .intro b hb;obtain⟨a,ha,rfl⟩:=WA.mp hb;have F:=AR R (Lo R ha);refine⟨F.rows,λr hr=>⟨F.cols r hr,λn hn=>?_⟩⟩;rw[sy];exact F.tl r hr n hn
abbrev aJ(ru f pt:D):D:=.tup [ru,f,pt]
abbrev w7(P ru f pt:D)(o4:Option S):Dl:=[0#P,0#ru,0#f,0#pt,o4,none,none]
theorem qac(ru f pt:D):az (aa 0) (cg 3 (aS (ah [] 1) (aS (ah [] 2) (aS (ah [] 3) cx)))) [0#(aJ ru f pt),none,none,none,none,none,none]=.ok .next (w7 (aJ ru f pt) ru f pt none):=by simp[az,aa,cg,aS,cx,S.d]
theorem qad{P f pt:D}{h w:Int}{a b:Bool}(x0:ag ru (.int 0)=0#(.int h))(x1:ag ru (.int 1)=0#(.int w))(g1:gO (.int h) (.int 2)=0#(.bl a))(g2:gO (.int w) (.int 2)=0#(.bl b)):aX (dg (aA (au gO (af ag 1 1#0) 1#2)) (aA (au gO (af ag 1 1#1) 1#2))) (aI (aa 0)) aW (w7 P ru f pt none)=if a||b then .ok (.ret (.pure P)) (w7 P ru f pt none)else .ok .next (w7 P ru f pt none):=by cases a<;>cases b<;>simp[aA,au,af,bW,aq,aa,x0,x1,g1,g2,S.d]
theorem qae{P f pt BD:D}(x2:ag ru (.int 2)=0#(.tup ls))(c:dP [5,6] (cg 2 (aS (ah [] 5) (aS (ah [] 6) cx))) cA el ls (w7 P ru f pt none) []=.ok acc (w7 P ru f pt none)):az (bI [5,6] (a7 (af ag 1 1#2)) (cg 2 (aS (ah [] 5) (aS (ah [] 6) cx))) cA el) (ah [] 4) (w7 P ru f pt none)=.ok .next (w7 P ru f pt (some (.own (.lst acc)))):=by simp[az,k8,af,bW,aq,x2,S.d,dk,bt];rw[c];simp[dj,S.d]
theorem qaf{GW:DF}{P f pt B2:D}(g:GW [.pure ru,.pure B]=some (.pure B2,[.pure ru,.pure B])):aO (ao (aa 5) (ao (ay GW [.val (aa 1),.val (aa 6)]) aF)) [0#P,0#ru,0#f,0#pt,none,0#(.str [n]),0#B]=.ok (.pure (.tup [.str [n],B2])) [0#P,0#ru,0#f,0#pt,none,0#(.str [n]),0#B]:=by generalize D.str [n]=z at*;simp[ay,bB,cP,cD,aa,bS,g,bp,S.d]
theorem qag{P f pt:D}{h w:Int}(x0:ag ru (.int 0)=0#(.int h))(x1:ag ru (.int 1)=0#(.int w))(m0:cN (.int h) (.int h)=0#(.int h2))(m1:cN (.int w) (.int w)=0#(.int w2)):aI (aO (ao (aO (ao (au cN (af ag 1 1#0) (ae (af ag 1 1#0))) (ao (au cN (af ag 1 1#1) (ae (af ag 1 1#1))) (ao (aE dh (aq 4)) aF)))) (ao (aa 2) (ao (aa 3) aF)))) (w7 P ru f pt (some (.own (.lst acc))))=.ok (.ret (.pure (aJ (.tup [.int h2,.int w2,.tup acc]) f pt))) (w7 P ru f pt (some (.own (.lst acc)))):=by have e:dh (.lst acc)=0#(.tup acc):=rfl;generalize D.lst acc=A at*;simp[af,bW,au,aq,aa,x0,x1,m0,m1,e,S.d]
theorem Lq{h:Nat}{bs:8#0}(R:cF h w bs)(f pt:D):jJ [.pure (aJ (aC h w bs) f pt)]=some (.pure (aJ (if h<=2/\w<=2 then aC (h*h) (w*w) (tw h bs)else aC h w bs) f pt),[.pure (aJ (aC h w bs) f pt)]):=by
 have h1:=R.h1;have w1:=R.w1;have n1:=R.n1;have x:=jL h w bs;have s1:=qac (aC h w bs) f pt;have s2:=qad (P:=aJ (aC h w bs) f pt) (f:=f) (pt:=pt) x.1 x.2.1 (gt_int (h:Int) 2) (gt_int (w:Int) 2);have hb:((decide ((2:Int)<(h:Int)))||decide ((2:Int)<(w:Int)))=decide ¬(h<=2/\w<=2):=by rw[Qu,Bool.or_eq_true,decide_eq_true_eq,decide_eq_true_eq,decide_eq_true_eq];lia
 rw[hb]at s2;by_cases hs:h<=2/\w<=2
 .rw[if_pos hs];rw[decide_eq_false (~~~hs)]at s2;have c:=oJ (cs:=[5,6]) (g:=cg 2 (aS (ah [] 5) (aS (ah [] 6) cx))) (t:=cA) (el:=aO (ao (aa 5) (ao (ay oZ [.val (aa 1),.val (aa 6)]) aF))) bG (λb:Nat×List Tx=>bG (b.1,lay h bs b.2)) (w7 (aJ (aC h w bs) f pt) (aC h w bs) f pt none) bs [] (by rw[i8];simp;lia) λb hb=>⟨_,_,.pure (bG (b.1,lay h bs b.2)),[0#(aJ (aC h w bs) f pt),0#(aC h w bs),0#f,0#pt,none,0#(.str [b.1]),0#(bA b.2)],rfl,rfl,qaf (z81 R (Lo R hb) Y' Y'),rfl,rfl⟩;rw[QJ]at c;have s3:=qae (BD:=.aD) x.2.2 c;have m0:=mul_int (h:Int) (h:Int) Y' Y';have m1:=mul_int (w:Int) (w:Int) Y' Y';rw[<-Int.natCast_mul]at m0 m1;have s4:=qag (P:=aJ (aC h w bs) f pt) (f:=f) (pt:=pt) (acc:=bs.map λb:Nat×List Tx=>bG (b.1,lay h bs b.2)) x.1 x.2.1 m0 m1;have eb:bs.map (λb:Nat×List Tx=>bG (b.1,lay h bs b.2))=(tw h bs).map bG:=by unfold tw;rw[WU];rfl
  rw[eb]at s3 s4;rw[jJ,zw];exact sj ((bL s1).trans ((bL s2).trans ((bL s3).trans s4)))
 .rw[if_neg hs];rw[decide_eq_true hs]at s2;rw[jJ,zw];exact sj ((bL s1).trans (fK s2))
theorem Lr{P Q:D}{t:Int}{b:Bool}(e:bo (.int t) (.int 1)=0#(.bl b))(g:GT [.pure P]=some (.pure Q,[.pure P])):ar (aX (aA (af bo 1 1#1)) (aI (aa 0)) aW) (aI (ay GT [.val (aa 0)])) [0#P,0#(.int t)]=.ok (.ret (.pure (if b then P else Q))) [0#P,0#(.int t)]:=by cases b with|true=>refine fK ?_;simp[aA,af,bW,aq,aa,e]|false=>rw[bL (S':=[0#P,0#(.int t)]) #v[aA,af,bW,aq,e]];simp[ay,bB,cP,cD,aa,bS,g,bp,S.d]
theorem zd6{h:Nat}{bs:8#0}(R:cF h w bs)(f pt:D)(t:Int)(ht:t=1\/t=2):nM [.pure (aJ (aC h w bs) f pt),.pure (.int t)]=some (.pure (aJ (if t=2/\h<=2/\w<=2 then aC (h*h) (w*w) (tw h bs)else aC h w bs) f pt),[.pure (aJ (aC h w bs) f pt),.pure (.int t)]):=by
 have g:=Lq R f pt;rw[nM,IP];rcases ht with rfl|rfl;.have e:bo (.int 1) (.int 1)=0#(.bl true):=rfl;have:=gI (n:=2) (Lr e g);rw[if_neg Y'];exact this
 .have e:bo (.int 2) (.int 1)=0#(.bl false):=rfl;have:=gI (n:=2) (Lr e g);by_cases hs:h<=2/\w<=2;.rw[if_pos ⟨rfl,hs⟩];rw[if_pos hs]at this;exact this
  .rw[if_neg λz=>hs z.2];rw[if_neg hs]at this;exact this
theorem zd2{d:D}(hp:bO d)(m:Nat)(AO:0<m)(uW:m<=26):∃(h w:Nat)(bs:8#0)(n:Nat)(d':D),nG [.own d,.pure (.int m)]=some (.pure (.tup [aC h w bs,.str [n]]),[.own d',.pure (.int m)])/\cF h w bs/\bs.length<=m/\n∈bs.map (·.1)/\bO d':=by obtain⟨h,w,bs,d',g,R,hl,bJ⟩:=ZW hp m AO uW;obtain⟨n,r,q,l,rfl,iV,R',z0,z1,z2,z3,z4⟩:=KY R;refine⟨h,w,(n,(n::r.tail)::q)::l,n,d',?_,R',hl,.head _,bJ⟩;have i0:ag (.tup (((n,r::q)::l).map bG)) (.int 0)=pS (.tup [sD n,bA (r::q)]):=(AN _ _).1;have i1:cW (some 1) none (.tup (((n,r::q)::l).map bG))=pS (.tup (l.map bG)):=KW _;have i2:aQ (.tup [.tup [sD n,bA ((n::r.tail)::q)]]) (.tup (l.map bG))=pS (.tup (((n,(n::r.tail)::q)::l).map bG)):=vO [_] _ Re;unfold nG Ij aC;unfold aC at g;generalize D.tup (((n,r::q)::l).map bG)=B,D.tup (l.map bG)=B1,D.tup (((n,(n::r.tail)::q)::l).map bG)=B2,bA (r::q)=X,bA ((n::r.tail)::q)=M',D.tup (q.map .str)=W' at*;exact Run
theorem zdA(x:Tx)(h:x.length<=1000):br (.str x)=0#(.int x.length):=by unfold br;have:W9=16777216:=rfl;simp only;rw[if_pos Y']
abbrev Pt:=Nat×Nat
variable{bf ps qs t t0 z1 z2 zs:List Pt}{kd:Pt->List Pt}{prev:Option Pt}
abbrev aj(p:Pt):D:=.tup [.str [p.1],.str [p.2]]
structure jO(ts:List Nat)(zs:List Pt):Prop where
 ks:zs.map (·.1)=ts
 sg:∀z∈zs,97<=z.2/\z.2<=122
def mE(zs:List Pt):D:=.bT (zs.map λz=>(Sum.inr [z.1],D.str [z.2]))
theorem zg7:∀r:Nat,r<3->∃sg:Tx,cW none (some (1+(r:Int))) (.str [112,113,114])=0#(.str sg)/\0<sg.length/\sg.length<=3/\∀n∈sg,97<=n/\n<=122:=by
 intro r hr;have hz:W9=16777216:=rfl;have:r=0\/r=1\/r=2:=by lia
 rcases this with rfl|rfl|rfl;.exact⟨[112],rfl,V',V',V'⟩
 .exact⟨[112,113],rfl,V',V',V'⟩
 .exact⟨[112,113,114],rfl,V',V',V'⟩
theorem Ls{P:Nat->Prop}:∀(ts:List Nat)(xs:List D),xs.length=(ts.map da).length->(∀(i:Nat)d x,(ts.map da)[i]?=some d->xs[i]?=some x->∃t s,d=.str [t]/\P s/\x=aj (t,s))->∃zs:List Pt,xs=zs.map aj/\zs.map (·.1)=ts/\∀z∈zs,P z.2|[],[],_,_=>⟨[],rfl,rfl,V'⟩|[],x::xs,h,_=>by simp at h|t::ts,[],h,_=>by simp at h|t::ts,x::xs,h,f=>by obtain⟨zs,rfl,e2,e3⟩:=Ls ts xs (~~~h) λi d x h1 h2=>f (i+1) d x (~~~h1) (~~~h2);obtain⟨t',s,e4,e5,e6⟩:=f 0 (.str [t]) x V' V';cases e4;exact⟨(t,s)::zs,#v[e6],#v[e2],λz hz=>by
 rcases Wq.mp hz with rfl|hz;.exact e5
 .exact e3 z hz⟩
theorem z9D(GD GT:DF)(hd:K8 GD)(ru:D)(ts:List Nat)(t1:ts.length<=26)(gt:GT [.pure ru]=some (.own (.lst (ts.map da)),[.pure ru]))(jP:bO pd):∃(zs:List Pt)(ba:D),jO ts zs/\bO ba/\bq [0] 4 (ar (az (fm (eD (.str [112,113,114])) cq (bK (au aQ 3#1 (ae (ay GD [.io 0,.val 3#3]))))) (ah [0] 2)) (aI (aE dh (ae (bI [3] (a7 (ay GT [.val (aa 1)])) (ah [0] 3) cA (aO (ao (aa 3) (ao (af ag 2 (ae (ay GD [.io 0,.val (aE br (aq 2))]))) aF)))))))) [.own pd,.pure ru]=some (.pure (.tup (zs.map aj)),[.own ba,.pure ru]):=by
 obtain⟨r,fz,e1,l1,p1⟩:=hd pd 3 jP Y' Y';have uu:GD [.own pd,.pure (.int 3)]=some (.pure (.int r),[.own fz,.pure (.int 3)]):=e1;obtain⟨sg,es,s0,s1,s2⟩:=zg7 r l1;have a1:aQ (.int 1) (.int (r:Int))=0#(.int (1+(r:Int))):=rfl;have ls:br (.str sg)=0#(.int (sg.length:Int)):=zdA sg Y';obtain⟨xs,SZ,e,⟨ba,hpd',rfl⟩,hn,hf⟩:=yD (cs:=[3]) (g:=ah [0] 3) (t:=cA) (el:=aO (ao (aa 3) (ao (af ag 2 (ae (ay GD [.io 0,.val (aE br (aq 2))]))) aF))) (λZ=>∃pd,bO pd/\Z=[some (.own pd),0#ru,0#(.str sg),none]) (λd x=>∃t s,d=.str [t]/\(97<=s/\s<=122)/\x=aj (t,s)) (ts.map da) _ [] ⟨fz,p1,rfl⟩ (by rw[i8];simp;lia) λd hdm Z⟨pd,jP,e⟩=>by subst e;obtain⟨t,_,rfl⟩:=WA.mp hdm;obtain⟨i,d',e,l,p⟩:=hd pd sg.length jP s0 Y';have hx:=uZ sg i l Y';have hm:sg.getD i 0∈sg:=#v[Q7,l];generalize sg.getD i 0=y at hx hm;refine⟨_,_,.pure (aj (t,y)),[some (.own d'),0#ru,0#(.str sg),0#(.str [t])],rfl,rfl,?_,⟨d',p,rfl⟩,⟨t,y,rfl,s2 y hm,rfl⟩⟩;generalize D.int (sg.length:Int)=il at*;generalize D.str sg=ds at*;simp[aa,af,bW,ay,bB,cP,dk,cD,bS,bp,aq,ls,e,hx]
 obtain⟨zs,rfl,k1,k2⟩:=Ls ts xs hn hf;refine⟨zs,ba,⟨k1,k2⟩,hpd',?_⟩;have tu:dh (.lst (zs.map aj))=0#(.tup (zs.map aj)):=rfl;rw[kl];rw[QJ]at e;clear k1 k2 hn hf ls;generalize hTL:ts.map da=TL at*;generalize zs.map aj=ZD at*;generalize D.str sg=ds at*;simp[cY,bU,az,fm,cq,bK,ay,bB,cP,dk,cD,bS,bp,aa,aq,uu,a1,es,gt,k8,bt];rw[e];simp[dj,tu,dY,cj]
theorem z9C{h:Nat}{bs:8#0}(R:cF h w bs)(jP:bO pd):∃(zs:List Pt)(ba:D),jO (bs.map (·.1)) zs/\bO ba/\mv [.own pd,.pure (aC h w bs)]=some (.pure (.tup (zs.map aj)),[.own ba,.pure (aC h w bs)]):=by rw[mv,Il];exact z9D cm eF K9 (aC h w bs) (bs.map (·.1)) %[Wd|R.n1] (mB R) jP
theorem Lu(h:Nat)(nR:8#0)(t n:Nat):∀bs:8#0,n∈bs.map (·.1)->dD (bs.map λb=>((Sum.inr [b.1]:cb),D.str (tx h nR t b.1))) (.inr [n])=some (.str (tx h nR t n))
 |[],hn=>by simp at hn|b::r,hn=>by
  by_cases e:b.1=n;.unfold dD;simp[Qa,e]
  .have hn:n∈r.map (·.1):=by
    rw[Wl]at hn;rcases Wq.mp hn with z|z;.exact absurd z.symm e
    .exact z
   have ih:=Lu h nR t n r hn;unfold dD at ih⊢;rw[Wl,Qa];have:decide (((Sum.inr [b.1]:cb))=Sum.inr [n])=false:=decide_eq_false #v[e];simp only[this];exact ih
theorem Lv{h:Nat}{bs:8#0}(t:Nat)(hn:n∈bs.map (·.1)):cE (fN h bs t) (.str [n])=0#(.str (tx h bs t n)):=by show((eC (.str [n])).bind λk=>(dD (bs.map λb=>((Sum.inr [b.1]:cb),D.str (tx h bs t b.1))) k).map S.pure)=_;simp only[eC,WB];rw[Lu h bs t n bs hn];rfl
theorem v3{α β:Type}(f:α->D)(g:β->D):∀(x:List α)(y:List β),kW (x.map f) (y.map g)=(x.zip y).map λp=>.tup [f p.1,g p.2]|[],_=>rfl|_::_,[]=>rfl|a::x,b::y=>congrArg (D.tup [f a,g b]::.) (v3 f g x y)
theorem zgY{T P a b:D}{x y:Tx}(t0:ag T (.int 0)=0#A)(t1:ag T (.int 1)=0#B)(p0:ag P (.int 0)=0#a)(p1:ag P (.int 1)=0#b)(i0:cE A a=0#(.str x))(i1:cE B b=0#(.str y))(hl:x.length=y.length)(hx:x.length<=1000):aI (qX (au cE (af ag 0 1#0) (ae (af ag 1 1#0))) (au cE (af ag 0 1#1) (ae (af ag 1 1#1)))) [0#T,0#P]=.ok (.ret (.own (.lst ((x.zip y).map aj)))) [0#T,0#P]:=by simp[qX,au,af,bW,aq,t0,t1,p0,p1,i0,i1,S.d,kY,hl,v3];lia
theorem zfU{h w w':Nat}{bs:8#0}{t a b:Nat}(ha:a∈bs.map (·.1))(hb:b∈bs'.map (·.1))(hl:(tx h bs t a).length=(tx h' bs' t' b).length)(hx:(tx h bs t a).length<=1000):nK [.pure (.tup [fN h bs t,fN h' bs' t']),.pure (.tup [.str [a],.str [b]])]=some (.own (.lst (((tx h bs t a).zip (tx h' bs' t' b)).map aj)),[.pure (.tup [fN h bs t,fN h' bs' t']),.pure (.tup [.str [a],.str [b]])]):=by rw[nK,IJ];exact gI (zgY rfl rfl rfl rfl (Lv t ha) (Lv t' hb) hl hx)
section
variable{g:BE}{d:D}{w r:S}{F:DA}{t:DT}{a b c:DS}{z:Bool}
theorem de{ba:D}(hf:f Z=.ok (.pure d) Z)(h0:Z[0]?=some (pO pd))(g:G [.own pd,.pure d]=some (v,[.own ba,.pure d])):ay G [.io 0,.val f] Z=.ok v (Z.set 0 (pO ba)):=by simp[ay,bB,cP,dk,h0,cD,hf,bS,g,bp,S.d]
theorem v7(hf:f Z=.ok (.pure d) Z)(g:G [.pure d]=some (v,[.pure d])):ay G [.val f] Z=.ok v Z:=by simp[ay,bB,cP,cD,hf,bS,g,bp,S.d]
theorem dt(h:f Z=.ok v S'):ae f Z=.ok v.d S':=#v[h]
theorem df{x:S}(e1:f Z=.ok x S')(e2:g S'=.ok y SL)(h:p x.d y=some r):au p f g Z=.ok r SL:=#v[au,e1,e2,h]
theorem c8(e1:Z[i]?=some (some v))(e2:g Z=.ok d Z)(h:p v.d d=some r):af p i g Z=.ok r Z:=#v[af,bW,e1,e2,h,aq]
theorem nS(e:Z[i]?=some (some v))(h:q v.d=some r):aE q (aq i) Z=.ok r Z:=#v[aE,aq,e,h]
theorem eW(h:f Z=.ok v S')(k:F S'=.ok ds SL):ao f F Z=.ok (v.d::ds) SL:=#v[ao,h,k]
theorem gp(h:f Z=.ok v S')(e:v.d=d)(k:F S'=.ok ds SL):ao f F Z=.ok (d::ds) SL:=by subst e;simp[ao,h,k]
theorem AW(k:F Z=.ok ds S'):cC F Z=.ok (.own (.lst ds)) S':=#v[cC,k]
theorem iM(k:F Z=.ok ds S'):aO F Z=.ok (.pure (.tup ds)) S':=#v[aO,k]
theorem Lw{k:Int}(hf:f Z=.ok v Z)(h:fh Z=.ok (.pure (.int k)) Z)(e:cW none (some k) v.d=some r):fm f cq (bK fh) Z=.ok r Z:=#v[fm,cq,bK,hf,h,e]
theorem Lx{k:Int}(hf:f Z=.ok v Z)(h:fh Z=.ok (.pure (.int k)) Z)(e:cW (some k) none v.d=some r):fm f (bK fh) cq Z=.ok r Z:=#v[fm,cq,bK,hf,h,e]
theorem Ly{k:Int}(hi:Z[i]?=some (some v))(h:fh Z=.ok (.pure (.int k)) Z)(e:cW none (some k) v.d=some r):c9 i cq (bK fh) Z=.ok r Z:=#v[c9,cq,bK,hi,h,aq,e]
theorem Lz{k:Int}(hi:Z[i]?=some (some v))(h:fh Z=.ok (.pure (.int k)) Z)(e:cW (some k) none v.d=some r):c9 i (bK fh) cq Z=.ok r Z:=#v[c9,cq,bK,hi,h,aq,e]
theorem c_3{f1 f2:DE}{z:D}(h1:f1 Z=.ok (.pure x) Z)(h2:f2 Z=.ok (.pure y) Z)(h3:f3 Z=.ok (.pure z) Z)(g:G [.pure x,.pure y,.pure z]=some (v,[.pure x,.pure y,.pure z])):ay G [.val f1,.val f2,.val f3] Z=.ok v Z:=#v[ay,bB,cP,cD,h1,h2,h3,bS,g,bp,S.d]
theorem qah{G:DX}{f1 f2:DE}{z:D}(h1:f1 Z=.ok (.pure x) Z)(h2:f2 Z=.ok (.pure y) Z)(h3:f3 Z=.ok (.pure z) Z)(g:G [.pure x,.pure y,.pure z]=some (.inl (v,[.pure x,.pure y,.pure z]))):jD G [.val f1,.val f2,.val f3] Z=.ok v Z:=#v[jD,bB,cP,cD,h1,h2,h3,bS,g,bp,S.d]
theorem LA{h:DE}{R:Rs S}(e:f Z=.ok (.pure (.bl true)) S')(k:h S'=R):gy f h Z=R:=by unfold gy;rw[e];exact k
theorem fO(h:f Z=.ok (.pure (.bl z)) S'):aA f Z=.ok z S':=#v[aA,h]
theorem eX(h:t Z=.ok z S'):aX t a b Z=if z then a S' else b S':=by unfold aX;rw[h];rfl
theorem rt(e:f Z=.ok v S'):aI f Z=.ok (.ret v) S':=by unfold aI;rw[e];rfl
theorem nz(e:a Z=.ok .next S')(h:b S'=R):ar a b Z=R:=dH h e
theorem iT(e:t Z=.ok true S')(h:ar a c S'=R):ar (aX t a b) c Z=R:=vB h e
theorem iN(e:t Z=.ok false S')(h:c S'=R):ar (aX t a aW) c Z=R:=vC h e
end
theorem gq(hp:bO pd)(h0:0<z:=by lia)(h1:z<=100000:=by lia):∃(s:Nat)(ba:D),cm [.own pd,.pure (.int z)]=some (.pure (.int s),[.own ba,.pure (.int z)])/\(s:Int)<z/\bO ba:=by obtain⟨m,rfl⟩:=Int.eq_ofNat_of_zero_le (Int.le_of_lt h0);obtain⟨s,ba,g,l,p⟩:=K9 pd m hp Y' Y';exact⟨s,ba,g,Y',p⟩
theorem zco(ts:List Nat):di (ts.map da)=some (ts.map λn=>[n]):=by induction ts with|nil=>rfl|cons a r ih=>show(di (r.map da)).map ([a]::.)=_;rw[ih];rfl
theorem LB(hn:n∈ts)(hl:ts.length<=1000):∃i,i<ts.length/\nt (.lst (ts.map da)) (.str [n])=0#(.int ((i:Nat):Int)):=by have hm:[n]∈ts.map λn=>[n]:=WA.mpr ⟨n,hn,rfl⟩;refine⟨(ts.map λn=>[n]).idxOf [n],by have:=List.idxOf_lt_length_of_mem hm;simpa using this,?_⟩;simp only[nt];rw[zco];simp only;rw[if_pos ⟨hm,~~~hl⟩]
theorem ziF:∀c,c<26->mz.getD c 0=97+c:=by decide
theorem AX{c:Nat}(hz:z=(c:Int))(hc:c<26):ag (.str mz) (.int z)=0#(.str [97+c]):=by rw[hz,uZ mz c hc Z',ziF c hc]
def AY(h w lo hi:Nat)(fl:List Tx):Prop:=fl.length=h/\∀r∈fl,r.length=w/\∀n∈r,lo<=n/\n<hi
theorem LC:∀zs:List Pt,gX (zs.map aj)=some (zs.map λz=>(Sum.inr [z.1],D.str [z.2]))|[]=>rfl|z::r=>by have:=LC r;simp only[Wl];simp[gX,eC,this]
theorem sA(up:ts.Pairwise (.<.))(n1:ts.length<=26)(P:jO ts zs):cZ (.tup (zs.map aj))=some (.own (mE zs)):=by
 have hl:zs.length=ts.length:=by have:=congrArg QB P.ks;simpa using this
 unfold cZ;simp only[LC,WB,Wd];have hz:W9=16777216:=rfl;rw[if_pos Y',vQ];.rfl
 .simp only[QJ,WU];rw[List.nodup_iff_pairwise_ne,Qr];rw[<-P.ks,Qr]at up;exact up.imp λ{a b}lM=>by simp;lia
def sgn(zs:List Pt)(x:Nat):Nat:=((zs.find? λz=>decide (z.1=x)).map (·.2)).getD 0
theorem sC(P:jO ts zs){x:Nat}(hx:x∈ts):cE (mE zs) (.str [x])=0#(.str [sgn zs x])/\97<=sgn zs x/\sgn zs x<=122:=by rw[<-P.ks]at hx;cases e:zs.find? λb=>decide (b.1=x)with|none=>obtain⟨b,hb,rfl⟩:=WA.mp hx;have:=List.find?_eq_none.mp e b hb;simp at this|some b=>
 have es:sgn zs x=b.2:=by unfold sgn;rw[e];rfl
 rw[es];refine⟨?_,P.sg b (List.mem_of_find?_eq_some e)⟩;show((eC (.str [x])).bind λk=>(dD (zs.map λz=>((Sum.inr [z.1]:cb),D.str [z.2])) k).map S.pure)=_;have hv:dD (zs.map λz=>((Sum.inr [z.1]:cb),D.str [z.2])) (.inr [x])=some (.str [b.2]):=by unfold dD;rw[List.find?_map];simp[Function.comp_def,e]
 simp only[eC,WB,hv,WM]
structure eY(h w:Nat)(bs:8#0)(n:Nat)(zs:List Pt):Prop where
 R:cF h w bs
 f:n∈bs.map (·.1)p:jO (bs.map (·.1)) zs
abbrev aP(h w:Nat)(bs:8#0)(n:Nat)(zs:List Pt):D:=aJ (aC h w bs) (.str [n]) (.tup (zs.map aj))
theorem sE{q:Nat}(hq:q<ts.length):∃t,t∈ts/\ag (.lst (ts.map da)) (.int (q:Int))=0#(.str [t]):=by refine⟨ts[q],Qv hq,?_⟩;simp[ag,jE,hq]
abbrev nU(s k:Nat):List Nat:=(Wx k).map λj=>97+(s+j)
theorem LD(s k:Nat):nU s (k+1)=nU s k++[97+(s+k)]:=by unfold nU;rw[List.range_succ,WN];rfl
theorem LF(xs:List D)(h:xs.length<=1000):br (.lst xs)=0#(.int xs.length):=by unfold br;rfl
theorem zd3{h:Nat}{bs:8#0}(p:eY h w bs n zs)(n4:bs.length<=4)(jP:bO pd):∃(bs':8#0)(n':Nat)(bf:List Pt)(ba:D),eY h w bs' n' bf/\bs'.length<=8/\bO ba/\rR [.own pd,.pure (aP h w bs n zs)]=some (.pure (aP h w bs' n' bf),[.own ba,.pure (aP h w bs n zs)]):=by
 have R:=p.R;have⟨h0,h1,w0,w1,_,n0,n1,_,_,_⟩:=R;have hz:W9=16777216:=rfl;have tl:(bs.map (·.1)).length=bs.length:=Wd ..;have gt:=mB R;have ln:br (.lst ((bs.map (·.1)).map da))=0#(.int bs.length):=#v[br];have ml:=mul_int 2 bs.length Y' Y';obtain⟨s,fz,gd,s1,hp1⟩:=gq jP (z:=27-2*bs.length);have⟨x0,x1,x2⟩:=jL h w bs;have db:=sh R;have dp:=sA R.up Y' p.p;obtain⟨i,hi,ei⟩:=LB p.f Y';have mi:=mul_int 2 (i:Int) Y' Y';have rg:∀Z,jS (.pure (.int (2*(bs.length:Int)))) Z=.ok (c_ 0 (2*bs.length)) Z:=λZ=>by have:=qM (2*bs.length) Y' Z;simpa using this
 rw[rR,Im];generalize hx:bq _ _ _ _=X;obtain⟨y,hx,hy⟩:=gF hx rfl;replace hx:=fw hx nF;obtain⟨Z,hδ,hx⟩:=nm hx;obtain⟨SZ,⟨ba,bs',bf,AZ,A0,nV,bJ,k1,k2,k3,k4,rfl⟩,hx⟩:=fL hx (ds:=c_ 0 (2*bs.length)) (N1:=Z) (by subst hδ;exact rz) (λk SZ=>∃(pd:D)(bs':8#0)(bf:List Pt)(AZ A0 nV:Option S),bO pd/\bs'.map (·.1)=nU s k/\(∀b∈bs',AY h w (97+s) (97+s+2*bs.length) b.2)/\bf.map (·.1)=nU s k/\(∀z∈bf,97<=z.2/\z.2<=122)/\SZ=(some (.own pd)::Z.tail).take 8++[some (.own (.lst (bs'.map bG))),some (.own (.lst (bf.map aj))),AZ,A0,nV,none]) ⟨fz,[],[],none,none,none,hp1,rfl,V',rfl,V',by subst hδ;rfl⟩ (λk d S' hd hh=>by
  obtain⟨pd,bs',bf,AZ,A0,nV,hp,k1,k2,k3,k4,e⟩:=hh
  subst hδ e;clear hx hy;obtain⟨hk,rfl⟩:=VT hd;refine⟨_,rfl,λy hx=>?_⟩;obtain⟨t,ht,et⟩:=sE (ts:=bs.map (·.1)) (q:=k/2) Y';have dv:ir (.int k) (.int 2)=0#(.int ((k/2:Nat):Int)):=KN k 2 Y' Y';obtain⟨b,hb,_,_,eb⟩:=nP ht;have rb:=R.bE b hb;have xb:cE (cQ bs) (.str [t])=0#(.tup (b.2.map .str)):=by rw[si ht,eb]
  obtain⟨sx,s1,s2⟩:=sC p.p ht;generalize k/2=q at*;have lx:=AX (c:=s+k) (z:=(s:Int)+k) Y' Y';replace hx:=fw hx nF;obtain⟨Z,hδ,hx⟩:=nm hx;obtain⟨SZ,⟨ba,fl,o12',bJ,f1,f2,rfl⟩,hx⟩:=fL hx (ds:=b.2.map .str) (N1:=Z) (by subst hδ;exact rz) (λj SZ=>∃(pd:D)(fl:List Tx)(nV:Option S),bO pd/\fl.length=j/\(∀r∈fl,r.length=w/\∀n∈r,97+s<=n/\n<97+s+2*bs.length)/\SZ=(some (.own pd)::Z.tail).take 11++[some (.own (.lst (fl.map .str))),nV,none]) ⟨pd,[],nV,hp,rfl,V',by subst hδ;rfl⟩ λj d S' hd hh=>by
   obtain⟨pd,fl,nV,hp,f1,f2,e⟩:=hh
   subst hδ e;clear hx;rw[Ws,Qo]at hd;obtain⟨row,hrow,rfl⟩:=hd;have hj:=(W8.mp hrow).1;have hr:=rb.2 row (Wz hrow);refine⟨_,rfl,λy hx=>?_⟩;replace hx:=xp hx (rfl:_=[_,_,_,_,_,_,_,_,_,_,_,_,_,_]);generalize hE:bI [13] _ _ _ _=E at hx;obtain⟨Z,hδ,hx⟩:=nm hx;obtain⟨xs,SZ,c,⟨ba,bJ,e'⟩,xl,xr⟩:=Hl hE (Z:=Z) (S':=Z) (ds:=row.map da) (by subst hδ;rfl) Re (λSZ=>∃pd,bO pd/\SZ=some (.own pd)::Z.tail) (λu x=>∃n,(97+s<=n/\n<97+s+2*bs.length)/\x=.str [n]) ⟨pd,hp,by subst hδ;rfl⟩ (λd hd SZ⟨pd,hp,e⟩=>by subst hδ e;clear hx hE;obtain⟨m,hm,rfl⟩:=WA.mp hd;obtain⟨r,ba,g2,l2,bJ⟩:=gq hp (z:=2);obtain⟨q,hq,eq⟩:=LB (hr.2 m hm) Y';have mq:=mul_int 2 (q:Int) Y' Y';have lq:=AX (c:=s+2*q+r) (z:=(s:Int)+2*q+r) Y' Y';exact⟨_,_,.pure (.str [97+(s+2*q+r)]),_,rfl,rfl,rz,by exact⟨ba,bJ,rfl⟩,⟨_,Y',rfl⟩⟩) (by subst hδ;rfl);obtain⟨x,rfl,m9⟩:=yF (P:=λn=>97+s<=n/\n<97+s+2*bs.length) (yG xl xr λd x u h=>h);have xl':x.length=w:=by simpa[hr.1]using xl
   have jn:=FD x Y';subst hδ e';clear hE;have kf:j<16777216:=by lia
   refine⟨_,hx.symm.trans rz,ba,fl++[x],_,bJ,#v[f1],?_,by rw[WN];rfl⟩;intro r hr';rcases WK.mp hr' with hr'|hr';.exact f2 r hr'
   .rw[Qe.mp hr'];exact⟨xl',m9⟩
  subst hδ;rw[Wd,rb.1]at f1;have l1:bs'.length=k:=by have:=congrArg QB k1;simpa using this
  have l2:bf.length=k:=by have:=congrArg QB k3;simpa using this
  have iY:k<16777216:=by lia
  have fin:∀v8,AY h w (97+s) (97+s+2*bs.length) v8->(bs'++[(97+(s+k),v8)]).map (·.1)=nU s (k+1)/\(∀b∈bs'++[(97+(s+k),v8)],AY h w (97+s) (97+s+2*bs.length) b.2)/\(bf++[(97+(s+k),sgn zs t)]).map (·.1)=nU s (k+1)/\∀z∈bf++[(97+(s+k),sgn zs t)],97<=z.2/\z.2<=122:=λv8 ok=>by
   refine⟨by rw[WN,k1,LD];rfl,λb hb=>?_,by rw[WN,k3,LD];rfl,λz hz=>?_⟩
   .rcases WK.mp hb with hb|hb;.exact k2 b hb
    .rw[Qe.mp hb];exact ok
   .rcases WK.mp hz with hz|hz;.exact k4 z hz
    .rw[Qe.mp hz];exact⟨s1,s2⟩
  obtain⟨r0,rs,rfl⟩:∃r0 rs,fl=r0::rs:=by cases fl with|nil=>simp at f1;lia|cons a l=>exact⟨a,l,rfl⟩
  have lr:=f2 r0 Wi;have q0:=nO (k:Int) (2*(i:Int));have y0:ag (.lst (.str r0::rs.map .str)) (.int 0)=0#(.str r0):=#v[ag,oI];have y1:=KS r0 Y';have y2:=add_str [97+(s+k)] r0.tail Re;have z0:e_ (rs.length+1) 0=some 0:=by unfold e_;rw[if_pos Y',if_pos Y'];rfl
  have mS(x:Tx)(y:List Tx):(x::y).map D.str=.str x::y.map .str:=rfl;rw[mS]at hx;have hL:97+s<=97+(s+k)/\97+(s+k)<97+s+2*bs.length:=by lia
  generalize 97+(s+k)=L at*;cases hb:(k:Int)==2*(i:Int)<;>rw[hb]at q0;.have⟨u1,u2,u3,u4⟩:=fin (r0::rs) ⟨f1,f2⟩;exact⟨_,hx.symm.trans Run,ba,_,_,_,_,_,bJ,u1,u2,u3,u4,by rw[WN,WN];rfl⟩
  .have⟨u1,u2,u3,u4⟩:=fin (([L]++r0.tail)::rs) ⟨f1,λr hr=>by
    rcases Wq.mp hr with rfl|hr
    .refine⟨by have:=lr.1;simp;lia,λm hm=>?_⟩;rcases WK.mp hm with hm|hm;.rw[Qe.mp hm];exact hL
     .exact lr.2 m (List.mem_of_mem_tail hm)
    .exact f2 r (Wf _ hr)⟩;exact⟨_,hx.symm.trans Run,ba,_,_,_,_,_,bJ,u1,u2,u3,u4,by rw[WN,WN];rfl⟩);subst hδ;rw[show(c_ 0 (2*bs.length)).length=2*bs.length by simp[c_]]at k1 k3;have l1:bs'.length=2*bs.length:=by have:=congrArg QB k1;simpa using this
 have lx:=AX (c:=s+2*i) (z:=(s:Int)+2*i) Y' Y';rw[hy (hx.symm.trans rz).symm rfl];refine⟨bs',97+(s+2*i),bf,ba,⟨⟨h0,h1,w0,w1,R.hw,Y',Y',?_,?_,?_⟩,?_,by rw[k1];exact⟨k3,k4⟩⟩,Y',bJ,rfl⟩;.rw[k1,Qr];exact List.pairwise_lt_range.imp λ{a b}lM=>by lia
 .intro b hb;have:b.1∈bs'.map (·.1):=Jc hb;rw[k1]at this;obtain⟨j,hj,e⟩:=WA.mp this;have hj:j<2*bs.length:= ~~~hj;lia
 .intro b hb;refine⟨(k2 b hb).1,λr hr=>⟨((k2 b hb).2 r hr).1,λm hm=>?_⟩⟩;have:=((k2 b hb).2 r hr).2 m hm;rw[k1];exact WA.mpr ⟨m-97-s,by simp;lia,Y'⟩
 .rw[k1];exact WA.mpr ⟨2*i,by simp;lia,rfl⟩
theorem A5{α:Type}(xs:List α){k:Nat}(hz:z=(k:Int))(h:k<=xs.length):cf xs none (some z)=xs.take k:=by subst hz;unfold cf;rw[Lake.B8,Lake.B7,Ut h];simp
theorem A6{α:Type}(xs:List α){k:Nat}(hz:z=(k:Int))(h:k<=xs.length):cf xs (some z) none=xs.drop k:=by subst hz;unfold cf;rw[Lake.B8,Lake.B7,Ut h,QG V']
theorem qai(x:Tx){k:Nat}(hz:z=(k:Int))(h:k<=x.length)(hl:x.length<=1000):cW none (some z) (.str x)=0#(.str (x.take k)):=by have e:cW none (some z) (.str x)=if x.length<=W9 then 0#(.str (cf x none (some z))) else none:=rfl;have:W9=16777216:=rfl;rw[e,if_pos Y',A5 x hz h]
theorem qaj(x:Tx){k:Nat}(hz:z=(k:Int))(h:k<=x.length)(hl:x.length<=1000):cW (some z) none (.str x)=0#(.str (x.drop k)):=by have e:cW (some z) none (.str x)=if x.length<=W9 then 0#(.str (cf x (some z) none)) else none:=rfl;have:W9=16777216:=rfl;rw[e,if_pos Y',A6 x hz h]
theorem A7{k:Nat}{d:D}(h:ds[k]?=some d):ag (.tup ds) (.int (k:Int))=0#d:=by simp[ag,jE,h]
def bF{α:Type}(l:List α)(k:Nat)(a:α):List α:=l.take k++[a]++l.drop (k+1)
theorem sF{α β:Type}(f:α->β)(l:List α)(k:Nat)(a:α):(bF l k a).map f=bF (l.map f) k (f a):=#v[bF]
theorem LG{α:Type}{l:List α}{k:Nat}{a:α}(h:l[k]?=some a):bF l k a=l:=by obtain⟨hk,rfl⟩:=W8.mp h;unfold bF;rw[WI];show l.take k++l[k]::l.drop (k+1)=l;rw[<-Qx hk,JR]
theorem v9{α:Type}{l:List α}{k:Nat}{a:α}(h:k<l.length):(bF l k a).length=l.length:=by simp[bF];lia
theorem pA{α:Type}{l:List α}{k:Nat}{a x:α}(h:x∈bF l k a):x=a\/x∈l:=by
 unfold bF at h;rcases WK.mp h with h|h
 .rcases WK.mp h with h|h;.exact .inr (Js h)
  .exact .inl (~~~h)
 .exact .inr (JT h)
theorem zgt(xs:List D):br (.tup xs)=0#(.int xs.length):=rfl
theorem zg6:∀r:Nat,r<4->∃y,ag (.str [112,113,114,115]) (.int (r:Int))=0#(.str [y])/\97<=y/\y<=122:=by
 intro r hr;refine⟨_,uZ [112,113,114,115] r (~~~hr) Z',?_⟩;have:r=0\/r=1\/r=2\/r=3:=by lia
 rcases this with rfl|rfl|rfl|rfl<;>exact⟨Z',Z'⟩
theorem A8{k:Nat}(hk:k<ds.length)(hl:ds.length<=900)(d:D):cW none (some (k:Int)) (.tup ds)=0#(.tup (ds.take k))/\aQ (.tup (ds.take k)) (.tup [d])=0#(.tup (ds.take k++[d]))/\cW (some ((k:Int)+1)) none (.tup ds)=0#(.tup (ds.drop (k+1)))/\aQ (.tup (ds.take k++[d])) (.tup (ds.drop (k+1)))=0#(.tup (bF ds k d)):=by
 refine⟨?_,vO _ _ Re,?_,vO _ _ Re⟩;.show some (S.pure (D.tup (cf ds none (some (k:Int)))))=_;rw[A5 ds rfl Y']
 .show some (S.pure (D.tup (cf ds (some ((k:Int)+1)) none)))=_;rw[A6 ds (k:=k+1) Y' Y']
noncomputable abbrev dq(p r:D)(n:Nat)(t:D)(a b c d e f g:Option S:=none):Dl:=[pO p,pS (aJ r (.str [n]) t),pS r,pS (.str [n]),pS t,a,b,c,d,e,f,g]
theorem zhS{h:Nat}{bs:8#0}(p:eY h w bs n zs)(jP:bO pd):∃(bs':8#0)(bf:List Pt)(ba:D),eY h w bs' n bf/\bs'.length=bs.length/\bO ba/\nH [.own pd,.pure (aP h w bs n zs)]=some (.pure (aP h w bs' n bf),[.own ba,.pure (aP h w bs n zs)]):=by
 have R:=p.R;have⟨h0,h1,w0,w1,_,n0,n1,_,_,_⟩:=R;have lz:zs.length=bs.length:=by have:=congrArg QB p.p.ks;simpa using this
 have ln:=zgt (zs.map aj);rw[Wd,lz]at ln;obtain⟨s,fz,gd1,s1,hp1⟩:=gq (z:=bs.length) jP;obtain⟨r2,eZ,gd2,_,hp2⟩:=gq (z:=2) hp1;have⟨x0,x1,x2⟩:=jL h w bs;have e2:=nO r2 0;rw[nH,Ip];cases hb:(r2:Int)==0with|true=>
  rw[hb]at e2;obtain⟨r4,gJ,gd4,l4,hp4⟩:=gq (z:=4) hp2;obtain⟨y,ly,y1,y2⟩:=zg6 r4 Y';obtain⟨z,ez⟩:∃z,zs[s]?=some z:=⟨zs[s]' Y',#v[show s<zs.length by lia]⟩;have xz:=A7 (ds:=zs.map aj) (k:=s) (d:=aj z) (by rw[Ws,ez];rfl);have xt:ag (aj z) (.int 0)=0#(.str [z.1]):=rfl;have⟨c1,c2,c3,c4⟩:=A8 (ds:=zs.map aj) (k:=s) Re Re (aj (z.1,y));rw[<-sF aj zs s (z.1,y)]at c4;refine⟨bs,bF zs s (z.1,y),gJ,⟨R,p.f,⟨?_,λu hu=>?_⟩⟩,rfl,hp4,?_⟩;.rw[sF,<-p.p.ks];exact LG (by rw[Ws,ez];rfl)
  .rcases pA hu with rfl|hu;.exact⟨y1,y2⟩
   .exact p.p.sg u hu
  .unfold aP;generalize aC h w bs=ru at*;generalize aj z=W' at*;generalize D.tup (zs.map aj)=PT at*;generalize D.tup ((bF zs s (z.1,y)).map aj)=PU at*;exact gR (S':=dq gJ ru n PT (pS (.int s)) (pS (.str [y]))) (nz (S':=dq pd ru n PT) (cz rfl rfl) (nz (S':=dq fz ru n PT (pS (.int s))) (cz (de (nS rfl ln) rfl gd1) rfl) (iT (S':=dq eZ ru n PT (pS (.int s))) (fO (df (de (f:=3#2) rfl rfl gd2) (dt (f:=3#0) rfl) e2)) (eN (nz (S':=dq gJ ru n PT (pS (.int s)) (pS (.str [y]))) (cz (df (f:=eD (.str [112,113,114,115])) rfl (dt (de (f:=3#4) rfl rfl gd4)) ly) rfl) (rt (iM (gp rfl rfl (gp rfl rfl (gp (df (df (Ly (v:=.pure PT) rfl rfl c1) (dt (iM (gp (iM (gp (df (c8 rfl rfl xz) (dt (f:=3#0) rfl) xt) rfl (gp rfl rfl rfl))) rfl rfl))) c2) (dt (Lz (v:=.pure PT) rfl (c8 rfl rfl (ai s 1)) c3)) c4) rfl rfl)))))))))) rfl rfl|false=>rw[hb]at e2;obtain⟨b,eb⟩:∃b,bs[s]?=some b:=⟨bs[s]' Y',#v[show s<bs.length by lia]⟩;have LH:=Wz eb;have xb:=A7 (ds:=bs.map bG) (k:=s) (d:=bG b) (by rw[Ws,eb];rfl);obtain⟨r,k9,gd3,l3,hp3⟩:=gq (z:=h) hp2;obtain⟨c,gJ,gd4,l4,hp4⟩:=gq (z:=w) hp3;have e3:=nO ((r:Int)+c) 0;cases hc:(r:Int)+(c:Int)==0with|true=>rw[hc]at e3;refine⟨bs,zs,gJ,p,rfl,hp4,?_⟩;unfold aP;generalize aC h w bs=ru at*;generalize D.tup (zs.map aj)=PT at*;generalize D.tup (bs.map bG)=BT at*;have xb:ag BT (.int s)=pS (.tup [.str [b.1],.tup (b.2.map D.str)]):=xb;generalize D.tup (b.2.map D.str)=KT at*;exact gR (S':=dq gJ ru n PT (pS (.int s)) none (pS (.str [b.1])) (pS KT) (pS (.int r)) (pS (.int c))) (nz (S':=dq pd ru n PT) (cz rfl rfl) (nz (S':=dq fz ru n PT (pS (.int s))) (cz (de (nS rfl ln) rfl gd1) rfl) (iN (S':=dq eZ ru n PT (pS (.int s))) (fO (df (de (f:=3#2) rfl rfl gd2) (dt (f:=3#0) rfl) e2)) (nz (S':=dq eZ ru n PT (pS (.int s)) none (pS (.str [b.1])) (pS KT)) (cz (df (c8 rfl rfl x2) (g:=aq 5) rfl xb) rfl) (nz (S':=dq k9 ru n PT (pS (.int s)) none (pS (.str [b.1])) (pS KT) (pS (.int r))) (cz (de (c8 rfl rfl x0) rfl gd3) rfl) (nz (S':=dq gJ ru n PT (pS (.int s)) none (pS (.str [b.1])) (pS KT) (pS (.int r)) (pS (.int c))) (cz (de (c8 rfl rfl x1) rfl gd4) rfl) (iT (S':=dq gJ ru n PT (pS (.int s)) none (pS (.str [b.1])) (pS KT) (pS (.int r)) (pS (.int c))) (fO (df (c8 (g:=aq 10) rfl rfl (ai r c)) (dt (f:=3#0) rfl) e3)) (eN (rt rfl))))))))) rfl rfl|false=>
   rw[hc]at e3;obtain⟨i,pd5,gd5,l5,hp5⟩:=gq (z:=bs.length) hp4;obtain⟨t,ht,et⟩:=sE (ts:=bs.map (·.1)) (q:=i) Re;have rb:=R.bE b LH;obtain⟨lr,elr⟩:∃lr,b.2[r]?=some lr:=⟨b.2[r]' Y',#v[show r<b.2.length by lia]⟩;have rl:=rb.2 lr (Wz elr);have xl:=A7 (ds:=b.2.map D.str) (k:=r) (d:=.str lr) (by rw[Ws,elr];rfl);have s1:=qai lr (k:=c) rfl Y' Y';have s2:=qaj lr (k:=c+1) (z:=(c:Int)+1) Y' Y' Y';have s3:=add_str (lr.take c) [t] Re;have s4:=add_str (lr.take c++[t]) (lr.drop (c+1)) Re;rw[show lr.take c++[t]++lr.drop (c+1)=bF lr c t from rfl]at s4;have gt:=mB R;have⟨k1,k2,k3,k4⟩:=A8 (ds:=b.2.map D.str) (k:=r) Re Re (.str (bF lr c t));rw[<-sF D.str]at k4;have⟨b1,b2,b3,b4⟩:=A8 (ds:=bs.map bG) (k:=s) Re Re (bG (b.1,bF b.2 r (bF lr c t)));rw[<-sF bG]at b4;have ef:(bF bs s (b.1,bF b.2 r (bF lr c t))).map (·.1)=bs.map (·.1):=by rw[sF];exact LG (by rw[Ws,eb];rfl)
   have eL:=v9 (l:=bs) (k:=s) (a:=(b.1,bF b.2 r (bF lr c t))) Y';refine⟨bF bs s (b.1,bF b.2 r (bF lr c t)),zs,pd5,⟨⟨R.h0,R.h1,R.w0,R.w1,R.hw,Y',Y',%[ef|R.up],λu hu=>?_,λu hu=>?_⟩,%[ef|p.f],%[ef|p.p]⟩,eL,hp5,?_⟩
   .rcases pA hu with rfl|hu;.exact R.qN b LH
    .exact R.qN u hu
   .rw[ef];rcases pA hu with rfl|hu
    .refine⟨%[v9 Y'|rb.1],λq hq=>?_⟩;rcases pA hq with rfl|hq
     .refine⟨%[v9 Y'|rl.1],λm hm=>?_⟩;rcases pA hm with rfl|hm;.exact ht
      .exact rl.2 m hm
     .exact rb.2 q hq
    .exact R.bE u hu
   .unfold aP;have eb':bG b=.tup [.str [b.1],.tup (b.2.map D.str)]:=rfl;have eB':bG (b.1,bF b.2 r (bF lr c t))=.tup [.str [b.1],.tup ((bF b.2 r (bF lr c t)).map D.str)]:=rfl;have eR:aC h w (bF bs s (b.1,bF b.2 r (bF lr c t)))=.tup [.int h,.int w,.tup ((bF bs s (b.1,bF b.2 r (bF lr c t))).map bG)]:=rfl;rw[eR];rw[eb']at xb;rw[eB']at b2 b4;generalize aC h w bs=ru at*;generalize D.tup (zs.map aj)=PT at*;generalize D.tup (bs.map bG)=BT at*;generalize D.tup (b.2.map D.str)=KT at*;generalize D.tup ((bF b.2 r (bF lr c t)).map D.str)=KU at*;generalize D.tup ((bF bs s (b.1,bF b.2 r (bF lr c t))).map bG)=BU at*;generalize D.str (bF lr c t)=L3 at*;generalize D.str (lr.take c++[t])=L4 at*;generalize D.str (lr.take c)=L1 at*;generalize D.str (lr.drop (c+1))=L2 at*;generalize(bs.map (·.1)).map da=TT at*;exact gR (S':=dq pd5 ru n PT (pS (.int s)) none (pS (.str [b.1])) (pS KU) (pS (.int r)) (pS (.int c)) (pS L3)) (nz (S':=dq pd ru n PT) (cz rfl rfl) (nz (S':=dq fz ru n PT (pS (.int s))) (cz (de (nS rfl ln) rfl gd1) rfl) (iN (S':=dq eZ ru n PT (pS (.int s))) (fO (df (de (f:=3#2) rfl rfl gd2) (dt (f:=3#0) rfl) e2)) (nz (S':=dq eZ ru n PT (pS (.int s)) none (pS (.str [b.1])) (pS KT)) (cz (df (c8 rfl rfl x2) (g:=aq 5) rfl xb) rfl) (nz (S':=dq k9 ru n PT (pS (.int s)) none (pS (.str [b.1])) (pS KT) (pS (.int r))) (cz (de (c8 rfl rfl x0) rfl gd3) rfl) (nz (S':=dq gJ ru n PT (pS (.int s)) none (pS (.str [b.1])) (pS KT) (pS (.int r)) (pS (.int c))) (cz (de (c8 rfl rfl x1) rfl gd4) rfl) (iN (S':=dq gJ ru n PT (pS (.int s)) none (pS (.str [b.1])) (pS KT) (pS (.int r)) (pS (.int c))) (fO (df (c8 (g:=aq 10) rfl rfl (ai r c)) (dt (f:=3#0) rfl) e3)) (nz (S':=dq pd5 ru n PT (pS (.int s)) none (pS (.str [b.1])) (pS KT) (pS (.int r)) (pS (.int c)) (pS L3)) (cz (df (df (Lw (v:=.pure (.str lr)) (c8 (g:=aq 9) rfl rfl xl) rfl s1) (dt (df (v7 rfl gt) (dt (de (nS rfl ln) rfl gd5)) et)) s3) (dt (Lx (v:=.pure (.str lr)) (c8 (g:=aq 9) rfl rfl xl) (c8 rfl rfl (ai c 1)) s2)) s4) rfl) (nz (S':=dq pd5 ru n PT (pS (.int s)) none (pS (.str [b.1])) (pS KU) (pS (.int r)) (pS (.int c)) (pS L3)) (cz (df (df (Ly (v:=.pure KT) rfl rfl k1) (dt (iM (gp rfl rfl rfl))) k2) (dt (Lz (v:=.pure KT) rfl (c8 rfl rfl (ai r 1)) k3)) k4) rfl) (rt (iM (gp (iM (gp (c8 rfl rfl x0) rfl (gp (c8 rfl rfl x1) rfl (gp (df (df (Lw (v:=.pure BT) (c8 rfl rfl x2) rfl b1) (dt (iM (gp (iM (gp rfl rfl (gp rfl rfl rfl))) rfl rfl))) b2) (dt (Lx (v:=.pure BT) (c8 rfl rfl x2) (c8 rfl rfl (ai s 1)) b3)) b4) rfl rfl)))) rfl (gp rfl rfl (gp rfl rfl rfl)))))))))))))) rfl rfl
def PD(m:Nat)(d:D):Prop:=∃(h w:Nat)(bs:8#0)(n:Nat)(zs:List Pt),d=aP h w bs n zs/\eY h w bs n zs/\bs.length<=m
theorem PD.up{m':Nat}{d:D}(h:PD m d)(hm:m<=m':=by lia):PD m' d:=by obtain⟨a,b,c,e,f,g,i,j⟩:=h;exact⟨a,b,c,e,f,g,i,Y'⟩
theorem LI(m:Nat)(hp:bO pd)(hz:z=m:=by rfl)(m0:0<m:=by lia)(m1:m<=26:=by lia):∃(ru f pt:D)(fz eZ:D),PD m (aJ ru f pt)/\bO eZ/\nG [.own pd,.pure (.int z)]=some (.pure (.tup [ru,f]),[.own fz,.pure (.int z)])/\mv [.own fz,.pure ru]=some (.pure pt,[.own eZ,.pure ru]):=by subst hz;obtain⟨h,w,bs,n,d',e,R,l,hn,bJ⟩:=zd2 hp m m0 m1;obtain⟨zs,eZ,P,hp2,e2⟩:=z9C R bJ;exact⟨_,_,_,d',eZ,⟨h,w,bs,n,zs,rfl,⟨R,hn,P⟩,l⟩,hp2,e,e2⟩
theorem twP{d:D}(h:PD 8 d):∃d',PD 8 d'/\jJ [.pure d]=some (.pure d',[.pure d]):=by
 obtain⟨h,w,bs,n,zs,rfl,p,l⟩:=h;have e:=Lq p.R (.str [n]) (.tup (zs.map aj));by_cases hs:h<=2/\w<=2;.rw[if_pos hs]at e;exact⟨_,⟨h*h,w*w,tw h bs,n,zs,rfl,⟨Lp p.R hs.1 hs.2,%[sy|p.f],%[sy|p.p]⟩,by simp[tw];lia⟩,e⟩
 .rw[if_neg hs]at e;exact⟨_,⟨h,w,bs,n,zs,rfl,p,l⟩,e⟩
theorem lt_int(i j:Int):jx (.int i) (.int j)=0#(.bl (decide (i<j))):=rfl
abbrev w6(pd:D)(o1 o2:Option S)(one:D)(y:Int)(c:Option S):Dl:=[pO pd,o1,o2,pS one,pS (.int y),c]
abbrev tw3:DS:=ar (aX (aA (au bo (ay cm [.io 0,.val 3#2]) 1#0)) (aI (aO (ao (aa 5) (ao (aa 3) aF)))) aW) (aI (aO (ao (aa 3) (ao (aa 5) aF))))
abbrev tw2:DS:=ar (aX (aA (af jx 4 1#4)) (az (ay nH [.io 0,.val (aa 5)]) (ah [0] 5)) aW) tw3
abbrev tw1:DS:=ar (aX (aA (au bo (ay cm [.io 0,.val 3#3]) 1#0)) (az (ay jJ [.val (aa 5)]) (ah [0] 5)) aW) tw2
def pB(one:D)(b:DS)(Z:Dl):Prop:=∃c r ba o1 o2 y oc,PD 8 c/\(r=.tup [c,one]\/r=.tup [one,c])/\bO ba/\b Z=.ok (.ret (.pure r)) (w6 ba o1 o2 one y oc)
theorem LJ{one c:D}(hp:bO pd)(hc:PD 8 c)(o1 o2:Option S)(y:Int):pB one tw3 (w6 pd o1 o2 one y (pS c)):=by
 obtain⟨r,ba,e,_,bJ⟩:=gq hp (z:=2);have i:=eX (a:=aI (aO (ao (aa 5) (ao (aa 3) aF)))) (b:=aW) (fO (df (de (Z:=w6 pd o1 o2 one y (pS c)) (f:=3#2) rfl rfl e) (dt (f:=3#0) rfl) (nO r 0)));cases hr:(r:Int)==0<;>rw[hr]at i;.exact⟨c,_,ba,o1,o2,y,_,hc,.inr rfl,bJ,nz i rfl⟩
 .exact⟨c,_,ba,o1,o2,y,_,hc,.inl rfl,bJ,eN i⟩
theorem pB.st{one:D}{a b:DS}(h:pB one b S')(e:a Z=.ok .next S'):pB one (ar a b) Z:=by obtain⟨c,r,ba,o1,o2,y,oc,h1,h2,h3,h4⟩:=h;exact⟨c,r,ba,o1,o2,y,oc,h1,h2,h3,nz e h4⟩
theorem LK{one c:D}(hp:bO pd)(hc:PD 8 c)(o1 o2:Option S)(y:Int):pB one tw2 (w6 pd o1 o2 one y (pS c)):=by
 have i:=eX (a:=az (ay nH [.io 0,.val (aa 5)]) (ah [0] 5)) (b:=aW) (fO (c8 (Z:=w6 pd o1 o2 one y (pS c)) (i:=4) rfl (dt (f:=3#4) rfl) (lt_int y 4)));cases hr:decide (y<4)<;>rw[hr]at i;.exact(LJ hp hc o1 o2 y).st i
 .obtain⟨h,w,bs,n,zs,rfl,p,l⟩:=hc;obtain⟨bs',bf,ba,p',l',bJ,e⟩:=zhS p hp;exact(LJ bJ ⟨h,w,bs',n,bf,rfl,p',Y'⟩ o1 o2 y).st (i.trans (cz (g:=ah [0] 5) (de (f:=aa 5) (Z:=w6 pd o1 o2 one y (pS (aP h w bs n zs))) rfl rfl e) rfl))
theorem qak{one c:D}(hp:bO pd)(hc:PD 8 c)(o1 o2:Option S)(y:Int):pB one tw1 (w6 pd o1 o2 one y (pS c)):=by
 obtain⟨r,ba,e,_,bJ⟩:=gq hp (z:=3);have i:=eX (a:=az (ay jJ [.val (aa 5)]) (ah [0] 5)) (b:=aW) (fO (df (de (Z:=w6 pd o1 o2 one y (pS c)) (f:=3#3) rfl rfl e) (dt (f:=3#0) rfl) (nO r 0)));cases hr:(r:Int)==0<;>rw[hr]at i;.exact(LK bJ hc o1 o2 y).st i
 .obtain⟨c',h9,e'⟩:=twP hc;exact(LK bJ h9 o1 o2 y).st (i.trans (cz (g:=ah [0] 5) (v7 (f:=aa 5) (Z:=w6 ba o1 o2 one y (pS c)) rfl e') rfl))
theorem qal(hp:bO pd):∃d1 d2 ba,PD 8 d1/\PD 8 d2/\bO ba/\o_ [.own pd]=some (.pure (.tup [d1,d2]),[.own ba]):=by
 rw[o_,Iq];obtain⟨ru,f,pt,fz,eZ,P1,hp2,e1,e2⟩:=LI 4 hp (z:=4);obtain⟨y,k9,e3,_,hp3⟩:=gq hp2 (z:=6);have q:=nO y 0;cases hy:(y:Int)==0<;>rw[hy]at q
 .obtain⟨h,w,bs,n,zs,ed,p,l⟩:=id P1;obtain⟨bs',n',bf,gJ,p4,l4,hp4,e4⟩:=zd3 p l hp3;rw[<-ed]at e4;obtain⟨r5,pd5,e5,l5,hp5⟩:=gq hp4 (z:=2);obtain⟨ot,P6,x6⟩:∃ot,PD 8 ot/\ag (.lst [aJ ru f pt,aP h w bs' n' bf]) (.int (r5:Int))=pS ot:=by
   have:r5=0\/r5=1:=by lia
   rcases this with rfl|rfl;.exact⟨_,P1.up,rfl⟩
   .exact⟨_,⟨h,w,bs',n',bf,rfl,p4,l4⟩,rfl⟩
  obtain⟨c,r,ba,o1,o2,y',oc,h1,h2,h3,h4⟩:=qak hp5 P6 (pS ru) (pS f) y;rcases h2 with rfl|rfl;.exact⟨_,_,ba,h1,P1.up,h3,gR (nz (cz (de rfl rfl e1) rfl) (nz (cz (iM (eW rfl (eW rfl (eW (de rfl rfl e2) rfl)))) rfl) (nz (cz (de rfl rfl e3) rfl) (iN (fO (c8 rfl rfl q)) (nz (cz (df (AW (eW (v:=.pure (aJ ru f pt)) rfl (eW (de rfl rfl e4) rfl))) (dt (de rfl rfl e5)) x6) rfl) h4))))) rfl rfl⟩
  .exact⟨_,_,ba,P1.up,h1,h3,gR (nz (cz (de rfl rfl e1) rfl) (nz (cz (iM (eW rfl (eW rfl (eW (de rfl rfl e2) rfl)))) rfl) (nz (cz (de rfl rfl e3) rfl) (iN (fO (c8 rfl rfl q)) (nz (cz (df (AW (eW (v:=.pure (aJ ru f pt)) rfl (eW (de rfl rfl e4) rfl))) (dt (de rfl rfl e5)) x6) rfl) h4))))) rfl rfl⟩
 .obtain⟨ru',f',pt',qd1,qd2,Q1,hq2,c1,c2⟩:=LI 3 hp3 (z:=3);have s6:aO (ao (aa 3) (ao (aO (ao (aa 1) (ao (aa 2) (ao (ay mv [.io 0,.val (aa 1)]) aF)))) aF)) (w6 qd1 (pS ru') (pS f') (aJ ru f pt) y none)=.ok (.pure (.tup [aJ ru f pt,aJ ru' f' pt'])) (w6 qd2 (pS ru') (pS f') (aJ ru f pt) y none):=iM (eW (v:=.pure (aJ ru f pt)) (f:=aa 3) rfl (eW (iM (eW (v:=.pure ru') (f:=aa 1) rfl (eW (v:=.pure f') (f:=aa 2) rfl (eW (de (f:=aa 1) (Z:=w6 qd1 (pS ru') (pS f') (aJ ru f pt) y none) rfl rfl c2) rfl)))) rfl));exact⟨_,_,qd2,P1.up,Q1.up,hq2,gR (nz (cz (de rfl rfl e1) rfl) (nz (cz (iM (eW rfl (eW rfl (eW (de rfl rfl e2) rfl)))) rfl) (nz (cz (de rfl rfl e3) rfl) (iT (fO (c8 rfl rfl q)) (eN (nz (S':=w6 qd1 (pS ru') (pS f') (aJ ru f pt) y none) (cz (de rfl rfl c1) rfl) (rt s6))))))) rfl rfl⟩
open Lake.SO
theorem LL(p:Pt):flat 49 (aj p)=true:=rfl
theorem LM(t:List Pt):(t.map aj).all (flat 49)=true:=by rw[JP,WW];intro p _;rfl
theorem LN(p q:Pt):aU (aj p) (aj q)=decide (p=q):=by obtain⟨a,b⟩:=p;obtain⟨c,d⟩:=q;rw[Qu];simp[aU,dO]
theorem A9(t:List Pt)(q:Pt):((t.map aj).any λe=>aU e (aj q))=decide (q∈t):=by induction t with|nil=>rfl|cons p r ih=>rw[Wl,QF,ih,LN];rw[Qu];simp;exact⟨λh=>h.imp Eq.symm id,λh=>h.imp Eq.symm id⟩
theorem LO(t:List Pt)(q:Pt):gk true (aj q) (.lst (t.map aj))=0#(.bl !decide (q∈t)):=by simp only[gk];rw[LL,LM,A9];rfl
theorem LP(t:List Pt)(q:Pt):gH true (aj q) (.tup (t.map aj))=0#(.bl !decide (q∈t)):=by simp only[gH];rw[LL,LM,A9];rfl
abbrev bR(A B C:D)(t:List Pt)(o4 o5 o6 o7 o8 o9:Option S):Dl:=[0#A,0#B,0#C,some (.own (.lst (t.map aj))),o4,o5,o6,o7,o8,o9]
theorem zfI(q:Pt)(hz:t.length<W9)(o5 o6 o7 o8 o9:Option S):aX (aA (au (gk true) (aa 4) (aq 3))) (cO 3 (aa 4)) aW (bR A B C t 0#(aj q) o5 o6 o7 o8 o9)=.ok .next (bR A B C (dR t q) 0#(aj q) o5 o6 o7 o8 o9):=by
 have e:=LO t q;unfold bR dR;by_cases h:q∈t;.rw[if_pos h];rw[decide_eq_true h]at e;generalize aj q=Q at*;simp[aA,au,aa,aq,S.d,e]
 .rw[if_neg h,WN];rw[decide_eq_false h]at e;rw[show[q].map aj=[aj q]from rfl];generalize aj q=Q at*;simp[aA,au,aa,aq,S.d,e,cO,gC,putL,hz]
theorem zfH(q:Pt)(hz:t.length<W9)(o4 o5 o6 o7 o8:Option S):aX (aA (au (gk true) (aa 9) (aq 3))) (cO 3 (aa 9)) aW (bR A B C t o4 o5 o6 o7 o8 0#(aj q))=.ok .next (bR A B C (dR t q) o4 o5 o6 o7 o8 0#(aj q)):=by
 have e:=LO t q;unfold bR dR;by_cases h:q∈t;.rw[if_pos h];rw[decide_eq_true h]at e;generalize aj q=Q at*;simp[aA,au,aa,aq,S.d,e]
 .rw[if_neg h,WN];rw[decide_eq_false h]at e;rw[show[q].map aj=[aj q]from rfl];generalize aj q=Q at*;simp[aA,au,aa,aq,S.d,e,cO,gC,putL,hz]
def Nd(U t:List Pt):Prop:=t.Nodup/\∀x∈t,x∈U
theorem Nd.len{U:List Pt}(h:Nd U t):t.length<=U.length:=List.Nodup.length_le_of_subset h.1 λx hx=>h.2 x hx
theorem Nd.add{U:List Pt}(h:Nd U t){q:Pt}(hq:q∈U):Nd U (dR t q):=⟨KG q h.1,λx hx=>by
 rcases(KD t q x).mp hx with z|z;.exact h.2 x z
 .rw[z];exact hq⟩
theorem zfF{U:List Pt}(hU:U.length<=1000)(ps:List Pt)(hp:∀q∈ps,q∈U)(ht:Nd U t)(o4 o5 o6 o7 o8 o9:Option S):∃o4',forL (ah [] 4) (aX (aA (au (gk true) (aa 4) (aq 3))) (cO 3 (aa 4)) aW) (ps.map aj) (bR A B C t o4 o5 o6 o7 o8 o9)=.ok .next (bR A B C (cn t ps) o4' o5 o6 o7 o8 o9)/\Nd U (cn t ps):=vP (g:=ah [] 4) aj (λt(j:Option S)=>bR A B C t j o5 o6 o7 o8 o9) dR (Nd U) (λq=>q∈U) (λx a hx ha=>hx.add ha) (λt j q ht hq=>⟨_,_,rfl,zfI q (by have:=ht.len;rw[i8];lia) o5 o6 o7 o8 o9⟩) ps t o4 ht hp
theorem zfE{U:List Pt}(hU:U.length<=1000)(l r:Tx)(hp:∀q∈l.zip r,q∈U)(ht:Nd U t)(o4 o5 o6 o9:Option S):∃k_,bM (jF (aa 7) (aa 8)) (ah [] 9) (aX (aA (au (gk true) (aa 9) (aq 3))) (cO 3 (aa 9)) aW) (bR A B C t o4 o5 o6 0#(.str l) 0#(.str r) o9)=.ok .next (bR A B C (cn t (l.zip r)) o4 o5 o6 0#(.str l) 0#(.str r) k_)/\Nd U (cn t (l.zip r)):=by
 have e:jF (aa 7) (aa 8) (bR A B C t o4 o5 o6 0#(.str l) 0#(.str r) o9)=.ok ((l.zip r).map aj) (bR A B C t o4 o5 o6 0#(.str l) 0#(.str r) o9):=by simp[jF,aa,S.d,kY,v3]
 rw[dB e];exact vP (g:=ah [] 9) aj (λt(j:Option S)=>bR A B C t o4 o5 o6 0#(.str l) 0#(.str r) j) dR (Nd U) (λq=>q∈U) (λx a hx ha=>hx.add ha) (λt j q ht hq=>⟨_,_,rfl,zfH q (by have:=ht.len;rw[i8];lia) o4 o5 o6 _ _⟩) (l.zip r) t o9 ht hp
theorem ze6(t a b:List Pt):cn t (a++b)=cn (cn t a) b:=by unfold cn;rw[List.foldl_append]
abbrev rwD(x:Tx×Tx):D:=.tup [.str x.1,.str x.2]
theorem LR{A B C:D}{U:List Pt}(hU:U.length<=1000):∀(ls:List (Tx×Tx)),(∀x∈ls,∀q∈x.1.zip x.2,q∈U)->∀{t:List Pt}(ht:Nd U t)(o4 o5 o6 o7 o8 o9:Option S),∃sG sH k_,forL (cg 2 (aS (ah [] 7) (aS (ah [] 8) cx))) (bM (jF (aa 7) (aa 8)) (ah [] 9) (aX (aA (au (gk true) (aa 9) (aq 3))) (cO 3 (aa 9)) aW)) (ls.map rwD) (bR A B C t o4 o5 o6 o7 o8 o9)=.ok .next (bR A B C (cn t (ls.flatMap λx=>x.1.zip x.2)) o4 o5 o6 sG sH k_)|[],_,t,ht,o4,o5,o6,o7,o8,o9=>⟨o7,o8,o9,rfl⟩|x::ls,hx,t,ht,o4,o5,o6,o7,o8,o9=>by obtain⟨k_,e1,n1⟩:=zfE (A:=A) (B:=B) (C:=C) hU x.1 x.2 (hx x Wi) ht o4 o5 o6 o9;obtain⟨a,b,c,e2⟩:=LR (A:=A) (B:=B) (C:=C) hU ls (λy hy=>hx y (Wf _ hy)) n1 o4 o5 o6 0#(.str x.1) 0#(.str x.2) k_;refine⟨a,b,c,?_⟩;rw[Wl,List.flatMap_cons,ze6];exact(jg #v[cg,aS,cx,S.d] e1).trans e2
theorem z9o{t:DT}{b:DS}(h1:t Z=.ok true S')(h2:b S'=.ok .next SL):gi t b (n+1) Z=gi t b n SL:=by simp only[gi,h1,kb,if_true,h2]
theorem zad{t:DT}{b:DS}(h1:t Z=.ok false S'):gi t b (n+1) Z=.ok .next S':=by simp[gi,h1]
def jh(T1 T2:List Nat):List Pt:=T1.flatMap λa=>T2.map λb=>(a,b)
theorem iO{T1 T2:List Nat}{p:Pt}:p∈jh T1 T2↔p.1∈T1/\p.2∈T2:=by obtain⟨a,b⟩:=p;simp[jh]
theorem LS(T1 T2:List Nat):(jh T1 T2).length=T1.length*T2.length:=by unfold jh;induction T1 with|nil=>simp|cons a r ih=>rw[List.flatMap_cons,Qc,ih,Wd,WV,Uu,Nat.add_comm]
structure Bo(H W:Nat)(B1 B2:8#0):Prop where
 R1:cF H W B1
 R2:cF H W B2
abbrev Bo.U(_:Bo H W B1 B2):List Pt:=jh (B1.map (·.1)) (B2.map (·.1))
def kids(B1 B2:8#0)(p:Pt):List Pt:=((bE B1 p.1).flatten).zip (bE B2 p.2).flatten
theorem Bo.len(o:Bo H W B1 B2):o.U.length<=1000:=by rw[LS,Wd,Wd];have h1:=o.R1.n1;have h2:=o.R2.n1;exact Wy (Jv h1 h2) Z'
theorem sI{h:Nat}{bs:8#0}(R:cF h w bs)(hn:n∈bs.map (·.1)):(bE bs n).length=h/\∀r∈bE bs n,r.length=w/\∀k∈r,k∈bs.map (·.1):=by obtain⟨b,hb,_,_,e⟩:=nP hn;rw[e];exact R.bE b hb
theorem Bo.LU(o:Bo H W B1 B2):∀p∈o.U,∀q∈kids B1 B2 p,q∈o.U:=λp hp q hq=>by have hp:=iO.mp hp;have hz:=U4 (show(q.1,q.2)∈_ from hq);obtain⟨r1,m1,k1⟩:=List.mem_flatten.mp hz.1;obtain⟨r2,m2,k2⟩:=List.mem_flatten.mp hz.2;exact iO.mpr ⟨((sI o.R1 hp.1).2 r1 m1).2 _ k1,((sI o.R2 hp.2).2 r2 m2).2 _ k2⟩
theorem LV:∀l1 l2:List Tx,(∀r∈l1,r.length=w)->(∀r∈l2,r.length=w)->l1.length=l2.length->((l1.zip l2).flatMap λx=>x.1.zip x.2)=l1.flatten.zip l2.flatten|[],[],_,_,_=>rfl|[],_::_,_,_,h=>by simp at h|_::_,[],_,_,h=>by simp at h|a::l1,b::l2,h1,h2,h=>by rw[Uf,List.flatMap_cons,LV l1 l2 (λr hr=>h1 r (Wf _ hr)) (λr hr=>h2 r (Wf _ hr)) (~~~h),List.flatten_cons,List.flatten_cons,List.zip_append (by rw[h1 a Wi,h2 b Wi])]
abbrev A_:DI:=jF (au cE (aE cZ (ae (au ag (af ag 0 1#0) 1#2))) (ae (af ag 6 1#0))) (au cE (aE cZ (ae (au ag (af ag 1 1#0) 1#2))) (ae (af ag 6 1#1)))
theorem qam{p1 p2 D1 D2 a b:D}{l1 l2:List D}(o4 o5:Option S)(o7 o8 o9:Option S)(x1:ag r1 (.int 2)=0#T1)(x2:ag r2 (.int 2)=0#T2)(d1:cZ T1=some (.own D1))(d2:cZ T2=some (.own D2))(y1:cE D1 a=0#(.tup l1))(y2:cE D2 b=0#(.tup l2)):A_ (bR (aJ r1 f1 p1) (aJ r2 f2 p2) C t o4 o5 0#(.tup [a,b]) o7 o8 o9)=.ok (kW l1 l2) (bR (aJ r1 f1 p1) (aJ r2 f2 p2) C t o4 o5 0#(.tup [a,b]) o7 o8 o9):=by have z1:ag (aJ r1 f1 p1) (.int 0)=0#r1:=rfl;have z2:ag (aJ r2 f2 p2) (.int 0)=0#r2:=rfl;have w1:ag (.tup [a,b]) (.int 0)=0#a:=rfl;have w2:ag (.tup [a,b]) (.int 1)=0#b:=rfl;unfold bR;generalize aJ r1 f1 p1=P1 at*;generalize aJ r2 f2 p2=P2 at*;generalize D.tup [a,b]=Q at*;generalize t.map aj=TT at*;simp[A_,jF,au,af,bW,aq,S.d,x1,x2,d1,d2,y1,y2,z1,z2,w1,w2,kY]
abbrev LW:DS:=ar (az (af ag 3 (aq 5)) (ah [] 6)) (ar (bM A_ (cg 2 (aS (ah [] 7) (aS (ah [] 8) cx))) (bM (jF (aa 7) (aa 8)) (ah [] 9) (aX (aA (au (gk true) (aa 9) (aq 3))) (cO 3 (aa 9)) aW))) (oH [] 5 3#1))
theorem zfG(o:Bo H W B1 B2){p1 p2:D}(ht:Nd o.U t){x:Pt}(hx:t[m]?=some x)(o4 o6 o7 o8 o9:Option S):∃Ba sG sH k_,LW (bR (aJ (aC H W B1) f1 p1) (aJ (aC H W B2) f2 p2) C t o4 0#(.int (m:Int)) o6 o7 o8 o9)=.ok .next (bR (aJ (aC H W B1) f1 p1) (aJ (aC H W B2) f2 p2) C (cn t (kids B1 B2 x)) o4 0#(.int ((m+1:Nat):Int)) Ba sG sH k_):=by
 have LX:=ht.2 x (Wz hx);have v_:=iO.mp LX;have e0:ag (.lst (t.map aj)) (.int (m:Int))=0#(aj x):=by simp only[ag];rw[jE,Ws,hx];rfl
 have s1:az (af ag 3 (aq 5)) (ah [] 6) (bR (aJ (aC H W B1) f1 p1) (aJ (aC H W B2) f2 p2) C t o4 0#(.int (m:Int)) o6 o7 o8 o9)=.ok .next (bR (aJ (aC H W B1) f1 p1) (aJ (aC H W B2) f2 p2) C t o4 0#(.int (m:Int)) 0#(aj x) o7 o8 o9):=by unfold bR;generalize aJ (aC H W B1) f1 p1=P1;generalize aJ (aC H W B2) f2 p2=P2;generalize aj x=X at*;simp[az,af,bW,aq,S.d,e0]
 have b1:=sI o.R1 v_.1;have b2:=sI o.R2 v_.2;have it:=qam (f1:=f1) (f2:=f2) (p1:=p1) (p2:=p2) (C:=C) (t:=t) o4 0#(.int (m:Int)) o7 o8 o9 (jL H W B1).2.2 (jL H W B2).2.2 (sh o.R1) (sh o.R2) (si v_.1) (si v_.2);rw[v3]at it;have kd:((bE B1 x.1).zip (bE B2 x.2)).flatMap (λy=>y.1.zip y.2)=kids B1 B2 x:=LV (w:=W) _ _ (λr hr=>(b1.2 r hr).1) (λr hr=>(b2.2 r hr).1) Y';obtain⟨a,b,c,e2⟩:=LR (A:=aJ (aC H W B1) f1 p1) (B:=aJ (aC H W B2) f2 p2) (C:=C) o.len ((bE B1 x.1).zip (bE B2 x.2)) (λy hy q hq=>o.LU x LX q (by rw[<-kd];exact List.mem_flatMap.mpr ⟨y,hy,hq⟩)) ht o4 0#(.int (m:Int)) 0#(aj x) o7 o8 o9;rw[kd]at e2;have s3:oH [] 5 3#1 (bR (aJ (aC H W B1) f1 p1) (aJ (aC H W B2) f2 p2) C (cn t (kids B1 B2 x)) o4 0#(.int (m:Int)) 0#(aj x) a b c)=.ok .next (bR (aJ (aC H W B1) f1 p1) (aJ (aC H W B2) f2 p2) C (cn t (kids B1 B2 x)) o4 0#(.int ((m+1:Nat):Int)) 0#(aj x) a b c):=by unfold bR;generalize aJ (aC H W B1) f1 p1=P1;generalize aJ (aC H W B2) f2 p2=P2;generalize aj x=X;generalize(cn t (kids B1 B2 x)).map aj=TT;simp[oH,S.d]
 exact⟨_,_,_,_,(bL s1).trans ((bL ((dB it).trans e2)).trans s3)⟩
abbrev LY:DT:=aA (af jx 5 (ae (aE br (aq 3))))
theorem zfD(hl:t.length<=1000)(o4 o6 o7 o8 o9:Option S):LY (bR A B C t o4 0#(.int (m:Int)) o6 o7 o8 o9)=.ok (decide (m<t.length)) (bR A B C t o4 0#(.int (m:Int)) o6 o7 o8 o9):=by
 have e:=LF (t.map aj) (~~~hl);rw[Wd]at e;have e2:=lt_int (m:Int) (t.length:Int);have e3:decide ((m:Int)<(t.length:Int))=decide (m<t.length):=by rw[Qu,decide_eq_true_eq,decide_eq_true_eq];lia
 rw[e3]at e2;unfold bR;generalize D.lst (t.map aj)=TT at*;clear e3;revert e2;generalize decide (m<t.length)=bb;intro e2;cases bb<;>simp[aA,af,bW,aq,S.d,e,e2]
theorem LZ(o:Bo H W B1 B2){p1 p2:D}:∀(n m:Nat)(t:List Pt),Wk (kids B1 B2) o.U t0 t m->o.U.length+1<=n+m->∀(o4 o6 o7 o8 o9:Option S),∃(fin:List Pt)(o5' Ba sG sH k_:Option S),gi LY LW n (bR (aJ (aC H W B1) f1 p1) (aJ (aC H W B2) f2 p2) C t o4 0#(.int (m:Int)) o6 o7 o8 o9)=.ok .next (bR (aJ (aC H W B1) f1 p1) (aJ (aC H W B2) f2 p2) C fin o4 o5' Ba sG sH k_)/\Wk (kids B1 B2) o.U t0 fin fin.length
 |0,m,t,w,h,_,_,_,_,_=>by have:=Nd.len ⟨w.nd,w.sub⟩;have:=w.le;lia|n+1,m,t,w,h,o4,o6,o7,o8,o9=>by
  have hl:=Nd.len ⟨w.nd,w.sub⟩;have hU:=o.len;have ts:=zfD (A:=aJ (aC H W B1) f1 p1) (B:=aJ (aC H W B2) f2 p2) (C:=C) (t:=t) (m:=m) Y' o4 o6 o7 o8 o9;by_cases hm:m<t.length;.rw[decide_eq_true hm]at ts;obtain⟨x,hx⟩:∃x,t[m]?=some x:=⟨t[m],W4 hm⟩;obtain⟨a,b,c,d,e⟩:=zfG o (f1:=f1) (f2:=f2) (p1:=p1) (p2:=p2) (C:=C) ⟨w.nd,w.sub⟩ hx o4 o6 o7 o8 o9;rw[z9o ts e];exact LZ o n (m+1) _ (w.step o.LU hx) Y' o4 a b c d
  .rw[decide_eq_false hm]at ts;have:m=t.length:=by have:=w.le;lia
   subst this;exact⟨t,_,_,_,_,_,zad ts,w⟩
abbrev du(p:Pt):List Tx:=[[p.1],[p.2]]
abbrev pC(p q:Pt):Bool:=ltL (du p) (du q)
def iP(ps:List Pt):Prop:=ps.Pairwise λp q=>pC p q=true
theorem zg5{p q:Pt}(h:du p=du q):p=q:=by obtain⟨a,b⟩:=p;obtain⟨c,d⟩:=q;simpa[du]using h
theorem sJ(ps:List Pt):ps.map aj=(ps.map du).map iI:=by rw[WU];rfl
theorem L5(nd:t.Nodup)(hl:t.length<=1000):∃qs:List Pt,qs.Perm t/\iP qs/\jI (.lst (t.map aj))=some (.own (.lst (qs.map aj))):=by
 obtain⟨qs,p,e⟩:=Lake.SM.y6 du (zc (t.map du)) t rfl;refine⟨qs,p,?_,?_⟩;.have u:=G3 (t.map du);rw[e,Qr]at u;have oF:qs.Nodup:=p.nodup_iff.mpr nd;have:=u.and oF;refine this.imp λ{a b}h=>?_;show ltL (du a) (du b)=true;cases bh:ltL (du a) (du b)with|true=>rfl|false=>exact absurd (zg5 (y_ _ _ bh h.1)) h.2
 .rw[sJ,zh λk hk=>by obtain⟨x,_,rfl⟩:=WA.mp hk;simp (by rw[Wd];lia),e,sJ]
theorem wa(h:iP ps):ps.Nodup:=List.Pairwise.imp (λ{a b}h e=>by subst e;have:=nB _ _ h;have h:ltL (du a) (du a)=true:=h;rw[h]at this;cases this) h
theorem L6(h1:iP ps)(h2:iP qs)(p:ps.Perm qs):ps=qs:=List.Perm.eq_of_pairwise (le:=λa b=>pC a b=true) (λa b j j h1 h2=>by have:=nB _ _ h1;have h2:ltL (du b) (du a)=true:=h2;rw[h2]at this;cases this) h1 h2 p
theorem qan(hC:C=.lst (ps.map aj)\/C=.tup (ps.map aj)):a7 (aa 2) (bR A B C [] none none none none none none)=.ok (ps.map aj) (bR A B C [] none none none none none none):=by rcases hC with rfl|rfl<;>simp[k8,aa,S.d]
theorem zhr(e:jI (.lst (t.map aj))=some (.own (.lst (qs.map aj))))(o4 o5 o6 o7 o8 o9:Option S):aI (aE jI (aq 3)) (bR A B C t o4 o5 o6 o7 o8 o9)=.ok (.ret (.own (.lst (qs.map aj)))) (bR A B C t o4 o5 o6 o7 o8 o9):=by unfold bR;generalize D.lst (t.map aj)=T at*;simp[aq,S.d,e]
theorem Bb(o:Bo H W B1 B2){p1 p2:D}(hp:∀q∈ps,q∈o.U)(hC:C=.lst (ps.map aj)\/C=.tup (ps.map aj)):∃qs:List Pt,iP qs/\(∀x∈qs,x∈o.U)/\(∀x∈qs,∀q∈kids B1 B2 x,q∈qs)/\(∀x∈ps,x∈qs)/\(ps.Nodup->(∀x∈ps,∀q∈kids B1 B2 x,q∈ps)->qs.Perm ps)/\ki [.pure (aJ (aC H W B1) f1 p1),.pure (aJ (aC H W B2) f2 p2),.pure C]=some (.own (.lst (qs.map aj)),[.pure (aJ (aC H W B1) f1 p1),.pure (aJ (aC H W B2) f2 p2),.pure C]):=by
 have hU:=o.len;obtain⟨o4',e1,n1⟩:=zfF (A:=aJ (aC H W B1) f1 p1) (B:=aJ (aC H W B2) f2 p2) (C:=C) (U:=o.U) hU ps hp (t:=[]) ⟨.nil,λx hx=>by simp at hx⟩ none none none none none none;have w0:Wk (kids B1 B2) o.U (cn [] ps) (cn [] ps) 0:=⟨n1.1,n1.2,⟨[],V'⟩,Q6 _,λi x hi=>by lia,λj=>rfl⟩;obtain⟨fin,o5,o6,o7,o8,o9,e2,w⟩:=LZ o (f1:=f1) (f2:=f2) (p1:=p1) (p2:=p2) (C:=C) 1000000 0 _ w0 Y' o4' none none none none;have hl:=Nd.len ⟨w.nd,w.sub⟩;obtain⟨qs,pm,ri,e3⟩:=L5 w.nd Y';have cl:=w.closed (W7 _);refine⟨qs,ri,λx hx=>w.sub x (pm.mem_iff.mp hx),λx hx q hq=>pm.mem_iff.mpr (cl x (pm.mem_iff.mp hx) q hq),λx hx=>?_,λnd c=>?_,?_⟩;.obtain⟨r,er⟩:=w.pre;refine pm.mem_iff.mpr ?_;rw[er];exact Jr _ ((se _ _ _).mpr (.inr hx))
 .have e0:cn [] ps=ps:=by have:=KI [] (ps:=ps) (~~~nd);simpa using this
  have:=w.id %[e0|c];rw[e0]at this;rw[this]at pm;exact pm
 .have s0:az (cC aF) (ah [] 3) [0#(aJ (aC H W B1) f1 p1),0#(aJ (aC H W B2) f2 p2),0#C,none,none,none,none,none,none,none]=.ok .next (bR (aJ (aC H W B1) f1 p1) (aJ (aC H W B2) f2 p2) C [] none none none none none none):=by unfold bR;generalize aJ (aC H W B1) f1 p1=P1;generalize aJ (aC H W B2) f2 p2=P2;simp[az,S.d]
  have s2:az 3#0 (ah [] 5) (bR (aJ (aC H W B1) f1 p1) (aJ (aC H W B2) f2 p2) C (cn [] ps) o4' none none none none none)=.ok .next (bR (aJ (aC H W B1) f1 p1) (aJ (aC H W B2) f2 p2) C (cn [] ps) o4' 0#(.int ((0:Nat):Int)) none none none none):=by unfold bR;generalize aJ (aC H W B1) f1 p1=P1;generalize aJ (aC H W B2) f2 p2=P2;generalize(cn [] ps).map aj=T;simp[az,S.d]
  rw[ki,IQ];exact km ((bL s0).trans ((bL ((dB (qan hC)).trans e1)).trans ((bL s2).trans ((bL e2).trans (zhr e3 _ _ _ _ _ _)))))
def El(e:D):Prop:=(∃x:Tx,e=.str x/\x.length<=64)\/gA "str" e=some false
def kn(d:D):Prop:=gA "tuple" d=some false\/∃es,d=.tup es/\∀e∈es,El e
def Th(d:D):Prop:=gA "tuple" d=some false\/∃ds,d=.tup ds/\ds.length<=1000/\∀e∈ds,kn e
noncomputable def two:D->Bool|.tup es=>es.length==2|_=>false
theorem L7(h:es.length=2):∃l r,es=[l,r]:=by match es,h with|[l,r],_=>exact⟨l,r,rfl⟩
theorem fY{T:String}{d:D}{b:Bool}(h:Z[i]?=some 0#d)(e:gA T d=some b):fk T (aq i) Z=.ok (.pure (.bl b)) Z:=by simp[fk,aq,h,S.d,e]
abbrev u6(A B C:D)(o3 o4 o5:Option S):Dl:=[pS A,pS B,pS C,o3,o4,o5]
theorem wb{α:Type}(xs:List α)(p:α->Bool):gQ (.lst (xs.map λn=>.bl (p n)))=0#(.bl (xs.all p)):=by
 have e:(xs.map λn=>D.bl (p n))=(xs.map p).map D.bl:=by simp
 unfold gQ;simp only[e,FE,WM];simp[JP,Function.comp_def]
theorem g_{x:Bool}(h:f Z=.ok (.pure (.bl x)) S'):cR (aA f) Z=.ok (!x) S':=#v[aA,h]
theorem hJ{t:DT}{x:Bool}(h:t Z=.ok false S')(k:u S'=.ok x SL):dg t u Z=.ok x SL:=#v[h,k]
theorem nW{t:DT}(h:t Z=.ok true S'):dg t u Z=.ok true S':=#v[h]
theorem hV{p:Prop}(h:p:=by exists "kb;Hk bU aA az au af bW aa aq fk KL cg aS cx S.d ay bB cP cD bS bp aE gy zr",_,_,_<;>rfl):p:=h
theorem wc{b:DS}(P:Prop)(I:List D->Dl->Prop)(hs:∀d rs Z,I (d::rs) Z->∃S',g (.pure d) Z=some S'/\((¬P/\∃SL,b S'=.ok (.ret (.pure (.bl false))) SL)\/∃SL,b S'=.ok .next SL/\I rs SL)):∀ds Z,I ds Z->(¬P/\∃SZ,forL g b ds Z=.ok (.ret (.pure (.bl false))) SZ)\/∃SZ,forL g b ds Z=.ok .next SZ/\I [] SZ
 |[],Z,h=>.inr ⟨Z,rfl,h⟩|d::rs,Z,h=>by
  obtain⟨S',e1,⟨np,SL,e2⟩|⟨SL,e2,h2⟩⟩:=hs d rs Z h;.exact .inl ⟨np,SL,iL e1 e2⟩
  .rw[jg e1 e2];exact wc P I hs rs SL h2
abbrev pD(G:DF)(as:List S)(P:Prop):Prop:=∃b,G as=some (.pure (.bl b),as)/\(b=true↔P)
theorem pD.no{P:Prop}(h:G as=some (.pure (.bl false),as))(n:¬P):pD G as P:=⟨false,h,nofun,λp=>(n p).elim⟩
theorem L8(i j:Int):∃b,lQ (.int i) (.int j)=pS (.bl b)/\Hid (b=true↔i<=j):=⟨_,rfl,decide_eq_true_iff⟩
theorem hZ(i j:Int):∃b,fV (.int i) (.int j)=pS (.bl b)/\Hid (b=false↔i=j):=by obtain⟨b,e,h⟩:=KQ i j;exact⟨!i==j,rfl,by show _↔_;simp⟩
theorem qao{it:D}(h:kn it):(gy (fk "tuple" (aq 5)) (au bo (aE br (aq 5)) 1#2)) (u6 A B C none none (pS it))=.ok (.pure (.bl (two it))) (u6 A B C none none (pS it)):=by
 rcases h with t|⟨es,rfl,_⟩;.rw[show two it=false by cases it<;>first|rfl|cases t];exact hV
 .have t:gA "tuple" (.tup es)=some true:=rfl;have ln:br (.tup es)=pS (.int es.length):=rfl;have e:bo (.int (es.length:Int)) (.int 2)=pS (.bl (two (.tup es))):=by rw[nO,show two (.tup es)=(es.length==2)from rfl];congr 3;rw[Qu];simp;lia
  generalize two (.tup es)=b at*;exact hV
abbrev qap:DT:=dg (cR (aA (fk "tuple" (aq 2)))) (cR (aA (aE gQ (ae (bI [5] (a7 (aa 2)) (ah [] 5) cA (gy (fk "tuple" (aq 5)) (au bo (aE br (aq 5)) 1#2)))))))
theorem qaq(hl:ds.length<=1000)(h:∀e∈ds,kn e):qap (u6 A B (.tup ds) none none none)=.ok (!ds.all two) (u6 A B (.tup ds) none none none):=by have c:=cS (j:=5) (np:=[]) (it:=a7 (aa 2)) (λd:D=>d) (λd=>.bl (two d)) (N1:=u6 A B (.tup ds) none none none) (as:=ds) (by rw[List.map_id'];rfl) hl λd hd=>qao (A:=A) (B:=B) (C:=.tup ds) (h d hd);exact hJ (g_ (x:=true) (fY rfl rfl)) (g_ (nN c (wb ds two)))
def GP(t1 t2:List Nat)(ds:List D):Prop:=∃ps:List Pt,ds=ps.map aj/\∀p∈ps,p∈jh t1 t2
theorem zgE{d:D}:GP t1 t2 (d::r)↔(∃a∈t1,∃b∈t2,d=.tup [sD a,sD b])/\GP t1 t2 r:=by refine⟨λ⟨ps,e,h⟩=>?_,λ⟨⟨a,ha,b,hb,e⟩,ps,e2,h⟩=>⟨(a,b)::ps,by rw[e,e2];rfl,λp hp=>(Wq.mp hp).elim (λz=>z▸iO.mpr ⟨ha,hb⟩) (h p)⟩⟩;match ps,e with|(a,b)::ps,e=>injection e with e1 e2;have m:=iO.mp (h _ (.head _));exact⟨⟨a,m.1,b,m.2,e1⟩,ps,e2,λp hp=>h p (.tail _ hp)⟩
theorem zjc(ts:List Nat):(ts.map da).all (flat 49)=true:=by rw[JP,WW];intro p _;rfl
theorem qar(ts:List Nat)(x:Tx):∃b,gH true (.str x) (.lst (ts.map da))=pS (.bl b)/\(b=false↔∃a∈ts,x=[a]):=by simp only[gH,gk];rw[zjc];refine⟨!(ts.map da).any λe=>aU e (.str x),rfl,?_⟩;rw[Bool.not_eq_false',Uq];refine⟨λ⟨_,h,e⟩=>?_,λ⟨a,h,e⟩=>⟨_,Jc h,by subst e;simp[aU]⟩⟩;obtain⟨a,h',rfl⟩:=WA.mp h;exact⟨a,h',(by simpa[aU]using e:[a]=x).symm⟩
def Bc(o3 o4:Option S):Prop:=o3=none/\o4=none\/∃l r,o3=pS l/\o4=pS r
abbrev Be(i j:Nat):DT:=dg (cR (aA (fk "str" (aq i)))) (aA (au (gH true) (aa i) (ae (ay eF [.val (af ag j 1#0)]))))
abbrev Bf:DS:=ar (aX (Be 3 0) (aI (eD (.bl false))) aW) (aX (Be 4 1) (aI (eD (.bl false))) aW)
theorem L9{P:D}(g:eF [.pure ru]=some (.own (.lst (ts.map da)),[.pure ru]))(hP:Z[j]?=some (pS P))(z:ag P (.int 0)=pS ru)(hx:Z[i]?=some (pS x))(h:El x):∃b,Be i j Z=.ok b Z/\(b=false↔∃a∈ts,x=sD a):=by
 rcases h with⟨x,rfl,_⟩|t;.obtain⟨b,e,hb⟩:=qar ts x;refine⟨b,hJ (g_ (x:=true) (fY hx rfl)) ?_,by rw[hb];simp⟩;generalize D.lst (ts.map da)=T at*;simp[aA,au,af,bW,aa,aq,hx,hP,S.d,ay,bB,cP,cD,bS,bp,g,z,e]
 .exact⟨true,nW (g_ (x:=false) (fY hx t)),nofun,λ⟨a,_,e⟩=>by rw[e]at t;cases t⟩
theorem zgK{p1 p2:D}(g1:eF [.pure r1]=some (.own (.lst (t1.map da)),[.pure r1]))(g2:eF [.pure r2]=some (.own (.lst (t2.map da)),[.pure r2]))(hd:∀e∈ds,kn e)(h2:ds.all two=true):(¬GP t1 t2 ds/\∃SZ,forL (cg 2 (aS (ah [] 3) (aS (ah [] 4) cx))) Bf ds (u6 (aJ r1 f1 p1) (aJ r2 f2 p2) C none none none)=.ok (.ret (.pure (.bl false))) SZ)\/∃SZ,forL (cg 2 (aS (ah [] 3) (aS (ah [] 4) cx))) Bf ds (u6 (aJ r1 f1 p1) (aJ r2 f2 p2) C none none none)=.ok .next SZ/\GP t1 t2 ds/\∃o3 o4,Bc o3 o4/\SZ=u6 (aJ r1 f1 p1) (aJ r2 f2 p2) C o3 o4 none:=by
 have f:=wc (g:=cg 2 (aS (ah [] 3) (aS (ah [] 4) cx))) (b:=Bf) (GP t1 t2 ds) (λrs Z=>(GP t1 t2 rs↔GP t1 t2 ds)/\(∀e∈rs,kn e/\two e=true)/\∃o3 o4,Bc o3 o4/\Z=u6 (aJ r1 f1 p1) (aJ r2 f2 p2) C o3 o4 none) (λd rs Z hh=>by
 obtain⟨hp,hi,o3,o4,_,e⟩:=hh
 subst e;rw[zgE]at hp;obtain⟨hit,ht⟩:=hi d (.head _);rcases hit with z|⟨es,rfl,he⟩;.cases d<;>first|(cases ht;done)|(cases z;done)
 obtain⟨l,r,rfl⟩:=L7 (by simpa[two]using ht);refine⟨u6 (aJ r1 f1 p1) (aJ r2 f2 p2) C (pS l) (pS r) none,rfl,?_⟩;obtain⟨b,e,hb⟩:=L9 (i:=3) (j:=0) (Z:=u6 (aJ r1 f1 p1) (aJ r2 f2 p2) C (pS l) (pS r) none) g1 rfl rfl rfl (he l (.head _));obtain⟨c,k,hc⟩:=L9 (i:=4) (j:=1) (Z:=u6 (aJ r1 f1 p1) (aJ r2 f2 p2) C (pS l) (pS r) none) g2 rfl rfl rfl (he r (.tail _ (.head _)));have e:=eX (a:=aI (eD (.bl false))) (b:=aW) e;have k:=eX (a:=aI (eD (.bl false))) (b:=aW) k;cases b with|true=>exact .inl ⟨λz=>(hp.mpr z).1.elim λa⟨ha,b,_,e⟩=>(by cases e;exact nomatch hb.mpr ⟨a,ha,rfl⟩),_,fK e⟩|false=>cases c with|true=>exact .inl ⟨λz=>(hp.mpr z).1.elim λa⟨_,b,h,e⟩=>(by cases e;exact nomatch hc.mpr ⟨b,h,rfl⟩),_,(bL e).trans k⟩|false=>obtain⟨a,ha,rfl⟩:=hb.mp rfl;obtain⟨b,h,rfl⟩:=hc.mp rfl;exact .inr ⟨_,(bL e).trans k,.trans ⟨λz=>⟨⟨a,ha,b,h,rfl⟩,z⟩,λz=>z.2⟩ hp,λe he=>hi e (.tail _ he),_,_,.inr ⟨_,_,rfl,rfl⟩,rfl⟩) ds (u6 (aJ r1 f1 p1) (aJ r2 f2 p2) C none none none) ⟨.rfl,λe he=>⟨hd e he,WW.mp h2 e he⟩,none,none,.inl ⟨rfl,rfl⟩,rfl⟩;rcases f with f|⟨SZ,e,hp,_,h⟩;.exact .inl f
 .exact .inr ⟨SZ,e,hp.mp ⟨[],rfl,nofun⟩,h⟩
theorem L_(v:D):∀ps:List Pt,kh (ps.map λp=>.tup [aj p,v])=some (ps.map λp=>(aj p,v))|[]=>rfl|p::r=>by have e:(gE true (aj p)&&(cL 6 (aj p)).isSome)=true:=rfl;show(if(gE true (aj p)&&(cL 6 (aj p)).isSome)=true then(kh (r.map λp=>.tup [aj p,v])).map ((aj p,v)::.)else none)=_;rw[if_pos e,L_ v r];rfl
theorem Ma(v:D)(t:List Pt)(q:Pt):((t.map λp=>(aj p,v)).any λz=>aU z.1 (aj q))=decide (q∈t):=by rw[<-A9,List.any_map,List.any_map];rfl
theorem zg0(v:D)(t:List Pt)(q:Pt):ny (t.map λp=>(aj p,v)) (aj q) v=(dR t q).map λp=>(aj p,v):=by
 unfold ny dR;rw[Ma];by_cases h:q∈t;.rw[if_pos (~~~h),if_pos h,WU];apply JA;intro p _;simp
 .rw[if_neg (~~~h),if_neg h,WN];rfl
theorem Mb(v:D):∀(ps t:List Pt),oV (ps.map λp=>(aj p,v)) (t.map λp=>(aj p,v))=(cn t ps).map λp=>(aj p,v)|[],t=>rfl|p::r,t=>by show oV (r.map λp=>(aj p,v)) (ny (t.map λp=>(aj p,v)) (aj p) v)=_;rw[zg0,Mb v r];rfl
theorem Mc(v:D)(hl:ps.length<=1000):mn (.lst (ps.map λp=>.tup [aj p,v]))=some (.own (.dic ((cn [] ps).map λp=>(aj p,v)))):=by have hz:W9=16777216:=rfl;simp only[mn];rw[L_,WB,Wd,if_pos Y'];have:=Mb v ps [];rw[List.map_nil]at this;rw[this]
theorem zcx(v:D)(nd:t.Nodup)(hl:t.length<=1000):∃qs:List Pt,qs.Perm t/\iP qs/\nD (.dic (t.map λp=>(aj p,v)))=some (.own (.lst (qs.map aj))):=by
 obtain⟨qs,p,r,e⟩:=L5 nd hl;refine⟨qs,p,r,?_⟩;have h:∀k∈t.map du,k≠[]:=λk hk=>by obtain⟨x,_,rfl⟩:=WA.mp hk;simp
 have e1:=Yw (ps:=t.map λp=>(aj p,v)) (ks:=t.map du) (by rw[WU,WU];rfl) h (by rw[Wd];lia);have e2:=zh h (by rw[Wd];lia);rw[<-sJ]at e2;rw[e1,<-e2];exact e
theorem sL:∀ps qs:List Pt,dO (ps.map aj) (qs.map aj)=decide (ps=qs)|[],[]=>rfl|[],_::_=>rfl|_::_,[]=>rfl|p::ps,q::qs=>by show(aU (aj p) (aj q)&&dO (ps.map aj) (qs.map aj))=_;rw[LN,sL ps qs,Qu];simp
theorem sM(n:Nat):∀ps:List Pt,fU (n+2) (ps.map aj)=true|[]=>rfl|p::r=>by show(flat (n+2) (aj p)&&fU (n+2) (r.map aj))=true;rw[sM n r];rfl
theorem ziB(ps qs:List Pt):fV (.lst (ps.map aj)) (.lst (qs.map aj))=0#(.bl !decide (ps=qs)):=by have f1:fU 49 (ps.map aj)=true:=sM 47 ps;have f2:fU 49 (qs.map aj)=true:=sM 47 qs;have e:=sL ps qs;simp[fV,flat,aU,f1,f2,e]
theorem zjg(ps qs:List Pt):bo (.tup (ps.map aj)) (.tup (qs.map aj))=0#(.bl (decide (ps=qs))):=by have f1:fU 49 (ps.map aj)=true:=sM 47 ps;have f2:fU 49 (qs.map aj)=true:=sM 47 qs;have e:=sL ps qs;simp[bo,flat,aU,f1,f2,e]
theorem zcW(r:iP qs)(p:qs.Perm (cn [] ps)):ps=qs↔iP ps:=by
 refine⟨λh=>h▸r,λh=>?_⟩;have e0:cn [] ps=ps:=by have:=KI [] (ps:=ps) (by simpa using wa h);simpa using this
 rw[e0]at p;exact L6 h r p.symm
theorem qas(a b:Nat):bo (.str [a]) (.str [b])=0#(.bl (decide (a=b))):=by have:((a==b):Bool)=decide (a=b):=rfl;simp[bo,flat,aU,this]
abbrev Md:DE:=au bo (au cE (aE cZ (ae (af ag 0 1#2))) (aq 3)) (ae (au cE (aE cZ (ae (af ag 1 1#2))) (aq 4)))
theorem qat(u1:t1.Pairwise (.<.))(u2:t2.Pairwise (.<.))(l1:t1.length<=26)(l2:t2.length<=26)(P1:jO t1 z1)(P2:jO t2 z2)(x1:ag A (.int 2)=pS (.tup (z1.map aj)))(x2:ag B (.int 2)=pS (.tup (z2.map aj)))(hl:ps.length<=1000)(hp:∀p∈ps,p∈jh t1 t2){o3 o4:Option S}(h:Bc o3 o4):bI [3,4] (a7 (aa 2)) (cg 2 (aS (ah [] 3) (aS (ah [] 4) cx))) cA Md (u6 A B (.tup (ps.map aj)) o3 o4 none)=.ok (.own (.lst (ps.map λp=>.bl (decide (sgn z1 p.1=sgn z2 p.2))))) (u6 A B (.tup (ps.map aj)) o3 o4 none):=by
 have s:∀p∈ps,Md (u6 A B (.tup (ps.map aj)) (pS (sD p.1)) (pS (sD p.2)) none)=.ok (.pure (.bl (decide (sgn z1 p.1=sgn z2 p.2)))) (u6 A B (.tup (ps.map aj)) (pS (sD p.1)) (pS (sD p.2)) none):=λp h=>by have h:=iO.mp (hp p h);have d1:=sA u1 l1 P1;have d2:=sA u2 l2 P2;have y1:=(sC P1 h.1).1;have y2:=(sC P2 h.2).1;have e:=qas (sgn z1 p.1) (sgn z2 p.2);generalize D.tup (z1.map aj)=Z1,D.tup (z2.map aj)=Z2,mE z1=D1,mE z2=D2,D.tup (ps.map aj)=T at*;exact hV
 rcases h with⟨rfl,rfl⟩|⟨l,r,rfl,rfl⟩<;>exact cM (f:=aj) (λp=>.bl (decide (sgn z1 p.1=sgn z2 p.2))) rfl hl λp hp=>⟨u6 A B (.tup (ps.map aj)) (pS (sD p.1)) (pS (sD p.2)) none,_,_,_,rfl,rfl,s p hp,rfl,rfl⟩
structure Cn(H W:Nat)(B1 B2:8#0)(n1 n2:Nat)(z1 z2:List Pt):Prop where
 o:Bo H W B1 B2
 f1:n1∈B1.map (·.1)f2:n2∈B2.map (·.1)P1:jO (B1.map (·.1)) z1
 P2:jO (B2.map (·.1)) z2
def Bg(B1 B2:8#0)(n1 n2:Nat)(z1 z2:List Pt)(d:D):Prop:=∃ps:List Pt,d=.tup (ps.map aj)/\(∀p∈ps,p∈jh (B1.map (·.1)) (B2.map (·.1)))/\iP ps/\(n1,n2)∈ps/\(∀p∈ps,sgn z1 p.1=sgn z2 p.2)/\∀p∈ps,∀q∈kids B1 B2 p,q∈ps
theorem Me(h:ps.map aj=qs.map aj):ps=qs:=by have e:=sL ps qs;rw[h,sL]at e;simp at e;exact e
theorem Mf(ds:List D)(o3 o4 o5:Option S):a7 (aa 2) (u6 A B (.tup ds) o3 o4 o5)=.ok ds (u6 A B (.tup ds) o3 o4 o5):=rfl
theorem qau{n1 n2:Nat}(c:Cn H W B1 B2 n1 n2 z1 z2){d:D}(hd:Th d):pD pq [.pure (aP H W B1 n1 z1),.pure (aP H W B2 n2 z2),.pure d] (Bg B1 B2 n1 n2 z1 z2 d):=by
 have o:=c.o;have l1:(B1.map (·.1)).length<=26:=%[Wd|o.R1.n1];have l2:(B2.map (·.1)).length<=26:=%[Wd|o.R2.n1];unfold pq IT;rcases hd with t|⟨ds,rfl,hl,hi⟩;.exact .no (km (fK (eX (nW (g_ (x:=false) (fY rfl t)))))) λ⟨ps,e,_⟩=>by rw[e]at t;cases t
 have s1:=eX (a:=aI (eD (.bl false))) (b:=aW) (qaq (A:=aP H W B1 n1 z1) (B:=aP H W B2 n2 z2) hl hi);cases h2:ds.all two with|false=>rw[h2]at s1;refine .no (km (fK s1)) λ⟨ps,e,_⟩=>?_;cases e;simp[two]at h2|true=>
  rw[h2]at s1;rcases zgK (f1:=sD n1) (p1:=.tup (z1.map aj)) (f2:=sD n2) (p2:=.tup (z2.map aj)) (C:=.tup ds) (mB o.R1) (mB o.R2) hi h2 with⟨no,SZ,e⟩|⟨SZ,e,⟨ps,rfl,hg⟩,o3,o4,h34,rfl⟩;.exact .no (km ((bL s1).trans (fK ((dB (Mf ds none none none)).trans e)))) λ⟨ps,e,hg,_⟩=>no ⟨ps,D.tup.inj e,hg⟩
  .have hl:ps.length<=1000:= ~~~hl;have mF:∀{Q:List Pt->Prop},(∃qs:List Pt,D.tup (ps.map aj)=.tup (qs.map aj)/\Q qs)->Q ps:=λ⟨qs,e,h⟩=>Me (D.tup.inj e)▸h;have nd:(cn [] ps).Nodup:=KH ps [] .nil;obtain⟨qs,pm,ri,es⟩:=zcx (.int 1) nd (Wy (List.Nodup.length_le_of_subset nd λx hx=>by simpa using(se ps [] x).mp hx) hl);have ck:=nN (nN (cS (j:=5) (np:=[]) (it:=a7 (aa 2)) (el:=aO (ao (aa 5) (ao 3#1 aF))) aj (λp=>.tup [aj p,.int 1]) (N1:=u6 (aP H W B1 n1 z1) (aP H W B2 n2 z2) (.tup (ps.map aj)) o3 o4 none) rfl hl λk k=>rfl) (Mc (.int 1) hl)) es;have ne:=ziB ps qs;have ig:gH true (.tup [sD n1,sD n2]) (.tup (ps.map aj))=_:=LP ps (n1,n2);have c4:=eX (a:=aI (eD (.bl false))) (b:=aW) (g_ (nN (qat (A:=aP H W B1 n1 z1) (B:=aP H W B2 n2 z2) o.R1.up o.R2.up l1 l2 c.P1 c.P2 rfl rfl hl hg h34) (wb ps λp:Pt=>decide (sgn z1 p.1=sgn z2 p.2))));obtain⟨rs,q1,q2,q3,q4,q5,q6⟩:=Bb o (f1:=sD n1) (f2:=sD n2) (p1:=.tup (z1.map aj)) (p2:=.tup (z2.map aj)) (C:=.tup (ps.map aj)) hg (.inr rfl);have e5:=zjg rs ps;have t5:dh (.lst (rs.map aj))=pS (.tup (rs.map aj)):=rfl;have s2:=(dB (Mf (A:=aP H W B1 n1 z1) (B:=aP H W B2 n2 z2) (ps.map aj) none none none)).trans e;have e0:=zcW ri pm;have t1:=fO (df (p:=fV) (f:=aE qC (aq 2)) (x:=.own (.lst (ps.map aj))) (Z:=u6 (aP H W B1 n1 z1) (aP H W B2 n2 z2) (.tup (ps.map aj)) o3 o4 none) rfl (dt ck) ne);have t2:=fO (df (p:=gH true) (f:=aO (ao (af ag 0 1#1) (ao (af ag 1 1#1) aF))) (g:=aq 2) (Z:=u6 (aP H W B1 n1 z1) (aP H W B2 n2 z2) (.tup (ps.map aj)) o3 o4 none) rfl rfl ig);have k5:aE dh (ae (ay ki [.val (aa 0),.val (aa 1),.val (aa 2)])) (u6 (aP H W B1 n1 z1) (aP H W B2 n2 z2) (.tup (ps.map aj)) o3 o4 none)=.ok (.pure (.tup (rs.map aj))) (u6 (aP H W B1 n1 z1) (aP H W B2 n2 z2) (.tup (ps.map aj)) o3 o4 none):=by have q6:ki [.pure (aP H W B1 n1 z1),.pure (aP H W B2 n2 z2),.pure (.tup (ps.map aj))]=_:=q6;clear ck t1 t2 c4 s1 s2 ig ne e0 es;generalize aP H W B1 n1 z1=P,aP H W B2 n2 z2=P',D.tup (ps.map aj)=T,D.tup (rs.map aj)=T',D.lst (rs.map aj)=L at*;exact hV
   by_cases hq:ps=qs
   .rw[decide_eq_true hq]at t1;by_cases hm:(n1,n2)∈ps;.rw[decide_eq_true hm]at t2;have s3:=eX (a:=aI (eD (.bl false))) (b:=aW) (hJ t1 t2);cases h4:ps.all λp=>decide (sgn z1 p.1=sgn z2 p.2)with|false=>rw[h4]at c4;refine .no (km ((bL s1).trans ((bL s2).trans ((bL s3).trans (fK c4))))) λh=>?_;rw[List.all_eq_true.mpr λp hp=>decide_eq_true ((mF h).2.2.2.1 p hp)]at h4;cases h4|true=>rw[h4]at c4;refine⟨_,km ((bL s1).trans ((bL s2).trans ((bL s3).trans ((bL c4).trans (rt (df k5 (g:=aq 2) rfl e5)))))),?_⟩;rw[decide_eq_true_eq];refine⟨λh=>?_,λh=>L6 q1 (e0.mp hq) (q5 (wa (e0.mp hq)) (mF h).2.2.2.2)⟩;subst h;exact⟨rs,rfl,hg,e0.mp hq,hm,λp hp=>by simpa using WW.mp h4 p hp,q3⟩
    .rw[decide_eq_false hm]at t2;exact .no (km ((bL s1).trans ((bL s2).trans (fK (eX (hJ t1 t2)))))) λh=>hm (mF h).2.2.1
   .rw[decide_eq_false hq]at t1;exact .no (km ((bL s1).trans ((bL s2).trans (fK (eX (nW t1)))))) λh=>hq (e0.mpr (mF h).2.1)
def sN(n:Nat):Bool:=!decide (([n]:Tx)<[97])&&!decide (([122]:Tx)<[n])
theorem ziG(x y:Tx):lQ (.str x) (.str y)=pS (.bl !decide (y<x)):=rfl
theorem zaM{d:D}(hd:El d):pD rX [.pure d,.pure (.int 1)] (∃a,d=sD a/\97<=a/\a<=122):=by
 unfold rX IF;rcases hd with⟨x,rfl,hx⟩|t;.have t:gA "str" (.str x)=some true:=rfl;have ln:=FF x Y';obtain⟨b1,c1,h1⟩:=L8 1 x.length;obtain⟨b2,c2,h2⟩:=L8 x.length 1;cases b1 with|false=>exact .no (gI (eN hV)) λ⟨a,e,_⟩=>by cases e;exact nomatch h1.2 V'|true=>cases b2 with|false=>exact .no (gI (eN hV)) λ⟨a,e,_⟩=>by cases e;exact nomatch h2.2 V'|true=>have e1:=h1.1 rfl;have e2:=h2.1 rfl;match x,e1,e2 with
 |[a],_,_=>
     have ec:=cS (j:=2) (np:=[]) (it:=a7 (aa 0)) (el:=j0 lQ lQ (eD (.str [97])) (aa 2) (ae (eD (.str [122])))) sD (λn=>.bl (sN n)) (N1:=[pS (sD a),pS (.int 1),none]) (as:=[a]) rfl V' λn k=>by cases h:decide (([n]:Tx)<[97])<;>simp[KL,aa,ziG,h,sN]
     refine⟨sN a,gI (dH (S':=[pS (sD a),pS (.int 1),none]) (x:=.ok _ [pS (sD a),pS (.int 1),none]) ?_ hV),?_⟩;.have e:=wb [a] sN;revert ec e;generalize bI _ _ _ _ _=C;intro ec e;simp at e;simp[ec,e,S.d]
     .simp[sN,VU]
 .exact .no (gI (eN hV)) λ⟨a,e,_⟩=>by rw[e]at t;cases t
theorem Mg{d:D}(hd:El d):pD mx [.pure d] (∃a,d=sD a/\97<=a/\a<=122):=by obtain⟨b,e,h⟩:=zaM hd;unfold mx IG;exact⟨b,sj (S':=[pS d]) hV,h⟩
theorem ziE{a b c:Pt}(h1:pC a b=true)(h2:pC b c=true):pC a c=true:=by have h1:ltL (du a) (du b)=true:=h1;have h2:ltL (du b) (du c)=true:=h2;show ltL (du a) (du c)=true;cases h:ltL (du a) (du c)with|true=>rfl|false=>rw[rq _ _ _ h (nB _ _ h2)]at h1;exact h1
def gK:Option Pt->D|none=>.tup []|some p=>aj p
def Bh:Option Pt->Pt->Bool|none,_=>true|some p,q=>pC p q
theorem zgu(prev:Option Pt)(q:Pt):mr (aj q) (gK prev)=pS (.bl !Bh prev q):=by cases prev<;>rfl
def sO(t1 t2:List Nat)(prev:Option Pt)(ds:List D):Prop:=∃ps:List Pt,ds=ps.map aj/\(∀p∈ps,p∈jh t1 t2)/\iP (prev.toList++ps)
theorem zcV{d:D}:sO t1 t2 prev (d::r)↔∃a b,d=.tup [sD a,sD b]/\a∈t1/\b∈t2/\Bh prev (a,b)=true/\sO t1 t2 (some (a,b)) r:=by
 refine⟨λ⟨ps,e,h,q⟩=>?_,λ⟨a,b,e,h1,h2,l,ps,e2,h,q⟩=>⟨(a,b)::ps,by rw[e,e2];rfl,λp hp=>?_,?_⟩⟩;.match ps,e with
 |(a,b)::ps,e=>
   injection e with e1 e2;have m:=iO.mp (h _ (.head _));have q':iP ((a,b)::ps):=by cases prev;exact q;exact q.of_cons
   exact⟨a,b,e1,m.1,m.2,by cases prev;rfl;exact List.rel_of_pairwise_cons q (.head _),ps,e2,λp hp=>h p (.tail _ hp),q'⟩
 .rcases Wq.mp hp with rfl|hp;.exact iO.mpr ⟨h1,h2⟩
  .exact h p hp
 .cases prev with|none=>exact q|some c=>exact .cons (λx hx=>(Wq.mp hx).elim (λz=>z▸l) λhx=>ziE l (List.rel_of_pairwise_cons q hx)) q
abbrev u4(T C:D)(o2 o3:Option S):Dl:=[pS T,pS C,o2,o3]
theorem zd5(i1:∀n,fZ true (sD n) T1=pS (.bl !t1.contains n))(i2:∀n,fZ true (sD n) T2=pS (.bl !t2.contains n))(L1:∀a∈t1,97<=a/\a<=122)(L2:∀a∈t2,97<=a/\a<=122){d:D}(hd:Th d):pD rY [.pure (.tup [T1,T2]),.pure d] (∃ps:List Pt,d=.tup (ps.map aj)/\(∀p∈ps,p∈jh t1 t2)/\iP ps):=by
 unfold rY IH;rcases hd with t|⟨ds,rfl,hl,hi⟩;.exact .no (gI (eN (eX (g_ (x:=false) (fY rfl t))))) λ⟨ps,e,_⟩=>by rw[e]at t;cases t
 have t:gA "tuple" (.tup ds)=some true:=rfl;have f:=wc (g:=ah [] 3) (b:=ar (aX (dg (cR (aA (fk "tuple" (aq 3)))) (aA (au fV (aE br (aq 3)) 1#2))) (aI (eD (.bl false))) aW) (ar (aX (dg (cR (aA (ay mx [.val (af ag 3 1#0)]))) (dg (cR (aA (ay mx [.val (af ag 3 1#1)]))) (aA (af mr 3 (aq 2))))) (aI (eD (.bl false))) aW) (ar (aX (dg (aA (au (fZ true) (af ag 3 1#0) (ae (af ag 0 1#0)))) (aA (au (fZ true) (af ag 3 1#1) (ae (af ag 0 1#1))))) (aI (eD (.bl false))) aW) (az (aa 3) (ah [] 2))))) (sO t1 t2 none ds) (λrs Z=>∃prev o3,(sO t1 t2 prev rs↔sO t1 t2 none ds)/\(∀e∈rs,kn e)/\Z=u4 (.tup [T1,T2]) (.tup ds) (pS (gK prev)) o3) (λd rs Z hh=>by
 obtain⟨prev,o3,hp,hi,e⟩:=hh
 subst e;refine⟨_,rfl,?_⟩;rw[zcV]at hp;rcases hi d (.head _)with t'|⟨es,rfl,he⟩;.exact .inl ⟨λz=>(hp.mpr z).elim λa⟨b,e,_⟩=>(by rw[e]at t';cases t'),_,eN (eX (nW (g_ (x:=false) (fY rfl t'))))⟩
 have t':gA "tuple" (.tup es)=some true:=rfl;have ln:br (.tup es)=pS (.int es.length):=rfl;obtain⟨b1,c1,h1⟩:=hZ es.length 2;have dn:=fO (df (p:=fV) (Z:=u4 (.tup [T1,T2]) (.tup ds) (pS (gK prev)) (pS (.tup es))) (nS (i:=3) (v:=.pure (.tup es)) rfl ln) (dt (f:=3#2) rfl) c1);cases b1 with|true=>exact .inl ⟨λz=>(hp.mpr z).elim λa⟨b,e,_⟩=>(by cases e;exact nomatch h1.2 rfl),_,eN (eX (hJ (g_ (x:=true) (fY rfl t')) dn))⟩|false=>obtain⟨l,r,rfl⟩:=L7 (Int.ofNat.inj (h1.1 rfl));obtain⟨b2,g2,j2⟩:=Mg (he l (.head _));obtain⟨b3,g3,j3⟩:=Mg (he r (.tail _ (.head _)));clear h1 he;have n1:=hJ (g_ (x:=true) (fY (i:=3) (Z:=u4 (.tup [T1,T2]) (.tup ds) (pS (gK prev)) (pS (.tup [l,r]))) rfl t')) dn;have x0:af ag 3 1#0 (u4 (.tup [T1,T2]) (.tup ds) (pS (gK prev)) (pS (.tup [l,r])))=.ok (.pure l) (u4 (.tup [T1,T2]) (.tup ds) (pS (gK prev)) (pS (.tup [l,r]))):=rfl;have x1:af ag 3 1#1 (u4 (.tup [T1,T2]) (.tup ds) (pS (gK prev)) (pS (.tup [l,r])))=.ok (.pure r) (u4 (.tup [T1,T2]) (.tup ds) (pS (gK prev)) (pS (.tup [l,r]))):=rfl;have d2:=g_ (v7 x0 g2);have d3:=g_ (v7 x1 g3);cases b2 with|false=>exact .inl ⟨λz=>(hp.mpr z).elim λa⟨b,e,h,_⟩=>(by cases e;exact nomatch j2.mpr ⟨a,rfl,L1 a h⟩),_,iN n1 (eN (eX (nW d2)))⟩|true=>cases b3 with|false=>exact .inl ⟨λz=>(hp.mpr z).elim λa⟨b,e,_,h,_⟩=>(by cases e;exact nomatch j3.mpr ⟨b,rfl,L2 b h⟩),_,iN n1 (eN (eX (hJ d2 (nW d3))))⟩|true=>obtain⟨a,rfl,-⟩:=j2.mp rfl;obtain⟨b,rfl,-⟩:=j3.mp rfl;have c4:mr (.tup [sD a,sD b]) (gK prev)=_:=zgu prev (a,b);have k1:=i1 a;have k2:=i2 b;clear i1 i2 j2 j3;have y0:af ag 0 1#0 (u4 (.tup [T1,T2]) (.tup ds) (pS (gK prev)) (pS (.tup [sD a,sD b])))=.ok (.pure T1) (u4 (.tup [T1,T2]) (.tup ds) (pS (gK prev)) (pS (.tup [sD a,sD b]))):=rfl;have y1:af ag 0 1#1 (u4 (.tup [T1,T2]) (.tup ds) (pS (gK prev)) (pS (.tup [sD a,sD b])))=.ok (.pure T2) (u4 (.tup [T1,T2]) (.tup ds) (pS (gK prev)) (pS (.tup [sD a,sD b]))):=rfl;have q1:=fO (df x0 (dt y0) k1);have q2:=fO (df x1 (dt y1) k2);have d4:=fO (c8 (p:=mr) (i:=3) (g:=aq 2) (Z:=u4 (.tup [T1,T2]) (.tup ds) (pS (gK prev)) (pS (.tup [sD a,sD b]))) (v:=.pure (.tup [sD a,sD b])) rfl rfl c4);cases hl:Bh prev (a,b)with|false=>rw[hl]at d4;exact .inl ⟨λz=>(hp.mpr z).elim λa'⟨b',e,_,_,h,_⟩=>(by cases e;rw[hl]at h;cases h),_,iN n1 (eN (eX (hJ d2 (hJ d3 d4))))⟩|true=>rw[hl]at d4;have n2:=hJ d2 (hJ d3 d4);cases m1:t1.contains a with|false=>rw[m1]at q1;exact .inl ⟨λz=>(hp.mpr z).elim λa'⟨b',e,h,_⟩=>by cases e;simp[h]at m1,_,iN n1 (iN n2 (eN (eX (nW q1))))⟩|true=>rw[m1]at q1;cases m2:t2.contains b with|false=>rw[m2]at q2;exact .inl ⟨λz=>(hp.mpr z).elim λa' hh=>by obtain⟨b',e,_,h,_⟩:=hh;cases e;simp[h]at m2,_,iN n1 (iN n2 (eN (eX (hJ q1 q2))))⟩|true=>rw[m2]at q2;refine .inr ⟨_,iN n1 (iN n2 (iN (hJ q1 q2) rfl)),some (a,b),_,.trans ⟨λz=>⟨a,b,rfl,~~~m1,~~~m2,hl,z⟩,λhh=>by obtain⟨a',b',e,_,_,_,z⟩:=hh;cases e;exact z⟩ hp,λe he=>hi e (.tail _ he),rfl⟩) ds (u4 (.tup [T1,T2]) (.tup ds) (pS (gK none)) none) ⟨none,none,.rfl,hi,rfl⟩;rcases f with⟨no,SZ,e⟩|⟨SZ,e,prev,o3,hp,-,rfl⟩;.exact⟨false,gI (dH (dH (eN ((dB (it:=a7 (aa 1)) rfl).trans e)) rfl) hV),nofun,λ⟨ps,e,h⟩=>(no ⟨ps,D.tup.inj e,h⟩).elim⟩
 .exact⟨true,gI (dH (dH (dH rfl ((dB (it:=a7 (aa 1)) rfl).trans e)) rfl) hV),λj=>(hp.mp ⟨[],rfl,nofun,by cases prev<;>simp[iP]⟩).elim λps⟨e,h⟩=>⟨ps,congrArg D.tup e,h⟩,λj=>rfl⟩
theorem qav{A:Type}(f:A->D)(q:A->Bool){as:List A}{np:List Nat}{t:DT}(e:it N1=.ok (as.map f) Z)(hl:as.length<=1000)(hs:∀a∈as,t (Z.set j (pS (f a)))=.ok (q a) (Z.set j (pS (f a))))(hj:Z[j]?=some none:=by rfl)(hn:np.contains j=false:=by rfl):bI [j] it (ah np j) t (aa j) N1=.ok (.own (.lst ((as.filter q).map f))) Z:=by
 obtain⟨h,f9⟩:=W8.mp hj;have c:bt [j] Z=Z:=by show Z.set j none=Z;rw[<-f9];exact List.set_getElem_self h
 have cc:∀o,bt [j] (Z.set j o)=Z:=λo=>by show(Z.set j o).set j none=Z;rw[List.set_set];exact c
 have r:=AJ (cs:=[j]) (g:=ah np j) (t:=t) (el:=aa j) f f q Z as [] (by rw[i8];simp;lia) λa ha=>⟨Z.set j (pS (f a)),_,.pure (f a),Z.set j (pS (f a)),by unfold ah;rw[if_neg (by rw[hn];nofun)],hs a ha,cc _,#v[aa,h],cc _,rfl⟩;unfold bI;rw[e];show(if _ then _ else _)=_;rw[if_neg #v[dk,hj],c,r];show Rs.ok _ (match Z[j]? with|some o=>Z.set j o|none=>Z)=_;rw[hj];exact congrArg _ c
theorem qaw(a b:Nat):fV (sD a) (sD b)=pS (.bl !decide (a=b)):=by have:((a==b):Bool)=decide (a=b):=rfl;simp[fV,flat,aU,this]
theorem zd0(u1:t1.Pairwise (.<.))(u2:t2.Pairwise (.<.))(l1:t1.length<=26)(l2:t2.length<=26)(P1:jO t1 z1)(P2:jO t2 z2)(x1:ag A (.int 2)=pS (.tup (z1.map aj)))(x2:ag B (.int 2)=pS (.tup (z2.map aj)))(hl:ps.length<=1000)(hp:∀p∈ps,p∈jh t1 t2):rZ [.pure A,.pure B,.pure (.tup (ps.map aj))]=some (.own (.lst ((ps.filter λp=>!decide (sgn z1 p.1=sgn z2 p.2)).map aj)),[.pure A,.pure B,.pure (.tup (ps.map aj))]):=by
 have d1:=sA u1 l1 P1;have d2:=sA u2 l2 P2;have c:=qav (j:=5) (np:=[]) (it:=a7 (aa 2)) (t:=aA (au fV (af cE 3 (ae (af ag 5 1#0))) (ae (af cE 4 (ae (af ag 5 1#1)))))) aj (λp:Pt=>!decide (sgn z1 p.1=sgn z2 p.2)) (N1:=[pS A,pS B,pS (.tup (ps.map aj)),pO (mE z1),pO (mE z2),none]) (as:=ps) rfl hl λp h=>by have h:=iO.mp (hp p h);have y1:=(sC P1 h.1).1;have y2:=(sC P2 h.2).1;have e:=qaw (sgn z1 p.1) (sgn z2 p.2);clear d1 d2;generalize D.tup (ps.map aj)=T,mE z1=D1,mE z2=D2 at*;exact hV
 unfold rZ II;generalize D.tup (z1.map aj)=Z1,D.tup (z2.map aj)=Z2 at*;exact km (nz hV (nz hV (rt c)))
theorem Mh{b:DS}{ss aG:List S}{v:Xc}(e:b (bU n ss)=.exc v S')(h1:cY np 0 ss=true)(h2:cj 0 ss S'=some aG):ka np n b ss=some (.inr (v,aG)):=by unfold ka kS;rw[if_pos h1,e];simp[h2]
theorem Mi{a b:DS}{v:Xc}(h:a Z=.exc v S'):ar a b Z=.exc v S':=by unfold ar;rw[h];rfl
abbrev wd:Xc:=⟨[85,110,108,105,107,101],.aD⟩
theorem zdX{h:Nat}(a1:0<h)(a2:h<=4)(a3:0<w)(a4:w<=4)(b1:0<h')(b2:h'<=4)(b3:0<w')(b4:w'<=4):g9 h w h' w'=.aD\/∃t t':Nat,(t=1\/t=2)/\(t'=1\/t'=2)/\g9 h w h' w'=.tup [.int (t:Int),.int (t':Int)]/\h^t=h'^t'/\w^t=w'^t'/\(t=2->h<=2/\w<=2)/\(t'=2->h'<=2/\w'<=2):=by
 have sq:∀{a b:Nat},a^2=b^1->b<=4->a<=2:=λ{a b}e hb=>by
  rcases Nat.lt_or_ge 2 a with z|z;.have:=Jv z z;rw[JM,QZ]at e;lia
  .exact z
 have sP:∀p q,dm h w h' w' p q=true->h^p=h'^q/\w^p=w'^q:=λp q e=>by unfold dm at e;rw[Wr,decide_eq_true_eq,decide_eq_true_eq]at e;exact e
 unfold g9 Ld;cases e11:dm h w h' w' 1 1 with|true=>exact .inr ⟨1,1,.inl rfl,.inl rfl,rfl,(sP 1 1 e11).1,(sP 1 1 e11).2,λz=>by lia,λz=>by lia⟩|false=>cases e12:dm h w h' w' 1 2 with|true=>obtain⟨c1,c2⟩:=sP 1 2 e12;exact .inr ⟨1,2,.inl rfl,.inr rfl,rfl,c1,c2,λz=>by lia,λj=>⟨sq c1.symm a2,sq c2.symm a4⟩⟩|false=>cases e21:dm h w h' w' 2 1 with|true=>obtain⟨c1,c2⟩:=sP 2 1 e21;exact .inr ⟨2,1,.inr rfl,.inl rfl,rfl,c1,c2,λj=>⟨sq c1 b2,sq c2 b4⟩,λz=>by lia⟩|false=>cases e22:dm h w h' w' 2 2 with
 |true=>
     obtain⟨c1,c2⟩:=sP 2 2 e22;have inj:∀{a b:Nat},a^2=b^2->a=b:=λ{a b}e=>by
      rw[JM,JM]at e;rcases Nat.lt_trichotomy a b with z|z|z;.have:=Nat.mul_lt_mul_of_lt_of_le z (QV z) Y';lia
      .exact z
      .have:=Nat.mul_lt_mul_of_lt_of_le z (QV z) Y';lia
     have:dm h w h' w' 1 1=true:=by unfold dm;rw[inj c1,inj c2];simp
     rw[this]at e11;cases e11|false=>exact .inl rfl
structure Rz(h w:Nat)(bs:8#0)(t:Nat)(B:8#0):Prop where
 fst:B.map (·.1)=bs.map (·.1)R:cF (h^t) (w^t) B
 tx:∀a∈bs.map (·.1),tx h bs t a=(bE B a).flatten
theorem Mj{h:Nat}{bs:8#0}(p:eY h w bs n zs){t:Nat}(ht:t=1\/t=2)(hs:t=2->h<=2/\w<=2):∃B,Rz h w bs t B/\nM [.pure (aP h w bs n zs),.pure (.int (t:Int))]=some (.pure (aP (h^t) (w^t) B n zs),[.pure (aP h w bs n zs),.pure (.int (t:Int))]):=by
 have e:=zd6 p.R (.str [n]) (.tup (zs.map aj)) (t:Int) Y';rcases ht with rfl|rfl;.refine⟨bs,⟨rfl,~~~p.R,λa ha=>zh1 p.R ha⟩,?_⟩;rw[if_neg Y']at e;rw[QZ,QZ];exact e
 .have hs:=hs rfl;refine⟨tw h bs,⟨sy h bs,%[JM,JM|Lp p.R hs.1 hs.2],λa ha=>zh0 p.R ha⟩,?_⟩;rw[if_pos ⟨Y',hs⟩]at e;rw[JM,JM];exact e
theorem Mk:∀l:List Tx,(∀r∈l,r.length=w)->l.flatten.length=l.length*w|[],_=>by simp|a::l,h=>by rw[List.flatten_cons,Qc,Mk l λr hr=>h r (Wf _ hr),h a Wi,WV,Uu,Nat.add_comm]
theorem Ml{h:Nat}{bs:8#0}(R:cF h w bs)(hn:n∈bs.map (·.1)):(bE bs n).flatten.length=h*w:=by have b:=sI R hn;rw[Mk _ λr hr=>(b.2 r hr).1,b.1]
theorem Mm{h:Nat}{bs:8#0}(p:eY h w bs n zs)(p':eY h' w' bs' n' bf):pe [.pure (aC h w bs),.pure (aC h' w' bs')]=some (.pure (g9 h w h' w'),[.pure (aC h w bs),.pure (aC h' w' bs')]):=by have a1:=p.R.h1;have a2:=p.R.w1;have b1:=p'.R.h1;have b2:=p'.R.w1;exact zhQ Y' Y' Y' Y'
theorem zd8{h:Nat}{bs:8#0}(p:eY h w bs n zs)(p':eY h' w' bs' n' bf){t:Nat}(ht:t=1\/t=2)(jZ:t'=1\/t'=2)(e:g9 h w h' w'=.tup [.int (t:Int),.int (t':Int)]):nJ [.pure (aP h w bs n zs),.pure (aP h' w' bs' n' bf)]=some (.inl (.pure (.tup [fN h bs t,fN h' bs' t']),[.pure (aP h w bs n zs),.pure (aP h' w' bs' n' bf)])):=by have g:=Mm p p';have f1:=Lc p.R (t:=t) Y' p.R.h1 p.R.w1;have f2:=Lc p'.R (t:=t') Y' p'.R.h1 p'.R.w1;have z:∀x,j7 false (.tup x) .aD=pS (.bl false):=λj=>rfl;have z1:ag (aP h w bs n zs) (.int 0)=pS (aC h w bs):=rfl;have z2:ag (aP h' w' bs' n' bf) (.int 0)=pS (aC h' w' bs'):=rfl;rw[e]at g;unfold nJ vD;clear e;generalize aP h w bs n zs=A,aP h' w' bs' n' bf=B,aC h w bs=r1,aC h' w' bs'=r2,fN h bs t=D1,fN h' bs' t'=D2 at*;exact nE (nz cT (nz cT cT)) rfl rfl
theorem zaO{h:Nat}{bs:8#0}(p:eY h w bs n zs)(p':eY h' w' bs' n' bf)(e:g9 h w h' w'=.aD):nJ [.pure (aP h w bs n zs),.pure (aP h' w' bs' n' bf)]=some (.inr (wd,[.pure (aP h w bs n zs),.pure (aP h' w' bs' n' bf)])):=by have g:=Mm p p';rw[e]at g;have z1:ag (aP h w bs n zs) (.int 0)=pS (aC h w bs):=rfl;have z2:ag (aP h' w' bs' n' bf) (.int 0)=pS (aC h' w' bs'):=rfl;unfold nJ vD;clear e;generalize aP h w bs n zs=A,aP h' w' bs' n' bf=B,aC h w bs=r1,aC h' w' bs'=r2 at*;exact Mh (nz cT (Mi rfl)) rfl rfl
abbrev la(A B C T:D)(o4 o5:Option S):Dl:=[pS A,pS B,pS C,pS T,o4,o5,none]
theorem ze1{GC:DX}{T:D}(g:GC [.pure A,.pure B]=some (.inl (.pure T,[.pure A,.pure B]))):az (jB GC [.val (aa 0),.val (aa 1)]) (ah [] 3) [pS A,pS B,pS C,none,none,none,none]=.ok .next (la A B C T none none):=by simp[az,jB,bB,cP,cD,aa,S.d,bS,bp,g]
theorem zd7{h:Nat}{bs:8#0}(p:eY h w bs n zs)(p':eY h' w' bs' n' bf)(e:g9 h w h' w'=.aD)(d:D):jd [.pure (aP h w bs n zs),.pure (aP h' w' bs' n' bf),.pure d]=some (.inr (wd,[.pure (aP h w bs n zs),.pure (aP h' w' bs' n' bf),.pure d])):=by have g:=zaO p p' e;unfold jd vE;generalize aP h w bs n zs=A,aP h' w' bs' n' bf=B at*;refine Mh (S':=[pS A,pS B,pS d,none,none,none,none]) (Mi ?_) rfl rfl;simp[bU,az,jB,bB,cP,cD,aa,S.d,bS,bp,g];rfl
theorem Mn(F:Nat->D)(n:Nat):∀bs:8#0,(dD (bs.map λb=>((Sum.inr [b.1]:cb),F b.1)) (.inr [n])).isSome=(bs.map (·.1)).contains n
 |[]=>rfl|b::r=>by
  have ih:=Mn F n r;unfold dD at ih⊢;rw[Wl,Qa,Wl,List.contains_cons];by_cases e:b.1=n;.simp[e]
  .have e':(n==b.1)=false:=by simpa using λz=>e z.symm
   have:decide (((Sum.inr [b.1]:cb))=Sum.inr [n])=false:=decide_eq_false #v[e];simp only[this,e',Bool.false_or];exact ih
theorem Mo(h:Nat)(bs:8#0)(t n:Nat):fZ true (.str [n]) (fN h bs t)=0#(.bl (!(bs.map (·.1)).contains n)):=by have e:=Mn (λn=>D.str (tx h bs t n)) n bs;show((eC (.str [n])).map λk=>S.pure (.bl (if true then !(dD (bs.map λb=>((Sum.inr [b.1]:cb),D.str (tx h bs t b.1))) k).isSome else(dD (bs.map λb=>((Sum.inr [b.1]:cb),D.str (tx h bs t b.1))) k).isSome)))=_;simp only[eC,WM,if_true];rw[e]
abbrev jQ(ps:List Pt):D:=.dic ((cn [] ps).map λp=>(aj p,.bl true))
theorem ziZ(ps:List Pt)(q:Pt):kX false (aj q) (jQ ps)=0#(.bl (decide (q∈ps))):=by
 have hg:qR (F5 (aj q)) ((cn [] ps).map λp=>(aj p,D.bl true)) (aj q)=true:=by show(true&&((cn [] ps).map λp=>(aj p,D.bl true)).all λq=>gE true q.1)=true;rw[Bool.true_and,JP,WW];intro p _;rfl
 have hv:(ke ((cn [] ps).map λp=>(aj p,D.bl true)) (aj q)).isSome=decide (q∈ps):=by unfold ke;rw[Option.isSome_map,Qu,List.find?_isSome,<-Uq,Ma,decide_eq_true_eq,decide_eq_true_eq,se];simp
 simp only[kX,jQ];rw[if_pos hg,hv];rfl
abbrev ahC(GU:DF):DE:=bI [6] (a7 (ay GU [.val (aa 3),.val (aa 5)])) (ah [] 6) cA (au (kX false) (aa 6) (aq 4))
abbrev Bi(GU:DF):DS:=aX (cR (aA (aE gQ (ae (ahC GU))))) (aI (eD (.bl false))) aW
theorem zgU{GU:DF}{T:D}(hk:∀p∈ps,(kd p).length<=1000/\GU [.pure T,.pure (aj p)]=some (.own (.lst ((kd p).map aj)),[.pure T,.pure (aj p)])):(¬(∀p∈ps,∀q∈kd p,q∈ps)/\∃SZ,forL (ah [] 5) (Bi GU) (ps.map aj) (la A B C T (pO (jQ ps)) none)=.ok (.ret (.pure (.bl false))) SZ)\/∃SZ,forL (ah [] 5) (Bi GU) (ps.map aj) (la A B C T (pO (jQ ps)) none)=.ok .next SZ/\(∀p∈ps,∀q∈kd p,q∈ps)/\∃o5,SZ=la A B C T (pO (jQ ps)) o5:=by
 have f:=wc (g:=ah [] 5) (b:=Bi GU) (∀p∈ps,∀q∈kd p,q∈ps) (λrs Z=>∃qs o5,rs=qs.map aj/\(∀q∈qs,q∈ps)/\((∀p∈qs,∀q∈kd p,q∈ps)->∀p∈ps,∀q∈kd p,q∈ps)/\Z=la A B C T (pO (jQ ps)) o5) (λd rs Z hh=>by obtain⟨qs,o5,e,hq,hp,eδ⟩:=hh;subst eδ;match qs,e with
 |q::qs,e=>
 injection e with e1 e2;subst e1 e2;have hm:=hq q (.head _);obtain⟨hl,g⟩:=hk q hm;have c:=cS (j:=6) (np:=[]) (it:=a7 (ay GU [.val (aa 3),.val (aa 5)])) (el:=au (kX false) (aa 6) (aq 4)) aj (λx=>.bl (decide (x∈ps))) (N1:=la A B C T (pO (jQ ps)) (pS (aj q))) (Z:=la A B C T (pO (jQ ps)) (pS (aj q))) (as:=kd q) (by generalize aj q=Q,jQ ps=DD at*;simp[k8,ay,bB,cP,cD,aa,S.d,bS,bp,g]) hl λx y=>by have e:=ziZ ps x;generalize aj x=X,jQ ps=DD at*;simp[au,aa,aq,S.d,e]
 refine⟨_,rfl,?_⟩;have z:=eX (a:=aI (eD (.bl false))) (b:=aW) (g_ (nN c (wb (kd q) λx=>decide (x∈ps))));cases h:(kd q).all λx=>decide (x∈ps)with|false=>rw[h]at z;exact .inl ⟨λk=>(by rw[List.all_eq_true.mpr λx hx=>decide_eq_true (k q hm x hx)]at h;cases h),_,z⟩|true=>
 rw[h]at z;refine .inr ⟨_,z,qs,_,rfl,λx hx=>hq x (.tail _ hx),λk=>hp λp hp x hx=>?_,rfl⟩;rcases Wq.mp hp with rfl|hp;.simpa using WW.mp h x hx
 .exact k p hp x hx) (ps.map aj) (la A B C T (pO (jQ ps)) none) ⟨ps,none,rfl,λy h=>h,λh=>h,rfl⟩;rcases f with f|⟨SZ,e,qs,o5,e1,_,hp,rfl⟩;.exact .inl f
 .match qs,e1 with|[],_=>exact .inr ⟨_,e,hp nofun,o5,rfl⟩
theorem Mp{h:Nat}{bs:8#0}(R:cF h w bs):∀a∈bs.map (·.1),97<=a/\a<=122:=λa ha=>by obtain⟨b,hb,rfl⟩:=WA.mp ha;exact R.qN b hb
theorem zfY{h:Nat}{bs:8#0}(p:eY h w bs n zs)(p':eY h' w' bs' n' bf){t:Nat}(ht:t=1\/t=2)(jZ:t'=1\/t'=2)(e:g9 h w h' w'=.tup [.int (t:Int),.int (t':Int)]){B:8#0}(z:Rz h w bs t B)(z':Rz h' w' bs' t' B')(eh:h^t=h'^t')(ew:w^t=w'^t'){d:D}(hd:Th d):∃b:Bool,(b=true↔Bg B B' n n' zs bf d)/\jd [.pure (aP h w bs n zs),.pure (aP h' w' bs' n' bf),.pure d]=some (.inl (.pure (.bl b),[.pure (aP h w bs n zs),.pure (aP h' w' bs' n' bf),.pure d])):=by
 have s1:=ze1 (C:=d) (zd8 p p' ht jZ e);clear e;obtain⟨b2,g2,i2⟩:=zd5 (Mo h bs t) (Mo h' bs' t') (Mp p.R) (Mp p'.R) hd;have x1:ag (aP h w bs n zs) (.int 1)=pS (sD n):=rfl;have x2:ag (aP h' w' bs' n' bf) (.int 1)=pS (sD n'):=rfl;have gu:=λps hl hg=>zd0 (A:=aP h w bs n zs) (B:=aP h' w' bs' n' bf) p.R.up p'.R.up %[Wd|p.R.n1] %[Wd|p'.R.n1] p.p p'.p rfl rfl (ps:=ps) hl hg;have hk:∀q∈jh (bs.map (·.1)) (bs'.map (·.1)),(kids B B' q).length<=1000/\nK [.pure (.tup [fN h bs t,fN h' bs' t']),.pure (aj q)]=some (.own (.lst ((kids B B' q).map aj)),[.pure (.tup [fN h bs t,fN h' bs' t']),.pure (aj q)]):=λq hq=>by have hq:=iO.mp hq;have e1:=Ml z.R %[z.fst|hq.1];have e2:=Ml z'.R %[z'.fst|hq.2];have t1:=z.tx q.1 hq.1;have t2:=z'.tx q.2 hq.2;have c3:h^t*w^t<=4*4:=Jv z.R.h1 z.R.w1;have u:=zfU (h:=h) (w:=w) (h':=h') (w':=w') (t:=t) (t':=t') hq.1 hq.2 (by rw[t1,t2,e1,e2,eh,ew]) (by rw[t1,e1];lia);rw[t1,t2]at u;exact⟨by unfold kids;rw[List.length_zip,e1];lia,u⟩
 unfold jd vE Bg;rw[z.fst,z'.fst];generalize aP h w bs n zs=P,aP h' w' bs' n' bf=P',D.tup [fN h bs t,fN h' bs' t']=T at*;cases b2 with|false=>exact⟨false,⟨nofun,λ⟨ps,e1,e2,e3,_⟩=>i2.mpr ⟨ps,e1,e2,e3⟩⟩,nE (nz s1 (eN cT)) rfl rfl⟩|true=>
  obtain⟨ps,rfl,hg,ri⟩:=i2.mp rfl;have hl:ps.length<=1000:=by
   rcases hd with q|⟨ds,q,hl,_⟩;.cases q
   .rw[<-D.tup.inj q,Wd]at hl;exact hl
  have mF:∀{Q:List Pt->Prop},(∃qs:List Pt,D.tup (ps.map aj)=.tup (qs.map aj)/\Q qs)->Q ps:=λ⟨qs,e,h⟩=>Me (D.tup.inj e)▸h;have m:gH true (.tup [sD n,sD n']) (.tup (ps.map aj))=_:=LP ps (n,n');by_cases hm:(n,n')∈ps
  .rw[decide_eq_true hm]at m;have gu:=gu ps hl hg;have ln:=LF ((ps.filter λp=>!decide (sgn zs p.1=sgn bf p.2)).map aj) %[Wd|Wy (List.length_filter_le _ _) hl];have gt:=gt_int ((ps.filter λp=>!decide (sgn zs p.1=sgn bf p.2)).map aj).length 0;have ed:=Mc (.bl true) hl;by_cases hs:∀p∈ps,sgn zs p.1=sgn bf p.2
   .rw[List.filter_eq_nil_iff.mpr λq hq=>#v[hs q hq]]at gu ln gt;have s4:=cz (g:=ah [] 4) (nN (cS (j:=5) (np:=[]) (it:=a7 (aa 2)) (el:=aO (ao (aa 5) (ao (eD (.bl true)) aF))) aj (λp=>.tup [aj p,.bl true]) (N1:=la P P' (.tup (ps.map aj)) T none none) rfl hl λk k=>rfl) ed) rfl;have lp:=zgU (GU:=nK) (A:=P) (B:=P') (C:=.tup (ps.map aj)) (T:=T) (ps:=ps) (kd:=kids B B') λq hq=>hk q (hg q hq);clear hk;rcases lp with⟨no,SZ,e⟩|⟨SZ,e,cl,o5,rfl⟩;.exact⟨false,⟨nofun,λh=>(no (mF h).2.2.2.2).elim⟩,nE (nz s1 (nz cT (nz cT (nz s4 (eN ((dB (it:=a7 (aa 2)) rfl).trans e)))))) rfl rfl⟩
    .exact⟨true,⟨λk=>⟨ps,rfl,hg,ri,hm,hs,cl⟩,λk=>rfl⟩,nE (nz s1 (nz cT (nz cT (nz s4 (nz ((dB (it:=a7 (aa 2)) rfl).trans e) rfl))))) rfl rfl⟩
   .have fp:0<((ps.filter λp=>!decide (sgn zs p.1=sgn bf p.2)).map aj).length:=by rw[Wd,List.length_pos_iff];intro q;rw[List.filter_eq_nil_iff]at q;exact hs λp hp=>by simpa using q p hp
    rw[decide_eq_true Y']at gt;generalize(ps.filter λp=>!decide (sgn zs p.1=sgn bf p.2)).map aj=L at*;exact⟨false,⟨nofun,λh=>(hs (mF h).2.2.2.1).elim⟩,nE (nz s1 (nz cT (eN cT))) rfl rfl⟩
  .rw[decide_eq_false hm]at m;exact⟨false,⟨nofun,λh=>(hm (mF h).2.2.1).elim⟩,nE (nz s1 (eN cT)) rfl rfl⟩
theorem iQ(x y:List D)(h:x.length+y.length<=10000):aQ (.lst x) (.lst y)=some (.own (.lst (x++y))):=by have hz:W9=16777216:=rfl;simp only[aQ];first|rw[if_pos Y']|rfl
abbrev we(a b:Nat)(m:D):List D:=[.tup [.str [b],.str [a]],.tup [.str [a]],.tup [.str [a],.str [b],.str [a]],.lst [.str [a],.str [b]],.aD,.str [a,b],.tup [.str [a],.str [65]],.tup [.str [],.str [b]],.tup [.str [a],.aD],.tup [.str [a],.int 0],m,.tup [.str [a],.str [a]]]
theorem Mq(ds:List D){k:Nat}(hz:z=(k:Int))(h:k<=ds.length):cW none (some z) (.lst ds)=some (.own (.lst (ds.take k))):=by show some (S.own (D.lst (cf ds none (some z))))=_;rw[A5 ds hz h]
theorem Mr(ds:List D){k:Nat}(hz:z=(k:Int))(h:k<=ds.length):cW (some z) none (.lst ds)=some (.own (.lst (ds.drop k))):=by show some (S.own (D.lst (cf ds (some z) none)))=_;rw[A6 ds hz h]
theorem zcw(hl:t.length<=1000):∃rs:List Pt,rs.Perm t/\jI (.lst (t.map aj))=some (.own (.lst (rs.map aj))):=by obtain⟨qs,p,e⟩:=Lake.SM.y6 du (zc (t.map du)) t rfl;refine⟨qs,p,?_⟩;rw[sJ,zh λk hk=>by obtain⟨x,_,rfl⟩:=WA.mp hk;simp (by rw[Wd];lia),e,sJ]
theorem pE{x:Tx}(h:x.length<=64):El (.str x):=.inl ⟨x,rfl,h⟩
theorem sQ(p:Pt):kn (aj p):=.inr ⟨_,rfl,λe he=>by simp at he;rcases he with rfl|rfl<;>exact pE V'⟩
theorem ziX{a b:Nat}{p:Pt}:∀d∈we a b (aj p),kn d:=by
 intro d hd;have f:gA "str" .aD=some false:=rfl;have f0:gA "str" (.int 0)=some false:=rfl;simp only[we,Wq,JV,or_false]at hd;rcases hd with rfl|rfl|rfl|rfl|rfl|rfl|rfl|rfl|rfl|rfl|rfl|rfl;.exact sQ (b,a)
 .exact .inr ⟨_,rfl,λe he=>by simp at he;subst he;exact pE V'⟩
 .exact .inr ⟨_,rfl,λe he=>by simp at he;rcases he with rfl|rfl|rfl<;>exact pE V'⟩
 .exact .inl rfl
 .exact .inl rfl
 .exact .inl rfl
 .exact sQ (a,65)
 .exact .inr ⟨_,rfl,λe he=>by simp at he;rcases he with rfl|rfl<;>exact pE V'⟩
 .exact .inr ⟨_,rfl,λe he=>by
 simp at he;rcases he with rfl|rfl;.exact pE V'
 .exact .inr f⟩
 .exact .inr ⟨_,rfl,λe he=>by
 simp at he;rcases he with rfl|rfl;.exact pE V'
 .exact .inr f0⟩
 .exact sQ p
 .exact sQ (a,a)
theorem lb(hl:ds.length<=1000)(h:∀d∈ds,kn d):Th (.tup ds):=.inr ⟨ds,rfl,hl,h⟩
theorem wg(qs:List Pt):∀d∈qs.map aj,kn d:=λd hd=>by obtain⟨p,_,rfl⟩:=WA.mp hd;exact sQ p
theorem qax(R:cF H W B1)(f p B:D)(h0:0<qs.length)(hl:qs.length<=900)(jP:bO pd):∃(d ba:D),Th d/\bO ba/\r8 [.own pd,.pure (aJ (aC H W B1) f p),.pure B,.pure (.lst (qs.map aj))]=some (.pure d,[.own ba,.pure (aJ (aC H W B1) f p),.pure B,.pure (.lst (qs.map aj))]):=by
 have n0:=R.n0;have n1:=R.n1;have cl:(qs.map aj).length=qs.length:=Wd ..;have ln:br (.lst (qs.map aj))=0#(.int qs.length):=#v[br];obtain⟨s,fz,g1,s1,hp1⟩:=gq jP (z:=qs.length);obtain⟨⟨a,b⟩,eq⟩:∃q,qs[s]?=some q:=⟨qs[s]' Y',W4 Y'⟩;have x:ag (.lst (qs.map aj)) (.int (s:Int))=0#(.tup [.str [a],.str [b]]):=by simp only[ag];rw[jE,Ws,eq];rfl
 have gt:=mB R;have ln2:br (.lst ((B1.map (·.1)).map da))=0#(.int B1.length):=#v[br];obtain⟨i,eZ,g2,i1,hp2⟩:=gq hp1 (z:=B1.length);obtain⟨t,ht,et⟩:=sE (ts:=B1.map (·.1)) (q:=i) Re;have x0:ag (aJ (aC H W B1) f p) (.int 0)=0#(aC H W B1):=rfl;rw[r8,IS];generalize hx:bq _ _ _ _=X;obtain⟨y,hx,hy⟩:=gF hx rfl;generalize aJ (aC H W B1) f p=A at*;have e1:aQ (.str [a]) (.str [b])=0#(.str [a,b]):=add_str [a] [b] V';have e2:aQ (.lst [.tup [.str [b],.str [a]],.tup [.str [a]],.tup [.str [a],.str [b],.str [a]],.lst [.str [a],.str [b]],.aD,.str [a,b],.tup [.str [a],.str [65]]]) (.lst [.tup [.str [],.str [b]],.tup [.str [a],.aD],.tup [.str [a],.int 0],.tup [.str [t],.str [b]],.tup [.str [a],.str [a]]])=some (.own (.lst (we a b (aj (t,b))))):=iQ _ _ V';generalize hOD:we a b (aj (t,b))=OD at*;have oL:OD.length=12:=by rw[<-hOD];rfl
 obtain⟨rs,pm,er⟩:=zcw (t:=qs++[(t,b)]) Re;have rl:rs.length=qs.length+1:=by have:=pm.length_eq;simpa using this
 rw[WN]at er;have iC:=wg qs;have jC:∀e∈qs.map aj,El e:=λe he=>by obtain⟨p,_,rfl⟩:=WA.mp he;exact .inr rfl
 generalize qs.map aj=C at*;replace hx:=fw hx nF;generalize hE:bI [11] _ _ _ _=E at hx;obtain⟨Z,hδ,hx⟩:=nm hx;have c1:=Mq C (k:=s) rfl Y';have c2:=Mr C (k:=s+1) (z:=(s:Int)+1) Y' Y';have c:E Z=.ok (.own (.lst (OD.map λd=>.lst (bF C s d)))) (Z.set 9 0#(.lst OD)):=by rw[<-hE,<-hδ];exact cM (λd=>d) (λd=>D.lst (bF C s d)) (as:=OD) (S':=[some (.own eZ),_,_,_,_,_,_,_,_,0#(.lst OD),_,_,_]) (by rw[List.map_id'];rfl) Y' λd hd=>by have a1:=iQ (C.take s) [d] Re;have a2:_=some (S.own (.lst (bF C s d))):=iQ (C.take s++[d]) (C.drop (s+1)) Re;exact⟨_,_,.own (.lst (bF C s d)),_,rfl,rfl,cT,by rfl,rfl⟩
 subst hδ;clear hE;have c3:=Mq C (k:=s+1) (z:=(s:Int)+1) Y' Y';have c4:=Mr C (k:=s) rfl Y';have a1:=iQ (C.take s) (C.drop (s+1)) Re;have a2:=iQ (C.take (s+1)) (C.drop s) Re;have rv:l9 (.lst C)=some (.own (.lst C.reverse)):=rfl;have a3:=iQ (OD.map λd=>.lst (bF C s d)) [.lst (C.take s++C.drop (s+1)),.lst (C.take (s+1)++C.drop s),.lst C.reverse] Re;generalize hF:(OD.map λd=>D.lst (bF C s d))++[.lst (C.take s++C.drop (s+1)),.lst (C.take (s+1)++C.drop s),.lst C.reverse]=F at*;have a4:=iQ C [.tup [.str [t],.str [b]]] Re;have er:jI (.lst (C++[.tup [.str [t],.str [b]]]))=_:=er;have hz:F.length<W9:=by rw[<-hF];simp[oL,show W9=16777216 from rfl]
 have ef:F++[.lst (rs.map aj)]=((OD.map λd=>bF C s d)++[C.take s++C.drop (s+1),C.take (s+1)++C.drop s,C.reverse]++[rs.map aj]).map D.lst:=by rw[<-hF,WN,WN,WU];rfl
 have rows:∀r∈(OD.map λd=>bF C s d)++[C.take s++C.drop (s+1),C.take (s+1)++C.drop s,C.reverse]++[rs.map aj],Th (.tup r):=by
  intro r hr;simp only[List.mem_append,Wq,JV,or_false,WA]at hr;rcases hr with(⟨d,hd,rfl⟩|rfl|rfl|rfl)|rfl
  .refine lb (by rw[v9 Y'];lia) λe he=>?_;rcases pA he with rfl|he;.rw[<-hOD]at hd;exact ziX e hd
   .exact iC e he
  .exact lb Re λe he=>iC e ((WK.mp he).elim Js JT)
  .exact lb Re λe he=>iC e ((WK.mp he).elim Js JT)
  .exact lb Re λe he=>iC e (List.mem_reverse.mp he)
  .exact lb Re (wg rs)
 have fl:((OD.map λd=>bF C s d)++[C.take s++C.drop (s+1),C.take (s+1)++C.drop s,C.reverse]++[rs.map aj]).length=16:=#v[oL];generalize(OD.map λd=>bF C s d)++[C.take s++C.drop (s+1),C.take (s+1)++C.drop s,C.reverse]++[rs.map aj]=fs at*;generalize hG:(OD.map λd=>D.lst (bF C s d))=G at*;generalize D.lst (C++[.tup [.str [t],.str [b]]])=CM at*;replace hx:=fw hx nF;generalize hE:bI [12] _ _ _ _=E at hx;obtain⟨Z,hδ,hx⟩:=nm hx;have c:E Z=.ok (.own (.lst (fs.map .tup))) (Z.set 10 0#(.lst (fs.map .lst))):=by rw[<-hE,<-hδ];exact cM D.lst D.tup (as:=fs) (S':=[some (.own eZ),_,_,_,_,_,_,_,_,_,0#(.lst (fs.map .lst)),_,_]) rfl Y' λd hd=>⟨_,_,.pure (.tup d),_,rfl,rfl,cT,by rfl,rfl⟩
 subst hδ;clear hE;have t3:dh (.lst C)=0#(.tup C):=rfl;have aL:=iQ (fs.map .tup) [.lst C,.tup [],.aD,.int 0,.str [],.bT [],.tup [.tup C]] Re;have ths:∀d∈fs.map D.tup++[D.lst C,D.tup [],D.aD,D.int 0,D.str [],D.bT [],D.tup [D.tup C]],Th d:=by
  intro d hd;simp only[List.mem_append,Wq,JV,or_false,WA]at hd;rcases hd with⟨r,hr,rfl⟩|rfl|rfl|rfl|rfl|rfl|rfl|rfl;.exact rows r hr
  .exact .inl rfl
  .exact lb V' V'
  .exact .inl rfl
  .exact .inl rfl
  .exact .inl rfl
  .exact .inl rfl
  .refine lb V' λe he=>?_;simp at he;subst he;exact .inr ⟨_,rfl,jC⟩
 have ll:(fs.map D.tup++[D.lst C,D.tup [],D.aD,D.int 0,D.str [],D.bT [],D.tup [D.tup C]]).length=23:=#v[fl];generalize fs.map D.tup++[D.lst C,D.tup [],D.aD,D.int 0,D.str [],D.bT [],D.tup [D.tup C]]=L at*;have lL:br (.lst L)=0#(.int 23):=#v[br,ll];obtain⟨j,k9,g3,j1,hp3⟩:=gq hp2 (z:=23);have xj:ag (.lst L) (.int (j:Int))=0#(L[j]' Y'):=by simp only[ag];rw[jE,W4 Y'];rfl
 generalize fs.map D.tup=FT at*;generalize fs.map D.lst=FL at*;replace hx:=fw hx nF;rw[hy (hx.symm.trans cT).symm rfl];exact⟨_,k9,ths _ (Qv _),hp3,rfl⟩
section
variable{ce:Tx->Nat}
theorem isU(fl:D)(tab:Tx->Bool)(rest:Dl):f7 ce ys tab (aq 0) (0#(.exc (ce [85,110,108,105,107,101]) fl)::rest)=.ok (.pure (.bl (tab [85,110,108,105,107,101]))) (0#(.exc (ce [85,110,108,105,107,101]) fl)::rest):=by simp[f7,aq,ys]
theorem qay(hf:f Z=.ok v S')(hi:Z[i]?=some (pO (.lst L)))(hi1:S'[i]?=some (pO (.lst L)))(hl:L.length<=1000):cO i f Z=.ok .next (S'.set i (pO (.lst (L++[v.d])))):=by
 have l:L.length<W9:=by rw[show W9=16777216 from rfl];lia
 simp[cO,gC,putL,hf,hi,hi1,l]
theorem zhP(fl:D):pj ce [.pure (.exc (ce [85,110,108,105,107,101]) fl)]=some (.pure (.str [117,110,108,105,107,101]),[.pure (.exc (ce [85,110,108,105,107,101]) fl)]):=by have I:=λtab rest=>isU (ce:=ce) fl tab rest;rw[pj,IL];generalize D.exc (ce [85,110,108,105,107,101]) fl=X at*;have p2:∀{f g:DE}{a b:Bool}{r:Dl},f (pS X::r)=.ok (.pure (.bl a)) (pS X::r)->g (pS X::r)=.ok (.pure (.bl b)) (pS X::r)->cC (ao f (ao g aF)) (pS X::r)=.ok (.own (.lst [.bl a,.bl b])) (pS X::r):=λh k=>AW (eW h (eW k rfl));exact sj (nz (S':=[pS X,pO (.lst [.bl false,.bl false]),none]) (cz (p2 (I _ _) (I _ _)) rfl) (nz (S':=[pS X,pO (.lst [.bl false,.bl false,.bl false,.bl false]),none]) (cz (c8 rfl (dt (p2 (I _ _) (I _ _))) (iQ _ _ Z')) rfl) (nz (S':=[pS X,pO (.lst [.bl false,.bl false,.bl false,.bl false,.bl true,.bl false]),none]) (cz (c8 rfl (dt (p2 (I _ _) (I _ _))) (iQ _ _ Z')) rfl) (nz (S':=[pS X,pO (.lst [.bl false,.bl false,.bl false,.bl false,.bl true,.bl false,.bl false,.bl false]),none]) (cz (c8 rfl (dt (p2 (I _ _) (I _ _))) (iQ _ _ Z')) rfl) (nz (S':=[pS X,pO (.lst [.bl false,.bl false,.bl false,.bl false,.bl true,.bl false,.bl false,.bl false,.bl false]),none]) (qay (L:=[.bl false,.bl false,.bl false,.bl false,.bl true,.bl false,.bl false,.bl false]) (I _ _) rfl rfl Z') (iN (hJ (g_ (I _ _)) (fO (df (nS rfl rfl) rfl rfl))) (nz (cz rfl rfl) (rt (c8 rfl (dt (nS rfl rfl)) rfl)))))))))
theorem zi0(GA:DX)(GK:DF){d:D}(g:GA [.pure P1,.pure P2,.pure d]=some (.inr (wd,[.pure P1,.pure P2,.pure d])))(k:GK [.pure (.exc (ce [85,110,108,105,107,101]) .aD)]=some (.pure (.str [117,110,108,105,107,101]),[.pure (.exc (ce [85,110,108,105,107,101]) .aD)])):bq [] 3 (ar (ni ce ys 2 (gU (jB GA [.val (af ag 0 1#0),.val (af ag 0 1#1),.val (aa 1)])) (aI (au bo (ay GK [.val (aa 2)]) (ae (eD (.str [117,110,108,105,107,101])))))) (aI (eD (.bl false)))) [.pure (.tup [P1,P2]),.pure d]=some (.pure (.bl true),[.pure (.tup [P1,P2]),.pure d]):=by
 have x1:ag (.tup [P1,P2]) (.int 0)=0#P1:=rfl;have x2:ag (.tup [P1,P2]) (.int 1)=0#P2:=rfl;have e3:bo (.str [117,110,108,105,107,101]) (.str [117,110,108,105,107,101])=0#(.bl true):=rfl;generalize D.tup [P1,P2]=PP at*;refine gI (S':=[0#PP,0#d,none]) (fK ?_);show ni ce ys 2 _ _ [0#PP,0#d,none]=_;have eb:gU (jB GA [.val (af ag 0 1#0),.val (af ag 0 1#1),.val (aa 1)]) [0#PP,0#d,none]=.exc wd [0#PP,0#d,none]:=by simp[gU,jB,bB,cP,cD,af,bW,aq,aa,S.d,x1,x2,bS,g,bp];try rfl
 unfold ni;rw[eb];generalize D.str [117,110,108,105,107,101]=UN at*;simp[yv,unset,ys,au,ay,bB,cP,cD,aa,S.d,bS,k,bp,e3]
theorem Ms{h:Nat}{bs:8#0}(p:eY h w bs n zs)(p':eY h' w' bs' n' bf)(e:g9 h w h' w'=.aD)(d:D):pk ce [.pure (.tup [aP h w bs n zs,aP h' w' bs' n' bf]),.pure d]=some (.pure (.bl true),[.pure (.tup [aP h w bs n zs,aP h' w' bs' n' bf]),.pure d]):=by rw[pk,IM];exact zi0 jd (pj ce) (zd7 p p' e d) (zhP .aD)
theorem zj3{b:DS}{z u:D}(e:b (bU n [.pure x,.pure y,.pure z,.pure u])=.ok (.ret v) S'):bq [] n b [.pure x,.pure y,.pure z,.pure u]=some (v,[.pure x,.pure y,.pure z,.pure u]):=by rw[kl,e];rfl
theorem zfZ(GA:DX)(GD:DF){d:D}{b:Bool}(g:GA [.pure P1,.pure P2,.pure d]=some (.inl (.pure (.bl b),[.pure P1,.pure P2,.pure d])))(k:GD [.pure A,.pure B,.pure d]=some (.pure (.bl b),[.pure A,.pure B,.pure d])):bq [] 6 (ar (az (ay GD [.val (aa 1),.val (aa 2),.val (aa 3)]) (ah [] 4)) (ar (az (jD GA [.val (af ag 0 1#0),.val (af ag 0 1#1),.val (aa 3)]) (ah [] 5)) (aI (gy (fk "bool" (aq 5)) (gy (af bo 5 (aq 4)) (au bo (jD GA [.val (af ag 0 1#0),.val (af ag 0 1#1),.val (aa 3)]) (aq 4))))))) [.pure (.tup [P1,P2]),.pure A,.pure B,.pure d]=some (.pure (.bl true),[.pure (.tup [P1,P2]),.pure A,.pure B,.pure d]):=by
 have e3:bo (.bl b) (.bl b)=0#(.bl true):=by cases b<;>rfl
 have x1:ag (.tup [P1,P2]) (.int 0)=0#P1:=rfl;have x2:ag (.tup [P1,P2]) (.int 1)=0#P2:=rfl;have e4:gA "bool" (.bl b)=some true:=rfl;generalize D.tup [P1,P2]=PP,D.bl b=BB at*;have s:∀o4 o5,jD GA [.val (af ag 0 1#0),.val (af ag 0 1#1),.val (aa 3)] [pS PP,pS A,pS B,pS d,o4,o5]=.ok (.pure BB) [pS PP,pS A,pS B,pS d,o4,o5]:=λj j=>qah (c8 rfl rfl x1) (c8 rfl rfl x2) rfl g;exact zj3 (nz (S':=[pS PP,pS A,pS B,pS d,pS BB,none]) (cz (c_3 (f1:=aa 1) (f2:=aa 2) (f3:=aa 3) rfl rfl rfl k) rfl) (nz (S':=[pS PP,pS A,pS B,pS d,pS BB,pS BB]) (cz (s _ _) rfl) (rt (LA (fY rfl e4) (LA (c8 (g:=aq 4) rfl rfl e3) (df (g:=aq 4) (s _ _) rfl e3))))))
theorem zfV{h:Nat}{bs:8#0}(p:eY h w bs n zs)(p':eY h' w' bs' n' bf){t:Nat}(ht:t=1\/t=2)(jZ:t'=1\/t'=2)(e:g9 h w h' w'=.tup [.int (t:Int),.int (t':Int)]){B:8#0}(z:Rz h w bs t B)(z':Rz h' w' bs' t' B')(eh:h^t=h'^t')(ew:w^t=w'^t')(c:Cn (h^t) (w^t) B B' n n' zs bf){d:D}(hd:Th d):r9 [.pure (.tup [aP h w bs n zs,aP h' w' bs' n' bf]),.pure (aP (h^t) (w^t) B n zs),.pure (aP (h^t) (w^t) B' n' bf),.pure d]=some (.pure (.bl true),[.pure (.tup [aP h w bs n zs,aP h' w' bs' n' bf]),.pure (aP (h^t) (w^t) B n zs),.pure (aP (h^t) (w^t) B' n' bf),.pure d]):=by
 obtain⟨b1,i1,g1⟩:=zfY p p' ht jZ e z z' eh ew hd;obtain⟨b2,g2,i2⟩:=qau c hd;have:b1=b2:=by rw[Qu];exact i1.trans i2.symm
 subst this;rw[r9,IU];exact zfZ jd pq g1 g2
theorem Mt(h1:PD 8 d1)(h2:PD 8 d2)(hp:bO pd):∃ba,bO ba/\my ce [.own pd,.pure (.tup [d1,d2])]=some (.pure (.bl true),[.own ba,.pure (.tup [d1,d2])]):=by
 obtain⟨h,w,bs,n,zs,rfl,p,l⟩:=h1;obtain⟨h',w',bs',n',bf,rfl,p',l'⟩:=h2;have a1:=p.R.h1;have a2:=p.R.w1;have b1:=p'.R.h1;have b2:=p'.R.w1;have g:=zaN (h:=h) (w:=w) (h':=h') (w':=w') (bs:=bs) (bs':=bs') Y' Y' Y' Y';have i1:j7 false .aD .aD=0#(.bl true):=rfl;rw[my,IV];rcases zdX p.R.h0 a1 p.R.w0 a2 p'.R.h0 b1 p'.R.w0 b2 with e|⟨t,t',ht,jZ,e,eh,ew,hs,iq⟩<;>rw[e]at g;.have u1:=Ms (ce:=ce) p p' e (.tup []);have u2:=Ms (ce:=ce) p p' e .aD;exact⟨pd,hp,Run⟩
 .obtain⟨B,z,gz⟩:=Mj p ht hs;obtain⟨B',z',gz'⟩:=Mj p' jZ iq;rw[<-eh,<-ew]at gz';have o:Bo (h^t) (w^t) B B':=⟨z.R,%[eh,ew|z'.R]⟩;have c:Cn (h^t) (w^t) B B' n n' zs bf:=⟨o,%[z.fst|p.f],%[z'.fst|p'.f],%[z.fst|p.p],%[z'.fst|p'.p]⟩;have n0:=o.R1.n0;have n1:=o.R1.n1;have m0:=o.R2.n0;have ln:br (.lst ((B.map (·.1)).map da))=0#(.int B.length):=#v[br];obtain⟨i,fz,gd,i1',hp1⟩:=gq hp (z:=B.length);obtain⟨a,ha,xa⟩:=sE (ts:=B.map (·.1)) (q:=i) Re;obtain⟨b,hb,xb⟩:=sE (ts:=B'.map (·.1)) (q:=0) (~~~m0);obtain⟨qs,q1,q2,q3,q4,q5,q6⟩:=Bb o (f1:=.str [n]) (f2:=.str [n']) (p1:=.tup (zs.map aj)) (p2:=.tup (bf.map aj)) (C:=.lst [aj (n,n')]) (ps:=[(n,n')]) (λq hq=>by rw[Qe]at hq;subst hq;exact iO.mpr ⟨c.f1,c.f2⟩) (.inl rfl);obtain⟨rs,r1,r2,r3,r4,r5,r6⟩:=Bb o (f1:=.str [n]) (f2:=.str [n']) (p1:=.tup (zs.map aj)) (p2:=.tup (bf.map aj)) (C:=.lst [aj (n,n'),aj (a,b)]) (ps:=[(n,n'),(a,b)]) (λq hq=>by
 simp only[Wq,JV,or_false]at hq;rcases hq with rfl|rfl;.exact iO.mpr ⟨c.f1,c.f2⟩
 .exact iO.mpr ⟨ha,hb⟩) (.inl rfl);have xb:ag _ (.int 0)=_:=xb;have lU:o.U.length<=676:=by rw[LS,Wd,Wd];exact Jv n1 o.R2.n1
  have lq:qs.length<=676:=Wy (Nd.len ⟨wa q1,q2⟩) lU;have lr:rs.length<=676:=Wy (Nd.len ⟨wa r1,r2⟩) lU;have q0:0<qs.length:=List.length_pos_of_mem (q4 _ Wi);have rd:=λpd hp=>qax (pd:=pd) o.R1 (.str [n]) (.tup (zs.map aj)) (aP (h^t) (w^t) B' n' bf) q0 Y' hp;have rr:=λd hd=>zfV p p' ht jZ e z z' eh ew c (d:=d) hd;have t1:=mB o.R1;have t2:=mB o.R2;have i2:j7 false (.tup [.int t,.int t']) .aD=0#(.bl false):=rfl;have tq:Th (.tup (qs.map aj)):=lb Re (wg qs);have tr:Th (.tup (rs.map aj)):=lb Re (wg rs);generalize hx:bq _ _ _ _=X;obtain⟨y,hx,hy⟩:=gF hx rfl;clear q3 q4 q5 r3 r4 r5 q1 q2 r1 r2 eh ew e;generalize qs.map aj=Q at*;generalize rs.map aj=R at*;replace hx:=fw hx nF;generalize hE:bI [11] _ _ _ _=E at hx;obtain⟨Z,hδ,hx⟩:=nm hx;have r4:=qM 4 Y';obtain⟨ds,SZ,c,⟨eZ,s8,hp2,h8,e'⟩,xl,xr⟩:=Hl hE (Z:=Z) (S':=Z) (ds:=c_ 0 4) (by subst hδ;exact r4 _) #v[c_] (λSZ=>∃pd s8,bO pd/\(s8=.own (.lst Q)\/s8=.pure (.lst Q))/\SZ=(some (.own pd)::Z.tail).set 8 (some s8)) (λj x=>Th x) ⟨fz,.own _,hp1,.inl rfl,by subst hδ;rfl⟩ (λd hd SZ hh=>by obtain⟨pd,s8,hp,h8,e⟩:=hh;subst hδ e;clear hx hE;obtain⟨x,ba,hx,bJ,g⟩:=rd pd hp;rcases h8 with rfl|rfl<;>exact⟨_,_,.pure x,_,rfl,rfl,cT,by exact⟨ba,.pure _,bJ,.inr rfl,rfl⟩,hx⟩) (by subst hδ;rfl);subst hδ e';clear hE h8;have ld:ds.length=4:=by rw[xl];simp[c_]
  have ad:=iQ [.tup Q,.tup R] ds Re;have td:∀d∈[D.tup Q,.tup R]++ds,Th d:=λd hd=>by
   rcases WK.mp hd with hd|hd;.simp only[Wq,JV,or_false]at hd;rcases hd with rfl|rfl<;>assumption
   .exact yG (Q:=Th) xl xr (λj j j h=>h) d hd
  have lL:([D.tup Q,.tup R]++ds).length=6:=#v[ld];generalize[D.tup Q,.tup R]++ds=L at*;replace hx:=fw hx nF;generalize hE:bI [12] _ _ _ _=E at hx;obtain⟨Z,hδ,hx⟩:=nm hx;have al:=ZZ L;have c:E Z=.ok (.own (.lst (L.map λj=>.bl true))) (Z.set 10 0#(.lst L)):=by rw[<-hE,<-hδ];exact cM (λd=>d) (λj=>D.bl true) (as:=L) (S':=[_,_,_,_,_,_,_,_,_,_,0#(.lst L),_,_]) (by rw[List.map_id'];rfl) Y' λd hd=>by have r:=rr d (td d hd);exact⟨_,_,.pure (.bl true),_,rfl,rfl,cT,by rfl,rfl⟩
  generalize(L.map λj=>D.bl true)=TT at*;subst hδ;clear hE;rw[hy (hx.symm.trans cT).symm rfl];exact⟨eZ,hp2,rfl⟩
theorem zgs{GP:DF}{nX:D}{c:Int}(o2 o3:Option S){fz eZ k9 gJ:D}(e1:GP [.pure (.int c)]=some (.own fz,[.pure (.int c)]))(e2:GT [.own fz]=some (.pure (.tup [d1,d2]),[.own eZ]))(e3:GR [.own eZ,.pure (.tup [d1,d2])]=some (.pure (.bl true),[.own k9,.pure (.tup [d1,d2])]))(e4:GR [.own k9,.pure (.tup [d1,d1])]=some (.pure (.bl true),[.own gJ,.pure (.tup [d1,d1])])):ar (az (ay GP [.val (aa 1)]) (ah [] 2)) (ar (az (ay GT [.io 2]) (ah [] 3)) (aX (dg (cR (aA (ay GR [.io 2,.val (aa 3)]))) (cR (aA (ay GR [.io 2,.val (aO (ao (af ag 3 1#0) (ao (af ag 3 1#0) aF)))])))) (aI (eD (.bl false))) aW)) [0#nX,0#(.int c),o2,o3]=.ok .next [0#nX,0#(.int c),some (.own gJ),0#(.tup [d1,d2])]:=by have x:ag (.tup [d1,d2]) (.int 0)=0#d1:=rfl;generalize D.tup [d1,d2]=Q at*;simp[az,aA,af,bW,aq,aa,S.d,ay,bB,cP,dk,cD,bS,bp,e1,e2,e3,e4,x]
theorem zfX(ns:List Int)(hn:ns.length<=63):r_ ce [.pure (.lst (ns.map .int))]=some (.pure (.bl true),[.pure (.lst (ns.map .int))]):=by
 obtain⟨c0,e0⟩:=ZN ns;have ha:aQ (.lst [.int c0]) (.lst (cf (ns.map .int) (some 1) (some 4)))=some (.own (.lst ((c0::cf ns (some 1) (some 4)).map .int))):=by
  have hc:cf (ns.map D.int) (some 1) (some 4)=(cf ns (some 1) (some 4)).map D.int:=by unfold cf;simp[List.map_take,List.map_drop]
  have hl:(cf ns (some 1) (some 4)).length<=63:=Wy (Dc _ _ _) hn;rw[hc,iQ _ _ Re];rfl
 have hs:cW (some 1) (some 4) (.lst (ns.map .int))=some (.own (.lst (cf (ns.map .int) (some 1) (some 4)))):=rfl;generalize D.lst (ns.map .int)=nX at*;obtain⟨SZ,e,o1,o2,o3,rfl⟩:=uX (g:=ah [] 1) (b:=ar (az (ay oX [.val (aa 1)]) (ah [] 2)) (ar (az (ay o_ [.io 2]) (ah [] 3)) (aX (dg (cR (aA (ay (my ce) [.io 2,.val (aa 3)]))) (cR (aA (ay (my ce) [.io 2,.val (aO (ao (af ag 3 1#0) (ao (af ag 3 1#0) aF)))])))) (aI (eD (.bl false))) aW))) (λj Z=>∃(o1 o2 o3:Option S),Z=[0#nX,o1,o2,o3]) ((c0::cf ns (some 1) (some 4)).map .int) 0 [0#nX,none,none,none] ⟨none,none,none,rfl⟩ λi d Z hd⟨o1,o2,o3,e⟩=>by subst e;simp only[Ws,Qo]at hd;obtain⟨k,_,rfl⟩:=hd;obtain⟨fz,e1,p1⟩:=ZM k;obtain⟨d1,d2,eZ,h1,h2,p2,e2⟩:=qal p1;obtain⟨k9,p3,e3⟩:=Mt (ce:=ce) h1 h2 p2;obtain⟨gJ,p4,e4⟩:=Mt (ce:=ce) h1 h1 p3;exact⟨_,_,rfl,zgs o2 o3 e1 e2 e3 e4,_,_,_,rfl⟩
 generalize(c0::cf ns (some 1) (some 4)).map D.int=cs at*;generalize D.lst (cf (ns.map .int) (some 1) (some 4))=cl at*;rw[r_,zx];have qi:a7 (au aQ (cC (ao (ay oW [.val (aa 0),.val 3#0]) aF)) (ae (c9 0 (bK 3#1) (bK 3#4)))) [0#nX,none,none,none]=.ok cs [0#nX,none,none,none]:=by simp[k8,ay,bB,cP,cD,aa,bS,e0,bp,au,c9,bK,aq,S.d,hs,ha]
 exact sj ((bL ((dB qi).trans e)).trans rfl)
end
def Gt:DF:=λss=>match ss with
 |[.pure (.lst ds)]=>match j9 ds with|some ns=>if ns.length<=63 then some (.pure (.bl true),ss)else none|none=>none
 |_=>none
theorem qaz(ns:List Int)(h:ns.length<=63):∃aG,Gt [.pure (.lst (ns.map .int))]=some (.pure (.bl true),aG):=by unfold Gt;simp only[Lake.ints_map,h,if_true];exact⟨_,rfl⟩
theorem Mu:∀{ds:List D}{ns:List Int},j9 ds=some ns->ds=ns.map .int|[],ns,h=>by simp[j9]at h;subst h;rfl|d::r,ns,h=>by cases d with
 |int i=>simp only[j9]at h;cases e:j9 r with|none=>rw[e]at h;cases h|some m=>rw[e]at h;cases h;rw[Mu e];rfl
 |_=>simp[j9]at h
universe H in theorem qaA:∀ce ss y,Gt ss=some y->r_ ce ss=some y:=by
 intro ce ss y h;unfold Gt at h;split at h;.rename_i ds;cases hi:j9 ds with|none=>rw[hi]at h;cases h|some ns=>
   rw[hi]at h;by_cases hn:ns.length<=63;.simp only[hn,if_true]at h;cases h;have e:=Mu hi;subst e;exact zfX ns hn
   .simp only[hn,if_false]at h;cases h
 .cases h
end Lake.K60
open PySem PySem.W PyProof.Rows
namespace PySem.W.Fast
def tw4204291419155037948:=0
def tw15124495961299040116:=0
def tw14201754649214464424:=0
def tw4453596284693607954:=0
def tw12705095275933187382:=0
def tw1508400148912770271:=0
def tw7217391641309035184:=0
def tw294042806226309306:=0
def tw72854382689907690:=0
def tw2579252950249388363:=0
def tw12676536137557912274:=0
def tw5004229516336537641:=0
def tw8402133947480857882:=0
def tw12996176333369187640:=0
def tw4631828260557640050:=0
def tw16254384230965944056:=0
def tw12664225827790557031:=0
def tw1757426309924310041:=0
def tw8613299135383649683:=0
def tw16072562271051293393:=0
def tw7952057278796353626:=0
def tw5531927527559226435:=0
def tw7887837160117424009:=0
def tw17520820810153477520:=0
def tw13474156983770850622:=0
def tw5187071989133954449:=0
def tw16991312956784972561:=0
def tw16770381449984064924:=0
def tw11786132279032589161:=0
def tw2392477090859568172:=0
def tw9053402465849831108:=0
def tw4510880775257443648:=0
def tw14095071275592715067:=0
def tw17396247762716595420:=0
def tw6445062974788211183:=0
def tw14757679737502576051:=0
def tw3562239649923584181:=0
def tw7499659320490428608:=0
def tw2943355865420164697:=0
def tw3069462533398316352:=0
def tw5532799324283321981:=0
def tw8318341775539425795:=0
def tw3465453439745718645:=0
def tw14696662318584214522:=0
def tw11394617974596341941:=0
def tw15319598583791660272:=0
def tw17414458750527579662:=0
def tw5920934486637677314:=0
def tw178430650918406883:=0
def tw16773145692167128343:=0
def tw10056567638985847862:=0
def tw15263723621839885076:=0
def tw13898145320603956496:=0
def tw16787563776780379441:=0
def tw17005560007340780724:=0
def tw7890622798842461393:=0
def tw9082641615549445034:=0
def tw3016603140910067297:=0
def tw16095853532131899539:=0
def tw4394696940766357440:=0
def tw12006208420009697055:=0
def tw2135196179608529198:=0
def tw3221175492416824462:=0
def tw2202990536905445635:=0
def tw16609449861550720267:=0
def tw12501363903666315087:=0
def tw6204270358173605764:=0
def tw5432127587817215933:=0
def tw2534212179028061216:=0
def tw6985331988149348989:=0
def tw3131049573951011119:=0
def tw9755591848272681481:=0
def tw15955717547003389580:=0
def tw11035356797429878814:=0
def tw239168963338692596:=0
def tw18393620333664904387:=0
def tw1650640909657220735:=0
def tw15112889407026053626:=0
def tw3139299097084897:=0
def tw2034906987771015643:=0
def tw2962260663208089431:=0
def tw14209949559130863170:=0
def tw13068007691394827346:=0
def tw9977843998568236292:=0
def tw4976596322768861950:=0
def tw14457670856520207190:=0
def tw9073612951897588825:=0
def tw12514045652673910735:=0
def tw9337480240068581605:=0
def tw2027969831158205370:=0
def tw9429674554496672745:=0
def tw6473403755617578825:=0
def tw9419724884995565763:=0
def tw17554970331552743930:=0
def tw17406363875908164610:=0
def tw12337787948187748233:=0
def tw3254386631862519767:=0
def tw6691701451787602537:=0
def tw11156886818377097536:=0
def tw16654931745431966479:=0
def tw3385690950096987032:=0
def tw15615412104534739128:=0
def tw5776586768780641969:=0
def tw10435508424038894893:=0
def tw876268160440553008:=0
def tw13610886545194027649:=0
def tw7516638744996599445:=0
def tw12072651907750939282:=0
def tw12241550552703578097:=0
def tw3465759241111264400:=0
def tw5218673714356829453:=0
def tw1588113025418595582:=0
def tw13831468710988443620:=0
def tw17129771674714274918:=0
def tw17562679170644321020:=0
def tw17377110171104042030:=0
def tw17862704369364908950:=0
def tw15118185139110147384:=0
def tw16102553121314382024:=0
def tw8193755442111710450:=0
def tw6716703043279960779:=0
def tw6676577474232985659:=0
def tw8719712574031376606:=0
def tw15190118778040615145:=0
def tw13916643108353339556:=0
def tw11709015212107349665:=0
def tw17031148585912540412:=0
def tw9994869669363589287:=0
def tw9921038400620141779:=0
def tw6319015547005777917:=0
def tw5540173864202995900:=0
def tw9062415856974042331:=0
def tw10168403773960408346:=0
def tw1609747942328596567:=0
def tw15412469148646053768:=0
def tw13075703976816485282:=0
def tw17349546665349672728:=0
def tw15343999395150763058:=0
def tw6176083542224718748:=0
def tw14806364900137138943:=0
def tw9628517803294212126:=0
def tw12988295764368700393:=0
def tw10891464958573430688:=0
def tw10524281509662134332:=0
def tw6142842028783897222:=0
def tw4622887748513032078:=0
def tw3478316595659648454:=0
def tw12102581011107961289:=0
def tw7868040969959975250:=0
def tw4846454311253422479:=0
def tw17897591496534019886:=0
def tw1060655023013478017:=0
def tw14989976586068748749:=0
def tw4896546773496453661:=0
def tw2443214983802166328:=0
def tw173064585392663722:=0
def tw2827708587425216494:=0
def tw5863411652967369021:=0
def tw12910789126529530179:=0
def tw2278933093957296220:=0
def tw4262044971596676781:=0
def tw420537781871230448:=0
def tw8676952141989528433:=0
def tw8630762440582590049:=0
def tw16203019270346093718:=0
def tw4982346036400416485:=0
def tw933205537556211405:=0
def tw13673987788565456560:=0
def tw13926654921748673602:=0
def tw1288305946385206669:=0
def tw2367100301205649931:=0
def tw14576303012269609943:=0
def tw1030123351083860468:=0
def tw5050125675118841754:=0
def tw8299752532964923874:=0
def tw9978982649362011492:=0
def tw15011516544683986591:=0
def tw2490025882488697407:=0
def tw13660751002014672535:=0
def tw1443406695733320439:=0
def tw13344471909805136103:=0
def tw765114660131882403:=0
def tw6811976846973679465:=0
def tw15576571855040953328:=0
def tw16781796622784491622:=0
def tw8917226474111564941:=0
def tw13433326442129324369:=0
def tw1821035246063859570:=0
def tw14806708457090881231:=0
def tw1380838229067668017:=0
def tw16293077143075181035:=0
def tw533849932293729625:=0
def tw7690781336725436649:=0
def tw14821167206423619089:=0
def tw9767963970994915706:=0
def tw5006147190479296621:=0
def tw6422037267013210702:=0
def tw4048790684249668143:=0
def tw14522026411008063676:=0
def tw2045337603074916424:=0
def tw2453623421410434009:=0
def tw9336027150842832735:=0
def tw9171087469579084826:=0
def tw11731154184308395585:=0
def tw2492170523272330916:=0
def tw5945399521345450505:=0
def tw824247416314750759:=0
def tw12495730388912992662:=0
def tw4155667031450088558:=0
def tw16463979699854407505:=0
def tw6690549727691822191:=0
def tw10736108700010459306:=0
def tw17490322180778695815:=0
def tw7898297223756143538:=0
def tw11223228203963457253:=0
def tw3660339309533927743:=0
def tw7476644659005835445:=0
def tw8803364048598021199:=0
def tw8333291874636861934:=0
def tw10826340579623690850:=0
def tw5813715668004571676:=0
def tw4309886962534956451:=0
def tw11431069492064424809:=0
def tw4299175333040456830:=0
def tw6334533683146929172:=0
def tw18230165487846529806:=0
def tw5335738960082415249:=0
def tw6839348746052800659:=0
def tw2642102266270721922:=0
def tw3961731798728925029:=0
def tw10117696675920665266:=0
def tw10649213431957405224:=0
def tw13067576498479777382:=0
def tw8208755464012409430:=0
def tw11727621711676546115:=0
def tw7897870178643301653:=0
def tw15135719897127150139:=0
def tw6578793023771008207:=0
def tw11663561673418380287:=0
def tw2107151641678782911:=0
def tw17431624039587730974:=0
def tw13880664921743611840:=0
def tw13055060790111446298:=0
def tw7338856726549618938:=0
def tw17986174653346113932:=0
def tw9314131180223235444:=0
def tw4460977642735292403:=0
def tw3329091601462126932:=0
def tw14200031293832995517:=0
def tw4698063180890370518:=0
def tw5673023733591116695:=0
def tw32433552987222745:=0
def tw3323917010192877649:=0
def tw11383957099501033569:=0
def tw3323565505898022484:=0
def tw12382773844410393278:=0
def tw11750424454044514394:=0
def tw13799090659880866389:=0
def tw2006277560536624178:=0
def tw17156257202239414724:=0
def tw10470797441479028164:=0
def tw11572421793793298787:=0
def tw12548409346091420803:=0
def tw14804566695142606891:=0
def tw17136748420616765925:=0
def tw3436589776647096348:=0
def tw2586016981488248103:=0
def tw14571416639727546016:=0
def tw4196917447581953031:=0
def tw11159559127538267018:=0
def tw14626897336203252828:=0
def tw16450624769794095790:=0
def tw863249376589920444:=0
def tw18204559834573990162:=0
def tw10816320186456560363:=0
def tw7485735623489958532:=0
def tw17717018010866241667:=0
def tw10897407280893531351:=0
def tw10851568535767603600:=0
def tw16643607628045947342:=0
def tw851805447464506987:=0
def tw16019597113581752881:=0
def tw17444162878094634733:=0
def tw14111788612143054699:=0
def tw4242684233425481978:=0
def tw6481893960479872833:=0
def tw8992060444696313767:=0
def tw7360620820412617618:=0
def tw5332320159467549467:=0
def tw16178571058430039207:=0
def tw4339936122199407295:=0
def tw911956650450631994:=0
def tw4063090653656295844:=0
def tw3065299948204997250:=0
def tw933876644196144601:=0
def tw12085600051652196708:=0
def tw13715407751795873758:=0
def tw8236794393338933553:=0
def tw9276702569835014469:=0
def tw2990690024345863163:=0
def tw6291350082172102007:=0
def tw7474645240112456862:=0
def tw7332513099652466709:=0
def tw16387846723290362000:=0
def tw8281530497871515864:=0
def tw4749312419463949174:=0
def tw14518684637762544525:=0
def tw9571020979092093222:=0
def tw18089132777686451002:=0
def tw4489509074053351113:=0
def tw15076479197815914806:=0
def tw13384801527987653156:=0
def tw7648647237509786470:=0
def tw9406011438246142464:=0
def tw4009994745577599665:=0
def tw10611716847327501492:=0
def tw5618389967827410439:=0
def tw6957592923949940227:=0
def tw4407635718709156737:=0
def tw6374580644476315120:=0
def tw10132176418155380187:=0
def tw493417965601403418:=0
def tw5953937669493504249:=0
def tw14212182936141181145:=0
def tw3507885514825578521:=0
def tw6972712109394920253:=0
def tw2758205174231908392:=0
def tw6947194229398330729:=0
def tw753763468709216031:=0
def tw5312464760587021769:=0
def tw12243427279151498819:=0
def tw17984397573559448911:=0
def tw15059920241677304735:=0
def tw351156615184725794:=0
def tw6605724507479241159:=0
def tw2499068234769511432:=0
def tw10877392101951233440:=0
def tw5054027770983552957:=0
def tw14635802892259198308:=0
def tw12049000298510399124:=0
def tw15388955685919570986:=0
def tw4457283384264120050:=0
def tw11863326644729720121:=0
def tw2980344169746524341:=0
def tw4804740749043028793:=0
def tw16306364953106114898:=0
def tw11549106142023769715:=0
def tw3586627610432774827:=0
def tw4303272172928357155:=0
def tw2684808561908912054:=0
def tw7738743820194608541:=0
def tw15342018239046871678:=0
def tw4211652648603374048:=0
def tw9155915657328840863:=0
def tw2406528596767620413:=0
def tw13070610344382666975:=0
def tw17558719097909128072:=0
def tw16507752918627506009:=0
def tw5836235302637552767:=0
def tw1431232669445363873:=0
def tw16457972488523142091:=0
def tw10654832388924380436:=0
def tw5196513550279223766:=0
def tw9523941586996436399:=0
def tw11014174683116295156:=0
def tw2227412755625133791:=0
def tw17886844661675637689:=0
def tw4887599660372198996:=0
def tw15595571855110834097:=0
def tw11150817381591229708:=0
def tw5177412240752557673:=0
def tw3827026916276564601:=0
def tw13764864585001868214:=0
def tw3045950246958263834:=0
def tw17371543000619949125:=0
def tw2659534419080540006:=0
def tw1525392438073102203:=0
def tw5407049635057992824:=0
def tw14970661649912816330:=0
def tw4512362503230883765:=0
def tw16807634476633796393:=0
def tw2679982087722312609:=0
def tw5184359639407723323:=0
def tw6189572077308401689:=0
def tw18218995354005843327:=0
def tw15542590748626329081:=0
def tw18046421271038030885:=0
def tw9428598461635751568:=0
def tw4690066818175655384:=0
def tw9312968397720675941:=0
def tw10288091515596709020:=0
def tw9796997017799508638:=0
def tw9748818846358078704:=0
def tw2288264031746004922:=0
def tw17803048285335435007:=0
def tw12860039551255580288:=0
def tw1302894404853215333:=0
def tw17013908445912628141:=0
def tw1972439165788513068:=0
def tw9169702633084362330:=0
def tw5621600219916651826:=0
def tw10099917313389967041:=0
def tw14607105074774239705:=0
def tw16518307033245542081:=0
def tw8757957996091892019:=0
def tw9312699146406001786:=0
def tw11716612655690061608:=0
def tw16672771627291118879:=0
def tw16204207179790188589:=0
def tw12373490213520433162:=0
def tw8888078615821153146:=0
def tw11707175506019356425:=0
def tw8716908036877494639:=0
def tw18018631323524614239:=0
def tw1180285223217752020:=0
def tw3226432664952696417:=0
def tw5215426885743567832:=0
def tw18124161703971804312:=0
def tw2358948693986445855:=0
def tw1510301945023949210:=0
def tw6402909256182871720:=0
def tw5935296633642091344:=0
def tw17228574551190772264:=0
def tw8155141555050355301:=0
def tw17943246228089505212:=0
def tw13832290023786654832:=0
def tw14694380497785660445:=0
def tw17977349314513160540:=0
def tw1629276301748227515:=0
def tw12764785695692877819:=0
def tw7067990089280204059:=0
def tw17399544903693906693:=0
def tw4763998265167865972:=0
def tw11166076477162252853:=0
def tw10543038549180465711:=0
def tw16727180236260686425:=0
def tw656237156201671819:=0
def tw16299480645764260566:=0
def tw5913277371431543029:=0
def tw7178001928305874055:=0
end PySem.W.Fast
set_option maxRecDepth 100000 in
set_option maxHeartbeats 0 in
theorem PySem.Challenge.cw_tilegrow_k60_alike_by_anybody_holds : PySem.Challenge.rw_tilegrow_k60_alike_by_anybody.Holds := by
 w_on; o_law; k_head; (case hw=>w_witness2)
 k_fill
 refine Lake.TC (l:=PySem.Challenge.rw_tilegrow_k60_alike_by_anybody) (k:=8) (G:=Lake.K60.Gt) rfl rfl ⟨rfl,Z',Z'⟩ (λw h M'=>PySem.W.kIn_of M') ?L Lake.K60.qaz ?F
 case L=>intro p; exact Eq.refl true
 case F =>
  intro w mg fa h KX G p_;refine' Lake.K60.all_mk Lake.K60.qaA KX G p_ ?d0 ?d1 ?d2 ?d3 ?d4 ?d5 ?d6 ?d7 ?d8 ?d9 ?zA ?zB ?zC ?zD ?zE ?zF ?zG ?zH ?zI ?zJ ?zK ?zM ?zN ?zO ?zP ?zQ ?zR ?zS ?zT ?zU ?zV ?zW ?zX ?zY ?zZ ?z6 ?z7 ?z8 ?z9 ?z_ ?Aa ?Ab ?rA ?rB ?rC ?rD ?rE ?rF ?rG ?rH ?rJ ?rK ?rL ?rM ?rN ?rO ?rP ?Ac ?Ad ?Ae ?Af ?Ag ?vJ ?Ah ?Ai ?Aj ?Al ?Am ?An ?Ao ?Ap ?Aq ?Ar ?As ?Au ?Aw ?jf ?Ax ?Ay ?Az ?AA ?AB ?AD ?AE ?AF ?AG ?AH ?AI
  (case d0|d1|d2|d3|d4|d5|d6|d7|d8|d9|zA|zB|zC|zD|zE|zF|zG|zH|zI|zJ|zK|zM|zN|zO|zP|zQ|zR|zS|zT|zU|zV|zW|zX|zY|zZ|z6|z7|z8=>exact⟨_,_,_,_,_,_,_,_,_,_,by k_is,by k_is,by k_is,by k_is⟩)
  (case z9|z_|Aa|Ab|rA|rB|rC|rD|rE|rF|rG|rH|rJ|rK|rL|rM|rN|rO|rP|Ac|Ad|Ae|Af|Ag|vJ|Ah|Ai|Aj|Al|Ao|Ap|Aq|Ar|As|Au|Aw|jf|AI=>k_is)
  (case Am|An=>kernel_rfl)
  (case Ax|Ay|Az|AA|AB|AD|AE|AF|AG|AH=>kit_is)
