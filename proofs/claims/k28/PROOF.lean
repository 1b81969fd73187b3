import PyProof.Rows.All
import Wide.All
import OpenK.AllK
import Lean
import PySem.Challenge.RW_tilegrow_k28_closed_by_anybody
noncomputable section
set_option compiler.extract_closed false
open PySem renaming wpAny_bind→W0,Shared→W1,wpAny_pure→W3,sizeLine→W7,wpAny→W8,starEach→Wa,Program→Wk,Around→Wp,mainGlobals→Wr,Spec→Ww,World→Wx,compareOp→WC,mem_of_lookup→WI,cLine→WK,wpAny_holding→WP,FuncData→Q0,wpAny_newObj_type→Q5,wpAny_mono→Q7,sizeLine_eq→Qi,wpAny_call_entry→Qm,backTo→Qp,wpAny_truthy_bool→Qq,wpAny_callSpecial?_slot→Qu,assignEach→Qv,binaryOp→Qw,wpAny_loadPart_at→QA,sysModules→QC,wpAny_rule→QF,bootBuiltins→QH,cellsFrom→QK,wpAny_field→QM,rawInt→QU,wpAny_typeOf→QX,codeAny→J4,attributeBase→Ja,wpAny_typeNameOfWhole_keyiter→Jb,call_meets→Jf,swapsWith→Jg,wpAny_Call_Name_kw→Jh,wpAny_passesOwn→Jk,foldedSetIterable→Jq,pyNext→JE,wpAny_dictEntries→JJ,wpAny_notOrdered_dict→JM,numAt→JP,behindInMarks→JU,getItem→JV,sliceBounds→JW,wpAny_execs_nil→U0,wpAny_loadPart'→U1,codeAny_mono→U4,pushCells→U5,noteFrame→U6,getattributeRaised→U8,wpAny_setField→Ud,wpAny_sequenceKey→Ue,wpAny_pyIter_list→Ug,keywordEach→Ui
open PySem.W renaming Frag→W2,mg_none_of→WX,kia_one→Qk,fnOf→QL,kitOne→QP,keepIn→QQ,cellsFrom_some→JG
open List renaming getElem?_eq_getElem→W4,replicate→W9,getElem?_set_ne→Wc,getElem?_eq_some_iff→Wd,size_toArray→We,mem_cons_of_mem→Wh,mem_cons→Wi,map_cons→Wj,range→Wl,getD_eq_getElem?_getD→Wo,length_map→Wq,mem_singleton→Ws,mem_append→Wu,length_append→Wy,mem_cons_self→WA,getElem?_set_self→WB,getElem?_map→WD,length_cons→WE,mem_map→WH,getElem?_eq_none→WJ,append_assoc→WL,mem_of_getElem?→WQ,pairwise_append→WR,append_nil→WT,getElem_mem→WU,all_eq_true→WV,mem_append_right→Q1,getElem?_set→Q6,map_map→Q9,find?_cons→Qa,map_append→Qb,replicate_succ→Qc,mem_of_mem_take→Ql,lookup_cons→Qn,getElem?_append_left→Qo,nil_append→Qt,mem_of_mem_drop→Qx,getElem?_append_right→Qy,mem_map_of_mem→QB,drop_eq_getElem_cons→QG,any_cons→QJ,take_of_length_le→QN,length_singleton→QR,length→QS,nodup_cons→QV,getElem?_take_of_lt→QW,length_set→QY,length_nil→QZ,ext_getElem?→J5,getElem?_drop→Jj,foldl_cons→Jl,flatten_cons→Jr,flatMap_cons→Js,mem_iff_getElem→Jt,not_mem_nil→Jy,filterMap_cons→Jz,length_pos_of_mem→JH,pairwise_map→JK,mem_append_left→JO,any_eq_true→JQ,map_congr_left→JX,length_reverse→JY,contains_cons→U9,toArray→Ua,map_inj_right→Ub,pairwise_cons→Uc,all_cons→Uj,map_take→Uk,map_drop→Ul,length_take→Um,of_mem_zip→Uq,all_map→Ur
open Nat renaming le_refl→W5,le_trans→WF,lt_of_lt_of_le→WG,mul_le_mul→WN,zero_le→Q2,ne_of_lt→Qd,lt_irrefl→QO,mul_pos→QT,add_comm→J3,add_assoc→Jp,mul_comm→Jw,succ_mul→Jx,le_of_lt→JL,mul_le_mul_right→JT,min_eq_left→U2,zero_add→U7,le_add_right→Uo,sub_zero→Us
open PySem.Heap renaming get?_push_of_some→W6,lt_size→Wm,get?_push_size→Wv,get?_update_other→Qf,get?_update_self→Qs,get?_none_of_le→JN,SameBut→U3
open Option.some renaming injEq→Wb,inj→WS
open PyProof.Rows renaming arrOf→Wf,wpS_pure→Wg,wpS_bind→Wt,pendingOf→Wz,seqObj→Q3,slot_tuple_getitem→Qj,wpS_forRange→QI,wpS_mono→J1,envOfC→Ji,setPending→JS
open Bool renaming and_eq_true→Wn,false_ne_true→WW,false_eq_true→WZ,eq_iff_iff→QE,not_false→Jd,not_true→JD,not_eq_true'→JI
open Option renaming map_some→WM,bind_some→WO,isSome_iff_exists→Qr,map_eq_some_iff→Qz,getD_some→Jv,bind_eq_some_iff→JC,isSome_map→Uf
open Array renaming length_toList→WY,toList_append→Q4,getElem?_toList→Qh,getElem_mem→J9,getElem?_eq_some_iff→Jo,toList_reverse→JR
open PySem.Builtin.Str renaming strSliceIndices→Q8,occurrences→JA
open PySem.Builtin.Slice renaming slicePlaces→Qe,sliceAdjust→QD,sliceApplied→Jm
open PySem.Builtin.Tuple renaming tupleExact→Qg,tupleItemsOf→Jn
open PySem.F renaming plainAttrs_list→Jc,slot_dict_keyiterator_next→Je
open PySem.Builtin.List renaming listTooLong→Ju
open PySem.Builtin.Dict renaming updateFrom→JB
open List.cons renaming injEq→JF
open PySem.Heap.SameBut renaming update→JZ
open Int renaming toNat_natCast→Uh
set_option Elab.async false
set_option linter.all false
set_option tactic.hygienic false
set_option maxRecDepth 100000
set_option maxHeartbeats 4000000
theorem Y'{p:Prop}(h:p:=by lia):p:=h
theorem Z'{p:Prop}(h:p:=by decide):p:=h
theorem Zw{p:Prop}(h:p:=by simp):p:=h
theorem Zx{p:Prop}(h:p:=by simp;lia):p:=h
theorem V'{p:Prop}(h:p:=by decide+kernel):p:=h
theorem Re{p:Prop}(h:p:=by simp at hl⊢;lia):p:=h
local macro_rules|`(~~~$x)=>`(by simpa using$x)
local macro_rules|`(#v[$xs,*])=>`(by simp[$[$xs:term],*])
local macro_rules|`(%[$xs,*|$k])=>`(by rw[$[$xs:term],*];exact$k)
local macro_rules|`(tactic|exists$s:str,$_,$_,$_)=>do let i(h:String):=(h.splitOn " ").toArray.map λx=>Lean.mkIdent x.toName;match s.getString.splitOn ";" with|[e,l]=>let e:=i e;let l:=i l;`(tactic|simp[*,$[-$e],*,$[$l:term],*])|_=>`(tactic|fail)
set_option hygiene false
local macro_rules|`(tactic|obtain $p:rcasesPatMed:=$e)=>`(tactic|first|(refine Classical.byContradiction fun v6=>?_;rcases $e:term with $p<;>(try refine v6 ?_)<;>(try clear v6))|rcases $e:term with $p)
set_option hygiene true
set_option backward.eqns.nonrecursive false
set_option genSizeOf false
set_option bootstrap.genMatcherCode false
set_option hygiene false
local macro_rules|`(8#$_)=>`(List (Nat×List Tx))|`(9#$x)=>`({s with heap:=$x})|`($n:num#$x)=>do let a:=(("some Lake.S.pure;ag eD Lake.D.int;;eD Lake.D.int;model prog w;model X.prog X.w;;aY P w K mg base".splitOn ";")[n.getNat]!.splitOn " ").map λx=>(Lean.mkIdent x.toName).1;return if 3<n.getNat then Lean.Syntax.mkApp ⟨a.head!⟩ (a.tail.map (⟨·⟩)).toArray else a.foldr (λf y=>(Lean.Syntax.mkApp ⟨f⟩ #[⟨y⟩]).1) x.1
local macro_rules|`(tactic|intros $x $[$xs]*)=>do let a:=(#[x]++xs).map λx=>(⟨x.raw⟩:Lean.TSyntax `term);`(tactic|intro pins s Y H $a*)
local macro_rules|`(command|universe H in $c)=>`(command|set_option tactic.hygienic true in $c)
set_option hygiene true
namespace Lake
open PySem PySem.Spec PyProof.Rows
variable{A:Wp}{B' O O':Addr->Prop}{C L dl f it sl:Addr}{Cz body tP:List Stmt}{E xe:Value->W1->Prop}{K:W2}{M:Model}{P prog:Wk}{RR:Value->Addr->Result->W1->Prop}{T':String}{XP:(Str->Option Value)->Heap->Prop}{YP:Wx->Heap->Prop}{aQ cd ct doc oc pm u vl vu:Value}{ab g8 m:Bool}{af its' us:List Value}{an dd dx:Option Addr}{apos bu p0 pos pos' pp py:Pos}{base h' hp:Heap}{b₀:Stmt}{ch fp:List Addr}{cs np:List Nat}{d':Drawn}{e elt iter tg:Expr}{env:Env}{ep i n t':Nat}{es ifs:List Expr}{fd:Q0}{fl loose ps sn:List Str}{g':Array GenState}{gU op:CmpOp}{hi lo:Option Int}{items:Array Value}{ju:Array (Option Value)}{kw:List (Str×Value)}{mA mb mg:Str->Option Value}{name qual:Str}{ns:List Int}{oe:Obj}{os:OsState}{outer:List Env}{params:Arguments}{pins pn:List (Addr×Obj)}{s:W1}{sc scope:Scope}{t0:Tok}{tn:Nat->Heap->Prop}{w:Wx}
abbrev Key:=Sum Int Str
def il:Key->Value->Bool|.inl k,v=>Value.isInt k v|.inr x,v=>Value.isStrOf x v
def uY(w:Wx):Key->Int|.inl k=>hashInt k|.inr x=>hashStr w x
theorem kF:∀{k:Key}{v:Value},il k v=true->(∃i t,k=Sum.inl i/\v=Value.int i t)\/∃x t,k=Sum.inr x/\v=Value.str x t|.inl i,v,h=>by obtain⟨t,e⟩:=Value.isInt_shape (k:=i) (v:=v) h;exact .inl ⟨i,t,rfl,e⟩|.inr x,v,h=>by obtain⟨t,e⟩:=Value.isStrOf_shape (x:=x) (v:=v) h;exact .inr ⟨x,t,rfl,e⟩
theorem Ii(i:Int)(t:Tok):il (.inl i) (.int i t)=true:=#v[il,Value.isInt]
theorem Ij(x:Str)(t:Tok):il (.inr x) (.str x t)=true:=#v[il,Value.isStrOf]
theorem Ik(a b:Int):decide ((Sum.inl a:Key)=Sum.inl b)=(a==b):=by grind
theorem Il(a b:Str):decide ((Sum.inr a:Key)=Sum.inr b)=decide (a=b):=by grind
theorem Im(a:Int)(b:Str):decide ((Sum.inl a:Key)=Sum.inr b)=false:=by grind
theorem Io(a:Str)(b:Int):decide ((Sum.inr a:Key)=Sum.inl b)=false:=by grind
def fg(prog:Wk)(w:Wx):PySem.KeyKind prog w Key where
 is:=il
 hash:=uY w
 inj:=λv a b ha hb=>by grind[kF]
 byValue:=λk v h=>by rcases kF h with⟨i,t,rfl,rfl⟩|⟨x,t,rfl,rfl⟩<;>rfl
 pyHash:=λhv h=>by
  rcases kF hv with⟨i,t,rfl,rfl⟩|⟨x,t,rfl,rfl⟩;.exact wpAny_pyHash_int h
  .exact wpAny_pyHash_str h
 eqBool:=λhu hv h=>by
  rcases kF hu with⟨i,t,rfl,rfl⟩|⟨x,t,rfl,rfl⟩
  .rcases kF hv with⟨j,u,rfl,rfl⟩|⟨y,u,rfl,rfl⟩;.rw[Ik]at h;exact wpAny_eqBool_int h
   .rw[Im]at h;exact SeqAt.EqAt.int_str i t y u _ _ _ _ h
  .rcases kF hv with⟨j,u,rfl,rfl⟩|⟨y,u,rfl,rfl⟩;.rw[Io]at h;exact SeqAt.EqAt.str_int x t j u _ _ _ _ h
   .rw[Il]at h;exact wpAny_eqBool_str h
 «strs»:=λk x t v h=>by
  rcases kF h with⟨i,u,rfl,e⟩|⟨y,u,rfl,e⟩;.exact nomatch e
  .injection e with e1 _;subst e1;cases v<;>rfl
theorem Ip(prog:Wk)(w:Wx)(k:Key)(v:Value):(fg prog w).is k v=il k v:=rfl
theorem Iq(prog:Wk)(w:Wx)(i:Int)(t:Tok):(fg prog w).is (.inl i) (.int i t)=true:=Ii i t
theorem Ir(prog:Wk)(w:Wx)(x:Str)(t:Tok):(fg prog w).is (.inr x) (.str x t)=true:=Ij x t
inductive V where|aI|bl(b:Bool)|int(i:Int)|str(x:Str)|byt(b:Array UInt8)|flt(b:UInt64)|ref(a:Addr)|ty(n:String)deriving DecidableEq
variable{Iy:List (Str×V)}{kP mq vs:List V}{kps:List (Key×V)}
def RelV:V->Value->Prop|.aI,u=>u=Value.none|.bl b,u=>u=Value.bool b|.int i,u=>∃t,u=Value.int i t|.str x,u=>∃t,u=Value.str x t|.byt b,u=>∃t,u=Value.bytes b t|.flt b,u=>∃t,u=Value.float b t|.ref a,u=>u=Value.ref a|.ty n,u=>u=Value.type n
abbrev Vals:List V->List Value->Prop:=Paired RelV
theorem Vals.length(r:Vals xs us):xs.length=us.length:=Paired.length r
theorem Vals.get:∀{xs:List V}{us:List Value}{i:Nat}{x:V},Vals xs us->xs[i]?=some x->∃u,us[i]?=some u/\RelV x u|_,_,_,_,.nil,e=>by simp at e|_,_,0,_,.cons r _,e=>by simp at e;subst e;exact⟨_,rfl,r⟩|_,_,i+1,x,.cons _ t,e=>by obtain⟨u,h1,h2⟩:=Vals.get (i:=i) (x:=x) t (~~~e);exact⟨u,~~~h1,h2⟩
theorem Vals.set(r:RelV x u):∀{xs:List V}{us:List Value}(i:Nat),Vals xs us->Vals (xs.set i x) (us.set i u)|_,_,_,.nil=>.nil|_,_,0,.cons _ t=>.cons r t|_,_,i+1,.cons q t=>.cons q (Vals.set r i t)
theorem Vals.append{xs ys:List V}{us ws:List Value}(h:Vals xs us)(s:Vals ys ws):Vals (xs++ys) (us++ws):=by induction h with|nil=>exact s|cons r t ih=>exact .cons r ih
theorem Vals.take:∀{xs:List V}{us:List Value}(n:Nat),Vals xs us->Vals (xs.take n) (us.take n)|_,_,0,_=>.nil|_,_,_+1,.nil=>.nil|_,_,n+1,.cons r t=>.cons r (Vals.take n t)
theorem Vals.drop:∀{xs:List V}{us:List Value}(n:Nat),Vals xs us->Vals (xs.drop n) (us.drop n)|_,_,0,r=>r|_,_,_+1,.nil=>.nil|_,_,n+1,.cons _ t=>Vals.drop n t
def eF:Option V->Option Value->Prop|some v,some u=>RelV v u|none,none=>True|_,_=>False
def KV{κ:Type}:List (κ×V)->List (κ×Value)->Prop:=Paired λ(p:κ×V)(q:κ×Value)=>p.1=q.1/\RelV p.2 q.2
def kV:Key->V|.inl i=>.int i|.inr x=>.str x
inductive NK where|i(z:Int)|s(x:Str)|t(ks:List NK)
variable{xs:List (NK×Value×Value)}
noncomputable instance nkDec:DecidableEq NK:=λa b=>Classical.propDecidable (a=b)
mutual def fz(w:Wx):NK->Int|.i z=>uY w (.inl z)|.s x=>uY w (.inr x)|.t ks=>reduceHash (Builtin.Tuple.tupleHashOf (rA w ks))def rA(w:Wx):List NK->List Int|[]=>[]|k::ks=>fz w k::rA w ks end
inductive HO where|lst(xs:List V)|tup(xs:List V)|dK(ao:List (Key×V))|dT(ao:List (List Key×V))|set(S:Int->Bool)(n:Nat)|ins(C dx:Addr)(fs:List (Str×V))|own(x:Addr)|xd(fs:List (Str×V))|met(f x:Addr)|jP(lo hi:Int)|frz(o:Obj)(u:HO)|tbl(ps:Array Value)|ctab(pos:Pos)(q:Str)|dN(ep:Nat)(ao:List (NK×V×V))|ext(φ:Heap->Prop)
abbrev Hp:=Addr->Option HO
variable{H H':Hp}
def upd(H:Hp)(a:Addr)(o:HO):Hp:=λb=>if b=a then some o else H b
theorem cz:upd H a o a=some o:=by unfold upd;rw[if_pos rfl]
theorem ba(h:b≠a):upd H a o b=H b:=by unfold upd;rw[if_neg h]
theorem Aj{u}:upd (upd H a o) a u=upd H a u:=by funext b;unfold upd;split<;>rfl
theorem fj{a b:Addr}{o:HO}(h:H a=some o)(h':H b=none):a≠b:=by grind
def ip(h:Heap)(a:Addr)(af:Array Value):Prop:=∃n,h.get? a=some {cls:=.type "tuple",dict:=none,data:=.seq af n,slots:=#[]}
theorem ip.tup{h a af}(x:ip h a af):IsTup h a af:=let⟨n,e⟩:=x;⟨_,e,rfl,n,rfl⟩
theorem ip.new(h:Heap)(af:Array Value):ip (h.push {cls:=.type "tuple",data:=.seq af}) h.objs.size af:=⟨_,Wv _ rfl⟩
theorem ip.lt{af}(x:ip h a af):a<h.objs.size:=let⟨_,e⟩:=x;Wm e
section
variable(P:Wk)(w:Wx)
def aZ(H:Hp)(h:Heap)(a:Addr):HO->Prop|.lst xs=>xs.length<=W7/\∃(af:List Value)(n:Nat),Vals xs af/\h.get? a=some {cls:=.type "list",data:=.seq af.toArray n}|.tup xs=>xs.length<=W7/\∃af:List Value,Vals xs af/\ip h a af.toArray|.dK ao=>ao.length<=W7/\(a==QC)=false/\∃vs,KV ao vs/\h.DictOf (fg P w) a vs|.dT ao=>ao.length<=W7/\(a==QC)=false/\∃xs:List (List Key×Addr×Value),Paired (λ(p:List Key×V)(q:List Key×Addr×Value)=>p.1=q.1/\H q.2.1=some (.tup (p.1.map kV))/\RelV p.2 q.2.2) ao xs/\∃o es ep,h.get? a=some o/\o.ExactDict/\o.data=.dict es ep/\es.toList=xs.map (entryOfKey (tupleKind (fg P w)))/\(xs.map (·.1)).Nodup|.set S n=>h.SetOf (intKind P w) a S n|.ins C dx fs=>H dx=some (.own a)/\fs.length<=1000/\dx≠a/\h.get? a=some (PySem.W.instObj C dx)/\∃mA,h.Ns1 dx mA/\(∀f,eF (fs.lookup f) (mA f))/\PySem.Within mA (fs.map (·.1))|.own _=>∃o,h.get? a=some o|.xd fs=>∃mA,h.Ns1 a mA/\∀f,eF (fs.lookup f) (mA f)|.jP lo hi=>∃t u v,h.get? a=some {cls:=.type "range",data:=.fields #[.int lo t,.int hi u,.int 1 v]}|.frz o u=>h.get? a=some o/\aZ H h a u|.tbl ps=>h.get? a=some {cls:=.none,data:=.fields ps}|.dN ep ao=>ao.length<=W7/\(a==QC)=false/\∃o es,h.get? a=some o/\o.ExactDict/\o.data=.dict es ep/\Paired (λ(p:NK×V×V)(e:DictEntry)=>e.hash=fz w p.1/\RelV p.2.1 e.key/\RelV p.2.2 e.val) ao es.toList/\(ao.map (·.1)).Nodup|.ctab pos q=>∃ps,h.get? a=some {cls:=.none,data:=.fields ps}/\TriplesOk ps.toList/\∀cv,codeAmong pos ps.toList=some cv->∃c' oc,cv=.ref c'/\H c'=some (.frz oc (.ext λj=>True))/\∃vs tq,oc.data=.fields vs/\vs[1]?=some (.str q tq)|.met f x=>h.get? a=some (PySem.W.methodObj (.ref f) (.ref x))|.ext φ=>φ h/\(∃o,h.get? a=some o)/\∀h1 h2:Heap,φ h1->(∀o,h1.get? a=some o->h2.get? a=some o)->φ h2
def ck(H:Hp)(h:Heap):Prop:=∀a o,H a=some o->aZ P w H h a o
end
section
variable{h:Heap}{a:Addr}{o:HO}
theorem aZ.lt(x:aZ P w H h a o):a<h.objs.size:=by cases o with|lst xs=>obtain⟨_,_,_,_,e⟩:=x;exact Wm e|tup xs=>obtain⟨_,_,_,p⟩:=x;exact p.lt|dK ao=>obtain⟨_,_,_,_,o,_,_,e,_⟩:=x;exact Wm e|dT ao=>obtain⟨_,_,_,_,o,_,_,e,_⟩:=x;exact Wm e|set S n=>obtain⟨o,_,_,_,e,_⟩:=x;exact Wm e|ins C dx fs=>obtain⟨_,_,_,e,_⟩:=x;exact Wm e|own y=>obtain⟨_,e⟩:=x;exact Wm e|xd fs=>obtain⟨_,⟨_,_,_,e,_⟩,_⟩:=x;exact Wm e|jP lo hi=>obtain⟨_,_,_,e⟩:=x;exact Wm e|frz ob u=>obtain⟨e,_⟩:=x;exact Wm e|tbl ps=>exact Wm (show h.get? a=some _ from x)|ctab pos q=>obtain⟨_,e,_⟩:=x;exact Wm e|dN ep ao=>obtain⟨_,_,_,_,e,_⟩:=x;exact Wm e|met f y=>exact Wm (show h.get? a=some _ from x)|ext φ=>obtain⟨_,⟨_,e⟩,_⟩:=x;exact Wm e
theorem Paired.uZ{l₁:List α}{l₂:List β}(h:Paired F l₁ l₂)(f:∀a b,F a b->G a b):Paired G l₁ l₂:=by induction h with|nil=>exact .nil|cons r t ih=>exact .cons (f _ _ r) ih
theorem aZ.kG(x:aZ P w H h a o)(k:∀b u,b=a\/H b=some (.own a)->h.get? b=some u->h'.get? b=some u)(ho:∀b,H b=some (.own a)->H' b=some (.own a))(ht:∀b xs,H b=some (.tup xs)->H' b=some (.tup xs))(hf:∀b o u,H b=some (.frz o u)->H' b=some (.frz o u)):aZ P w H' h' a o:=by induction o with|lst xs=>obtain⟨z,af,n,r,e⟩:=x;exact⟨z,af,n,r,k _ _ (.inl rfl) e⟩|tup xs=>obtain⟨z,af,r,n,e⟩:=x;exact⟨z,af,r,n,k _ _ (.inl rfl) e⟩|dK ao=>obtain⟨z,y,vs,r,ob,es,ep,e,c⟩:=x;exact⟨z,y,vs,r,ob,es,ep,k _ _ (.inl rfl) e,c⟩|dT ao=>obtain⟨z,y,xs,r,ob,es,ep,e,c⟩:=x;exact⟨z,y,xs,Paired.uZ r λp q z=>⟨z.1,ht _ _ z.2.1,z.2.2⟩,ob,es,ep,k _ _ (.inl rfl) e,c⟩|set S n=>obtain⟨ob,es,ep,t,e,c⟩:=x;exact⟨ob,es,ep,t,k _ _ (.inl rfl) e,c⟩|ins C dx fs=>obtain⟨d,z,ne,e,mA,⟨od,es,ep,e2,c⟩,r⟩:=x;exact⟨ho _ d,z,ne,k _ _ (.inl rfl) e,mA,⟨od,es,ep,k _ _ (.inr d) e2,c⟩,r⟩|own y=>obtain⟨ob,e⟩:=x;exact⟨ob,k _ _ (.inl rfl) e⟩|xd fs=>obtain⟨mA,⟨od,es,ep,e,c⟩,r⟩:=x;exact⟨mA,⟨od,es,ep,k _ _ (.inl rfl) e,c⟩,r⟩|jP lo hi=>obtain⟨t,u,v,e⟩:=x;exact⟨t,u,v,k _ _ (.inl rfl) e⟩|frz ob u ih=>obtain⟨e,q⟩:=x;exact⟨k _ _ (.inl rfl) e,ih q⟩|dN ep ao=>obtain⟨z,y,ob,es,e,c⟩:=x;exact⟨z,y,ob,es,k _ _ (.inl rfl) e,c⟩|ctab pos q=>obtain⟨ps,e,t,r⟩:=x;exact⟨ps,k _ _ (.inl rfl) e,t,λcv z=>let⟨c',oc,z1,z2,z3⟩:=r cv z;⟨c',oc,z1,hf _ _ _ z2,z3⟩⟩|tbl ps=>have e:h.get? a=some {cls:=.none,data:=.fields ps}:=x;show h'.get? a=some {cls:=.none,data:=.fields ps};exact k a _ (.inl rfl) e|met f y=>have e:h.get? a=some (PySem.W.methodObj (.ref f) (.ref y)):=x;show h'.get? a=some (PySem.W.methodObj (.ref f) (.ref y));exact k a _ (.inl rfl) e|ext φ=>obtain⟨p,⟨o,e⟩,st⟩:=x;exact⟨st _ _ p λo q=>k _ _ (.inl rfl) q,⟨o,k _ _ (.inl rfl) e⟩,st⟩
theorem ck.lt(x:ck P w H h)(e:H a=some o):a<h.objs.size:=(x a o e).lt
theorem ck.fresh(x:ck P w H h)(e:h.objs.size<=a):H a=none:=by cases q:H a with|none=>rfl|some u=>exact absurd (WG (x.lt q) e) (QO _)
theorem ck.kept(x:ck P w H h)(k:∀b u,h.get? b=some u->h'.get? b=some u):ck P w H h':=λa o e=>(x a o e).kG (λb u j q=>k b u q) (λj q=>q) (λj j q=>q) λj j j q=>q
theorem ck.laid(x:ck P w H h)(k:∀b u,h.get? b=some u->h'.get? b=some u)(hp:h.objs.size<=a)(new:aZ P w (upd H a o) h' a o):ck P w (upd H a o) h':=λb u e=>by
 have hn:=x.fresh hp;by_cases hb:b=a;.grind[cz]
 .rw[ba hb]at e;exact(x b u e).kG (λc v j q=>k c v q) (λc q=>%[ba (fj q hn)|q]) (λc xs q=>%[ba (fj q hn)|q]) λc o u q=>%[ba (fj q hn)|q]
end
def Rd(H:Hp)(a:Addr)(u:HO):Prop:=H a=some u\/∃o,H a=some (.frz o u)
theorem Rd.ok{u}(r:Rd H a u)(x:ck P w H h):aZ P w H h a u:=by
 rcases r with r|⟨o,r⟩;.exact x a u r
 .obtain⟨_,q⟩:=x a _ r;exact q
def oI:Option HO->Prop|some (.lst _)=>True|some (.dK _)=>True|some (.dT _)=>True|some (.dN _ _)=>True|some (.set _ _)=>True|some (.ins _ _ _)=>True|some (.ext _)=>True|_=>False
section
variable{h:Heap}{x e:Addr}{o':HO}
theorem ck.write(ok:ck P w H h)(mu:oI (H x))(he:e=x\/H e=some (.own x))(k:∀b u,b≠e->h.get? b=some u->h'.get? b=some u)(oJ:∃u,h'.get? e=some u)(new:aZ P w (upd H x o') h' x o'):ck P w (upd H x o') h':=λb u q=>by
 have rB:∀c y,H c=some (.own y)->c≠x:=λc y r z=>by subst z;rw[r]at mu;exact mu
 have Iu:∀c xs,H c=some (.tup xs)->c≠x:=λc xs r z=>by subst z;rw[r]at mu;exact mu
 have Iv:∀c o u,H c=some (.frz o u)->c≠x:=λc o u r z=>by subst z;rw[r]at mu;exact mu
 by_cases hb:b=x;.grind[cz]
 .rw[ba hb]at q;by_cases hbe:b=e
  .have q':H b=some (.own x):=by grind
   rw[q]at q';cases q';obtain⟨v,hv⟩:=oJ;exact⟨v,%[hbe|hv]⟩
  .refine(ok b u q).kG (λc v hc r=>k c v ?_ r) (λc r=>%[ba (rB c b r)|r]) (λc xs r=>%[ba (Iu c xs r)|r]) λc o u r=>%[ba (Iv c o u r)|r];grind
end
structure Un(fs ex:List Addr)(H H':Hp)(h h':Heap):Prop where
 keep:∀b o,h.get? b=some o->H b=none->b∉fs->b∉ex->h'.get? b=some o
 slot:∀b o,h.get? b=some o->H b=none->b∈fs->b∉ex->∃sl,h'.get? b=some {o with slots:=sl}free:∀b o,h.get? b=some o->H b=none->b∉ex->H' b=none
 there:∀b o,h.get? b=some o->b∉ex->∃o',h'.get? b=some o'
 iq:∀b xs,H b=some (.tup xs)->H' b=some (.tup xs)gN:∀b o u,H b=some (.frz o u)->H' b=some (.frz o u)iQ:∀b ps,H b=some (.tbl ps)->∃more,H' b=some (.tbl (ps++more))
section
variable{fs Iy ex Zv:List Addr}{H1 H2:Hp}{h h1 h2:Heap}{a x e:Addr}{o:HO}
theorem Un.any(u:Un fs ex H H1 h h1)(q:h.get? b=some ob)(n:H b=none)(hx:b∉ex):∃sl,h1.get? b=some {ob with slots:=sl}:=by
 by_cases hb:b∈fs;.exact u.slot b ob q n hb hx
 .exact⟨ob.slots,u.keep b ob q n hb hx⟩
theorem Un.kept(k:∀b u,h.get? b=some u->h'.get? b=some u):Un fs ex H H h h':=⟨λb ob q j j j=>k b ob q,λb ob q j j j=>⟨ob.slots,k b ob q⟩,λj j j n j=>n,λb ob q j=>⟨ob,k b ob q⟩,λj j q=>q,λj j j q=>q,λj ps q=>⟨#[],by rw[q];simp⟩⟩
theorem Un.refl:Un fs ex H H h h:=Un.kept λj j q=>q
theorem Un.laid(k:∀b u,h.get? b=some u->h'.get? b=some u)(hp:h.objs.size<=a)(hn:H a=none):Un fs ex H (upd H a o) h h' where
 keep:=λb u q j j j=>k b u q
 slot:=λb u q j j j=>⟨u.slots,k b u q⟩
 free:=λb u q n j=>%[ba (Qd (WG (Wm q) hp))|n]
 there:=λb u q j=>⟨u,k b u q⟩
 iq:=λb xs q=>%[ba (fj q hn)|q]
 gN:=λb u xs q=>%[ba (fj q hn)|q]
 iQ:=λb ps q=>⟨#[],by rw[ba (fj q hn),q];simp⟩
theorem Un.write(mu:oI (H x))(he:e=x\/H e=some (.own x))(k:∀b u,b≠e->h.get? b=some u->h'.get? b=some u)(oJ:∃u,h'.get? e=some u):Un fs ex H (upd H x o) h h':=by
 have hx:∀b,H b=none->b≠x:=λb n z=>by subst z;rw[n]at mu;exact mu
 have hb:∀b,H b=none->b≠e:=λb n z=>by grind
 have hm:∀b u,H b=some u->¬oI (some u)->b≠x:=λb u q nm z=>by grind
 refine⟨λb u q n j j=>k b u (hb b n) q,λb u q n j j=>⟨u.slots,k b u (hb b n) q⟩,λb u q n j=>%[ba (hx b n)|n],λb u q j=>?_,λb xs q=>%[ba (hm b _ q λz=>z)|q],λb u xs q=>%[ba (hm b _ q λz=>z)|q],λb ps q=>⟨#[],by rw[ba (hm b _ q λz=>z),q];simp⟩⟩;grind
end
def u6(h:Heap)(H:Hp):List Addr:=(Wl h.objs.size).filter λa=>(H a).isSome
def jQ(h:Heap)(H:Hp):Heap:=PySem.W.hideAll h (u6 h H)
theorem Iz(h:Heap)(H:Hp):(jQ h H).objs.size=h.objs.size:=PySem.W.hideAll_size _ _
theorem IA(e:h.get? b=some o)(n:H b=none):(jQ h H).get? b=some o:=PySem.W.hideAll_get _ e λhm=>by have q:(H b).isSome=true:=(List.mem_filter.mp hm).2;rw[n]at q;simp at q
theorem IB(e:(jQ h H).get? b=some o):h.get? b=some o/\H b=none:=by have e':h.get? b=some o:=PySem.W.of_hideAll (u6 h H) e;refine⟨e',?_⟩;cases q:H b with|none=>rfl|some x=>have hm:b∈u6 h H:=List.mem_filter.mpr ⟨List.mem_range.mpr (Wm e'),#v[q]⟩;grind[jQ,W.hideAll_none]
def IC(g h:Heap)(L:Addr):List (Addr×Obj):=(Wl h.objs.size).filterMap λa=>if a=L\/(g.get? a).isSome=true then none else(h.get? a).map λo=>(a,o)
def rest(g h:Heap)(L d:Addr):List (Addr×Obj):=(IC g h L).filter λp=>decide (p.1≠d)
structure Mod(K:W2)(mg:Str->Option Value)(base:Heap):Prop where
 l5:K.In base
 glob:base.Ns Wr mg
 blt:∃mb,base.Ns builtinsNs mb/\∀x:Str,x≠"__name__"->mb x=QH x
 nolimit:base.NoLimit
structure Cx where
 prog:Wk
 w:Wx
 K:W2
 mg:Str->Option Value
 base:Heap
 A:Wp
 N:List Str
 s₀:W1
 H₀:Hp
 env:Env
 outer:List Env
 stack:List Env
 ex:List Addr
 fn:Str->Bool
 calm:Bool
 pn:List (Addr×Obj)xe:Value->W1->Prop
variable{X:Cx}
def eG(l:List Env):List Addr:=l.filterMap (·.frame)
abbrev Cx.fs(X:Cx):List Addr:=eG X.outer
def rC(sc:Scope)(x:Str):Prop:=sc.names.lookup x=some .local\/sc.names.lookup x=some .cell\/sc.names.lookup x=some .free
def Loc(sc:Scope)(x:Str):Prop:=sc.names.lookup x=some .local\/sc.names.lookup x=some .cell
def Look(env:Env)(h:Heap)(m:Str->Option Value)(x:Str)(u:Value):Prop:=env.kindOf x=some .local/\m x=some u\/(env.kindOf x=some .cell\/env.kindOf x=some .free)/\∃c,env.cells.lookup x=some c/\h.IsCell c (some u)
structure Cx.Ok(X:Cx):Prop where
 mod:Mod X.K X.mg X.base
 kind:X.env.scope.kind=.function
 glob:X.env.globals=Wr
 blt:X.env.builtins=builtinsNs
 above:X.s₀.heap.objs.size<=X.env.locals
 inj:∀x y c,X.env.cells.lookup x=some c->X.env.cells.lookup y=some c->x=y
 has:∀x,X.env.kindOf x=some .cell\/X.env.kindOf x=some .free->∃c,X.env.cells.lookup x=some c
 kH:∀x c,X.fn x=true->X.env.cells.lookup x=some c->X.s₀.heap.objs.size<=c
 hd:X.calm=true->X.A.handled=none
 frames:X.A.frames=some X.stack
 l7:X.stack=X.outer\/X.stack=X.env::X.outer/\X.env.frame=some X.env.locals
 l8:∀b∈X.ex,b≠X.env.locals/\∀x c,X.env.cells.lookup x=some c->c≠b
 bs:∀b o,X.base.get? b=some o->X.s₀.heap.get? b=some o/\X.H₀ b=none
 ir:X.base.objs.size<=X.s₀.heap.objs.size
 kI:∀b o,X.base.get? b=some o->b∉X.ex
 kJ:∀b∈X.ex,b∉X.fs
 fP:X.s₀.heap.FunFrames X.base X.outer
 iR:∀b∈X.fs,X.H₀ b=none
structure Inv(X:Cx)(pins:List (Addr×Obj))(Z:List (Option V))(H:Hp)(s:W1):Prop where
 ok:X.Ok
 os:s.os=X.s₀.os
 bare:AllBare s.gens
 base:Un X.fs X.ex X.H₀ H X.s₀.heap s.heap
 loc:∃m,s.heap.Ns X.env.locals m/\∀(i:Nat)(x:Str)(v:V),X.N[i]?=some x->Z[i]?=some (some v)->rC X.env.scope x->∃u,RelV v u/\Look X.env s.heap m x u
 cell:∀x c,X.env.cells.lookup x=some c->∃v,s.heap.IsCell c v
 free:H X.env.locals=none
 dW:∀x c,X.env.cells.lookup x=some c->H c=none
 pin:∀p∈X.pn++pins,s.heap.get? p.1=some p.2/\H p.1=none/\p.1≠X.env.locals/\p.1∉X.fs/\∀v,p.2.data≠.cell v
 aB:ck X.prog X.w H s.heap
 len:Z.length=X.N.length
section
variable{Z:List (Option V)}
theorem Cx.Ok.ID(ok:X.Ok)(e:X.base.get? b=some o):b∉X.fs:=λhb=>by have:=(ok.fP.mem hb).1;grind
theorem Inv.bs(I:Inv X pins Z H s):∀b o,X.base.get? b=some o->s.heap.get? b=some o/\H b=none:=λb o e=>⟨I.base.keep b o (I.ok.bs b o e).1 (I.ok.bs b o e).2 (I.ok.ID e) (I.ok.kI b o e),I.base.free b o (I.ok.bs b o e).1 (I.ok.bs b o e).2 (I.ok.kI b o e)⟩
theorem Inv.bk(I:Inv X pins Z H s):∀b o,X.base.get? b=some o->s.heap.get? b=some o:=λb o e=>(I.bs b o e).1
theorem Inv.mod(I:Inv X pins Z H s):Mod X.K X.mg X.base:=I.ok.mod
theorem Inv.cH(I:Inv X pins Z H s):X.K.In s.heap:=I.ok.mod.l5.keeps I.bk
theorem Inv.lt(I:Inv X pins Z H s):X.env.locals<s.heap.objs.size:=let⟨_,hn,_⟩:=I.loc;hn.lt
theorem Inv.sz(I:Inv X pins Z H s):X.s₀.heap.objs.size<=s.heap.objs.size:=WF I.ok.above (JL I.lt)
theorem Inv.IE(I:Inv X pins Z H s)(h:s.heap.objs.size<=a):a∉X.fs:=λhb=>by obtain⟨_,o,ho,_⟩:=I.ok.fP.mem hb;exact absurd (WG (Wm ho) (WF I.sz h)) (QO _)
theorem Inv.iS(I:Inv X pins Z H s):∀x c,X.env.cells.lookup x=some c->c≠X.env.locals:=λx c e z=>by obtain⟨v,o,ho,hd⟩:=I.cell x c e;obtain⟨m,⟨o',es,ep,gq,hd',_⟩,_⟩:=I.loc;grind
theorem Inv.fP(I:Inv X pins Z H s):s.heap.FunFrames X.base X.outer:=by
 have all:∀(l:List Env),(∀b∈eG l,b∈X.fs)->X.s₀.heap.FunFrames X.base l->s.heap.FunFrames X.base l:=by intro l;induction l with|nil=>intro _ _;trivial|cons env r ih=>intro hs hl;obtain⟨hk,⟨L,o,hf,hn,ho,hd⟩,hr⟩:=hl;have hL:L∈X.fs:=hs L (by unfold eG;rw[Jz,hf];exact WA);obtain⟨sl,e⟩:=I.base.slot L o ho (I.ok.iR L hL) hL λz=>I.ok.kJ L z hL;exact⟨hk,⟨L,_,hf,hn,e,hd⟩,ih (λb hb=>hs b (by unfold eG;rw[Jz,hf];exact Wh _ hb)) hr⟩
 exact all X.outer (λj hb=>hb) I.ok.fP
theorem Inv.stack(I:Inv X pins Z H s):s.heap.FunFrames X.base X.stack:=by
 rcases I.ok.l7 with e|⟨e,hf⟩;.rw[e];exact I.fP
 .rw[e];obtain⟨m,hn,_⟩:=I.loc;refine .cons (by rw[I.ok.kind];decide) hf hn ?_ I.fP;exact JN (WF I.ok.ir I.ok.above)
theorem Inv.rD(I:Inv X pins Z H s):∀b∈eG X.stack,b∈X.env.locals::X.fs:=λb hb=>by
 rcases I.ok.l7 with e|⟨e,hf⟩;.rw[e]at hb;exact Wh _ hb
 .rw[e]at hb;unfold eG at hb;rw[Jz,hf]at hb;exact hb
theorem Inv.rE(I:Inv X pins Z H s):∀b∈eG X.stack,H b=none:=λb hb=>by
 rcases Wi.mp (I.rD b hb)with e|hb;.rw[e];exact I.free
 .obtain⟨_,o,ho,_⟩:=I.ok.fP.mem hb;exact I.base.free b o ho (I.ok.iR b hb) λz=>I.ok.kJ b z hb
theorem Inv.step{g':Array GenState}{t':Nat}{d':Drawn}(I:Inv X pins Z H s)(js:∀b∈ch,(b∈X.ex\/X.s₀.heap.objs.size<=b)/\b≠X.env.locals/\(∀x c,X.env.cells.lookup x=some c->c≠b)/\∀p∈X.pn++pins,p.1≠b)(keep:∀b o,b≠X.env.locals->b∉X.fs->b∉ch->s.heap.get? b=some o->H b=none->h'.get? b=some o)(slot:∀b o,b≠X.env.locals->b∈X.fs->b∉ch->s.heap.get? b=some o->H b=none->∃sl,h'.get? b=some {o with slots:=sl})(free:∀b o,b∉ch->s.heap.get? b=some o->H b=none->H' b=none)(there:∀b o,b∉ch->s.heap.get? b=some o->∃o',h'.get? b=some o')(iq:∀b xs,H b=some (.tup xs)->H' b=some (.tup xs))(gN:∀b o u,H b=some (.frz o u)->H' b=some (.frz o u))(iQ:∀b ps,H b=some (.tbl ps)->∃more,H' b=some (.tbl (ps++more)))(ns:∀m,s.heap.Ns X.env.locals m->h'.Ns X.env.locals m)(aB:ck X.prog X.w H' h')(hg:AllBare g'):Inv X pins Z H' {s with heap:=h',gens:=g',drawn:=d',toks:=t'}:=by
 have l9:∀b o,X.s₀.heap.get? b=some o->b≠X.env.locals:=λb o e=>Qd (WG (Wm e) I.ok.above);have rF:∀b o,X.s₀.heap.get? b=some o->b∉X.ex->b∉ch:=λb o e hx hb=>by
  rcases(js b hb).1 with z|z;.exact hx z
  .exact absurd (WG (Wm e) z) (QO _)
 have cellK:∀x c,X.env.cells.lookup x=some c->∀v,s.heap.IsCell c v->h'.IsCell c v:=λx c e v⟨o,ho,hd⟩=>by
  have oK:c∉ch:=λz=>(js c z).2.2.1 x c e rfl;by_cases hc:c∈X.fs;.obtain⟨sl,q⟩:=slot c o (I.iS x c e) hc oK ho (I.dW x c e);exact⟨_,q,hd⟩
  .exact⟨o,keep c o (I.iS x c e) hc oK ho (I.dW x c e),hd⟩
 refine⟨I.ok,I.os,hg,⟨λb o e n hb hx=>?_,λb o e n hb hx=>?_,λb o e n hx=>?_,λb o e hx=>?_,λb xs e=>iq b xs (I.base.iq b xs e),λb o xs e=>gN b o xs (I.base.gN b o xs e),λb ps e=>?_⟩,?_,λx c e=>?_,?_,λx c e=>?_,λp hp=>?_,aB,I.len⟩;.exact keep b o (l9 b o e) hb (rF b o e hx) (I.base.keep b o e n hb hx) (I.base.free b o e n hx)
 .obtain⟨sl,e1⟩:=I.base.slot b o e n hb hx;obtain⟨sl',e2⟩:=slot b _ (l9 b o e) hb (rF b o e hx) e1 (I.base.free b o e n hx);exact⟨sl',e2⟩
 .obtain⟨o',e1⟩:=I.base.there b o e hx;exact free b o' (rF b o e hx) e1 (I.base.free b o e n hx)
 .obtain⟨o',e1⟩:=I.base.there b o e hx;exact there b o' (rF b o e hx) e1
 .obtain⟨m1,e1⟩:=I.base.iQ b ps e;grind
 .obtain⟨m,hn,hl⟩:=I.loc;refine⟨m,ns m hn,λi x v e1 e2 e3=>?_⟩;obtain⟨u,r,l⟩:=hl i x v e1 e2 e3;refine⟨u,r,?_⟩;rcases l with l|⟨k,c,e,z⟩;.exact .inl l
  .exact .inr ⟨k,c,e,cellK x c e _ z⟩
 .obtain⟨v,z⟩:=I.cell x c e;exact⟨v,cellK x c e v z⟩
 .obtain⟨m,⟨o,_,_,ho,_⟩,_⟩:=I.loc;exact free _ o (λz=>(js _ z).2.1 rfl) ho I.free
 .obtain⟨v,o,ho,hd⟩:=I.cell x c e;exact free c o (λz=>(js c z).2.2.1 x c e rfl) ho (I.dW x c e)
 .obtain⟨e,n,ne,nf,d⟩:=I.pin p hp;have oK:p.1∉ch:=λz=>(js p.1 z).2.2.2 p hp rfl;exact⟨keep p.1 p.2 ne nf oK e n,free p.1 p.2 oK e n,ne,nf,d⟩
theorem Inv.un{t':Nat}(I:Inv X pins Z H s)(u:Un X.fs [] H H' s.heap h')(aB:ck X.prog X.w H' h'):Inv X pins Z H' {s with heap:=h',toks:=t'}:=by obtain⟨m,⟨o,es,ep,ho,r⟩,_⟩:=id I.loc;obtain⟨sl,hL⟩:=u.any ho I.free Zw;exact I.step (g':=s.gens) (d':=s.drawn) (ch:=[]) (λj z=>nomatch z) (λb o j hb j e n=>u.keep b o e n hb Zw) (λb o j hb j e n=>u.slot b o e n hb Zw) (λb o j e n=>u.free b o e n Zw) (λb o j e=>u.there b o e Zw) u.iq u.gN u.iQ (λm' hm=>by obtain⟨o',jR,fQ,gq,r'⟩:=hm;rw[ho]at gq;cases gq;exact⟨_,jR,fQ,hL,r'⟩) aB I.bare
theorem Inv.call{t':Nat}{d':Drawn}(I:Inv X pins Z H s)(u:Un (eG X.stack) ch H H' s.heap h')(aB:ck X.prog X.w H' h')(hg:AllBare g')(js:∀b∈ch,(b∈X.ex\/X.s₀.heap.objs.size<=b)/\b≠X.env.locals/\(∀x c,X.env.cells.lookup x=some c->c≠b)/\∀p∈X.pn++pins,p.1≠b):Inv X pins Z H' {s with heap:=h',gens:=g',drawn:=d',toks:=t'}:=by obtain⟨m,⟨o,es,ep,ho,r⟩,_⟩:=id I.loc;obtain⟨sl,hL⟩:=u.any ho I.free λz=>(js _ z).2.1 rfl;exact I.step (ch:=ch) js (λb o hL hb hc e n=>u.keep b o e n (λz=>(Wi.mp (I.rD b z)).elim hL hb) hc) (λb o j j hc e n=>u.any e n hc) (λb o hc e n=>u.free b o e n hc) (λb o hc e=>u.there b o e hc) u.iq u.gN u.iQ (λm' hm=>by obtain⟨o',jR,fQ,gq,r'⟩:=hm;rw[ho]at gq;cases gq;exact⟨_,jR,fQ,hL,r'⟩) aB hg
theorem Inv.turned{t':Nat}(I:Inv X pins Z H s)(k:∀b o,b≠it->s.heap.get? b=some o->h'.get? b=some o)(hn:H it=none)(hL:it≠X.env.locals)(h1:it∈X.ex\/X.s₀.heap.objs.size<=it)(h2:∀x c,X.env.cells.lookup x=some c->c≠it)(h3:∀p∈X.pn++pins,p.1≠it):Inv X pins Z H {s with heap:=h',toks:=t'}:=by
 have kK:∀b u,H b=some u->b≠it:=λb u e z=>by grind
 refine I.step (g':=s.gens) (d':=s.drawn) (ch:=[it]) (λb hb=>?_) (by grind) (λb o j j hc e j=>⟨o.slots,k b o (λz=>hc #v[z]) e⟩) (λj j j j n=>n) (by grind) (λj j e=>e) (λj j j e=>e) (λb ps e=>⟨#[],by rw[e];simp⟩) (λm hm=>?_) (λb u e=>?_) I.bare;.have e:b=it:= ~~~hb;subst e;exact⟨h1,hL,h2,h3⟩
 .obtain⟨o,es,ep,ho,r⟩:=hm;exact⟨o,es,ep,k _ o (Ne.symm hL) ho,r⟩
 .refine(I.aB b u e).kG (λc v hc q=>k c v ?_ q) (λj q=>q) (λj j q=>q) λj j j q=>q;rcases hc with z|z;.rw[z];exact kK b u e
  .exact kK c _ z
theorem Inv.tok(I:Inv X pins Z H s)(t:Nat):Inv X pins Z H {s with toks:=t}:=I.un (h':=s.heap) (t':=t) Un.refl I.aB
theorem Inv.kept(I:Inv X pins Z H s)(k:∀b u,s.heap.get? b=some u->h'.get? b=some u):Inv X pins Z H {s with heap:=h',toks:=t'}:=I.un (Un.kept k) (I.aB.kept k)
theorem Inv.laid(I:Inv X pins Z H s)(k:∀b u,s.heap.get? b=some u->h'.get? b=some u)(hp:s.heap.objs.size<=a)(new:aZ X.prog X.w (upd H a o) h' a o):Inv X pins Z (upd H a o) {s with heap:=h',toks:=t'}:=I.un (Un.laid k hp (I.aB.fresh hp)) (I.aB.laid k hp new)
theorem Inv.write{e}(I:Inv X pins Z H s)(mu:oI (H x))(he:e=x\/H e=some (.own x))(k:∀b u,b≠e->s.heap.get? b=some u->h'.get? b=some u)(oJ:∃u,h'.get? e=some u)(new:aZ X.prog X.w (upd H x o) h' x o):Inv X pins Z (upd H x o) {s with heap:=h',toks:=t'}:=I.un (Un.write mu he k oJ) (I.aB.write mu he k oJ new)
theorem Inv.weak(I:Inv X pins Z H s)(hl:Pv.length=Z.length)(w:∀(i:Nat)v,Pv[i]?=some (some v)->Z[i]?=some (some v)):Inv X pins Pv H s:=⟨I.ok,I.os,I.bare,I.base,let⟨m,hn,gO⟩:=I.loc;⟨m,hn,λi x v e1 e2 e3=>gO i x v e1 (w i v e2) e3⟩,I.cell,I.free,I.dW,I.pin,I.aB,hl.trans I.len⟩
theorem Inv.Al(I:Inv X pins Z H s)(h:∀p∈pins',s.heap.get? p.1=some p.2/\H p.1=none/\p.1≠X.env.locals/\p.1∉X.fs/\∀v,p.2.data≠.cell v):Inv X pins' Z H s:=⟨I.ok,I.os,I.bare,I.base,I.loc,I.cell,I.free,I.dW,λp hp=>(Wu.mp hp).elim (λz=>I.pin p (JO _ z)) (h p),I.aB,I.len⟩
theorem u7{N:List Str}(hN:N.Nodup){j:Nat}{x:Str}(a:N[i]?=some x)(b:N[j]?=some x):i=j:=by obtain⟨h1,e1⟩:=Wd.mp a;obtain⟨h2,e2⟩:=Wd.mp b;exact(List.getElem_inj hN).mp (e1.trans e2.symm)
theorem rG{M:Model}{A:Wp}{E:Value->W1->Prop}{x:Str}{v:V}{Q:Unit->W1->Prop}(I:Inv X pins Z H s)(hN:X.N.Nodup)(hi:X.N[i]?=some x)(hx:Loc X.env.scope x)(r:RelV v u)(h:∀s',Inv X pins (Z.set i (some v)) H s'->(∃a,U3 a s.heap s'.heap/\(a=X.env.locals\/X.env.cells.lookup x=some a))->Q () s')(hf:X.fn x=true\/X.env.scope.names.lookup x=some .local:=by first|exact .inl rfl|exact .inr rfl|assumption):W8 M A (storeName X.env x u) Q E s:=by
 obtain⟨m,hn,hl⟩:=id I.loc;have IF:(X.env.scope.kind==.class||X.env.scope.kind==.module&&X.env.locals !=X.env.globals)=false:=by rw[I.ok.kind];rfl
 have oM:i<Z.length:=by rw[I.len];exact(Wd.mp hi).1
 have iS:=I.iS;have tracked:∀{a:Addr}{h':Heap},(∃o,s.heap.get? a=some o/\H a=none)->U3 a s.heap h'->ck X.prog X.w H h':=λ{a h'}ha hs b ob e=>by obtain⟨_,_,rH⟩:=ha;refine(I.aB b ob e).kG (λc w' hc q=>(hs.2 c ?_).trans q) (λf q=>q) (λf f q=>q) λf f f q=>q;grind
 rcases hx with hk|hk
 .refine wpAny_storeName_local hk hn (λh' iT hs=>?_) IF;obtain⟨oL,_,_,kL,_⟩:=id hn;refine h _ ⟨I.ok,I.os,I.bare,⟨λb o e n hb hx=>?_,λb o e n hb hx=>?_,I.base.free,λb o e hx=>?_,I.base.iq,I.base.gN,I.base.iQ⟩,⟨_,iT,λj y v' e1 e2 e3=>?_⟩,λy c e=>?_,I.free,I.dW,λp hp=>?_,tracked ⟨oL,kL,I.free⟩ hs,~~~I.len⟩ ⟨_,hs,.inl rfl⟩;.exact(hs.2 b (Qd (WG (Wm e) I.ok.above))).trans (I.base.keep b o e n hb hx)
  .obtain⟨sl,e1⟩:=I.base.slot b o e n hb hx;exact⟨sl,(hs.2 b (Qd (WG (Wm e) I.ok.above))).trans e1⟩
  .obtain⟨o',e1⟩:=I.base.there b o e hx;exact⟨o',(hs.2 b (Qd (WG (Wm e) I.ok.above))).trans e1⟩
  .by_cases hj:j=i;.subst hj;rw[hi]at e1;cases e1;rw[WB oM]at e2;cases e2;exact⟨u,r,.inl ⟨hk,Zw⟩⟩
   .rw[Wc (Ne.symm hj)]at e2;obtain⟨u',r',q⟩:=hl j y v' e1 e2 e3;refine⟨u',r',?_⟩;rcases q with⟨k,e⟩|⟨k,c,e,z⟩;.refine .inl ⟨k,?_⟩;have:y≠x:=λe=>hj (u7 hN e1 (e▸hi));simp[this,e]
    .exact .inr ⟨k,c,e,z.sameBut hs (iS y c e)⟩
  .obtain⟨w',z⟩:=I.cell y c e;exact⟨w',z.sameBut hs (iS y c e)⟩
  .obtain⟨e,n,ne,nf,d⟩:=I.pin p hp;exact⟨(hs.2 p.1 ne).trans e,n,ne,nf,d⟩
 .have iU:X.fn x=true:=by grind
  obtain⟨c,hc⟩:=I.ok.has x (.inl hk);obtain⟨w',z⟩:=I.cell x c hc;refine wpAny_storeName_cell I.ok.kind hk hc z λh' jt hs=>?_;obtain⟨oc,hoc,hocd⟩:=id z;refine h 9#h' ⟨I.ok,I.os,I.bare,⟨λb o e n hb hx=>?_,λb o e n hb hx=>?_,I.base.free,λb o e hx=>?_,I.base.iq,I.base.gN,I.base.iQ⟩,⟨m,hn.sameBut hs (Ne.symm (iS x c hc)),λj y v' e1 e2 e3=>?_⟩,λy c' e=>?_,I.free,I.dW,λp hp=>?_,tracked ⟨oc,hoc,I.dW x c hc⟩ hs,~~~I.len⟩ ⟨c,hs,.inr hc⟩;.exact(hs.2 b (Qd (WG (Wm e) (I.ok.kH x c iU hc)))).trans (I.base.keep b o e n hb hx)
  .obtain⟨sl,e1⟩:=I.base.slot b o e n hb hx;exact⟨sl,(hs.2 b (Qd (WG (Wm e) (I.ok.kH x c iU hc)))).trans e1⟩
  .obtain⟨o',e1⟩:=I.base.there b o e hx;exact⟨o',(hs.2 b (Qd (WG (Wm e) (I.ok.kH x c iU hc)))).trans e1⟩
  .by_cases hj:j=i;.subst hj;rw[hi]at e1;cases e1;rw[WB oM]at e2;cases e2;exact⟨u,r,.inr ⟨.inl hk,c,hc,jt⟩⟩
   .rw[Wc (Ne.symm hj)]at e2;obtain⟨u',r',q⟩:=hl j y v' e1 e2 e3;refine⟨u',r',?_⟩;rcases q with q|⟨k,c',e,z'⟩;.exact .inl q
    .refine .inr ⟨k,c',e,z'.sameBut hs ?_⟩;rintro rfl;exact hj (u7 hN e1 (I.ok.inj _ _ _ e hc▸hi))
  .by_cases hcc:c'=c;.grind
   .obtain⟨w2,z2⟩:=I.cell y c' e;exact⟨w2,z2.sameBut hs hcc⟩
  .obtain⟨e,n,ne,nf,d⟩:=I.pin p hp;refine⟨(hs.2 p.1 ?_).trans e,n,ne,nf,d⟩;grind
theorem Am(I:Inv X pins Z H s)(hN:X.N.Nodup)(hi:X.N[i]?=some x)(hx:Loc X.env.scope x)(r:RelV v u)(h:∀s',Inv X pins (Z.set i (some v)) H s'->Q () s')(hf:X.fn x=true\/X.env.scope.names.lookup x=some .local:=by first|exact .inl rfl|exact .inr rfl|assumption):W8 M A (storeName X.env x u) Q E s:=rG I hN hi hx r (λs' I' j=>h s' I') hf
theorem Inv.An(I:Inv X pins Z H s)(ho:s'.os=s.os)(u:Un (eG X.stack) ch H H' s.heap s'.heap)(aB:ck X.prog X.w H' s'.heap)(hg:AllBare s'.gens)(js:∀b∈ch,(b∈X.ex\/X.s₀.heap.objs.size<=b)/\b≠X.env.locals/\(∀x c,X.env.cells.lookup x=some c->c≠b)/\∀p∈X.pn++pins,p.1≠b):Inv X pins Z H' s':=by obtain⟨h',g',d',t',o'⟩:=s';have e:o'=s.os:=ho;subst e;exact I.call (g':=g') (t':=t') (d':=d') u aB hg js
end
abbrev XK:=Value->Option Addr->Hp->Prop
abbrev St:=List (Option V)
variable{Z Pv:St}
abbrev VK:=V->Hp->Prop
abbrev TE:=St->Hp->VK->Prop
variable{ta te:TE}
abbrev TT:=St->Hp->(Bool->Hp->Prop)->Prop
abbrev TA:=St->Hp->(List V->Hp->Prop)->Prop
structure Ends where
 nx:St->Hp->Prop
 rt:VK
 bk:St->Hp->Prop:=λj j=>False
 ct:St->Hp->Prop:=λj j=>False
abbrev TS:=Ends->St->Hp->Prop
variable{th:Addr->Addr->TS}
def EP(X:Cx)(pins:List (Addr×Obj))(Z:St)(Q:VK)(u:Value)(s':W1):Prop:=∃v H',Inv X pins Z H' s'/\RelV v u/\Q v H'
def TP(X:Cx)(pins:List (Addr×Obj))(Z:St)(Q:Bool->Hp->Prop)(b:Bool)(s':W1):Prop:=∃H',Inv X pins Z H' s'/\Q b H'
def AP(X:Cx)(pins:List (Addr×Obj))(Z:St)(Q:List V->Hp->Prop)(us:List Value)(s':W1):Prop:=∃vs H',Inv X pins Z H' s'/\Vals vs us/\Q vs H'
def SP(X:Cx)(pins:List (Addr×Obj))(D:Ends)(f:Flow)(s':W1):Prop:=match f with|.next=>∃Pv H',Inv X pins Pv H' s'/\D.nx Pv H'|.brk=>∃Pv H',Inv X pins Pv H' s'/\D.bk Pv H'|.cont=>∃Pv H',Inv X pins Pv H' s'/\D.ct Pv H'|.ret u=>∃v Pv H',Inv X pins Pv H' s'/\RelV v u/\D.rt v H'
def PE(X:Cx)(e:Expr)(t:TE):Prop:=∀(pins:List (Addr×Obj))(s:W1)(Z:St)(H:Hp)(Q:VK),Inv X pins Z H s->t Z H Q->W8 5#0 X.A (eval e X.env) (EP X pins Z Q) X.xe s
def PT(X:Cx)(e:Expr)(t:TT):Prop:=∀(pins:List (Addr×Obj))(s:W1)(Z:St)(H:Hp)(Q:Bool->Hp->Prop),Inv X pins Z H s->t Z H Q->W8 5#0 X.A (isTrue e X.env (eval e X.env)) (TP X pins Z Q) X.xe s
def PW(X:Cx)(e:Expr)(t:TT):Prop:=∀(whole:Sem Value)(pins:List (Addr×Obj))(s:W1)(Z:St)(H:Hp)(Q:Bool->Hp->Prop),Inv X pins Z H s->t Z H Q->W8 5#0 X.A (isTrue e X.env whole) (TP X pins Z Q) X.xe s
theorem PW.pt(h:PW X e t):PT X e t:=h _
def PA(X:Cx)(es:List Expr)(t:TA):Prop:=∀(pos:Pos)(pins:List (Addr×Obj))(s:W1)(Z:St)(H:Hp)(Q:List V->Hp->Prop),Inv X pins Z H s->t Z H Q->W8 5#0 X.A (spliced (Qp pos (Wa es X.env))) (AP X pins Z Q) X.xe s
def PS(X:Cx)(st:Stmt)(t:TS):Prop:=∀(pins:List (Addr×Obj))(s:W1)(Z:St)(H:Hp)(D:Ends),Inv X pins Z H s->t D Z H->W8 5#0 X.A (exec st X.env) (SP X pins D) X.xe s
def c_(X:Cx)(st:List Stmt)(t:TS):Prop:=∀(pins:List (Addr×Obj))(s:W1)(Z:St)(H:Hp)(D:Ends),Inv X pins Z H s->t D Z H->W8 5#0 X.A (execs st X.env) (SP X pins D) X.xe s
theorem aN(h:W8 M A t Q E s)(hQ:∀a s,Q a s->Q' a s):W8 M A t Q' E s:=Q7 h hQ λj j x=>x
section
def dz(i:Nat):TE:=λZ H Q=>∃v,Z[i]?=some (some v)/\Q v H
def tC(v:V):TE:=λj H Q=>Q v H
theorem IG(hN:X.N[i]?=some x)(hv:rC X.env.scope x)(hd:(x==("__debug__":Str))=false:=by decide)(dA:(x==("__classdict__":Str))=false:=by decide):PE X (.Name x pos) (dz i):=by
 intro pins s Z H Q I h;obtain⟨v,e,h⟩:=h;obtain⟨m,hn,hl⟩:=I.loc;obtain⟨u,r,l⟩:=hl i x v hN e hv;have fin:EP X pins Z Q u s:=⟨v,H,I,r,h⟩;rcases l with⟨hk,hm⟩|⟨hk,c,hc,hcell⟩;.exact wpAny_Name (wpAny_loadName_local I.ok.kind hk hn hm fin) hd
 .rcases hk with hk|hk;.exact wpAny_Name (wpAny_loadName_cell I.ok.kind hk hc hcell fin) hd
  .exact wpAny_Name (wpAny_loadName_free I.ok.kind hk hc hcell fin dA) hd
theorem Ao{i j pos}:PE X (.Constant (.int i) j pos) (tC (.int i)):=λk k k H k I h=>wpAny_Constant_int ⟨.int i,H,I.tok _,⟨_,rfl⟩,h⟩
theorem u9{b j pos}:PE X (.Constant (.bool b) j pos) (tC (.bl b)):=λk k k H k I h=>Constant_bool ⟨.bl b,H,I,rfl,h⟩
theorem IH{j pos}:PE X (.Constant .none j pos) (tC .aI):=λk k k H k I h=>Constant_none ⟨.aI,H,I,rfl,h⟩
theorem Ap{x j pos}:PE X (.Constant (.str x) j pos) (tC (.str x)):=λk k k H k I h=>Calls.Constant_str ⟨.str x,H,I.tok _,⟨_,rfl⟩,h⟩
def Gl(X:Cx)(x:Str):Prop:=X.env.kindOf x=some .globalImplicit
theorem l_(I:Inv X pins Z H s)(hg:Gl X x)(hm:X.mg x=some u)(h:Q u s)(hd:(x==("__debug__":Str))=false:=by decide):W8 5#0 X.A (eval (.Name x pos) X.env) Q E s:=Calls.Name_function_global I.ok.kind hg (Calls.loadGlobal_global %[I.ok.glob|I.mod.glob.keeps I.bk] hm h) hd
theorem rJ(I:Inv X pins Z H s)(hg:Gl X x)(hm:X.mg x=none)(hv:QH x=some u)(h:Q u s)(hn:x≠"__name__":=by decide)(hd:(x==("__debug__":Str))=false:=by decide):W8 5#0 X.A (eval (.Name x pos) X.env) Q E s:=by obtain⟨mb,h1,h2⟩:=I.mod.blt;exact Calls.Name_function_global I.ok.kind hg (Calls.loadGlobal_builtin %[I.ok.glob|I.mod.glob.keeps I.bk] hm %[I.ok.blt|h1.keeps I.bk] ((h2 x hn).trans hv) h) hd
theorem II(hg:Gl X x)(hm:X.mg x=some u)(r:RelV v u)(hd:(x==("__debug__":Str))=false:=by decide):PE X (.Name x pos) (tC v):=λj j j H j I h=>l_ I hg hm ⟨v,H,I,r,h⟩ hd
theorem Aq(hg:Gl X x)(hm:X.mg x=none)(hv:QH x=some u)(r:RelV v u)(hn:x≠"__name__":=by decide)(hd:(x==("__debug__":Str))=false:=by decide):PE X (.Name x pos) (tC v):=λj j j H j I h=>rJ I hg hm hv ⟨v,H,I,r,h⟩ hn hd
variable{a b:Expr}{tb:TE}
def tB(t:TE):TT:=λZ H Q=>t Z H λx H1=>∃c,x=.bl c/\Q c H1
theorem IJ(h:PE X e t)(he:∀whole,isTrue e X.env whole=(do let v<-whole;standAt e.pos;holding [v] (truthy v)):=by intro _;rfl):PT X e (tB t):=by intro pins s Z H Q I hw;refine isTrue_plain (aN (h pins s Z H _ I hw) λv s1 hh=>?_) (he _);obtain⟨x,H1,I1,r1,q1⟩:=hh;obtain⟨d,rfl,q⟩:=q1;cases r1;exact Qq ⟨H1,I1,q⟩
variable{tA Ar:TT}{rest:List Expr}
def IK(t u:TT):TT:=λZ H Q=>t Z H λc H1=>if c=true then Q true H1 else u Z H1 Q
def IL(t:TT):TT:=λZ H Q=>t Z H λc H1=>Q (!c) H1
theorem IM(ha:PT X a tA):PW X (.BoolOp .Or [a] pos) tA:=by intro wh pins s Z H Q I h;refine isTrue_or (aN (ha pins s Z H Q I h) λc s1 e=>?_);cases c with|false=>exact isTrue_or_nil e|true=>exact e
theorem pw_or(ha:PT X a tA)(hb:PW X (.BoolOp .Or (b::rest) pos) Ar):PW X (.BoolOp .Or (a::b::rest) pos) (IK tA Ar):=by intro wh pins s Z H Q I h;refine isTrue_or (aN (ha pins s Z H _ I h) λc s1⟨H1,I1,q1⟩=>?_);cases c with|true=>exact⟨H1,I1,q1⟩|false=>exact hb wh pins s1 Z H1 Q I1 q1
theorem IP(ha:PT X a tA):PT X (.UnaryOp .Not a pos) (IL tA):=by intro pins s Z H Q I h;exact isTrue_not (ha pins s Z H (λc H1=>Q (!c) H1) I h)
def IQ(ta tb:TE):TE:=λZ H Q=>ta Z H λx H1=>∃c,x=.bl c/\if c=true then tb Z H1 Q else Q (.bl false) H1
theorem IS{op}(h:PE X a t):PE X (.BoolOp op [a] pos) t:=λpins s Z H Q I hw=>BoolOp_one (h pins s Z H Q I hw)
theorem IT(ha:PE X a ta)(hb:PE X (.BoolOp .And (b::rest) pos) tb):PE X (.BoolOp .And (a::b::rest) pos) (IQ ta tb):=by intro pins s Z H Q I h;refine BoolOp_and (aN (ha pins s Z H _ I h) λv s1 hh=>?_);obtain⟨x,H1,I1,r1,q1⟩:=hh;obtain⟨c,rfl,q1⟩:=q1;cases r1;refine Qq ?_;cases c with|true=>exact hb pins s1 Z H1 Q I1 q1|false=>exact⟨.bl false,H1,I1,rfl,q1⟩
def IU(t:TT)(ta tb:TE):TE:=λZ H Q=>t Z H λc H1=>if c=true then ta Z H1 Q else tb Z H1 Q
theorem IV(hc:PT X c tA)(ha:PE X a ta)(hb:PE X b tb):PE X (.IfExp c a b pos) (IU tA ta tb):=by intro pins s Z H Q I h;refine wpAny_IfExp (aN (hc pins s Z H _ I h) λd s1⟨H1,I1,q1⟩=>?_);cases d with|true=>exact ha pins s1 Z H1 Q I1 q1|false=>exact hb pins s1 Z H1 Q I1 q1
end
def bN(K:W2)(H:Hp)(a:Addr)(xs:List V):Prop:=Rd H a (.lst xs)\/∃(o:Obj)(af:Array Value)(n:Nat),K.lookup a=some o/\o.cls=.type "list"/\o.dict=none/\o.data=.seq af n/\af.size<=W7/\Vals xs af.toList
def cA(K:W2)(H:Hp)(a:Addr)(xs:List V):Prop:=Rd H a (.tup xs)\/∃(o:Obj)(af:Array Value)(n:Nat),K.lookup a=some o/\o.cls=.type "tuple"/\o.data=.seq af n/\af.size<=W7/\Vals xs af.toList
def IW:Value->Option V|.none=>some .aI|.bool b=>some (.bl b)|.int i _=>some (.int i)|.str x _=>some (.str x)|.bytes b _=>some (.byt b)|.float b _=>some (.flt b)|.ref a=>some (.ref a)|.type n=>some (.ty n)|_=>none
theorem RelV.abs(r:RelV x u):IW u=some x:=by cases x with|aI=>cases r;rfl|bl _=>cases r;rfl|int _=>obtain⟨t,rfl⟩:=r;rfl|str _=>obtain⟨t,rfl⟩:=r;rfl|byt _=>obtain⟨t,rfl⟩:=r;rfl|flt _=>obtain⟨t,rfl⟩:=r;rfl|ref _=>cases r;rfl|ty _=>cases r;rfl
theorem RelV.inj(r:RelV x u)(q:RelV y u):x=y:=WS (r.abs.symm.trans q.abs)
theorem Vals.inj{xs ys:List V}{us:List Value}(h:Vals xs us)(k:Vals ys us):xs=ys:=by induction h generalizing ys with|nil=>cases k;rfl|cons r t ih=>cases k with|cons r' t'=>rw[r.inj r',ih t']
section
variable{a:Addr}{xs ys:List V}
theorem bN.of(h:H a=some (.lst xs)):bN K H a xs:=.inl (.inl h)
theorem cA.of(h:H a=some (.tup xs)):cA K H a xs:=.inl (.inl h)
theorem Inv.list(I:Inv X pins Z H s)(h:bN X.K H a xs):∃af:List Value,Vals xs af/\PlainL s.heap a af.toArray/\xs.length<=W7:=by
 rcases h with h|⟨o,af,n,hk,hc,hd,hs,hz,r⟩;.obtain⟨z,af,n,r,e⟩:=h.ok I.aB;exact⟨af,r,⟨_,n,e,rfl,rfl,rfl⟩,z⟩
 .refine⟨af.toList,r,⟨o,n,I.cH a o hk,hc,hd,~~~hs⟩,?_⟩;have e:=r.length;simp only[WY]at e;lia
theorem Inv.tuple(I:Inv X pins Z H s)(h:cA X.K H a xs):∃af:List Value,Vals xs af/\IsTup s.heap a af.toArray/\xs.length<=W7:=by
 rcases h with h|⟨o,af,n,hk,hc,hs,hz,r⟩;.obtain⟨z,af,r,p⟩:=h.ok I.aB;exact⟨af,r,p.tup,z⟩
 .refine⟨af.toList,r,⟨o,I.cH a o hk,hc,n,~~~hs⟩,?_⟩;have e:=r.length;simp only[WY]at e;lia
theorem Inv.IX(I:Inv X pins Z H s)(h:bN X.K H a xs)(h':bN X.K H a ys):xs=ys:=by
 obtain⟨af,r,⟨o,n,e,_,_,d⟩,_⟩:=I.list h;obtain⟨its',r',⟨o',n',e',_,_,d'⟩,_⟩:=I.list h';rw[e]at e';cases e';rw[d]at d';injection d' with d1 _;have:af=its':=by grind
 subst this;exact r.inj r'
theorem Inv.IY(I:Inv X pins Z H s)(h:cA X.K H a xs)(h':cA X.K H a ys):xs=ys:=by
 obtain⟨af,r,⟨o,e,_,n,d⟩,_⟩:=I.tuple h;obtain⟨its',r',⟨o',e',_,n',d'⟩,_⟩:=I.tuple h';rw[e]at e';cases e';rw[d]at d';injection d' with d1 _;have:af=its':=by grind
 subst this;exact r.inj r'
end
abbrev Cx.gP(X:Cx)(E:Value->W1->Prop):Cx:={X with xe:=E}
abbrev Cx.iV(X:Cx):Cx:=X.gP λj j=>False
theorem Cx.Ok.gP(ok:X.Ok)(E:Value->W1->Prop):(X.gP E).Ok:=⟨ok.mod,ok.kind,ok.glob,ok.blt,ok.above,ok.inj,ok.has,ok.kH,ok.hd,ok.frames,ok.l7,ok.l8,ok.bs,ok.ir,ok.kI,ok.kJ,ok.fP,ok.iR⟩
theorem Cx.Ok.jS(ok:(X.gP E).Ok):X.Ok:=⟨ok.mod,ok.kind,ok.glob,ok.blt,ok.above,ok.inj,ok.has,ok.kH,ok.hd,ok.frames,ok.l7,ok.l8,ok.bs,ok.ir,ok.kI,ok.kJ,ok.fP,ok.iR⟩
theorem Inv.gP(I:Inv X pins Z H s)(E:Value->W1->Prop):Inv (X.gP E) pins Z H s:=⟨I.ok.gP E,I.os,I.bare,I.base,I.loc,I.cell,I.free,I.dW,I.pin,I.aB,I.len⟩
theorem Inv.jS(I:Inv (X.gP E) pins Z H s):Inv X pins Z H s:=⟨I.ok.jS,I.os,I.bare,I.base,I.loc,I.cell,I.free,I.dW,I.pin,I.aB,I.len⟩
theorem SP.jS{f}(h:SP (X.gP E) pins D f s'):SP X pins D f s':=by cases f with|next=>obtain⟨Pv,H',I,q⟩:=h;exact⟨Pv,H',I.jS,q⟩|brk=>obtain⟨Pv,H',I,q⟩:=h;exact⟨Pv,H',I.jS,q⟩|cont=>obtain⟨Pv,H',I,q⟩:=h;exact⟨Pv,H',I.jS,q⟩|ret u=>obtain⟨v,Pv,H',I,r,q⟩:=h;exact⟨v,Pv,H',I.jS,r,q⟩
theorem c_.iV{st:List Stmt}{t:TS}(h:c_ X.iV st t):c_ X st t:=λpins s Z H D I hw=>Q7 (h pins s Z H D (I.gP _) hw) (λj j q=>q.jS) (by grind)
section
variable{st:Stmt}{rest:List Stmt}{t u:TS}
def IZ:TS:=λD Z H=>D.nx Z H
def I0(t u:TS):TS:=λD Z H=>t {D with nx:=u D} Z H
theorem I_:c_ X [] IZ:=λj j Z H j I h=>U0 ⟨Z,H,I,h⟩
theorem J_(h1:PS X st t)(h2:c_ X rest u):c_ X (st::rest) (I0 t u):=by intro pins s Z H D I h;refine wpAny_execs_cons (aN (h1 pins s Z H {D with nx:=u D} I h) λf s1 q=>?_);cases f with|next=>obtain⟨Pv,H',I',q⟩:=q;exact h2 pins s1 Pv H' D I' q|ret v=>exact q|brk=>exact q|cont=>exact q
theorem As(h1:PS X st t):c_ X [st] t:=by intro pins s Z H D I h;refine wpAny_execs_cons (aN (h1 pins s Z H D I h) λf s1 q=>?_);cases f with|next=>exact U0 q|ret v=>exact q|brk=>exact q|cont=>exact q
theorem Inv.quiet(I:Inv X pins Z H s):interactive X.env=false:=#v[interactive,I.ok.kind]
def u_(te:TE):TS:=λD Z H=>te Z H λj H1=>D.nx Z H1
theorem va(he:PE X e te)(hs:Jg e none pos.line X.env=pure false:=by rfl):PS X (.Expr e pos) (u_ te):=by intro pins s Z H D I h;exact wpAny_Expr_any (aN (he pins s Z H _ I h) λv s1⟨x,H1,I1,r1,q1⟩=>⟨Z,H1,I1,q1⟩) I.quiet hs
def Ka(te:TE):TS:=λD Z H=>te Z H D.rt
theorem Au(he:PE X e te):PS X (.Return (some e) pos) (Ka te):=by intro pins s Z H D I h;exact wpAny_Return_some (aN (he pins s Z H _ I h) λv s1⟨x,H1,I1,r1,q1⟩=>⟨x,Z,H1,I1,r1,q1⟩)
def Kb(c:TT)(t u:TS):TS:=λD Z H=>c Z H λb H1=>if b=true then t D Z H1 else u D Z H1
theorem Kc(hc:PT X c tc)(ha:c_ X a t)(hb:c_ X b u):PS X (.If c a b pos) (Kb tc t u):=by intro pins s Z H D I h;refine wpAny_If (aN (hc pins s Z H _ I h) λd s1⟨H1,I1,q1⟩=>?_);cases d with|true=>exact ha pins s1 Z H1 D I1 q1|false=>exact hb pins s1 Z H1 D I1 q1
end
abbrev TG:=V->St->Hp->(St->Hp->Prop)->Prop
abbrev kM:=List V->St->Hp->(St->Hp->Prop)->Prop
def PG(X:Cx)(target:Expr)(t:TG):Prop:=∀(pins:List (Addr×Obj))(s:W1)(Z:St)(H:Hp)(v:V)(u:Value)(Q:St->Hp->Prop),Inv X pins Z H s->RelV v u->t v Z H Q->W8 5#0 X.A (assign target X.env u) (λj s'=>∃Pv H',Inv X pins Pv H' s'/\Q Pv H') X.xe s
def gQ(X:Cx)(ts:List Expr)(t:kM):Prop:=∀(pins:List (Addr×Obj))(s:W1)(Z:St)(H:Hp)(vs:List V)(us:List Value)(Q:St->Hp->Prop),Inv X pins Z H s->Vals vs us->t vs Z H Q->W8 5#0 X.A (assignInOrder ((Qv ts X.env).map (·.2)) us) (λj s'=>∃Pv H',Inv X pins Pv H' s'/\Q Pv H') X.xe s
abbrev Aw:=V->V->V->Hp->(Hp->Prop)->Prop
def Ax(X:Cx)(t:Aw):Prop:=∀(pins:List (Addr×Obj))(s:W1)(Z:St)(H:Hp)(o i v:V)(ov iv u:Value)(Q:Hp->Prop),Inv X pins Z H s->RelV o ov->RelV i iv->RelV v u->t o i v H Q->W8 5#0 X.A (setItem ov iv u) (λj s'=>∃H',Inv X pins Z H' s'/\Q H') X.xe s
def rK(i:Nat):TG:=λv Z H Q=>Q (Z.set i (some v)) H
theorem Ay(hN:X.N.Nodup)(hi:X.N[i]?=some x)(hx:Loc X.env.scope x)(hf:X.fn x=true\/X.env.scope.names.lookup x=some .local:=by first|exact .inl rfl|exact .inr rfl|assumption):PG X (.Name x pos) (rK i):=by intro pins s Z H v u Q I r h;exact wpAny_assign_Name (Am I hN hi hx r (λs' I'=>⟨_,H,I',h⟩) hf)
def Kd:kM:=λvs Z H Q=>vs=[]/\Q Z H
def Ke(t:TG)(u:kM):kM:=λvs Z H Q=>∃v r,vs=v::r/\t v Z H λPv H'=>u r Pv H' Q
theorem Az:gQ X [] Kd:=by intro pins s Z H vs us Q I r h;obtain⟨e,h⟩:=h;subst e;cases r;exact assignInOrder_nil ⟨Z,H,I,h⟩
theorem AA{u}(h1:PG X e t)(h2:gQ X es u)(hs:(Qv (e::es) X.env).map (·.2)=assign e X.env::(Qv es X.env).map (·.2):=by rfl):gQ X (e::es) (Ke t u):=by intro pins s Z H vs us Q I r h;obtain⟨v,vr,e1,h⟩:=h;subst e1;cases r with|cons r rr=>rw[hs];refine assignInOrder_cons (aN (h1 pins s Z H _ _ _ I r h) λj s1 hh=>?_);obtain⟨KS,H1,I1,q1⟩:=hh;exact h2 pins s1 KS H1 _ _ Q I1 rr q1
def Kf(K:W2)(n:Nat)(t:kM):TG:=λv Z H Q=>∃a xs,v=.ref a/\cA K H a xs/\xs.length=n/\t xs Z H Q
theorem AB(hc:X.calm=true)(h:gQ X es t)(hn:(Qv es X.env).length=n:=by rfl)(cL:(Qv es X.env).findIdx? (·.1)=none:=by rfl):PG X (.Tuple es k pos) (Kf X.K n t):=by intro pins s Z H v u Q I r hw;obtain⟨a,xs,e1,hq,hl,hw⟩:=hw;subst e1;cases r;obtain⟨af,rv,ht,hz⟩:=I.tuple hq;refine assign_Tuple_tuple (I.ok.hd hc) ht (by simp[hn,<-hl,rv.length]) cL λh' hx=>?_;have I1:Inv X pins Z H 9#h':=I.kept (t':=s.toks) λb o e=>hx b o (Qd (Wm e)) e;exact h pins _ Z H xs _ Q I1 (~~~rv) hw
def Kg(to ti:TE)(t:Aw):TG:=λv Z H Q=>to Z H λo H1=>ti Z H1 λi H2=>t o i v H2 λH3=>Q Z H3
theorem Kh{i}(ho:PE X o to)(hi:PE X i ti)(hs:Ax X t)(ha:∀v,assign (.Subscript o i pos) X.env v=(do
 let ov<-holding [v] (eval o X.env)let iv<-holding [v,ov] (eval i X.env)standAt pos
 holding [v,ov,iv] (setItem ov iv v)release [v,ov,iv] []):=by intro _;rfl):PG X (.Subscript o i pos) (Kg to ti t):=by intro pins s Z H v u Q I r h;rw[ha];refine W0 (WP (aN (ho pins s Z H _ I h) λov s1⟨x,H1,I1,r1,q1⟩=>?_));refine W0 (WP (aN (hi pins s1 Z H1 _ I1 q1) λiv s2⟨y,H2,I2,r2,q2⟩=>?_));refine W0 (wpAny_standAt (W0 (WP (aN (hs pins s2 Z H2 x y v ov iv u _ I2 r1 r2 r q2) λ_ s3⟨H3,I3,q3⟩=>?_))));exact wpAny_release ⟨Z,H3,I3,q3⟩
def rL(te:TE)(g:TG):TS:=λD Z H=>te Z H λx H1=>g x Z H1 D.nx
theorem AD(he:PE X e te)(hg:PG X tg g)(hs:swapsWithSole [tg] e pos.line X.env=pure false:=by rfl)(hw:swappedStores [tg] e X.env=pure none:=by rfl)(h1:(Qv [tg] X.env).map (·.2)=[assign tg X.env]:=by rfl):PS X (.Assign [tg] e pos) (rL te g):=by intro pins s Z H D I h;refine wpAny_Assign_stores (aN (he pins s Z H _ I h) λv s1 hh=>?_) hs hw;obtain⟨x,H1,I1,r1,q1⟩:=hh;rw[h1];exact aN (hg pins s1 Z H1 x v _ I1 r1 q1) λj s2 q=>q
theorem Ki(hN:X.N.Nodup)(hi:X.N[i]?=some x)(hx:Loc X.env.scope x)(he:PE X e te)(hs:Jg e (some (.Name x pos')) pos.line X.env=pure false:=by rfl)(hf:X.fn x=true\/X.env.scope.names.lookup x=some .local:=by first|exact .inl rfl|exact .inr rfl|assumption):PS X (.Assign [.Name x pos'] e pos) (rL te (rK i)):=by intro pins s Z H D I h;refine wpAny_Assign_Name (aN (he pins s Z H _ I h) λv s1 hh=>?_) hs;obtain⟨y,H1,I1,r1,q1⟩:=hh;exact Am I1 hN hi hx r1 (λs2 I2=>⟨_,H1,I2,q1⟩) hf
def AE(c:TT)(tb:TS):TS:=λD Z H=>∃W:Nat->St->Hp->Prop,(∃m,W m Z H)/\∀m Z H,W m Z H->c Z H λb H1=>if b=true then∃N:St->Hp->Prop,(∀Pv H',N Pv H'->∃m',m'<m/\W m' Pv H')/\tb {D with nx:=N,ct:=N,bk:=D.nx} Z H1 else D.nx Z H1
theorem Kj(hp:PassesOwn 5#0 X.A X.env X.xe)(hc:PT X c tc)(hb:c_ X body tb):PS X (.While c body [] pos) (AE tc tb):=by intro pins s Z H D I h;obtain⟨W,⟨m0,w0⟩,turn⟩:=h;refine wpAny_While (codeAny_whileLoop (λn s'=>∃Pv H',Inv X pins Pv H' s'/\W n Pv H') ?_ m0 ⟨Z,H,I,w0⟩);rintro n s1⟨KS,H1,I1,w1⟩;refine Jk hp (aN (hc pins s1 KS H1 _ I1 (turn n KS H1 w1)) λb s2⟨H2,I2,q2⟩=>?_);cases b with
 |true=>obtain⟨N,hN,q2⟩:=q2;rw[if_pos rfl];refine Jk hp (aN (hb pins s2 KS H2 _ I2 q2) λf s3 q3=>?_);cases f with|next=>obtain⟨KM,H3,I3,n3⟩:=q3;obtain⟨m',hm,w3⟩:=hN KM H3 n3;exact⟨m',hm,KM,H3,I3,w3⟩|cont=>obtain⟨KM,H3,I3,n3⟩:=q3;obtain⟨m',hm,w3⟩:=hN KM H3 n3;exact⟨m',hm,KM,H3,I3,w3⟩|brk=>exact q3|ret v=>exact q3
 |false=>rw[if_neg WW];exact U0 ⟨KS,H2,I2,q2⟩
structure It where
 go:Nat->Hp->Prop
 oN:Nat->Hp->V->Hp->Prop
 stop:Nat->Hp->Prop
def f9(X:Cx)(pins:List (Addr×Obj))(H:Hp)(b:Addr):Prop:=H b=none/\b≠X.env.locals/\b∉X.fs/\(b∈X.ex\/X.s₀.heap.objs.size<=b)/\(∀x c,X.env.cells.lookup x=some c->c≠b)/\∀p∈X.pn++pins,p.1≠b
theorem Inv.jT(I:Inv X pins Z H s)(hb:s.heap.objs.size<=b)(hn:H' b=none):f9 X pins H' b:=by
 refine⟨hn,Nat.ne_of_gt (WG I.lt hb),I.IE hb,.inr (WF I.sz hb),λx c e z=>?_,λp hp z=>?_⟩;.obtain⟨v,q⟩:=I.cell x c e;exact absurd (WG q.lt %[z|hb]) (QO _)
 .exact absurd (WG (Wm (I.pin p hp).1) %[z|hb]) (QO _)
structure Turn(P:Wk)(w:Wx)(K:W2)(tg:Expr)(J:It)(fp:List Addr)(it:Addr)(tn:Nat->Heap->Prop):Prop where
 mem:it∈fp
 obj:∀i h,tn i h->∀b∈fp,∃o,h.get? b=some o/\∀v,o.data≠.cell v
 keep:∀i h h',tn i h->(∀b∈fp,∀o,h.get? b=some o->h'.get? b=some o)->tn i h'
 item:∀(X:Cx),X.prog=P->X.w=w->X.K=K->X.calm=true->∀(i:Nat)(pins:List (Addr×Obj))(s:W1)(Z:St)(H:Hp)(E:Value->W1->Prop),Inv X pins Z H s->(∀b∈fp,f9 X pins H b)->tn i s.heap->J.go i H->W8 (model P w) X.A (JE (.ref it)) (λr s1=>∃u,r=some u/\W8 (model P w) X.A (letOwnedTupleGo tg (.ref it) u) (λj s2=>∃x H',Inv X pins Z H' s2/\RelV x u/\J.oN i H x H'/\tn (i+1) s2.heap/\∀b∈fp,H' b=none) E s1) E s
 done:∀(X:Cx),X.prog=P->X.w=w->X.K=K->X.calm=true->∀(i:Nat)(pins:List (Addr×Obj))(s:W1)(Z:St)(H:Hp)(E:Value->W1->Prop),Inv X pins Z H s->(∀b∈fp,f9 X pins H b)->tn i s.heap->J.stop i H->W8 (model P w) X.A (JE (.ref it)) (λr s1=>r=none/\Inv X pins Z H s1) E s
 self:∀(A:Wp)(i:Nat)(s:W1)(Q:Value->W1->Prop)(E:Value->W1->Prop),tn i s.heap->Q (.ref it) s->W8 (model P w) A (pyIter (.ref it)) Q E s
abbrev TI:=St->Hp->(It->Hp->Prop)->Prop
def AF(X:Cx)(pins:List (Addr×Obj))(Z:St)(tg:Expr)(R:It->Hp->Prop)(rM:Value)(s2:W1):Prop:=∃(it:Addr)(fp:List Addr)(tn:Nat->Heap->Prop)(J:It)(H':Hp),rM=.ref it/\Inv X pins Z H' s2/\Turn X.prog X.w X.K tg J fp it tn/\tn 0 s2.heap/\(∀b∈fp,f9 X pins H' b)/\R J H'
def PI(X:Cx)(tg iter:Expr)(wi:TI):Prop:=∀(pins:List (Addr×Obj))(s:W1)(Z:St)(H:Hp)(R:It->Hp->Prop),Inv X pins Z H s->wi Z H R->W8 5#0 X.A (eval iter X.env) (λv s1=>W8 5#0 X.A (pyIter v) (AF X pins Z tg R) X.xe s1) X.xe s
theorem rN{n vs}(ho:s.heap.get? it=some o)(hc:o.cls=.type n)(hd:o.data=.fields vs)(hn:["enumerate","zip","dict_itemiterator","dict_reverseitemiterator","odict_iterator","itertools.zip_longest","itertools.pairwise"].contains n=false)(hQ:Q () s):W8 M A (letOwnedTupleGo tg (.ref it) u) Q E s:=by unfold letOwnedTupleGo;cases tg<;>first|exact W3 hQ|(cases u<;>first|exact W3 hQ|(refine W0 (wpAny_load ho ?_);rw[hc,hd];show W8 M A (if(["enumerate","zip","dict_itemiterator","dict_reverseitemiterator","odict_iterator","itertools.zip_longest","itertools.pairwise"].contains n&&vs[0]?==some (QU _))=true then _ else _) Q E s;rw[if_neg (by intro h;rw[hn,Bool.false_and]at h;cases h)];exact W3 hQ))
def AG(K:W2)(a:Addr):It:=⟨λi H=>∃xs x,bN K H a xs/\xs[i]?=some x,λi H x H'=>H'=H/\∀xs,bN K H a xs->xs[i]?=some x,λi H=>∃xs,bN K H a xs/\xs.length<=i⟩
def vb(K:W2)(a:Addr):It:=⟨λi H=>∃xs x,cA K H a xs/\xs[i]?=some x,λi H x H'=>H'=H/\∀xs,cA K H a xs->xs[i]?=some x,λi H=>∃xs,cA K H a xs/\xs.length<=i⟩
def rO(lo:Int)(n:Nat):It:=⟨λi j=>i<n,λi H x H'=>H'=H/\x=.int (lo+i),λi j=>n<=i⟩
theorem Kk(a it:Addr):Turn P w K tg (AG K a) [it] it λi h=>h.IsListIter it a i where
 mem:=by simp
 obj:=λi h st b hb=>by have e:b=it:= ~~~hb;subst e;obtain⟨o,e,c,d⟩:=st;exact⟨o,e,λv z=>by rw[d]at z;cases z⟩
 keep:=λi h h' st k=>st.at λo e=>k it Zw o e
 item:=by intro X hP hw hK hc i pins s Z H E I hf st hg;subst hP hw hK;obtain⟨xs,x,hq,hx⟩:=hg;obtain⟨af,rv,p,hz⟩:=I.list hq;obtain⟨u,hu,ru⟩:=rv.get hx;obtain⟨f0,f1,f2,f3,f4,f5⟩:=hf it Zw;refine wpAny_pyNext_list_item st p.isList (x:=u) (~~~hu) λh' ar sb=>?_;have I1:Inv X pins Z H 9#h':=I.turned (t':=s.toks) (λb o hb e=>(sb.2 b hb).trans e) f0 f1 f3 f4 f5;obtain⟨o,e,c,d⟩:=id ar;exact⟨u,rfl,rN (s:=9#h') e c d Z' ⟨x,H,I1,ru,⟨rfl,λys hy=>%[I.IX hy hq|hx]⟩,ar,λb hb=>(hf b hb).1⟩⟩
 done:=by intro X hP hw hK hc i pins s Z H E I hf st hg;subst hP hw hK;obtain⟨xs,hq,hx⟩:=hg;obtain⟨af,rv,p,hz⟩:=I.list hq;obtain⟨f0,f1,f2,f3,f4,f5⟩:=hf it Zw;have hl:=rv.length;exact wpAny_pyNext_list_end (I.ok.hd hc) st p.isList Zx λh' eb=>⟨rfl,I.turned (t':=s.toks) (λb o hb e=>eb b o hb e) f0 f1 f3 f4 f5⟩
 self:=λj j j j j st h=>wpAny_pyIter_listiter st h
theorem Kl(a it:Addr):Turn P w K tg (vb K a) [it] it λi h=>h.IsTupleIter it a i where
 mem:=by simp
 obj:=λi h st b hb=>by have e:b=it:= ~~~hb;subst e;obtain⟨o,e,c,d⟩:=st;exact⟨o,e,λv z=>by rw[d]at z;cases z⟩
 keep:=λi h h' st k=>st.at λo e=>k it Zw o e
 item:=by intro X hP hw hK hc i pins s Z H E I hf st hg;subst hP hw hK;obtain⟨xs,x,hq,hx⟩:=hg;obtain⟨af,rv,p,hz⟩:=I.tuple hq;obtain⟨u,hu,ru⟩:=rv.get hx;obtain⟨f0,f1,f2,f3,f4,f5⟩:=hf it Zw;refine wpAny_pyNext_tuple_item st (show s.heap.IsTuple a af.toArray from p) (x:=u) (~~~hu) λh' ar sb=>?_;have I1:Inv X pins Z H 9#h':=I.turned (t':=s.toks) (λb o hb e=>(sb.2 b hb).trans e) f0 f1 f3 f4 f5;obtain⟨o,e,c,d⟩:=id ar;exact⟨u,rfl,rN (s:=9#h') e c d Z' ⟨x,H,I1,ru,⟨rfl,λys hy=>%[I.IY hy hq|hx]⟩,ar,λb hb=>(hf b hb).1⟩⟩
 done:=by intro X hP hw hK hc i pins s Z H E I hf st hg;subst hP hw hK;obtain⟨xs,hq,hx⟩:=hg;obtain⟨af,rv,p,hz⟩:=I.tuple hq;obtain⟨f0,f1,f2,f3,f4,f5⟩:=hf it Zw;have hl:=rv.length;exact wpAny_pyNext_tuple_end (I.ok.hd hc) st (show s.heap.IsTuple a af.toArray from p) Zx λh' eb=>⟨rfl,I.turned (t':=s.toks) (λb o hb e=>eb b o hb e) f0 f1 f3 f4 f5⟩
 self:=λj j j j j st h=>wpAny_pyIter_tupleiter st h
theorem Km(it:Addr)(lo:Int)(n:Nat):Turn P w K tg (rO lo n) [it] it λi h=>IsRangeIter h it (lo+(i:Nat)*1) ((n:Int)-(i:Nat)) 1where
 mem:=by simp
 obj:=λi h st b hb=>by have e:b=it:= ~~~hb;subst e;exact⟨_,st,λv z=>by have z':Data.fields _=Data.cell v:=z;cases z'⟩
 keep:=λi h h' st k=>k it Zw _ st
 item:=by intro X hP hw hK hc i pins s Z H E I hf st hg;subst hP hw hK;obtain⟨f0,f1,f2,f3,f4,f5⟩:=hf it Zw;have W:=Walks.range (prog:=X.prog) (w:=X.w) (I.ok.hd hc) it lo 1 n;refine W.item i s _ _ hg st λv h' tk hv ar kk=>?_;obtain⟨t,rfl⟩:=hv;have I1:Inv X pins Z H {s with heap:=h',toks:=tk}:=I.turned (λb o hb e=>kk b o (~~~hb) e) f0 f1 f3 f4 f5;refine⟨_,rfl,rN (s:={s with heap:=h',toks:=tk}) (n:="range_iterator") ar rfl rfl Z' ⟨.int (lo+i),H,I1,⟨t,?_⟩,⟨rfl,rfl⟩,ar,λb hb=>(hf b hb).1⟩⟩;rw[Int.mul_one]
 done:=by intro X hP hw hK hc i pins s Z H E I hf st hg;subst hP hw hK;obtain⟨f0,f1,f2,f3,f4,f5⟩:=hf it Zw;exact wpAny_pyNext_range_end (I.ok.hd hc) st (by have:n<=i:=hg;lia) λh' eb=>⟨rfl,I.turned (t':=s.toks) (λb o hb e=>eb b o hb e) f0 f1 f3 f4 f5⟩
 self:=λj j j j j st h=>wpAny_pyIter_rangeiter st h
theorem Kn{R:It->Hp->Prop}{lo hi:Int}{t u v:Tok}{tk:Nat}(I:Inv X pins Z H s)(h1:-2^62<=lo)(h2:lo<2^62)(h3:-2^62<=hi)(h4:hi<2^62)(q:R (rO lo (hi-lo).toNat) H):W8 5#0 X.A (pyIter (.ref s.heap.objs.size)) (AF X pins Z tg R) E {s with heap:=s.heap.push {cls:=.type "range",data:=.fields #[.int lo t,.int hi u,.int 1 v]},toks:=tk}:=by
 refine wpAny_pyIter_range (IsRange.new ..) (small_one h1 h2 h3 h4) ?_;have I1:Inv X pins Z H {s with heap:=s.heap.push {cls:=.type "range",data:=.fields #[.int lo t,.int hi u,.int 1 v]},toks:=tk}:=I.kept λb o e=>W6 _ e;refine⟨(s.heap.push {cls:=.type "range",data:=.fields #[.int lo t,.int hi u,.int 1 v]}).objs.size,[(s.heap.push {cls:=.type "range",data:=.fields #[.int lo t,.int hi u,.int 1 v]}).objs.size],_,_,H,rfl,I1.kept (t':=tk) λb o e=>W6 _ e,Km _ lo (hi-lo).toNat,?_,λb hb=>?_,q⟩
 .have e1:lo+((0:Nat):Int)*1=lo:=by simp
  have e2:(((hi-lo).toNat:Nat):Int)-((0:Nat):Int)=Builtin.Range.rangeSize lo hi 1:=by rw[rangeSize_one];split<;>lia
  show IsRangeIter _ _ (lo+((0:Nat):Int)*1) ((((hi-lo).toNat:Nat):Int)-((0:Nat):Int)) 1;rw[e1,e2];exact Wv _ rfl
 .have e:b=(s.heap.push {cls:=.type "range",data:=.fields #[.int lo t,.int hi u,.int 1 v]}).objs.size:=by grind
  subst e;exact I1.jT (W5 _) (I1.aB.fresh (W5 _))
def Ko(ta:TA):TI:=λZ H R=>ta Z H λvs H1=>∃j:Int,vs=[.int j]/\-2^62<=j/\j<2^62/\R (rO 0 j.toNat) H1
theorem Kp{a:Expr}{ta:TA}{p pos:Pos}(hg:Gl X "range")(hm:X.mg "range"=none)(ha:PA X [a] ta)(hs:Wa [a] X.env=[(false,eval a X.env)]:=by rfl):PI X tg (.Call (.Name "range" p) [a] [] pos) (Ko ta):=by intro pins s Z H R I h;refine Call_ (rJ I hg hm boot_range (PyProof.Rows.callWith_type1 (aN (ha pos pins s Z H _ I h) λus s1 hh=>?_) hs rfl));obtain⟨vs,H1,I1,r1,q1⟩:=hh;obtain⟨j,e,q1,q2,q⟩:=q1;subst e;cases r1 with|cons r rr=>cases rr;obtain⟨t,rfl⟩:=r;exact call_range_1 (Kn I1 Y' Y' q1 q2 (~~~q))
def Kq(wi:TI)(g:TG)(tb:TS):TS:=λD Z H=>wi Z H λJ H1=>∃W:Nat->Nat->St->Hp->Prop,(∃m,W 0 m Z H1)/\∀i m Z H,W i m Z H->J.stop i H/\D.nx Z H\/J.go i H/\∃N:St->Hp->Prop,(∀Pv H',N Pv H'->∃m',m'<m/\W (i+1) m' Pv H')/\∀x H',J.oN i H x H'->g x Z H' λN' H2=>tb {D with nx:=N,ct:=N,bk:=D.nx} N' H2
def oO(fp:List Addr)(h:Heap):List (Addr×Obj):=fp.filterMap λb=>(h.get? b).map λo=>(b,o)
theorem rP(hb:b∈fp)(e:h.get? b=some o):(b,o)∈oO fp h:=List.mem_filterMap.mpr ⟨b,hb,by rw[e];rfl⟩
theorem Kr(hp:p∈oO fp h):p.1∈fp/\h.get? p.1=some p.2:=by obtain⟨b,hb,e⟩:=List.mem_filterMap.mp hp;cases q:h.get? b<;>grind
theorem Inv.pinned(I:Inv X pins Z H s)(hf:∀b∈fp,f9 X pins H b)(ho:∀b∈fp,∃o,s.heap.get? b=some o/\∀v,o.data≠.cell v):Inv X (pins++oO fp s.heap) Z H s:=I.Al λp hp=>(Wu.mp hp).elim (λz=>I.pin p (Q1 _ z)) λz=>by obtain⟨hb,e⟩:=Kr z;obtain⟨f0,f1,f2,_⟩:=hf p.1 hb;obtain⟨o,e',d⟩:=ho p.1 hb;rw[e]at e';cases e';exact⟨e,f0,f1,f2,d⟩
theorem Inv.rQ(I:Inv X (pins++pl) Z H s):Inv X pins Z H s:=I.Al λp hp=>I.pin p (Q1 _ (JO _ hp))
theorem Ks(hp:PassesOwn 5#0 X.A X.env X.xe)(hc:X.calm=true)(hi:PI X tg iter wi)(hg:PG X tg g)(hb:c_ X body tb)(hs:∀x,Jq iter X.env x=pure x:=by intro _;rfl):PS X (.For tg iter body [] pos) (Kq wi g tb):=by
 intro pins s Z H D I h;refine wpAny_For (aN (hi pins s Z H _ I h) λv s1 h1=>aN h1 λrM s2 h2=>?_) hs;obtain⟨it,fp,tn,J,H2,e,I2,T,bH,f2,W,⟨m0,w0⟩,turn⟩:=h2;subst e;have vc:∀{H':Hp},(∀b∈fp,H' b=none)->∀b∈fp,f9 X pins H' b:=λhn b hb=>⟨hn b hb,(f2 b hb).2⟩;refine codeAny_forLoop_any (λn s'=>∃i Pv H',Inv X pins Pv H' s'/\tn i s'.heap/\(∀b∈fp,H' b=none)/\W i n Pv H') ?_ m0 ⟨0,Z,H2,I2,bH,λb hb=>(f2 b hb).1,w0⟩;rintro n s3⟨i,KM,H3,I3,bq,fr3,w3⟩;rcases turn i n KM H3 w3 with⟨stop,qn⟩|⟨go,N,hN,step⟩;.refine Jk hp (aN (T.done X rfl rfl rfl hc i pins s3 KM H3 X.xe I3 (vc fr3) bq stop) λr s4⟨hr,I4⟩=>?_);subst hr;exact U0 ⟨KM,H3,I4,qn⟩
 .refine Jk hp (aN (T.item X rfl rfl rfl hc i pins s3 KM H3 X.xe I3 (vc fr3) bq go) λr s4⟨u,hr,h4⟩=>?_);subst hr;refine Jk hp (aN h4 λj s5 hh=>?_);obtain⟨x,H5,I5,r5,y5,gu,fr5⟩:=hh;have Kt:=I5.pinned (vc fr5) (T.obj _ _ gu);refine Jk hp (aN (hg _ s5 KM H5 x u _ Kt r5 (step x H5 y5)) λj s6 hh=>?_);obtain⟨F',H6,I6,q6⟩:=hh;refine Jk hp (aN (hb _ s6 F' H6 _ I6 q6) λf s7 q7=>?_);have again:∀{KB:St}{H7:Hp},Inv X (pins++oO fp s5.heap) KB H7 s7->N KB H7->∃m,m<n/\∃i Pv H',Inv X pins Pv H' s7/\tn i s7.heap/\(∀b∈fp,H' b=none)/\W i m Pv H':=λ{KB H7}I7 n7=>by obtain⟨m',hm,w7⟩:=hN KB H7 n7;refine⟨m',hm,i+1,KB,H7,I7.rQ,T.keep _ _ _ gu λb hb o e=>(I7.pin (b,o) (Q1 _ (Q1 _ (rP hb e)))).1,λb hb=>?_,w7⟩;obtain⟨o,e,d⟩:=T.obj _ _ gu b hb;exact(I7.pin (b,o) (Q1 _ (Q1 _ (rP hb e)))).2.1
  cases f with|next=>obtain⟨KB,H7,I7,n7⟩:=q7;exact again I7 n7|cont=>obtain⟨KB,H7,I7,n7⟩:=q7;exact again I7 n7|brk=>obtain⟨KB,H7,I7,q7⟩:=q7;exact⟨KB,H7,I7.rQ,q7⟩|ret v=>obtain⟨x7,KB,H7,I7,r7,q7⟩:=q7;exact⟨x7,KB,H7,I7.rQ,r7,q7⟩
abbrev R2:=V->V->Hp->VK->Prop
def a_(X:Cx)(f:Value->Value->Sem Value)(r:R2):Prop:=∀(pins:List (Addr×Obj))(s:W1)(Z:St)(H:Hp)(x y:V)(v u:Value)(Q:VK),Inv X pins Z H s->RelV x v->RelV y u->r x y H Q->W8 5#0 X.A (f v u) (EP X pins Z Q) X.xe s
def vd(X:Cx)(f:Value->Sem Value)(r:V->Hp->VK->Prop):Prop:=∀(pins:List (Addr×Obj))(s:W1)(Z:St)(H:Hp)(x:V)(v:Value)(Q:VK),Inv X pins Z H s->RelV x v->r x H Q->W8 5#0 X.A (f v) (EP X pins Z Q) X.xe s
def cN(X:Cx)(f:Value)(r:List V->Hp->VK->Prop):Prop:=∀(pins:List (Addr×Obj))(s:W1)(Z:St)(H:Hp)(xs:List V)(us:List Value)(Q:VK),Inv X pins Z H s->Vals xs us->r xs H Q->W8 5#0 X.A (call f us) (EP X pins Z Q) X.xe s
def me(r:R2)(ta tb:TE):TE:=λZ H Q=>ta Z H λx H1=>tb Z H1 λy H2=>r x y H2 Q
def ve(r:V->Hp->VK->Prop)(ta:TE):TE:=λZ H Q=>ta Z H λx H1=>r x H1 Q
def rI(C:Int->Int->Prop)(g:Int->Int->V):R2:=λx y H Q=>∃i j,x=.int i/\y=.int j/\C i j/\Q (g i j) H
def iW(g:Int->Int->V):R2:=λx y H Q=>∃i j,x=.int i/\y=.int j/\Q (g i j) H
def rU(g:Int->V):V->Hp->VK->Prop:=λx H Q=>∃i,x=.int i/\Q (g i) H
section
variable{a b c:Expr}{tb tc:TE}
theorem vf(ha:PE X a ta)(hb:PE X b tb){R:V->V->Hp->Prop}(I:Inv X pins Z H s)(h:ta Z H λx H1=>tb Z H1 λy H2=>R x y H2){Q:Value->W1->Prop}{f:Value->Value->Sem Value}(hf:∀v u s2 x y H2,Inv X pins Z H2 s2->RelV x v->RelV y u->R x y H2->W8 5#0 X.A (f v u) Q X.xe s2):W8 5#0 X.A (eval a X.env) (λv s₁=>W8 5#0 X.A (eval b X.env) (λu s₂=>W8 5#0 X.A (f v u) Q X.xe s₂) X.xe s₁) X.xe s:=by refine aN (ha pins s Z H _ I h) λv s1⟨x,H1,I1,r1,q1⟩=>?_;refine aN (hb pins s1 Z H1 _ I1 q1) λu s2 hh=>?_;obtain⟨y,H2,I2,r2,q2⟩:=hh;exact hf v u s2 x y H2 I2 r1 r2 q2
theorem AH{op:Operator}{r:R2}(ho:a_ X (Qw op) r)(ha:PE X a ta)(hb:PE X b tb):PE X (.BinOp a op b pos) (me r ta tb):=by intro pins s Z H Q I h;exact wpAny_BinOp (vf ha hb I h λv u s2 x y H2 I2 rx ry q=>ho pins s2 Z H2 x y v u Q I2 rx ry q)
theorem AI{op}(ho:vd X (unaryOp op) r)(ha:PE X a ta):PE X (.UnaryOp op a pos) (ve r ta):=by intro pins s Z H Q I h;exact UnaryOp_ (aN (ha pins s Z H _ I h) λv s1⟨x,H1,I1,r1,q1⟩=>ho pins s1 Z H1 x v Q I1 r1 q1)
theorem rR{f:Value->Value->Sem Value}{C:Int->Int->Prop}{g:Int->Int->Int}(rule:∀(i j:Int)(t u:Tok)(s:W1)(Q:Value->W1->Prop)(E:Value->W1->Prop),C i j->Q (.int (g i j) s.toks) {s with toks:=s.toks+1}->W8 5#0 X.A (f (.int i t) (.int j u)) Q E s):a_ X f (rI C λi j=>.int (g i j)):=by intro pins s Z H x y v u Q I rx ry h;obtain⟨i,j,rfl,rfl,hc,q⟩:=h;obtain⟨t,rfl⟩:=rx;obtain⟨t',rfl⟩:=ry;exact rule i j t t' s _ _ hc ⟨.int (g i j),H,I.tok _,⟨_,rfl⟩,q⟩
theorem AJ{f:Value->Value->Sem Value}{g:Int->Int->Int}(rule:∀(i j:Int)(t u:Tok)(s:W1)(Q:Value->W1->Prop)(E:Value->W1->Prop),Q (.int (g i j) s.toks) {s with toks:=s.toks+1}->W8 5#0 X.A (f (.int i t) (.int j u)) Q E s):a_ X f (iW λi j=>.int (g i j)):=by intro pins s Z H x y v u Q I rx ry h;obtain⟨i,j,rfl,rfl,q⟩:=h;obtain⟨t,rfl⟩:=rx;obtain⟨t',rfl⟩:=ry;exact rule i j t t' s _ _ ⟨.int (g i j),H,I.tok _,⟨_,rfl⟩,q⟩
theorem vg{f:Value->Value->Sem Value}{g:Int->Int->Bool}(rule:∀(i j:Int)(t u:Tok)(s:W1)(Q:Value->W1->Prop)(E:Value->W1->Prop),Q (.bool (g i j)) s->W8 5#0 X.A (f (.int i t) (.int j u)) Q E s):a_ X f (iW λi j=>.bl (g i j)):=by intro pins s Z H x y v u Q I rx ry h;obtain⟨i,j,rfl,rfl,q⟩:=h;obtain⟨t,rfl⟩:=rx;obtain⟨t',rfl⟩:=ry;exact rule i j t t' s _ _ ⟨.bl (g i j),H,I,rfl,q⟩
def AK(i j:Int):Prop:=0<j/\j<1073741824
def AL(i j:Int):Prop:=0<=j/\j<=1000000/\i.natAbs<2^64
def nu(i j:Int):Prop:=-2^64<i/\i<2^64\/-2^64<j/\j<2^64
theorem nu.ok{i}(h:nu i j):IntMulOk i j:=by
 rcases h with⟨h1,h2⟩|⟨h1,h2⟩;.exact .of_left (intBits_le_64 h1 h2)
 .exact .of_right (intBits_le_64 h1 h2)
theorem Ku:a_ X (Qw .Add) (iW λi j=>.int (i+j)):=AJ λk k k k k k k q=>add_int q
theorem Kv:a_ X (Qw .Sub) (iW λi j=>.int (i-j)):=AJ λk k k k k k k q=>sub_int q
theorem AM:a_ X (Qw .Mult) (rI nu λi j=>.int (i*j)):=rR λk k k k k k k hc q=>mul_int q hc.ok
theorem Kw:a_ X (Qw .FloorDiv) (rI AK λi j=>.int (i/j)):=rR λi j k k k k k hc q=>by have h1:(0:Int)<j:=hc.1;have h2:j<1073741824:=hc.2;exact floordiv_int Y' %[Int.fdiv_eq_ediv_of_nonneg i Y'|q] (.inl (PyProof.noPylong_small Y'))
theorem AN:a_ X (Qw .Mod) (rI (λk j=>0<j) λi j=>.int (i%j)):=rR λi j k k k k k hc q=>by have h1:(0:Int)<j:=hc;exact mod_int' Y' %[Int.fmod_eq_emod_of_nonneg i Y'|q]
theorem Kx:a_ X (Qw .Pow) (rI AL λi j=>.int (i^j.toNat)):=rR λk k k k k k k hc q=>pow_int_small hc.1 hc.2.1 hc.2.2 q
theorem Ky{f:Value->Sem Value}{g:Int->Int}(rule:∀(i:Int)(t:Tok)(s:W1)(Q:Value->W1->Prop)(E:Value->W1->Prop),Q (.int (g i) s.toks) {s with toks:=s.toks+1}->W8 5#0 X.A (f (.int i t)) Q E s):vd X f (rU λi=>.int (g i)):=by intro pins s Z H x v Q I rx h;obtain⟨i,rfl,q⟩:=h;obtain⟨t,rfl⟩:=rx;exact rule i t s _ _ ⟨.int (g i),H,I.tok _,⟨_,rfl⟩,q⟩
theorem AO:vd X (unaryOp .USub) (rU λi=>.int (-i)):=Ky λj j j j j q=>neg_int q
theorem rS(I:Inv X pins Z H s)(q:Q (.bl k) H)(e:k=k'):EP X pins Z Q (.bool k') s:=by subst e;exact⟨.bl k,H,I,rfl,q⟩
theorem Kz:a_ X (WC .Lt) (iW λi j=>.bl (decide (i<j))):=vg λk k k k k k k q=>lt_int q
theorem KA:a_ X (WC .LtE) (iW λi j=>.bl (decide (i<=j))):=vg λk k k k k k k q=>le_int q
theorem KC:a_ X (WC .GtE) (iW λi j=>.bl (decide (j<=i))):=vg λk k k k k k k q=>ge_int q
theorem KD:a_ X (WC .Lt) λx y H Q=>∃i j,x=.str i/\y=.str j/\Q (.bl (decide (i.cps.toList<j.cps.toList))) H:=by intro pins s Z H x y v u Q I rx ry h;obtain⟨i,j,rfl,rfl,q⟩:=h;obtain⟨t,rfl⟩:=rx;obtain⟨t',rfl⟩:=ry;exact lt_str (rS I q rfl)
theorem KG:a_ X (WC .In) λx y H Q=>∃i j,x=.str i/\y=.str j/\Q (.bl !(JA j i 0 j.length 1).isEmpty) H:=by intro pins s Z H x y v u Q I rx ry h;obtain⟨i,j,rfl,rfl,q⟩:=h;obtain⟨t,rfl⟩:=rx;obtain⟨t',rfl⟩:=ry;exact in_str (rS I q rfl)
theorem KH:a_ X (WC .NotIn) λx y H Q=>∃i j,x=.str i/\y=.str j/\Q (.bl !!(JA j i 0 j.length 1).isEmpty) H:=by intro pins s Z H x y v u Q I rx ry h;obtain⟨i,j,rfl,rfl,q⟩:=h;obtain⟨t,rfl⟩:=rx;obtain⟨t',rfl⟩:=ry;exact notIn_str (rS I q rfl)
theorem a_.or{f}(h:a_ X f r)(h':a_ X f r'):a_ X f λx y H Q=>r x y H Q\/r' x y H Q:=by
 intro pins s Z H x y v u Q I rx ry q;rcases q with q|q;.exact h pins s Z H x y v u Q I rx ry q
 .exact h' pins s Z H x y v u Q I rx ry q
theorem AQ{r:R2}(ho:a_ X (WC op) r)(ha:PE X a ta)(hb:PE X b tb)(hm:JU op b=false):PE X (.Compare a [op] [b] pos) (me r ta tb):=by intro pins s Z H Q I h;exact wpAny_Compare1 (vf ha hb I h λv u s2 x y H2 I2 rx ry q=>ho pins s2 Z H2 x y v u Q I2 rx ry q) hm
def AR(t:TE):TT:=λZ H Q=>t Z H λx H'=>∃k,x=.bl k/\Q k H'
theorem AS(ho:a_ X (WC op) r)(ha:PE X a ta)(hb:PE X b tb)(hm:JU op b=false):PT X (.Compare a [op] [b] pos) (AR (me r ta tb)):=by intro pins s Z H Q I h;refine wpAny_isTrue_Compare1 (aN (ha pins s Z H _ I h) λv s1⟨x,H1,I1,r1,q1⟩=>aN (hb pins s1 Z H1 _ I1 q1) λu s2⟨y,H2,I2,r2,q2⟩=>aN (ho pins s2 Z H2 x y v u _ I2 r1 r2 q2) λc s3 hh=>?_) hm;obtain⟨z,H3,I3,r3,k,e,q3⟩:=hh;subst e;cases r3;exact Qq ⟨H3,I3,q3⟩
def vh(r r':R2)(ta tb tc:TE):TE:=λZ H Q=>ta Z H λx H1=>tb Z H1 λy H2=>r x y H2 λz H3=>∃k,z=.bl k/\if k=true then tc Z H3 λw' H4=>r' y w' H4 Q else Q (.bl false) H3
theorem KI(ho:a_ X (WC op) r)(gq:a_ X (WC gU) r')(ha:PE X a ta)(hb:PE X b tb)(hc:PE X c tc)(hm:lastMarks [op,gU] [b,c]=false:=by with_unfolding_all rfl):PE X (.Compare a [op,gU] [b,c] pos) (vh r r' ta tb tc):=by intro pins s Z H Q I h;refine Compare_chain (aN (ha pins s Z H _ I h) λv s1⟨x,H1,I1,r1,q1⟩=>chain_link (aN (hb pins s1 Z H1 _ I1 q1) λu s2⟨y,H2,I2,r2,q2⟩=>aN (ho pins s2 Z H2 x y v u _ I2 r1 r2 q2) λd s3 hh=>?_)) hm;obtain⟨z,H3,I3,r3,k,e,q3⟩:=hh;subst e;cases r3;refine Qq ?_;cases k with|false=>exact ite_ff ⟨.bl false,H3,I3,rfl,q3⟩|true=>exact ite_tt (chain_last (aN (hc pins s3 Z H3 _ I3 q3) λw' s4⟨z',H4,I4,r4,q4⟩=>gq pins s4 Z H4 y z' u w' Q I4 r2 r4 q4))
theorem KJ(ho:a_ X (WC op) r)(gq:a_ X (WC gU) r')(ha:PE X a ta)(hb:PE X b tb)(hc:PE X c tc)(hm:lastMarks [op,gU] [b,c]=false:=by with_unfolding_all rfl):PT X (.Compare a [op,gU] [b,c] pos) (AR (vh r r' ta tb tc)):=by intro pins s Z H Q I h;refine isTrue_chain (aN (ha pins s Z H _ I h) λv s1⟨x,H1,I1,r1,q1⟩=>test_link (aN (hb pins s1 Z H1 _ I1 q1) λu s2⟨y,H2,I2,r2,q2⟩=>aN (ho pins s2 Z H2 x y v u _ I2 r1 r2 q2) λd s3 hh=>?_)) hm;obtain⟨z,H3,I3,r3,k,e,q3⟩:=hh;subst e;cases r3;refine Qq ?_;cases k with|false=>obtain⟨k',e',q'⟩:=q3;cases e';exact ite_ff ⟨H3,I3,q'⟩|true=>refine ite_tt (test_last (aN (hc pins s3 Z H3 _ I3 q3) λw' s4⟨z',H4,I4,r4,q4⟩=>aN (gq pins s4 Z H4 y z' u w' _ I4 r2 r4 q4) λd' s5 hh=>?_));obtain⟨z2,H5,I5,r5,k2,e2,q5⟩:=hh;subst e2;cases r5;exact Qq ⟨H5,I5,q5⟩
theorem ny:(W7:Nat)<2^63:=by rw[Qi];decide
theorem KL:a_ X (Qw .Add) λx y H Q=>∃i j,x=.str i/\y=.str j/\i.length+j.length<=W7/\Q (.str (i++j)) H:=by intro pins s Z H x y v u Q I rx ry h;obtain⟨i,j,rfl,rfl,hz,q⟩:=h;obtain⟨t,rfl⟩:=rx;obtain⟨t',rfl⟩:=ry;exact add_str (λt' tk=>⟨.str (i++j),H,I.tok _,⟨_,rfl⟩,q⟩) hz
theorem eN(r:Vals [x] us):∃u,us=[u]/\RelV x u:=by cases r with|cons r1 r2=>cases r2;exact⟨_,rfl,r1⟩
theorem rT(r:Vals [x,y] us):∃u w',us=[u,w']/\RelV x u/\RelV y w':=by cases r with|cons r1 r2=>cases r2 with|cons r3 r4=>cases r4;exact⟨_,_,rfl,r1,r3⟩
theorem KN(hc:X.calm=true):cN X (.builtin "max") λxs H Q=>∃i j,xs=[.int i,.int j]/\Q (.int (if j>i then j else i)) H:=by
 intro pins s Z H xs us Q I r h;obtain⟨i,j,rfl,q⟩:=h;obtain⟨u,w',rfl,⟨t,rfl⟩,⟨t',rfl⟩⟩:=rT r;refine max_two_ints (I.ok.hd hc) λh' tk k=>⟨_,H,I.kept k,?_,q⟩;by_cases hj:j>i;.rw[if_pos hj,if_pos hj];exact⟨_,rfl⟩
 .rw[if_neg hj,if_neg hj];exact⟨_,rfl⟩
theorem KO(hc:X.calm=true):cN X (.builtin "min") λxs H Q=>∃i j,xs=[.int i,.int j]/\Q (.int (if j<i then j else i)) H:=by
 intro pins s Z H xs us Q I r h;obtain⟨i,j,rfl,q⟩:=h;obtain⟨u,w',rfl,⟨t,rfl⟩,⟨t',rfl⟩⟩:=rT r;refine min_two_ints (I.ok.hd hc) λh' tk k=>⟨_,H,I.kept k,?_,q⟩;by_cases hj:j<i;.rw[if_pos hj,if_pos hj];exact⟨_,rfl⟩
 .rw[if_neg hj,if_neg hj];exact⟨_,rfl⟩
theorem KP:cN X (.type "int") λxs H Q=>(∃i,xs=[.int i]/\Q (.int i) H)\/∃k,xs=[.bl k]/\Q (.int (if k then 1 else 0)) H:=by
 intro pins s Z H xs us Q I r h;rcases h with⟨i,rfl,q⟩|⟨k,rfl,q⟩;.obtain⟨u,rfl,t,rfl⟩:=eN r;exact call_int_int ⟨.int i,H,I,⟨_,rfl⟩,q⟩
 .obtain⟨u,rfl,r1⟩:=eN r;cases r1;exact call_int_bool ⟨.int (if k then 1 else 0),H,I.tok _,⟨_,rfl⟩,q⟩
end
structure vi(h:Heap)(x dx C:Addr)(mA:Str->Option Value):Prop where
 obj:h.get? x=some (PySem.W.instObj C dx)ns:h.Ns1 dx mA
 ne:dx≠x
universe H in theorem KQ{h:Heap}{dx:Addr}(n:h.Ns1 dx mA):∃od,h.get? dx=some od/\∀name,PySem.W.lookIn name od=some (mA name):=by
 obtain⟨o,es,ep,ho,hd,hk,_,hm⟩:=n;refine⟨o,ho,λname=>?_⟩;have e:=hm name;unfold nsFind findBy at e;rw[<-Array.find?_toList]at e;unfold PySem.W.lookIn;rw[hd];dsimp only;split;.rename_i y q;rw[q]at e;exact congrArg some e
 .rename_i q;rw[q]at e;have a:es.toList.any (·.refKey)=false:=by rw[List.any_eq_false];intro y hy;obtain⟨z,t,hkey⟩:=hk y (Array.mem_toList_iff.mp hy);simp[DictEntry.refKey,hkey]
  grind
theorem vi.look{dx}(I:vi h x dx C mA):∃od,PySem.W.InstAt h x (PySem.W.instObj C dx) C (some od)/\∀name,PySem.W.lookIn name od=some (mA name):=let⟨od,ho,hl⟩:=KQ I.ns
 ⟨od,⟨I.obj,rfl,rfl,ho⟩,hl⟩
theorem eF.some_of(r:eF (some v) o):∃u,o=some u/\RelV v u:=by cases o with|none=>exact(show False from r).elim|some u=>exact⟨u,rfl,r⟩
theorem eF.none_of(r:eF none o):o=none:=by cases o with|none=>rfl|some u=>exact(show False from r).elim
section
variable{h:Heap}{a dx:Addr}{fs:List (Str×V)}
theorem KR(aB:ck P w H h)(e:H a=some (.ins C dx fs)):∃mA,vi h a dx C mA/\(∀f,eF (fs.lookup f) (mA f))/\PySem.Within mA (fs.map (·.1))/\fs.length<=1000/\H dx=some (.own a):=by obtain⟨d,z,ne,ob,mA,n,r,q⟩:=show aZ P w H h a (.ins C dx fs)from aB a _ e;exact⟨mA,⟨ob,n,ne⟩,r,q,z,d⟩
end
structure vj(K:W2)(C:Addr):Prop where
 pg:PySem.W.plainGet K C Str.empty=true
 hd:PySem.W.hasDictIn K C=true
 po:PySem.W.plainOver K C=true
 sa:PySem.W.findIn K (.ref C) "__setattr__"=some (some (.builtin "object.__setattr__"))
theorem vj.get(c:vj K C)(f:Str):PySem.W.plainGet K C f=true:=c.pg
section
variable{Q:Value->W1->Prop}{c:Value}{b:Bool}
inductive iu(K:W2)(H:Hp):V->Value->Prop where|aI:iu K H .aI (.type "NoneType")|bl(x:Bool):iu K H (.bl x) (.type "bool")|int(i:Int):iu K H (.int i) (.type "int")|str(x:Str):iu K H (.str x) (.type "str")|flt(x:UInt64):iu K H (.flt x) (.type "float")|lst{a:Addr}{xs:List V}(e:H a=some (.lst xs)):iu K H (.ref a) (.type "list")|frz{a:Addr}{o:Obj}{xs:List V}(e:H a=some (.frz o (.lst xs))):iu K H (.ref a) (.type "list")|tup{a:Addr}{xs:List V}(e:H a=some (.tup xs)):iu K H (.ref a) (.type "tuple")|dK{a:Addr}{ao:List (Key×V)}(e:H a=some (.dK ao)):iu K H (.ref a) (.type "dict")|dT{a:Addr}{ao:List (List Key×V)}(e:H a=some (.dT ao)):iu K H (.ref a) (.type "dict")|ins{a C dx:Addr}{fs:List (Str×V)}(e:H a=some (.ins C dx fs))(cl:vj K C)(ha:PySem.W.findIn K (.ref C) "__class__"=some (some (.builtin "object.__class__")))(hn:PySem.W.specialIn K (.builtin "object.__class__") "__get__"=some (some (.builtin "getset_descriptor.__get__")))(AU:PySem.W.takesIn K (.builtin "object.__class__")=some true)(hm:PySem.W.mroIn K C (.type "object")=some true):iu K H (.ref a) (.ref C)
theorem kO(I:Inv X pins Z H s)(rx:RelV x u)(ty:iu X.K H x t)(e:QP X.K t c=some b)(h:∀tk,Q (.bool b) {s with toks:=tk}):W8 5#0 A (call (.builtin "isinstance") [u,c]) Q E s:=by cases ty with|aI=>cases show u=Value.none from rx;exact Qk PySem.W.kitx_none I.cH True.intro e (by grind) h|bl y=>cases show u=Value.bool y from rx;exact Qk PySem.W.kitx_bool I.cH True.intro e (by grind) h|int i=>obtain⟨t,q⟩:=show∃t,u=Value.int i t from rx;cases q;exact Qk PySem.W.kitx_int I.cH True.intro e (by grind) h|str y=>obtain⟨t,q⟩:=show∃t,u=Value.str y t from rx;cases q;exact Qk PySem.W.kitx_str I.cH True.intro e (by grind) h|flt y=>obtain⟨t,q⟩:=show∃t,u=Value.float y t from rx;cases q;exact Qk PySem.W.kitx_float I.cH True.intro e (by grind) h|@lst a xs ea=>cases show u=Value.ref a from rx;obtain⟨_,_,n,_,h1⟩:=show aZ X.prog X.w H s.heap a (.lst xs)from I.aB a _ ea;exact Qk PySem.W.kitx_list I.cH ⟨_,h1,rfl⟩ e (by grind) h|@frz a ob xs ea=>cases show u=Value.ref a from rx;obtain⟨_,_,_,n,_,h1⟩:=show aZ X.prog X.w H s.heap a (.frz ob (.lst xs))from I.aB a _ ea;exact Qk PySem.W.kitx_list I.cH ⟨_,h1,rfl⟩ e (by grind) h|@tup a xs ea=>cases show u=Value.ref a from rx;obtain⟨_,_,_,p⟩:=show aZ X.prog X.w H s.heap a (.tup xs)from I.aB a _ ea;obtain⟨o,h1,h2,_⟩:=p.tup;exact Qk PySem.W.kitx_tuple I.cH ⟨o,h1,h2⟩ e (by grind) h|@dK a ao ea=>cases show u=Value.ref a from rx;obtain⟨_,_,vs,_,p⟩:=show aZ X.prog X.w H s.heap a (.dK ao)from I.aB a _ ea;obtain⟨o,es,ep,h1,h2,_⟩:=p;exact Qk PySem.W.kitx_dict I.cH ⟨o,h1,h2.1⟩ e (by grind) h|@dT a ao ea=>cases show u=Value.ref a from rx;obtain⟨_,_,xs,_,o,es,ep,h1,h2,_⟩:=show aZ X.prog X.w H s.heap a (.dT ao)from I.aB a _ ea;exact Qk PySem.W.kitx_dict I.cH ⟨o,h1,h2.1⟩ e (by grind) h|@ins a C dx fs ea cl ha hn AU hm=>cases show u=Value.ref a from rx;obtain⟨mA,O,_⟩:=KR I.aB ea;obtain⟨od,J,_⟩:=O.look;exact Qk (PySem.W.kitx_own (cl.get _) cl.hd ha hn AU hm) I.cH J e (by grind) h
end
structure cj(k:Nat)(A:Wp):Prop where
 hd:A.handled=none
 dp:A.depth+3*k+5<recursionLimit
 un:A.units+16*k+200<WK
theorem cj.mono(r:cj k A)(h:j<=k):cj j A:=⟨r.hd,by have:=r.dp;lia,by have:=r.un;lia⟩
theorem cj.deeper(r:cj (k+1) A)(env:Env):cj k (A.deeper env):=⟨r.hd,by have:=r.dp;show A.depth+1+3*k+5<_;lia,by have:=r.un;show A.units+3+16*k+200<_;lia⟩
theorem KU:(A.under (.builtin "type.__call__" ⟨.ref C::us,kw⟩)).depth=A.depth+1:=by first|rfl|simp[Around.under,Code.weight,Code.isCreation,Code.isGuard,Code.isCaller,Code.frames,Code.isFrame,guardIds]
theorem KW:(A.under (.builtin "type.__call__" ⟨.ref C::us,kw⟩)).units=A.units+1:=by first|rfl|simp[Around.under,Code.cUnits,Code.frames,Code.isFrame]
theorem cj.make(r:cj (k+1) A)(C:Addr)(us:List Value)(kw:List (Str×Value)):cj k (A.under (.builtin "type.__call__" ⟨.ref C::us,kw⟩)):=⟨r.hd,by have:=r.dp;rw[KU];lia,by have:=r.un;rw[KW];lia⟩
theorem cj.depth(r:cj k A):A.depth<recursionLimit:=by have:=r.dp;lia
def AV:TA:=λj H Q=>Q [] H
def AW(ta:TE)(tr:TA):TA:=λZ H Q=>ta Z H λx H1=>tr Z H1 λxs H2=>Q (x::xs) H2
section
variable{t:TA}
theorem f_:PA X [] AV:=λj j j j H Q I h=>Calls.spliced_nil ⟨[],H,I,.nil,h⟩
theorem dX(ha:PE X e te)(hr:PA X es t)(hs:Wa (e::es) X.env=(false,eval e X.env)::Wa es X.env:=by rfl):PA X (e::es) (AW te t):=by intro pos pins s Z H Q I h;rw[hs];show W8 _ _ (spliced ((false,eval e X.env)::Qp pos (Wa es X.env))) _ _ s;refine Calls.spliced_cons (aN (ha pins s Z H _ I h) λu s1 hh=>?_);obtain⟨x,H1,I1,r1,q1⟩:=hh;exact aN (hr pos pins s1 Z H1 _ I1 q1) λus s2⟨xs,H2,I2,r2,q2⟩=>⟨x::xs,H2,I2,.cons r1 r2,q2⟩
def KY(t:TA):TE:=λZ H Q=>t Z H λxs H1=>xs.length<=W7/\∀p,H1 p=none->Q (.ref p) (upd H1 p (.tup xs))
def KZ(t:TA):TE:=λZ H Q=>t Z H λxs H1=>xs.length<=W7/\∀p,H1 p=none->Q (.ref p) (upd H1 p (.lst xs))
theorem K0{x1}(h:PA X es t):PE X (.Tuple es x1 pos) (KY t):=by intro pins s Z H Q I hq;refine wpAny_Tuple_spliced (aN (h pos pins s Z H _ I hq) λus s1⟨xs,H1,I1,r,z,q⟩=>⟨by rw[<-r.length];exact z,?_⟩);have hf:H1 s1.heap.objs.size=none:=I1.aB.fresh (W5 _);refine⟨.ref s1.heap.objs.size,upd H1 s1.heap.objs.size (.tup xs),I1.laid (t':=s1.toks) (λb u e=>W6 _ e) (W5 _) ?_,rfl,q _ hf⟩;exact⟨z,us,r,⟨_,Wv _ rfl⟩⟩
theorem K1(h:PA X es t):PE X (.List es pos) (KZ t):=by intro pins s Z H Q I hq;refine wpAny_List_spliced (aN (h pos pins s Z H _ I hq) λus s1⟨xs,H1,I1,r,z,q⟩=>⟨by rw[<-r.length];exact z,?_⟩);have hf:H1 s1.heap.objs.size=none:=I1.aB.fresh (W5 _);refine⟨.ref s1.heap.objs.size,upd H1 s1.heap.objs.size (.lst xs),I1.laid (t':=s1.toks) (λb u e=>W6 _ e) (W5 _) ?_,rfl,q _ hf⟩;exact⟨z,us,0,r,Wv _ rfl⟩
end
abbrev Sp:=List V->Hp->VK->XK->Prop
variable{sp:Sp}
abbrev iw:=List Env->Hp->W1->XK->Value->W1->Prop
variable{CX:iw}
structure jU(P:Wk)(w:Wx)(K:W2)(mg:Str->Option Value)(base:Heap)(A:Wp)(outer:List Env)(s:W1)(H:Hp):Prop where
 frames:A.frames=some outer
 mod:Mod K mg base
 bs:∀b o,base.get? b=some o->s.heap.get? b=some o/\H b=none
 ir:base.objs.size<=s.heap.objs.size
 fP:s.heap.FunFrames base outer
 iR:∀b∈eG outer,H b=none
 aB:ck P w H s.heap
 bare:AllBare s.gens
def CE(outer:List Env)(P:Wk)(w:Wx)(H:Hp)(s:W1)(Q:VK)(u:Value)(s':W1):Prop:=∃v H',s'.os=s.os/\AllBare s'.gens/\Un (eG outer) [] H H' s.heap s'.heap/\ck P w H' s'.heap/\RelV v u/\Q v H'
def CR(CX:iw)(outer:List Env)(P:Wk)(w:Wx)(H:Hp)(s:W1)(Q:VK)(E:XK)(r:Result)(s':W1):Prop:=match r with|.ok (.ret u)=>CE outer P w H s Q u s'|.ok _=>False|.error e=>CX outer H s E e s'
structure eO(P:Wk)(w:Wx)(K:W2)(mg:Str->Option Value)(base:Heap)(CX:iw)(k:Nat)(f:Addr)(fd:Q0)(ps:List Str)(sp:Sp):Prop where
 len:∀vs H Q E,sp vs H Q E->vs.length=ps.length
 run:∀(A:Wp)(outer:List Env)(s:W1)(H:Hp)(args:Args)(us:List Value)(vs:List V)(Q:VK)(E:XK),cj k A->jU P w K mg base A outer s H->BindsTo s fd args (ps.zip us)->Vals vs us->sp vs H Q E->J4 (model P w) A (.call (.ref f) args) (CR CX outer P w H s Q E) s
theorem jU.make(e:jU P w K mg base A outer s H)(C:Addr)(us:List Value)(kw:List (Str×Value)):jU P w K mg base (A.under (.builtin "type.__call__" ⟨.ref C::us,kw⟩)) outer s H:=⟨by first|exact e.frames|(simpa[Around.under,Code.envs,Code.isFrame,pushEnvs]using e.frames),e.mod,e.bs,e.ir,e.fP,e.iR,e.aB,e.bare⟩
section
variable{s':W1}
theorem Inv.rV(I:Inv X pins Z H s):jU X.prog X.w X.K X.mg X.base X.A X.stack s H:=⟨I.ok.frames,I.ok.mod,I.bs,WF I.ok.ir I.sz,I.stack,I.rE,I.aB,I.bare⟩
theorem Inv.after(I:Inv X pins Z H s)(h:CE X.stack X.prog X.w H s Q u s'):EP X pins Z Q u s':=by obtain⟨v,H',os,bare,un,aB,r,q⟩:=h;obtain⟨hh,g,d,t,os'⟩:=s';obtain rfl:os'=s.os:=os;exact⟨v,H',I.call (h':=hh) (g':=g) (d':=d) (t':=t) (ch:=[]) un aB bare λb z=>absurd z Zw,r,q⟩
end
def vk(sp:Sp)(kP:List V)(E:XK)(t:TA):TE:=λZ H Q=>t Z H λvs H1=>sp (vs++kP) H1 Q E
def Binds(K:W2)(fd:Q0)(ps:List Str)(ds:List Value):Prop:=∀(s:W1)(us:List Value),K.In s.heap->(us++ds).length=ps.length->BindsTo s fd ⟨us,[]⟩ (ps.zip (us++ds))
theorem Binds.all(h:∀us:List Value,us.length=ps.length->bindArgs fd ⟨us,[]⟩=pure (ps.zip us)):Binds K fd ps []:=λs us j hl=>by rw[WT]at hl⊢;exact .of_eq (h us hl)
def vm(CX:iw)(X:Cx)(E:XK):Prop:=∀(pins:List (Addr×Obj))(Z:St)(H:Hp)(s:W1)(e:Value)(s':W1),Inv X pins Z H s->CX X.stack H s E e s'->X.xe e s'
section
variable{k:Nat}{ds:List Value}{E:XK}{x m:Str}{p:Pos}{o:Expr}{t:TA}
theorem K6(F:eO X.prog X.w X.K X.mg X.base CX k f fd ps sp)(hr:cj k X.A)(hb:Binds X.K fd ps ds)(hd:Vals kP ds)(hx:vm CX X E)(I:Inv X pins Z H s)(r:Vals vs us)(h:sp (vs++kP) H Q E):W8 5#0 X.A (call (.ref f) us) (EP X pins Z Q) X.xe s:=by
 have r2:Vals (vs++kP) (us++ds):=r.append hd;have hl:(us++ds).length=ps.length:=by rw[<-r2.length];exact F.len _ _ _ _ h
 refine wpAny_call (U4 (F.run X.A X.stack s H ⟨us,[]⟩ (us++ds) (vs++kP) Q E hr I.rV (hb s us I.cH hl) r2 h) λr s' hq=>?_);cases r with|error e=>exact hx pins Z H s e s' I hq|ok fl=>cases fl with|ret u=>exact I.after hq|next=>exact False.elim hq|brk=>exact False.elim hq|cont=>exact False.elim hq
theorem K7(F:eO X.prog X.w X.K X.mg X.base CX k f fd ps sp)(hr:cj k X.A)(hg:Gl X x)(hm:X.mg x=some (.ref f))(hk:QQ X.K (.ref f)=true)(hb:Binds X.K fd ps ds)(hd:Vals kP ds)(hx:vm CX X E)(ha:PA X (e::es) t)(cU:(x==("__debug__":Str))=false:=by decide)(he:Wa (e::es) X.env=(false,eval e X.env)::Wa es X.env:=by rfl)(bT:(Qp pos (Wa es X.env)).any (·.1)=false:=by rfl):PE X (.Call (.Name x p) (e::es) [] pos) (vk sp kP E t):=by intro pins s Z H Q I h;refine Jh (l_ I hg hm ?_ cU);refine PySem.W.callWith_K (h₀:=X.base) I.ok.mod.l5 hk (aN (ha pos pins s Z H _ I h) λus s1⟨vs,H1,I1,r,q⟩=>⟨I1.cH,?_⟩) he bT;exact K6 F hr hb hd hx I1 r q
end
structure fA(N P:List Str)(sc:Scope):Prop where
 kind:sc.kind=.function
 co:sc.isCoroutine=false
 gen:sc.isGenerator=false
 nd:N.Nodup
 pre:N.take P.length=P
 par:∀x∈P,sc.names.lookup x=some .local\/sc.names.lookup x=some .cell
 vn:∀y∈sc.names,y.2≠.free
theorem scc{N P:List Str}(kind:sc.kind=.function:=by rfl)(co:sc.isCoroutine=false:=by rfl)(gen:sc.isGenerator=false:=by rfl)(nd:N.Nodup:=by decide+kernel)(pre:N.take P.length=P:=by rfl)(par:∀x∈P,sc.names.lookup x=some .local\/sc.names.lookup x=some .cell:=by decide+kernel)(vn:∀y∈sc.names,y.2≠.free:=by decide+kernel):fA N P sc:=⟨kind,co,gen,nd,pre,par,vn⟩
theorem AX{kindOf:Str->Option NameKind}{x:Str}:∀{binds:List (Str×Value)}{m:Str->Option Value},(∀v,(x,v)∉binds)->bindL kindOf binds m x=m x|[],_,_=>rfl|(n,v)::r,m,h=>by unfold bindL;rw[AX λw hw=>h w (Wh _ hw)];split;all_goals grind
theorem AY{kindOf:Str->Option NameKind}{x:Str}:∀{binds:List (Str×Value)}{m:Str->Option Value},(∀v,(x,v)∉binds)->bindC kindOf binds m x=m x|[],_,_=>rfl|(n,v)::r,m,h=>by unfold bindC;rw[AY λw hw=>h w (Wh _ hw)];split;all_goals grind
theorem AZ{kindOf:Str->Option NameKind}{x:Str}{v:Value}:∀{P:List Str}{vs:List Value}{i:Nat}{m:Str->Option Value},P.Nodup->P[i]?=some x->vs[i]?=some v->kindOf x=some .local->bindL kindOf (P.zip vs) m x=some v|[],_,_,_,_,h,_,_=>by simp at h|_::_,[],_,_,_,_,h,_=>by simp at h|p::P,w::vs,0,m,nd,h1,h2,hk=>by simp at h1 h2;subst h1;subst h2;show bindL kindOf ((p,w)::P.zip vs) m p=_;unfold bindL;rw[AX λv hv=>(QV.mp nd).1 (Uq hv).1,if_pos hk];simp|p::P,w::vs,i+1,m,nd,h1,h2,hk=>by show bindL kindOf ((p,w)::P.zip vs) m x=_;unfold bindL;exact AZ (i:=i) (QV.mp nd).2 (~~~h1) (~~~h2) hk
theorem A0{kindOf:Str->Option NameKind}{x:Str}{v:Value}:∀{P:List Str}{vs:List Value}{i:Nat}{m:Str->Option Value},P.Nodup->P[i]?=some x->vs[i]?=some v->kindOf x≠some .local->bindC kindOf (P.zip vs) m x=some v|[],_,_,_,_,h,_,_=>by simp at h|_::_,[],_,_,_,_,h,_=>by simp at h|p::P,w::vs,0,m,nd,h1,h2,hk=>by simp at h1 h2;subst h1;subst h2;show bindC kindOf ((p,w)::P.zip vs) m p=_;unfold bindC;rw[AY λv hv=>(QV.mp nd).1 (Uq hv).1,if_neg hk];simp|p::P,w::vs,i+1,m,nd,h1,h2,hk=>by show bindC kindOf ((p,w)::P.zip vs) m x=_;unfold bindC;exact A0 (i:=i) (QV.mp nd).2 (~~~h1) (~~~h2) hk
def start(N:List Str)(vs:List V):St:=vs.map some++W9 (N.length-vs.length) none
def eQ(CX:iw)(P:Wk)(w:Wx)(K:W2)(mg:Str->Option Value)(base:Heap)(N:List Str)(qual:Str)(scope:Scope)(f:Addr)(cd:Value)(A:Wp)(outer:List Env)(s:W1)(H:Hp)(E:XK):Cx where
 prog:=P
 w:=w
 K:=K
 mg:=mg
 base:=base
 A:=A.deeper (Ji qual scope s.heap.objs.size f cd)
 N:=N
 s₀:=s
 H₀:=H
 env:=Ji qual scope s.heap.objs.size f cd
 outer:=outer
 stack:=Ji qual scope s.heap.objs.size f cd::outer
 ex:=[]
 calm:=true
 fn:=λj=>true
 pn:=[]
 xe:=λe s'=>W8 (model P w) (A.deeper (Ji qual scope s.heap.objs.size f cd)) (leaving (Ji qual scope s.heap.objs.size f cd) e) (λj oP=>CX outer H s E e oP) (λe' oP=>CX outer H s E e' oP) s'
theorem A5{x:Str}(h:sc.names.lookup x=some .cell):∃c,(QK n sc.names []).lookup x=some c:=by have q:=JG sc.names n [] (.inl h);exact Qr.mp q
theorem A6{N:List Str}{s1:W1}{E:XK}(S:fA N ps scope)(hd:A.handled=none)(e0:jU P w K mg base A outer s H)(hl:vs.length=ps.length)(r:Vals vs us)(x:InCallC s s.heap.objs.size (bindL (Ji qual scope s.heap.objs.size f cd).kindOf (ps.zip us) λj=>none) (QK (s.heap.objs.size+1) scope.names []) (bindC (Ji qual scope s.heap.objs.size f cd).kindOf (ps.zip us) λj=>none) s1):Inv (eQ CX P w K mg base N qual scope f cd A outer s H E) [] (start N vs) H s1:=by
 have bT:ps.length<=N.length:=by have:=congrArg QS S.pre;rw[Um]at this;lia
 obtain⟨h1,tk,rfl,hk⟩:=x.done;have oQ:∀b:Addr,b∉(eQ CX P w K mg base N qual scope f cd A outer s H E).ex:=λb z=>absurd (show b∈([]:List Addr)from z) Zw;refine⟨⟨e0.mod,S.kind,rfl,rfl,W5 _,λy z c h1 h2=>?_,λy hy=>?_,λy c j h=>?_,λj=>hd,Around.frames_deeper e0.frames,.inr ⟨rfl,rfl⟩,λb z=>absurd z (oQ b),e0.bs,e0.ir,λb j j=>oQ b,λb z=>absurd z (oQ b),e0.fP,e0.iR⟩,rfl,e0.bare,Un.kept hk,⟨_,x.toInCall.ns,λi y v h1 h2 h3=>?_⟩,λy c h=>⟨_,x.cell y c h⟩,e0.aB.fresh (W5 _),λy c h=>?_,λp hp=>absurd (show p∈([]:List (Addr×Obj))from hp) Zw,e0.aB.kept hk,?_⟩;.exact name_of_addr x.apart (WI h1) (WI h2)
 .have hy:scope.names.lookup y=some .cell\/scope.names.lookup y=some .free:=hy;rcases hy with hy|hy;.exact A5 hy
  .exact absurd rfl (S.vn _ (WI hy))
 .exact JL (x.above y c (WI h))
 .have hi:i<vs.length:=by
   unfold start at h2;by_cases hi:i<vs.length;.exact hi
   .rw[Qy (~~~hi)]at h2;rw[List.getElem?_replicate]at h2;split at h2<;>cases h2
  have ha:vs[i]?=some v:=by unfold start at h2;rw[Qo (~~~hi),WD]at h2;cases e:vs[i]? with|none=>rw[e]at h2;cases h2|some a=>rw[e]at h2;cases h2;rfl
  obtain⟨u,hu,rv⟩:=r.get ha;have hp:ps[i]?=some y:=by rw[<-S.pre,QW Y'];exact h1
  have A7:ps.Nodup:=by rw[<-S.pre];exact S.nd.sublist (List.take_sublist _ _)
  refine⟨u,rv,?_⟩;rcases S.par y (WQ hp)with k|k;.exact .inl ⟨k,AZ A7 hp hu k⟩
  .obtain⟨c,e⟩:=A5 (n:=s.heap.objs.size+1) k;refine .inr ⟨.inl k,c,e,?_⟩;have q:=x.cell y c e;rw[A0 A7 hp hu (by show scope.names.lookup y≠_;rw[k];decide)]at q;exact q
 .exact e0.aB.fresh (JL (x.above y c (WI h)))
 .unfold start;show _=N.length;rw[Wy,Wq,List.length_replicate];lia
theorem A8{k:Nat}{dV kV:Value}{od:Option Addr}{N:List Str}(lk:K.lookup f=some ⟨oc,od,.func (QL name qual params body scope dV kV doc pm an aQ ct),ju⟩)(dA:PySem.W.codeIn K aQ qual=true)(S:fA N ps scope)(len:∀vs H Q E,sp vs H Q E->vs.length=ps.length)(dC:∀(A:Wp)(outer:List Env)(s:W1)(H:Hp)(vs:List V)(Q:VK)(E:XK),cj k (A.deeper (Ji qual scope s.heap.objs.size f aQ))->sp vs H Q E->∃t,c_ (eQ CX P w K mg base N qual scope f aQ A outer s H E) body t/\t {nx:=λj H'=>Q .aI H',rt:=Q} (start N vs) H):eO P w K mg base CX (k+1) f (QL name qual params body scope dV kV doc pm an aQ ct) ps sp:=by
 refine⟨len,λA outer s H args us vs Q E hr e0 hb r iX=>?_⟩;have hl:=len _ _ _ _ iX;have KX:K.In s.heap:=e0.mod.l5.keeps λb o e=>(e0.bs b o e).1;have lim:s.heap.NoLimit:=e0.mod.nolimit.keeps λb o e=>(e0.bs b o e).1;have vo:∀y∈ps.zip us,scope.names.lookup y.1=some .local\/scope.names.lookup y.1=some .cell/\((QK (s.heap.objs.size+1) scope.names []).lookup y.1).isSome=true:=λ⟨n,v⟩hy=>by
  rcases S.par n (Uq hy).1 with q|q;.exact .inl q
  .exact .inr ⟨q,JG _ _ _ (.inl q)⟩
 refine codeAny_call_function hr.depth (KX _ _ lk) rfl S.co S.gen rfl (PySem.W.codeRec_of KX dA) (hb _ _ _ _ ?_);refine wpAny_newFunctionEnv_cells S.kind vo λenv he s1 x=>?_;subst he;refine⟨lim.keeps x.toInCall.keep,codeAny_func ?_⟩;obtain⟨t,ht,hq⟩:=dC A outer s H vs Q E (hr.deeper _) iX;have I:Inv (eQ CX P w K mg base N qual scope f aQ A outer s H E) [] (start N vs) H s1:=A6 S hr.hd e0 hl r x;refine Q7 (ht [] s1 (start N vs) H _ I hq) (λfl s' hs=>?_) λe s' hs=>hs;have fin:∀{Pv:St}{H':Hp}{v:V}{u:Value},Inv (eQ CX P w K mg base N qual scope f aQ A outer s H E) [] Pv H' s'->RelV v u->Q v H'->CE outer P w H s Q u s':=λ{Pv H' v u}J rv q=>⟨v,H',J.os,J.bare,J.base,J.aB,rv,q⟩;cases fl with|ret u=>obtain⟨v,Pv,H',J,rv,q⟩:=hs;exact fin J rv q|next=>obtain⟨Pv,H',J,q⟩:=hs;exact fin (v:=V.aI) (u:=Value.none) J rfl q|brk=>obtain⟨_,_,_,q⟩:=hs;exact False.elim q|cont=>obtain⟨_,_,_,q⟩:=hs;exact False.elim q
section
variable{x:Str}{p:Pos}{t:TA}{id T:String}{r:List V->Hp->VK->Prop}
def A9(r:List V->Hp->VK->Prop)(t:TA):TE:=λZ H Q=>t Z H λvs H1=>r vs H1 Q
theorem nA(hc:cN X (.builtin id) r)(hg:Gl X x)(hm:X.mg x=none)(hv:QH x=some (.builtin id))(ha:PA X (e::es) t)(hn:x≠"__name__":=by decide)(cU:(x==("__debug__":Str))=false:=by decide)(he:Wa (e::es) X.env=(false,eval e X.env)::Wa es X.env:=by rfl)(bT:(Qp pos (Wa es X.env)).any (·.1)=false:=by rfl):PE X (.Call (.Name x p) (e::es) [] pos) (A9 r t):=by intro pins s Z H Q I h;refine Jh (rJ I hg hm hv ?_ hn cU);exact PyProof.Rows.callWith_builtin1 (aN (ha pos pins s Z H _ I h) λus s1⟨vs,H1,I1,r1,q1⟩=>hc pins s1 Z H1 vs us Q I1 r1 q1) he bT
theorem K8(hc:cN X (.type T) r)(hg:Gl X x)(hm:X.mg x=none)(hv:QH x=some (.type T))(ha:PA X (e::es) t)(hn:x≠"__name__":=by decide)(cU:(x==("__debug__":Str))=false:=by decide)(he:Wa (e::es) X.env=(false,eval e X.env)::Wa es X.env:=by rfl)(bT:(Qp pos (Wa es X.env)).any (·.1)=false:=by rfl):PE X (.Call (.Name x p) (e::es) [] pos) (A9 r t):=by intro pins s Z H Q I h;refine Jh (rJ I hg hm hv ?_ hn cU);exact PyProof.Rows.callWith_type1 (aN (ha pos pins s Z H _ I h) λus s1⟨vs,H1,I1,r1,q1⟩=>hc pins s1 Z H1 vs us Q I1 r1 q1) he bT
end
theorem K9{vs}(ht:IsTup s.heap t vs.toArray)(hb:IsTup s.heap b ws.toArray)(hv:vs≠[])(h1:ws=[]->Q (.ref t) s)(h2:ws≠[]->Q (.ref s.heap.objs.size) 9#(s.heap.push {cls:=.type "tuple",data:=.seq (vs++ws).toArray}))(hsz:vs.length+ws.length<=W7):W8 4#0 A (Qw .Add (.ref t) (.ref b)) Q E s:=by
 obtain⟨⟨cls,dd,data,sl⟩,ho,hc,n,hd⟩:=id ht;obtain⟨⟨cls2,mf,data2,kQ⟩,ho2,hc2,n2,hd2⟩:=id hb;simp only at hc hd hc2 hd2;subst hc hd hc2 hd2;have e:vs.toArray++ws.toArray=(vs++ws).toArray:=by simp
 by_cases hw:ws=[]
 .exact concat_meets ⟨_,ho,rfl⟩ ⟨_,ho2,rfl⟩ noFill_tuple_add seq_tuple_add PySem.F.slot_tuple_add PySem.F.entry_tuple_add (PySem.F.args_tuple_add_2 _ _) (tuple_addW1 t b vs.toArray ws.toArray n n2 dd mf sl kQ (~~~hv) #v[hw]) ⟨ho,ho2,h1 hw⟩
 .refine concat_meets ⟨_,ho,rfl⟩ ⟨_,ho2,rfl⟩ noFill_tuple_add seq_tuple_add PySem.F.slot_tuple_add PySem.F.entry_tuple_add (PySem.F.args_tuple_add_2 _ _) (tuple_addW2 t b vs.toArray ws.toArray n n2 dd mf sl kQ (~~~hv) (~~~hw) %[We,We|hsz]) ⟨ho,ho2,?_⟩;rw[e];exact h2 hw
def aO(n d:Nat):Option Int->Nat|none=>d|some v=>if v<0 then(v+(n:Int)).toNat else min v.toNat n
theorem vp(n d:Nat)(hd:d<=n)(o:Option Int):aO n d o<=n:=by cases o with|none=>exact hd|some v=>
 show(if v<0 then(v+(n:Int)).toNat else min v.toNat n)<=n;by_cases hv:v<0;.rw[if_pos hv];lia
 .rw[if_neg hv];exact Nat.min_le_right _ _
theorem A_(v:Int)(n d:Nat):(if v<0 then max (v+(n:Int)) 0 else min v (n:Int))=((aO n d (some v):Nat):Int):=by
 show(if v<0 then max (v+(n:Int)) 0 else min v (n:Int))=(((if v<0 then(v+(n:Int)).toNat else min v.toNat n):Nat):Int);by_cases hv:v<0;.simp only[if_pos hv];lia
 .simp only[if_neg hv];lia
theorem K_(lo hi:Option Int)(n:Nat):QD lo hi 1 (n:Int)=(((aO n 0 lo:Nat):Int),((aO n n hi:Nat):Int)):=by
 have h1:¬(1:Int)<0:=by lia
 unfold QD;simp only[h1,if_false];refine Prod.ext ?_ ?_;.cases lo with|none=>rfl|some v=>exact A_ v n 0
 .cases hi with|none=>rfl|some v=>exact A_ v n n
theorem La(i j:Nat):Qe (i:Int) (j:Int) 1=j-i:=by
 unfold Qe;have h1:(1:Int)>0:=by lia
 simp only[h1,if_true,Int.ediv_one];split<;>lia
theorem Ba(p:IsPart v o)(h:Q o s):W8 4#0 A (Builtin.Slice.slicePartIndex v) Q E s:=by cases p with|none=>exact slicePart_none h|int i t=>exact slicePart_int h
theorem Bb{Q:Int×Int×Nat->W1->Prop}(hs:s.heap.IsSliceOf sl vl vu .none)(pl:IsPart vl lo)(pu:IsPart vu hi)(h:Q (((aO n 0 lo:Nat):Int),1,aO n n hi-aO n 0 lo) s):W8 4#0 A (Jm (.ref sl) (pure (n:Int))) Q E s:=by obtain⟨os,hos,hcs,hds⟩:=id hs;unfold Jm Builtin.Slice.sliceFields;refine W0 (W0 (QM hos hds (x:=vl) rfl (W0 (QM hos hds (x:=vu) rfl (W0 (QM hos hds (x:=.none) rfl (W3 ?_)))))));refine W0 (slicePart_none ?_);show W8 _ _ (if((1:Int)==0)=true then _ else _) _ _ s;rw[if_neg Z'];refine W0 (Ba pl (W0 (Ba pu (W0 (W3 ?_)))));show W8 _ _ (match QD lo hi 1 (n:Int)with|(lo,hi)=>pure (lo,(1:Int),Qe lo hi 1)) _ _ s;rw[K_ lo hi n];show W8 _ _ (pure (((aO n 0 lo:Nat):Int),(1:Int),Qe ((aO n 0 lo:Nat):Int) ((aO n n hi:Nat):Int) 1)) _ _ s;rw[La];exact W3 h
theorem Lb(xs:Array Value)(i k:Nat):((Wl k).filterMap λ(m:Nat)=>xs[((i:Int)+(m:Int)*1).toNat]?).toArray=((xs.toList.drop i).take k).toArray:=by
 have e:(λ(m:Nat)=>xs[((i:Int)+(m:Int)*1).toNat]?)=λm=>xs[i+m]?:=by
  funext m;have:((i:Int)+(m:Int)*1).toNat=i+m:=by lia
  rw[this]
 rw[e];have:=pick_run xs i k;rw[List.filterMap_map]at this;have e2:((λx=>xs[x]?)∘λx=>i+x)=λm=>xs[i+m]?:=rfl;rw[e2]at this;rw[this]
theorem Lc{t:Addr}{Q:Value->W1->Prop}(ht:IsTup s.heap t items)(hs:s.heap.IsSliceOf sl vl vu .none)(pl:IsPart vl lo)(pu:IsPart vu hi)(hw:¬(aO items.size 0 lo=0/\aO items.size items.size hi=items.size))(h:Q (.ref s.heap.objs.size) 9#(s.heap.push {cls:=.type "tuple",data:=.seq ((items.toList.drop (aO items.size 0 lo)).take (aO items.size items.size hi-aO items.size 0 lo)).toArray}))(hsz:items.size<=W7):W8 4#0 A (JV (.ref t) (.ref sl)) Q E s:=by
 have jV:sizeOk (.seq ((items.toList.drop (aO items.size 0 lo)).take (aO items.size items.size hi-aO items.size 0 lo)).toArray):=by show((items.toList.drop (aO items.size 0 lo)).take (aO items.size items.size hi-aO items.size 0 lo)).toArray.size<=W7;rw[We,Um,List.length_drop,WY];lia
 have hj:aO items.size items.size hi<=items.size:=vp _ _ (W5 _) hi;obtain⟨os,hos,hcs,hds⟩:=id hs;have oR:s.TypeIs (.ref sl) "slice":=⟨os,hos,hcs⟩;unfold JV;try with_reducible refine WP ?_
 first|refine W0 (W3 ?_)|skip
 refine W0 (Ue ht.typeIs Z' ?_);refine W0 (Qu (name:=Str.ofString "__getitem__") ht.typeIs Qj (Qm Qj ht.typeIs entry_tuple_getitem ?_ (args_tuple_getitem _ _)));show W8 _ _ (Jn (.ref t)>>=_) _ _ s;refine W0 (tupleItemsOf_ ht ?_);refine W0 (QX oR ?_);rw[if_pos Z'];refine W0 (Bb hs pl pu ?_);have dh:¬(((aO items.size 0 lo:Nat):Int)==0&&(1:Int)==1&&aO items.size items.size hi-aO items.size 0 lo==items.size)=true:=by intro q;rw[Wn,Wn]at q;have q1:((aO items.size 0 lo:Nat):Int)=0:=eq_of_beq q.1.1;have q2:aO items.size items.size hi-aO items.size 0 lo=items.size:=eq_of_beq q.2;exact hw ⟨Y',Y'⟩
 show W8 _ _ (if(((aO items.size 0 lo:Nat):Int)==0&&(1:Int)==1&&aO items.size items.size hi-aO items.size 0 lo==items.size)=true then _ else _) _ _ s;rw[if_neg dh,Lb];first|exact W0 (m:=Qg _) (Q5 (W3 ⟨_,rfl,W3 h⟩) jV)|exact W0 (m:=Qg _) (Q5 (W0 (W3 (W3 ⟨_,rfl,W3 h⟩))) jV)|exact W0 (W0 (m:=Qg _) (Q5 (W3 (W3 ⟨_,rfl,W3 h⟩)) jV))|exact W0 (W0 (m:=Qg _) (Q5 (W3 ⟨_,rfl,W3 h⟩) jV))
abbrev TO:=St->Hp->(Option Int->Hp->Prop)->Prop
def PO(X:Cx)(e:Option Expr)(t:TO):Prop:=∀(pins:List (Addr×Obj))(s:W1)(Z:St)(H:Hp)(Q:Option Int->Hp->Prop),Inv X pins Z H s->t Z H Q->W8 5#0 X.A (evalPart e X.env) (λu s'=>∃o H',Inv X pins Z H' s'/\IsPart u o/\Q o H') X.xe s
def Ld:TO:=λj H Q=>Q none H
def Lf(t:TE):TO:=λZ H Q=>t Z H λx H1=>∃i,x=.int i/\Q (some i) H1
section
variable{lo hi:Option Expr}{tl th:TO}{p2:Pos}
theorem Lg:PO X none Ld:=by intro pins s Z H Q I h;rw[evalPart_none];exact W3 ⟨none,H,I,.none,h⟩
theorem Lh(h:PE X e te):PO X (some e) (Lf te):=by intro pins s Z H Q I hw;rw[evalPart_some];refine aN (h pins s Z H _ I hw) λu s1 hh=>?_;obtain⟨x,H1,I1,r1,q1⟩:=hh;obtain⟨i,rfl,q⟩:=q1;obtain⟨t,rfl⟩:=r1;exact⟨some i,H1,I1,.int i t,q⟩
def jv(X:Cx)(r:V->Option Int->Option Int->Hp->VK->Prop):Prop:=∀(pins:List (Addr×Obj))(s:W1)(Z:St)(H:Hp)(x:V)(v vl vu:Value)(lo hi:Option Int)(sl:Addr)(Q:VK),Inv X pins Z H s->RelV x v->s.heap.IsSliceOf sl vl vu .none->IsPart vl lo->IsPart vu hi->r x lo hi H Q->∃T id,typeLookup (.type T) "__getitem__"=pure (some (.builtin id))/\s.TypeIs v T/\W8 5#0 X.A (JV v (.ref sl)) (EP X pins Z Q) X.xe s
theorem jv.or(h:jv X r)(h':jv X r'):jv X λx lo hi H Q=>r x lo hi H Q\/r' x lo hi H Q:=by
 intro pins s Z H x v vl vu lo hi sl Q I rx hs pl pu q;rcases q with q|q;.exact h pins s Z H x v vl vu lo hi sl Q I rx hs pl pu q
 .exact h' pins s Z H x v vl vu lo hi sl Q I rx hs pl pu q
def Li(r:V->Option Int->Option Int->Hp->VK->Prop)(te:TE)(tl th:TO):TE:=λZ H Q=>te Z H λx H1=>tl Z H1 λl H2=>th Z H2 λu H3=>r x l u H3 Q
theorem Bc(hr:jv X r)(he:PE X e te)(hl:PO X lo tl)(hu:PO X hi th):PE X (.Subscript e (.Slice lo hi none p2) pos) (Li r te tl th):=by intro pins s Z H Q I h;refine Subscript_ (aN (he pins s Z H _ I h) λv s1 hh=>?_);obtain⟨x,H1,I1,r1,q1⟩:=hh;refine wpAny_Slice (aN (hl pins s1 Z H1 _ I1 q1) λvl s2⟨l,H2,I2,pl,q2⟩=>aN (hu pins s2 Z H2 _ I2 q2) λvu s3 hh=>?_);obtain⟨u,H3,I3,pu,q3⟩:=hh;rw[evalPart_none];refine W3 ?_;have I4:Inv X pins Z H3 {s3 with heap:=s3.heap.push {cls:=.type "slice",data:=.fields #[vl,vu,.none]}}:=I3.kept (t':=s3.toks) λb ob q=>W6 _ q;obtain⟨T,id,hT,ht,hg⟩:=hr pins {s3 with heap:=s3.heap.push {cls:=.type "slice",data:=.fields #[vl,vu,.none]}} Z H3 x v vl vu l u s3.heap.objs.size Q I4 r1 (Heap.IsSliceOf.new ..) pl pu q3;show W8 5#0 X.A (subscriptTail e (.Slice lo hi none p2) v (.ref s3.heap.objs.size)) (EP X pins Z Q) X.xe {s3 with heap:=s3.heap.push {cls:=.type "slice",data:=.fields #[vl,vu,.none]}};exact tail_any (ops:=[.ref s3.heap.objs.size,v]) ht hT hg (by with_unfolding_all rfl)
def kR(xs:List V)(lo hi:Option Int):List V:=(xs.drop (aO xs.length 0 lo)).take (aO xs.length xs.length hi-aO xs.length 0 lo)
theorem Be(xs:List V)(lo hi:Option Int):(kR xs lo hi).length<=xs.length:=by unfold kR;rw[Um,List.length_drop];lia
def Lj(K:W2):V->Option Int->Option Int->Hp->VK->Prop:=λx lo hi H Q=>∃a xs,x=.ref a/\cA K H a xs/\¬(aO xs.length 0 lo=0/\aO xs.length xs.length hi=xs.length)/\∀p,H p=none->Q (.ref p) (upd H p (.tup (kR xs lo hi)))
theorem Lk:jv X (Lj X.K):=by intro pins s Z H x v vl vu lo hi sl Q I rx hs pl pu h;obtain⟨a,xs,rfl,hx,hw,q⟩:=h;cases rx;obtain⟨af,r,ht,hz⟩:=I.tuple hx;have hlen:af.toArray.size=xs.length:=%[We|r.length.symm];refine⟨"tuple",_,PyProof.Rows.slot_tuple_getitem.lookup,ht.typeIs,?_⟩;refine Lc ht hs pl pu %[hlen|hw] ?_ %[hlen|hz];rw[hlen];refine⟨.ref s.heap.objs.size,_,I.laid (t':=s.toks) (o:=.tup (kR xs lo hi)) (λb ob q=>W6 _ q) (W5 _) ?_,rfl,q _ (I.aB.fresh (W5 _))⟩;exact⟨WF (Be xs lo hi) hz,_,(r.drop (aO xs.length 0 lo)).take (aO xs.length xs.length hi-aO xs.length 0 lo),ip.new _ _⟩
def Bf(K:W2):R2:=λx y H Q=>∃a b xs ys,x=.ref a/\y=.ref b/\cA K H a xs/\cA K H b ys/\xs≠[]/\xs.length+ys.length<=W7/\(ys=[]->Q (.ref a) H)/\(ys≠[]->∀p,H p=none->Q (.ref p) (upd H p (.tup (xs++ys))))
theorem Vals.oS{xs}(r:Vals xs us):us=[]↔xs=[]:=by cases r with|nil=>simp|cons _ _=>simp
theorem Ll:a_ X (Qw .Add) (Bf X.K):=by intro pins s Z H x y v u Q I rx ry h;obtain⟨a,b,xs,ys,rfl,rfl,ha,hb,hx,hz,q1,q2⟩:=h;cases rx;cases ry;obtain⟨af,r1,p1,_⟩:=I.tuple ha;obtain⟨its2,r2,p2,_⟩:=I.tuple hb;refine K9 p1 p2 (λz=>hx (r1.oS.mp z)) (λz=>⟨.ref a,H,I,rfl,q1 (r2.oS.mp z)⟩) (λz=>?_) (by rw[<-r1.length,<-r2.length];exact hz);refine⟨.ref s.heap.objs.size,_,I.laid (t':=s.toks) (o:=.tup (xs++ys)) (λb ob q=>W6 _ q) (W5 _) ?_,rfl,q2 (λw=>z (r2.oS.mpr w)) _ (I.aB.fresh (W5 _))⟩;exact⟨%[Wy|hz],_,r1.append r2,ip.new _ _⟩
end
def gx(n:Nat)(i:Int):Option Nat:=if 0<=i then if i<n then some i.toNat else none else if-(n:Int)<=i then some (i+n).toNat else none
def dJ{α:Type}(xs:List α)(i:Int):Option α:=(gx xs.length i).bind λj=>xs[j]?
theorem Bg{i}(h:gx n i=some j):seqIndex? i n=some j/\j<n/\-(n:Int)<=i/\i<n:=by
 unfold gx at h;by_cases h0:0<=i
 .rw[if_pos h0]at h;by_cases h1:i<n;.rw[if_pos h1]at h;have e:i.toNat=j:=WS h;exact⟨by rw[seqIndex_of h0 h1,e],Y',Y',h1⟩
  .rw[if_neg h1]at h;cases h
 .rw[if_neg h0]at h;by_cases h1:-(n:Int)<=i;.rw[if_pos h1]at h;have e:(i+n).toNat=j:=WS h;exact⟨by rw[seqIndex_neg Y' h1,e],Y',h1,Y'⟩
  .rw[if_neg h1]at h;cases h
theorem vq{xs i}(h:dJ xs i=some v):∃j,seqIndex? i xs.length=some j/\xs[j]?=some v/\j<xs.length/\-(xs.length:Int)<=i/\i<xs.length:=by unfold dJ at h;cases e:gx xs.length i with|none=>rw[e]at h;cases h|some j=>rw[e]at h;obtain⟨h1,h2,h3,h4⟩:=Bg e;exact⟨j,h1,h,h2,h3,h4⟩
def vt(b:Expr):Prop:=∀o i,subscripted b false o i=operate [o,i] (JV o i)
def gW(X:Cx)(r:R2):Prop:=∀(value slice:Expr)(pins:List (Addr×Obj))(s:W1)(Z:St)(H:Hp)(x y:V)(v u:Value)(Q:VK),Inv X pins Z H s->RelV x v->RelV y u->r x y H Q->subscripted slice false v u=operate [v,u] (JV v u)->W8 5#0 X.A (subscriptTail value slice v u) (EP X pins Z Q) X.xe s
def nB(X:Cx)(id:String)(r:V->List V->Hp->VK->Prop):Prop:=∀(pins:List (Addr×Obj))(s:W1)(Z:St)(H:Hp)(x:V)(xs:List V)(v:Value)(us:List Value)(Q:VK),Inv X pins Z H s->RelV x v->Vals xs us->r x xs H Q->W8 5#0 X.A (call (.builtin id) (v::us)) (EP X pins Z Q) X.xe s
section
variable{a b:Expr}{tb:TE}
theorem gW.or(h:gW X r)(h':gW X r'):gW X λx y H Q=>r x y H Q\/r' x y H Q:=by
 intro value slice pins s Z H x y v u Q I rx ry q hs;rcases q with q|q;.exact h value slice pins s Z H x y v u Q I rx ry q hs
 .exact h' value slice pins s Z H x y v u Q I rx ry q hs
theorem Bh(hr:gW X r)(ha:PE X a ta)(hb:PE X b tb)(hs:vt b):PE X (.Subscript a b pos) (me r ta tb):=by intro pins s Z H Q I h;exact Subscript_ (vf ha hb I h λv u s2 x y H2 I2 rx ry q=>hr a b pins s2 Z H2 x y v u Q I2 rx ry q (hs _ _))
def Bi(K:W2):R2:=λx y H Q=>∃p xs i v,x=.ref p/\y=.int i/\bN K H p xs/\dJ xs i=some v/\Q v H
def Bj(K:W2):R2:=λx y H Q=>∃p xs i v,x=.ref p/\y=.int i/\cA K H p xs/\dJ xs i=some v/\Q v H
def Bk:R2:=λx y H Q=>∃z i c,x=.str z/\y=.int i/\z.length<=W7/\dJ z.cps.toList i=some c/\Q (.str ⟨#[c]⟩) H
theorem Lm:gW X (Bi X.K):=by
 intro value slice pins s Z H x y v u Q I rx ry h hs;obtain⟨p,xs,i,z,rfl,rfl,hq,he,q⟩:=h;cases rx;obtain⟨t,rfl⟩:=ry;obtain⟨af,r,pl,hz⟩:=I.list hq;obtain⟨j,h1,h2,h3,h4,h5⟩:=vq he;obtain⟨w,ew,bU⟩:=r.get h2;have hl:=r.length;have hn:=ny;have fin:EP X pins Z Q w s:=⟨z,H,I,bU,q⟩;by_cases h0:0<=i
 .have hj:i.toNat=j:=by rw[seqIndex_of h0 h5]at h1;exact WS h1
  exact item_listR pl.isList h0 Y' (by rw[hj];simpa using ew) fin hs
 .have hj:(i+(af.toArray.size:Int)).toNat=j:=by rw[seqIndex_neg Y' h4]at h1;rw[We,<-hl];exact WS h1
  exact subscriptTail_builtinR (x:=w) pl.isList.typeIs slot_list_getitem.lookup (wpAny_getItem_list_neg (Q:=λr s'=>r=w/\EP X pins Z Q r s') pl.isList Y' (by rw[We]<;>lia) Y' (by rw[hj];simpa using ew) ⟨rfl,fin⟩) hs
theorem Ln:gW X (Bj X.K):=by intro value slice pins s Z H x y v u Q I rx ry h hs;obtain⟨p,xs,i,z,rfl,rfl,hq,he,q⟩:=h;cases rx;obtain⟨t,rfl⟩:=ry;obtain⟨af,r,pl,hz⟩:=I.tuple hq;obtain⟨j,h1,h2,h3,h4,h5⟩:=vq he;obtain⟨w,ew,bU⟩:=r.get h2;have hl:=r.length;have hn:=ny;have fin:EP X pins Z Q w s:=⟨z,H,I,bU,q⟩;exact subscriptTail_builtinR (x:=w) pl.typeIs slot_tuple_getitem.lookup (getItem_tuple (j:=j) (Q:=λr s'=>r=w/\EP X pins Z Q r s') pl Y' Y' (by rw[We,<-hl];exact h1) (~~~ew) ⟨rfl,fin⟩) hs
theorem Lp:gW X Bk:=by intro value slice pins s Z H x y v u Q I rx ry h hs;obtain⟨z,i,c,rfl,rfl,hz,he,q⟩:=h;obtain⟨t,rfl⟩:=rx;obtain⟨t',rfl⟩:=ry;obtain⟨j,h1,h2,h3,h4,h5⟩:=vq he;have hl:z.cps.toList.length=z.length:=#v[Str.length];rw[hl]at h1 h4 h5;have hn:=ny;exact tail_any (typeIs_str s z t) slot_str_getitem.lookup (getItem_str (c:=c) (by have e1:decide (i< -(2^63:Int))=false:=decide_eq_false Y';have e2:decide (i≥2^63)=false:=decide_eq_false Y';rw[e1,e2,Bool.or_false]) (by rw[h1];simpa using h2) ⟨.str ⟨#[c]⟩,H,I.tok _,⟨_,rfl⟩,q⟩) hs
def rW(K:W2):R2:=λx y H Q=>Bi K x y H Q\/Bj K x y H Q\/Bk x y H Q
theorem vw:gW X (rW X.K):=Lm.or (Ln.or Lp)
theorem Lq(af:List Value)(n j:Nat)(u:Value):Obj.mapSeq (·.setIfInBounds j u) {cls:=.type "list",data:=.seq af.toArray n}={cls:=.type "list",data:=.seq (af.set j u).toArray n}:=by simp[Obj.mapSeq]
theorem Inv.lst{X pins Z H s p xs}(I:Inv X pins Z H s)(h:H p=some (.lst xs)):∃(af:List Value)(n:Nat),Vals xs af/\s.heap.get? p=some {cls:=.type "list",data:=.seq af.toArray n}/\xs.length<=W7:=by obtain⟨z,af,n,r,e⟩:=I.aB p _ h;exact⟨af,n,r,e,z⟩
theorem Inv.Lr{p:Addr}{xs ys:List V}{af its':List Value}{n n':Nat}{f:Obj->Obj}(I:Inv X pins Z H s)(h:H p=some (.lst xs))(ho:s.heap.get? p=some {cls:=.type "list",data:=.seq af.toArray n})(hf:f {cls:=.type "list",data:=.seq af.toArray n}={cls:=.type "list",data:=.seq its'.toArray n'})(r:Vals ys its')(hz:ys.length<=W7)(t:Nat):Inv X pins Z (upd H p (.lst ys)) {s with heap:=s.heap.update p f,toks:=t}:=by
 have e:(s.heap.update p f).get? p=some {cls:=.type "list",data:=.seq its'.toArray n'}:=by rw[Qs f ho (by rw[hf]<;>rfl),hf]
 refine I.write (x:=p) (e:=p) (by rw[h];trivial) (.inl rfl) (λb u hb q=>(Qf _ _ (Ne.symm hb)).trans q) ⟨_,e⟩ ?_;exact⟨hz,its',n',r,e⟩
def Ls:V->V->V->Hp->(Hp->Prop)->Prop:=λo i v H Q=>∃p xs k j,o=.ref p/\i=.int k/\H p=some (.lst xs)/\gx xs.length k=some j/\Q (upd H p (.lst (xs.set j v)))
theorem Lu:Ax X Ls:=by
 intro pins s Z H o i v ov iv u Q I ro ri rv h;obtain⟨p,xs,k,j,rfl,rfl,hp,hj,q⟩:=h;cases ro;obtain⟨t,rfl⟩:=ri;obtain⟨af,n,r,ho,hz⟩:=I.lst hp;obtain⟨h1,h2,h3,h4⟩:=Bg hj;have hl:=r.length;have hn:=ny;have I':Inv X pins Z (upd H p (.lst (xs.set j v))) 9#(s.heap.update p (Obj.mapSeq (·.setIfInBounds j u))):=I.Lr hp ho (Lq af n j u) (r.set rv j) %[QY|hz] s.toks;by_cases h0:0<=k
 .have hk:k.toNat=j:=by rw[seqIndex_of h0 h4]at h1;exact WS h1
  exact PySem.W.ki_setAt ho h0 Y' (by rw[We,<-hl];exact h4) (by rw[hk];exact⟨_,I',q⟩)
 .have hk:(k+(af.toArray.size:Int)).toNat=j:=by rw[seqIndex_neg Y' h3]at h1;rw[We,<-hl];exact WS h1
  exact PySem.W.ki_setBack ho Y' (by rw[We,<-hl];exact h3) Y' (by rw[hk];exact⟨_,I',q⟩)
theorem Lv(lo hi:Option Int)(n:Nat):(JW lo hi none n).1=((aO n 0 lo:Nat):Int)/\(JW lo hi none n).2.1=((aO n n hi:Nat):Int)/\(JW lo hi none n).2.2=1:=by
 refine⟨?_,?_,rfl⟩;.cases lo with|none=>simp[JW,aO]|some i=>
   simp only[JW,aO,Option.getD_none,show(1:Int)>0 by decide,if_true];by_cases h:i<0;.simp only[h,if_true]<;>lia
   .simp only[h,if_false]<;>lia
 .cases hi with|none=>simp[JW,aO]|some i=>
 simp only[JW,aO,Option.getD_none,show(1:Int)>0 by decide,if_true];by_cases h:i<0;.simp only[h,if_true]<;>lia
 .simp only[h,if_false]<;>lia
theorem Lw(af:List Value)(lo hi:Option Int):slicePick af.toArray lo hi none=((af.drop (aO af.length 0 lo)).take (aO af.length af.length hi-aO af.length 0 lo)).toArray:=by obtain⟨h1,h2,h3⟩:=Lv lo hi af.toArray.size;unfold slicePick;rw[h1,h2,h3];simp only[sliceRange_one,pick_run,We]<;>rfl
def Bl(K:W2):V->Option Int->Option Int->Hp->VK->Prop:=λx lo hi H Q=>∃a xs,x=.ref a/\bN K H a xs/\∀p,H p=none->Q (.ref p) (upd H p (.lst (kR xs lo hi)))
theorem Lx:jv X (Bl X.K):=by intro pins s Z H x v vl vu lo hi sl Q I rx hs pl pu h;obtain⟨a,xs,rfl,hx,q⟩:=h;cases rx;obtain⟨af,r,ht,hz⟩:=I.list hx;have hlen:=r.length;refine⟨"list",_,slot_list_getitem.lookup,ht.isList.typeIs,?_⟩;refine wpAny_getItem_list_slice ht.isList hs pl pu .none Zw ?_ (by rw[We]<;>lia);rw[Lw,<-hlen];refine⟨.ref s.heap.objs.size,_,I.laid (t':=s.toks) (o:=.lst (kR xs lo hi)) (λb ob q=>W6 _ q) (W5 _) ?_,rfl,q _ (I.aB.fresh (W5 _))⟩;exact⟨WF (Be xs lo hi) hz,_,0,(r.drop (aO xs.length 0 lo)).take (aO xs.length xs.length hi-aO xs.length 0 lo),Wv _ rfl⟩
def jW:V->Bool|.aI=>true|.bl _=>true|.int _=>true|.str _=>true|_=>false
def kS:V->V->Bool|.aI,.aI=>true|.bl a,.bl b=>a==b|.bl a,.int b=>(if a then 1 else 0)==b|.int a,.bl b=>a==if b then 1 else 0|.int a,.int b=>a==b|.str a,.str b=>a==b|_,_=>false
theorem Ly(ry:RelV y u)(rx:RelV x v)(fy:jW y=true)(fx:jW x=true):SeqAt.EqAt A s u v (kS y x):=by cases y with
 |aI=>cases ry;cases x with|aI=>cases rx;exact SeqAt.EqAt.same _|bl b=>cases rx;exact SeqAt.EqAt.none_bool b|int b=>obtain⟨t,rfl⟩:=rx;exact SeqAt.EqAt.none_int b t|str b=>obtain⟨t,rfl⟩:=rx;exact SeqAt.EqAt.none_str b t|_=>exact absurd (show false=true from fx) WW
 |bl a=>cases ry;cases x with|aI=>cases rx;exact SeqAt.EqAt.bool_none a|bl b=>cases rx;exact SeqAt.EqAt.bool_bool a b|int b=>obtain⟨t,rfl⟩:=rx;exact SeqAt.EqAt.bool_int a b t|str b=>obtain⟨t,rfl⟩:=rx;exact SeqAt.EqAt.bool_str a b t|_=>exact absurd (show false=true from fx) WW
 |int a=>obtain⟨t',rfl⟩:=ry;cases x with|aI=>cases rx;exact SeqAt.EqAt.int_none a t'|bl b=>cases rx;exact SeqAt.EqAt.int_bool a t' b|int b=>obtain⟨t,rfl⟩:=rx;exact SeqAt.EqAt.int_int a t' b t|str b=>obtain⟨t,rfl⟩:=rx;exact SeqAt.EqAt.int_str a t' b t|_=>exact absurd (show false=true from fx) WW
 |str a=>obtain⟨t',rfl⟩:=ry;cases x with|aI=>cases rx;exact SeqAt.EqAt.str_none a t'|bl b=>cases rx;exact SeqAt.EqAt.str_bool a t' b|int b=>obtain⟨t,rfl⟩:=rx;exact SeqAt.EqAt.str_int a t' b t|str b=>obtain⟨t,rfl⟩:=rx;exact SeqAt.EqAt.str_str a t' b t|_=>exact absurd (show false=true from fx) WW
 |_=>exact absurd (show false=true from fy) WW
def gb(x:V)(u:Value):Bool:=match u with|.none=>kS .aI x|.bool b=>kS (.bl b) x|.int i _=>kS (.int i) x|.str z _=>kS (.str z) x|_=>false
theorem Bm(r:RelV y u)(f:jW y=true):gb x u=kS y x:=by cases y with|aI=>cases r;rfl|bl b=>cases r;rfl|int i=>obtain⟨t,rfl⟩:=r;rfl|str z=>obtain⟨t,rfl⟩:=r;rfl|_=>exact absurd (show false=true from f) WW
theorem oU:∀{xs:List V}{us:List Value},Vals xs us->xs.all jW=true->us.any (gb x)=xs.any λy=>kS y x|_,_,.nil,_=>rfl|y::xs,u::us,.cons r t,f=>by rw[Uj,Wn]at f;rw[QJ,QJ,Bm r f.1,oU t f.2]
theorem oV(rx:RelV x v)(fx:jW x=true):∀{xs:List V}{us:List Value},Vals xs us->xs.all jW=true->∀u∈us,SeqAt.EqAt A s u v (gb x u)
 |_,_,.nil,_=>by grind|y::xs,u::us,.cons r t,f=>λu' hu=>by
  rw[Uj,Wn]at f;rcases Wi.mp hu with rfl|hu;.rw[Bm r f.1];exact Ly r rx f.1 fx
  .exact oV rx fx t f.2 u' hu
def rX(x:V)(xs:List V):Bool:=xs.any λy=>kS y x
def vx(K:W2)(neg:Bool):R2:=λx y H Q=>∃p xs,y=.ref p/\(bN K H p xs\/cA K H p xs)/\jW x=true/\xs.all jW=true/\Q (.bl (if neg then !rX x xs else rX x xs)) H
theorem Lz:a_ X (WC .In) (vx X.K false):=by
 intro pins s Z H x y v u Q I rx ry h;obtain⟨p,xs,rfl,hq,fx,fs,q⟩:=h;cases ry;rcases hq with hq|hq;.obtain⟨af,r,pl,hz⟩:=I.list hq;refine SeqAt.in_listAt (gb x) pl.isList (λw hw=>oV rx fx r fs w (~~~hw)) ⟨.bl _,H,I,rfl,?_⟩;rw[show af.toArray.any (gb x)=af.any (gb x)by simp,oU r fs];exact q
 .obtain⟨af,r,pl,hz⟩:=I.tuple hq;refine SeqAt.in_tupleAt (gb x) pl (λw hw=>oV rx fx r fs w (~~~hw)) ⟨.bl _,H,I,rfl,?_⟩;rw[show af.toArray.any (gb x)=af.any (gb x)by simp,oU r fs];exact q
theorem LA:a_ X (WC .NotIn) (vx X.K true):=by
 intro pins s Z H x y v u Q I rx ry h;obtain⟨p,xs,rfl,hq,fx,fs,q⟩:=h;cases ry;rcases hq with hq|hq;.obtain⟨af,r,pl,hz⟩:=I.list hq;refine SeqAt.notIn_listAt (gb x) pl.isList (λw hw=>oV rx fx r fs w (~~~hw)) ⟨.bl _,H,I,rfl,?_⟩;rw[show af.toArray.any (gb x)=af.any (gb x)by simp,oU r fs];exact q
 .obtain⟨af,r,pl,hz⟩:=I.tuple hq;refine SeqAt.notIn_tupleAt (gb x) pl (λw hw=>oV rx fx r fs w (~~~hw)) ⟨.bl _,H,I,rfl,?_⟩;rw[show af.toArray.any (gb x)=af.any (gb x)by simp,oU r fs];exact q
theorem LB:cN X (.builtin "len") λxs H Q=>∃p ys,xs=[.ref p]/\(bN X.K H p ys\/cA X.K H p ys)/\Q (.int ys.length) H:=by
 intro pins s Z H xs us Q I r h;obtain⟨p,ys,rfl,hq,q⟩:=h;obtain⟨u,rfl,rx⟩:=eN r;cases rx;have hn:=ny;rcases hq with hq|hq;.obtain⟨af,r',pl,hz⟩:=I.list hq;have hlen:=r'.length;exact Calls.call_len_list pl.isList (by simp only[We]<;>lia) ⟨.int ys.length,H,I.tok _,⟨s.toks+1,by rw[We,hlen]⟩,q⟩
 .obtain⟨af,r',pl,hz⟩:=I.tuple hq;have hlen:=r'.length;exact len_tuple pl (by simp only[We]<;>lia) ⟨.int ys.length,H,I.tok _,⟨s.toks+1,by rw[We,hlen]⟩,q⟩
theorem LC:cN X (.builtin "len") λxs H Q=>∃z,xs=[.str z]/\z.length<=W7/\Q (.int z.length) H:=by intro pins s Z H xs us Q I r h;obtain⟨z,rfl,hz,q⟩:=h;obtain⟨u,rfl,t,rfl⟩:=eN r;have hn:=ny;exact len_str Y' ⟨.int z.length,H,I.tok _,⟨_,rfl⟩,q⟩
theorem cN.or{f}(h:cN X f r)(h':cN X f r'):cN X f λxs H Q=>r xs H Q\/r' xs H Q:=by
 intro pins s Z H xs us Q I rs q;rcases q with q|q;.exact h pins s Z H xs us Q I rs q
 .exact h' pins s Z H xs us Q I rs q
theorem LD:cN X (.type "list") λxs H Q=>∃p ys,xs=[.ref p]/\(bN X.K H p ys\/cA X.K H p ys)/\∀l,H l=none->Q (.ref l) (upd H l (.lst ys)):=by
 intro pins s Z H xs us Q I r h;obtain⟨p,ys,rfl,hq,q⟩:=h;obtain⟨u,rfl,rx⟩:=eN r;cases rx;have fin:∀(af:List Value),Vals ys af->ys.length<=W7->∀(h':Heap)(c':Nat),(∀b o',s.heap.get? b=some o'->h'.get? b=some o')->h'.get? s.heap.objs.size=some {cls:=.type "list",dict:=none,data:=.seq af.toArray c',slots:=#[]}->EP X pins Z Q (.ref s.heap.objs.size) 9#h':=λaf r' hz h' c' kp e=>⟨.ref s.heap.objs.size,_,I.laid (t':=s.toks) kp (W5 _) (show aZ X.prog X.w _ h' _ (.lst ys)from⟨hz,af,c',r',e⟩),rfl,q _ (I.aB.fresh (W5 _))⟩;rcases hq with hq|hq;.obtain⟨af,r',pl,hz⟩:=I.list hq;have hlen:=r'.length;obtain⟨o,ho,hc,n,hd⟩:=pl.isList;exact call_list_seq p (.inl rfl) ho hc hd (λh' c' kp e=>fin af r' hz h' c' kp e) (by simp only[We]<;>lia)
 .obtain⟨af,r',pl,hz⟩:=I.tuple hq;have hlen:=r'.length;obtain⟨o,ho,hc,n,hd⟩:=pl;exact call_list_seq p (.inr rfl) ho hc hd (λh' c' kp e=>fin af r' hz h' c' kp e) (by simp only[We]<;>lia)
theorem LF:cN X (.type "tuple") λxs H Q=>∃p ys,xs=[.ref p]/\((bN X.K H p ys/\∀l,H l=none->Q (.ref l) (upd H l (.tup ys)))\/cA X.K H p ys/\Q (.ref p) H):=by
 intro pins s Z H xs us Q I r h;obtain⟨p,ys,rfl,h⟩:=h;obtain⟨u,rfl,rx⟩:=eN r;cases rx;rcases h with⟨hq,q⟩|⟨hq,q⟩;.obtain⟨af,r',pl,hz⟩:=I.list hq;have hlen:=r'.length;refine call_tuple_list pl.isList (λh' kp=>?_) (by simp only[We]<;>lia);have I1:Inv X pins Z H 9#h':=I.kept (t':=s.toks) kp;have I2:Inv X pins Z (upd H h'.objs.size (.tup ys)) 9#(h'.push {cls:=.type "tuple",data:=.seq af.toArray}):=I1.laid (t':=s.toks) (λb o e=>W6 _ e) (W5 _) (show aZ X.prog X.w _ _ _ (.tup ys)from⟨hz,af,r',ip.new _ _⟩);exact⟨.ref h'.objs.size,_,I2,rfl,q _ (I1.aB.fresh (W5 _))⟩
 .obtain⟨af,r',pl,hz⟩:=I.tuple hq;exact call_tuple_same pl ⟨.ref p,H,I,rfl,q⟩
def oW(K:W2)(T:String)(x:V)(H:Hp):Prop:=match x with|.str _=>T="str"|.int _=>T="int"|.ref p=>(T="list"/\∃xs,bN K H p xs)\/(T="tuple"/\∃o,K.lookup p=some o/\o.cls=.type "tuple"/\o.dict=none)\/T="dict"/\((∃ao,H p=some (.dK ao))\/∃ao,H p=some (.dT ao))\/T="set"/\∃S n,H p=some (.set S n)|_=>False
theorem Bn(I:Inv X pins Z H s)(r:RelV x v)(ty:oW X.K T x H):s.TypeIs v T/\∀a,v=.ref a->∃ob,s.heap.get? a=some ob/\ob.dict=none:=by
 cases x with|str z=>obtain⟨t,rfl⟩:=r;cases show T="str"from ty;exact⟨typeIs_str s z t,λj e=>nomatch e⟩|int i=>obtain⟨t,rfl⟩:=r;cases show T="int"from ty;exact⟨typeIs_int s i t,λj e=>nomatch e⟩|ref p=>
  cases r;rcases ty with⟨rfl,xs,hq⟩|⟨rfl,o,hk,hc,hd⟩|⟨rfl,hk⟩|⟨rfl,S,n,hk⟩;.obtain⟨af,_,pl,_⟩:=I.list hq;refine⟨pl.isList.typeIs,λa e=>?_⟩;cases e;obtain⟨o,n,e,c,hd,_⟩:=pl;exact⟨o,e,hd⟩
  .refine⟨⟨o,I.cH p o hk,hc⟩,λa e=>?_⟩;cases e;exact⟨o,I.cH _ o hk,hd⟩
  .have z:∃o,s.heap.get? p=some o/\o.ExactDict:=by
    rcases hk with⟨ao,hk⟩|⟨ao,hk⟩;.obtain⟨_,_,_,_,o,_,_,e,ex,_⟩:=I.aB p _ hk;exact⟨o,e,ex⟩
    .obtain⟨_,_,_,_,o,_,_,e,ex,_⟩:=I.aB p _ hk;exact⟨o,e,ex⟩
   obtain⟨o,e,ex⟩:=z;refine⟨⟨o,e,ex.1⟩,λa e2=>?_⟩;cases e2;exact⟨o,e,ex.2.1⟩
  .obtain⟨o,_,_,_,e,ex,_⟩:=I.aB p _ hk;refine⟨⟨o,e,ex.1⟩,λa e2=>?_⟩;cases e2;exact⟨o,e,ex.2.1⟩|_=>exact False.elim ty
def LG(K:W2)(T:String)(r:V->List V->Hp->VK->Prop)(to:TE):TE:=λZ H Q=>to Z H λx H1=>oW K T x H1/\r x [] H1 Q
def Bo(K:W2)(T:String)(r:V->List V->Hp->VK->Prop)(to:TE)(t:TA):TE:=λZ H Q=>to Z H λx H1=>oW K T x H1/\t Z H1 λxs H2=>r x xs H2 Q
variable{o:Expr}{to:TE}{t:TA}{T id:String}{r:V->List V->Hp->VK->Prop}
theorem Bp(pa:PlainAttrs T)(slot:Slot T name id)(vy:typeOf (.builtin id)=pure (.type "method_descriptor"))(hm:nB X id r)(ho:PE X o to)(fD:Ja o name X.env (eval o X.env)=eval o X.env:=by rfl)(cY:(apos.endLine==bu.line)=true:=by rfl):PE X (.Call (.Attribute o name apos) [] [] bu) (LG X.K T r to):=by intro pins s Z H Q I h;refine wpAny_Call_method0_late fD cY (aN (ho pins s Z H _ I h) λv s1 hh=>?_);obtain⟨x,H1,I1,r1,ty,q1⟩:=hh;obtain⟨h1,h2⟩:=Bn I1 r1 ty;exact⟨T,id,pa,slot,vy,h1,h2,Calls.callWith_builtin rfl (PySem.evalArgs_none (hm pins s1 Z H1 x [] v [] Q I1 r1 .nil q1))⟩
theorem oX(pa:PlainAttrs T)(slot:Slot T name id)(vy:typeOf (.builtin id)=pure (.type "method_descriptor"))(hm:nB X id r)(ho:PE X o to)(ha:PA X (e::es) t)(fD:Ja o name X.env (eval o X.env)=eval o X.env:=by rfl)(iY:((Qp bu (Wa (e::es) X.env)).all (λx=>!x.1)&&(backToKw bu (Ui [] X.env)).all (λx=>x.1.isSome)&&decide ((e::es).length+([]:List Keyword).length+(if([]:List Keyword).isEmpty then 0 else 1)<30))=true:=by rfl)(cY:(apos.endLine==bu.line)=true:=by rfl)(hs:Wa (e::es) X.env=(false,eval e X.env)::Wa es X.env:=by rfl)(LH:(Qp bu (Wa es X.env)).any (·.1)=false:=by rfl):PE X (.Call (.Attribute o name apos) (e::es) [] bu) (Bo X.K T r to t):=by intro pins s Z H Q I h;refine wpAny_Call_method_late fD iY cY rfl (aN (ho pins s Z H _ I h) λv s1 hh=>?_);obtain⟨x,H1,I1,r1,ty,q1⟩:=hh;obtain⟨h1,h2⟩:=Bn I1 r1 ty;refine⟨T,id,pa,slot,vy,h1,h2,?_⟩;have hA:=ha bu pins s1 Z H1 _ I1 q1;rw[hs]at hA⊢;refine Calls.callWith_builtin (by show(false||(Qp bu (Wa es X.env)).any (·.1))=false;rw[LH]<;>rfl) (Calls.evalArgs_plain ?_);exact aN hA λus s2⟨vs,H2,I2,r2,q2⟩=>hm pins s2 Z H2 x vs v us Q I2 r1 r2 q2
end
def vz(X:Cx)(id:String)(r:V->List V->Hp->VK->Prop):Prop:=∀(pins:List (Addr×Obj))(s:W1)(Z:St)(H:Hp)(x:V)(xs:List V)(v:Value)(us:List Value)(Q:VK),Inv X pins Z H s->RelV x v->Vals xs us->r x xs H Q->W8 5#0 X.A (call (.builtin id) (v::us)) (EP X pins Z Q) X.xe s
theorem Vals.one{x:V}{us:List Value}(h:Vals [x] us):∃u,us=[u]/\RelV x u:=by cases h with|cons r t=>cases t;exact⟨_,rfl,r⟩
theorem Vals.two{x y:V}{us:List Value}(h:Vals [x,y] us):∃u v,us=[u,v]/\RelV x u/\RelV y v:=by cases h with|cons r t=>obtain⟨u,rfl,q⟩:=Vals.one t;exact⟨_,_,rfl,r,q⟩
theorem Vals.zero:∀{us:List Value},Vals [] us->us=[]|_,.nil=>rfl
theorem Vals.dropLast{xs}(h:Vals xs us):Vals xs.dropLast us.dropLast:=by induction h with|nil=>exact .nil|cons r t ih=>cases t with|nil=>exact .nil|cons q t'=>exact .cons r ih
theorem Vals.reverse{xs}(h:Vals xs us):Vals xs.reverse us.reverse:=by induction h with|nil=>exact .nil|cons r t ih=>rw[List.reverse_cons,List.reverse_cons];exact Vals.append ih (.cons r .nil)
theorem Vals.rep{xs}(h:Vals xs us):∀k:Nat,Vals (W9 k xs).flatten (W9 k us).flatten|0=>.nil|k+1=>by rw[Qc,Qc,Jr,Jr];exact Vals.append h (Vals.rep h k)
theorem LI(l:List α):l.eraseIdx (l.length-1)=l.dropLast:=by grind
theorem vA(af:List Value):∀(k:Nat)(acc:List Value),List.foldl (λx1 x2=>x1++x2) acc.toArray (W9 k af.toArray)=(acc++(W9 k af).flatten).toArray
 |0,acc=>by simp|k+1,acc=>by
  have e:acc.toArray++af.toArray=(acc++af).toArray:=by simp
  have e2:acc++af++(W9 k af).flatten=acc++(W9 (k+1) af).flatten:=by grind
  rw[<-e2,<-vA af k (acc++af),<-e,Qc,Jl]
section
variable{l b:Addr}{xs ys zs:List V}
theorem Inv.vB{af its':List Value}{n:Nat}{f:Array Value->Array Value}{t':Nat}(I:Inv X pins Z H s)(hH:H l=some (.lst xs))(e:s.heap.get? l=some {cls:=.type "list",data:=.seq af.toArray n})(hf:f af.toArray=its'.toArray)(hv:Vals ys its')(hz:ys.length<=W7):Inv X pins Z (upd H l (.lst ys)) {s with heap:=s.heap.update l (Obj.mapSeq f),toks:=t'}:=by have q:=PySem.IsL.update e f;rw[hf]at q;refine I.write (x:=l) (e:=l) %[hH|trivial] (.inl rfl) (λb' u hb hu=>(Qf s.heap (Obj.mapSeq f) (Ne.symm hb)).trans hu) ⟨_,q⟩ ?_;exact⟨hz,its',_,hv,q⟩
theorem Inv.Bq(I:Inv X pins Z H s)(hv:Vals ys af)(hz:ys.length<=W7):Inv X pins Z (upd H s.heap.objs.size (.lst ys)) {s with heap:=s.heap.push {cls:=.type "list",data:=.seq af.toArray},toks:=t'}:=I.laid (λj j q=>W6 _ q) (W5 _) ⟨hz,af,0,hv,Wv _ rfl⟩
theorem Inv.fresh(I:Inv X pins Z H s):H s.heap.objs.size=none:=I.aB.fresh (W5 _)
theorem Inv.rY(I:Inv X pins Z H s)(hH:H l=some (.lst xs)):xs.length<=W7/\∃(af:List Value)(n:Nat),Vals xs af/\xs.length=af.length/\s.heap.get? l=some {cls:=.type "list",data:=.seq af.toArray n}:=by obtain⟨z,af,n,r,e⟩:=I.aB l _ hH;exact⟨z,af,n,r,r.length,e⟩
theorem LJ(h:n<=W7):Ju n=false:=by unfold Ju;exact decide_eq_false Y'
end
def Br:V->List V->Hp->VK->Prop:=λx vs H Q=>∃l xs y,x=.ref l/\vs=[y]/\H l=some (.lst xs)/\xs.length<W7/\Q .aI (upd H l (.lst (xs++[y])))
theorem Bs:vz X "list.append" Br:=by intro pins s Z H x vs v us Q I rx rv h;obtain⟨l,xs,y,rfl,rfl,hH,hz,q⟩:=h;cases rx;obtain⟨u,rfl,ru⟩:=(Vals.one rv);obtain⟨z,af,n,r,hl,e⟩:=I.rY hH;refine Jf F.slot_list_append ⟨_,e,rfl⟩ F.entry_list_append (F.args_list_append_2 _ _) (PySem.list_append l af.toArray n u (by rw[We];lia)) ⟨e,?_⟩;refine⟨.aI,_,I.vB (its':=af++[u]) hH e Zw (r.append (.cons ru .nil)) ?_,rfl,q⟩;rw[Wy,QR];lia
def LK:V->List V->Hp->VK->Prop:=λx vs H Q=>∃l b xs zs,x=.ref l/\vs=[.ref b]/\H l=some (.lst xs)/\H b=some (.lst zs)/\xs.length+zs.length<=W7/\Q .aI (upd H l (.lst (xs++zs)))
theorem LM:vz X "list.extend" LK:=by
 intro pins s Z H x vs v us Q I rx rv h;obtain⟨l,b,xs,zs,rfl,rfl,hH,hB,hz,q⟩:=h;cases rx;obtain⟨u,rfl,ru⟩:=(Vals.one rv);cases ru;obtain⟨z,af,n,r,hl,e⟩:=I.rY hH;obtain⟨z2,its2,n2,r2,kT,e2⟩:=I.rY hB;have hsz:af.toArray.size+its2.toArray.size<=W7:=by rw[We,We];lia
 have LN:¬(!af.toArray.isEmpty&&Ju (af.toArray.size+its2.toArray.size))=true:=by rw[LJ hsz,Bool.and_false];exact WW
 refine Jf F.slot_list_extend ⟨_,e,rfl⟩ F.entry_list_extend (F.args_list_extend_2 _ _) (AutoSeq1.list_extend_list_list_0 l af.toArray n b its2.toArray n2 LN (by rw[We];lia) Y') ⟨e,e2,?_⟩;refine⟨.aI,_,I.vB (its':=af++its2) hH e Zw (r.append r2) ?_,rfl,q⟩;rw[Wy];lia
def LO:V->List V->Hp->VK->Prop:=λx vs H Q=>∃l xs y,x=.ref l/\vs=[]/\H l=some (.lst xs)/\xs[xs.length-1]?=some y/\Q y (upd H l (.lst xs.dropLast))
theorem LP:vz X "list.pop" LO:=by
 intro pins s Z H x vs v us Q I rx rv h;obtain⟨l,xs,y,rfl,rfl,hH,hy,q⟩:=h;cases rx;have LR:=rv.zero;subst LR;obtain⟨z,af,n,r,hl,e⟩:=I.rY hH;obtain⟨u,hu,ru⟩:=r.get hy;have jX:af.toArray[af.toArray.size-1]?=some u:=by grind
 refine Jf F.slot_list_pop ⟨_,e,rfl⟩ F.entry_list_pop (F.args_list_pop_1 _) (MeetsSeq.list_pop_last l af.toArray n u jX (by rw[We];lia)) ⟨e,?_⟩;refine⟨y,_,I.vB (its':=af.dropLast) hH e ?_ r.dropLast ?_,ru,q⟩;.show af.toArray.eraseIdxIfInBounds (af.toArray.size-1)=af.dropLast.toArray;rw[We,List.eraseIdxIfInBounds_toArray,LI]
 .rw[List.length_dropLast];lia
theorem rZ(xs:List α)(k:Nat):(W9 k xs).flatten.length=k*xs.length:=by simp_all
section
variable{κ:Type}[DecidableEq κ]
def fR(ao:List (κ×V))(k:κ):Option V:=(ao.find? λkv=>decide (kv.1=k)).map (·.2)
def putK(ao:List (κ×V))(k:κ)(v:V):List (κ×V):=if(ao.any λkv=>decide (kv.1=k))=true then ao.map λkv=>if kv.1=k then(kv.1,v)else kv else ao++[(k,v)]
theorem vC{p:κ×V}{r:List (κ×V)}{k:κ}(e:p.1=k):fR (p::r) k=some p.2:=#v[fR,Qa,e]
theorem vD{p:κ×V}{r:List (κ×V)}{k:κ}(e:¬p.1=k):fR (p::r) k=fR r k:=#v[fR,Qa,e]
theorem Bt(ao:List (κ×V))(k:κ)(v:V):(putK ao k v).length<=ao.length+1:=by
 unfold putK;split;.rw[Wq];lia
 .rw[Wy,WE,QZ];lia
theorem eF.r8{u}(r:eF o u):o.isSome=u.isSome:=by cases o with
 |none=>cases u with|none=>rfl|some _=>exact(show False from r).elim
 |some _=>cases u with|none=>exact(show False from r).elim|some _=>rfl
theorem KV.val{ao:List (κ×V)}{vs:List (κ×Value)}(r:KV ao vs)(k:κ):eF (fR ao k) (valueAt vs k):=by unfold KV at r;induction r with|nil=>exact True.intro|@cons p q ps qs h t ih=>
 obtain⟨h1,h2⟩:=h;by_cases e:p.1=k;.have e':q.1=k:=h1.symm.trans e;have b:valueAt (q::qs) k=some q.2:=#v[valueAt,Qa,e'];rw[vC e,b];exact h2
 .have e':¬q.1=k:=λz=>e (h1.trans z);have b:valueAt (q::qs) k=valueAt qs k:=#v[valueAt,Qa,e'];rw[vD e,b];exact ih
theorem KV.any{vs}(r:KV ao vs)(k:κ):(ao.any λkv=>decide (kv.1=k))=vs.any λkv=>decide (kv.1=k):=by unfold KV at r;induction r with|nil=>rfl|cons h t ih=>rw[QJ,QJ,ih,h.1]
theorem KV.LS{vs}(r:KV ao vs)(k:κ)(ry:RelV y u):KV (ao.map λkv=>if kv.1=k then(kv.1,y)else kv) (vs.map λkv=>if kv.1=k then(kv.1,u)else kv):=by unfold KV at r⊢;induction r with|nil=>exact .nil|@cons p q ps qs h t ih=>rw[Wj,Wj];refine .cons ?_ ih;grind
theorem KV.put{vs}(r:KV ao vs)(k:κ)(ry:RelV y u):KV (putK ao k y) (stored vs k u):=by
 unfold putK stored;rw[r.any k];by_cases e:(vs.any λkv=>decide (kv.1=k))=true;.rw[if_pos e,if_pos e];exact r.LS k ry
 .rw[if_neg e,if_neg e];exact Paired.snoc r ⟨rfl,ry⟩
theorem KV.length{κ:Type}{ao:List (κ×V)}{vs:List (κ×Value)}(r:KV ao vs):ao.length=vs.length:=Paired.length r
end
theorem nC(r:RelV (kV k) u):(fg P w).is k u=true:=by cases k with|inl i=>obtain⟨t,e⟩:=show∃t,u=Value.int i t from r;subst e;exact Iq P w i t|inr x=>obtain⟨t,e⟩:=show∃t,u=Value.str x t from r;subst e;exact Ir P w x t
theorem Bu:∀{ks:List Key}{us:List Value},Vals (ks.map kV) us->ItemsAre (fg P w) ks us|[],_,r=>by rw[List.map_nil]at r;cases r;exact .nil|k::ks,_,r=>by rw[Wj]at r;cases r with|cons h t=>exact .cons (nC h) (Bu t)
abbrev KT(H:Hp):List (List Key×V)->List (List Key×Addr×Value)->Prop:=Paired λp q=>p.1=q.1/\H q.2.1=some (.tup (p.1.map kV))/\RelV p.2 q.2.2
theorem KT.val{H:Hp}{ao:List (List Key×V)}{xs:List (List Key×Addr×Value)}(r:KT H ao xs)(k:List Key):eF (fR ao k) ((atKey xs k).map (·.2)):=by induction r with|nil=>exact True.intro|@cons p q ps qs h t ih=>
 obtain⟨h1,_,h2⟩:=h;by_cases e:p.1=k;.have e':q.1=k:=h1.symm.trans e;have b:atKey (q::qs) k=some q.2:=#v[atKey,Qa,e'];rw[vC e,b];exact h2
 .have e':¬q.1=k:=λz=>e (h1.trans z);have b:atKey (q::qs) k=atKey qs k:=#v[atKey,Qa,e'];rw[vD e,b];exact ih
section
variable{h:Heap}{a:Addr}
theorem Bv{u}(ok:ck P w H h)(e:Rd H a u):aZ P w H h a u:=e.ok ok
theorem oY(ok:ck P w H h)(e:Rd H a (.dK ao)):ao.length<=W7/\(a==QC)=false/\∃vs,KV ao vs/\h.DictOf (fg P w) a vs:=show aZ P w H h a (.dK ao)from Bv ok e
theorem Bw(ok:ck P w H h)(e:H a=some (.dK ao)):ao.length<=W7/\(a==QC)=false/\∃vs,KV ao vs/\h.DictOf (fg P w) a vs:=oY ok (.inl e)
theorem r9(ok:ck P w H h)(e:H a=some (.tup (ks.map kV))):(tupleKind (fg P w)).is h ks a:=by obtain⟨_,af,r,p⟩:=show aZ P w H h a (.tup (ks.map kV))from ok a _ e;obtain⟨o,h1,h2,n,h3⟩:=p.tup;exact⟨o,af.toArray,n,h1,h2,h3,by simpa using Bu r⟩
theorem vE(ok:ck P w H h)(e:Rd H a (.dT ao)):ao.length<=W7/\(a==QC)=false/\∃xs,KT H ao xs/\h.DictOfH (tupleKind (fg P w)) a xs:=by
 obtain⟨z,y,xs,r,o,es,ep,h1,h2,h3,h4,h5⟩:=show aZ P w H h a (.dT ao)from Bv ok e;refine⟨z,y,xs,r,o,es,ep,h1,h2,h3,h4,λx hx=>?_,h5⟩;have all:∀{l:List (List Key×V)}{m:List (List Key×Addr×Value)},KT H l m->∀x∈m,(tupleKind (fg P w)).is h x.1 x.2.1:=by intro l m q;induction q with|nil=>intro x hx;exact nomatch hx|@cons p q ps qs hq t ih=>
   intro x hx;rcases Wi.mp hx with e|hx;.subst e;exact r9 ok (by rw[<-hq.1];exact hq.2.1)
   .exact ih x hx
 exact all r x hx
end
def kU(H:Hp)(a:Addr)(y:V)(r:Option V):Prop:=(∃ao k,Rd H a (.dK ao)/\y=kV k/\r=fR ao k)\/∃ao k b,Rd H a (.dT ao)/\y=.ref b/\H b=some (.tup (k.map kV))/\r=fR ao k
theorem kU.k{a:Addr}{ao:List (Key×V)}{k:Key}(e:H a=some (.dK ao)):kU H a (kV k) (fR ao k):=.inl ⟨ao,k,.inl e,rfl,rfl⟩
section
variable{a:Addr}{y v:V}{r:Value}{o:Option V}
theorem Inv.big(I:Inv X pins Z H s):QC<s.heap.objs.size:=by have h:Wr<s.heap.objs.size:=(I.mod.glob.keeps I.bk).lt;exact Nat.lt_trans Z' h
theorem LU(hu:A.units+1<WK)(I:Inv X pins Z H s)(g:kU H a y (some v))(ry:RelV y u)(h:∀w' s',Inv X pins Z H s'->RelV v w'->Q w' s'):W8 5#0 A (JV (.ref a) u) Q E s:=by
 rcases g with⟨ao,k,e,ey,l⟩|⟨ao,k,b,e,ey,eb,l⟩;.subst ey;obtain⟨z,hd,vs,rel,dd⟩:=oY I.aB e;obtain⟨w',hw,bU⟩:=eF.some_of (v:=v) (o:=valueAt vs k) %[l|rel.val k];exact wpAny_getItem_of (nC ry) dd.mapOf hw (h w' _ (I.tok _) bU)
 .subst ey;cases show u=Value.ref b from ry;obtain⟨z,hd,xs,rel,dd⟩:=vE I.aB e;obtain⟨w',hw,bU⟩:=eF.some_of (v:=v) (o:=(atKey xs k).map (·.2)) %[l|rel.val k];obtain⟨p,hp,hp2⟩:=Option.map_eq_some_iff.mp hw;refine wpAny_getItem_heap (tupleKind_room_in1 hu) (r9 I.aB eb) dd hp ?_;rw[hp2];exact h w' _ (I.tok _) bU
theorem LV(hu:A.units+1<WK)(I:Inv X pins Z H s)(g:kU H a y o)(ry:RelV y u)(h:∀s',Inv X pins Z H s'->Q (.bool o.isSome) s'):W8 5#0 A (WC .In u (.ref a)) Q E s:=by
 rcases g with⟨ao,k,e,ey,l⟩|⟨ao,k,b,e,ey,eb,l⟩;.subst ey;obtain⟨z,hd,vs,rel,dd⟩:=oY I.aB e;refine wpAny_in_of (nC ry) hd dd.mapOf ?_;rw[<-(rel.val k).r8,<-l];exact h _ (I.tok _)
 .subst ey;cases show u=Value.ref b from ry;obtain⟨z,hd,xs,rel,dd⟩:=vE I.aB e;refine wpAny_in_heap (tupleKind_room_in1 hu) (r9 I.aB eb) hd dd ?_;have q:=(rel.val k).r8;rw[Uf]at q;rw[<-q,<-l];exact h _ (I.tok _)
theorem LW(hu:A.units+1<WK)(I:Inv X pins Z H s)(g:kU H a y o)(ry:RelV y u)(h:∀s',Inv X pins Z H s'->Q (.bool !o.isSome) s'):W8 5#0 A (WC .NotIn u (.ref a)) Q E s:=by
 rcases g with⟨ao,k,e,ey,l⟩|⟨ao,k,b,e,ey,eb,l⟩;.subst ey;obtain⟨z,hd,vs,rel,dd⟩:=oY I.aB e;refine wpAny_notIn_of (nC ry) hd dd.mapOf ?_;rw[<-(rel.val k).r8,<-l];exact h _ (I.tok _)
 .subst ey;cases show u=Value.ref b from ry;obtain⟨z,hd,xs,rel,dd⟩:=vE I.aB e;refine wpAny_notIn_heap (tupleKind_room_in1 hu) (r9 I.aB eb) hd dd ?_;have q:=(rel.val k).r8;rw[Uf]at q;rw[<-q,<-l];exact h _ (I.tok _)
theorem vF(I:Inv X pins Z H s)(mu:oI (H a))(hs:U3 a s.heap h')(he:∃q,h'.get? a=some q)(new:aZ X.prog X.w (upd H a ob) h' a ob):Inv X pins Z (upd H a ob) {s with heap:=h',toks:=t'}:=I.write (x:=a) (e:=a) mu (.inl rfl) (λb q hb z=>(hs.2 b hb).trans z) he new
theorem LX{vs}(z:ao.length<=W7)(hd:(a==QC)=false)(rel:KV ao vs)(dd:h'.DictOf (fg P w) a vs):aZ P w H' h' a (.dK ao):=⟨z,hd,vs,rel,dd⟩
end
section
variable{a:Addr}{ao:List (Key×V)}{k:Key}
theorem LY(I:Inv X pins Z H s)(e:Rd H a (.dK ao))(h:∀t s',Inv X pins Z H s'->Q (.int ao.length t) s'):W8 5#0 A (call (.builtin "len") [.ref a]) Q E s:=by obtain⟨z,hd,vs,rel,dd⟩:=oY I.aB e;refine call_len_dict hd dd (by rw[<-rel.length];rw[Qi]at z;lia) ?_;rw[<-rel.length];exact h _ _ (I.tok _)
end
theorem Bx(h:Heap)(hb:QC<h.objs.size):aZ P w H (h.push {cls:=.type "dict",data:=.dict #[]}) h.objs.size (.dK []):=⟨Q2 _,beq_eq_false_iff_ne.mpr (Ne.symm (Qd hb)),[],.nil,Heap.DictOf.new h⟩
def LZ:TE:=λj H Q=>∀p,H p=none->Q (.ref p) (upd H p (.dK []))
theorem L4:PE X (.Dict [] [] pos) LZ:=λpins s Z H Q I h=>wpAny_Dict_empty ⟨.ref s.heap.objs.size,_,I.laid (a:=s.heap.objs.size) (o:=.dK []) (t':=s.toks) (λj j q=>W6 _ q) (W5 _) (Bx s.heap I.big),rfl,h _ (I.aB.fresh (W5 _))⟩
section
open PySem.W PySem.Calls
theorem L5{P}:∀(ns:List Int)(vs:List Value),WellAll P h vs (ns.map WData.int)->IntsAre vs ns:=by intro ns;induction ns with|nil=>intro vs w;rw[List.map_nil]at w;cases w;exact .nil|cons n ns ih=>intro vs w;rw[Wj]at w;cases w with|cons a b=>cases a;exact .cons _ _ (ih _ b)
theorem L6{l:OpenLaw}(hn:l.most=some n){P:Params}{h:Heap}{args:List WData}{vals:List Value}(r_:l.row.toRowW.claim.pre args=true)(vG:WellAll P h vals args):∃a vs ns,vals=[Value.ref a]/\args=[WData.list (ns.map WData.int)]/\h.get? a=some {cls:=.type "list",data:=.seq vs.toArray}/\IntsAre vs ns/\ns.length<=n:=by
 have L8:WShape.hasAll [] args [.list .int]=true:=(pre_splitW r_).1;have hc:l.pre.holds [] {args:=args}=true:=(pre_splitW r_).2;obtain⟨d,r,rfl,h1,h2⟩:=hasAllW_cons L8;obtain rfl:=hasAllW_nil h2;obtain⟨xs,rfl,h3⟩:=hasW_list h1;obtain⟨ns,rfl⟩:=items_int h3;have hlen:ns.length<=n:=by
  unfold OpenLaw.pre at hc;have h4:(WTm.not (.lt (.lit (.int (n:Int))) (.len (.arg 0)))).holds [] {args:=[.list (ns.map .int)]}=true:=by have h4:=(holds_andW hc).1;rw[hn]at h4;exact h4
  have h5:=condW_of h4 (w_not (w_lt w_lit (w_len_list (w_arg rfl))));rw[Wq]at h5;refine Nat.le_of_not_lt λq=>?_;have q':(n:Int)<((ns.length:Nat):Int):=by lia
  first|(rw[decide_eq_true q']at h5;exact absurd h5 Z')|(simp at h5;lia)
 cases vG with|cons w1 w2=>cases w2;cases w1 with|list ho vH=>exact⟨_,_,ns,rfl,rfl,ho,L5 ns _ vH,hlen⟩
theorem L9(l:OpenLaw)(args:List WData):l.row.toRowW.claim.post args (.bool true) args=true:=postW_of (r:=l.row.toRowW) (X:=true==true) (show WShape.has [] (.bool true) .bool=true by first|rfl|decide|simp[WShape.has,WShape.arms,WShape.armsAll]) (show(WTm.eq .res (.lit (.bool true))).value [] {args:=args,res:=some (.bool true),after:=args}=some (.bool (true==true))from w_eq_bool (w_res rfl) w_lit) rfl
theorem L_{l:OpenLaw}{q:Wk}{d:DefRec}(hn:l.most=some n)(oZ:d.params.defaults=[])(call:∀(w:Wx)(s₀ s₁:W1)(mg mb:Str->Option Value)(fa:Addr)(o:Obj)(pm cd doc:Value)(a:Addr)(vs:List Value)(ns:List Int),Ground q loose [] XP w s₀ mg mb s₁.heap->YP w s₁.heap->s₁.heap.get? fa=some o->o.data=.func (docDef d.name d.params d.body d.scope pm cd doc)->s₁.heap.CodeRec cd d.name->mg d.name=some (.ref fa)->s₁.heap.get? a=some {cls:=.type "list",data:=.seq vs.toArray}->IntsAre vs ns->ns.length<=n->s₁.gens=#[]->J4 (model l.prog w) callerA (.call (.ref fa) ⟨[.ref a],[]⟩) (λr s'=>r=.ok (.ret (.bool true))/\OldK s₁.heap s'.heap/\s'.os=s₁.os/\AllBare s'.gens) s₁):WalkO q loose XP YP l.row.toRowW d [] λf vs=>PySem.call f vs:=by intro w s₀ s₁ mg mb G W' fa o pm cd doc dV kV ho hd dA hD o_ hg args vals as r_ hlay hrd vG pe;obtain rfl:dV=.none:=Dflts.none hD oZ;obtain rfl:kV=.none:=Dflts.noKw hD;obtain⟨a,vs,ns,rfl,rfl,vI,hints,hlen⟩:=L6 hn r_ vG;refine enter_call (U4 (call w s₀ s₁ mg mb fa o pm cd doc a vs ns G W' ho (fd_plain hd) dA o_ vI hints hlen hg) λr s' hq=>?_);obtain⟨rfl,h2,h3,h4⟩:=hq;exact⟨.inl ⟨.bool true,.bool true,[],rfl,λj=>rfl,.bool true,L9 l _,λj=>⟨List.Pairwise.nil,λj hm=>nomatch hm⟩⟩,h2,h3,h4⟩
end
theorem nD{vs:List Value}{ns:List Int}(h:IntsAre vs ns):Vals (ns.map V.int) vs:=by induction h with|nil=>exact .nil|cons n t h ih=>exact .cons ⟨t,rfl⟩ ih
def vJ(H:Hp):Prop:=∀b,H b=none\/∃o xs,H b=some (.frz o (.lst xs))
theorem Ma{P:Wk}{w:Wx}{CX:iw}{k:Nat}{fa a:Addr}{fd:Q0}{x:Str}{sp:Sp}{s₁:W1}{vs:List Value}{ns:List Int}(KX:K.In s₁.heap)(By:s₁.heap.Ns Wr mg)(hb:s₁.heap.Ns builtinsNs mb)(vK:∀x:Str,x≠"__name__"->mb x=QH x)(Mb:s₁.heap.NoLimit)(hg:s₁.gens=#[])(ha:s₁.heap.get? a=some {cls:=.type "list",data:=.seq vs.toArray})(hi:IntsAre vs ns)(hl:ns.length<=W7)(hr:cj k callerA)(F:∀base:Heap,K.In base->base.Ns Wr mg->eO P w K mg base CX k fa fd [x] sp)(Mc:∀(s:W1)(u:Value),BindsTo s fd ⟨[u],[]⟩ [(x,u)])(iX:∀H:Hp,vJ H->bN K H a (ns.map V.int)->sp [.ref a] H (λv j=>v=.bl true) λj j j=>False)(vL:∀H e s',CX [] H s₁ (λj j j=>False) e s'->False):J4 (model P w) callerA (.call (.ref fa) ⟨[.ref a],[]⟩) (λr s'=>r=.ok (.ret (.bool true))/\OldK s₁.heap s'.heap/\s'.os=s₁.os/\AllBare s'.gens) s₁:=by
 have rv:=nD hi;have Md:=hi.length;have core:∀H:Hp,vJ H->bN K H a (ns.map V.int)->ck P w H s₁.heap->(∀b,H b≠none->b=a)->(H a≠none->K.lookup a=none)->J4 (model P w) callerA (.call (.ref fa) ⟨[.ref a],[]⟩) (λr s'=>r=.ok (.ret (.bool true))/\OldK s₁.heap s'.heap/\s'.os=s₁.os/\AllBare s'.gens) s₁:=by
  intro H hO hS aB hA hK;have Bz:∀{b:Addr}{o:Obj},s₁.heap.get? b=some o->H b=none->(jQ s₁.heap H).get? b=some o:=λe n=>IA e n;have oQ:∀{b:Addr}{o:Obj}{es:Array DictEntry}{ep:Nat},s₁.heap.get? b=some o->o.data=.dict es ep->H b=none:=λ{b o es ep}e d=>by grind
  have sd:∀{b:Addr}{m:Str->Option Value},s₁.heap.Ns b m->(jQ s₁.heap H).Ns b m:=λ{b m}⟨o,es,ep,e,d,r⟩=>⟨o,es,ep,Bz e (oQ e d),d,r⟩;have BA:K.In (jQ s₁.heap H):=λb o e=>Bz (KX b o e) (by grind);have hM:Mod K mg (jQ s₁.heap H):=⟨BA,sd By,⟨mb,sd hb,vK⟩,let⟨mc,h1,h2⟩:=Mb;⟨mc,sd h1,h2⟩⟩;have e0:jU P w K mg (jQ s₁.heap H) callerA [] s₁ H:=⟨rfl,hM,λb o e=>IB e,Nat.le_of_eq (Iz _ _),trivial,λb hb=>absurd (show b∈([]:List Addr)from hb) Zw,aB,.of_eq hg⟩;refine U4 ((F _ BA (sd By)).run callerA [] s₁ H ⟨[.ref a],[]⟩ [.ref a] [.ref a] _ _ hr e0 (Mc s₁ (.ref a)) (.cons rfl .nil) (iX H hO hS)) λr s' h=>?_;cases r with|error e=>exact(vL H e s' h).elim|ok fl=>cases fl with|next=>exact False.elim h|brk=>exact False.elim h|cont=>exact False.elim h|ret u=>obtain⟨v,H',os,bare,un,hok',r',q⟩:=h;have q':v=.bl true:=q;subst q';obtain rfl:u=Value.bool true:=r';refine⟨rfl,OldK.of_keep λb o e=>?_,os,bare⟩;cases q:H b with|none=>exact un.keep b o e q (by intro z;exact absurd (show b∈([]:List Addr)from z) Zw) Zw|some u=>
     rcases hO b with z|⟨ob,xs,z⟩;.grind
     .have z2:=un.gN b ob _ z;obtain⟨e1,_⟩:=aB b _ z;obtain⟨e2,_⟩:=hok' b _ z2;grind
 cases hk:K.lookup a with|some o=>have e:=KX a o hk;rw[ha]at e;cases e;refine core (λj=>none) (λj=>.inl rfl) (.inr ⟨_,vs.toArray,_,hk,rfl,rfl,rfl,%[We,Md|hl],~~~rv⟩) λb u z=>by grind (by grind) λz=>absurd rfl z|none=>
  refine core (λb=>if b=a then some (.frz {cls:=.type "list",data:=.seq vs.toArray} (.lst (ns.map V.int)))else none) (λb=>?_) (.inl (.inr ⟨{cls:=.type "list",data:=.seq vs.toArray},if_pos rfl⟩)) (λb u z=>?_) (λb z=>?_) λj=>hk
  .by_cases hb:b=a;.exact .inr ⟨_,_,if_pos hb⟩
   .exact .inl (if_neg hb)
  .by_cases hb:b=a;.have z':=(if_pos hb).symm.trans z;cases z';subst hb;exact⟨ha,%[Wq|hl],vs,_,rv,ha⟩
   grind
  .by_cases hb:b=a;.exact hb
   .exact absurd (if_neg hb) z
theorem Me{l:PySem.W.OpenLaw}{k:Nat}{q:Wk}{d:DefRec}{K:Params->W2}{CX:Wx->iw}{sp:Wx->Sp}{x:Str}(hn:l.most=some n)(mh:n<=W7)(oZ:d.params.defaults=[])(hr:cj k callerA)(hY:∀(w:Wx)(h:Heap),YP w h->(K w.params).In h)(F:∀(w:Wx)(mg:Str->Option Value)(fa:Addr)(h:Heap),(K w.params).In h->h.Ns Wr mg->mg d.name=some (.ref fa)->∃fd:Q0,(∀(s:W1)(u:Value),BindsTo s fd ⟨[u],[]⟩ [(x,u)])/\∀base:Heap,(K w.params).In base->base.Ns Wr mg->eO l.prog w (K w.params) mg base (CX w) k fa fd [x] (sp w))(iX:∀(w:Wx)(H:Hp)(a:Addr)(ns:List Int),ns.length<=n->vJ H->bN (K w.params) H a (ns.map V.int)->sp w [.ref a] H (λv j=>v=.bl true) λj j j=>False)(vL:∀(w:Wx)(H:Hp)(s:W1)(e:Value)(s':W1),CX w [] H s (λj j j=>False) e s'->False):PySem.W.WalkO q loose XP YP l.row.toRowW d [] λf vs=>PySem.call f vs:=by refine L_ hn oZ λw s₀ s₁ mg mb fa o pm cd doc a vs ns G W' ho hd dA o_ vI hints hlen hg=>?_;have KX:=hY w _ W';obtain⟨fd,hb,hF⟩:=F w mg fa _ KX G.T.g o_;exact Ma KX G.T.g G.T.b G.T.builtins G.T.nolimit hg vI hints (WF hlen mh) hr hF hb (λH hO hS=>iX w H a ns hlen hO hS) λH e s'=>vL w H s₁ e s'
def jY(s:Stmt):Arguments:=match s with|.FunctionDef _ a _ _ _ _ _ _ _ _=>a|_=>{posonlyargs:=[],args:=[],vararg:=none,kwonlyargs:=[],kw_defaults:=[],kwarg:=none,defaults:=[]}
def eR(s:Stmt):List Stmt:=match s with|.FunctionDef _ _ b _ _ _ _ _ _ _=>b|_=>[]
def bG(s:Stmt):Scope:=match s with|.FunctionDef _ _ _ _ _ _ sc _ _ _=>sc|_=>{kind:=.function,names:=[],isGenerator:=false,isCoroutine:=false}
abbrev di:iw:=λj j j j j j=>False
abbrev E0:XK:=λj j j=>False
theorem Mf:vm di X E0:=λj j j j j j j h=>h.elim
structure dM(K:W2)(x qual:Str)(st:Stmt)(f:Addr)(fd:Q0):Prop where
 ex:∃(oc:Value)(od:Option Addr)(kV doc pm:Value)(an:Option Addr)(aQ ct:Value)(ju:Array (Option Value)),fd=QL x qual (jY st) (eR st) (bG st) .none kV doc pm an aQ ct/\K.lookup f=some ⟨oc,od,.func fd,ju⟩/\PySem.W.codeIn K aQ qual=true
 kp:QQ K (.ref f)=true
theorem dM.ok{x:Str}{st:Stmt}{N:List Str}{k:Nat}(F:dM K x qual st f fd)(S:fA N ps (bG st))(len:∀vs H Q E,sp vs H Q E->vs.length=ps.length)(dC:∀(aQ:Value)(A:Wp)(outer:List Env)(s:W1)(H:Hp)(vs:List V)(Q:VK)(E:XK),cj k (A.deeper (Ji qual (bG st) s.heap.objs.size f aQ))->sp vs H Q E->∃t,c_ (eQ di P w K mg base N qual (bG st) f aQ A outer s H E).iV (eR st) t/\t {nx:=λj H'=>Q .aI H',rt:=Q} (start N vs) H):eO P w K mg base di (k+1) f fd ps sp:=by obtain⟨oc,od,kV,doc,pm,an,aQ,ct,ju,rfl,lk,dA⟩:=F.ex;refine A8 lk dA S len λA outer s H vs Q E hr iX=>?_;obtain⟨t,h,q⟩:=dC aQ A outer s H vs Q E hr iX;exact⟨t,h.iV,q⟩
theorem dM.binds{x:Str}{st:Stmt}(F:dM K x qual st f fd)(h:∀(kV doc pm:Value)(an:Option Addr)(aQ ct:Value)(us:List Value),us.length=ps.length->bindArgs (QL x qual (jY st) (eR st) (bG st) .none kV doc pm an aQ ct) ⟨us,[]⟩=pure (ps.zip us)):Binds K fd ps []:=by obtain⟨oc,od,kV,doc,pm,an,aQ,ct,ju,rfl,lk,dA⟩:=F.ex;exact .all (h kV doc pm an aQ ct)
theorem vM{x:Str}{st:Stmt}{od:Option Addr}{kV:Value}(l:K.lookup f=some ⟨oc,od,.func (QL x qual (jY st) (eR st) (bG st) .none kV doc pm an aQ ct),ju⟩)(c:PySem.W.codeIn K aQ qual=true)(k:QQ K (.ref f)=true):dM K x qual st f (QL x qual (jY st) (eR st) (bG st) .none kV doc pm an aQ ct):=⟨⟨oc,od,kV,doc,pm,an,aQ,ct,ju,rfl,l,c⟩,k⟩
theorem Mg(h:n<=1000):n<W7:=Nat.lt_of_le_of_lt h Z'
theorem pv(i:Nat)(hN:X.N[i]?=some x:=by rfl)(hv:rC X.env.scope x:=by first|exact Or.inl rfl|exact Or.inr (Or.inl rfl)|exact Or.inr (Or.inr rfl))(hd:(x==("__debug__":Str))=false:=by decide)(dA:(x==("__classdict__":Str))=false:=by decide):PE X (.Name x pos) (dz i):=IG hN hv hd dA
theorem Mh:cN X (.builtin "len") λxs H Q=>∃a ao,xs=[V.ref a]/\H a=some (.dK ao)/\Q (.int ao.length) H:=by intro pins s Z H xs us Q I r h;obtain⟨a,ao,rfl,ha,q⟩:=h;obtain⟨u,rfl,ru⟩:=eN r;cases ru;exact LY I (.inl ha) λt s' I'=>⟨.int ao.length,H,I',⟨t,rfl⟩,q⟩
def fE(cells:List (Str×Addr)):List (Str×NameKind)->List (Str×Addr)->List (Str×Addr)|[],acc=>acc|(n,k)::r,acc=>fE cells r (if k==.free then match cells.lookup n with|some a=>(n,a)::acc|none=>acc else acc)
theorem vN(f:Str×NameKind->List (Str×Addr)->Sem (ForInStep (List (Str×Addr))))(hf:∀name kind cs,f (name,kind) cs=if kind==.free then do let a<-cellOf env name;pure (.yield ((name,a)::cs))else pure (.yield cs)):∀(names:List (Str×NameKind))(acc:List (Str×Addr)),(∀x∈names,x.2=NameKind.free->∃c,env.cells.lookup x.1=some c)->(forIn names acc f:Sem (List (Str×Addr)))=pure (fE env.cells names acc)
 |[],acc,_=>by rw[List.forIn_nil];rfl|(n,k)::r,acc,h=>by
  rw[List.forIn_cons,hf];unfold fE;by_cases hk:(k==NameKind.free)=true
  .obtain⟨c,hc⟩:=h (n,k) WA (~~~hk);have jt:env.cells.lookup n=some c:=hc;have e:cellOf env n=pure c:=by unfold cellOf;rw[jt]
   rw[if_pos hk,if_pos hk,e,jt];exact vN f hf r _ λx hx=>h x (Wh _ hx)
  .rw[if_neg hk,if_neg hk];exact vN f hf r _ λx hx=>h x (Wh _ hx)
theorem BB(h:∀x∈scope.names,x.2=NameKind.free->∃c,env.cells.lookup x.1=some c):closureFor scope env=pure (fE env.cells scope.names []):=by unfold closureFor;dsimp only;rw[vN (env:=env) _ λname kind cs=>by all_goals grind scope.names [] h];rfl
theorem BC{n}:∀(names:List (Str×NameKind))(acc:List (Str×Addr)),(n,c)∈fE cells names acc->(n,c)∈acc\/(n,NameKind.free)∈names/\cells.lookup n=some c|[],acc,h=>.inl h|(y,k)::r,acc,h=>by unfold fE at h;rcases BC r _ h with q|⟨q,e⟩;all_goals grind
theorem BF{n}:∀(names:List (Str×NameKind))(acc:List (Str×Addr)),(acc.lookup n).isSome=true\/(n,NameKind.free)∈names/\(cells.lookup n).isSome=true->((fE cells names acc).lookup n).isSome=true
 |[],acc,h=>h.elim id (by grind)|(y,k)::r,acc,h=>by
  unfold fE;apply BF r;by_cases hk:(k==NameKind.free)=true;.rw[if_pos hk];cases e:cells.lookup y with
 |none=>
    rcases h with h|⟨h1,h2⟩;.exact .inl h
    .rcases Wi.mp h1 with z|z;.cases z;rw[e]at h2;cases h2
     .exact .inr ⟨z,h2⟩|some a=>
    by_cases hn:(n==y)=true;.refine .inl ?_;show(List.lookup n ((y,a)::acc)).isSome=true;rw[Qn,hn];rfl
    .rcases h with h|⟨h1,h2⟩;.refine .inl ?_;show(List.lookup n ((y,a)::acc)).isSome=true;have iT:(n==y)=false:= ~~~hn;rw[Qn,iT];exact h
     .rcases Wi.mp h1 with z|z;.cases z;exact absurd Zw hn
      .exact .inr ⟨z,h2⟩
  .rw[if_neg hk];rcases h with h|⟨h1,h2⟩;.exact .inl h
   .rcases Wi.mp h1 with z|z;.cases z;exact absurd rfl hk
    .exact .inr ⟨z,h2⟩
theorem vO{n}:∀(names:List (Str×NameKind))(h:Heap)(acc:List (Str×Addr)),(n,c)∈QK h.objs.size names acc->(n,c)∈acc\/(n,NameKind.cell)∈names/\h.objs.size<=c/\(U5 h names).IsCell c none
 |[],_,_,h=>.inl h|(y,k)::r,h,acc,hm=>by
  unfold QK at hm;unfold U5;by_cases hk:(k==NameKind.cell)=true
  .rw[if_pos hk]at hm;rw[if_pos hk];have iZ:k=NameKind.cell:= ~~~hk;have sz:(h.push {cls:=.type "cell",data:=.cell none}).objs.size=h.objs.size+1:=Heap.size_push ..;rw[<-sz]at hm;rcases vO r _ _ hm with q|⟨q1,q2,q3⟩
   .rcases Wi.mp q with z|z;.cases z;refine .inr ⟨%[iZ|WA],W5 _,?_⟩;exact Heap.IsCell.keeps ⟨_,Wv _ rfl,rfl⟩ (pushCells_keeps r _)
    .exact .inl z
   .exact .inr ⟨Wh _ q1,by rw[sz]at q2;lia,q3⟩
  .rw[if_neg hk]at hm;rw[if_neg hk];rcases vO r _ _ hm with q|⟨q1,q2,q3⟩;.exact .inl q
   .exact .inr ⟨Wh _ q1,q2,q3⟩
theorem vP:∀(names:List (Str×NameKind))(k:Nat)(acc:List (Str×Addr)),(∀n n' c,(n,c)∈acc->(n',c)∈acc->n=n')->(∀n c,(n,c)∈acc->c<k)->∀n n' c,(n,c)∈QK k names acc->(n',c)∈QK k names acc->n=n'
 |[],_,_,h,_=>h|(y,kd)::r,k,acc,h,hb=>by
  unfold QK;by_cases hk:(kd==NameKind.cell)=true;.rw[if_pos hk];refine vP r (k+1) _ (λn n' c h1 h2=>?_) λn c hm=>?_;all_goals grind
  .rw[if_neg hk];exact vP r k acc h hb
theorem mi{env:Env}{x:Str}:∀{names:List (Str×NameKind)}{k:NameKind},(names.map λ(y:Str×NameKind)=>if y.2==NameKind.free&&env.scope.kind==.function&&env.kindOf y.1==some .cell then(y.1,NameKind.cell)else(y.1,y.2)).lookup x=some k->names.lookup x=some k\/k=NameKind.cell/\names.lookup x=some .free
 |[],_,h=>by simp at h|(n,kd)::r,k,h=>by
  rw[Wj]at h;have ih:=@mi env x r k;cases hx:x==n with|true=>
 by_cases hc:(kd==NameKind.free&&env.scope.kind==.function&&env.kindOf n==some .cell)=true;.rw[if_pos hc,Qn,hx]at h;cases h;simp only[Wn]at hc;have:kd=NameKind.free:= ~~~hc.1.1;exact .inr ⟨rfl,by rw[Qn,hx,this]⟩
 .rw[if_neg hc,Qn,hx]at h;cases h;exact .inl (by rw[Qn,hx])|false=>
   have h':(r.map λ(y:Str×NameKind)=>if y.2==NameKind.free&&env.scope.kind==.function&&env.kindOf y.1==some .cell then(y.1,NameKind.cell)else(y.1,y.2)).lookup x=some k:=by
    by_cases hc:(kd==NameKind.free&&env.scope.kind==.function&&env.kindOf n==some .cell)=true;.rw[if_pos hc,Qn,hx]at h;exact h
    .rw[if_neg hc,Qn,hx]at h;exact h
   rw[Qn,hx];exact ih h'
def eS(X:Cx)(scope:Scope)(s₀:W1)(H₀:Hp)(ex:List Addr):Cx:={X with
 env:={scope:=relabel scope X.env,locals:=s₀.heap.objs.size,globals:=X.env.globals,cells:=QK (s₀.heap.objs.size+1) scope.names (fE X.env.cells scope.names []),qual:=X.env.qual,func:=none,code:=X.env.code,frame:=X.env.frame,builtins:=X.env.builtins}
 s₀:=s₀
 H₀:=H₀
 outer:=X.stack
 ex:=ex
 fn:=λx=>scope.names.lookup x==some .cell
 pn:=[]
 xe:=λj j=>False}
structure mj(X:Cx)(scope:Scope)(cs:List Nat):Prop where
 kind:scope.kind=.function
 names:∀x∈scope.names,x.2=.local->scope.names.lookup x.1=some .local
 free:∀x∈scope.names,x.2=.free->X.env.kindOf x.1=some .cell\/X.env.kindOf x.1=some .free
 nd:(scope.names.map (·.1)).Nodup
 own:∀(i:Nat)x,X.N[i]?=some x->scope.names.lookup x=some .local\/scope.names.lookup x=some .cell->i∈cs
def bB(cs:List Nat)(Z:St):St:=cs.foldl (λZ i=>Z.set i none) Z
theorem se(cs:List Nat):∀Z:St,(bB cs Z).length=Z.length:=by induction cs with|nil=>intro Z;rfl|cons i r ih=>intro Z;show(bB r (Z.set i none)).length=_;rw[ih];simp
theorem kW:∀(cs:List Nat)(Z:St)(i:Nat)(v:V),(bB cs Z)[i]?=some (some v)->Z[i]?=some (some v)/\i∉cs:=by intro cs;induction cs with|nil=>intro Z i v h;exact⟨h,Zw⟩|cons j r ih=>
 intro Z i v h;have h':(bB r (Z.set j none))[i]?=some (some v):=h;obtain⟨h1,h2⟩:=ih _ i v h';by_cases e:j=i;.subst e;rw[Q6]at h1;simp at h1
 .rw[Wc e]at h1;exact⟨h1,by simp only[Wi,not_or];exact⟨Ne.symm e,h2⟩⟩
theorem vQ:∀{l:List (Str×α)},(l.map (·.1)).Nodup->(x,k)∈l->(x,k')∈l->k=k'
 |(y,j)::r,nd,h1,h2=>by
  rw[Wj,List.nodup_cons]at nd;rcases Wi.mp h1 with e|g1<;>rcases Wi.mp h2 with e'|g2;.grind
  .grind
  .grind
  .exact vQ nd.2 g1 g2
theorem Mi(I:Inv X pins Z H s)(S:mj X scope cs)(hf:∀b∈fp,f9 X pins H b)(bz:∀b∈fp,b<s.heap.objs.size):Inv (eS X scope s H fp) [] (bB cs Z) H 9#(U5 (s.heap.push {cls:=.type "dict",data:=.dict #[]}) scope.names):=by
 have sz:(s.heap.push {cls:=.type "dict",data:=.dict #[]}).objs.size=s.heap.objs.size+1:=Heap.size_push ..;have kp:∀b o,s.heap.get? b=some o->(U5 (s.heap.push {cls:=.type "dict",data:=.dict #[]}) scope.names).get? b=some o:=λb o e=>pushCells_keeps _ _ b o (W6 _ e);have sg:∀n c,(n,c)∈fE X.env.cells scope.names []->(n,NameKind.free)∈scope.names/\X.env.cells.lookup n=some c:=λn c h=>(BC _ _ h).elim (by grind) id;have Mj:∀n c,(n,c)∈fE X.env.cells scope.names []->c<s.heap.objs.size:=λn c h=>by obtain⟨v,q⟩:=I.cell n c (sg n c h).2;exact q.lt
 have jw:∀n c,(n,c)∈QK (s.heap.objs.size+1) scope.names (fE X.env.cells scope.names [])->(n,NameKind.free)∈scope.names/\X.env.cells.lookup n=some c\/(n,NameKind.cell)∈scope.names/\s.heap.objs.size+1<=c/\(U5 (s.heap.push {cls:=.type "dict",data:=.dict #[]}) scope.names).IsCell c none:=λn c h=>by
  rw[<-sz]at h;rcases vO _ _ _ h with q|q;.exact .inl (sg n c q)
  .rw[sz]at q;exact .inr q
 have Mk:=vP scope.names (s.heap.objs.size+1) (fE X.env.cells scope.names []) (λn n' c h1 h2=>I.ok.inj n n' c (sg n c h1).2 (sg n' c h2).2) λn c h=>Nat.lt_succ_of_lt (Mj n c h);have pf:∀x∈scope.names,x.2=.free->∃c,X.env.cells.lookup x.1=some c:=λx hx hk=>I.ok.has x.1 (S.free x hx hk);have Ml:∀b∈fp,b∉eG X.stack:=λb hb z=>by
  obtain⟨_,f1,f2,_⟩:=hf b hb;rcases Wi.mp (I.rD b z)with e|e;.exact f1 e
  .exact f2 e
 have Mm:∀x,(eS X scope s H fp).env.kindOf x=some .cell\/(eS X scope s H fp).env.kindOf x=some .free->scope.names.lookup x=some .cell\/scope.names.lookup x=some .free:=λx h=>by
  rcases h with h|h
  .have h':(relabel scope X.env).names.lookup x=some .cell:=h;rcases mi (env:=X.env) (names:=scope.names) h' with q|⟨_,q⟩;.exact .inl q
   .exact .inr q
  .have h':(relabel scope X.env).names.lookup x=some .free:=h;rcases mi (env:=X.env) (names:=scope.names) h' with q|⟨q,_⟩;.exact .inr q
   .cases q
 have BG:∀x,scope.names.lookup x=some .cell\/scope.names.lookup x=some .free->∃c,(QK (s.heap.objs.size+1) scope.names (fE X.env.cells scope.names [])).lookup x=some c:=λx h=>by
  refine Qr.mp (JG scope.names _ _ ?_);rcases h with h|h;.exact .inl h
  .refine .inr (BF _ _ (.inr ⟨WI h,?_⟩));obtain⟨c,hc⟩:=pf _ (WI h) rfl;grind
 have Mn:(U5 (s.heap.push {cls:=.type "dict",data:=.dict #[]}) scope.names).Ns s.heap.objs.size λj=>none:=(Heap.Ns.new s.heap (.type "dict")).keeps (pushCells_keeps _ _);refine⟨⟨I.ok.mod,S.kind,I.ok.glob,I.ok.blt,W5 _,λy z c h1 h2=>Mk y z c (WI h1) (WI h2),λx hx=>BG x (Mm x hx),λx c iU h=>?_,I.ok.hd,I.ok.frames,.inl rfl,λb hb=>⟨Qd (bz b hb),λx c h e=>?_⟩,I.bs,WF I.ok.ir I.sz,λb o e hb=>?_,Ml,I.stack,I.rE⟩,rfl,I.bare,Un.kept kp,⟨λj=>none,Mn,λi x v h1 h2 h3=>?_⟩,λx c h=>?_,I.aB.fresh (W5 _),λx c h=>?_,λp hp=>absurd (show p∈([]:List (Addr×Obj))from hp) Zw,I.aB.kept kp,(se cs Z).trans I.len⟩
 .rcases jw x c (WI h)with q|q
  .have Mo:scope.names.lookup x=some .cell:=by have:(scope.names.lookup x==some .cell)=true:=iU;exact eq_of_beq this
   have:=vQ S.nd q.1 (WI Mo);cases this
  .exact Nat.le_of_succ_le q.2.1
 .subst e;rcases jw x c (WI h)with q|q;.exact(hf c hb).2.2.2.2.1 x c q.2 rfl
  .exact absurd (WG (bz c hb) (Nat.le_of_succ_le q.2.1)) (QO _)
 .obtain⟨_,_,_,f3,_⟩:=hf b hb;rcases f3 with z|z;.exact I.ok.kI b o e z
  .exact absurd (WG (Wm (I.ok.bs b o e).1) z) (QO _)
 .obtain⟨h2',hni⟩:=kW cs Z i v h2;have Mp:¬(scope.names.lookup x=some .local\/scope.names.lookup x=some .cell):=λz=>hni (S.own i x h1 z);have rH:scope.names.lookup x=some .free:=by
   rcases h3 with h3|h3|h3;.rcases mi (env:=X.env) (names:=scope.names) h3 with q|⟨q,_⟩;all_goals grind
   .rcases mi (env:=X.env) (names:=scope.names) h3 with q|⟨_,q⟩;.exact absurd (.inr q) Mp
    .exact q
   .rcases mi (env:=X.env) (names:=scope.names) h3 with q|⟨q,_⟩;.exact q
    .cases q
  have hk:=S.free _ (WI rH) rfl;obtain⟨m,hn,hl⟩:=I.loc;have Mq:rC X.env.scope x:=by
   rcases hk with hk|hk;.exact .inr (.inl hk)
   .exact .inr (.inr hk)
  obtain⟨u,r,l⟩:=hl i x v h1 h2' Mq;refine⟨u,r,?_⟩;rcases l with⟨k,_⟩|⟨_,c,hc,hcell⟩;.grind
  .obtain⟨c',jt⟩:=BG x (.inr rH);have e:c'=c:=by
    rcases jw x c' (WI jt)with q|q;.have q2:=q.2;rw[hc]at q2;exact(WS q2).symm
    .have:=vQ S.nd q.1 (WI rH);cases this
   subst e;refine .inr ⟨?_,c',jt,hcell.keeps kp⟩;rcases h3 with h3|h3|h3;.rcases mi (env:=X.env) (names:=scope.names) h3 with q|⟨q,_⟩;all_goals grind
   .exact .inl h3
   .exact .inr h3
 .rcases jw x c (WI h)with q|q;.obtain⟨v,z⟩:=I.cell x c q.2;exact⟨v,z.keeps kp⟩
  .exact⟨none,q.2.2⟩
 .rcases jw x c (WI h)with q|q;.exact I.dW x c q.2
  .exact I.aB.fresh (Nat.le_of_succ_le q.2.1)
abbrev jZ:Value->W1->Prop:=λj j=>False
def BH(ifs:List Expr)(env:Env):Sem Bool:=forIn ifs true λc r=>if r=true then do let ok<-isTrue c env (eval c env);pure (ForInStep.yield ok)else pure (ForInStep.yield r)
theorem Mr{it}(I:Nat->W1->Prop)(turn:∀n s,I n s->W8 4#0 A (JE it) (λr s₁=>match r with|none=>R (.ok .next) s₁|some v=>W8 4#0 A (letOwnedTupleGo target it v) (λj BI=>W8 4#0 A (assign target env v) (λj s₂=>W8 4#0 A (BH ifs env) (λok s₃=>if ok=true then W8 4#0 A (eval elt env) (λx s₄=>W8 4#0 A (call (.builtin "list.append") [acc,x]) (λj s₅=>∃m,m<n/\I m s₅) jZ s₄) jZ s₃ else∃m,m<n/\I m s₃) jZ s₂) jZ BI) jZ s₁) jZ s)(n:Nat)(h:I n s):J4 4#0 A (.compLoop (.ListComp elt [⟨target,iter,ifs,0⟩] scope pos) 0 it acc env) R s:=by refine codeAny_loop rfl I (λn s hI=>?_) n h;show W8 _ A ((compTurn (.ListComp elt [⟨target,iter,ifs,0⟩] scope pos) 0 it acc env).onRaise λx=>do U6 x env;theTreesLotGoes x) _ _ s;refine wpAny_noted ?_;rw[compTurn_list];refine W0 (wpAny_standAt (W0 (Q7 (turn n s hI) (λr s₁ h₁=>?_) (by grind))));cases r with|none=>exact W3 h₁|some v=>refine W0 (Q7 h₁ (λj BI Ms=>?_) (by grind));refine W0 (Q7 Ms (λj s₂ h₂=>W0 (Q7 h₂ (λok s₃ h₃=>?_) (by grind))) (by grind));cases ok with|false=>exact W3 ⟨rfl,h₃⟩|true=>exact W0 (W0 (Q7 h₃ (λx s₄ h₄=>W0 (Q7 h₄ (λj s₅ h₅=>W3 (W3 ⟨rfl,h₅⟩)) (by grind))) (by grind)))
theorem Mt(h:Q {scope,locals:=s.heap.objs.size,globals,cells:=QK (s.heap.objs.size+1) scope.names cl,qual,func:=none,code:=env.code,frame:=env.frame,builtins:=env.builtins} 9#(U5 (s.heap.push {cls:=.type "dict",data:=.dict #[]}) scope.names)):W8 M A (newFunctionEnv scope globals cl [] qual none .none (some env)) Q E s:=by simp only[newFunctionEnv,Option.isSome_some,if_true];refine W0 (wpAny_alloc ?_);refine W0 (wpAny_layCells _ λname kind cells=>by all_goals grind _ _ _ _ ?_);rw[show(9#(s.heap.push {cls:=.type "dict",data:=.dict #[]}):W1).heap.objs.size=s.heap.objs.size+1 from Heap.size_push ..];exact W0 (W3 (W3 h))
def nE(X:Cx)(ifs:List Expr)(t:TT):Prop:=∀(pins:List (Addr×Obj))(s:W1)(Z:St)(H:Hp)(Q:Bool->Hp->Prop),Inv X pins Z H s->t Z H Q->W8 5#0 X.A (BH ifs X.env) (TP X pins Z Q) X.xe s
def Mu:TT:=λj H Q=>Q true H
theorem Mv:nE X [] Mu:=λpins s Z H Q I h=>wpAny_tests_nil ⟨H,I,h⟩
theorem Mw(h:PT X c t):nE X [c] t:=λpins s Z H Q I q=>wpAny_tests_one (h pins s Z H Q I q)
def Le(Z Pv:St):Prop:=Pv.length=Z.length/\∀(i:Nat)(v:V),Z[i]?=some (some v)->Pv[i]?=some (some v)
def BJ(cs:List Nat)(g:TG)(tt:TT)(te:TE)(Z:St)(Q:VK)(J:It)(H1:Hp):Prop:=∀l,H1 l=none->∃W:Nat->Nat->Hp->Prop,(∃m,W 0 m (upd H1 l (.lst [])))/\∀i m H2,W i m H2->J.stop i H2/\Q (.ref l) H2\/J.go i H2/\∀x H3,J.oN i H2 x H3->g x (bB cs Z) H3 λOn H4=>Le (bB cs Z) On/\tt On H4 λb H5=>if b=true then te On H5 λv H6=>∃ys m',H6 l=some (.lst ys)/\ys.length<W7/\m'<m/\W (i+1) m' (upd H6 l (.lst (ys++[v])))else∃m',m'<m/\W (i+1) m' H5
def vR(cs:List Nat)(wi:TI)(g:TG)(tt:TT)(te:TE):TE:=λZ H Q=>wi Z H λJ H1=>BJ cs g tt te Z Q J H1
section
variable{g:TG}{tt:TT}
theorem BK{J:It}{Q:VK}{E:Value->W1->Prop}(hc:X.calm=true)(I:Inv X pins Z H s)(S:mj X scope cs)(T:Turn X.prog X.w X.K tg J fp it tn)(st:tn 0 s.heap)(hf:∀b∈fp,f9 X pins H b)(hg:∀s₀ H₀ ex,PG (eS X scope s₀ H₀ ex) tg g)(ht:∀s₀ H₀ ex,nE (eS X scope s₀ H₀ ex) ifs tt)(he:∀s₀ H₀ ex,PE (eS X scope s₀ H₀ ex) elt te)(q:BJ cs g tt te Z Q J H)(Mx:∀l C s' H',Inv X pins Z H' s'->f9 X pins H' C->(∃m,s'.heap.Ns C m)->Q (.ref l) H'->RR (.ref l) C (.ok .next) s'):W8 5#0 X.A (newList []) (λacc s₃=>W8 5#0 X.A (newFunctionEnv scope X.env.globals (fE X.env.cells scope.names []) [] X.env.qual none .none (some X.env)) (λBL s₄=>J4 5#0 X.A (.compStart (.ListComp elt [⟨tg,iter,ifs,0⟩] scope pos) 0 (.ref it) acc {BL with scope:=relabel scope X.env}) (RR acc BL.locals) s₄) E s₃) E s:=by
 refine Q5 ?_;have cZ:H s.heap.objs.size=none:=I.aB.fresh (W5 _);obtain⟨W,⟨m0,w0⟩,turn⟩:=q s.heap.objs.size cZ;generalize hl:s.heap.objs.size=l at*;have I3:Inv X pins Z (upd H l (.lst [])) 9#(s.heap.push {cls:=.type "list",dict:=none,data:=.seq ([]:List Value).toArray}):=I.laid (t':=s.toks) (λb u e=>W6 _ e) (Nat.le_of_eq hl) ⟨Q2 _,[],0,.nil,by rw[<-hl];exact Wv _ rfl⟩;have My:∀b o,s.heap.get? b=some o->(s.heap.push {cls:=.type "list",dict:=none,data:=.seq ([]:List Value).toArray}).get? b=some o:=λb o e=>W6 _ e;have ph:∀b∈fp,b≠l:=λb hb e=>by obtain⟨o,ho,_⟩:=T.obj 0 _ st b hb;exact absurd (Wm ho) %[e,hl|QO _]
 have vS:∀b∈fp,f9 X pins (upd H l (.lst [])) b:=λb hb=>⟨by rw[ba (ph b hb)];exact(hf b hb).1,(hf b hb).2⟩;have bq:tn 0 (s.heap.push {cls:=.type "list",dict:=none,data:=.seq ([]:List Value).toArray}):=T.keep 0 _ _ st λb j o e=>My b o e;generalize hs3:(9#(s.heap.push {cls:=.type "list",dict:=none,data:=.seq ([]:List Value).toArray}):W1)=s3 at I3;have BM:tn 0 s3.heap:=by rw[<-hs3];exact bq
 have Mz:∀b∈fp,b<s3.heap.objs.size:=λb hb=>by obtain⟨o,ho,_⟩:=T.obj 0 _ BM b hb;exact Wm ho
 refine Mt ?_;have I4:=Mi I3 S vS Mz;generalize hX:eS X scope s3 (upd H l (.lst [])) fp=X' at I4;generalize hs4:({s3 with heap:=U5 (s3.heap.push {cls:=.type "dict",data:=.dict #[]}) scope.names}:W1)=s4 at I4⊢;have sh:=hg s3 (upd H l (.lst [])) fp;have BN:=ht s3 (upd H l (.lst [])) fp;have si:=he s3 (upd H l (.lst [])) fp;rw[hX]at sh BN si;have bL:tn 0 s4.heap:=T.keep 0 _ _ BM λb j o e=>by rw[<-hs4];exact pushCells_keeps _ _ b o (W6 _ e)
 have hP:X'.prog=X.prog:=by rw[<-hX];rfl
 have hw:X'.w=X.w:=by rw[<-hX];rfl
 have hA:X'.A=X.A:=by rw[<-hX];rfl
 have hK:X'.K=X.K:=by rw[<-hX];rfl
 have jt:X'.calm=true:=by rw[<-hX];exact hc
 have nF:X'.xe=jZ:=by rw[<-hX];rfl
 have BO:X'.env.locals=s3.heap.objs.size:=by rw[<-hX];rfl
 have MA:({scope:=relabel scope X.env,locals:=s3.heap.objs.size,globals:=X.env.globals,cells:=QK (s3.heap.objs.size+1) scope.names (fE X.env.cells scope.names []),qual:=X.env.qual,func:=none,code:=X.env.code,frame:=X.env.frame,builtins:=X.env.builtins}:Env)=X'.env:=by rw[<-hX];rfl
 have vT:∀{H':Hp},(∀b∈fp,H' b=none)->∀b∈fp,f9 X' [] H' b:=λ{H'}hn b hb=>by
  have ex:X'.ex=fp:=by rw[<-hX];rfl
  have pn:X'.pn=[]:=by rw[<-hX];rfl
  refine⟨hn b hb,(I4.ok.l8 b %[ex|hb]).1,I4.ok.kJ b %[ex|hb],.inl %[ex|hb],(I4.ok.l8 b %[ex|hb]).2,λp hp=>?_⟩;rw[pn]at hp;simp at hp
 show J4 5#0 X.A (.compStart (.ListComp elt [⟨tg,iter,ifs,0⟩] scope pos) 0 (.ref it) (.ref l) ({scope:=relabel scope X.env,locals:=s3.heap.objs.size,globals:=X.env.globals,cells:=QK (s3.heap.objs.size+1) scope.names (fE X.env.cells scope.names []),qual:=X.env.qual,func:=none,code:=X.env.code,frame:=X.env.frame,builtins:=X.env.builtins}:Env)) (RR (.ref l) s3.heap.objs.size) s4;rw[MA];have loop:J4 5#0 X.A (.compLoop (.ListComp elt [⟨tg,iter,ifs,0⟩] scope pos) 0 (.ref it) (.ref l) X'.env) (RR (.ref l) s3.heap.objs.size) s4:=by
  refine Mr (λn s'=>∃i H',Inv X' [] (bB cs Z) H' s'/\tn i s'.heap/\(∀b∈fp,H' b=none)/\W i n H') ?_ m0 ⟨0,_,I4,bL,λb hb=>(vS b hb).1,w0⟩;rintro n s5⟨i,H5,I5,gu,fr5,w5⟩;rcases turn i n H5 w5 with⟨stop,qn⟩|⟨go,step⟩
  .have:=T.done X' hP hw hK jt i [] s5 (bB cs Z) H5 jZ I5 (vT fr5) gu stop;rw[hA]at this;refine aN this λr s6⟨hr,I6⟩=>?_;subst hr;have b6:=I6.base;have e1:X'.fs=eG X.stack:=by rw[<-hX];rfl
   have e2:X'.ex=fp:=by rw[<-hX];rfl
   have e3:X'.H₀=upd H l (.lst []):=by rw[<-hX];rfl
   have e4:X'.s₀=s3:=by rw[<-hX];rfl
   rw[e1,e2,e3,e4]at b6;have o6:s6.os=s3.os:=by rw[<-e4];exact I6.os
   have MB:ck X.prog X.w H5 s6.heap:=by rw[<-hP,<-hw];exact I6.aB
   have J6:Inv X pins Z H5 s6:=I3.An o6 b6 MB I6.bare λb hb=>by obtain⟨_,f1,_,f3,f4,f5⟩:=vS b hb;exact⟨f3,f1,f4,f5⟩
   obtain⟨m6,n6,_⟩:=I6.loc;rw[BO]at n6;refine Mx l s3.heap.objs.size s6 H5 J6 (I3.jT (W5 _) ?_) ⟨m6,n6⟩ qn;rw[<-BO];exact I6.free
  .have:=T.item X' hP hw hK jt i [] s5 (bB cs Z) H5 jZ I5 (vT fr5) gu go;rw[hA]at this;refine aN this λr s6⟨u,hr,h6⟩=>?_;subst hr;refine aN h6 λj s7 hh=>?_;obtain⟨x,H7,I7,r7,y7,pj,fr7⟩:=hh;have MC:=I7.pinned (vT fr7) (T.obj _ _ pj);have a8:=sh _ s7 (bB cs Z) H7 x u _ MC r7 (step x H7 y7);rw[hP,hw,hA,nF]at a8;refine aN a8 λj s8 hh=>?_;obtain⟨Gc,H8,I8,le8,q8⟩:=hh;have a9:=BN _ s8 Gc H8 _ I8 q8;rw[hP,hw,hA,nF]at a9;refine aN a9 λok s9⟨H9,I9,q9⟩=>?_;have back:∀{H':Hp}{s':W1},Inv X' ([]++oO fp s7.heap) Gc H' s'->Inv X' [] (bB cs Z) H' s'/\tn (i+1) s'.heap/\∀b∈fp,H' b=none:=λ{H' s'}J=>by refine⟨J.rQ.weak le8.1.symm le8.2,T.keep _ _ _ pj λb hb o e=>(J.pin (b,o) (Q1 _ (Q1 _ (rP hb e)))).1,λb hb=>?_⟩;obtain⟨o,e,d⟩:=T.obj _ _ pj b hb;exact(J.pin (b,o) (Q1 _ (Q1 _ (rP hb e)))).2.1
   cases ok with|false=>rw[if_neg WW]at q9⊢;obtain⟨m',hm,w9⟩:=q9;obtain⟨b1,b2,b3⟩:=back I9;exact⟨m',hm,i+1,H9,b1,b2,b3,w9⟩|true=>rw[if_pos rfl]at q9⊢;have BP:=si _ s9 Gc H9 _ I9 q9;rw[hP,hw,hA,nF]at BP;refine aN BP λx10 s10 hh=>?_;obtain⟨v,H10,I10,r10,ys,m',hy,hz,hm,w10⟩:=hh;have BQ:=Bs (X:=X') _ s10 Gc H10 (.ref l) [v] (.ref l) [x10] (λj H'=>W (i+1) m' H') I10 rfl (.cons r10 .nil) ⟨l,ys,v,rfl,rfl,hy,hz,w10⟩;rw[hP,hw,hA,nF]at BQ;refine aN BQ λj s11 hh=>?_;obtain⟨_,H11,I11,_,w11⟩:=hh;obtain⟨b1,b2,b3⟩:=back I11;exact⟨m',hm,i+1,H11,b1,b2,b3,w11⟩
 exact codeAny_compStart_list loop (T.self X.A 0 s4 _ _ bL loop)
theorem MD(hc:X.calm=true)(S:mj X scope cs)(hi:PI X tg iter wi)(hg:∀s₀ H₀ ex,PG (eS X scope s₀ H₀ ex) tg g)(ht:∀s₀ H₀ ex,nE (eS X scope s₀ H₀ ex) ifs tt)(he:∀s₀ H₀ ex,PE (eS X scope s₀ H₀ ex) elt te)(hs:∀x,Jq iter X.env x=pure x:=by intro _;rfl):PE X (.ListComp elt [⟨tg,iter,ifs,0⟩] scope pos) (vR cs wi g tt te):=by intro pins s Z H Q I h;have pf:∀x∈scope.names,x.2=.free->∃c,X.env.cells.lookup x.1=some c:=λx hx hk=>I.ok.has x.1 (S.free x hx hk);rw[eval_ListComp];refine wpAny_comprehension_free (use:=none) rfl hs (BB pf) S.kind S.names (aN (hi pins s Z H _ I h) λxv s1 h1=>aN h1 λrM s2 h2=>?_);obtain⟨it,fp,tn,J,H2,e,I2,T,bH,f2,q2⟩:=h2;subst e;refine BK (RR:=λacc C=>compPost 5#0 X.A X.xe none (EP X pins Z Q) acc C) hc I2 S T bH f2 hg ht he q2 ?_;intro l C s' H' I' fC⟨m,n⟩q;exact⟨m,n,λh' nG=>⟨.ref l,H',I'.turned (t':=s'.toks) (λb o hb e=>(nG.2 b hb).trans e) fC.1 fC.2.1 fC.2.2.2.1 fC.2.2.2.2.1 fC.2.2.2.2.2,rfl,q⟩⟩
theorem ME(hc:X.calm=true)(S:mj X scope cs)(hN:X.N.Nodup)(dD:X.N[i]?=some y)(hy:X.env.scope.names.lookup y=some .local)(hi:PI X tg iter wi)(hg:∀s₀ H₀ ex,PG (eS X scope s₀ H₀ ex) tg g)(ht:∀s₀ H₀ ex,nE (eS X scope s₀ H₀ ex) ifs tt)(he:∀s₀ H₀ ex,PE (eS X scope s₀ H₀ ex) elt te)(ml:Jg (.ListComp elt [⟨tg,iter,ifs,0⟩] scope pos) (some (.Name y py)) sj.line X.env=pure true:=by rfl)(hs:∀x,Jq iter X.env x=pure x:=by intro _;rfl):PS X (.Assign [.Name y py] (.ListComp elt [⟨tg,iter,ifs,0⟩] scope pos) sj) (rL (vR cs wi g tt te) (rK i)):=by
 intro pins s Z H D I h;have pf:∀x∈scope.names,x.2=.free->∃c,X.env.cells.lookup x.1=some c:=λx hx hk=>I.ok.has x.1 (S.free x hx hk);rw[exec_Assign_Name_used _ _ _ _ ml];refine W0 (wpAny_standAt (W0 ?_));show W8 _ X.A (do let _<-comprehension (.ListComp elt [⟨tg,iter,ifs,0⟩] scope pos) scope X.env _ (newList []) false (eval iter X.env) (some (assign (.Name y py) X.env))) _ _ s;refine W0 (Q7 (wpAny_comprehension_free (use:=some (assign (.Name y py) X.env)) (Q:=λj s'=>SP X pins D .next s') rfl hs (BB pf) S.kind S.names (aN (hi pins s Z H _ I h) λxv s1 h1=>aN h1 λrM s2 h2=>?_)) (λj s' hq=>W3 (W3 hq)) λj j e=>e);obtain⟨it,fp,tn,J,H2,e,I2,T,bH,f2,q2⟩:=h2;subst e;refine BK (RR:=λacc C=>compPost 5#0 X.A X.xe (some (assign (.Name y py) X.env)) (λj s'=>SP X pins D .next s') acc C) hc I2 S T bH f2 hg ht he q2 ?_;intro l C s' H' I' fC⟨m,n⟩q;show W8 _ X.A (assign (.Name y py) X.env (.ref l)) _ _ _;refine wpAny_assign_Name (rG I' hN dD (.inl hy) (v:=.ref l) rfl (λoP I''⟨a,hsb,ha⟩=>?_) (.inr hy));have bO:C≠a:=by
  rcases ha with rfl|ha;.exact fC.2.1
  .exactλe=>fC.2.2.2.2.1 y a ha e.symm
 refine⟨m,n.sameBut hsb bO,λh' nG=>⟨_,H',I''.turned (t':=oP.toks) (λb o hb e=>(nG.2 b hb).trans e) fC.1 fC.2.1 fC.2.2.2.1 fC.2.2.2.2.1 fC.2.2.2.2.2,q⟩⟩
end
abbrev Tx:=List Nat
variable{ce:Tx->Nat}{ks:List (List Tx)}{tab:Tx->Bool}
def toS(x:Tx):Str:=⟨x.toArray⟩
theorem j0(x:Tx):(toS x).cps.toList=x:=#v[toS]
theorem i4(x:Tx):(toS x).length=x.length:=#v[toS,Str.length]
theorem nH(h:toS x=toS y):x=y:=by have:=congrArg (λz:Str=>z.cps.toList) h;simpa[toS]using this
theorem MF(z:Str):z=toS z.cps.toList:=#v[toS]
abbrev b_:=Sum Int Tx
def dE:b_->Key|.inl i=>.inl i|.inr x=>.inr (toS x)
inductive D where|aI|bl(b:Bool)|int(i:Int)|str(x:Tx)|tup(xs:List D)|lst(xs:List D)|bP(ao:List (b_×D))|exc(n:Nat)(fl:D)|xd(fs:List (Tx×D))|fn(a:Nat)|dic(ao:List (D×D))
variable{ds:List D}
mutual noncomputable def cn:Nat->D->Option NK|_,.int i=>some (.i i)|_,.bl b=>some (.i (if b then 1 else 0))|_,.str x=>some (.s (toS x))|n+1,.tup xs=>(gy n xs).map .t|_,_=>none noncomputable def gy:Nat->List D->Option (List NK)|_,[]=>some []|n,x::xs=>(cn n x).bind λk=>(gy n xs).map λks=>k::ks end
def excAt(C:Addr)(v:V)(a:Addr):Heap->Prop:=λh=>∃o,h.get? a=some o/\o.cls=.ref C/\(∀x,v=.ref x->o.dict=some x)/\∃vs,o.data=.fields vs
def j3(fs:List (Str×V))(x:Addr):Heap->Prop:=λh=>∃mA,h.Ns1 x mA/\∀f,eF (fs.lookup f) (mA f)
inductive S where|pure(d:D)|own(d:D)
variable{aH ss:List S}{p':D->D->Option S}
def S.d:S->D|.pure d=>d|.own d=>d
abbrev Dl:=List (Option S)
variable{Y P3 SL:Dl}
inductive Rep(H:Hp)(O:Addr->Prop):V->D->Prop|aI:Rep H O .aI .aI|bl(b:Bool):Rep H O (.bl b) (.bl b)|int(i:Int):Rep H O (.int i) (.int i)|str(x:Tx):Rep H O (.str (toS x)) (.str x)|tup{a:Addr}{vs:List V}{ds:List D}:¬O a->H a=some (.tup vs)->vs.length=ds.length->(∀(i:Nat)v d,vs[i]?=some v->ds[i]?=some d->Rep H O v d)->Rep H O (.ref a) (.tup ds)|lst{a:Addr}{vs:List V}{ds:List D}:¬O a->Rd H a (.lst vs)->vs.length=ds.length->(∀(i:Nat)v d,vs[i]?=some v->ds[i]?=some d->Rep H O v d)->Rep H O (.ref a) (.lst ds)|bP{a:Addr}{ws:List (Key×V)}{ds:List (b_×D)}:¬O a->H a=some (.dK ws)->ws.map (·.1)=ds.map (λp=>dE p.1)->(∀(i:Nat)p q,ws[i]?=some p->ds[i]?=some q->Rep H O p.2 q.2)->Rep H O (.ref a) (.bP ds)|exc{a:Addr}{n:Nat}{v:V}{fl:D}:¬O a->H a=some (.ext (excAt n v a))->Rep H O v fl->Rep H O (.ref a) (.exc n fl)|xd{x:Addr}{fs:List (Str×V)}{ds:List (Tx×D)}:¬O x->H x=some (.ext (j3 fs x))->fs.map (·.1)=ds.map (λp=>toS p.1)->(∀(i:Nat)p q,fs[i]?=some p->ds[i]?=some q->Rep H O p.2 q.2)->Rep H O (.ref x) (.xd ds)|fn(a:Addr):Rep H O (.ref a) (.fn a)|dic{a:Addr}{ep:Nat}{ws:List (NK×V×V)}{ds:List (D×D)}:¬O a->H a=some (.dN ep ws)->ws.length=ds.length->(∀(i:Nat)p q,ws[i]?=some p->ds[i]?=some q->Rep H O p.2.1 q.1)->(∀(i:Nat)p q,ws[i]?=some p->ds[i]?=some q->Rep H O p.2.2 q.2)->(∀(i:Nat)p q,ws[i]?=some p->ds[i]?=some q->cn 6 q.1=some p.1)->Rep H O (.ref a) (.dic ds)
abbrev aG(H:Hp)(O:Addr->Prop)(vs:List V)(ds:List D):Prop:=vs.length=ds.length/\∀(i:Nat)v d,vs[i]?=some v->ds[i]?=some d->Rep H O v d
structure DN(H:Hp)(O:Addr->Prop)(ws:List (NK×V×V))(ds:List (D×D)):Prop where
 len:ws.length=ds.length
 key:∀(i:Nat)p q,ws[i]?=some p->ds[i]?=some q->Rep H O p.2.1 q.1val:∀(i:Nat)p q,ws[i]?=some p->ds[i]?=some q->Rep H O p.2.2 q.2mn:∀(i:Nat)p q,ws[i]?=some p->ds[i]?=some q->cn 6 q.1=some p.1
def fF(H:Hp)(O:Addr->Prop)(a:Addr):D->Prop|.lst ds=>∃vs,H a=some (.lst vs)/\aG H O vs ds|.bP ds=>∃ws:List (Key×V),H a=some (.dK ws)/\ws.map (·.1)=ds.map (λp=>dE p.1)/\∀(i:Nat)p q,ws[i]?=some p->ds[i]?=some q->Rep H O p.2 q.2|.dic ds=>∃(ep:Nat)(ws:List (NK×V×V)),H a=some (.dN ep ws)/\DN H O ws ds|_=>False
section
variable{v:V}{d:D}{a:Addr}
theorem Rd.keep{u}(h:Rd H a u)(k:∀o,H a=Option.some o->H' a=Option.some o):Rd H' a u:=by
 rcases h with h|⟨o,h⟩;.exact .inl (k _ h)
 .exact .inr ⟨o,k _ h⟩
theorem Rd.some{u}(h:Rd H a u):∃o,H a=some o:=by
 rcases h with h|⟨o,h⟩;.exact⟨_,h⟩
 .exact⟨_,h⟩
theorem Rep.keep(h:Rep H O v d)(k:∀a o,H a=some o->¬O a->H' a=some o):Rep H' O v d:=by induction h with|aI=>exact .aI|bl b=>exact .bl b|int i=>exact .int i|str x=>exact .str x|tup h1 h2 h3 _ ih=>exact .tup h1 (k _ _ h2 h1) h3 ih|lst h1 h2 h3 _ ih=>exact .lst h1 (Rd.keep h2 λo e=>k _ o e h1) h3 ih|bP h1 h2 h3 _ ih=>exact .bP h1 (k _ _ h2 h1) h3 ih|exc h1 h2 _ ih=>exact .exc h1 (k _ _ h2 h1) ih|xd h1 h2 h3 _ ih=>exact .xd h1 (k _ _ h2 h1) h3 ih|fn a=>exact .fn a|dic h1 h2 h3 _ _ h6 ih ih'=>exact .dic h1 (k _ _ h2 h1) h3 ih ih' h6
theorem Rep.aS(h:Rep H O v d)(k:∀a,O' a->O a\/H a=none):Rep H O' v d:=by
 have no:∀{a:Addr}{u:HO},¬O a->Rd H a u->¬O' a:=λ{a u}h1 h2 z=>by grind[Rd.some]
 induction h with|aI=>exact .aI|bl b=>exact .bl b|int i=>exact .int i|str x=>exact .str x|tup h1 h2 h3 _ ih=>exact .tup (no h1 (.inl h2)) h2 h3 ih|lst h1 h2 h3 _ ih=>exact .lst (no h1 h2) h2 h3 ih|bP h1 h2 h3 _ ih=>exact .bP (no h1 (.inl h2)) h2 h3 ih|exc h1 h2 _ ih=>exact .exc (no h1 (.inl h2)) h2 ih|xd h1 h2 h3 _ ih=>exact .xd (no h1 (.inl h2)) h2 h3 ih|fn a=>exact .fn a|dic h1 h2 h3 _ _ h6 ih ih'=>exact .dic (no h1 (.inl h2)) h2 h3 ih ih' h6
theorem DN.keep{ws:List (NK×V×V)}{ds:List (D×D)}(h:DN H O ws ds)(k:∀a o,H a=some o->¬O a->H' a=some o):DN H' O ws ds:=⟨h.len,λi p q e1 e2=>(h.key i p q e1 e2).keep k,λi p q e1 e2=>(h.val i p q e1 e2).keep k,h.mn⟩
theorem DN.aS{ws:List (NK×V×V)}{ds:List (D×D)}(h:DN H O ws ds)(k:∀a,O' a->O a\/H a=none):DN H O' ws ds:=⟨h.len,λi p q e1 e2=>(h.key i p q e1 e2).aS k,λi p q e1 e2=>(h.val i p q e1 e2).aS k,h.mn⟩
theorem aG.keep(h:aG H O vs ds)(k:∀a o,H a=some o->¬O a->H' a=some o):aG H' O vs ds:=⟨h.1,λi v d e1 e2=>(h.2 i v d e1 e2).keep k⟩
theorem aG.aS(h:aG H O vs ds)(k:∀a,O' a->O a\/H a=none):aG H O' vs ds:=⟨h.1,λi v d e1 e2=>(h.2 i v d e1 e2).aS k⟩
theorem aG.nil:aG H O [] []:=⟨rfl,λi v d e j=>by simp at e⟩
theorem aG.cons{H O v d vs ds}(h:Rep H O v d)(r:aG H O vs ds):aG H O (v::vs) (d::ds):=by refine⟨#v[r.1],λi v' d' e1 e2=>?_⟩;cases i with|zero=>simp at e1 e2;subst e1;subst e2;exact h|succ i=>exact r.2 i v' d' (~~~e1) (~~~e2)
theorem aG.head(r:aG H O (v::vs) (d::ds)):Rep H O v d:=r.2 0 v d rfl rfl
theorem aG.tail(r:aG H O (v::vs) (d::ds)):aG H O vs ds:=⟨~~~r.1,λi v' d' e1 e2=>r.2 (i+1) v' d' (~~~e1) (~~~e2)⟩
theorem aG.append(h:aG H O vs ds)(h':aG H O mq dO):aG H O (vs++mq) (ds++dO):=by induction vs generalizing ds with
 |nil=>cases ds with|nil=>exact h'|cons d r=>have:=h.1;simp at this
 |cons v r ih=>cases ds with|nil=>have:=h.1;simp at this|cons d q=>exact .cons h.head (ih h.tail)
theorem aG.get(h:aG H O vs ds)(e:ds[i]?=some d):∃v,vs[i]?=some v/\Rep H O v d:=by have hi:i<ds.length:=(Wd.mp e).1;have hv:i<vs.length:=%[h.1|hi];exact⟨vs[i],#v[hv],h.2 i _ d #v[hv] e⟩
theorem aG.take(n:Nat)(h:aG H O vs ds):aG H O (vs.take n) (ds.take n):=by
 refine⟨#v[h.1],λi v d e1 e2=>?_⟩;by_cases hi:i<n;.rw[QW hi]at e1 e2;exact h.2 i v d e1 e2
 .rw[List.getElem?_take_eq_none Y']at e1;cases e1
theorem aG.drop(n:Nat)(h:aG H O vs ds):aG H O (vs.drop n) (ds.drop n):=by refine⟨#v[h.1],λi v d e1 e2=>?_⟩;rw[Jj]at e1 e2;exact h.2 (n+i) v d e1 e2
theorem aG.set(h:aG H O vs ds)(r:Rep H O v d)(j:Nat):aG H O (vs.set j v) (ds.set j d):=by
 refine⟨#v[h.1],λi v' d' e1 e2=>?_⟩;by_cases hi:j=i;.subst hi;rw[Q6]at e1 e2;simp at e1 e2;obtain⟨_,rfl⟩:=e1;obtain⟨_,rfl⟩:=e2;exact r
 .rw[Wc hi]at e1 e2;exact h.2 i v' d' e1 e2
theorem aG.reverse(h:aG H O vs ds):aG H O vs.reverse ds.reverse:=by
 refine⟨#v[h.1],λi v d e1 e2=>?_⟩;have hl:=h.1;have h1:i<vs.length:=by have:=(Wd.mp e1).1;simpa using this
 rw[List.getElem?_reverse Y']at e1;rw[List.getElem?_reverse Y']at e2;exact h.2 (vs.length-1-i) v d e1 %[hl|e2]
theorem fF.keep(h:fF H O a d)(hk:∀b o,H b=Option.some o->¬O b->H' b=Option.some o)(ha:∀o,H a=Option.some o->H' a=Option.some o):fF H' O a d:=by cases d<;>first|exact h.elim|(obtain⟨vs,e,r⟩:=h;exact⟨vs,ha _ e,aG.keep r hk⟩)|(obtain⟨ws,e,r,q⟩:=h;exact⟨ws,ha _ e,r,λi p p' e1 e2=>(q i p p' e1 e2).keep hk⟩)|(obtain⟨ep,ws,e,r⟩:=h;exact⟨ep,ws,ha _ e,r.keep hk⟩)
theorem fF.aS(h:fF H O a d)(k:∀a,O' a->O a\/H a=none):fF H O' a d:=by cases d<;>first|exact h.elim|(obtain⟨vs,e,r⟩:=h;exact⟨vs,e,aG.aS r k⟩)|(obtain⟨ws,e,r,q⟩:=h;exact⟨ws,e,r,λi p p' e1 e2=>(q i p p' e1 e2).aS k⟩)|(obtain⟨ep,ws,e,r⟩:=h;exact⟨ep,ws,e,r.aS k⟩)
theorem fF.some(h:fF H O a d):∃o,H a=some o:=by cases d<;>first|exact h.elim|(obtain⟨vs,e,r⟩:=h;exact⟨_,e⟩)|(obtain⟨ep,vs,e,r⟩:=h;exact⟨_,e⟩)
theorem fF.rep(h:fF H O a d)(ho:¬O a):Rep H O (.ref a) d:=by cases d with|lst ds=>obtain⟨vs,e,r⟩:=h;exact .lst ho (.inl e) r.1 r.2|bP ds=>obtain⟨ws,e,r,q⟩:=h;exact .bP ho e r q|dic ds=>obtain⟨ep,ws,e,r⟩:=h;exact .dic ho e r.len r.key r.val r.mn|_=>exact h.elim
end
structure Xc where
 cls:Tx
 j4:D
structure Fc where
 H₀:Hp
 B:Addr->Prop
 pin:List (Nat×Addr)xc:Xc->Dl->Prop:=λj j=>False
def Fc.plus(c:Fc)(p:Addr):Fc:={c with B:=λa=>c.B a\/a=p}
def Fc.I(c:Fc)(a:Addr):Prop:=∃i,(i,a)∈c.pin
def Own(Z:St)(Y:Dl)(a:Addr):Prop:=∃(i:Nat)(d:D),Y[i]?=some (some (.own d))/\Z[i]?=some (some (.ref a))
def Av(c:Fc)(Z:St)(Y:Dl)(a:Addr):Prop:=c.B a\/Own Z Y a
structure Ok(c:Fc)(Z:St)(Y:Dl)(H:Hp):Prop where
 keep:∀a o,c.H₀ a=some o->¬c.I a->H a=some o
 bd:∀a,c.B a->∃o,H a=some o
 dj:∀a,c.I a->∃o,H a=some o
 len:Y.length=Z.length
 slot:∀(i:Nat)d,Y[i]?=some 0#d->∃v,Z[i]?=some (some v)/\Rep H (Av c Z Y) v d
 own:∀(i:Nat)d,Y[i]?=some (some (.own d))->∃a,Z[i]?=some (some (.ref a))/\fF H (Av c Z Y) a d/\(c.I a\/c.H₀ a=none)/\¬c.B a
 inj:∀(i j:Nat)a d d',Y[i]?=some (some (.own d))->Y[j]?=some (some (.own d'))->Z[i]?=some (some (.ref a))->Z[j]?=some (some (.ref a))->i=j
 pinned:∀p∈c.pin,Z[p.1]?=some (some (.ref p.2))
structure aK(c:Fc)(Z:St)(Y:Dl)(H:Hp)(Pv:St)(P3:Dl)(H':Hp):Prop where
 ok:Ok c Pv P3 H'
 keep:∀a o,H a=some o->¬Own Z Y a->H' a=some o
 own:∀a,Own Pv P3 a->Own Z Y a\/H a=none
 there:∀a o,H a=some o->∃o',H' a=some o'
section
variable{c:Fc}{Z'':St}{Y'':Dl}{BR:Hp}{v:V}{d:D}{a p:Addr}
theorem Ok.MG(k:Ok c Z Y H)(h:c.B a):∃o,H a=some o:=k.bd a h
theorem Ok.vU(k:Ok c Z Y H)(h:Own Z Y a):∃o,H a=some o:=by obtain⟨i,d,e1,e2⟩:=h;obtain⟨b,e3,q,_⟩:=k.own i d e1;rw[e2]at e3;cases e3;exact q.some
theorem Ok.BS(k:Ok c Z Y H)(h:Av c Z Y a):∃o,H a=some o:=h.elim k.MG k.vU
theorem Ok.i5(k:Ok c Z Y H)(h:H a=none):¬Av c Z Y a:=λz=>by obtain⟨o,e⟩:=k.BS z;grind
theorem aK.refl(k:Ok c Z Y H):aK c Z Y H Z Y H:=⟨k,λj j e j=>e,λj h=>.inl h,λj o e=>⟨o,e⟩⟩
theorem aK.trans(x:aK c Z Y H Pv P3 H')(y:aK c Pv P3 H' Z'' Y'' BR):aK c Z Y H Z'' Y'' BR:=by
 refine⟨y.ok,λa o e n=>?_,λa h=>?_,λa o e=>?_⟩;.refine y.keep a o (x.keep a o e n) λz=>?_;rcases x.own a z with q|q;all_goals grind
 .rcases y.own a h with q|q;.exact x.own a q
  .right;cases e:H a with|none=>rfl|some o=>obtain⟨o',e'⟩:=x.there a o e;grind
 .obtain⟨o',e'⟩:=x.there a o e;exact y.there a o' e'
theorem aK.av(x:aK c Z Y H Pv P3 H'):∀a,Av c Pv P3 a->Av c Z Y a\/H a=none:=λa h=>by
 rcases h with h|h;.exact .inl (.inl h)
 .rcases x.own a h with q|q;.exact .inl (.inr q)
  .exact .inr q
theorem Rep.da(h:Rep H (Av c Z Y) v d)(x:aK c Z Y H Pv P3 H'):Rep H' (Av c Pv P3) v d:=by have h1:Rep H (λa=>Av c Z Y a\/Av c Pv P3 a) v d:=Rep.aS h λa z=>z.elim .inl (x.av a);exact(h1.keep λa o e n=>x.keep a o e λz=>n (.inl (.inr z))).aS λa z=>.inl (.inr z)
theorem aG.da(h:aG H (Av c Z Y) vs ds)(x:aK c Z Y H Pv P3 H'):aG H' (Av c Pv P3) vs ds:=⟨h.1,λi v d e1 e2=>Rep.da (h.2 i v d e1 e2) x⟩
def aL(c:Fc)(Z:St)(Y:Dl)(Hs H:Hp)(v:V):S->Prop|.pure d=>Rep H (Av c Z Y) v d|.own d=>∃a,v=.ref a/\fF H (Av (c.plus a) Z Y) a d/\¬c.B a/\c.H₀ a=none/\Ok (c.plus a) Z Y H/\Hs a=none
theorem sm(k:Ok (c.plus a) Z Y H):¬Own Z Y a:=λ⟨i,d,e1,e2⟩=>by obtain⟨b,e3,_,_,n⟩:=k.own i d e1;rw[e2]at e3;cases e3;exact n (.inr rfl)
theorem aL.rep(h:aL c Z Y Hs H v r):Rep H (Av c Z Y) v r.d:=by cases r with|pure d=>exact h|own d=>obtain⟨a,rfl,o,n,f,k,_⟩:=h;refine(o.aS λb z=>.inl ?_).rep λz=>z.elim n (sm k);exact z.elim (λz=>.inl (.inl z)) .inr
theorem aL.back(h:aL c Z Y Hs H v r)(x:aK c Z₀ Y₀ H' Pv P3 Hs):aL c Z Y H' H v r:=by cases r with|pure d=>exact h|own d=>obtain⟨a,e,o,n,f,k,hs⟩:=h;refine⟨a,e,o,n,f,k,?_⟩;cases q:H' a with|none=>rfl|some o=>obtain⟨o',e'⟩:=x.there a o q;grind
theorem aL.MI(h:aL c Z Y Hs H v r):aL c Z Y c.H₀ H v r:=by cases r with|pure d=>exact h|own d=>obtain⟨a,e,o,n,f,k,hs⟩:=h;exact⟨a,e,o,n,f,k,f⟩
theorem Ok.alloc(k:Ok c Z Y H)(hp:H p=none)(o:HO):Ok c Z Y (upd H p o):=by
 have up:∀a w,H a=some w->upd H p o a=some w:=λa w e=>by rw[ba (fj e hp)];exact e
 refine⟨λa w e n=>up a w (k.keep a w e n),λa z=>(k.bd a z).elim λw e=>⟨w,up a w e⟩,λa z=>(k.dj a z).elim λw e=>⟨w,up a w e⟩,k.len,λi d e=>?_,λi d e=>?_,k.inj,k.pinned⟩;.obtain⟨v,e1,r⟩:=k.slot i d e;exact⟨v,e1,r.keep λa w q j=>up a w q⟩
 .obtain⟨a,e1,r,q⟩:=k.own i d e;exact⟨a,e1,r.keep (λb w q j=>up b w q) λw q=>up a w q,q⟩
theorem aK.alloc(k:Ok c Z Y H)(hp:H p=none)(o:HO):aK c Z Y H Z Y (upd H p o):=by
 have up:∀a w,H a=some w->upd H p o a=some w:=λa w e=>by rw[ba (fj e hp)];exact e
 exact⟨k.alloc hp o,λa w e j=>up a w e,λa h=>.inl h,λa w e=>⟨w,up a w e⟩⟩
theorem Ok.j5(k:Ok c Z Y H)(hp:H p=none):c.H₀ p=none:=by cases e:c.H₀ p with|none=>rfl|some o=>
 by_cases q:c.I p;.obtain⟨w,e'⟩:=k.dj p q;grind
 .have:=k.keep p o e q;grind
theorem Ok.plus(k:Ok c Z Y H)(hp:H p=none)(o:HO):Ok (c.plus p) Z Y (upd H p o):=by
 have k':=k.alloc hp o;have sub:∀b,Av (c.plus p) Z Y b->Av c Z Y b\/b=p:=λb z=>by
  rcases z with(z|z)|z;.exact .inl (.inl z)
  .exact .inr z
  .exact .inl (.inr z)
 have sq:∀b,Av (c.plus p) Z Y b->Av c Z Y b\/H b=none:=λb z=>(sub b z).elim .inl λe=>.inr %[e|hp];have up:∀a w,H a=some w->upd H p o a=some w:=λa w e=>by rw[ba (fj e hp)];exact e
 refine⟨k'.keep,λa z=>?_,k'.dj,k.len,λi d e=>?_,λi d e=>?_,k.inj,k.pinned⟩
 .rcases z with z|z;.exact k'.bd a z
  .exact⟨o,%[z|cz]⟩
 .obtain⟨v,e1,r⟩:=k.slot i d e;exact⟨v,e1,(r.aS sq).keep λa w q j=>up a w q⟩
 .obtain⟨a,e1,r,q,nb⟩:=k.own i d e;refine⟨a,e1,(r.aS sq).keep (λb w q j=>up b w q) λw q=>up a w q,q,λz=>?_⟩;rcases z with z|z;all_goals grind[fF.some]
theorem aL.i6(k:Ok c Z Y H)(r:aG H (Av c Z Y) vs ds)(hp:H p=none):aL c Z Y H (upd H p (.lst vs)) (.ref p) (.own (.lst ds)):=by
 have up:∀a w,H a=some w->upd H p (.lst vs) a=some w:=λa w e=>by rw[ba (fj e hp)];exact e
 refine⟨p,rfl,⟨vs,cz,?_⟩,λz=>k.i5 hp (.inl z),k.j5 hp,k.plus hp _,hp⟩;have r1:aG H (Av (c.plus p) Z Y) vs ds:=aG.aS r λb z=>by
  rcases z with(z|z)|z;.exact .inl (.inl z)
  .exact .inr %[z|hp]
  .exact .inl (.inr z)
 exact aG.keep r1 λb w e j=>up b w e
theorem aL.mr(k:Ok c Z Y H)(r:aG H (Av c Z Y) vs ds)(hp:H p=none):aL c Z Y H (upd H p (.tup vs)) (.ref p) (.pure (.tup ds)):=by
 have up:∀a w,H a=some w->upd H p (.tup vs) a=some w:=λa w e=>by rw[ba (fj e hp)];exact e
 have r1:=aG.keep r (H':=upd H p (.tup vs)) λb w e j=>up b w e;exact .tup (k.i5 hp) cz r1.1 r1.2
end
inductive Rs(α:Type)where|ok(a:α)(Y:Dl)|exc(x:Xc)(Y:Dl)|stuck
noncomputable def Rs.bind{α β:Type}(r:Rs α)(f:α->Dl->Rs β):Rs β:=match r with|.ok a Y=>f a Y|.exc x Y=>.exc x Y|.stuck=>.stuck
abbrev DE:=Dl->Rs S
variable{el fa fe:DE}
def XC(c:Fc)(x:Xc)(Y:Dl):Prop:=c.xc x Y
def post{α:Type}(c:Fc)(r:Rs α)(k:α->Dl->Prop):Prop:=match r with|.ok a Y=>k a Y|.exc x Y=>XC c x Y|.stuck=>False
theorem bo{f}:post c (r.bind f) k↔post c r λa Y=>post c (f a Y) k:=by cases r<;>exact Iff.rfl
theorem aM(h:post c r k)(m:∀a Y,k a Y->k' a Y):post c r k':=by cases r with|ok a Y=>exact m a Y h|exc x Y=>exact h|stuck=>exact h
def tD(c:Fc)(f:DE):TE:=λZ H Q=>∃Y,Ok c Z Y H/\post c (f Y) λr P3=>∀v H',aK c Z Y H Z P3 H'->aL c Z P3 H H' v r->Q v H'
abbrev SE(X:Cx)(c:Fc)(e:Expr)(f:DE):Prop:=PE X e (tD c f)
def cw(c:Fc)(Z:St)(Y:Dl)(H:Hp)(v:V)(d:D):Prop:=Rep H (Av c Z Y) v d\/∃a,v=.ref a/\fF H (Av c Z Y) a d
abbrev BE:=Dl->Rs D
variable{fb fc:BE}
def UF(c:Fc)(f:BE):TE:=λZ H Q=>∃Y,Ok c Z Y H/\post c (f Y) λd P3=>∀v H',aK c Z Y H Z P3 H'->cw c Z P3 H' v d->Q v H'
abbrev SB(X:Cx)(c:Fc)(e:Expr)(f:BE):Prop:=PE X e (UF c f)
theorem PE.weak{t'}(h:PE X e t)(w:∀Z H Q,t' Z H Q->t Z H Q):PE X e t':=λpins s Z H Q I q=>h pins s Z H Q I (w Z H Q q)
def ag(f:DE):BE:=λY=>(f Y).bind λr P3=>.ok r.d P3
theorem aL.b(h:aL c Z Y Hs H v r):cw c Z Y H v r.d:=.inl h.rep
theorem MJ{c:Fc}{f:DE}(h:SE X c e f):SB X c e (ag f):=PE.weak h λZ H Q⟨Y,k,p⟩=>⟨Y,k,by unfold ag at p;rw[bo]at p;exact aM p λr P3 q v H' a s=>q v H' a s.b⟩
def aq(i:Nat):BE:=λY=>match Y[i]? with|some (some r)=>.ok r.d Y|_=>.stuck
def ae(i:Nat):DE:=λY=>match Y[i]? with|some 0#d=>.ok (.pure d) Y|some (some (.own d))=>.ok (.pure d) (Y.set i 0#d)|_=>.stuck
def eD(d:D):DE:=λY=>.ok (.pure d) Y
section
variable{c:Fc}
theorem MK(h:PE X e (dz i)):SB X c e (aq i):=PE.weak h λZ H Q⟨Y,k,p⟩=>by unfold aq at p;cases e:Y[i]? with|none=>rw[e]at p;exact p.elim|some o=>cases o with|none=>rw[e]at p;exact p.elim|some r=>rw[e]at p;cases r with|pure d=>obtain⟨v,e1,r⟩:=k.slot i d e;exact⟨v,e1,p v H (.refl k) (.inl r)⟩|own d=>obtain⟨a,e1,r,_⟩:=k.own i d e;exact⟨.ref a,e1,p _ H (.refl k) (.inr ⟨a,rfl,r⟩)⟩
theorem Own.sub(h:Own Z (Y.set i 0#d) a):Own Z Y a:=by
 obtain⟨j,d',e1,e2⟩:=h;by_cases hj:i=j;.subst hj;rw[Q6]at e1;simp at e1
 .rw[Wc hj]at e1;exact⟨j,d',e1,e2⟩
theorem Ok.give(k:Ok c Z Y H)(e:Y[i]?=some (some (.own d))):∃a,Z[i]?=some (some (.ref a))/\aK c Z Y H Z (Y.set i 0#d) H/\Rep H (Av c Z (Y.set i 0#d)) (.ref a) d:=by
 obtain⟨a,e1,r,q,nb⟩:=k.own i d e;have hi:i<Y.length:=(Wd.mp e).1;have sub:∀b,Av c Z (Y.set i 0#d) b->Av c Z Y b:=λb z=>z.elim .inl λz=>.inr z.sub;have na:¬Av c Z (Y.set i 0#d) a:=by
  rintro(z|⟨j,d',f1,f2⟩);.exact nb z
  .by_cases hj:i=j;.subst hj;rw[Q6]at f1;simp at f1
   .rw[Wc hj]at f1;exact hj (k.inj i j a d d' e f1 e1 f2)
 have rep:Rep H (Av c Z (Y.set i 0#d)) (.ref a) d:=(r.aS λb z=>.inl (sub b z)).rep na;refine⟨a,e1,⟨⟨k.keep,k.bd,k.dj,%[QY|k.len],λj d' f=>?_,λj d' f=>?_,λj l b d1 d2 f1 f2=>?_,k.pinned⟩,λy y w y=>w,λb z=>.inl z.sub,λy o w=>⟨o,w⟩⟩,rep⟩
 .by_cases hj:i=j;.subst hj;rw[WB hi]at f;cases f;exact⟨.ref a,e1,rep⟩
  .rw[Wc hj]at f;obtain⟨v,g1,g2⟩:=k.slot j d' f;exact⟨v,g1,g2.aS λb z=>.inl (sub b z)⟩
 .by_cases hj:i=j;.subst hj;rw[WB hi]at f;cases f
  .rw[Wc hj]at f;obtain⟨b,g1,g2,g3⟩:=k.own j d' f;exact⟨b,g1,g2.aS λb z=>.inl (sub b z),g3⟩
 .have h1:Y[j]?=some (some (.own d1)):=by
   by_cases hj:i=j;.subst hj;rw[WB hi]at f1;cases f1
   .rw[Wc hj]at f1;exact f1
  have h2:Y[l]?=some (some (.own d2)):=by
   by_cases hj:i=l;.subst hj;rw[WB hi]at f2;cases f2
   .rw[Wc hj]at f2;exact f2
  exact k.inj j l b d1 d2 h1 h2
theorem MM(h:PE X e (dz i)):SE X c e (ae i):=PE.weak h λZ H Q⟨Y,k,p⟩=>by unfold ae at p;cases e:Y[i]? with|none=>rw[e]at p;exact p.elim|some o=>cases o with|none=>rw[e]at p;exact p.elim|some r=>rw[e]at p;cases r with|pure d=>obtain⟨v,e1,r⟩:=k.slot i d e;exact⟨v,e1,p v H (.refl k) r⟩|own d=>obtain⟨a,e1,x,r⟩:=k.give e;exact⟨.ref a,e1,p _ H x r⟩
theorem BU{i j pos}:SE X c (.Constant (.int i) j pos) 3#i:=PE.weak Ao λZ H Q⟨Y,k,p⟩=>p _ H (.refl k) (.int i)
theorem BV{b j pos}:SE X c (.Constant (.bool b) j pos) (eD (.bl b)):=PE.weak u9 λZ H Q⟨Y,k,p⟩=>p _ H (.refl k) (.bl b)
theorem BW{j pos}:SE X c (.Constant .none j pos) (eD .aI):=PE.weak IH λZ H Q⟨Y,k,p⟩=>p _ H (.refl k) .aI
theorem BX{x j pos}(y:Tx)(h:x=toS y:=by decide+kernel):SE X c (.Constant (.str x) j pos) (eD (.str y)):=by subst h;exact PE.weak Ap λZ H Q⟨Y,k,p⟩=>p _ H (.refl k) (.str y)
theorem MN{i}(hg:Gl X x)(hm:X.mg x=some (.int i t))(hd:(x==("__debug__":Str))=false:=by decide):SE X c (.Name x pos) 3#i:=PE.weak (II (v:=.int i) hg hm ⟨t,rfl⟩ hd) λZ H Q⟨Y,k,p⟩=>p _ H (.refl k) (.int i)
end
open PySem.SeqAt
mutual noncomputable def aW:D->D->Bool
 |.aI,e=>match e with|.aI=>true|_=>false
 |.bl a,e=>match e with|.bl b=>a==b|.int b=>(if a then 1 else 0)==b|_=>false
 |.int a,e=>match e with|.int b=>a==b|.bl b=>a==if b then 1 else 0|_=>false
 |.str a,e=>match e with|.str b=>a==b|_=>false
 |.tup xs,e=>match e with|.tup ys=>dF xs ys|_=>false
 |.lst xs,e=>match e with|.lst ys=>dF xs ys|_=>false
 |_,_=>false noncomputable def dF:List D->List D->Bool|[],[]=>true|x::xs,y::ys=>aW x y&&dF xs ys|_,_=>false end
mutual noncomputable def flat:Nat->D->Bool|_,.aI=>true|_,.bl _=>true|_,.int _=>true|_,.str _=>true|0,.tup _=>false|n+1,.tup xs=>gX n xs|0,.lst _=>false|n+1,.lst xs=>gX n xs|_,.bP _=>false|_,.exc _ _=>false|_,.xd _=>false|_,.fn _=>false|_,.dic _=>false noncomputable def gX:Nat->List D->Bool|_,[]=>true|n,x::xs=>flat n x&&gX n xs end
theorem mv:∀{xs:List D}{x:D},gX n xs=true->x∈xs->flat n x=true
 |[],_,_,h=>by simp at h|y::ys,x,h,hm=>by
  simp only[gX,Wn]at h;rcases Wi.mp hm with e|hm;.rw[e];exact h.1
  .exact mv h.2 hm
theorem sr:∀{xs ys:List D}{f:Nat->Bool},xs.length=ys.length->(∀(j:Nat)x y,xs[j]?=some x->ys[j]?=some y->f j=aW x y)->(Wl xs.length).all f=dF xs ys|[],[],f,_,_=>rfl|[],y::ys,f,h,_=>by simp at h|x::xs,[],f,h,_=>by simp at h|x::xs,y::ys,f,h,hf=>by simp only[dF];rw[WE,List.range_succ_eq_map,Uj,hf 0 x y rfl rfl,Ur];rw[<-sr (f:=λj=>f (j+1)) (~~~h) λj a b e1 e2=>hf (j+1) a b (~~~e1) (~~~e2)];rfl
theorem su:∀{xs ys:List D},xs.length≠ys.length->dF xs ys=false|[],[],h=>absurd rfl h|[],y::ys,_=>rfl|x::xs,[],_=>rfl|x::xs,y::ys,h=>by simp only[dF];rw[su (xs:=xs) (ys:=ys) (by intro e;exact h #v[e])];simp
mutual theorem vV:∀{n:Nat}{d:D},flat n d=true->aW d d=true|_,.aI,_=>rfl|_,.bl b,_=>#v[aW]|_,.int i,_=>#v[aW]|_,.str x,_=>#v[aW]|0,.tup xs,h=>by simp[flat]at h|n+1,.tup xs,h=>by simp only[aW];exact vW (n:=n) (by simpa[flat]using h)|0,.lst xs,h=>by simp[flat]at h|n+1,.lst xs,h=>by simp only[aW];exact vW (n:=n) (by simpa[flat]using h)|_,.bP xs,h=>by simp[flat]at h|_,.exc n _,h=>by simp[flat]at h|_,.xd n,h=>by simp[flat]at h;theorem vW:∀{n:Nat}{ds:List D},gX n ds=true->dF ds ds=true|_,[],_=>rfl|n,x::xs,h=>by simp only[gX,Wn]at h;simp only[dF];rw[vV h.1,vW h.2];rfl;end
abbrev cx:Addr->Prop:=λj=>False
theorem Rep.un(h:Rep H O v d):Rep H cx v d:=Rep.aS h λj z=>z.elim
theorem cw.un(h:cw c Z Y H v d):Rep H cx v d:=by
 rcases h with h|⟨a,rfl,o⟩;.exact Rep.un h
 .exact(o.aS (O':=cx) λj z=>z.elim).rep λz=>z
theorem Inv.kX(I:Inv X pins Z H s)(h:Rd H a (.lst vs)):∃af:List Value,Vals vs af/\s.heap.IsList a af.toArray:=by obtain⟨af,r,p,_⟩:=I.list (.inl h);exact⟨af,r,p.isList⟩
theorem Inv.kY(I:Inv X pins Z H s)(h:H a=some (.tup vs)):∃af:List Value,Vals vs af/\s.heap.IsTuple a af.toArray:=by obtain⟨af,r,p,_⟩:=I.tuple (.of h);exact⟨af,r,p⟩
theorem pk(x y:Tx):((toS x:Str)==toS y)=(x==y):=by rw[QE];simp only[beq_iff_eq];exact⟨nH,λe=>by rw[e]⟩
theorem MO(A:Wp):A.in1.units=A.units+1:=rfl
theorem Rd.inj{u w}(h:Rd H a u)(k:Rd H a w)(hu:∀o z,u≠.frz o z)(hw:∀o z,w≠.frz o z):u=w:=by
 rcases h with h|⟨o,h⟩<;>rcases k with k|⟨o',k⟩;.rw[h]at k;exact WS k
 .rw[h]at k;exact absurd (WS k) (hu _ _)
 .rw[h]at k;exact absurd (WS k).symm (hw _ _)
 .rw[h]at k;have:=WS k;injection this
theorem aG.inj:∀{ds es:List D},vs.length=ds.length->vs.length=es.length->(∀(i:Nat)v d e,vs[i]?=some v->ds[i]?=some d->es[i]?=some e->d=e)->ds=es:=by
 intro ds es h1 h2 h;apply J5;intro i;by_cases hi:i<vs.length
 .have a1:i<ds.length:=by lia
  have a2:i<es.length:=by lia
  rw[W4 a1,W4 a2];rw[h i vs[i] ds[i] es[i] #v[hi] #v[a1] #v[a2]]
 .rw[WJ Y',WJ Y']
theorem Rep.inj{v:V}{d:D}(h:Rep H O v d):∀{n:Nat}{e:D},flat n d=true->flat n e=true->Rep H O v e->d=e:=by induction h with
 |aI=>intro n e _ _ k;cases k;rfl|bl b=>intro n e _ _ k;cases k;rfl|int i=>intro n e _ _ k;cases k;rfl|str x=>intro n e _ _ k;generalize hz:V.str (toS x)=z at k;cases k with|str y=>injection hz with hz;rw[nH hz]|_=>cases hz
 |@tup a vs ds h1 h2 h3 h4 ih=>intro n e fd fe k;cases n with|zero=>simp[flat]at fd|succ n=>simp only[flat]at fd;cases k with|@tup _ ws es k1 k2 k3 k4=>simp only[flat]at fe;have e1:=Rd.inj (.inl h2) (.inl k2) (λj j z=>by cases z) (λj j z=>by cases z);injection e1 with e1;subst e1;rw[aG.inj h3 k3 λi v d e q1 q2 q3=>ih i v d q1 q2 (mv fd (WQ q2)) (mv fe (WQ q3)) (k4 i v e q1 q3)]|lst k1 k2=>exact absurd (Rd.inj (.inl h2) k2 (λj j z=>by cases z) λj j z=>by cases z) λz=>by cases z|bP k1 k2=>exact absurd (Rd.inj (.inl h2) (.inl k2) (λj j z=>by cases z) λj j z=>by cases z) λz=>by cases z|exc k1 k2=>simp[flat]at fe|xd k1 k2=>simp[flat]at fe|fn _=>simp[flat]at fe|dic _=>simp[flat]at fe
 |@lst a vs ds h1 h2 h3 h4 ih=>intro n e fd fe k;cases n with|zero=>simp[flat]at fd|succ n=>simp only[flat]at fd;cases k with|@lst _ ws es k1 k2 k3 k4=>simp only[flat]at fe;have e1:=Rd.inj h2 k2 (λj j z=>by cases z) (λj j z=>by cases z);injection e1 with e1;subst e1;rw[aG.inj h3 k3 λi v d e q1 q2 q3=>ih i v d q1 q2 (mv fd (WQ q2)) (mv fe (WQ q3)) (k4 i v e q1 q3)]|tup k1 k2=>exact absurd (Rd.inj h2 (.inl k2) (λj j z=>by cases z) λj j z=>by cases z) λz=>by cases z|bP k1 k2=>exact absurd (Rd.inj h2 (.inl k2) (λj j z=>by cases z) λj j z=>by cases z) λz=>by cases z|exc k1 k2=>simp[flat]at fe|xd k1 k2=>simp[flat]at fe|fn _=>simp[flat]at fe|dic _=>simp[flat]at fe
 |bP h1 h2 h3 h4 ih=>intro n e fd _ _;cases n<;>simp[flat]at fd|exc h1 h2=>intro n e fd _ _;cases n<;>simp[flat]at fd|xd h1 h2=>intro n e fd _ _;cases n<;>simp[flat]at fd|fn _=>intro n e fd _ _;cases n<;>simp[flat]at fd|dic h1 h2=>intro n e fd _ _;cases n<;>simp[flat]at fd
def vX(H:Hp)(s:W1)(n:Nat):Prop:=∀(A:Wp)(x y:V)(u w:Value)(d e:D),A.units+n+1<WK->flat n d=true->flat n e=true->Rep H cx x d->Rep H cx y e->RelV x u->RelV y w->EqAt A s u w (aW d e)
def mw(H:Hp)(s:W1)(A:Wp)(n:Nat):Prop:=match n with|0=>True|m+1=>A.units+m+2<WK/\vX H s m
def sv(ds es:List D)(j:Nat):Bool:=match ds[j]?,es[j]? with|some p,some q=>aW p q|_,_=>false
theorem sx{es}(j:Nat)(p q:D)(e1:ds[j]?=some p)(e2:es[j]?=some q):sv ds es j=aW p q:=by unfold sv;rw[e1,e2]
theorem sy{ws:List V}{es:List D}{fS:List Value}(hu:A.units+n+2<WK)(ih:vX H s n)(r1:Vals vs af)(r2:Vals ws fS)(l1:vs.length=ds.length)(l2:ws.length=es.length)(g1:∀(i:Nat)v d,vs[i]?=some v->ds[i]?=some d->Rep H cx v d)(g2:∀(i:Nat)v d,ws[i]?=some v->es[i]?=some d->Rep H cx v d)(f1:gX n ds=true)(f2:gX n es=true):∀j(h1:j<af.toArray.size)(h2:j<fS.toArray.size),EqAt A.in1 s af.toArray[j] fS.toArray[j] (sv ds es j):=by
 intro j h1 h2;have e1:=r1.length;have e2:=r2.length;simp at h1 h2;have hd:j<ds.length:=by lia
 have he:j<es.length:=by lia
 have hv:j<vs.length:=by lia
 have hw:j<ws.length:=by lia
 obtain⟨u',hu',ru'⟩:=r1.get (i:=j) (x:=vs[j]) #v[hv];obtain⟨w',hw',rw''⟩:=r2.get (i:=j) (x:=ws[j]) #v[hw];have eu:af.toArray[j]=u':=by simpa[h1]using hu'
 have ew:fS.toArray[j]=w':=by simpa[h2]using hw'
 rw[eu,ew,sx j ds[j] es[j] #v[hd] #v[he]];exact ih A.in1 vs[j] ws[j] u' w' ds[j] es[j] (by rw[MO];lia) (mv f1 (WU hd)) (mv f2 (WU he)) (g1 j _ _ #v[hv] #v[hd]) (g2 j _ _ #v[hw] #v[he]) ru' rw''
theorem BY{m es}(h1:n=ds.length)(h2:m=es.length):((Wl (min n m)).all (sv ds es)&&n==m)=dF ds es:=by
 subst h1 h2;by_cases hl:ds.length=es.length;.rw[<-hl,Nat.min_self,sr hl sx];simp
 .rw[su hl];simp[hl]
theorem MP{es}(I:Inv X pins Z H s)(n:Nat)(A:Wp)(bC:A.units<WK)(t1:s.heap.IsTuple a af.toArray)(t2:s.heap.IsTuple b fS.toArray)(r1:Vals vs af)(r2:Vals ws fS)(l1:vs.length=ds.length)(l2:ws.length=es.length)(g1:∀(i:Nat)v d,vs[i]?=some v->ds[i]?=some d->Rep H cx v d)(g2:∀(i:Nat)v d,ws[i]?=some v->es[i]?=some d->Rep H cx v d)(f1:flat n (.tup ds)=true)(f2:flat n (.tup es)=true)(ih:mw H s A n):RcAt A s (.ref a) (.ref b) (dF ds es):=by cases n with|zero=>simp[flat]at f1|succ n=>simp only[flat]at f1 f2;obtain⟨hu,ih⟩:=ih;have q:=RcAt.tuples (A:=A) (s:=s) t1 t2 bC (sy hu ih r1 r2 l1 l2 g1 g2 f1 f2);rw[BY (by have:=r1.length;simp;lia) (by have:=r2.length;simp;lia)]at q;exact q
theorem MQ{es}(I:Inv X pins Z H s)(n:Nat)(A:Wp)(bC:A.units<WK)(t1:s.heap.IsTuple a af.toArray)(t2:s.heap.IsTuple b fS.toArray)(r1:Vals vs af)(r2:Vals ws fS)(l1:vs.length=ds.length)(l2:ws.length=es.length)(g1:∀(i:Nat)v d,vs[i]?=some v->ds[i]?=some d->Rep H cx v d)(g2:∀(i:Nat)v d,ws[i]?=some v->es[i]?=some d->Rep H cx v d)(f1:flat n (.tup ds)=true)(f2:flat n (.tup es)=true)(ih:mw H s A n):RcNeAt A s (.ref a) (.ref b) !dF ds es:=by cases n with|zero=>simp[flat]at f1|succ n=>simp only[flat]at f1 f2;obtain⟨hu,ih⟩:=ih;have q:=RcNeAt.tuples (A:=A) (s:=s) t1 t2 bC (sy hu ih r1 r2 l1 l2 g1 g2 f1 f2);rw[BY (by have:=r1.length;simp;lia) (by have:=r2.length;simp;lia)]at q;exact q
theorem MS{es}(I:Inv X pins Z H s)(n:Nat)(A:Wp)(bC:A.units<WK)(t1:s.heap.IsList a af.toArray)(t2:s.heap.IsList b fS.toArray)(r1:Vals vs af)(r2:Vals ws fS)(l1:vs.length=ds.length)(l2:ws.length=es.length)(g1:∀(i:Nat)v d,vs[i]?=some v->ds[i]?=some d->Rep H cx v d)(g2:∀(i:Nat)v d,ws[i]?=some v->es[i]?=some d->Rep H cx v d)(f1:flat n (.lst ds)=true)(f2:flat n (.lst es)=true)(ih:mw H s A n):RcAt A s (.ref a) (.ref b) (dF ds es):=by cases n with|zero=>simp[flat]at f1|succ n=>
 simp only[flat]at f1 f2;obtain⟨hu,ih⟩:=ih;have z1:af.toArray.size=ds.length:=by have:=r1.length;simp;lia
 have z2:fS.toArray.size=es.length:=by have:=r2.length;simp;lia
 by_cases hl:ds.length=es.length;.have q:=RcAt.lists (A:=A) (s:=s) t1 t2 %[z1,z2|hl] bC (sy hu ih r1 r2 l1 l2 g1 g2 f1 f2);rw[z1,sr hl sx]at q;exact q
 .rw[su hl];exact RcAt.lists_lengths (A:=A) (s:=s) t1 t2 (by rw[z1,z2];simpa using hl) bC
theorem MT{es}(I:Inv X pins Z H s)(n:Nat)(A:Wp)(bC:A.units<WK)(t1:s.heap.IsList a af.toArray)(t2:s.heap.IsList b fS.toArray)(r1:Vals vs af)(r2:Vals ws fS)(l1:vs.length=ds.length)(l2:ws.length=es.length)(g1:∀(i:Nat)v d,vs[i]?=some v->ds[i]?=some d->Rep H cx v d)(g2:∀(i:Nat)v d,ws[i]?=some v->es[i]?=some d->Rep H cx v d)(f1:flat n (.lst ds)=true)(f2:flat n (.lst es)=true)(ih:mw H s A n):RcNeAt A s (.ref a) (.ref b) !dF ds es:=by cases n with|zero=>simp[flat]at f1|succ n=>
 simp only[flat]at f1 f2;obtain⟨hu,ih⟩:=ih;have z1:af.toArray.size=ds.length:=by have:=r1.length;simp;lia
 have z2:fS.toArray.size=es.length:=by have:=r2.length;simp;lia
 by_cases hl:ds.length=es.length;.have q:=RcNeAt.lists (A:=A) (s:=s) t1 t2 %[z1,z2|hl] bC (sy hu ih r1 r2 l1 l2 g1 g2 f1 f2);rw[z1,sr hl sx]at q;exact q
 .rw[su hl];exact RcNeAt.lists_lengths (A:=A) (s:=s) t1 t2 (by rw[z1,z2];simpa using hl) bC
theorem vY(I:Inv X pins Z H s)(n:Nat)(A:Wp)(x y:V)(u w:Value)(d e:D)(bC:A.units<WK)(fd:flat n d=true)(fe:flat n e=true)(ih:mw H s A n)(rx:Rep H cx x d)(ry:Rep H cx y e)(ru:RelV x u)(bU:RelV y w):RcAt A s u w (aW d e):=by cases rx with
 |tup h1 h2 h3 h4=>cases ru;obtain⟨its1,r1,t1⟩:=Inv.kY I h2;cases ry with|tup k1 k2 k3 k4=>cases bU;obtain⟨its2,r2,t2⟩:=Inv.kY I k2;simp only[aW];exact MP I n A bC t1 t2 r1 r2 h3 k3 h4 k4 fd fe ih|lst k1 k2 k3 k4=>cases bU;obtain⟨its2,r2,t2⟩:=Inv.kX I k2;simp only[aW];exact RcAt.tuple_list t1 t2 bC|_=>first|(cases n<;>simp[flat]at fe;done)|((first|obtain⟨t2,rfl⟩:=bU|cases bU);simp only[aW];with_reducible first|exact RcAt.tuple_none t1 bC|exact RcAt.tuple_bool _ t1 bC|exact RcAt.tuple_int _ _ t1 bC|exact RcAt.tuple_str _ _ t1 bC)
 |lst h1 h2 h3 h4=>cases ru;obtain⟨its1,r1,t1⟩:=Inv.kX I h2;cases ry with|tup k1 k2 k3 k4=>cases bU;obtain⟨its2,r2,t2⟩:=Inv.kY I k2;simp only[aW];exact RcAt.list_tuple t1 t2 bC|lst k1 k2 k3 k4=>cases bU;obtain⟨its2,r2,t2⟩:=Inv.kX I k2;simp only[aW];exact MS I n A bC t1 t2 r1 r2 h3 k3 h4 k4 fd fe ih|_=>first|(cases n<;>simp[flat]at fe;done)|((first|obtain⟨t2,rfl⟩:=bU|cases bU);simp only[aW];with_reducible first|exact RcAt.list_none t1 bC|exact RcAt.list_bool _ t1 bC|exact RcAt.list_int _ _ t1 bC|exact RcAt.list_str _ _ t1 bC)
 |_=>
 first|(cases n<;>simp[flat]at fd;done)|skip
 all_goals first|obtain⟨t1,rfl⟩:=ru|cases ru
 all_goals cases ry with
 |tup k1 k2 k3 k4=>cases bU;obtain⟨its2,r2,t2⟩:=Inv.kY I k2;simp only[aW];with_reducible first|exact RcAt.none_tuple t2 bC|exact RcAt.bool_tuple _ t2 bC|exact RcAt.int_tuple _ _ t2 bC|exact RcAt.str_tuple _ _ t2 bC
 |lst k1 k2 k3 k4=>cases bU;obtain⟨its2,r2,t2⟩:=Inv.kX I k2;simp only[aW];with_reducible first|exact RcAt.none_list t2 bC|exact RcAt.bool_list _ t2 bC|exact RcAt.int_list _ _ t2 bC|exact RcAt.str_list _ _ t2 bC
 |_=>first|(cases n<;>simp[flat]at fe;done)|((first|obtain⟨t2,rfl⟩:=bU|cases bU);simp only[aW];with_reducible first|exact RcAt.none_none|exact RcAt.none_bool _|exact RcAt.none_int _ _|exact RcAt.none_str _ _|exact RcAt.bool_none _|exact RcAt.bool_bool _ _|exact RcAt.bool_int _ _ _|exact RcAt.bool_str _ _ _|exact RcAt.int_none _ _|exact RcAt.int_bool _ _ _|exact RcAt.int_int _ _ _ _|exact RcAt.int_str _ _ _ _|exact RcAt.str_none _ _|exact RcAt.str_bool _ _ _|exact RcAt.str_int _ _ _ _|(rw[<-pk];exact RcAt.str_str _ _ _ _))
theorem MU(I:Inv X pins Z H s)(n:Nat)(A:Wp)(x y:V)(u w:Value)(d e:D)(bC:A.units<WK)(fd:flat n d=true)(fe:flat n e=true)(ih:mw H s A n)(rx:Rep H cx x d)(ry:Rep H cx y e)(ru:RelV x u)(bU:RelV y w):RcNeAt A s u w !aW d e:=by cases rx with
 |tup h1 h2 h3 h4=>cases ru;obtain⟨its1,r1,t1⟩:=Inv.kY I h2;cases ry with|tup k1 k2 k3 k4=>cases bU;obtain⟨its2,r2,t2⟩:=Inv.kY I k2;simp only[aW];exact MQ I n A bC t1 t2 r1 r2 h3 k3 h4 k4 fd fe ih|lst k1 k2 k3 k4=>cases bU;obtain⟨its2,r2,t2⟩:=Inv.kX I k2;simp only[aW,Jd];exact RcNeAt.tuple_list t1 t2 bC|_=>first|(cases n<;>simp[flat]at fe;done)|((first|obtain⟨t2,rfl⟩:=bU|cases bU);simp only[aW,Jd,JD];with_reducible first|exact RcNeAt.tuple_none t1 bC|exact RcNeAt.tuple_bool _ t1 bC|exact RcNeAt.tuple_int _ _ t1 bC|exact RcNeAt.tuple_str _ _ t1 bC)
 |lst h1 h2 h3 h4=>cases ru;obtain⟨its1,r1,t1⟩:=Inv.kX I h2;cases ry with|tup k1 k2 k3 k4=>cases bU;obtain⟨its2,r2,t2⟩:=Inv.kY I k2;simp only[aW,Jd];exact RcNeAt.list_tuple t1 t2 bC|lst k1 k2 k3 k4=>cases bU;obtain⟨its2,r2,t2⟩:=Inv.kX I k2;simp only[aW];exact MT I n A bC t1 t2 r1 r2 h3 k3 h4 k4 fd fe ih|_=>first|(cases n<;>simp[flat]at fe;done)|((first|obtain⟨t2,rfl⟩:=bU|cases bU);simp only[aW,Jd,JD];with_reducible first|exact RcNeAt.list_none t1 bC|exact RcNeAt.list_bool _ t1 bC|exact RcNeAt.list_int _ _ t1 bC|exact RcNeAt.list_str _ _ t1 bC)
 |_=>
 first|(cases n<;>simp[flat]at fd;done)|skip
 all_goals first|obtain⟨t1,rfl⟩:=ru|cases ru
 all_goals cases ry with
 |tup k1 k2 k3 k4=>cases bU;obtain⟨its2,r2,t2⟩:=Inv.kY I k2;simp only[aW,Jd,JD];with_reducible first|exact RcNeAt.none_tuple t2 bC|exact RcNeAt.bool_tuple _ t2 bC|exact RcNeAt.int_tuple _ _ t2 bC|exact RcNeAt.str_tuple _ _ t2 bC
 |lst k1 k2 k3 k4=>cases bU;obtain⟨its2,r2,t2⟩:=Inv.kX I k2;simp only[aW,Jd,JD];with_reducible first|exact RcNeAt.none_list t2 bC|exact RcNeAt.bool_list _ t2 bC|exact RcNeAt.int_list _ _ t2 bC|exact RcNeAt.str_list _ _ t2 bC
 |_=>first|(cases n<;>simp[flat]at fe;done)|((first|obtain⟨t2,rfl⟩:=bU|cases bU);simp only[aW,Jd,JD];with_reducible first|exact RcNeAt.none_none|exact RcNeAt.none_bool _|exact RcNeAt.none_int _ _|exact RcNeAt.none_str _ _|exact RcNeAt.bool_none _|exact RcNeAt.bool_bool _ _|exact RcNeAt.bool_int _ _ _|exact RcNeAt.bool_str _ _ _|exact RcNeAt.int_none _ _|exact RcNeAt.int_bool _ _ _|exact RcNeAt.int_int _ _ _ _|exact RcNeAt.int_str _ _ _ _|exact RcNeAt.str_none _ _|exact RcNeAt.str_bool _ _ _|exact RcNeAt.str_int _ _ _ _|(rw[<-pk];exact RcNeAt.str_str _ _ _ _))
theorem BZ{w}(h:RcAt A s u w k)(hs:u=w->k=true)(hf:∀b t,u≠Value.float b t):EqAt A s u w k:=λprog w' E Q hq=>by
 unfold eqBool;refine WP ?_;refine wpAny_ite_split (λpq=>?_) λj=>?_;.have e:=eq_of_beq pq;rw[hs e]at hq;exact W0 (QF (W3 hq))
 .cases u with|float b t=>exact absurd rfl (hf b t)|_=>exact W0 (h prog w' E _ (Qq hq))
theorem B0(r:Rep H cx x d)(ru:RelV x u)(b:UInt64)(t:Tok):u≠Value.float b t:=by intro e;subst e;cases r<;>first|(cases ru;done)|(obtain⟨t',e⟩:=ru;cases e)
theorem MV(I:Inv X pins Z H s)(n:Nat):vX H s n:=by induction n with|zero=>intro A x y u w d e hu fd fe rx ry ru bU;refine BZ (vY I 0 A x y u w d e Y' fd fe trivial rx ry ru bU) (λh=>?_) (B0 rx ru);subst h;have:=ru.inj bU;subst this;rw[Rep.inj rx fd fe ry];exact vV fe|succ n ih=>intro A x y u w d e hu fd fe rx ry ru bU;refine BZ (vY I (n+1) A x y u w d e Y' fd fe ⟨Y',ih⟩ rx ry ru bU) (λh=>?_) (B0 rx ru);subst h;have:=ru.inj bU;subst this;rw[Rep.inj rx fd fe ry];exact vV fe
theorem vZ(I:Inv X pins Z H s):∀n:Nat,A.units+n+1<WK->mw H s A n|0,_=>trivial|n+1,h=>⟨Y',MV I n⟩
def B1:R2:=λx y H Q=>∃d e,Rep H cx x d/\Rep H cx y e/\flat 50 d=true/\flat 50 e=true/\Q (.bl (aW d e)) H
def B2:R2:=λx y H Q=>∃d e,Rep H cx x d/\Rep H cx y e/\flat 50 d=true/\flat 50 e=true/\Q (.bl !aW d e) H
theorem v3(hu:X.A.units+64<WK):a_ X (WC .Eq) B1:=by intro pins s Z H x y v u Q I rx ry h;obtain⟨d,e,r1,r2,f1,f2,q⟩:=h;exact vY I 50 X.A x y v u d e Y' f1 f2 (vZ I 50 Y') r1 r2 rx ry X.prog X.w X.xe _ ⟨.bl _,H,I,rfl,q⟩
theorem sA(hu:X.A.units+64<WK):a_ X (WC .NotEq) B2:=by intro pins s Z H x y v u Q I rx ry h;obtain⟨d,e,r1,r2,f1,f2,q⟩:=h;exact MU I 50 X.A x y v u d e Y' f1 f2 (vZ I 50 Y') r1 r2 rx ry X.prog X.w X.xe _ ⟨.bl _,H,I,rfl,q⟩
def br{α:Type}(xs:List α)(lo hi:Option Int):List α:=(xs.drop (aO xs.length 0 lo)).take (aO xs.length xs.length hi-aO xs.length 0 lo)
theorem B3(xs:List V)(lo hi:Option Int):br xs lo hi=kR xs lo hi:=rfl
theorem MW(xs:List α)(lo hi:Option Int):(br xs lo hi).length<=xs.length:=by unfold br;rw[Um,List.length_drop];lia
theorem aG.cut(lo hi:Option Int)(h:aG H O vs ds):aG H O (br vs lo hi) (br ds lo hi):=by unfold br;rw[h.1];exact aG.take _ (aG.drop _ h)
theorem MX{α:Type}{xs:List α}(h:aO xs.length 0 lo=0/\aO xs.length xs.length hi=xs.length):br xs lo hi=xs:=by unfold br;rw[h.1,h.2];simp
theorem MY{t:Addr}{Q:Value->W1->Prop}(ht:IsTup s.heap t items)(hs:s.heap.IsSliceOf sl vl vu .none)(pl:IsPart vl lo)(pu:IsPart vu hi)(hw:aO items.size 0 lo=0/\aO items.size items.size hi=items.size)(h:Q (.ref t) s):W8 4#0 A (JV (.ref t) (.ref sl)) Q E s:=by
 obtain⟨os,hos,hcs,hds⟩:=id hs;have oR:s.TypeIs (.ref sl) "slice":=⟨os,hos,hcs⟩;unfold JV;try with_reducible refine WP ?_
 first|refine W0 (W3 ?_)|skip
 refine W0 (Ue ht.typeIs Z' ?_);refine W0 (Qu (name:=Str.ofString "__getitem__") ht.typeIs Qj (Qm Qj ht.typeIs entry_tuple_getitem ?_ (args_tuple_getitem _ _)));show W8 _ _ (Jn (.ref t)>>=_) _ _ s;refine W0 (tupleItemsOf_ ht ?_);refine W0 (QX oR ?_);rw[if_pos Z'];refine W0 (Bb hs pl pu ?_);show W8 _ _ (if(((aO items.size 0 lo:Nat):Int)==0&&(1:Int)==1&&aO items.size items.size hi-aO items.size 0 lo==items.size)=true then _ else _) _ _ s;rw[hw.1,hw.2];rw[if_pos Zw];refine W0 (m:=Builtin.Tuple.tupleIsExact (.ref t)) ?_;unfold Builtin.Tuple.tupleIsExact;refine W0 (QX ht.typeIs (W3 ?_));rw[if_pos Z'];exact W0 (QF (W0 (W3 (W3 ⟨_,rfl,W3 h⟩))))
def B4(K:W2):V->Option Int->Option Int->Hp->VK->Prop:=λx lo hi H Q=>∃a xs,x=.ref a/\cA K H a xs/\((aO xs.length 0 lo=0/\aO xs.length xs.length hi=xs.length)->Q (.ref a) H)/\(¬(aO xs.length 0 lo=0/\aO xs.length xs.length hi=xs.length)->∀p,H p=none->Q (.ref p) (upd H p (.tup (kR xs lo hi))))
theorem MZ:jv X (B4 X.K):=by
 intro pins s Z H x v vl vu lo hi sl Q I rx hs pl pu h;obtain⟨a,xs,rfl,hx,q1,q2⟩:=h;by_cases hw:aO xs.length 0 lo=0/\aO xs.length xs.length hi=xs.length;.cases rx;obtain⟨af,r,ht,hz⟩:=I.tuple hx;have hlen:af.toArray.size=xs.length:=%[We|r.length.symm];refine⟨"tuple",_,PyProof.Rows.slot_tuple_getitem.lookup,ht.typeIs,?_⟩;exact MY ht hs pl pu %[hlen|hw] ⟨.ref a,H,I,rfl,q1 hw⟩
 .exact Lk pins s Z H (.ref a) v vl vu lo hi sl Q I rx hs pl pu ⟨a,xs,rfl,hx,hw,q2 hw⟩
theorem M0(a b:Nat):sliceRange (a:Int) (b:Int) 1=(Wl (b-a)).map λk=>a+k:=by
 have h0:((1:Int)>0)=True:=by simp
 unfold sliceRange;simp only[h0,if_true];by_cases bz:(a:Int)<(b:Int)
 .rw[if_pos bz];have e3:(((b:Int)-(a:Int)+1-1)/1).toNat=b-a:=by rw[Int.ediv_one];lia
  rw[e3];refine JX λk j=>?_;lia
 .rw[if_neg bz];have:b-a=0:=by lia
  rw[this];rfl
theorem B5(lo hi:Option Int)(n:Nat):Q8 lo hi 1 n=(Wl (aO n n hi-aO n 0 lo)).map λk=>aO n 0 lo+k:=by
 have c:∀(i:Int)(d:Nat),max 0 (min (if i<0 then i+(n:Int)else i) (n:Int))=((aO n d (some i):Nat):Int):=by
  intro i d;show max 0 (min (if i<0 then i+(n:Int)else i) (n:Int))=(((if i<0 then(i+(n:Int)).toNat else min i.toNat n):Nat):Int);by_cases hi:i<0;.simp only[if_pos hi];lia
  .simp only[if_neg hi];lia
 have h0:((1:Int)>0)=True:=by simp
 rw[<-M0];unfold Q8;simp only[h0,if_true];cases lo with
 |none=>cases hi with|none=>rfl|some j=>show sliceRange 0 (max 0 (min (if j<0 then j+(n:Int)else j) (n:Int))) 1=_;rw[c j n];rfl
 |some i=>cases hi with|none=>show sliceRange (max 0 (min (if i<0 then i+(n:Int)else i) (n:Int))) (n:Int) 1=_;rw[c i 0];rfl|some j=>grind
theorem M1(x:Tx)(lo hi:Option Int):(⟨((Q8 lo hi 1 (toS x).length).filterMap ((toS x).cps[.]?)).toArray⟩:Str)=toS (br x lo hi):=by unfold toS;congr 1;rw[B5];have:=pick_run x.toArray (aO x.length 0 lo) (aO x.length x.length hi-aO x.length 0 lo);have hl:({cps:=x.toArray}:Str).length=x.length:=#v[Str.length];rw[hl];rw[this];rfl
def B6:V->Option Int->Option Int->Hp->VK->Prop:=λx lo hi H Q=>∃z:Tx,x=.str (toS z)/\z.length<=W7/\Q (.str (toS (br z lo hi))) H
theorem B7(p:IsPart v o):∃q:Option (Int×Tok),v=partValue q/\q.map (·.1)=o:=by cases p with|none=>exact⟨none,rfl,rfl⟩|int i t=>exact⟨some (i,t),rfl,rfl⟩
theorem M3:jv X B6:=by
 intro pins s Z H x v vl vu lo hi sl Q I rx hs pl pu h;obtain⟨z,rfl,hz,q⟩:=h;obtain⟨t,rfl⟩:=rx;obtain⟨l,rfl,el⟩:=B7 pl;obtain⟨u,rfl,eu⟩:=B7 pu;obtain⟨o,ho,hc,hd⟩:=hs;refine⟨"str",_,F.slot_str_getitem.lookup,typeIs_str s _ t,?_⟩;refine wpAny_getItem_str_slice (l:=l) (u:=u) (st:=none) ⟨o,ho,hc,hd⟩ rfl ?_;unfold sliceMade;have e:slicePicked (toS z) l u none=Q8 lo hi 1 (toS z).length:=by unfold slicePicked;rw[el,eu];rfl
 rw[e];by_cases hw:(((none:Option (Int×Tok)).map (·.1)).getD 1==1&&(Q8 lo hi 1 (toS z).length).length==(toS z).length)=true
 .rw[if_pos hw];refine⟨.str (toS (br z lo hi)),H,I,⟨t,?_⟩,q⟩;congr 1;rw[Wn]at hw;have v7:=eq_of_beq hw.2;rw[B5,Wq,List.length_range,i4]at v7;have h1:=vp z.length 0 (Q2 _) lo;have h2:=vp z.length z.length (W5 _) hi;unfold br;congr 1;by_cases h0:z.length=0;.grind
  .have a1:aO z.length 0 lo=0:=by lia
   rw[a1]at v7⊢;rw[v7];simp
 .rw[if_neg hw];show Made.post (.str _) _ _;rw[M1];exact⟨%[i4|WF (MW z lo hi) hz],.str (toS (br z lo hi)),H,I.tok _,⟨_,rfl⟩,q⟩
def kZ(X:Cx)(r:V->Hp->VK->Prop):Prop:=∀(pins:List (Addr×Obj))(s:W1)(Z:St)(H:Hp)(x:V)(v:Value)(t:Tok)(sl:Addr)(Q:VK),Inv X pins Z H s->RelV x v->s.heap.IsSliceOf sl .none .none (.int (-1) t)->r x H Q->∃T id,typeLookup (.type T) "__getitem__"=pure (some (.builtin id))/\s.TypeIs v T/\W8 5#0 X.A (JV v (.ref sl)) (EP X pins Z Q) X.xe s
theorem kZ.or(h:kZ X r)(h':kZ X r'):kZ X λx H Q=>r x H Q\/r' x H Q:=by
 intro pins s Z H x v t sl Q I rx hs q;rcases q with q|q;.exact h pins s Z H x v t sl Q I rx hs q
 .exact h' pins s Z H x v t sl Q I rx hs q
theorem M4{r:V->Hp->VK->Prop}{st:Expr}{p2:Pos}(hr:kZ X r)(he:PE X e te)(cL:PE X st (tC (.int (-1)))):PE X (.Subscript e (.Slice none none (some st) p2) pos) (ve r te):=by intro pins s Z H Q I h;refine Subscript_ (aN (he pins s Z H _ I h) λv s1 hh=>?_);obtain⟨x,H1,I1,r1,q1⟩:=hh;refine wpAny_Slice ?_;rw[evalPart_none,evalPart_some];refine W3 (W3 ?_);refine aN (cL pins s1 Z H1 (λy H2=>y=.int (-1)/\H2=H1) I1 ⟨rfl,rfl⟩) λu s2 hh=>?_;obtain⟨y,H2,I2,r2,ey,eh⟩:=hh;subst ey eh;obtain⟨t,rfl⟩:=r2;have I4:Inv X pins Z H2 {s2 with heap:=s2.heap.push {cls:=.type "slice",data:=.fields #[.none,.none,.int (-1) t]}}:=I2.kept (t':=s2.toks) λb ob q=>W6 _ q;obtain⟨T,id,hT,ht,hg⟩:=hr pins {s2 with heap:=s2.heap.push {cls:=.type "slice",data:=.fields #[.none,.none,.int (-1) t]}} Z H2 x v t s2.heap.objs.size Q I4 r1 (Heap.IsSliceOf.new ..) q1;show W8 5#0 X.A (subscriptTail e (.Slice none none (some st) p2) v (.ref s2.heap.objs.size)) (EP X pins Z Q) X.xe {s2 with heap:=s2.heap.push {cls:=.type "slice",data:=.fields #[.none,.none,.int (-1) t]}};exact tail_any (ops:=[v,.ref s2.heap.objs.size]) ht hT hg (by with_unfolding_all rfl)
theorem M5{X}{pos pos':Pos}{j}:PE X (.UnaryOp .USub (.Constant (.int 1) j pos') pos) (tC (.int (-1))):=PE.weak (AI AO Ao) λZ H Q h=>⟨1,rfl,h⟩
theorem M6(n:Nat):Q8 none none (-1) n=(Wl n).map λk=>n-1-k:=by
 unfold Q8;have h0:¬(-1:Int)>0:=by decide
 simp only[h0,if_false];exact PySem.W.krv_sliceRange n
theorem M7:kZ X λx H Q=>∃z:Tx,x=.str (toS z)/\z.length<=W7/\Q (.str (toS z.reverse)) H:=by
 intro pins s Z H x v t sl Q I rx hs h;obtain⟨z,rfl,hz,q⟩:=h;obtain⟨t',rfl⟩:=rx;obtain⟨o,ho,hc,hd⟩:=hs;refine⟨"str",_,F.slot_str_getitem.lookup,typeIs_str s _ t',?_⟩;refine wpAny_getItem_str_slice (l:=none) (u:=none) (st:=some (-1,t)) ⟨o,ho,hc,hd⟩ (by show((-1:Int)==0)=false;decide) ?_;unfold sliceMade;rw[if_neg (by grind)];have e:(⟨((slicePicked (toS z) none none (some (-1,t))).filterMap ((toS z).cps[.]?)).toArray⟩:Str)=toS z.reverse:=by unfold slicePicked;show(⟨((Q8 none none (-1) (toS z).length).filterMap ((toS z).cps[.]?)).toArray⟩:Str)=_;rw[M6,PySem.W.krv_range,List.filterMap_reverse];have:(toS z).length=(toS z).cps.size:=rfl;rw[this,PySem.W.krv_all];simp[toS]
 show Made.post (.str _) _ _;rw[e];exact⟨%[i4,JY|hz],.str (toS z.reverse),H,I.tok _,⟨_,rfl⟩,q⟩
theorem M8:kZ X λx H Q=>∃a xs,x=.ref a/\bN X.K H a xs/\∀p,H p=none->Q (.ref p) (upd H p (.lst xs.reverse)):=by intro pins s Z H x v t sl Q I rx hs h;obtain⟨a,xs,rfl,hx,q⟩:=h;cases rx;obtain⟨af,r,ht,hz⟩:=I.list hx;have hlen:=r.length;refine⟨"list",_,slot_list_getitem.lookup,ht.isList.typeIs,?_⟩;refine wpAny_getItem_list_slice ht.isList hs .none .none (.int (-1) t) Z' ?_ (by rw[We]<;>lia);rw[PySem.W.krv_pick];exact⟨.ref s.heap.objs.size,_,I.Bq (t':=s.toks) r.reverse %[JY|hz],rfl,q _ I.fresh⟩
theorem M9:a_ X (Qw .Add) λx y H Q=>∃a b ys,x=.ref a/\y=.ref b/\cA X.K H a []/\cA X.K H b ys/\Q (.ref b) H:=by intro pins s Z H x y v u Q I rx ry h;obtain⟨a,b,ys,rfl,rfl,ha,hb,q⟩:=h;cases rx;cases ry;obtain⟨af,r1,p1,_⟩:=I.tuple ha;obtain⟨its2,r2,p2,_⟩:=I.tuple hb;cases r1;obtain⟨⟨cls,dd,data,sl⟩,ho,hc,n,hd⟩:=id p1;obtain⟨⟨cls2,mf,data2,kQ⟩,ho2,hc2,n2,hd2⟩:=id p2;simp only at hc hd hc2 hd2;subst hc hd hc2 hd2;exact concat_meets ⟨_,ho,rfl⟩ ⟨_,ho2,rfl⟩ noFill_tuple_add seq_tuple_add PySem.F.slot_tuple_add PySem.F.entry_tuple_add (PySem.F.args_tuple_add_2 _ _) (tuple_addW0 a b #[] its2.toArray n n2 dd mf sl kQ rfl) ⟨ho,ho2,.ref b,H,I,rfl,q⟩
def B8(K:W2):R2:=λx y H Q=>∃l b xs zs,x=.ref l/\y=.ref b/\bN K H l xs/\bN K H b zs/\xs.length+zs.length<=W7/\∀p,H p=none->Q (.ref p) (upd H p (.lst (xs++zs)))
theorem M_:a_ X (Qw .Add) (B8 X.K):=by
 intro pins s Z H x y v u Q I rx ry h;obtain⟨l,b,xs,zs,rfl,rfl,hH,hB,hz,q⟩:=h;cases rx;cases ry;obtain⟨af,r,⟨⟨cls,dd,data,sl⟩,n,e,hc,iy,hd⟩,z⟩:=I.list hH;obtain⟨its2,r2,⟨⟨cls2,mf,data2,kQ⟩,n2,e2,hc2,hdd2,hd2⟩,z2⟩:=I.list hB;simp only at hc hd iy hc2 hd2 hdd2;subst hc hd iy hc2 hd2 hdd2;have hl:=r.length;have kT:=r2.length;refine concat_meets ⟨_,e,rfl⟩ ⟨_,e2,rfl⟩ noFill_list_add seq_list_add PySem.F.slot_list_add PySem.F.entry_list_add (PySem.F.args_list_add_2 _ _) (list_addW l b af.toArray its2.toArray n n2 none none sl kQ (by rw[We,We];lia)) ⟨e,e2,?_⟩;have ea:af.toArray++its2.toArray=(af++its2).toArray:=by simp
 rw[ea];exact⟨.ref _,_,I.Bq (t':=s.toks) (r.append r2) (by rw[Wy];lia),rfl,q _ I.fresh⟩
theorem v8:∀{ys:List Str}{us:List Value},Vals (ys.map V.str) us->StrsAre us ys|[],us,r=>by cases r;exact .nil|y::ys,us,r=>by cases r with|cons r1 r2=>obtain⟨t,rfl⟩:=r1;exact .cons y t (v8 r2)
def sC(K:W2):V->List V->Hp->VK->Prop:=λx vs H Q=>∃(z:Str)(a:Addr)(ys:List Str),x=.str z/\vs=[.ref a]/\(bN K H a (ys.map V.str)\/cA K H a (ys.map V.str))/\(ys.map (·.length)).sum+ys.length*z.length<=16777216/\Q (.str (Txt.join z ys)) H
theorem Na:nB X "str.join" (sC X.K):=by
 intro pins s Z H x vs v us Q I rx rv h;obtain⟨z,a,ys,rfl,rfl,hq,hz,q⟩:=h;obtain⟨t,rfl⟩:=rx;obtain⟨u,rfl,ru⟩:=(Vals.one rv);cases ru;rcases hq with hq|hq;.obtain⟨af,r,p,_⟩:=I.list hq;exact join_list p.isList (by simpa using v8 r) hz λt' k=>⟨.str _,H,I.tok _,⟨t',rfl⟩,q⟩
 .obtain⟨af,r,p,_⟩:=I.tuple hq;exact join_tuple p (by simpa using v8 r) hz λt' k=>⟨.str _,H,I.tok _,⟨t',rfl⟩,q⟩
theorem B9:∀{bs:List Bool}{us:List Value},Vals (bs.map V.bl) us->∀(i:Nat)v,us[i]?=some v->∃b,bs[i]?=some b/\v=.bool b|[],us,r,i,v,e=>by cases r;simp at e|b::bs,us,r,i,v,e=>by cases r with|cons r1 r2=>cases i with|zero=>simp at e;subst e;exact⟨b,rfl,r1⟩|succ i=>exact B9 r2 i v (~~~e)
theorem B_:∀bs:List Bool,((Wl bs.length).all λi=>bs[i]?.getD true)=bs.all id|[]=>rfl|b::bs=>by rw[WE,List.range_succ_eq_map,Uj,Ur];have:=B_ bs;simp only[List.getElem?_cons_zero,Jv,Uj,id];rw[<-this];rfl
theorem Nb(hc:X.calm=true):cN X (.builtin "all") λxs H Q=>∃(a:Addr)(bs:List Bool),xs=[.ref a]/\bN X.K H a (bs.map V.bl)/\Q (.bl (bs.all λb=>b)) H:=by
 intro pins s Z H xs us Q I r h;obtain⟨a,bs,rfl,hq,q⟩:=h;obtain⟨u,rfl,ru⟩:=eN r;cases ru;obtain⟨af,r',p,_⟩:=I.list hq;have hl:=p.isList;have bz:a<s.heap.objs.size:=by obtain⟨_,e,_⟩:=hl;exact Wm e
 have hlen:=r'.length;rw[Wq]at hlen;refine call_all_walk (Ug hl ?_);refine⟨s.heap.objs.size,[s.heap.objs.size,a],[s.heap.objs.size],af.toArray.size,_,_,λi=>bs[i]?.getD true,rfl,Walks.list (A:=X.A.in1) (I.ok.hd hc) _ a (Qd bz) af.toArray,⟨⟨_,Wv _ rfl,rfl,rfl⟩,hl.push _⟩,λi v s' Q' E' hP hQ=>?_,λh' tk hk=>?_⟩;.obtain⟨b,e,rfl⟩:=B9 r' i v (~~~hP);simp only[e,Jv]at hQ;exact Qq hQ
 .have e:((Wl af.toArray.size).all λi=>bs[i]?.getD true)=bs.all id:=by rw[We,<-hlen];exact B_ bs
  rw[e];exact⟨.bl _,H,I.kept λb o e=>hk b o (λhm=>by rw[Ws.mp hm]at e;exact QO _ (Wm e)) (W6 _ e),rfl,q⟩
noncomputable def p2(p:D->D->Option S)(x y:D)(Y:Dl):Rs S:=match p x y with|some s=>.ok s Y|none=>.stuck
def ax(p:D->D->Option S)(fa:DE)(fb:BE):DE:=λY=>(fa Y).bind λx SL=>(fb SL).bind λy PP=>p2 p x.d y PP
def dY(p:D->D->Option S)(i:Nat)(fb:BE):DE:=λY=>(fb Y).bind λy SL=>(aq i SL).bind λx PP=>p2 p x y PP
def bV(r:R2)(p:D->D->Option S):Prop:=∀(c:Fc)(Z:St)(Y:Dl)(H:Hp)(x y:V)(d e:D)(s:S)(Q:VK),Ok c Z Y H->cw c Z Y H x d->cw c Z Y H y e->p d e=some s->(∀v H',aK c Z Y H Z Y H'->aL c Z Y H H' v s->Q v H')->r x y H Q
section
variable{c:Fc}{a b:Expr}{r:R2}{p:D->D->Option S}
theorem sE{e}(hp:bV r p)(k:Ok c Z Y H)(rx:cw c Z Y H x d)(ry:cw c Z Y H y e)(h:post c (p2 p d e Y) λs P3=>∀v H',aK c Z Y H Z P3 H'->aL c Z P3 H H' v s->Q v H'):r x y H Q:=by unfold p2 at h;cases e1:p d e with|none=>rw[e1]at h;exact h.elim|some s=>rw[e1]at h;exact hp c Z Y H x y d e s Q k rx ry e1 h
theorem sF(hp:bV r p)(h:tD c (ax p fa fb) Z H Q):me r (tD c fa) (UF c fb) Z H Q:=by obtain⟨Y,k,q⟩:=h;refine⟨Y,k,?_⟩;unfold ax at q;rw[bo]at q;refine aM q λx SL q1 v H1 a1 r1=>⟨SL,a1.ok,?_⟩;rw[bo]at q1;refine aM q1 λy PP q2 u H2 a2 r2=>?_;exact sE hp a2.ok (.inl (Rep.da r1.rep a2)) r2 (aM q2 λs Pi q3 v' H3 a3 r3=>q3 v' H3 (a1.trans (a2.trans a3)) (aL.back r3 (a1.trans a2)))
theorem Nc(hp:bV r p)(h:tD c (dY p i fb) Z H Q)(hv:∀Y,Ok c Z Y H->post c (fb Y) (λj j=>True)->∃v,Z[i]?=some (some v)):me r (dz i) (UF c fb) Z H Q:=by obtain⟨Y,k,q⟩:=h;unfold dY at q;rw[bo]at q;obtain⟨v,ev⟩:=hv Y k (aM q λj j j=>trivial);refine⟨v,ev,Y,k,aM q λy SL q1 u H1 a1 r1=>?_⟩;rw[bo]at q1;unfold aq at q1;cases e:SL[i]? with|none=>rw[e]at q1;exact q1.elim|some o=>cases o with|none=>rw[e]at q1;exact q1.elim|some w=>
 rw[e]at q1;have Nd:post c (p2 p w.d y SL) λs P3=>∀v H',aK c Z Y H Z P3 H'->aL c Z P3 H H' v s->Q v H':=q1;have rb:cw c Z SL H1 v w.d:=by cases w with|pure d=>obtain⟨v',e1,r⟩:=a1.ok.slot i d e;rw[ev]at e1;cases e1;exact .inl r|own d=>obtain⟨a,e1,r,_⟩:=a1.ok.own i d e;rw[ev]at e1;cases e1;exact .inr ⟨a,rfl,r⟩
 exact sE hp a1.ok rb r1 (aM Nd λs Pi q3 v' H3 a3 r3=>q3 v' H3 (a1.trans a3) (aL.back r3 a1))
theorem px(k:Ok c Z Y H){w:S}(e:Y[i]?=some (some w)):∃v,Z[i]?=some (some v):=by cases w with|pure d=>obtain⟨v,e1,_⟩:=k.slot i d e;exact⟨v,e1⟩|own d=>obtain⟨a,e1,_⟩:=k.own i d e;exact⟨_,e1⟩
end
noncomputable def au(p:D->D->Option S)(i:Nat)(fb:BE):DE:=λY=>match Y[i]? with|some (some _)=>dY p i fb Y|_=>.stuck
section
variable{c:Fc}{a b:Expr}{r:R2}{p:D->D->Option S}
theorem sG(hp:bV r p){Q:VK}(h:tD c (au p i fb) Z H Q):me r (dz i) (UF c fb) Z H Q:=by obtain⟨Y,k,q⟩:=h;unfold au at q;cases e:Y[i]? with|none=>rw[e]at q;exact q.elim|some o=>cases o with|none=>rw[e]at q;exact q.elim|some w=>rw[e]at q;obtain⟨v,ev⟩:=px k e;exact Nc hp (i:=i) ⟨Y,k,q⟩ λj j j=>⟨v,ev⟩
theorem mx{op:Operator}(ho:a_ X (Qw op) r)(hp:bV r p)(ha:SE X c a fa)(hb:SB X c b fb):SE X c (.BinOp a op b pos) (ax p fa fb):=PE.weak (AH ho ha hb) λj j j h=>sF hp h
theorem sH{op:Operator}(ho:a_ X (Qw op) r)(hp:bV r p)(ha:PE X a (dz i))(hb:SB X c b fb):SE X c (.BinOp a op b pos) (au p i fb):=PE.weak (AH ho ha hb) λj j j h=>sG hp h
theorem j6(ho:a_ X (WC op) r)(hp:bV r p)(ha:SE X c a fa)(hb:SB X c b fb)(hm:JU op b=false):SE X c (.Compare a [op] [b] pos) (ax p fa fb):=PE.weak (AQ ho ha hb hm) λj j j h=>sF hp h
theorem sI(ho:a_ X (WC op) r)(hp:bV r p)(ha:PE X a (dz i))(hb:SB X c b fb)(hm:JU op b=false):SE X c (.Compare a [op] [b] pos) (au p i fb):=PE.weak (AQ ho ha hb hm) λj j j h=>sG hp h
theorem Nf(hr:gW X r)(hp:bV r p)(ha:SE X c a fa)(hb:SB X c b fb)(hs:vt b):SE X c (.Subscript a b pos) (ax p fa fb):=PE.weak (Bh hr ha hb hs) λj j j h=>sF hp h
theorem Ca(hr:gW X r)(hp:bV r p)(ha:PE X a (dz i))(hb:SB X c b fb)(hs:vt b):SE X c (.Subscript a b pos) (au p i fb):=PE.weak (Bh hr ha hb hs) λj j j h=>sG hp h
end
abbrev DT:=Dl->Rs Bool
def tT(c:Fc)(f:DT):TT:=λZ H Q=>∃Y,Ok c Z Y H/\post c (f Y) λb P3=>∀H',aK c Z Y H Z P3 H'->Q b H'
abbrev ST(X:Cx)(c:Fc)(e:Expr)(f:DT):Prop:=PT X e (tT c f)
theorem PT.weak{t'}(h:PT X e t)(w:∀Z H Q,t' Z H Q->t Z H Q):PT X e t':=λpins s Z H Q I q=>h pins s Z H Q I (w Z H Q q)
def aD(f:DE):DT:=λY=>(f Y).bind λr P3=>match r with|.pure (.bl b)=>.ok b P3|_=>.stuck
section
variable{c:Fc}{a b:Expr}{f:DE}{r:R2}{p:D->D->Option S}
universe H in theorem sJ(h:tT c (aD f) Z H Q):tD c f Z H λx H'=>∃k,x=.bl k/\Q k H':=by obtain⟨Y,k,q⟩:=h;refine⟨Y,k,?_⟩;unfold aD at q;rw[bo]at q;refine aM q λr SL q1 v H1 a1 r1=>?_;cases r with|own d=>exact q1.elim|pure d=>
 cases d<;>first|exact q1.elim|skip
 rename_i b;cases r1;exact⟨b,rfl,q1 H1 a1⟩
theorem my(ho:a_ X (WC op) r)(hp:bV r p)(ha:SE X c a fa)(hb:SB X c b fb)(hm:JU op b=false):ST X c (.Compare a [op] [b] pos) (aD (ax p fa fb)):=PT.weak (AS ho ha hb hm) λZ H Q h=>sF hp (sJ h)
theorem v9(ho:a_ X (WC op) r)(hp:bV r p)(ha:PE X a (dz i))(hb:SB X c b fb)(hm:JU op b=false):ST X c (.Compare a [op] [b] pos) (aD (au p i fb)):=PT.weak (AS ho ha hb hm) λZ H Q h=>sG hp (sJ h)
theorem Ng(h:SE X c e f)(he:∀whole,isTrue e X.env whole=(do let v<-whole;standAt e.pos;holding [v] (truthy v)):=by intro _;rfl):ST X c e (aD f):=PT.weak (IJ h he) λZ H Q h=>sJ h
def Cb(t u:DT):DT:=λY=>(t Y).bind λb SL=>if b then u SL else .ok false SL
def cu(t u:DT):DT:=λY=>(t Y).bind λb SL=>if b then .ok true SL else u SL
def bD(t:DT):DT:=λY=>(t Y).bind λb SL=>.ok (!b) SL
abbrev SW(X:Cx)(c:Fc)(e:Expr)(f:DT):Prop:=PW X e (tT c f)
theorem PW.weak{t'}(h:PW X e t)(w:∀Z H Q,t' Z H Q->t Z H Q):PW X e t':=λwh pins s Z H Q I q=>h wh pins s Z H Q I (w Z H Q q)
variable{t u:DT}{rest:List Expr}
theorem Nh(ha:ST X c a t):SW X c (.BoolOp .Or [a] pos) t:=IM ha
theorem Ni(ha:ST X c a t)(hb:SW X c (.BoolOp .Or (b::rest) pos) u):SW X c (.BoolOp .Or (a::b::rest) pos) (cu t u):=PW.weak (pw_or ha hb) λZ H Q⟨Y,k,q⟩=>by unfold cu at q;rw[bo]at q;refine⟨Y,k,aM q λx SL q1 H1 a1=>?_⟩;cases x with|false=>exact⟨SL,a1.ok,aM q1 λy PP q2 H2 a2=>q2 H2 (a1.trans a2)⟩|true=>exact q1 H1 a1
theorem Nj(h:SW X c a t):ST X c a t:=PW.pt h
theorem Nk(ha:ST X c a t):ST X c (.UnaryOp .Not a pos) (bD t):=PT.weak (IP ha) λZ H Q⟨Y,k,q⟩=>by unfold bD at q;rw[bo]at q;exact⟨Y,k,q⟩
def gz(f g:DE):DE:=λY=>(f Y).bind λr SL=>match r with|.pure (.bl true)=>g SL|.pure (.bl false)=>.ok (.pure (.bl false)) SL|_=>.stuck
def j7(t:DT)(f g:DE):DE:=λY=>(t Y).bind λb SL=>if b then f SL else g SL
variable{g:DE}
theorem Nl{op}(h:SE X c a f):SE X c (.BoolOp op [a] pos) f:=IS h
universe H in theorem Nm(ha:SE X c a f)(hb:SE X c (.BoolOp .And (b::rest) pos) g):SE X c (.BoolOp .And (a::b::rest) pos) (gz f g):=PE.weak (IT ha hb) λZ H Q⟨Y,k,q⟩=>by unfold gz at q;rw[bo]at q;refine⟨Y,k,aM q λr SL q1 v H1 a1 r1=>?_⟩;cases r with|own d=>exact q1.elim|pure d=>
 cases d<;>first|exact q1.elim|skip
 rename_i b;cases r1;refine⟨b,rfl,?_⟩;cases b with|true=>exact⟨SL,a1.ok,aM q1 λy PP q2 v H2 a2 r2=>q2 v H2 (a1.trans a2) (aL.back r2 a1)⟩|false=>exact q1 _ H1 a1 (.bl false)
theorem Nn(ht:ST X c e t)(ha:SE X c a f)(hb:SE X c b g):SE X c (.IfExp e a b pos) (j7 t f g):=PE.weak (IV ht ha hb) λZ H Q⟨Y,k,q⟩=>by unfold j7 at q;rw[bo]at q;refine⟨Y,k,aM q λx SL q1 H1 a1=>?_⟩;cases x with|true=>exact⟨SL,a1.ok,aM q1 λy PP q2 v H2 a2 r2=>q2 v H2 (a1.trans a2) (aL.back r2 a1)⟩|false=>exact⟨SL,a1.ok,aM q1 λy PP q2 v H2 a2 r2=>q2 v H2 (a1.trans a2) (aL.back r2 a1)⟩
def iz(p p':D->D->Option S)(fa:DE)(fb:DE)(fc:BE):DE:=λY=>(fa Y).bind λx SL=>(fb SL).bind λy PP=>(p2 p x.d y.d PP).bind λz Pi=>match z with|.pure (.bl true)=>(fc Pi).bind λw Os=>p2 p' y.d w Os|.pure (.bl false)=>.ok (.pure (.bl false)) Pi|_=>.stuck
universe H in theorem Cc{r':R2}{fb:DE}(hp:bV r p)(cm:bV r' p'){Q:VK}(h:tD c (iz p p' fa fb fc) Z H Q):vh r r' (tD c fa) (tD c fb) (UF c fc) Z H Q:=by obtain⟨Y,k,q⟩:=h;unfold iz at q;rw[bo]at q;refine⟨Y,k,aM q λx SL q1 v H1 a1 r1=>⟨SL,a1.ok,?_⟩⟩;rw[bo]at q1;refine aM q1 λy PP q2 u H2 a2 r2=>?_;rw[bo]at q2;refine sE hp a2.ok (.inl (Rep.da r1.rep a2)) (.inl r2.rep) (aM q2 λs Pi q3 v' H3 a3 r3=>?_);cases s with|own d=>exact q3.elim|pure d=>
 cases d<;>first|exact q3.elim|skip
 rename_i b;cases r3;refine⟨b,rfl,?_⟩;cases b with|false=>exact q3 _ H3 (a1.trans (a2.trans a3)) (.bl false)|true=>rw[if_pos rfl];have Cd:post c ((fc Pi).bind λw Os=>p2 p' y.d w Os) λr P3=>∀v H',aK c Z Y H Z P3 H'->aL c Z P3 H H' v r->Q v H':=q3;rw[bo]at Cd;refine⟨Pi,a3.ok,aM Cd λw Os q4 v4 H4 a4 r4=>?_⟩;exact sE cm a4.ok (.inl (Rep.da r2.rep (a3.trans a4))) r4 (aM q4 λs5 KE q5 v5 H5 a5 r5=>q5 v5 H5 (a1.trans (a2.trans (a3.trans (a4.trans a5)))) (aL.back r5 (a1.trans (a2.trans (a3.trans a4)))))
theorem Nq{r':R2}{fb:DE}(ho:a_ X (WC op) r)(gq:a_ X (WC gU) r')(hp:bV r p)(cm:bV r' p')(ha:SE X c a fa)(hb:SE X c b fb)(he:SB X c e fc)(hm:lastMarks [op,gU] [b,e]=false:=by with_unfolding_all rfl):SE X c (.Compare a [op,gU] [b,e] pos) (iz p p' fa fb fc):=PE.weak (KI ho gq ha hb he hm) λj j j h=>Cc hp cm h
theorem Nr{r':R2}{fb:DE}(ho:a_ X (WC op) r)(gq:a_ X (WC gU) r')(hp:bV r p)(cm:bV r' p')(ha:SE X c a fa)(hb:SE X c b fb)(he:SB X c e fc)(hm:lastMarks [op,gU] [b,e]=false:=by with_unfolding_all rfl):ST X c (.Compare a [op,gU] [b,e] pos) (aD (iz p p' fa fb fc)):=PT.weak (KJ ho gq ha hb he hm) λj j j h=>Cc hp cm (sJ h)
end
section
variable{c:Fc}{x:V}
theorem cw.int{i}(h:cw c Z Y H x (.int i)):x=.int i:=by
 rcases h with h|⟨_,_,h⟩;.cases h;rfl
 .exact h.elim
theorem cw.bl(h:cw c Z Y H x (.bl b)):x=.bl b:=by
 rcases h with h|⟨_,_,h⟩;.cases h;rfl
 .exact h.elim
theorem cw.str(h:cw c Z Y H x (.str z)):x=.str (toS z):=by
 rcases h with h|⟨_,_,h⟩;.cases h;rfl
 .exact h.elim
theorem cw.tup{c Z Y H x ds}(h:cw c Z Y H x (.tup ds)):∃a vs,x=.ref a/\H a=some (.tup vs)/\aG H (Av c Z Y) vs ds:=by
 rcases h with h|⟨_,_,h⟩;.cases h with|tup h1 h2 h3 h4=>exact⟨_,_,rfl,h2,h3,h4⟩
 .exact h.elim
theorem cw.lst{c Z Y H x ds}(h:cw c Z Y H x (.lst ds)):∃a vs,x=.ref a/\Rd H a (.lst vs)/\aG H (Av c Z Y) vs ds:=by
 rcases h with h|⟨a,e,h⟩;.cases h with|lst h1 h2 h3 h4=>exact⟨_,_,rfl,h2,h3,h4⟩
 .obtain⟨vs,h1,h2⟩:=h;exact⟨a,vs,e,.inl h1,h2⟩
theorem cw.bP{ds}(h:cw c Z Y H x (.bP ds)):∃a ws,x=.ref a/\H a=some (.dK ws)/\ws.map (·.1)=ds.map (λp=>dE p.1)/\∀(i:Nat)p q,ws[i]?=some p->ds[i]?=some q->Rep H (Av c Z Y) p.2 q.2:=by
 rcases h with h|⟨a,e,h⟩;.cases h with|bP h1 h2 h3 h4=>exact⟨_,_,rfl,h2,h3,h4⟩
 .obtain⟨ws,h1,h2,h3⟩:=h;exact⟨a,ws,e,h1,h2,h3⟩
end
theorem Ce(h:z.length<=W7):(toS z).length<=W7:=%[i4|h]
theorem Nt(x y:Tx):toS x++toS y=toS (x++y):=by show Str.append (toS x) (toS y)=_;simp[toS,Str.append]
noncomputable def aF(d e:D):Option S:=match d with
 |.int i=>match e with|.int j=>0#(.int (i+j))|_=>none
 |.str x=>match e with|.str y=>if x.length+y.length<=W7 then 0#(.str (x++y)) else none|_=>none
 |.tup xs=>match e with|.tup ys=>if xs.length+ys.length<=W7 then 0#(.tup (xs++ys)) else none|_=>none
 |.lst xs=>match e with|.lst ys=>if xs.length+ys.length<=W7 then some (.own (.lst (xs++ys)))else none|_=>none
 |_=>none
def Cg(K:W2):R2:=λx y H Q=>iW (λi j=>V.int (i+j)) x y H Q\/(∃i j,x=.str i/\y=.str j/\i.length+j.length<=W7/\Q (.str (i++j)) H)\/(∃a b ys,x=.ref a/\y=.ref b/\cA K H a []/\cA K H b ys/\Q (.ref b) H)\/Bf K x y H Q\/B8 K x y H Q
theorem Ci:a_ X (Qw .Add) (Cg X.K):=Ku.or (KL.or (M9.or (Ll.or M_)))
universe H in theorem Cj:bV (Cg K) aF:=by
 intro c Z Y H x y d e s Q k rx ry hp q;cases d<;>cases e<;>first|(simp[aF]at hp;done)|skip
 .rename_i i j;simp only[aF,Wb]at hp;subst hp;exact .inl ⟨i,j,rx.int,ry.int,q _ H (.refl k) (.int _)⟩
 .rename_i u w;simp only[aF]at hp;split at hp;.rename_i hz;simp only[Wb]at hp;subst hp;refine .inr (.inl ⟨toS u,toS w,rx.str,ry.str,%[i4,i4|hz],?_⟩);rw[Nt];exact q _ H (.refl k) (.str _)
  .cases hp
 .rename_i us ws;simp only[aF]at hp;split at hp
  .rename_i hz;simp only[Wb]at hp;subst hp;obtain⟨a,vs,ea,ha,ra⟩:=rx.tup;obtain⟨b,zs,eb,hb,rb⟩:=ry.tup
   cases vs with|nil=>
    have:us=[]:=by have:=ra.1;simpa using this.symm
    subst this;refine .inr (.inr (.inl ⟨a,b,zs,ea,eb,.of ha,.of hb,?_⟩));rw[eb]at ry;rcases ry with ry|⟨_,_,ry⟩;.exact q _ H (.refl k) ry
    .exact ry.elim|cons v0 vr=>
    refine .inr (.inr (.inr (.inl ⟨a,b,_,zs,ea,eb,.of ha,.of hb,Zw,%[ra.1,rb.1|hz],λe0=>?_,λ_ p hp=>?_⟩)))
    .subst e0;have:ws=[]:=by have:=rb.1;simpa using this.symm
     subst this;rw[ea]at rx;rcases rx with rx|⟨_,_,rx⟩;.rw[WT]at q;exact q _ H (.refl k) rx
     .exact rx.elim
    .exact q _ _ (.alloc k hp _) (aL.mr k (ra.append rb) hp)
  .cases hp
 .rename_i us ws;simp only[aF]at hp;split at hp;.rename_i hz;simp only[Wb]at hp;subst hp;obtain⟨a,vs,ea,ha,ra⟩:=rx.lst;obtain⟨b,zs,eb,hb,rb⟩:=ry.lst;exact .inr (.inr (.inr (.inr ⟨a,b,vs,zs,ea,eb,.inl ha,.inl hb,%[ra.1,rb.1|hz],λp hp=>q _ _ (.alloc k hp _) (aL.i6 k (ra.append rb) hp)⟩)))
  .cases hp
noncomputable def fG(C:Int->Int->Bool)(g:Int->Int->D):D->D->Option S|.int i,.int j=>if C i j then 0#(g i j) else none|_,_=>none
universe H in theorem sL{C g'}(hC:∀i j,C' i j=true->C i j)(hg:∀i j H O,Rep H O (g i j) (g' i j)):bV (rI C g) (fG C' g'):=by
 intro c Z Y H x y d e s Q k rx ry hp q;cases d<;>cases e<;>first|(simp[fG]at hp;done)|skip
 rename_i i j;simp only[fG]at hp;split at hp;.rename_i hc;simp only[Wb]at hp;subst hp;exact⟨i,j,rx.int,ry.int,hC i j hc,q _ H (.refl k) (hg i j H _)⟩
 .cases hp
universe H in theorem Nu{g'}(hg:∀i j H O,Rep H O (g i j) (g' i j)):bV (iW g) (fG (λ_ _=>true) g'):=by
 intro c Z Y H x y d e s Q k rx ry hp q;cases d<;>cases e<;>first|(simp[fG]at hp;done)|skip
 rename_i i j;simp only[fG,if_true,Wb]at hp;subst hp;exact⟨i,j,rx.int,ry.int,q _ H (.refl k) (hg i j H _)⟩
def fk:=fG (λk k=>true) λi j=>.int (i-j)
theorem Nv:bV (iW λi j=>V.int (i-j)) fk:=Nu λk k k k=>.int _
def k6(i j:Int):Bool:=decide (-2^64<i)&&decide (i<2^64)||decide (-2^64<j)&&decide (j<2^64)
def iA:=fG k6 λi j=>.int (i*j)
theorem v_:bV (rI nu λi j=>V.int (i*j)) iA:=sL (λi j h=>by unfold k6 at h;simp only[Bool.or_eq_true,Wn,decide_eq_true_eq]at h;exact h) λk k k k=>.int _
def k7(_ j:Int):Bool:=decide (0<j)&&decide (j<1073741824)
def j8:=fG k7 λi j=>.int (i/j)
theorem Nw:bV (rI AK λi j=>V.int (i/j)) j8:=sL (λi j h=>by unfold k7 at h;simp only[Wn,decide_eq_true_eq]at h;exact h) λk k k k=>.int _
def eT:=fG (λk j=>decide (0<j)) λi j=>.int (i%j)
theorem Ck:bV (rI (λk j=>0<j) λi j=>V.int (i%j)) eT:=sL (λi j h=>~~~h) λk k k k=>.int _
def wa(i j:Int):Bool:=decide (0<=j)&&decide (j<=1000000)&&decide (i.natAbs<2^64)
def sM:=fG wa λi j=>.int (i^j.toNat)
theorem Nx:bV (rI AL λi j=>V.int (i^j.toNat)) sM:=sL (λi j h=>by unfold wa at h;simp only[Wn,decide_eq_true_eq]at h;exact⟨h.1.1,h.1.2,h.2⟩) λk k k k=>.int _
noncomputable def de(d e:D):Option S:=if flat 50 d&&flat 50 e then 0#(.bl (aW d e)) else none
noncomputable def dP(d e:D):Option S:=if flat 50 d&&flat 50 e then 0#(.bl !aW d e) else none
universe H in theorem wb:bV B1 de:=by
 intro c Z Y H x y d e s Q k rx ry hp q;unfold de at hp;split at hp;.rename_i hf;rw[Wn]at hf;simp only[Wb]at hp;subst hp;exact⟨d,e,rx.un,ry.un,hf.1,hf.2,q _ H (.refl k) (.bl _)⟩
 .cases hp
universe H in theorem sN:bV B2 dP:=by
 intro c Z Y H x y d e s Q k rx ry hp q;unfold dP at hp;split at hp;.rename_i hf;rw[Wn]at hf;simp only[Wb]at hp;subst hp;exact⟨d,e,rx.un,ry.un,hf.1,hf.2,q _ H (.refl k) (.bl _)⟩
 .cases hp
noncomputable def jx(f:Int->Int->Bool)(g:Tx->Tx->Bool):D->D->Option S|.int i,.int j=>0#(.bl (f i j))|.str x,.str y=>0#(.bl (g x y))|_,_=>none
def pz(f:Int->Int->Bool)(g:List Nat->List Nat->Bool):R2:=λx y H Q=>iW (λi j=>V.bl (f i j)) x y H Q\/∃i j,x=.str i/\y=.str j/\Q (.bl (g i.cps.toList j.cps.toList)) H
universe H in theorem mz{f}:bV (pz f g) (jx f g):=by
 intro c Z Y H x y d e s Q k rx ry hp q;cases d<;>cases e<;>first|(simp[jx]at hp;done)|skip
 .rename_i i j;simp only[jx,Wb]at hp;subst hp;exact .inl ⟨i,j,rx.int,ry.int,q _ H (.refl k) (.bl _)⟩
 .rename_i i j;simp only[jx,Wb]at hp;subst hp;refine .inr ⟨toS i,toS j,rx.str,ry.str,?_⟩;rw[j0,j0];exact q _ H (.refl k) (.bl _)
theorem Cm{g:List Nat->List Nat->Bool}(rule:∀(i j:Str)(t u:Tok)(Q:Value->W1->Prop)(s:W1),Q (.bool (g i.cps.toList j.cps.toList)) s->W8 5#0 X.A (WC op (.str i t) (.str j u)) Q X.xe s):a_ X (WC op) λx y H Q=>∃i j,x=.str i/\y=.str j/\Q (.bl (g i.cps.toList j.cps.toList)) H:=by intro pins s Z H x y v u Q I rx ry h;obtain⟨i,j,rfl,rfl,q⟩:=h;obtain⟨t,rfl⟩:=rx;obtain⟨t',rfl⟩:=ry;exact rule i j t t' _ s ⟨.bl _,H,I,rfl,q⟩
def fH:=jx (λi j=>decide (i<j)) λx y=>decide (x<y)
theorem sO:a_ X (WC .Lt) (pz (λi j=>decide (i<j)) λx y=>decide (x<y)):=Kz.or KD
theorem sP:bV (pz (λi j=>decide (i<j)) λx y=>decide (x<y)) fH:=mz
noncomputable def aC(d e:D):Option S:=match d with
 |.lst ds=>match e with|.int i=>(dJ ds i).map .pure|_=>none
 |.tup ds=>match e with|.int i=>(dJ ds i).map .pure|_=>none
 |.str x=>match e with|.int i=>if x.length<=W7 then(dJ x i).map λn=>.pure (.str [n])else none|_=>none
 |_=>none
theorem Cn{i}(r:aG H O vs ds)(h:dJ ds i=some d):∃v,dJ vs i=some v/\Rep H O v d:=by unfold dJ at h⊢;rw[r.1];cases e:gx ds.length i with|none=>rw[e]at h;cases h|some j=>rw[e]at h;exact r.get h
universe H in theorem wc:bV (rW K) aC:=by
 intro c Z Y H x y d e s Q k rx ry hp q;cases d<;>cases e<;>first|(simp[aC]at hp;done)|skip
 .rename_i z i;simp only[aC]at hp;split at hp;.rename_i hz;cases e1:dJ z i with|none=>rw[e1]at hp;cases hp|some n=>rw[e1]at hp;simp only[WM,Wb]at hp;subst hp;refine .inr (.inr ⟨toS z,i,n,rx.str,ry.int,Ce hz,%[j0|e1],?_⟩);exact q (.str (toS [n])) H (.refl k) (.str [n])
  .cases hp
 .rename_i ds i;simp only[aC]at hp;cases e1:dJ ds i with|none=>rw[e1]at hp;cases hp|some n=>rw[e1]at hp;simp only[WM,Wb]at hp;subst hp;obtain⟨a,vs,ea,ha,ra⟩:=rx.tup;obtain⟨v,e2,r2⟩:=Cn ra e1;exact .inr (.inl ⟨a,vs,i,v,ea,ry.int,.of ha,e2,q v H (.refl k) r2⟩)
 .rename_i ds i;simp only[aC]at hp;cases e1:dJ ds i with|none=>rw[e1]at hp;cases hp|some n=>rw[e1]at hp;simp only[WM,Wb]at hp;subst hp;obtain⟨a,vs,ea,ha,ra⟩:=rx.lst;obtain⟨v,e2,r2⟩:=Cn ra e1;exact .inl ⟨a,vs,i,v,ea,ry.int,.inl ha,e2,q v H (.refl k) r2⟩
def df:=jx (λi j=>decide (i<=j)) λx y=>!decide (y<x)
def we:=jx (λi j=>decide (j<=i)) λx y=>!decide (x<y)
theorem pA:a_ X (WC .LtE) (pz (λi j=>decide (i<=j)) λx y=>!decide (y<x)):=KA.or (Cm (g:=λx y=>!decide (y<x)) λk k k k k k h=>PySem.P.le_str h)
theorem Ny:a_ X (WC .GtE) (pz (λi j=>decide (j<=i)) λx y=>!decide (x<y)):=KC.or (Cm (g:=λx y=>!decide (x<y)) λk k k k k k h=>PySem.P.ge_str h)
abbrev DA:=Dl->Rs (List D)
def Nz(c:Fc)(f:DA):TA:=λZ H Q=>∃Y,Ok c Z Y H/\post c (f Y) λds P3=>∀vs H',aK c Z Y H Z P3 H'->aG H' (Av c Z P3) vs ds->Q vs H'
structure SA(X:Cx)(c:Fc)(es:List Expr)(f:DA):Prop where pa:PA X es (Nz c f)len:∀Y ds P3,f Y=.ok ds P3->ds.length=es.length
theorem PA.weak{t'}(h:PA X es t)(w:∀Z H Q,t' Z H Q->t Z H Q):PA X es t':=λpos pins s Z H Q I q=>h pos pins s Z H Q I (w Z H Q q)
def aJ:DA:=λY=>.ok [] Y
def aw(f:DE)(g:DA):DA:=λY=>(f Y).bind λx SL=>(g SL).bind λxs PP=>.ok (x.d::xs) PP
section
variable{c:Fc}{f:DE}{g:DA}
theorem Co:SA X c [] aJ:=⟨PA.weak f_ λZ H Q⟨Y,k,q⟩=>q [] H (.refl k) .nil,λY ds P3 h=>by cases h;rfl⟩
theorem Cp(ha:SE X c e f)(hr:SA X c es g)(hs:Wa (e::es) X.env=(false,eval e X.env)::Wa es X.env:=by rfl):SA X c (e::es) (aw f g):=by
 refine⟨PA.weak (dX ha hr.pa hs) λZ H Q⟨Y,k,q⟩=>?_,λY ds P3 h=>?_⟩;.unfold aw at q;rw[bo]at q;refine⟨Y,k,aM q λx SL q1 v H1 a1 r1=>⟨SL,a1.ok,?_⟩⟩;rw[bo]at q1;exact aM q1 λxs PP q2 vs H2 a2 r2=>q2 (v::vs) H2 (a1.trans a2) (.cons (Rep.da r1.rep a2) r2)
 .unfold aw at h;cases h1:f Y with
 |ok x SL=>rw[h1]at h;cases h2:g SL with|ok xs PP=>simp only[Rs.bind,h2]at h;cases h;simp[hr.len _ _ _ h2]|exc x GE=>simp only[Rs.bind,h2]at h;cases h|stuck=>simp only[Rs.bind,h2]at h;cases h
 |exc x GE=>rw[h1]at h;cases h|stuck=>rw[h1]at h;cases h
def cp(f:DA):DE:=λY=>(f Y).bind λds P3=>.ok (.pure (.tup ds)) P3
def aX(f:DA):DE:=λY=>(f Y).bind λds P3=>.ok (.own (.lst ds)) P3
theorem Cq(h:n<=1000):n<=W7:=JL (Mg h)
theorem Cr(h:post c r k):post c r λa Y=>r=.ok a Y/\k a Y:=by cases r with|ok a Y=>exact⟨rfl,h⟩|exc x GE=>exact h|stuck=>exact h
theorem Cs{x1}(h:SA X c es g)(hz:es.length<=1000:=by decide):SE X c (.Tuple es x1 pos) (cp g):=PE.weak (K0 h.pa) λZ H Q⟨Y,k,q⟩=>by unfold cp at q;rw[bo]at q;refine⟨Y,k,aM (Cr q) λds SL⟨e1,q1⟩vs H1 a1 r1=>?_⟩;have hl:=h.len _ _ _ e1;exact⟨%[r1.1,hl|Cq hz],λp hp=>q1 _ _ (a1.trans (.alloc a1.ok hp _)) (aL.back (aL.mr a1.ok r1 hp) a1)⟩
theorem Ct(h:SA X c es g)(hz:es.length<=1000:=by decide):SE X c (.List es pos) (aX g):=PE.weak (K1 h.pa) λZ H Q⟨Y,k,q⟩=>by unfold aX at q;rw[bo]at q;refine⟨Y,k,aM (Cr q) λds SL⟨e1,q1⟩vs H1 a1 r1=>?_⟩;have hl:=h.len _ _ _ e1;exact⟨%[r1.1,hl|Cq hz],λp hp=>q1 _ _ (a1.trans (.alloc a1.ok hp _)) (aL.back (aL.i6 a1.ok r1 hp) a1)⟩
end
noncomputable def p1(p:D->Option S)(x:D)(Y:Dl):Rs S:=match p x with|some s=>.ok s Y|none=>.stuck
def ay(p:D->Option S)(fb:BE):DE:=λY=>(fb Y).bind λx SL=>p1 p x SL
def i7(r:V->Hp->VK->Prop)(p:D->Option S):Prop:=∀(c:Fc)(Z:St)(Y:Dl)(H:Hp)(x:V)(d:D)(s:S)(Q:VK),Ok c Z Y H->cw c Z Y H x d->p d=some s->(∀v H',aK c Z Y H Z Y H'->aL c Z Y H H' v s->Q v H')->r x H Q
section
variable{c:Fc}{r:V->Hp->VK->Prop}{p:D->Option S}{x:Str}{id T:String}
theorem wg(hp:i7 r p)(k:Ok c Z Y H)(rx:cw c Z Y H v d)(h:post c (p1 p d Y) λs P3=>∀v H',aK c Z Y H Z P3 H'->aL c Z P3 H H' v s->Q v H'):r v H Q:=by unfold p1 at h;cases e1:p d with|none=>rw[e1]at h;exact h.elim|some s=>rw[e1]at h;exact hp c Z Y H v d s Q k rx e1 h
theorem mB(hp:i7 r p)(h:tD c (ay p fb) Z H Q):ve r (UF c fb) Z H Q:=by obtain⟨Y,k,q⟩:=h;unfold ay at q;rw[bo]at q;exact⟨Y,k,aM q λy SL q1 v H1 a1 r1=>wg hp a1.ok r1 (aM q1 λs PP q2 w H2 a2 r2=>q2 w H2 (a1.trans a2) (aL.back r2 a1))⟩
theorem nJ(hc:cN X (.builtin id) rl)(hl:∀v H Q,r v H Q->rl [v] H Q)(hp:i7 r p)(hg:Gl X x)(hm:X.mg x=none)(hv:QH x=some (.builtin id))(he:SB X c e fb)(hn:x≠"__name__":=by decide)(cU:(x==("__debug__":Str))=false:=by decide)(hs:Wa [e] X.env=(false,eval e X.env)::Wa [] X.env:=by rfl)(bT:(Qp pos (Wa [] X.env)).any (·.1)=false:=by rfl):SE X c (.Call (.Name x pp) [e] [] pos) (ay p fb):=PE.weak (nA hc hg hm hv (dX he f_ hs) hn cU hs bT) λZ H Q h=>by obtain⟨Y,k,q⟩:=mB hp h;exact⟨Y,k,aM q λy SL q1 v H1 a1 r1=>hl _ _ _ (q1 v H1 a1 r1)⟩
theorem nK(hc:cN X (.type T) rl)(hl:∀v H Q,r v H Q->rl [v] H Q)(hp:i7 r p)(hg:Gl X x)(hm:X.mg x=none)(hv:QH x=some (.type T))(he:SB X c e fb)(hn:x≠"__name__":=by decide)(cU:(x==("__debug__":Str))=false:=by decide)(hs:Wa [e] X.env=(false,eval e X.env)::Wa [] X.env:=by rfl)(bT:(Qp pos (Wa [] X.env)).any (·.1)=false:=by rfl):SE X c (.Call (.Name x pp) [e] [] pos) (ay p fb):=PE.weak (K8 hc hg hm hv (dX he f_ hs) hn cU hs bT) λZ H Q h=>by obtain⟨Y,k,q⟩:=mB hp h;exact⟨Y,k,aM q λy SL q1 v H1 a1 r1=>hl _ _ _ (q1 v H1 a1 r1)⟩
noncomputable def aP:D->Option S|.lst ds=>0#(.int ds.length)|.tup ds=>0#(.int ds.length)|.str z=>if z.length<=W7 then 0#(.int z.length) else none|.bP ds=>0#(.int ds.length)|_=>none
def NA(K:W2):V->Hp->VK->Prop:=λv H Q=>((∃p ys,v=.ref p/\(bN K H p ys\/cA K H p ys)/\Q (.int ys.length) H)\/∃z,v=.str z/\z.length<=W7/\Q (.int z.length) H)\/∃a ao,v=V.ref a/\H a=some (.dK ao)/\Q (.int ao.length) H
universe H in theorem NB:i7 (NA K) aP:=by intro c Z Y H x d s Q k rx hp q;cases d with
 |lst ds=>simp only[aP,Wb]at hp;subst hp;obtain⟨a,vs,ea,ha,ra⟩:=rx.lst;exact .inl (.inl ⟨a,vs,ea,.inl (.inl ha),%[ra.1|q _ H (.refl k) (.int _)]⟩)|tup ds=>simp only[aP,Wb]at hp;subst hp;obtain⟨a,vs,ea,ha,ra⟩:=rx.tup;exact .inl (.inl ⟨a,vs,ea,.inr (.of ha),%[ra.1|q _ H (.refl k) (.int _)]⟩)|str z=>
 simp only[aP]at hp;split at hp;.rename_i hz;simp only[Wb]at hp;subst hp;exact .inl (.inr ⟨toS z,rx.str,Ce hz,%[i4|q _ H (.refl k) (.int _)]⟩)
 .cases hp|bP ds=>
 simp only[aP,Wb]at hp;subst hp;obtain⟨a,ws,ea,ha,h1,h2⟩:=rx.bP;have hl:ws.length=ds.length:=by have:=congrArg QS h1;simpa using this
 exact .inr ⟨a,ws,ea,ha,%[hl|q _ H (.refl k) (.int _)]⟩|_=>simp[aP]at hp
theorem NC(hg:Gl X "len")(hm:X.mg "len"=none)(he:SB X c e fb)(hs:Wa [e] X.env=(false,eval e X.env)::Wa [] X.env:=by rfl):SE X c (.Call (.Name "len" pp) [e] [] pos) (ay aP fb):=nJ ((LB.or LC).or Mh) (λv H Q h=>by
 rcases h with(⟨p,ys,e,h⟩|⟨z,e,h⟩)|⟨a,ao,e,h⟩;.exact .inl (.inl ⟨p,ys,by rw[e],h⟩)
 .exact .inl (.inr ⟨z,by rw[e],h⟩)
 .exact .inr ⟨a,ao,by rw[e],h⟩) (NB (K:=X.K)) hg hm PySem.boot_len he Z' Z' hs
noncomputable def dk:D->Option S|.lst ds=>0#(.tup ds)|.tup ds=>0#(.tup ds)|_=>none
def ND(K:W2):V->Hp->VK->Prop:=λv H Q=>∃p ys,v=.ref p/\((bN K H p ys/\∀l,H l=none->Q (.ref l) (upd H l (.tup ys)))\/cA K H p ys/\Q (.ref p) H)
theorem NF:i7 (ND K) dk:=by
 intro c Z Y H x d s Q k rx hp q
 cases d with|lst ds=>simp only[dk,Wb]at hp;subst hp;obtain⟨a,vs,ea,ha,ra⟩:=rx.lst;exact⟨a,vs,ea,.inl ⟨.inl ha,λl hl=>q _ _ (.alloc k hl _) (aL.mr k ra hl)⟩⟩|tup ds=>
 simp only[dk,Wb]at hp;subst hp;obtain⟨a,vs,ea,ha,ra⟩:=rx.tup;refine⟨a,vs,ea,.inr ⟨.of ha,?_⟩⟩;rw[ea]at rx;rcases rx with rx|⟨_,_,rx⟩;.exact q _ H (.refl k) rx
 .exact rx.elim|_=>simp[dk]at hp
theorem NG(hg:Gl X "tuple")(hm:X.mg "tuple"=none)(he:SB X c e fb)(hs:Wa [e] X.env=(false,eval e X.env)::Wa [] X.env:=by rfl):SE X c (.Call (.Name "tuple" pp) [e] [] pos) (ay dk fb):=nK LF (λv H Q⟨p,ys,e,h⟩=>⟨p,ys,by rw[e],h⟩) (NF (K:=X.K)) hg hm PyProof.Rows.boot_tuple he Z' Z' hs
noncomputable def nL:D->Option S|.int i=>0#(.int i)|.bl b=>0#(.int (if b then 1 else 0))|_=>none
theorem NH(hg:Gl X "int")(hm:X.mg "int"=none)(he:SB X c e fb)(hs:Wa [e] X.env=(false,eval e X.env)::Wa [] X.env:=by rfl):SE X c (.Call (.Name "int" pp) [e] [] pos) (ay nL fb):=nK (r:=λv H Q=>(∃i,v=.int i/\Q (.int i) H)\/∃k,v=.bl k/\Q (.int (if k then 1 else 0)) H) KP (λv H Q h=>by
 rcases h with⟨i,e,q⟩|⟨k,e,q⟩;.exact .inl ⟨i,by rw[e],q⟩
 .exact .inr ⟨k,by rw[e],q⟩) (λc Z Y H x d s Q k rx hp q=>by cases d with|int i=>simp only[nL,Wb]at hp;subst hp;exact .inl ⟨i,rx.int,q _ H (.refl k) (.int _)⟩|bl b=>simp only[nL,Wb]at hp;subst hp;exact .inr ⟨b,rx.bl,q _ H (.refl k) (.int _)⟩|_=>simp[nL]at hp) hg hm PyProof.Rows.boot_int he Z' Z' hs
noncomputable def gA:List D->Option (List Bool)|[]=>some []|.bl b::r=>(gA r).map (b::.)|_::_=>none
noncomputable def cO:List D->Option (List Tx)|[]=>some []|.str x::r=>(cO r).map (x::.)|_::_=>none
theorem sQ:∀{ds:List D}{vs:List V}{bs:List Bool},gA ds=some bs->aG H O vs ds->vs=bs.map V.bl|[],vs,bs,h,r=>by simp only[gA,Wb]at h;subst h;have:=r.1;simpa using this|d::ds,[],bs,h,r=>by have:=r.1;simp at this|d::ds,v::vs,bs,h,r=>by cases d with
 |bl b=>simp only[gA]at h;cases e:gA ds with|none=>rw[e]at h;cases h|some bs'=>rw[e]at h;simp only[WM,Wb]at h;subst h;have:=r.head;cases this;rw[sQ e r.tail];rfl
 |_=>simp[gA]at h
theorem sR:∀{ds:List D}{vs:List V}{bs:List Tx},cO ds=some bs->aG H O vs ds->vs=bs.map λz=>V.str (toS z)|[],vs,bs,h,r=>by simp only[cO,Wb]at h;subst h;have:=r.1;simpa using this|d::ds,[],bs,h,r=>by have:=r.1;simp at this|d::ds,v::vs,bs,h,r=>by cases d with
 |str b=>simp only[cO]at h;cases e:cO ds with|none=>rw[e]at h;cases h|some bs'=>rw[e]at h;simp only[WM,Wb]at h;subst h;have:=r.head;cases this;rw[sR e r.tail];rfl
 |_=>simp[cO]at h
noncomputable def eJ:D->Option S|.lst ds=>(gA ds).map λbs=>.pure (.bl (bs.all λb=>b))|_=>none
theorem NI:QH "all"=some (.builtin "all"):=by decide+kernel
theorem NJ(hc:X.calm=true)(hg:Gl X "all")(hm:X.mg "all"=none)(he:SB X c e fb)(hs:Wa [e] X.env=(false,eval e X.env)::Wa [] X.env:=by rfl):SE X c (.Call (.Name "all" pp) [e] [] pos) (ay eJ fb):=nJ (r:=λv H Q=>∃(a:Addr)(bs:List Bool),v=.ref a/\bN X.K H a (bs.map V.bl)/\Q (.bl (bs.all λb=>b)) H) (Nb hc) (λv H Q⟨a,bs,e,h⟩=>⟨a,bs,by rw[e],h⟩) (λc Z Y H x d s Q k rx hp q=>by cases d with
 |lst ds=>simp only[eJ]at hp;cases e:gA ds with|none=>rw[e]at hp;cases hp|some bs=>rw[e]at hp;simp only[WM,Wb]at hp;subst hp;obtain⟨a,vs,ea,ha,ra⟩:=rx.lst;have:=sQ e ra;subst this;exact⟨a,bs,ea,.inl ha,q _ H (.refl k) (.bl _)⟩
 |_=>simp[eJ]at hp) hg hm NI he Z' Z' hs
noncomputable def wj:D->D->Option S|.int i,.int j=>0#(.int (if j>i then j else i))|_,_=>none
def sS(f g:DE):DE:=λY=>(f Y).bind λx SL=>(g SL).bind λy PP=>p2 wj x.d y.d PP
universe H in theorem NL{a b:Expr}{f g:DE}(hc:X.calm=true)(hg:Gl X "max")(hm:X.mg "max"=none)(ha:SE X c a f)(hb:SE X c b g)(hs:Wa [a,b] X.env=(false,eval a X.env)::Wa [b] X.env:=by rfl)(wk:Wa [b] X.env=(false,eval b X.env)::Wa [] X.env:=by rfl)(bT:(Qp pos (Wa [b] X.env)).any (·.1)=false:=by rfl):SE X c (.Call (.Name "max" pp) [a,b] [] pos) (sS f g):=PE.weak (nA (KN hc) hg hm PyProof.Rows.boot_max (dX ha (dX hb f_ wk) hs) Z' Z' hs bT) λZ H Q⟨Y,k,q⟩=>by
 unfold sS at q;rw[bo]at q;refine⟨Y,k,aM q λx SL q1 v H1 a1 r1=>⟨SL,a1.ok,?_⟩⟩;rw[bo]at q1;refine aM q1 λy PP q2 u H2 a2 r2=>?_;unfold p2 at q2;have hx:cw c Z PP H2 v x.d:=.inl (Rep.da r1.rep a2);have hy:=r2.b;generalize x.d=dx at q2 hx;generalize y.d=dy at q2 hy;cases dx<;>cases dy<;>first|exact q2.elim|skip
 rename_i i j;exact⟨i,j,by rw[hx.int,hy.int],q2 _ H2 (a1.trans a2) (.int _)⟩
noncomputable def gC(T:String):D->Option Bool|.aI=>some (T=="NoneType")|.bl _=>some (T=="bool"||T=="int")|.int _=>some (T=="int")|.str _=>some (T=="str")|.tup _=>some (T=="tuple")|.lst _=>some (T=="list")|.bP _=>some (T=="dict")|.exc _ _=>none|.xd _=>none|.fn _=>none|.dic _=>none
structure i8(K:W2)(T:String):Prop where aI:QP K (.type "NoneType") (.type T)=some (T=="NoneType")bl:QP K (.type "bool") (.type T)=some (T=="bool"||T=="int")int:QP K (.type "int") (.type T)=some (T=="int")str:QP K (.type "str") (.type T)=some (T=="str")tup:QP K (.type "tuple") (.type T)=some (T=="tuple")lst:QP K (.type "list") (.type T)=some (T=="list")bP:QP K (.type "dict") (.type T)=some (T=="dict")
def eL(T:String)(fb:BE):DE:=λY=>(fb Y).bind λd P3=>match gC T d with|some b=>.ok (.pure (.bl b)) P3|none=>.stuck
theorem NM(ty:i8 X.K T)(I:Inv X pins Z H s)(ru:RelV v u)(r:Rep H cx v d)(e:gC T d=some b)(q:Q (.bl b) H):W8 5#0 X.A (call (.builtin "isinstance") [u,.type T]) (EP X pins Z Q) X.xe s:=by
 have fin:∀tk,EP X pins Z Q (.bool b) {s with toks:=tk}:=λtk=>⟨.bl b,H,I.tok tk,rfl,q⟩
 cases r with|aI=>exact kO I ru .aI (ty.aI.trans e) fin|bl x=>exact kO I ru (.bl x) (ty.bl.trans e) fin|int x=>exact kO I ru (.int x) (ty.int.trans e) fin|str x=>exact kO I ru (.str _) (ty.str.trans e) fin|tup _ h2 _ _=>exact kO I ru (.tup h2) (ty.tup.trans e) fin|lst _ h2 _ _=>
 rcases h2 with h2|⟨o,h2⟩;.exact kO I ru (.lst h2) (ty.lst.trans e) fin
 .exact kO I ru (.frz h2) (ty.lst.trans e) fin|bP _ h2 _ _=>exact kO I ru (.dK h2) (ty.bP.trans e) fin|exc _ _=>cases e|xd _ _=>cases e|fn _=>cases e|dic _=>cases e
theorem NN(ty:i8 X.K T):cN X (.builtin "isinstance") λxs H Q=>∃v d b,xs=[v,.ty T]/\Rep H cx v d/\gC T d=some b/\Q (.bl b) H:=by intro pins s Z H xs us Q I r h;obtain⟨v,d,b,rfl,rp,e,q⟩:=h;obtain⟨u,w',rfl,r1,r2⟩:=rT r;cases r2;exact NM ty I r1 rp e q
theorem NO{y:Str}{py:Pos}(ty:i8 X.K T)(hg:Gl X "isinstance")(hm:X.mg "isinstance"=none)(pB:Gl X y)(pD:X.mg y=none)(wm:QH y=some (.type T))(he:SB X c e fb)(wo:y≠"__name__":=by decide)(pE:(y==("__debug__":Str))=false:=by decide)(hs:Wa [e,.Name y py] X.env=(false,eval e X.env)::Wa [.Name y py] X.env:=by rfl)(bT:(Qp pos (Wa [.Name y py] X.env)).any (·.1)=false:=by rfl):SE X c (.Call (.Name "isinstance" pp) [e,.Name y py] [] pos) (eL T fb):=PE.weak (nA (NN ty) hg hm PyProof.Rows.boot_isinstance (dX he (dX (Aq (v:=.ty T) pB pD wm rfl wo pE) f_) hs) Z' Z' hs bT) λZ H Q⟨Y,k,q⟩=>by unfold eL at q;rw[bo]at q;refine⟨Y,k,aM q λd SL q1 v H1 a1 r1=>?_⟩;cases e1:gC T d with|none=>rw[e1]at q1;exact q1.elim|some b=>rw[e1]at q1;exact⟨v,d,b,rfl,r1.un,e1,q1 _ H1 a1 (.bl _)⟩
end
abbrev k8:=Dl->Rs (Option Int)
def NP(c:Fc)(f:k8):TO:=λZ H Q=>∃Y,Ok c Z Y H/\post c (f Y) λo P3=>∀H',aK c Z Y H Z P3 H'->Q o H'
abbrev SO(X:Cx)(c:Fc)(e:Option Expr)(f:k8):Prop:=PO X e (NP c f)
theorem PO.weak{e t'}(h:PO X e t)(w:∀Z H Q,t' Z H Q->t Z H Q):PO X e t':=λpins s Z H Q I q=>h pins s Z H Q I (w Z H Q q)
def bE:k8:=λY=>.ok none Y
def aV(f:DE):k8:=λY=>(f Y).bind λr P3=>match r with|.pure (.int i)=>.ok (some i) P3|_=>.stuck
section
variable{c:Fc}{f:DE}{fl fh:k8}{lo hi:Option Expr}{p2:Pos}
theorem NQ:SO X c none bE:=PO.weak Lg λZ H Q⟨Y,k,q⟩=>q H (.refl k)
universe H in theorem NR(h:SE X c e f):SO X c (some e) (aV f):=PO.weak (Lh h) λZ H Q⟨Y,k,q⟩=>by unfold aV at q;rw[bo]at q;refine⟨Y,k,aM q λr SL q1 v H1 a1 r1=>?_⟩;cases r with|own d=>exact q1.elim|pure d=>
 cases d<;>first|exact q1.elim|skip
 rename_i i;cases r1;exact⟨i,rfl,q1 H1 a1⟩
noncomputable def cJ(lo hi:Option Int):D->Option S|.str x=>if x.length<=W7 then 0#(.str (br x lo hi)) else none|.tup ds=>0#(.tup (br ds lo hi))|.lst ds=>some (.own (.lst (br ds lo hi)))|_=>none
def Cu(K:W2):V->Option Int->Option Int->Hp->VK->Prop:=λx lo hi H Q=>B6 x lo hi H Q\/B4 K x lo hi H Q\/Bl K x lo hi H Q
theorem Cv:jv X (Cu X.K):=M3.or (MZ.or Lx)
universe H in theorem Cw(lo hi:Option Int):i7 (λx H Q=>Cu K x lo hi H Q) (cJ lo hi):=by intro c Z Y H x d s Q k rx hp q;cases d with
 |str z=>
  simp only[cJ]at hp;split at hp;.rename_i hz;simp only[Wb]at hp;subst hp;exact .inl ⟨z,rx.str,hz,q _ H (.refl k) (.str _)⟩
  .cases hp|tup ds=>
  simp only[cJ,Wb]at hp;subst hp;obtain⟨a,vs,ea,ha,ra⟩:=rx.tup;refine .inr (.inl ⟨a,vs,ea,.of ha,λhw=>?_,λ_ p hp=>?_⟩)
  .rw[ra.1]at hw;rw[MX hw]at q;rw[ea]at rx;rcases rx with rx|⟨_,_,rx⟩;.exact q _ H (.refl k) rx
   .exact rx.elim
  .rw[<-B3];exact q _ _ (.alloc k hp _) (aL.mr k (ra.cut lo hi) hp)|lst ds=>simp only[cJ,Wb]at hp;subst hp;obtain⟨a,vs,ea,ha,ra⟩:=rx.lst;refine .inr (.inr ⟨a,vs,ea,.inl ha,λp hp=>?_⟩);rw[<-B3];exact q _ _ (.alloc k hp _) (aL.i6 k (ra.cut lo hi) hp)|_=>simp[cJ]at hp
def pF(f:DE)(fl fh:k8):DE:=λY=>(f Y).bind λx SL=>(fl SL).bind λl PP=>(fh PP).bind λh Pi=>p1 (cJ l h) x.d Pi
theorem NS(he:SE X c e f)(hl:SO X c lo fl)(hh:SO X c hi fh):SE X c (.Subscript e (.Slice lo hi none p2) pos) (pF f fl fh):=PE.weak (Bc Cv he hl hh) λZ H Q⟨Y,k,q⟩=>by unfold pF at q;rw[bo]at q;refine⟨Y,k,aM q λx SL q1 v H1 a1 r1=>⟨SL,a1.ok,?_⟩⟩;rw[bo]at q1;refine aM q1 λl PP q2 H2 a2=>⟨PP,a2.ok,?_⟩;rw[bo]at q2;refine aM q2 λh Pi q3 H3 a3=>?_;exact wg (Cw l h) a3.ok (.inl (Rep.da r1.rep (a2.trans a3))) (aM q3 λs Os q4 w H4 a4 r4=>q4 w H4 (a1.trans (a2.trans (a3.trans a4))) (aL.back r4 (a1.trans (a2.trans a3))))
def bj(i:Nat)(fl fh:k8):DE:=λY=>match Y[i]? with|some (some _)=>(fl Y).bind λl PP=>(fh PP).bind λh Pi=>(aq i Pi).bind λx Os=>p1 (cJ l h) x Os|_=>.stuck
theorem NT{v:V}{w:S}(k:Ok c Z Y H)(e:Y[i]?=some (some w))(ev:Z[i]?=some (some v)):cw c Z Y H v w.d:=by cases w with|pure d=>obtain⟨v',e1,r⟩:=k.slot i d e;rw[ev]at e1;cases e1;exact .inl r|own d=>obtain⟨a,e1,r,_⟩:=k.own i d e;rw[ev]at e1;cases e1;exact .inr ⟨a,rfl,r⟩
theorem NU(h:post c ((aq i Y).bind g) kk):∃w,Y[i]?=some (some w)/\post c (g w.d Y) kk:=by unfold aq at h;cases e:Y[i]? with|none=>rw[e]at h;exact h.elim|some o=>cases o with|none=>rw[e]at h;exact h.elim|some w=>rw[e]at h;exact⟨w,rfl,h⟩
theorem NV(he:PE X e (dz i))(hl:SO X c lo fl)(hh:SO X c hi fh):SE X c (.Subscript e (.Slice lo hi none p2) pos) (bj i fl fh):=PE.weak (Bc Cv he hl hh) λZ H Q⟨Y,k,q⟩=>by unfold bj at q;cases e:Y[i]? with|none=>rw[e]at q;exact q.elim|some o=>cases o with|none=>rw[e]at q;exact q.elim|some w=>rw[e]at q;obtain⟨v,ev⟩:=px k e;have q':post c ((fl Y).bind λl PP=>(fh PP).bind λh Pi=>(aq i Pi).bind λx Os=>p1 (cJ l h) x Os) λr P3=>∀v H',aK c Z Y H Z P3 H'->aL c Z P3 H H' v r->Q v H':=q;rw[bo]at q';refine⟨v,ev,Y,k,aM q' λl PP q2 H2 a2=>⟨PP,a2.ok,?_⟩⟩;rw[bo]at q2;refine aM q2 λh Pi q3 H3 a3=>?_;obtain⟨w3,e3,q4⟩:=NU q3;exact wg (Cw l h) a3.ok (NT a3.ok e3 ev) (aM q4 λs Os q4 w H4 a4 r4=>q4 w H4 (a2.trans (a3.trans a4)) (aL.back r4 (a2.trans a3)))
noncomputable def sT:D->Option S|.str x=>if x.length<=W7 then 0#(.str x.reverse) else none|.lst ds=>some (.own (.lst ds.reverse))|_=>none
def NW(K:W2):V->Hp->VK->Prop:=λx H Q=>(∃z:Tx,x=.str (toS z)/\z.length<=W7/\Q (.str (toS z.reverse)) H)\/∃a xs,x=.ref a/\bN K H a xs/\∀p,H p=none->Q (.ref p) (upd H p (.lst xs.reverse))
def i9(z:Tx):List Tx->Tx|[]=>[]|[x]=>x|x::y::r=>x++z++i9 z (y::r)
theorem Cy(z:Tx):∀(r:List Tx)(acc:Tx),(r.map toS).foldl (λ(acc:Array Nat)p=>acc++(toS z).cps++p.cps) acc.toArray=(match r with|[]=>acc|x::r'=>acc++z++i9 z (x::r')).toArray|[],acc=>rfl|x::r,acc=>by rw[Wj,Jl];have e:acc.toArray++(toS z).cps++(toS x).cps=(acc++z++x).toArray:=#v[toS];rw[e,Cy z r (acc++z++x)];cases r with|nil=>simp[i9]|cons y r'=>simp[i9]
theorem NX(z:Tx)(ts:List Tx):Txt.join (toS z) (ts.map toS)=toS (i9 z ts):=by show Builtin.Str.glued _ _=_;unfold Builtin.Str.glued;cases ts with|nil=>rfl|cons x r=>rw[Wj];show(⟨List.foldl _ (toS x).cps (r.map toS)⟩:Str)=_;have:=Cy z r x;have e:(toS x).cps=x.toArray:=rfl;rw[e,this];cases r with|nil=>rfl|cons y r'=>rfl
def i_(ts:List Tx):Nat:=(ts.map (·.length)).sum
noncomputable def dQ(z:Tx):D->Option S
 |.lst ds=>match cO ds with|some ts=>if i_ ts+ts.length*z.length<=16777216 then 0#(.str (i9 z ts)) else none|none=>none
 |.tup ds=>match cO ds with|some ts=>if i_ ts+ts.length*z.length<=16777216 then 0#(.str (i9 z ts)) else none|none=>none
 |_=>none
universe H in theorem NY(z:Tx):i7 (λx H Q=>sC K (.str (toS z)) [x] H Q) (dQ z):=by
 intro c Z Y H x d s Q k rx hp q;have key:∀(a:Addr)(vs:List V)(ds:List D),x=.ref a->bN K H a vs\/cA K H a vs->aG H (Av c Z Y) vs ds->(match cO ds with|some ts=>if i_ ts+ts.length*z.length<=16777216 then some (S.pure (.str (i9 z ts)))else none|none=>none)=some s->sC K (.str (toS z)) [x] H Q:=by intro a vs ds ea ha ra hp;cases e:cO ds with|none=>rw[e]at hp;cases hp|some ts=>
   rw[e]at hp;simp only at hp;split at hp
   .rename_i hz;simp only[Wb]at hp;subst hp;have:=sR e ra;subst this;refine⟨toS z,a,ts.map toS,rfl,by rw[ea],?_,?_,?_⟩;.rw[Q9];exact ha
    .rw[Q9,Wq,i4];have:(λx:Str=>x.length)∘toS=λx:Tx=>x.length:=funext λx=>i4 x;rw[this];exact hz
    .rw[NX];exact q _ H (.refl k) (.str _)
   .cases hp
 cases d with|lst ds=>obtain⟨a,vs,ea,ha,ra⟩:=rx.lst;exact key a vs ds ea (.inl (.inl ha)) ra hp|tup ds=>obtain⟨a,vs,ea,ha,ra⟩:=rx.tup;exact key a vs ds ea (.inr (.of ha)) ra hp|_=>simp[dQ]at hp
theorem NZ{x:Str}{j}{p0 apos bu:Pos}(z:Tx)(he:SB X c e fb)(hx:x=toS z:=by decide+kernel)(fD:Ja (.Constant (.str x) j p0) "join" X.env (eval (.Constant (.str x) j p0) X.env)=eval (.Constant (.str x) j p0) X.env:=by rfl)(iY:((Qp bu (Wa [e] X.env)).all (λx=>!x.1)&&(backToKw bu (Ui [] X.env)).all (λx=>x.1.isSome)&&decide ([e].length+([]:List Keyword).length+(if([]:List Keyword).isEmpty then 0 else 1)<30))=true:=by rfl)(cY:(apos.endLine==bu.line)=true:=by rfl)(hs:Wa [e] X.env=(false,eval e X.env)::Wa [] X.env:=by rfl):SE X c (.Call (.Attribute (.Constant (.str x) j p0) "join" apos) [e] [] bu) (ay (dQ z) fb):=by subst hx;refine PE.weak (oX PySem.F.plainAttrs_str PySem.F.slot_str_join PySem.F.type_str_join Na Ap (dX he f_ hs) fD iY cY hs rfl) λZ H Q h=>?_;obtain⟨Y,k,q⟩:=mB (r:=λx H Q=>sC X.K (.str (toS z)) [x] H Q) (NY z) h;refine⟨?_,Y,k,q⟩;show("str":String)="str";rfl
end
inductive Fl where|next|ret(r:S)|brk|cont
abbrev DS:=Dl->Rs Fl
def fin(c:Fc)(D:Ends)(Z:St)(Y:Dl)(H:Hp):Fl->Prop|.next=>D.nx Z H|.ret r=>∀v,aL c Z Y c.H₀ H v r->D.rt v H|.brk=>D.bk Z H|.cont=>D.ct Z H
def dq(c:Fc)(D:Ends)(Z:St)(Y:Dl)(H:Hp)(r:Rs Fl):Prop:=post c r λfl P3=>∀Pv H',aK c Z Y H Pv P3 H'->fin c D Pv P3 H' fl
def k9(c:Fc)(f:DS):TS:=λD Z H=>∃Y,Ok c Z Y H/\dq c D Z Y H (f Y)
abbrev SS(X:Cx)(c:Fc)(st:Stmt)(f:DS):Prop:=PS X st (k9 c f)
abbrev fm(X:Cx)(c:Fc)(st:List Stmt)(f:DS):Prop:=c_ X st (k9 c f)
theorem PS.weak{st:Stmt}{t t':TS}(h:PS X st t)(w:∀D Z H,t' D Z H->t D Z H):PS X st t':=λpins s Z H D I q=>h pins s Z H D I (w D Z H q)
theorem c_.weak{st:List Stmt}{t t':TS}(h:c_ X st t)(w:∀D Z H,t' D Z H->t D Z H):c_ X st t':=λpins s Z H D I q=>h pins s Z H D I (w D Z H q)
def bI:DS:=λY=>.ok .next Y
def aA(f g:DS):DS:=λY=>(f Y).bind λfl SL=>match fl with|.next=>g SL|.ret r=>.ok (.ret r) SL|.brk=>.ok .brk SL|.cont=>.ok .cont SL
def gD(f:DE):DS:=λY=>(f Y).bind λj SL=>.ok .next SL
def aU(f:DE):DS:=λY=>(f Y).bind λr SL=>.ok (.ret r) SL
def bA(t:DT)(f g:DS):DS:=λY=>(t Y).bind λb SL=>if b then f SL else g SL
def Zy(np:List Nat)(i:Nat):DE:=λY=>match Y[i]? with|some (some (.own d))=>if np.contains i then .ok (.pure d) (Y.set i 0#d)else .ok (.own d) (Y.set i none)|some 0#d=>.ok (.pure d) Y|_=>.stuck
section
variable{c:Fc}{st:Stmt}{a:Expr}{f g:DS}{t:DT}
theorem CA:fm X c [] bI:=c_.weak I_ λD Z H⟨Y,k,q⟩=>q Z H (.refl k)
theorem CB(h1:SS X c st f)(h2:fm X c Cz g):fm X c (st::Cz) (aA f g):=c_.weak (J_ h1 h2) λD Z H⟨Y,k,q⟩=>by unfold aA dq at q;rw[bo]at q;refine⟨Y,k,aM q λfl SL q1 KS H1 a1=>?_⟩;cases fl with|next=>exact⟨SL,a1.ok,aM q1 λZz PP q2 N' H2 a2=>q2 N' H2 (a1.trans a2)⟩|ret r=>exact q1 KS H1 a1|brk=>exact q1 KS H1 a1|cont=>exact q1 KS H1 a1
theorem CC(h1:SS X c st f):fm X c [st] f:=c_.weak (As h1) λD Z H h=>h
theorem N0(he:SE X c e fe):SS X c (.Return (some e) pos) (aU fe):=PS.weak (Au he) λD Z H⟨Y,k,q⟩=>by unfold aU dq at q;rw[bo]at q;exact⟨Y,k,aM q λr SL q1 v H1 a1 r1=>q1 Z H1 a1 v r1.MI⟩
theorem N1{b1 b2:List Stmt}(ht:ST X c e t)(h1:fm X c b1 f)(h2:fm X c b2 g):SS X c (.If e b1 b2 pos) (bA t f g):=PS.weak (Kc ht h1 h2) λD Z H⟨Y,k,q⟩=>by unfold bA dq at q;rw[bo]at q;refine⟨Y,k,aM q λb SL q1 H1 a1=>?_⟩;cases b with|true=>exact⟨SL,a1.ok,aM q1 λfl PP q2 N' H2 a2=>q2 N' H2 (a1.trans a2)⟩|false=>exact⟨SL,a1.ok,aM q1 λfl PP q2 N' H2 a2=>q2 N' H2 (a1.trans a2)⟩
theorem Own.pG(h:Own (Z.set i (some v)) (Y.set i (some r)) b):Own Z Y b\/v=.ref b/\∃d,r=.own d:=by
 obtain⟨j,d,e1,e2⟩:=h;by_cases hj:i=j;.subst hj;right;rw[Q6]at e1 e2;simp at e1 e2;obtain⟨_,h1⟩:=e1;obtain⟨_,h2⟩:=e2;exact⟨h2,d,h1⟩
 .rw[Wc hj]at e1 e2;exact .inl ⟨j,d,e1,e2⟩
theorem Ok.set(x:aK c Z₀ Y₀ H₁ Z Y H)(hr:aL c Z Y H₁ H v r)(hp:∀p∈c.pin,p.1≠i):aK c Z₀ Y₀ H₁ (Z.set i (some v)) (Y.set i (some r)) H:=by
 have k:=x.ok;have all:∃c':Fc,c'.H₀=c.H₀/\c'.pin=c.pin/\Ok c' Z Y H/\∀b,Av c (Z.set i (some v)) (Y.set i (some r)) b->Av c' Z Y b:=by cases r with
 |pure d=>
   refine⟨c,rfl,rfl,k,λb z=>?_⟩;rcases z with z|z;.exact .inl z
   .rcases z.pG with z|⟨_,d',e⟩;.exact .inr z
    .cases e|own d=>
   obtain⟨a,ea,o,n,f,k2,_⟩:=hr;refine⟨c.plus a,rfl,rfl,k2,λb z=>?_⟩;rcases z with z|z;.exact .inl (.inl z)
   .rcases z.pG with z|⟨e,_⟩;.exact .inr z
    .rw[ea]at e;cases e;exact .inl (.inr rfl)
 obtain⟨c',eH,eP,k2,sub⟩:=all;have eI:∀a,c'.I a↔c.I a:=λa=>by unfold Fc.I;rw[eP]
 have N2:Rep H (Av c (Z.set i (some v)) (Y.set i (some r))) v r.d\/∃d,r=.own d:=by cases r with
 |pure d=>
   left;refine Rep.aS hr λb z=>?_;rcases z with z|z;.exact .inl (.inl z)
   .rcases z.pG with z|⟨_,d',e⟩;.exact .inl (.inr z)
    .cases e|own d=>exact .inr ⟨d,rfl⟩
 refine⟨⟨k.keep,k.bd,k.dj,%[QY,QY|k.len],λj d e=>?_,λj d e=>?_,λj l a d d' e1 e2 e3 e4=>?_,λp hm=>?_⟩,x.keep,λb z=>?_,x.there⟩
 .by_cases hj:i=j
  .subst hj;rw[Q6]at e;simp at e;obtain⟨hi,rfl⟩:=e;have dD:i<Z.length:=by rw[<-k.len];exact hi
   rcases N2 with h|⟨_,h⟩;.exact⟨v,by rw[WB dD],h⟩
   .cases h
  .rw[Wc hj]at e;obtain⟨w,e1,q⟩:=k2.slot j d e;exact⟨w,%[Wc hj|e1],q.aS λb z=>.inl (sub b z)⟩
 .by_cases hj:i=j
  .subst hj;rw[Q6]at e;simp at e;obtain⟨hi,rfl⟩:=e;have dD:i<Z.length:=by rw[<-k.len];exact hi
   obtain⟨a,ea,o,n,f,k3,_⟩:=hr;refine⟨a,by rw[WB dD,ea],o.aS λb z=>.inl ?_,.inr f,n⟩;rcases z with z|z;.exact .inl (.inl z)
   .rcases z.pG with z|⟨e,_⟩;.exact .inr z
    .rw[ea]at e;cases e;exact .inl (.inr rfl)
  .rw[Wc hj]at e;obtain⟨a,e1,q,q2,q3⟩:=k.own j d e;obtain⟨a',e1',q',_,_⟩:=k2.own j d e;rw[e1]at e1';cases e1';exact⟨a,%[Wc hj|e1],q'.aS λb z=>.inl (sub b z),q2,q3⟩
 .by_cases hj:i=j
  .subst hj;by_cases hl:i=l;.exact hl
   .rw[Wc hl]at e2 e4;rw[Q6]at e1 e3;simp at e1 e3;obtain⟨_,rfl⟩:=e1;obtain⟨_,rfl⟩:=e3;obtain⟨a',ea,o,n,f,k3,_⟩:=hr;cases ea;exact absurd ⟨l,d',e2,e4⟩ (sm k3)
  .rw[Wc hj]at e1 e3;by_cases hl:i=l;.subst hl;rw[Q6]at e2 e4;simp at e2 e4;obtain⟨_,rfl⟩:=e2;obtain⟨_,rfl⟩:=e4;obtain⟨a',ea,o,n,f,k3,_⟩:=hr;cases ea;exact absurd ⟨j,d,e1,e3⟩ (sm k3)
   .rw[Wc hl]at e2 e4;exact k.inj j l a d d' e1 e2 e3 e4
 .rw[Wc (Ne.symm (hp p hm))];exact k.pinned p hm
 .rcases z.pG with z|⟨e,d,ed⟩;.exact x.own b z
  .subst ed;obtain⟨a,ea,_,_,_,_,hs⟩:=hr;grind
abbrev DG:=S->Dl->Option Dl
def wq(c:Fc)(g:DG):TG:=λv Z H Q=>∃Z₀ Y₀ H₁ Y r P3,aK c Z₀ Y₀ H₁ Z Y H/\aL c Z Y H₁ H v r/\g r Y=some P3/\∀Pv,aK c Z₀ Y₀ H₁ Pv P3 H->Q Pv H
abbrev SG(X:Cx)(c:Fc)(tg:Expr)(g:DG):Prop:=PG X tg (wq c g)
def ah(np:List Nat)(i:Nat):DG:=λr Y=>if np.contains i then none else some (Y.set i (some r))
def Np(c:Fc)(np:List Nat):Prop:=∀p∈c.pin,np.contains p.1=true
universe H in theorem wu(hp:Np c np)(h:wq c (ah np i) v Z H Q):rK i v Z H Q:=by
 obtain⟨Z₀,Y₀,H₁,Y,r,P3,x,rr,e,q⟩:=h;unfold ah at e;split at e;.cases e
 .rename_i hn;cases e;exact q _ (Ok.set x rr λp hm e=>hn (by rw[<-e];exact hp p hm))
theorem PG.weak{t t':TG}(h:PG X tg t)(w:∀v Z H Q,t' v Z H Q->t v Z H Q):PG X tg t':=λpins s Z H v u Q I r q=>h pins s Z H v u Q I r (w v Z H Q q)
theorem gQ.weak{tg:List Expr}{t t':kM}(h:gQ X tg t)(w:∀v Z H Q,t' v Z H Q->t v Z H Q):gQ X tg t':=λpins s Z H v u Q I r q=>h pins s Z H v u Q I r (w v Z H Q q)
theorem N3{x:Str}(hp:Np c np)(hN:X.N.Nodup)(hi:X.N[i]?=some x)(hx:Loc X.env.scope x)(hf:X.fn x=true\/X.env.scope.names.lookup x=some .local):SG X c (.Name x pos) (ah np i):=PG.weak (Ay hN hi hx hf) λv Z H Q h=>wu hp h
abbrev iB:=List D->Dl->Option Dl
def N4(c:Fc)(g:iB):kM:=λvs Z H Q=>∃Y ds P3,Ok c Z Y H/\aG H (Av c Z Y) vs ds/\g ds Y=some P3/\∀Pv,aK c Z Y H Pv P3 H->Q Pv H
abbrev pH(X:Cx)(c:Fc)(tg:List Expr)(g:iB):Prop:=gQ X tg (N4 c g)
def jy:iB:=λds Y=>match ds with|[]=>some Y|_=>none
def fo(g:DG)(gs:iB):iB:=λds Y=>match ds with|[]=>none|d::r=>(g (.pure d) Y).bind λSL=>gs r SL
theorem N5:pH X c [] jy:=gQ.weak Az λvs Z H Q hh=>by
 obtain⟨Y,ds,P3,k,r,e,q⟩:=hh
 cases ds with|nil=>
 cases e;have:vs=[]:=by have:=r.1;simpa using this
 exact⟨this,q Z (.refl k)⟩|cons d r=>cases e
theorem N6{g:DG}{gs:iB}(h1:SG X c e g)(h2:pH X c es gs)(hs:(Qv (e::es) X.env).map (·.2)=assign e X.env::(Qv es X.env).map (·.2):=by rfl):pH X c (e::es) (fo g gs):=gQ.weak (AA h1 h2 hs) λvs Z H Q hh=>by obtain⟨Y,ds,P3,k,r,e,q⟩:=hh;cases ds with|nil=>cases e|cons d ds=>cases vs with|nil=>have:=r.1;simp at this|cons v vs=>simp only[fo]at e;cases e1:g (.pure d) Y with|none=>rw[e1]at e;cases e|some SL=>rw[e1]at e;refine⟨v,vs,rfl,Z,Y,H,Y,.pure d,SL,.refl k,r.head,e1,λKS a1=>?_⟩;exact⟨SL,ds,P3,a1.ok,aG.da r.tail a1,e,λN' a2=>q N' (a1.trans a2)⟩
def iC(n:Nat)(gs:iB):DG:=λr Y=>match r.d with|.tup ds=>if ds.length=n then gs ds Y else none|_=>none
universe H in theorem N7{k:Nat}{gs:iB}(hc:X.calm=true)(h:pH X c es gs)(hn:(Qv es X.env).length=n:=by rfl)(cL:(Qv es X.env).findIdx? (·.1)=none:=by rfl):SG X c (.Tuple es k pos) (iC n gs):=PG.weak (AB hc h hn cL) λv Z H Q hw=>by
 obtain⟨Z₀,Y₀,H₁,Y,r,P3,x,rr,e,q⟩:=hw;have hb:=rr.b;unfold iC at e;generalize r.d=d at e hb;cases d<;>first|(cases e;done)|skip
 rename_i ds;simp only at e;split at e;.rename_i hl;obtain⟨a,vs,ea,ha,ra⟩:=hb.tup;exact⟨a,vs,ea,.of ha,%[ra.1|hl],Y,ds,P3,x.ok,ra,e,λPv a1=>q Pv (x.trans a1)⟩
 .cases e
def aE(f:DE)(g:DG):DS:=λY=>(f Y).bind λr SL=>match g r SL with|some PP=>.ok .next PP|none=>.stuck
theorem wx{g:DG}{D:Ends}{tg:TG}(he:∀Z H Q,tD c fe Z H Q->te Z H Q)(hg:∀v Z H Q,wq c g v Z H Q->tg v Z H Q)(h:k9 c (aE fe g) D Z H):rL te tg D Z H:=by obtain⟨Y,k,q⟩:=h;unfold aE dq at q;rw[bo]at q;refine he _ _ _ ⟨Y,k,aM q λr SL q1 v H1 a1 r1=>hg _ _ _ _ ?_⟩;cases e:g r SL with|none=>rw[e]at q1;exact q1.elim|some PP=>rw[e]at q1;exact⟨Z,Y,H,SL,r,PP,a1,r1,e,λPv a2=>q1 Pv H1 a2⟩
theorem N8{g:DG}(he:SE X c e fe)(hg:SG X c tg g)(hs:swapsWithSole [tg] e pos.line X.env=pure false:=by rfl)(hw:swappedStores [tg] e X.env=pure none:=by rfl)(h1:(Qv [tg] X.env).map (·.2)=[assign tg X.env]:=by rfl):SS X c (.Assign [tg] e pos) (aE fe g):=PS.weak (AD he hg hs hw h1) λD Z H h=>wx (λj j j h=>h) (λj j j j h=>h) h
theorem N9{x:Str}(hp:Np c np)(hN:X.N.Nodup)(hi:X.N[i]?=some x)(hx:Loc X.env.scope x)(he:SE X c e fe)(hs:Jg e (some (.Name x pos')) pos.line X.env=pure false)(hf:X.fn x=true\/X.env.scope.names.lookup x=some .local):SS X c (.Assign [.Name x pos'] e pos) (aE fe (ah np i)):=PS.weak (Ki hN hi hx he hs hf) λD Z H h=>wx (λj j j h=>h) (λj j j j h=>wu hp h) h
theorem N_(he:SE X c e fe)(hs:∀(x:Value),Jg e none pos.line X.env=pure false:=by intro _;rfl)(hd:True:=trivial)(h:PS X (.Expr e pos) (u_ (tD c fe))):SS X c (.Expr e pos) (gD fe):=PS.weak h λD Z H⟨Y,k,q⟩=>by unfold gD dq at q;rw[bo]at q;exact⟨Y,k,aM q λr SL q1 v H1 a1 r1=>q1 Z H1 a1⟩
theorem Ok.sU{dO:List D}{a:Addr}(k:Ok c Z Y H)(e:Y[i]?=some (some (.own (.lst ds))))(ea:Z[i]?=some (some (.ref a)))(r:aG H (Av c Z Y) mq dO):aK c Z Y H Z (Y.set i (some (.own (.lst dO)))) (upd H a (.lst mq)):=by
 have hi:i<Y.length:=(Wd.mp e).1;obtain⟨a',ea',oa,ia,nb⟩:=k.own i _ e;rw[ea]at ea';cases ea';obtain⟨vs,ha,_⟩:=oa;have wy:Own Z Y a:=⟨i,_,e,ea⟩;have wz:Av c Z Y a:=.inr wy;have pI:∀b,Own Z (Y.set i (some (.own (.lst dO)))) b↔Own Z Y b:=λb=>by
  constructor
  .rintro⟨j,d,e1,e2⟩;by_cases hj:i=j;.subst hj;exact⟨i,_,e,e2⟩
   .rw[Wc hj]at e1;exact⟨j,d,e1,e2⟩
  .rintro⟨j,d,e1,e2⟩;by_cases hj:i=j;.subst hj;exact⟨i,_,by rw[WB hi],e2⟩
   .exact⟨j,d,%[Wc hj|e1],e2⟩
 have mC:∀b,Av c Z (Y.set i (some (.own (.lst dO)))) b->Av c Z Y b:=λb z=>z.elim .inl λz=>.inr ((pI b).mp z);have ne:∀b,¬Av c Z Y b->b≠a:=λb n z=>n %[z|wz];have kp:∀b o,H b=some o->¬Av c Z Y b->upd H a (.lst mq) b=some o:=λb o h n=>%[ba (ne b n)|h];have gY:∀b o,H b=some o->∃o',upd H a (.lst mq) b=some o':=λb o h=>by
  by_cases hb:b=a;.exact⟨_,%[hb|cz]⟩
  .exact⟨o,%[ba hb|h]⟩
 refine⟨⟨λb o h n=>?_,λb z=>?_,λb z=>?_,%[QY|k.len],λj d h=>?_,λj d h=>?_,λj l b d d' h1 h2 h3 h4=>?_,k.pinned⟩,λb o h n=>?_,λb z=>.inl ((pI b).mp z),gY⟩
 .have hb:b≠a:=λz=>by grind
  rw[ba hb];exact k.keep b o h n
 .obtain⟨o,h⟩:=k.bd b z;exact gY b o h
 .obtain⟨o,h⟩:=k.dj b z;exact gY b o h
 .have hj:i≠j:=λz=>by subst z;rw[WB hi]at h;cases h
  rw[Wc hj]at h;obtain⟨v,h1,h2⟩:=k.slot j d h;exact⟨v,h1,(h2.keep kp).aS λb z=>.inl (mC b z)⟩
 .by_cases hj:i=j;.subst hj;rw[WB hi]at h;cases h;exact⟨a,ea,⟨mq,cz,aG.aS (aG.keep r kp) λb z=>.inl (mC b z)⟩,ia,nb⟩
  .rw[Wc hj]at h;obtain⟨b,h1,h2,h3,h4⟩:=k.own j d h;have hb:b≠a:=λz=>by subst z;exact hj (k.inj i j b _ d e h ea h1)
   exact⟨b,h1,(h2.keep kp λo q=>%[ba hb|q]).aS λb z=>.inl (mC b z),h3,h4⟩
 .have f1:∃d,Y[j]?=some (some (.own d)):=by
   by_cases hj:i=j;.subst hj;exact⟨_,e⟩
   .rw[Wc hj]at h1;exact⟨d,h1⟩
  have f2:∃d,Y[l]?=some (some (.own d)):=by
   by_cases hj:i=l;.subst hj;exact⟨_,e⟩
   .rw[Wc hj]at h2;exact⟨d',h2⟩
  obtain⟨_,f1⟩:=f1;obtain⟨_,f2⟩:=f2;exact k.inj j l b _ _ f1 f2 h3 h4
 grind[ba]
def jc(Y:Dl)(i:Nat):Bool:=match Y[i]? with
 |some (some s)=>match s with|.own d=>(match d with|.lst _=>true|_=>false)|_=>false
 |_=>false
noncomputable def putL(Y:Dl)(i:Nat)(f:List D->Option (List D)):Rs Fl:=match Y[i]? with
 |some (some (.own (.lst ds)))=>match f ds with|some dO=>.ok .next (Y.set i (some (.own (.lst dO))))|none=>.stuck
 |_=>.stuck
theorem wA(h:jc Y i=true):∃ds,Y[i]?=some (some (.own (.lst ds))):=by unfold jc at h;cases e:Y[i]? with|none=>rw[e]at h;cases h|some o=>
 rw[e]at h;rcases o with _|_|d<;>first|(cases h;done)|skip
 cases d<;>first|exact⟨_,rfl⟩|cases h
universe H in theorem wB{g:List D->Option (List D)}{kk:Fl->Dl->Prop}(h:post c (putL Y i g) kk):∃ds dO,Y[i]?=some (some (.own (.lst ds)))/\g ds=some dO/\kk .next (Y.set i (some (.own (.lst dO)))):=by
 unfold putL at h;split at h
 .rename_i ds e;split at h;.rename_i dO e2;exact⟨ds,dO,e,e2,h⟩
  .exact h.elim
 .exact h.elim
def dt(i:Nat)(f:DE):DS:=λY=>if jc Y i then(f Y).bind λr SL=>putL SL i λds=>if ds.length<W7 then some (ds++[r.d])else none else .stuck
universe H in theorem Oa{o:Expr}{p0:Pos}(ho:PE X o (dz i))(he:SE X c e fe)(h:PS X (.Expr (.Call (.Attribute o "append" apos) [e] [] bu) pos) (u_ (Bo X.K "list" Br (dz i) (AW (tD c fe) AV)))):SS X c (.Expr (.Call (.Attribute o "append" apos) [e] [] bu) pos) (dt i fe):=PS.weak h λD Z H⟨Y,k,q⟩=>by
  unfold dt dq at q;split at q
  .rename_i j9;obtain⟨ds0,e0⟩:=wA j9;rw[bo]at q;obtain⟨a,ea,oa,_⟩:=k.own i _ e0;refine⟨.ref a,ea,?_,Y,k,aM q λr SL q1 v H1 a1 r1=>?_⟩;.obtain⟨vs,ha,_⟩:=oa;exact .inl ⟨rfl,vs,.of ha⟩
   .obtain⟨ds,dO,e1,e2,q2⟩:=wB q1;split at e2;.rename_i hz;cases e2;obtain⟨a',ea',oa1,_⟩:=a1.ok.own i _ e1;rw[ea]at ea';cases ea';obtain⟨vs,ha,ra⟩:=id oa1;refine⟨a,vs,v,rfl,rfl,ha,%[ra.1|hz],?_⟩;exact q2 Z _ (a1.trans (Ok.sU a1.ok e1 ea (ra.append (.cons r1.rep .nil))))
    .cases e2
  .exact q.elim
def k_(i:Nat)(fi:DE)(fe:DE):DS:=λY=>if jc Y i then(fe Y).bind λr SL=>(fi SL).bind λk PP=>match k with|.pure (.int j)=>putL PP i λds=>(gx ds.length j).map λn=>ds.set n r.d|_=>.stuck else .stuck
universe H in theorem Ob{o ix:Expr}{fi:DE}{sp:Pos}(ho:PE X o (dz i))(hi:SE X c ix fi)(he:SE X c e fe)(ha:∀v,assign (.Subscript o ix sp) X.env v=(do
   let ov<-holding [v] (eval o X.env)let iv<-holding [v,ov] (eval ix X.env)standAt sp
   holding [v,ov,iv] (setItem ov iv v)release [v,ov,iv] []):=by intro _;rfl)(hs:swapsWithSole [.Subscript o ix sp] e pos.line X.env=pure false:=by rfl)(hw:swappedStores [.Subscript o ix sp] e X.env=pure none:=by rfl)(h1:(Qv [.Subscript o ix sp] X.env).map (·.2)=[assign (.Subscript o ix sp) X.env]:=by rfl):SS X c (.Assign [.Subscript o ix sp] e pos) (k_ i fi fe):=PS.weak (AD he (Kh ho hi Lu ha) hs hw h1) λD Z H⟨Y,k,q⟩=>by
  unfold k_ dq at q;split at q;.rename_i j9;obtain⟨ds0,e0⟩:=wA j9;rw[bo]at q;obtain⟨a,ea,_,_⟩:=k.own i _ e0;refine⟨Y,k,aM q λr SL q1 v H1 a1 r1=>⟨.ref a,ea,SL,a1.ok,?_⟩⟩;rw[bo]at q1;refine aM q1 λkx PP q2 u H2 a2 r2=>?_;cases kx with|own d=>exact q2.elim|pure d=>
    cases d<;>first|exact q2.elim|skip
    rename_i j;cases r2;obtain⟨ds,dO,e1,e2,q3⟩:=wB q2;cases e3:gx ds.length j with|none=>rw[e3]at e2;cases e2|some n=>rw[e3]at e2;cases e2;obtain⟨a',ea',oa1,_⟩:=a2.ok.own i _ e1;rw[ea]at ea';cases ea';obtain⟨vs,ha,ra⟩:=id oa1;refine⟨a,vs,j,n,rfl,rfl,ha,%[ra.1|e3],?_⟩;exact q3 Z _ (a1.trans (a2.trans (Ok.sU a2.ok e1 ea (ra.set (Rep.da r1.rep a2) n))))
  .exact q.elim
end
variable{gs:iB}
abbrev DI:=Dl->Rs (List D)
def nM(c:Fc)(Z:St)(Y:Dl)(H:Hp)(J:It)(ds:List D):Prop:=∀H2,(∀a o,H a=some o->¬Own Z Y a->H2 a=some o)->J.stop ds.length H2/\∀(i:Nat)d,ds[i]?=some d->J.go i H2/\∀x H3,J.oN i H2 x H3->H3=H2/\Rep H (Av c Z Y) x d\/∃p vs es,H2 p=none/\H3=upd H2 p (.tup vs)/\x=.ref p/\d=.tup es/\aG H (Av c Z Y) vs es
def tI(c:Fc)(f:DI):TI:=λZ H R=>∃Y,Ok c Z Y H/\post c (f Y) λds P3=>∀J H',aK c Z Y H Z P3 H'->nM c Z P3 H' J ds->R J H'
abbrev SI(X:Cx)(c:Fc)(tg iter:Expr)(f:DI):Prop:=PI X tg iter (tI c f)
theorem PI.weak{t'}(h:PI X tg iter t)(w:∀Z H R,t' Z H R->t Z H R):PI X tg iter t':=λpins s Z H R I q=>h pins s Z H R I (w Z H R q)
section
variable{c:Fc}
theorem Oc(K:W2)(h:H a=some (.tup vs))(n:¬Own Z Y a)(r:aG H (Av c Z Y) vs ds):nM c Z Y H (vb K a) ds:=by intro H2 kp;have h2:=kp a _ h n;refine⟨⟨vs,.of h2,%[r.1|W5 _]⟩,λi d e=>?_⟩;obtain⟨v,ev,rv⟩:=r.get e;refine⟨⟨vs,v,.of h2,ev⟩,λx H3⟨e3,y⟩=>.inl ⟨e3,?_⟩⟩;have:=y vs (.of h2);grind
def gZ(lo:Int)(n:Nat):List D:=(Wl n).map λk:Nat=>D.int (lo+k)
theorem Od{lo:Int}{d:D}(h:(gZ lo n)[i]?=some d):i<n/\d=.int (lo+i):=by
 unfold gZ at h;rw[WD]at h;by_cases hi:i<n;.rw[List.getElem?_range hi]at h;simp at h;exact⟨hi,h.symm⟩
 .rw[WJ (~~~hi)]at h;cases h
theorem Oe(lo:Int)(n:Nat):nM c Z Y H (rO lo n) (gZ lo n):=by intro H2 kp;refine⟨by show n<=(gZ lo n).length;simp[gZ],λi d e=>?_⟩;obtain⟨hi,rfl⟩:=Od e;exact⟨hi,λx H3⟨e3,ex⟩=>.inl ⟨e3,%[ex|.int _]⟩⟩
def nN(j:Int):Bool:=decide (-2^62<=j)&&decide (j<2^62)
def cb(f:DE):DI:=λY=>(f Y).bind λr SL=>match r with|.pure (.int j)=>if nN j then .ok (gZ 0 j.toNat) SL else .stuck|_=>.stuck
universe H in theorem Of(hg:Gl X "range")(hm:X.mg "range"=none)(he:SE X c e fe)(hs:Wa [e] X.env=[(false,eval e X.env)]:=by rfl):SI X c tg (.Call (.Name "range" pp) [e] [] pos) (cb fe):=PI.weak (Kp hg hm (dX he f_ hs) hs) λZ H R⟨Y,k,q⟩=>by unfold cb at q;rw[bo]at q;refine⟨Y,k,aM q λr SL q1 v H1 a1 r1=>?_⟩;cases r with|own d=>exact q1.elim|pure d=>
 cases d<;>first|exact q1.elim|skip
 rename_i j;cases r1;simp only at q1;split at q1;.rename_i hj;unfold nN at hj;simp only[Wn,decide_eq_true_eq]at hj;exact⟨j,rfl,hj.1,hj.2,q1 _ H1 a1 (Oe 0 j.toNat)⟩
 .exact q1.elim
noncomputable def forL(g:DG)(b:DS):List D->DS|[],Y=>.ok .next Y|d::r,Y=>match g (.pure d) Y with|none=>.stuck|some SL=>(b SL).bind λfl PP=>match fl with|.next=>forL g b r PP|.cont=>forL g b r PP|.brk=>.ok .next PP|.ret v=>.ok (.ret v) PP
def bX(it:DI)(g:DG)(b:DS):DS:=λY=>(it Y).bind λds SL=>forL g b ds SL
theorem CD(io:nM c Z Y H J ds)(a:aK c Z Y H N' PP H2)(e:ds[i]?=some d)(y:J.oN i H2 x H3):aK c N' PP H2 N' PP H3/\Rep H3 (Av c N' PP) x d:=by
 obtain⟨_,t⟩:=io H2 a.keep;rcases(t i d e).2 x H3 y with⟨e3,r⟩|⟨p,vs,es,hp,e3,ex,ed,r⟩;.subst e3;exact⟨.refl a.ok,Rep.da r a⟩
 .subst e3 ex ed;have:=aL.mr a.ok (aG.da r a) hp;exact⟨.alloc a.ok hp _,this⟩
theorem CF{it:DI}{g:DG}{b:DS}(hp:PassesOwn 5#0 X.A X.env X.xe)(hc:X.calm=true)(hi:SI X c tg iter it)(hg:SG X c tg g)(hb:fm X c body b)(hs:∀x,Jq iter X.env x=pure x:=by intro _;rfl):SS X c (.For tg iter body [] pos) (bX it g b):=PS.weak (Ks hp hc hi hg hb hs) λD Z H⟨Y,k,q⟩=>by
 unfold bX dq at q;rw[bo]at q;refine⟨Y,k,aM q λds SL q1 J H1 a1 io=>?_⟩;refine⟨λi m N' H2=>∃PP,m=ds.length-i/\i<=ds.length/\aK c Z SL H1 N' PP H2/\dq c D N' PP H2 (forL g b (ds.drop i) PP),⟨ds.length,SL,Zw,Q2 _,.refl a1.ok,?_⟩,?_⟩;.rw[List.drop_zero];exact aM q1 λfl PP q2 N' H2 a2=>q2 N' H2 (a1.trans a2)
 .rintro i m N' H2⟨PP,rfl,wC,a2,p2⟩;by_cases bz:i<ds.length;.right;have e:ds[i]?=some ds[i]:=#v[bz];rw[QG bz]at p2;refine⟨((io H2 a2.keep).2 i _ e).1,λOn H4=>∃Os,aK c Z SL H1 On Os H4/\dq c D On Os H4 (forL g b (ds.drop (i+1)) Os),λOn H4⟨Os,a4,p4⟩=>⟨ds.length-(i+1),Y',Os,rfl,bz,a4,p4⟩,λx H3 y=>?_⟩;obtain⟨a3,r3⟩:=CD io a2 e y;simp only[forL,dq]at p2;cases eg:g (.pure ds[i]) PP with|none=>rw[eg]at p2;exact p2.elim|some Pi=>rw[eg]at p2;refine⟨N',PP,H3,PP,.pure ds[i],Pi,.refl a3.ok,r3,eg,λKM a3'=>?_⟩;have p3:post c ((b Pi).bind λfl PP=>match fl with|.next=>forL g b (ds.drop (i+1)) PP|.cont=>forL g b (ds.drop (i+1)) PP|.brk=>.ok .next PP|.ret v=>.ok (.ret v) PP) λfl P3=>∀Pv H',aK c N' PP H2 Pv P3 H'->fin c D Pv P3 H' fl:=p2;rw[bo]at p3;have Og:aK c N' PP H2 KM Pi H3:=a3.trans a3';refine⟨Pi,a3'.ok,aM p3 λfl Os p4 On H4 a4=>?_⟩;have g6:=Og.trans a4;cases fl with|next=>exact⟨Os,a2.trans g6,aM p4 λfl KE p5 GM H5 a5=>p5 GM H5 (g6.trans a5)⟩|cont=>exact⟨Os,a2.trans g6,aM p4 λfl KE p5 GM H5 a5=>p5 GM H5 (g6.trans a5)⟩|brk=>exact p4 On H4 g6|ret r=>exact p4 On H4 g6
  .left;have wF:i=ds.length:=by lia
   subst wF;rw[List.drop_length]at p2;exact⟨(io H2 a2.keep).1,p2 N' H2 (.refl a2.ok)⟩
def fU(t:DT)(b:DS):Nat->DS|0,_=>.stuck|n+1,Y=>(t Y).bind λx SL=>if x then(b SL).bind λfl PP=>match fl with|.next=>fU t b n PP|.cont=>fU t b n PP|.brk=>.ok .next PP|.ret v=>.ok (.ret v) PP else .ok .next SL
theorem Oh{t:DT}{b:DS}(n:Nat)(hw:∀{tt:TT}{tb:TS},PT X e tt->c_ X body tb->PS X (.While e body [] pos) (AE tt tb))(ht:ST X c e t)(hb:fm X c body b):SS X c (.While e body [] pos) (fU t b n):=PS.weak (hw ht hb) λD Z H⟨Y,k,q⟩=>by refine⟨λm N' H2=>∃PP,Ok c N' PP H2/\dq c D N' PP H2 (fU t b m PP),⟨n,Y,k,q⟩,?_⟩;rintro m N' H2⟨PP,k2,q2⟩;cases m with|zero=>exact q2.elim|succ m=>simp only[fU,dq]at q2;rw[bo]at q2;refine⟨PP,k2,aM q2 λx Pi q3 H3 a3=>?_⟩;cases x with|false=>exact q3 N' H3 a3|true=>have p3:post c ((b Pi).bind λfl PP=>match fl with|.next=>fU t b m PP|.cont=>fU t b m PP|.brk=>.ok .next PP|.ret v=>.ok (.ret v) PP) λfl P3=>∀Pv H',aK c N' PP H2 Pv P3 H'->fin c D Pv P3 H' fl:=q3;rw[bo]at p3;refine⟨λOn H4=>∃Os,Ok c On Os H4/\dq c D On Os H4 (fU t b m Os),λOn H4 w=>⟨m,Nat.lt_succ_self _,w⟩,Pi,a3.ok,aM p3 λfl Os p4 On H4 a4=>?_⟩;have g6:=a3.trans a4;cases fl with|next=>exact⟨Os,a4.ok,aM p4 λfl KE p5 GM H5 a5=>p5 GM H5 (g6.trans a5)⟩|cont=>exact⟨Os,a4.ok,aM p4 λfl KE p5 GM H5 a5=>p5 GM H5 (g6.trans a5)⟩|brk=>exact p4 On H4 g6|ret r=>exact p4 On H4 g6
end
def bt(cs:List Nat)(Y:Dl):Dl:=cs.foldl (λY i=>Y.set i none) Y
def dg(cs:List Nat)(Y₁ Y:Dl):Dl:=cs.foldl (λY i=>match Y₁[i]? with|some o=>Y.set i o|none=>Y) Y
def cG(Y:Dl)(i:Nat):Bool:=match Y[i]? with|some (some (.own _))=>true|_=>false
theorem CG(cs:List Nat):∀Y:Dl,(bt cs Y).length=Y.length:=by induction cs with|nil=>intro Y;rfl|cons i r ih=>intro Y;show(bt r (Y.set i none)).length=_;rw[ih];simp
theorem iD:∀(cs:List Nat)(Y:Dl)(i:Nat)(v:S),(bt cs Y)[i]?=some (some v)->Y[i]?=some (some v)/\i∉cs:=by intro cs;induction cs with|nil=>intro Y i v h;exact⟨h,Zw⟩|cons j r ih=>
 intro Y i v h;have h':(bt r (Y.set j none))[i]?=some (some v):=h;obtain⟨h1,h2⟩:=ih _ i v h';by_cases e:j=i;.subst e;rw[Q6]at h1;simp at h1
 .rw[Wc e]at h1;exact⟨h1,by simp only[Wi,not_or];exact⟨Ne.symm e,h2⟩⟩
theorem j_:∀(cs:List Nat)(Z:St)(i:Nat),i∉cs->(bB cs Z)[i]?=Z[i]?:=by intro cs;induction cs with|nil=>intro Z i _;rfl|cons j r ih=>intro Z i h;simp only[Wi,not_or]at h;show(bB r (Z.set j none))[i]?=_;rw[ih _ _ h.2,Wc (Ne.symm h.1)]
theorem Oi:∀(cs:List Nat)(Y:Dl)(i:Nat),i∉cs->(bt cs Y)[i]?=Y[i]?:=by intro cs;induction cs with|nil=>intro Z i _;rfl|cons j r ih=>intro Z i h;simp only[Wi,not_or]at h;show(bt r (Z.set j none))[i]?=_;rw[ih _ _ h.2,Wc (Ne.symm h.1)]
theorem Oj(cs:List Nat)(Y₁:Dl):∀Y:Dl,(dg cs Y₁ Y).length=Y.length:=by induction cs with|nil=>intro Y;rfl|cons i r ih=>intro Y;unfold dg;rw[Jl];have:=ih (match Y₁[i]? with|some o=>Y.set i o|none=>Y);unfold dg at this;rw[this];cases Y₁[i]?<;>simp
theorem sV:∀(cs:List Nat)(Y₁ Y:Dl)(i:Nat),i∉cs->(dg cs Y₁ Y)[i]?=Y[i]?:=by intro cs Y₁;induction cs with|nil=>intro Y i _;rfl|cons j r ih=>intro Y i h;simp only[Wi,not_or]at h;unfold dg;rw[Jl];have:=ih (match Y₁[j]? with|some o=>Y.set j o|none=>Y) i h.2;unfold dg at this;rw[this];cases Y₁[j]? with|none=>rfl|some o=>simp only;rw[Wc (Ne.symm h.1)]
theorem wG:∀(cs:List Nat)(Y₁ Y:Dl)(i:Nat),Y₁.length=Y.length->i∈cs->(dg cs Y₁ Y)[i]?=Y₁[i]?:=by intro cs Y₁;induction cs with|nil=>intro Y i _ h;simp at h|cons j r ih=>
  intro Y i hl h;unfold dg;rw[Jl];have kT:Y₁.length=(match Y₁[j]? with|some o=>Y.set j o|none=>Y).length:=by cases Y₁[j]?<;>simp[hl]
  by_cases hr:i∈r;.have:=ih (match Y₁[j]? with|some o=>Y.set j o|none=>Y) i kT hr;unfold dg at this;exact this
  .have e:i=j:=by grind
   subst e;have:=sV r Y₁ (match Y₁[i]? with|some o=>Y.set i o|none=>Y) i hr;unfold dg at this;rw[this];cases e:Y₁[i]? with|none=>simp only;have:=List.getElem?_eq_none_iff.mp e;exact WJ Y'|some o=>simp only;have:=(Wd.mp e).1;rw[WB Y']
section
variable{c:Fc}{l:Addr}
theorem Ok.less(k:Ok (c.plus l) Z Y H):Ok c Z Y H:=by
 have sub:∀b,Av c Z Y b->Av (c.plus l) Z Y b:=λb z=>z.elim (λz=>.inl (.inl z)) .inr;refine⟨k.keep,λa z=>k.bd a (.inl z),k.dj,k.len,λi d e=>?_,λi d e=>?_,k.inj,k.pinned⟩;.obtain⟨v,h1,h2⟩:=k.slot i d e;exact⟨v,h1,h2.aS λb z=>.inl (sub b z)⟩
 .obtain⟨a,h1,h2,h3,h4⟩:=k.own i d e;exact⟨a,h1,h2.aS λb z=>.inl (sub b z),h3,λz=>h4 (.inl z)⟩
theorem Ok.Ol(k:Ok c Z Y H)(hb:c.B l)(h0:c.H₀ l=none)(o:HO):Ok c Z Y (upd H l o):=by
 have kp:∀b w,H b=some w->¬Av c Z Y b->upd H l o b=some w:=λb w e n=>by rw[ba λz=>n %[z|.inl hb]];exact e
 have gY:∀b w,H b=some w->∃w',upd H l o b=some w':=λb w h=>by
  by_cases hb:b=l;.exact⟨_,%[hb|cz]⟩
  .exact⟨w,%[ba hb|h]⟩
 refine⟨λa w e n=>?_,λa z=>?_,λa z=>?_,k.len,λi d e=>?_,λi d e=>?_,k.inj,k.pinned⟩
 .have:a≠l:=λz=>by grind
  rw[ba this];exact k.keep a w e n
 .obtain⟨w,e⟩:=k.bd a z;exact gY a w e
 .obtain⟨w,e⟩:=k.dj a z;exact gY a w e
 .obtain⟨v,h1,h2⟩:=k.slot i d e;exact⟨v,h1,h2.keep kp⟩
 .obtain⟨a,h1,h2,h3,h4⟩:=k.own i d e;have:a≠l:=λz=>h4 %[z|hb];exact⟨a,h1,h2.keep kp λw q=>%[ba this|q],h3,h4⟩
theorem Own.bB(h:Own (bB cs Z) (bt cs Y) l):Own Z Y l:=by obtain⟨i,d,e1,e2⟩:=h;exact⟨i,d,(iD cs Y i _ e1).1,(kW cs Z i _ e2).1⟩
theorem Ok.bB(k:Ok c Z Y H)(hp:∀p∈c.pin,p.1∉cs):Ok c (Lake.bB cs Z) (bt cs Y) H:=by
 have sub:∀b,Av c (Lake.bB cs Z) (bt cs Y) b->Av c Z Y b:=λb z=>z.elim .inl λz=>.inr z.bB;refine⟨k.keep,k.bd,k.dj,%[CG,se|k.len],λi d e=>?_,λi d e=>?_,λi j a d d' e1 e2 e3 e4=>?_,λp hm=>?_⟩;.obtain⟨e',hi⟩:=iD cs Y i _ e;obtain⟨v,h1,h2⟩:=k.slot i d e';exact⟨v,%[j_ cs Z i hi|h1],h2.aS λb z=>.inl (sub b z)⟩
 .obtain⟨e',hi⟩:=iD cs Y i _ e;obtain⟨a,h1,h2,h3⟩:=k.own i d e';exact⟨a,%[j_ cs Z i hi|h1],h2.aS λb z=>.inl (sub b z),h3⟩
 .exact k.inj i j a d d' (iD cs Y i _ e1).1 (iD cs Y j _ e2).1 (kW cs Z i _ e3).1 (kW cs Z j _ e4).1
 .rw[j_ cs Z _ (hp p hm)];exact k.pinned p hm
theorem aK.back(k:Ok c₀ Z Y H)(Om:c.pin=c₀.pin)(hB:∀b,c.B b->c₀.B b\/H b=none)(dh:cs.any (cG Y)=false)(x:aK c (Lake.bB cs Z) (bt cs Y) H (Lake.bB cs Z) P3 H'):aK c Z Y H Z (dg cs Y P3) H':=by
 have len:Y.length=P3.length:=by have:=x.ok.len;rw[se]at this;rw[this];exact k.len
 have rB:∀i d,i∈cs->Y[i]?≠some (some (.own d)):=λi d hi e=>by have:=List.any_eq_false.mp dh i hi;unfold cG at this;rw[e]at this;simp at this
 have ownOut:∀i d,(dg cs Y P3)[i]?=some (some (.own d))->i∉cs/\P3[i]?=some (some (.own d)):=λi d e=>by
  by_cases hi:i∈cs;.rw[wG cs Y P3 i len hi]at e;exact absurd e (rB i d hi)
  .rw[sV cs Y P3 i hi]at e;exact⟨hi,e⟩
 have sub:∀b,Own Z (dg cs Y P3) b->Own (Lake.bB cs Z) P3 b:=λb⟨i,d,e1,e2⟩=>by obtain⟨hi,e⟩:=ownOut i d e1;exact⟨i,d,e,%[j_ cs Z i hi|e2]⟩
 have mD:∀b,Av c Z (dg cs Y P3) b->Av c (Lake.bB cs Z) P3 b:=λb z=>z.elim .inl λz=>.inr (sub b z);have ownEq:∀b,Own Z Y b->Own (Lake.bB cs Z) (bt cs Y) b:=λb⟨i,d,e1,e2⟩=>by have hi:i∉cs:=λz=>rB i d z e1;exact⟨i,d,%[Oi cs Y i hi|e1],%[j_ cs Z i hi|e2]⟩
 refine⟨⟨x.ok.keep,x.ok.bd,x.ok.dj,by rw[Oj,<-len];exact k.len,λi d e=>?_,λi d e=>?_,λi j a d d' e1 e2 e3 e4=>?_,%[Om|k.pinned]⟩,λa o e n=>?_,λa z=>?_,x.there⟩
 .by_cases hi:i∈cs
  .rw[wG cs Y P3 i len hi]at e;obtain⟨v,h1,h2⟩:=k.slot i d e;have h3:Rep H (Av c (Lake.bB cs Z) (bt cs Y)) v d:=h2.aS λb z=>by
    rcases z with z|z;.exact(hB b z).elim (λz=>.inl (.inl z)) .inr
    .exact .inl (.inr z.bB)
   exact⟨v,h1,(Rep.da h3 x).aS λb z=>.inl (mD b z)⟩
  .rw[sV cs Y P3 i hi]at e;obtain⟨v,h1,h2⟩:=x.ok.slot i d e;exact⟨v,(kW cs Z i v h1).1,h2.aS λb z=>.inl (mD b z)⟩
 .obtain⟨hi,e'⟩:=ownOut i d e;obtain⟨a,h1,h2,h3⟩:=x.ok.own i d e';exact⟨a,(kW cs Z i _ h1).1,h2.aS λb z=>.inl (mD b z),h3⟩
 .obtain⟨hi,f1⟩:=ownOut i d e1;obtain⟨hj,f2⟩:=ownOut j d' e2;exact x.ok.inj i j a d d' f1 f2 %[j_ cs Z i hi|e3] %[j_ cs Z j hj|e4]
 .exact x.keep a o e λz=>n z.bB
 .rcases x.own a (sub a z)with q|q;.exact .inl q.bB
  .exact .inr q
end
noncomputable def dR(cs:List Nat)(g:DG)(t:DT)(el:DE):List D->Dl->List D->Rs (List D)|[],Y,acc=>.ok acc Y|d::r,Y,acc=>match g (.pure d) Y with|none=>.stuck|some SL=>(t SL).bind λb PP=>if b then(el PP).bind λx Pi=>if acc.length<W7 then dR cs g t el r (bt cs Pi) (acc++[x.d])else .stuck else dR cs g t el r (bt cs PP) acc
def bb(cs:List Nat)(it:DI)(g:DG)(t:DT)(el:DE):DE:=λY=>(it Y).bind λds SL=>if cs.any (cG SL)then .stuck else(dR cs g t el ds (bt cs SL) []).bind λacc PP=>.ok (.own (.lst acc)) (dg cs SL PP)
def bw:DT:=λY=>.ok true Y
abbrev pJ(X:Cx)(c:Fc)(ifs:List Expr)(t:DT):Prop:=nE X ifs (tT c t)
theorem Oo{c:Fc}:pJ X c [] bw:=λpins s Z H Q I⟨Y,k,q⟩=>Mv pins s Z H Q I (q H (.refl k))
theorem Oq{c:Fc}{t:DT}(h:ST X c e t):pJ X c [e] t:=Mw h
section
variable{c:Fc}{it:DI}{g:DG}{t:DT}
theorem aK.clear(x:aK c (Lake.bB cs Z) Y H On Os H4)(le:Le (Lake.bB cs Z) On)(hp:∀p∈c.pin,p.1∉cs)(hs:∀(i:Nat)v,On[i]?=some (some v)->i∉cs->Z[i]?=some (some v)):aK c (Lake.bB cs Z) Y H (Lake.bB cs Z) (bt cs Os) H4:=by
 have eq:∀i,i∉cs->∀v,On[i]?=some (some v)->(Lake.bB cs Z)[i]?=some (some v):=λi hi v e=>%[j_ cs Z i hi|hs i v e hi];have own:∀b,Own (Lake.bB cs Z) (bt cs Os) b->Own On Os b:=λb⟨i,d,e1,e2⟩=>by exact⟨i,d,(iD cs Os i _ e1).1,le.2 i _ e2⟩
 have sub:∀b,Av c (Lake.bB cs Z) (bt cs Os) b->Av c On Os b:=λb z=>z.elim .inl λz=>.inr (own b z);have k:=x.ok;refine⟨⟨k.keep,k.bd,k.dj,%[CG,k.len|le.1],λi d e=>?_,λi d e=>?_,λi j a d d' e1 e2 e3 e4=>?_,λp hm=>?_⟩,x.keep,λa z=>x.own a (own a z),x.there⟩;.obtain⟨e',hi⟩:=iD cs Os i _ e;obtain⟨v,h1,h2⟩:=k.slot i d e';exact⟨v,eq i hi v h1,h2.aS λb z=>.inl (sub b z)⟩
 .obtain⟨e',hi⟩:=iD cs Os i _ e;obtain⟨a,h1,h2,h3⟩:=k.own i d e';exact⟨a,eq i hi _ h1,h2.aS λb z=>.inl (sub b z),h3⟩
 .exact k.inj i j a d d' (iD cs Os i _ e1).1 (iD cs Os j _ e2).1 (le.2 i _ e3) (le.2 j _ e4)
 .exact eq p.1 (hp p hm) _ (k.pinned p hm)
def Out(cs:List Nat)(Z Pv:St):Prop:=Pv.length=Z.length/\∀i,i∉cs->Pv[i]?=Z[i]?
theorem Out.trans(a:Out cs Z Pv)(b:Out cs Pv Z''):Out cs Z Z'':=⟨b.1.trans a.1,λi h=>(b.2 i h).trans (a.2 i h)⟩
def sW(cs:List Nat)(c:Fc)(g:DG):TG:=λv Z H Q=>∃Z₀ Y₀ H₁ Y r P3,aK c Z₀ Y₀ H₁ Z Y H/\aL c Z Y H₁ H v r/\g r Y=some P3/\∀Pv,aK c Z₀ Y₀ H₁ Pv P3 H->Out cs Z Pv->Q Pv H
abbrev nO(X:Cx)(c:Fc)(cs:List Nat)(tg:Expr)(g:DG):Prop:=PG X tg (sW cs c g)
universe H in theorem Ot{x:Str}(hp:Np c np)(hN:X.N.Nodup)(hi:X.N[i]?=some x)(hx:Loc X.env.scope x)(hf:X.fn x=true\/X.env.scope.names.lookup x=some .local)(hc:i∈cs):nO X c cs (.Name x pos) (ah np i):=PG.weak (Ay hN hi hx hf) λv Z H Q hh=>by
 obtain⟨Z₀,Y₀,H₁,Y,r,P3,x,rr,e,q⟩:=hh
 unfold ah at e;split at e;.cases e
 .rename_i hn;cases e;refine q _ (Ok.set x rr λp hm e=>hn (by rw[<-e];exact hp p hm)) ⟨Zw,λj hj=>?_⟩;rw[Wc λz=>hj (by rw[<-z];exact hc)]
def Ou(cs:List Nat)(c:Fc)(g:iB):kM:=λvs Z H Q=>∃Y ds P3,Ok c Z Y H/\aG H (Av c Z Y) vs ds/\g ds Y=some P3/\∀Pv,aK c Z Y H Pv P3 H->Out cs Z Pv->Q Pv H
abbrev pK(X:Cx)(c:Fc)(cs:List Nat)(tg:List Expr)(g:iB):Prop:=gQ X tg (Ou cs c g)
theorem Ov:pK X c cs [] jy:=gQ.weak Az λvs Z H Q hh=>by
 obtain⟨Y,ds,P3,k,r,e,q⟩:=hh
 cases ds with|nil=>
 cases e;have:vs=[]:=by have:=r.1;simpa using this
 exact⟨this,q Z (.refl k) ⟨rfl,λj j=>rfl⟩⟩|cons d r=>cases e
theorem Ow{g:DG}(h1:nO X c cs e g)(h2:pK X c cs es gs)(hs:(Qv (e::es) X.env).map (·.2)=assign e X.env::(Qv es X.env).map (·.2):=by rfl):pK X c cs (e::es) (fo g gs):=gQ.weak (AA h1 h2 hs) λvs Z H Q hh=>by obtain⟨Y,ds,P3,k,r,e,q⟩:=hh;cases ds with|nil=>cases e|cons d ds=>cases vs with|nil=>have:=r.1;simp at this|cons v vs=>simp only[fo]at e;cases e1:g (.pure d) Y with|none=>rw[e1]at e;cases e|some SL=>rw[e1]at e;refine⟨v,vs,rfl,Z,Y,H,Y,.pure d,SL,.refl k,r.head,e1,λKS a1 o1=>?_⟩;exact⟨SL,ds,P3,a1.ok,aG.da r.tail a1,e,λN' a2 o2=>q N' (a1.trans a2) (o1.trans o2)⟩
universe H in theorem Ox{k:Nat}(hc:X.calm=true)(h:pK X c cs es gs)(hn:(Qv es X.env).length=n:=by rfl)(cL:(Qv es X.env).findIdx? (·.1)=none:=by rfl):nO X c cs (.Tuple es k pos) (iC n gs):=PG.weak (AB hc h hn cL) λv Z H Q hw=>by
 obtain⟨Z₀,Y₀,H₁,Y,r,P3,x,rr,e,q⟩:=hw;have hb:=rr.b;unfold iC at e;generalize r.d=d at e hb;cases d<;>first|(cases e;done)|skip
 rename_i ds;simp only at e;split at e;.rename_i hl;obtain⟨a,vs,ea,ha,ra⟩:=hb.tup;exact⟨a,vs,ea,.of ha,%[ra.1|hl],Y,ds,P3,x.ok,ra,e,λPv a1 o1=>q Pv (x.trans a1) o1⟩
 .cases e
theorem aK.less(x:aK (c.plus l) Z Y H Pv P3 H'):aK c Z Y H Pv P3 H':=⟨x.ok.less,x.keep,x.own,x.there⟩
universe H in theorem CH(Oy:∀Z H R,tI c it Z H R->wi Z H R)(hg:∀l v Z H Q,sW cs (c.plus l) g v Z H Q->gt v Z H Q)(ht:∀l Z H Q,tT (c.plus l) t Z H Q->tt Z H Q)(he:∀l Z H Q,tD (c.plus l) el Z H Q->te Z H Q)(hp:∀p∈c.pin,p.1∉cs)(h:tD c (bb cs it g t el) Z H Q):vR cs wi gt tt te Z H Q:=by
 obtain⟨Y,k,q⟩:=h;unfold bb at q;rw[bo]at q;refine Oy _ _ _ ⟨Y,k,aM q λds SL q1 J H1 a1 io=>?_⟩;intro l hl;split at q1;.exact q1.elim
 .rename_i dh;have CI:cs.any (cG SL)=false:=by grind
  rw[bo]at q1;have k1:=a1.ok;have kp:=k1.plus hl (.lst []);have k0:Ok (c.plus l) (Lake.bB cs Z) (bt cs SL) (upd H1 l (.lst [])):=kp.bB hp;have up:∀a w,H1 a=some w->upd H1 l (.lst []) a=some w:=λa w e=>by rw[ba (fj e hl)];exact e
  have h0:c.H₀ l=none:=k1.j5 hl;have wH:nM (c.plus l) (Lake.bB cs Z) (bt cs SL) H1 J ds:=by
   intro H2 kp2;obtain⟨s1,s2⟩:=io H2 λa o e n=>kp2 a o e λz=>n z.bB;have cv:∀{x:V}{d:D},Rep H1 (Av c Z SL) x d->Rep H1 (Av (c.plus l) (Lake.bB cs Z) (bt cs SL)) x d:=λ{x d}r=>r.aS λb z=>by
     rcases z with(z|z)|z;.exact .inl (.inl z)
     .exact .inr %[z|hl]
     .exact .inl (.inr z.bB)
   refine⟨s1,λi d e=>⟨(s2 i d e).1,λx H3 y=>?_⟩⟩;rcases(s2 i d e).2 x H3 y with⟨e3,r⟩|⟨p,vs,es,hp,e3,ex,ed,r⟩;.exact .inl ⟨e3,cv r⟩
   .exact .inr ⟨p,vs,es,hp,e3,ex,ed,r.1,λi v d e1 e2=>cv (r.2 i v d e1 e2)⟩
  let Fin:List D->Dl->Prop:=λacc P3=>∀H' vs,aK (c.plus l) (Lake.bB cs Z) (bt cs SL) H1 (Lake.bB cs Z) P3 H'->H' l=some (.lst vs)->aG H' (Av (c.plus l) (Lake.bB cs Z) P3) vs acc->Q (.ref l) H';have q2:post c (dR cs g t el ds (bt cs SL) []) Fin:=aM q1 λacc PP q2 H' vs x hv r=>by
   have b1:aK (c.plus l) Z SL H1 Z (dg cs SL PP) H':=aK.back k1 rfl (λb z=>z.elim .inl λz=>.inr %[z|hl]) CI x;have b2:aK c Z SL H1 Z (dg cs SL PP) H':=b1.less;have len:SL.length=PP.length:=by have:=x.ok.len;rw[se]at this;rw[this];exact k1.len
   have Oz:H l=none:=by cases e:H l with|none=>rfl|some o=>obtain⟨o',e'⟩:=a1.there l o e;grind
   refine q2 _ H' (a1.trans b2) ⟨l,rfl,⟨vs,hv,aG.aS r λb z=>.inl ?_⟩,λz=>k1.i5 hl (.inl z),h0,b1.ok,Oz⟩;rcases z with z|⟨i,d,e1,e2⟩;.exact .inl z
   .have hi:i∉cs:=λhi=>by rw[wG cs SL PP i len hi]at e1;have:=List.any_eq_false.mp CI i hi;unfold cG at this;rw[e1]at this;simp at this
    rw[sV cs SL PP i hi]at e1;exact .inr ⟨i,d,e1,%[j_ cs Z i hi|e2]⟩
  refine⟨λi m H2=>∃PP acc vs,m=ds.length-i/\i<=ds.length/\aK (c.plus l) (Lake.bB cs Z) (bt cs SL) H1 (Lake.bB cs Z) PP H2/\H2 l=some (.lst vs)/\aG H2 (Av (c.plus l) (Lake.bB cs Z) PP) vs acc/\post c (dR cs g t el (ds.drop i) PP acc) Fin,⟨ds.length,bt cs SL,[],[],Zw,Q2 _,⟨k0,λa w e _=>up a w e,λa z=>.inl z,λa w e=>⟨w,up a w e⟩⟩,cz,.nil,%[List.drop_zero|q2]⟩,?_⟩;rintro i m H2⟨PP,acc,vs,rfl,wC,a2,hv,rv,p2⟩;by_cases bz:i<ds.length;.right;have e:ds[i]?=some ds[i]:=#v[bz];rw[QG bz]at p2;refine⟨((wH H2 a2.keep).2 i _ e).1,λx H3 y=>hg l _ _ _ _ ?_⟩;obtain⟨a3,r3⟩:=CD wH a2 e y;simp only[dR]at p2;cases eg:g (.pure ds[i]) PP with|none=>rw[eg]at p2;exact p2.elim|some Pi=>
    rw[eg]at p2;have p3:post c ((t Pi).bind λb PP=>if b then(el PP).bind λx Pi=>if acc.length<W7 then dR cs g t el (ds.drop (i+1)) (bt cs Pi) (acc++[x.d])else .stuck else dR cs g t el (ds.drop (i+1)) (bt cs PP) acc) Fin:=p2;refine⟨Lake.bB cs Z,PP,H3,PP,.pure ds[i],Pi,.refl a3.ok,r3,eg,λOn a4 o4=>?_⟩;have le:Le (Lake.bB cs Z) On:=⟨o4.1,λj v ej=>by rw[o4.2 j (kW cs Z j v ej).2];exact ej⟩;have hs:∀(j:Nat)v,On[j]?=some (some v)->j∉cs->Z[j]?=some (some v):=λj v ej hj=>by rw[o4.2 j hj]at ej;exact(kW cs Z j v ej).1
    refine⟨le,ht l _ _ _ ⟨Pi,a4.ok,?_⟩⟩;rw[bo]at p3;have CJ:∀p∈(c.plus l).pin,p.1∉cs:=hp;have g6:=a2.trans (a3.trans a4);have ln:∀{Pv:St}{P3:Dl}{H':Hp},Ok (c.plus l) Pv P3 H'->¬Own Pv P3 l:=λ{Pv P3 H'}k=>sm k;have OA:post (c.plus l) (t Pi) λb KE=>post c (if b then(el KE).bind λx Pi=>if acc.length<W7 then dR cs g t el (ds.drop (i+1)) (bt cs Pi) (acc++[x.d])else .stuck else dR cs g t el (ds.drop (i+1)) (bt cs KE) acc) Fin:=p3;refine aM OA λb KE p5 H5 a5=>?_;have CK:=g6.trans a5;have OB:H3 l=some (.lst vs):=a3.keep l _ hv (ln a2.ok);have CL:H5 l=some (.lst vs):=a5.keep l _ OB (ln a4.ok);have CM:=aG.da (aG.da (aG.da rv a3) a4) a5;cases b with|false=>have c5:=CK.clear le CJ hs;refine⟨ds.length-(i+1),Y',bt cs KE,acc,vs,rfl,bz,c5,CL,aG.aS CM λb z=>.inl ?_,p5⟩;exact z.elim .inl λ⟨j,d,e1,e2⟩=>.inr ⟨j,d,(iD cs KE j _ e1).1,le.2 j _ e2⟩|true=>
     have CN:post c ((el KE).bind λx Pi=>if acc.length<W7 then dR cs g t el (ds.drop (i+1)) (bt cs Pi) (acc++[x.d])else .stuck) Fin:=p5;rw[bo]at CN;refine he l _ _ _ ⟨KE,a5.ok,?_⟩;have p6:post (c.plus l) (el KE) λx IR=>post c (if acc.length<W7 then dR cs g t el (ds.drop (i+1)) (bt cs IR) (acc++[x.d])else .stuck) Fin:=CN;refine aM p6 λx IR p7 v H6 a6 r6=>?_;split at p7
     .rename_i hz;have OC:=CK.trans a6;have OD:H6 l=some (.lst vs):=a6.keep l _ CL (ln a5.ok);have CO:=aG.da CM a6;have rr:aG H6 (Av (c.plus l) On IR) (vs++[v]) (acc++[x.d]):=CO.append (.cons r6.rep .nil);have c6:=OC.clear le CJ hs;have OE:∀b o,H6 b=some o->¬Av (c.plus l) On IR b->upd H6 l (.lst (vs++[v])) b=some o:=λb o e n=>by rw[ba λz=>n %[z|.inl (.inr rfl)]];exact e
      have OF:∀b,Av (c.plus l) (Lake.bB cs Z) (bt cs IR) b->Av (c.plus l) On IR b:=λb z=>z.elim .inl λ⟨j,d,e1,e2⟩=>.inr ⟨j,d,(iD cs IR j _ e1).1,le.2 j _ e2⟩;refine⟨vs,ds.length-(i+1),OD,%[CO.1|hz],Y',bt cs IR,acc++[x.d],vs++[v],rfl,bz,?_,cz,aG.aS (aG.keep rr OE) λb z=>.inl (OF b z),p7⟩;refine⟨c6.ok.Ol (.inr rfl) h0 _,λa o ea n=>?_,λa z=>c6.own a z,λa o ea=>?_⟩
      .have nP:a≠l:=λz=>by grind
       rw[ba nP];exact c6.keep a o ea n
      .by_cases nP:a=l;.grind
       .obtain⟨o',e'⟩:=c6.there a o ea;exact⟨o',%[ba nP|e']⟩
     .exact p7.elim
  .left;have wF:i=ds.length:=by lia
   subst wF;rw[List.drop_length]at p2;exact⟨(wH H2 a2.keep).1,p2 H2 vs a2 hv rv⟩
theorem OG(hc:X.calm=true)(S:mj X scope cs)(hi:SI X c tg iter it)(hg:∀l s₀ H₀ ex,nO (eS X scope s₀ H₀ ex) (c.plus l) cs tg g)(ht:∀l s₀ H₀ ex,pJ (eS X scope s₀ H₀ ex) (c.plus l) ifs t)(he:∀l s₀ H₀ ex,SE (eS X scope s₀ H₀ ex) (c.plus l) elt el)(hp:∀p∈c.pin,p.1∉cs)(hs:∀x,Jq iter X.env x=pure x:=by intro _;rfl):SE X c (.ListComp elt [⟨tg,iter,ifs,0⟩] scope pos) (bb cs it g t el):=PE.weak (MD (g:=λv Z H Q=>∃l,sW cs (c.plus l) g v Z H Q) (tt:=λZ H Q=>∃l,tT (c.plus l) t Z H Q) (te:=λZ H Q=>∃l,tD (c.plus l) el Z H Q) hc S hi (λs₀ H₀ ex pins s Z H v u Q I r⟨l,q⟩=>hg l s₀ H₀ ex pins s Z H v u Q I r q) (λs₀ H₀ ex pins s Z H Q I⟨l,q⟩=>ht l s₀ H₀ ex pins s Z H Q I q) (λs₀ H₀ ex pins s Z H Q I⟨l,q⟩=>he l s₀ H₀ ex pins s Z H Q I q) hs) λZ H Q h=>CH (λj j j h=>h) (λl j j j j h=>⟨l,h⟩) (λl j j j h=>⟨l,h⟩) (λl j j j h=>⟨l,h⟩) hp h
theorem OH{y:Str}{sj:Pos}(eU:Np c np)(hc:X.calm=true)(S:mj X scope cs)(hN:X.N.Nodup)(dD:X.N[i]?=some y)(hy:X.env.scope.names.lookup y=some .local)(hi:SI X c tg iter it)(hg:∀l s₀ H₀ ex,nO (eS X scope s₀ H₀ ex) (c.plus l) cs tg g)(ht:∀l s₀ H₀ ex,pJ (eS X scope s₀ H₀ ex) (c.plus l) ifs t)(he:∀l s₀ H₀ ex,SE (eS X scope s₀ H₀ ex) (c.plus l) elt el)(hp:∀p∈c.pin,p.1∉cs)(ml:Jg (.ListComp elt [⟨tg,iter,ifs,0⟩] scope pos) (some (.Name y py)) sj.line X.env=pure true:=by rfl)(hs:∀x,Jq iter X.env x=pure x:=by intro _;rfl):SS X c (.Assign [.Name y py] (.ListComp elt [⟨tg,iter,ifs,0⟩] scope pos) sj) (aE (bb cs it g t el) (ah np i)):=PS.weak (ME (g:=λv Z H Q=>∃l,sW cs (c.plus l) g v Z H Q) (tt:=λZ H Q=>∃l,tT (c.plus l) t Z H Q) (te:=λZ H Q=>∃l,tD (c.plus l) el Z H Q) hc S hN dD hy hi (λs₀ H₀ ex pins s Z H v u Q I r⟨l,q⟩=>hg l s₀ H₀ ex pins s Z H v u Q I r q) (λs₀ H₀ ex pins s Z H Q I⟨l,q⟩=>ht l s₀ H₀ ex pins s Z H Q I q) (λs₀ H₀ ex pins s Z H Q I⟨l,q⟩=>he l s₀ H₀ ex pins s Z H Q I q) ml hs) λD Z H h=>wx (λZ H Q h=>CH (λj j j h=>h) (λl j j j j h=>⟨l,h⟩) (λl j j j h=>⟨l,h⟩) (λl j j j h=>⟨l,h⟩) hp h) (λj j j j h=>wu eU h) h
end
abbrev DF:=List S->Option (S×List S)
def bQ:Nat->List S->List V->List (Nat×Addr)|n,.own _::ss,.ref a::vs=>(n,a)::bQ (n+1) ss vs|n,_::ss,_::vs=>bQ (n+1) ss vs|_,_,_=>[]
theorem lb:∀{n:Nat}{ss:List S}{vs:List V}{i:Nat}{a:Addr},(i,a)∈bQ n ss vs->∃j d,i=n+j/\ss[j]?=some (.own d)/\vs[j]?=some (.ref a)
 |n,[],vs,i,a,h=>by simp[bQ]at h|n,s::ss,[],i,a,h=>by cases s<;>simp[bQ]at h|n,s::ss,v::vs,i,a,h=>by
  have wI:(i,a)∈bQ (n+1) ss vs->∃j d,i=n+j/\(s::ss)[j]?=some (.own d)/\(v::vs)[j]?=some (.ref a):=λh=>by obtain⟨j,d,e,h1,h2⟩:=lb h;exact⟨j+1,d,Y',~~~h1,~~~h2⟩
  cases s with|pure d=>exact wI h|own d=>
 cases v with|ref b=>
    rcases Wi.mp h with e|h;.cases e;exact⟨0,d,rfl,rfl,rfl⟩
    .exact wI h|_=>exact wI h
theorem sX:∀{n:Nat}{ss:List S}{vs:List V}{j:Nat}{d:D}{a:Addr},ss[j]?=some (.own d)->vs[j]?=some (.ref a)->(n+j,a)∈bQ n ss vs
 |n,[],vs,j,d,a,h,_=>by simp at h|n,s::ss,[],j,d,a,_,h=>by simp at h|n,s::ss,v::vs,0,d,a,h1,h2=>by simp at h1 h2;subst h1 h2;exact WA|n,s::ss,v::vs,j+1,d,a,h1,h2=>by
  have ih:=sX (n:=n+1) (ss:=ss) (vs:=vs) (j:=j) (d:=d) (a:=a) (~~~h1) (~~~h2);have e:n+1+j=n+(j+1):=by lia
  rw[e]at ih;cases s with|pure d=>exact ih|own d=>cases v with|ref b=>exact Wh _ ih|_=>exact ih
abbrev bR(vs:List V):St:=vs.map some
abbrev bY(ss:List S):Dl:=ss.map some
theorem eV{r:S}:(bY ss)[i]?=some (some r)↔ss[i]?=some r:=by rw[WD];cases ss[i]?<;>simp
theorem fq{v:V}:(bR vs)[i]?=some (some v)↔vs[i]?=some v:=by rw[WD];cases vs[i]?<;>simp
def ka(n:Nat)(G:DF):Sp:=λvs H Q j=>∃ss B,vs.length=n/\Ok ⟨H,B,bQ 0 ss vs,λj j=>False⟩ (bR vs) (bY ss) H/\∃r aH,G ss=some (r,aH)/\∀v H',aK ⟨H,B,bQ 0 ss vs,λj j=>False⟩ (bR vs) (bY ss) H (bR vs) (bY aH) H'->aL ⟨H,B,bQ 0 ss vs,λj j=>False⟩ (bR vs) (bY aH) H H' v r->Q v H'
def aY(P:Wk)(w:Wx)(K:W2)(mg:Str->Option Value)(base:Heap)(k:Nat)(x:Str)(n:Nat)(G:DF):Prop:=∃(f:Addr)(fd:Q0)(ps:List Str),mg x=some (.ref f)/\QQ K (.ref f)=true/\Binds K fd ps []/\eO P w K mg base di k f fd ps (ka n G)
def bW(n:Nat)(ss:List S):Dl:=bY ss++W9 (n-ss.length) none
def bZ:Nat->List S->Dl->Option (List S)|_,[],_=>some []|n,.pure d::ss,Y=>(bZ (n+1) ss Y).map (.pure d::.)|n,.own _::ss,Y=>match Y[n]? with|some (some (.own d'))=>(bZ (n+1) ss Y).map (.own d'::.)|_=>none
noncomputable def dS:Fl->Option S|.next=>0#(.aI)|.ret r=>some r|_=>none
def gE(f:DS)(n:Nat)(ss:List S):Option (S×List S):=match f (bW n ss)with|.ok fl Y=>(dS fl).bind λr=>(bZ 0 ss Y).map λaH=>(r,aH)|_=>none
def cP(np:List Nat):Nat->List S->Bool|_,[]=>true|n,.own _::ss=>np.contains n&&cP np (n+1) ss|n,.pure _::ss=>cP np (n+1) ss
theorem sY:∀{n:Nat}{ss:List S}{j:Nat}{d:D},cP np n ss=true->ss[j]?=some (.own d)->np.contains (n+j)=true
 |n,[],j,d,_,h=>by simp at h|n,s::ss,0,d,h,e=>by simp at e;subst e;simp only[cP,Wn]at h;exact h.1|n,s::ss,j+1,d,h,e=>by
  have h':cP np (n+1) ss=true:=by cases s with|pure d=>exact h|own d=>simp only[cP,Wn]at h;exact h.2
  have:=sY (n:=n+1) (j:=j) h' (~~~e);rw[show n+(j+1)=n+1+j by lia];exact this
universe H in theorem pL:∀{n:Nat}{ss aH:List S}{Y:Dl},bZ n ss Y=some aH->aH.length=ss.length/\∀(i:Nat)s,ss[i]?=some s->(∃d,s=.pure d/\aH[i]?=0#d)\/∃d d',s=.own d/\Y[n+i]?=some (some (.own d'))/\aH[i]?=some (.own d')
 |n,[],aH,Y,h=>by simp only[bZ,Wb]at h;subst h;exact⟨rfl,λi s e=>by simp at e⟩|n,.pure d::ss,aH,Y,h=>by simp only[bZ]at h;cases e:bZ (n+1) ss Y with|none=>rw[e]at h;cases h|some os=>rw[e]at h;simp only[WM,Wb]at h;subst h;obtain⟨h1,h2⟩:=pL e;refine⟨#v[h1],λi s es=>?_⟩;cases i with|zero=>simp at es;subst es;exact .inl ⟨d,rfl,rfl⟩|succ i=>
    rcases h2 i s (~~~es)with⟨d,z1,z2⟩|⟨d,d',z1,z2,z3⟩;.exact .inl ⟨d,z1,~~~z2⟩
    .exact .inr ⟨d,d',z1,%[show n+(i+1)=n+1+i by lia|z2],~~~z3⟩
 |n,.own d::ss,aH,Y,h=>by
  simp only[bZ]at h;split at h;.rename_i d' ed;cases e:bZ (n+1) ss Y with|none=>rw[e]at h;cases h|some os=>rw[e]at h;simp only[WM,Wb]at h;subst h;obtain⟨h1,h2⟩:=pL e;refine⟨#v[h1],λi s es=>?_⟩;cases i with|zero=>simp at es;subst es;exact .inr ⟨d,d',rfl,ed,rfl⟩|succ i=>
     rcases h2 i s (~~~es)with⟨d,z1,z2⟩|⟨d,d',z1,z2,z3⟩;.exact .inl ⟨d,z1,~~~z2⟩
     .exact .inr ⟨d,d',z1,%[show n+(i+1)=n+1+i by lia|z2],~~~z3⟩
  .cases h
section
variable{c:Fc}
theorem lg{α:Type}{l:List (Option α)}{k:Nat}{v:α}(h:(l++W9 k none)[i]?=some (some v)):l[i]?=some (some v):=by
 by_cases hi:i<l.length;.rw[Qo hi]at h;exact h
 .rw[Qy Y',List.getElem?_replicate]at h;split at h<;>cases h
theorem kb{α:Type}{l:List (Option α)}{k:Nat}{v:α}(h:l[i]?=some (some v)):(l++W9 k none)[i]?=some (some v):=by have hi:i<l.length:=(Wd.mp h).1;rw[Qo hi];exact h
theorem Own.ext{k:Nat}{a:Addr}:Own (Z++W9 k none) (Y++W9 k none) a↔Own Z Y a:=⟨λ⟨i,d,e1,e2⟩=>⟨i,d,lg e1,lg e2⟩,λ⟨i,d,e1,e2⟩=>⟨i,d,kb e1,kb e2⟩⟩
theorem Ok.ext(k:Ok c Z Y H)(n:Nat):Ok c (Z++W9 n none) (Y++W9 n none) H:=by
 have sub:∀b,Av c (Z++W9 n none) (Y++W9 n none) b->Av c Z Y b:=λb z=>z.elim .inl λz=>.inr (Own.ext.mp z);refine⟨k.keep,k.bd,k.dj,#v[k.len],λi d e=>?_,λi d e=>?_,λi j a d d' e1 e2 e3 e4=>k.inj i j a d d' (lg e1) (lg e2) (lg e3) (lg e4),λp hm=>kb (k.pinned p hm)⟩;.obtain⟨v,h1,h2⟩:=k.slot i d (lg e);exact⟨v,kb h1,h2.aS λb z=>.inl (sub b z)⟩
 .obtain⟨a,h1,h2,h3⟩:=k.own i d (lg e);exact⟨a,kb h1,h2.aS λb z=>.inl (sub b z),h3⟩
theorem lh{B:Addr->Prop}(hc:c=⟨H,B,bQ 0 ss vs,λy y=>False⟩)(k:Ok c (bR vs) (bY ss) H)(x:aK c (bR vs++W9 n none) (bY ss++W9 n none) H Pv P3 H')(ho:bZ 0 ss P3=some aH):aK c (bR vs) (bY ss) H (bR vs) (bY aH) H'/\∀v r,aL c Pv P3 H H' v r->aL c (bR vs) (bY aH) H H' v r:=by
 obtain⟨hlen,hat⟩:=pL ho;have kc:ss.length=vs.length:=by have:=k.len;simpa using this
 have pin:∀(i:Nat)(a:Addr)(d:D),ss[i]?=some (.own d)->vs[i]?=some (.ref a)->Pv[i]?=some (some (.ref a)):=λi a d h1 h2=>by have:=sX (n:=0) h1 h2;rw[U7]at this;exact x.ok.pinned (i,a) %[hc|this]
 have sZ:∀(i:Nat)(d:D),aH[i]?=some (.own d)->(∃d₀,ss[i]?=some (.own d₀))/\P3[i]?=some (some (.own d)):=λi d e=>by
  have hi:i<ss.length:=by rw[<-hlen];exact(Wd.mp e).1
  rcases hat i ss[i] #v[hi]with⟨d₁,z1,z2⟩|⟨d₁,d',z1,z2,z3⟩;all_goals grind
 have sub:∀b,Own (bR vs) (bY aH) b->Own Pv P3 b:=λb⟨i,d,e1,e2⟩=>by obtain⟨⟨d₀,h0⟩,h1⟩:=sZ i d (eV.mp e1);exact⟨i,d,h1,pin i b d₀ h0 (fq.mp e2)⟩
 have mD:∀b,Av c (bR vs) (bY aH) b->Av c Pv P3 b:=λb z=>z.elim .inl λz=>.inr (sub b z);have CP:∀{c':Fc},c'.pin=c.pin->Ok c' Pv P3 H'->(∀b,c.B b->c'.B b)->(∀(i:Nat)d v,ss[i]?=0#d->vs[i]?=some v->Rep H' (Av c' Pv P3) v d)->Ok c' (bR vs) (bY aH) H':=λ{c'}ep k' hB wJ=>by
  have CQ:∀b,Av c' (bR vs) (bY aH) b->Av c' Pv P3 b:=λb z=>z.elim .inl λz=>.inr (sub b z);refine⟨k'.keep,k'.bd,k'.dj,#v[hlen,kc],λi d e=>?_,λi d e=>?_,λi j a d d' e1 e2 e3 e4=>?_,λp hm=>?_⟩
  .have e':=eV.mp e;have hi:i<ss.length:=by rw[<-hlen];exact(Wd.mp e').1
   have hv:i<vs.length:=by lia
   rcases hat i ss[i] #v[hi]with⟨d₁,z1,z2⟩|⟨d₁,d',z1,z2,z3⟩;.rw[e']at z2;cases z2;exact⟨vs[i],#v[hv],(wJ i d vs[i] (by rw[W4 hi,z1]) #v[hv]).aS λb z=>.inl (CQ b z)⟩
   grind
  .have e':=eV.mp e;obtain⟨⟨d₀,h0⟩,h1⟩:=sZ i d e';obtain⟨a₀,h2,_⟩:=k.own i d₀ (eV.mpr h0);obtain⟨a,h3,h4,h5⟩:=k'.own i d h1;rw[pin i a₀ d₀ h0 (fq.mp h2)]at h3;cases h3;exact⟨a₀,h2,h4.aS λb z=>.inl (CQ b z),h5⟩
  .obtain⟨⟨d₀,h0⟩,h1⟩:=sZ i d (eV.mp e1);obtain⟨⟨d₁,h2⟩,h3⟩:=sZ j d' (eV.mp e2);exact k'.inj i j a d d' h1 h3 (pin i a d₀ h0 (fq.mp e3)) (pin j a d₁ h2 (fq.mp e4))
  .exact k.pinned p (by rw[<-ep];exact hm)
 have slots:∀(i:Nat)d v,ss[i]?=0#d->vs[i]?=some v->Rep H' (Av c Pv P3) v d:=λi d v h1 h2=>by obtain⟨w,e1,r⟩:=(k.ext n).slot i d (kb (eV.mpr h1));rw[kb (fq.mpr h2)]at e1;cases e1;exact Rep.da r x
 refine⟨⟨CP rfl x.ok (λy z=>z) slots,λa o e m=>x.keep a o e λz=>m (Own.ext.mp z),λa z=>(x.own a (sub a z)).elim (λz=>.inl (Own.ext.mp z)) .inr,x.there⟩,λv r hr=>?_⟩;cases r with|pure d=>exact Rep.aS hr λb z=>.inl (mD b z)|own d=>
  obtain⟨a,ea,o,nb,h0,kp,hs⟩:=hr;refine⟨a,ea,o.aS λb z=>.inl (z.elim .inl λz=>.inr (sub b z)),nb,h0,CP rfl kp (λy z=>.inl z) λi d v h1 h2=>?_,hs⟩;obtain⟨w,e1,r⟩:=(k.ext n).slot i d (kb (eV.mpr h1));rw[kb (fq.mpr h2)]at e1;cases e1;have nQ:H a=none:=hs;have r1:Rep H (Av c (bR vs++W9 n none) (bY ss++W9 n none)) v d:=r;have r2:Rep H (λb=>Av c (bR vs++W9 n none) (bY ss++W9 n none) b\/Av (c.plus a) Pv P3 b) v d:=r1.aS λb z=>by
   rcases z with z|(z|z)|z;.exact .inl z
   .exact .inl (.inl z)
   .exact .inr %[z|nQ]
   .rcases x.own b z with q|q;.exact .inl (.inr q)
    .exact .inr q
  exact(r2.keep λb o e m=>x.keep b o e λz=>m (.inl (.inr z))).aS λb z=>.inl (.inr z)
end
theorem CS{x:Str}{st:Stmt}{N:List Str}{k:Nat}{fb:DS}{G:DF}(F:dM K x qual st f fd)(S:fA N ps (bG st))(dC:∀(c:Fc)(aQ:Value)(A:Wp)(outer:List Env)(s:W1)(H:Hp)(E:XK),cj k (A.deeper (Ji qual (bG st) s.heap.objs.size f aQ))->Np c np->fm (eQ di P w K mg base N qual (bG st) f aQ A outer s H E).iV c (eR st) fb)(hG:∀ss y,G ss=some y->cP np 0 ss=true/\gE fb N.length ss=some y):eO P w K mg base di (k+1) f fd ps (ka ps.length G):=by
 refine F.ok S (λvs H Q E h=>?_) λaQ A outer s H vs Q E hr h=>?_;.obtain⟨ss,B,hl,_⟩:=h;exact hl
 .obtain⟨ss,B,hl,ok,r,aH,hg,q⟩:=h;obtain⟨gc,hrun⟩:=hG ss _ hg;have kc:ss.length=vs.length:=by have:=ok.len;simpa using this
  have pM:Np ⟨H,B,bQ 0 ss vs,λu u=>False⟩ np:=λp hp=>by obtain⟨j,d,e,h1,_⟩:=lb (i:=p.1) (a:=p.2) hp;rw[e];exact sY gc h1
  refine⟨k9 ⟨H,B,bQ 0 ss vs,λu u=>False⟩ fb,dC ⟨H,B,bQ 0 ss vs,λu u=>False⟩ aQ A outer s H E hr pM,?_⟩;have cL:start N vs=bR vs++W9 (N.length-ss.length) none:=by rw[kc];rfl
  refine⟨bW N.length ss,%[cL|ok.ext _],?_⟩;unfold gE at hrun;unfold dq;cases e:fb (bW N.length ss)with|exc x GE=>rw[e]at hrun;cases hrun|stuck=>rw[e]at hrun;cases hrun|ok fl P3=>rw[e]at hrun;show∀Pv H',aK _ (start N vs) (bW N.length ss) H Pv P3 H'->fin _ _ Pv P3 H' fl;intro Pv H' a;rw[cL]at a;simp only at hrun;cases fl with
 |brk=>cases hrun|cont=>cases hrun|next=>simp only[dS,WO]at hrun;cases eo:bZ 0 ss P3 with|none=>rw[eo]at hrun;cases hrun|some os=>rw[eo]at hrun;cases hrun;obtain⟨l1,l2⟩:=lh rfl ok a eo;exact q .aI H' l1 .aI
 |ret r'=>simp only[dS,WO]at hrun;cases eo:bZ 0 ss P3 with|none=>rw[eo]at hrun;cases hrun|some os=>rw[eo]at hrun;cases hrun;obtain⟨l1,l2⟩:=lh rfl ok a eo;exactλv rv=>q v H' l1 (l2 v _ rv)
theorem OI{x:Str}{st:Stmt}{N:List Str}{k:Nat}{fb:DS}{G:DF}(F:dM K x qual st f fd)(hm:mg x=some (.ref f))(hb:Binds K fd ps [])(S:fA N ps (bG st))(dC:∀(c:Fc)(aQ:Value)(A:Wp)(outer:List Env)(s:W1)(H:Hp)(E:XK),cj k (A.deeper (Ji qual (bG st) s.heap.objs.size f aQ))->Np c np->fm (eQ di P w K mg base N qual (bG st) f aQ A outer s H E).iV c (eR st) fb)(hG:∀ss y,G ss=some y->cP np 0 ss=true/\gE fb N.length ss=some y):7#0 (k+1) x ps.length G:=⟨f,fd,ps,hm,F.kp,hb,CS F S dC hG⟩
inductive Ak where|val(f:DE)|io(i:Nat)
variable{as:List Ak}
def cC:List Ak->Dl->Rs (List (Option D))|[],Y=>.ok [] Y|.val f::r,Y=>(f Y).bind λx SL=>(cC r SL).bind λxs PP=>.ok (some x.d::xs) PP|.io _::r,Y=>(cC r Y).bind λxs PP=>.ok (none::xs) PP
inductive ke(c:Fc)(Z:St)(Y:Dl)(H:Hp):List V->List Ak->List (Option D)->Prop|nil:ke c Z Y H [] [] []|val{v:V}{d:D}{f:DE}{vs:List V}{as:List Ak}{ds:List (Option D)}:Rep H (Av c Z Y) v d->ke c Z Y H vs as ds->ke c Z Y H (v::vs) (.val f::as) (some d::ds)|io{v:V}{i:Nat}{vs:List V}{as:List Ak}{ds:List (Option D)}:Z[i]?=some (some v)->ke c Z Y H vs as ds->ke c Z Y H (v::vs) (.io i::as) (none::ds)
def tX(c:Fc)(as:List Ak):TA:=λZ H Q=>∃Y,Ok c Z Y H/\(∀i,Ak.io i∈as->∃v,Z[i]?=some (some v))/\post c (cC as Y) λds P3=>∀vs H',aK c Z Y H Z P3 H'->ke c Z P3 H' vs as ds->Q vs H'
abbrev SX(X:Cx)(c:Fc)(es:List Expr)(as:List Ak):Prop:=PA X es (tX c as)
section
variable{c:Fc}
theorem OJ:SX X c [] []:=PA.weak f_ λZ H Q⟨Y,k,_,q⟩=>q [] H (.refl k) .nil
theorem OK(ha:SE X c e fe)(hr:SX X c es as)(hs:Wa (e::es) X.env=(false,eval e X.env)::Wa es X.env:=by rfl):SX X c (e::es) (.val fe::as):=PA.weak (dX ha hr hs) λZ H Q⟨Y,k,gc,q⟩=>by unfold cC at q;rw[bo]at q;refine⟨Y,k,aM q λx SL q1 v H1 a1 r1=>⟨SL,a1.ok,λi hi=>gc i (Wh _ hi),?_⟩⟩;rw[bo]at q1;exact aM q1 λxs PP q2 vs H2 a2 r2=>q2 (v::vs) H2 (a1.trans a2) (.val (Rep.da r1.rep a2) r2)
theorem OL(ha:PE X e (dz i))(hr:SX X c es as)(hs:Wa (e::es) X.env=(false,eval e X.env)::Wa es X.env:=by rfl):SX X c (e::es) (.io i::as):=PA.weak (dX ha hr hs) λZ H Q⟨Y,k,gc,q⟩=>by obtain⟨v,ev⟩:=gc i WA;unfold cC at q;rw[bo]at q;exact⟨v,ev,Y,k,λi hi=>gc i (Wh _ hi),aM q λxs PP q2 vs H2 a2 r2=>q2 (v::vs) H2 a2 (.io ev r2)⟩
end
def b7:List Ak->List (Option D)->Dl->Option (List S)
 |[],[],_=>some []|.val _::as,some d::ds,Y=>(b7 as ds Y).map (.pure d::.)|.io i::as,none::ds,Y=>match Y[i]? with|some (some (.own d))=>(b7 as ds Y).map (.own d::.)|_=>none
 |_,_,_=>none
def bJ:List Ak->List Nat|[]=>[]|.val _::as=>bJ as|.io i::as=>i::bJ as
def bp:List Ak->List S->Dl->Dl|.io i::as,r::rs,Y=>bp as rs (Y.set i (some r))|.val _::as,_::rs,Y=>bp as rs Y|_,_,Y=>Y
def cK:List Nat->Bool|[]=>true|i::r=>!r.contains i&&cK r
def az(G:DF)(as:List Ak):DE:=λY=>if(bJ as).all (cG Y)&&cK (bJ as)then(cC as Y).bind λds SL=>match b7 as ds SL with|none=>.stuck|some ss=>match G ss with|none=>.stuck|some (r,aH)=>.ok r (bp as aH SL)else .stuck
theorem s_:∀{l:List Nat},cK l=true->l.Nodup|[],_=>.nil|i::r,h=>by simp only[cK,Wn,JI]at h;exact List.nodup_cons.mpr ⟨λhm=>by have:=h.1;simp at this;exact this hm,s_ h.2⟩
theorem kf:∀{as:List Ak}{i:Nat},i∈bJ as↔Ak.io i∈as|[],i=>#v[bJ]|.val f::as,i=>#v[bJ,kf (as:=as)]|.io j::as,i=>#v[bJ,kf (as:=as)]
theorem wK:∀{as:List Ak}{i j k:Nat},(bJ as).Nodup->as[j]?=some (.io i)->as[k]?=some (.io i)->j=k
 |[],i,j,k,_,h,_=>by simp at h|.val f::as,i,j,k,nd,h1,h2=>by cases j with|zero=>simp at h1|succ j=>cases k with|zero=>simp at h2|succ k=>exact congrArg (.+1) (wK (as:=as) nd (~~~h1) (~~~h2))
 |.io n::as,i,j,k,nd,h1,h2=>by have tf:=QV.mp nd;cases j with|zero=>grind[kf]|succ j=>cases k with|zero=>grind[kf]|succ k=>exact congrArg (.+1) (wK (as:=as) tf.2 (~~~h1) (~~~h2))
section
variable{c:Fc}{ds:List (Option D)}
universe H in theorem pN(h:ke c Z Y H vs as ds):∀{ss:List S},b7 as ds Y=some ss->ss.length=vs.length/\as.length=vs.length/\∀(j:Nat)s v,ss[j]?=some s->vs[j]?=some v->(∃d f,s=.pure d/\as[j]?=some (.val f)/\Rep H (Av c Z Y) v d)\/∃d i,s=.own d/\as[j]?=some (.io i)/\Z[i]?=some (some v)/\Y[i]?=some (some (.own d)):=by induction h with
 |nil=>intro ss h;simp only[b7,Wb]at h;subst h;exact⟨rfl,rfl,λj s v e _=>by simp at e⟩|@val v d f vs as ds r _ ih=>intro ss h;simp only[b7]at h;cases e:b7 as ds Y with|none=>rw[e]at h;cases h|some rs=>rw[e]at h;simp only[WM,Wb]at h;subst h;obtain⟨h1,h2,h3⟩:=ih e;refine⟨#v[h1],#v[h2],λj s v' e1 e2=>?_⟩;cases j with|zero=>simp at e1 e2;subst e1 e2;exact .inl ⟨d,f,rfl,rfl,r⟩|succ j=>simpa using h3 j s v' (~~~e1) (~~~e2)
 |@io v i vs as ds ev _ ih=>
 intro ss h;simp only[b7]at h;split at h;.rename_i d ed;cases e:b7 as ds Y with|none=>rw[e]at h;cases h|some rs=>rw[e]at h;simp only[WM,Wb]at h;subst h;obtain⟨h1,h2,h3⟩:=ih e;refine⟨#v[h1],#v[h2],λj s v' e1 e2=>?_⟩;cases j with|zero=>simp at e1 e2;subst e1 e2;exact .inr ⟨d,i,rfl,rfl,ev,ed⟩|succ j=>simpa using h3 j s v' (~~~e1) (~~~e2)
 .cases h
theorem wL:∀(as:List Ak)(rs:List S)(Y:Dl),(bp as rs Y).length=Y.length|[],rs,Y=>#v[bp]|.val f::as,[],Y=>#v[bp]|.io i::as,[],Y=>#v[bp]|.val f::as,r::rs,Y=>#v[bp,wL as rs Y]|.io i::as,r::rs,Y=>#v[bp,wL as rs]
theorem pP:∀(as:List Ak)(rs:List S)(Y:Dl)(i:Nat),i∉bJ as->(bp as rs Y)[i]?=Y[i]?|[],rs,Y,i,_=>#v[bp]|.val f::as,[],Y,i,_=>#v[bp]|.io j::as,[],Y,i,_=>#v[bp]|.val f::as,r::rs,Y,i,h=>%[bp|pP as rs Y i h]|.io j::as,r::rs,Y,i,h=>by simp only[bJ,Wi,not_or]at h;rw[bp,pP as rs _ i h.2,Wc (Ne.symm h.1)]
theorem tj:∀(as:List Ak)(rs:List S)(Y:Dl)(i j:Nat)(r:S),(bJ as).Nodup->as[j]?=some (.io i)->rs[j]?=some r->i<Y.length->(bp as rs Y)[i]?=some (some r)
 |[],rs,Y,i,j,r,_,h,_,_=>by simp at h|a::as,[],Y,i,j,r,_,_,h,_=>by simp at h|.val f::as,r0::rs,Y,i,j,r,nd,h1,h2,hi=>by cases j with|zero=>simp at h1|succ j=>rw[bp];exact tj as rs Y i j r nd (~~~h1) (~~~h2) hi
 |.io k::as,r0::rs,Y,i,j,r,nd,h1,h2,hi=>by have tf:=QV.mp nd;cases j with|zero=>simp at h1 h2;subst h1 h2;rw[bp,pP as rs _ k tf.1,WB hi]|succ j=>rw[bp];exact tj as rs _ i j r tf.2 (~~~h1) (~~~h2) (~~~hi)
theorem wM(k:Ok c Z Y H)(hr:ke c Z Y H vs as ds)(hm:b7 as ds Y=some ss)(nd:(bJ as).Nodup):Ok ⟨H,λa=>Av c Z Y a/\¬∃(j:Nat)(d:D),ss[j]?=some (S.own d)/\vs[j]?=some (V.ref a),bQ 0 ss vs,λy y=>False⟩ (bR vs) (bY ss) H:=by
 obtain⟨h1,h2,h3⟩:=pN hr hm;have at':∀(j:Nat)s,ss[j]?=some s->∃v,vs[j]?=some v:=λj s e=>by
  have:j<vs.length:=by rw[<-h1];exact(Wd.mp e).1
  simp_all
 have CT:∀a,Own (bR vs) (bY ss) a↔∃(j:Nat)(d:D),ss[j]?=some (S.own d)/\vs[j]?=some (V.ref a):=λa=>⟨λ⟨j,d,e1,e2⟩=>⟨j,d,eV.mp e1,fq.mp e2⟩,λ⟨j,d,e1,e2⟩=>⟨j,d,eV.mpr e1,fq.mpr e2⟩⟩;have CU:∀a,Own (bR vs) (bY ss) a->Own Z Y a:=λa z=>by
  obtain⟨j,d,e1,e2⟩:=(CT a).mp z;rcases h3 j _ _ e1 e2 with⟨d',f,e,_⟩|⟨d',i,e,_,es,ed⟩;.cases e
  .exact⟨i,d',ed,es⟩
 have sub:∀a,Av ⟨H,λa=>Av c Z Y a/\¬∃(j:Nat)(d:D),ss[j]?=some (S.own d)/\vs[j]?=some (V.ref a),bQ 0 ss vs,λy y=>False⟩ (bR vs) (bY ss) a->Av c Z Y a:=λa z=>z.elim (λz=>z.1) λz=>.inr (CU a z);refine⟨λa o e y=>e,λa z=>k.BS z.1,λa⟨i,hi⟩=>?_,#v[h1],λj d e=>?_,λj d e=>?_,λi j a d d' e1 e2 e3 e4=>?_,λp hp=>?_⟩;.obtain⟨j,d,_,e1,e2⟩:=lb hi;exact k.vU (CU a ((CT a).mpr ⟨j,d,e1,e2⟩))
 .have e':=eV.mp e;obtain⟨v,ev⟩:=at' j _ e';rcases h3 j _ v e' ev with⟨d',f,e,_,r⟩|⟨d',i,e,_⟩;.cases e;exact⟨v,fq.mpr ev,r.aS λb z=>.inl (sub b z)⟩
  .cases e
 .have e':=eV.mp e;obtain⟨v,ev⟩:=at' j _ e';rcases h3 j _ v e' ev with⟨d',f,e,_,r⟩|⟨d',i,e,_,es,ed⟩;.cases e
  .cases e;obtain⟨a,g1,g2,g3⟩:=k.own i d ed;rw[es]at g1;cases g1;refine⟨a,fq.mpr ev,g2.aS λb z=>.inl (sub b z),.inl ⟨0+j,sX e' ev⟩,λz=>z.2 ⟨j,d,e',ev⟩⟩
 .have f1:=eV.mp e1;have f2:=eV.mp e2;rcases h3 i _ _ f1 (fq.mp e3)with⟨_,_,e,_⟩|⟨d1,i1,e,a1,s1,x1⟩;.cases e
  .rcases h3 j _ _ f2 (fq.mp e4)with⟨_,_,e',_⟩|⟨d2,i2,e',a2,s2,x2⟩;.cases e'
   .have:=k.inj i1 i2 a d1 d2 x1 x2 s1 s2;subst this;exact wK nd a1 a2
 .obtain⟨j,d,e,e1,e2⟩:=lb (i:=p.1) (a:=p.2) hp;rw[U7]at e;rw[e];exact fq.mpr e2
theorem tm(k:Ok c Z Y H)(hr:ke c Z Y H vs as ds)(hm:b7 as ds Y=some ss)(nd:(bJ as).Nodup)(hB:B=λa=>Av c Z Y a/\¬∃(j:Nat)(d:D),ss[j]?=some (S.own d)/\vs[j]?=some (V.ref a))(x:aK ⟨H,B,bQ 0 ss vs,λy y=>False⟩ (bR vs) (bY ss) H (bR vs) (bY aH) H')(gc:∀(j:Nat)d,ss[j]?=some (.own d)->∃d',aH[j]?=some (.own d'))(ZA:∀(j:Nat)d,ss[j]?=0#d->∃d',aH[j]?=0#d'):aK c Z Y H Z (bp as aH Y) H'/\∀v r,aL ⟨H,B,bQ 0 ss vs,λy y=>False⟩ (bR vs) (bY aH) H H' v r->aL c Z (bp as aH Y) H H' v r:=by
 obtain⟨h1,h2,h3⟩:=pN hr hm;have tu:∀i,i∈bJ as->∃(j:Nat)(d:D)(a:Addr),as[j]?=some (.io i)/\ss[j]?=some (.own d)/\vs[j]?=some (.ref a)/\Z[i]?=some (some (.ref a))/\Y[i]?=some (some (.own d)):=λi hi=>by
  obtain⟨j,hj,ej⟩:=Jt.mp (kf.mp hi);have hv:j<vs.length:=by lia
  have hs:j<ss.length:=by lia
  have CV:as[j]?=some (.io i):=by rw[W4 hj,ej]
  rcases h3 j ss[j] vs[j] #v[hs] #v[hv]with⟨d,f,e,a1,_⟩|⟨d,i',e,a1,s1,x1⟩;.grind
  .rw[CV]at a1;cases a1;obtain⟨a,g1,_⟩:=k.own i d x1;rw[s1]at g1;have g2:vs[j]=.ref a:=by have:=WS g1;exact WS this
   exact⟨j,d,a,CV,by rw[W4 hs,e],by rw[W4 hv,g2],by rw[s1,g2],x1⟩
 have tw:∀a,(∃(j:Nat)(d:D),ss[j]?=some (S.own d)/\vs[j]?=some (V.ref a))->Own Z Y a:=λa⟨j,d,e1,e2⟩=>by
  rcases h3 j _ _ e1 e2 with⟨d',f,e,_⟩|⟨d',i,e,_,es,ed⟩;.cases e
  .exact⟨i,d',ed,es⟩
 have ZC:∀a,(⟨H,B,bQ 0 ss vs,λy y=>False⟩:Fc).I a↔∃(j:Nat)(d:D),ss[j]?=some (S.own d)/\vs[j]?=some (V.ref a):=λa=>⟨λ⟨i,hi⟩=>by obtain⟨j,d,_,e1,e2⟩:=lb hi;exact⟨j,d,e1,e2⟩,λ⟨j,d,e1,e2⟩=>⟨0+j,sX e1 e2⟩⟩;have ownIn:∀a,Own (bR vs) (bY ss) a->∃(j:Nat)(d:D),ss[j]?=some (S.own d)/\vs[j]?=some (V.ref a):=λa⟨j,d,e1,e2⟩=>⟨j,d,eV.mp e1,fq.mp e2⟩;have tE:∀(i:Nat)(d:D),(bp as aH Y)[i]?=some (some (.own d))->i∉bJ as/\Y[i]?=some (some (.own d))\/i∈bJ as/\∃(j:Nat)(d0:D)(a:Addr),as[j]?=some (.io i)/\ss[j]?=some (.own d0)/\vs[j]?=some (.ref a)/\Z[i]?=some (some (.ref a))/\aH[j]?=some (.own d):=λi d e=>by
  by_cases hi:i∈bJ as;.right;obtain⟨j,d0,a,a1,a2,a3,a4,a5⟩:=tu i hi;obtain⟨d',ed'⟩:=gc j d0 a2;have bz:i<Y.length:=(Wd.mp a5).1;have:=tj as aH Y i j (.own d') nd a1 ed' bz;rw[e]at this;cases this;exact⟨hi,j,d0,a,a1,a2,a3,a4,ed'⟩
  .rw[pP as aH Y i hi]at e;exact .inl ⟨hi,e⟩
 have pQ:∀b,Own Z (bp as aH Y) b->Own Z Y b:=λb⟨i,d,e1,e2⟩=>by
  rcases tE i d e1 with⟨_,e⟩|⟨hi,j,d0,a,_,a2,a3,a4,_⟩;.exact⟨i,d,e,e2⟩
  grind
 have OM:∀(i:Nat)(d:D),(bp as aH Y)[i]?=some 0#d->i∉bJ as/\Y[i]?=some 0#d:=λi d e=>by
  by_cases hi:i∈bJ as;.obtain⟨j,d0,a,a1,a2,a3,a4,a5⟩:=tu i hi;obtain⟨d',ed'⟩:=gc j d0 a2;have bz:i<Y.length:=(Wd.mp a5).1;have:=tj as aH Y i j (.own d') nd a1 ed' bz;rw[e]at this;cases this
  .rw[pP as aH Y i hi]at e;exact⟨hi,e⟩
 have CW:∀a o,H a=some o->¬Av c Z Y a->H' a=some o:=λa o e n=>x.keep a o e λz=>n (.inr (tw a (ownIn a z)));have mD:∀b,Av c Z (bp as aH Y) b->Av c Z Y b:=λb z=>z.elim .inl λz=>.inr (pQ b z);have big:∀{c':Fc},c'.B=B->∀b,Av c Z Y b->Av c' (bR vs) (bY aH) b:=λ{c'}hB' b z=>by
  by_cases hp:∃(j:Nat)(d:D),ss[j]?=some (S.own d)/\vs[j]?=some (V.ref b);.obtain⟨j,d,e1,e2⟩:=hp;obtain⟨d',ed'⟩:=gc j d e1;exact .inr ⟨j,d',eV.mpr ed',fq.mpr e2⟩
  .exact .inl (by rw[hB',hB];exact⟨z,hp⟩)
 have CY:∀(c1 c2:Fc),c1.H₀=c.H₀->c1.pin=c.pin->(∀b,c1.B b->c.B b\/c2.B b/\H b=none)->c2.pin=bQ 0 ss vs->(∀b,B b->c2.B b)->Ok c2 (bR vs) (bY aH) H'->(∀b,c1.B b->∃o,H' b=some o)->Ok c1 Z (bp as aH Y) H':=λc1 c2 e0 e1 e2 e3 e4 k2 hex=>by
  have CZ:∀b,Av c1 Z (bp as aH Y) b->Av c Z Y b\/H b=none:=λb z=>by
   rcases z with z|z
   .rcases e2 b z with z|⟨_,z⟩;.exact .inl (.inl z)
    .exact .inr z
   .exact .inl (.inr (pQ b z))
  have sq:∀b,Av c1 Z (bp as aH Y) b->Av c2 (bR vs) (bY aH) b:=λb z=>by
   have bg:∀b,Av c Z Y b->Av c2 (bR vs) (bY aH) b:=λb z=>by
    by_cases hp:∃(j:Nat)(d:D),ss[j]?=some (S.own d)/\vs[j]?=some (V.ref b);.obtain⟨j,d,e1,e2⟩:=hp;obtain⟨d',ed'⟩:=gc j d e1;exact .inr ⟨j,d',eV.mpr ed',fq.mpr e2⟩
    .exact .inl (e4 b (by rw[hB];exact⟨z,hp⟩))
   rcases z with z|z
   .rcases e2 b z with z|⟨z,_⟩;.exact bg b (.inl z)
    .exact .inl z
   .exact bg b (.inr (pQ b z))
  have ON:∀{v:V}{d:D},Rep H (Av c Z Y) v d->Rep H' (Av c1 Z (bp as aH Y)) v d:=λ{v d}r=>by have r1:Rep H (λb=>Av c Z Y b\/Av c1 Z (bp as aH Y) b) v d:=r.aS λb z=>z.elim .inl (CZ b);exact(r1.keep λb o e n=>CW b o e λz=>n (.inl z)).aS λb z=>.inl (.inr z)
  refine⟨λa o e n=>?_,hex,λa z=>?_,%[wL|k.len],λi d e=>?_,λi d e=>?_,λi j a d d' f1 f2 f3 f4=>?_,%[e1|k.pinned]⟩;.rw[e0]at e;have n':¬c.I a:=λz=>n (by unfold Fc.I at z⊢;rw[e1];exact z);refine x.keep a o (k.keep a o e n') λz=>?_;obtain⟨i,d,g1,g2⟩:=tw a (ownIn a z);obtain⟨a',g3,_,g4,_⟩:=k.own i d g1;grind
  .have z':c.I a:=by unfold Fc.I at z⊢;rw[<-e1];exact z
   obtain⟨o,e⟩:=k.dj a z';exact x.there a o e
  .obtain⟨hi,e'⟩:=OM i d e;obtain⟨v,g1,g2⟩:=k.slot i d e';exact⟨v,g1,ON g2⟩
  .rcases tE i d e with⟨hi,e'⟩|⟨hi,j,d0,a,b1,b2,b3,b4,b5⟩
   .obtain⟨a,g1,g2,g3,g4⟩:=k.own i d e';have na:¬Own (bR vs) (bY ss) a:=λz=>by
     obtain⟨j,d1,q1,q2⟩:=ownIn a z;rcases h3 j _ _ q1 q2 with⟨d',f,ee,_⟩|⟨d',i',ee,ai,es,ed⟩;.cases ee
     .have:=k.inj i i' a d d' e' ed g1 es;grind[kf]
    have OO:fF H' (Av c1 Z (bp as aH Y)) a d:=by have o1:fF H (λb=>Av c Z Y b\/Av c1 Z (bp as aH Y) b) a d:=g2.aS λb z=>z.elim .inl (CZ b);exact(o1.keep (λb o e n=>CW b o e λz=>n (.inl z)) λo e=>x.keep a o e na).aS λb z=>.inl (.inr z)
    refine⟨a,g1,OO,by unfold Fc.I at g3⊢;rw[e0,e1];exact g3,λz=>?_⟩;rcases e2 a z with z|⟨_,z⟩;.exact g4 z
    .obtain⟨o,eo⟩:=g2.some;rw[z]at eo;cases eo
   .obtain⟨a',g1,g2,g3,g4⟩:=k2.own j d (eV.mpr b5);rw[fq.mpr b3]at g1;cases g1;obtain⟨i0,d1,q1,q2⟩:=tw a ⟨j,d0,b2,b3⟩;obtain⟨a'',q3,q4,q5,q6⟩:=k.own i0 d1 q1;rw[q2]at q3;cases q3;refine⟨a,b4,g2.aS λb z=>.inl (sq b z),by unfold Fc.I at q5⊢;rw[e0,e1];exact q5,λz=>?_⟩;grind
  .obtain⟨d1,g1⟩:∃d1,Y[i]?=some (some (.own d1)):=by
    rcases tE i d f1 with⟨_,e'⟩|⟨hi,_⟩;.exact⟨d,e'⟩
    .obtain⟨_,d1,_,_,_,_,_,a5⟩:=tu i hi;exact⟨d1,a5⟩
   obtain⟨d2,g2⟩:∃d2,Y[j]?=some (some (.own d2)):=by
    rcases tE j d' f2 with⟨_,e'⟩|⟨hi,_⟩;.exact⟨d',e'⟩
    .obtain⟨_,d1,_,_,_,_,_,a5⟩:=tu j hi;exact⟨d1,a5⟩
   exact k.inj i j a d1 d2 g1 g2 f3 f4
 have OP:Ok c Z (bp as aH Y) H':=CY c ⟨H,B,bQ 0 ss vs,λy y=>False⟩ rfl rfl (λb z=>.inl z) rfl (λb z=>z) x.ok λb z=>by obtain⟨o,e⟩:=k.bd b z;exact x.there b o e
 refine⟨⟨OP,λa o e n=>x.keep a o e λz=>n (tw a (ownIn a z)),λa z=>.inl (pQ a z),x.there⟩,λv r hr=>?_⟩;cases r with|pure d=>exact Rep.aS hr λb z=>.inl (big rfl b (mD b z))|own d=>
  obtain⟨a,ea,o,nb,h0,kp,hs⟩:=hr;have nQ:H a=none:=hs;have i5:¬Av c Z Y a:=k.i5 nQ;refine⟨a,ea,o.aS λb z=>.inl ?_,λz=>i5 (.inl z),k.j5 nQ,?_,nQ⟩
  .rcases z with(z|z)|z;.exact(big rfl b (.inl z)).elim (λz=>.inl (.inl z)) .inr
   .exact .inl (.inr z)
   .exact(big rfl b (.inr (pQ b z))).elim (λz=>.inl (.inl z)) .inr
  .refine CY (c.plus a) (Fc.plus ⟨H,B,bQ 0 ss vs,λy y=>False⟩ a) rfl rfl (λb z=>?_) rfl (λb z=>.inl z) kp λb z=>?_
   .rcases z with z|z;.exact .inl z
    .exact .inr ⟨.inr z,%[z|nQ]⟩
   .rcases z with z|z;.obtain⟨o,e⟩:=k.bd b z;exact x.there b o e
    .rw[z];exact o.some
end
def pR(G:DF):Prop:=∀ss r aH,G ss=some (r,aH)->aH.length=ss.length/\∀(j:Nat),(∀d,ss[j]?=some (.own d)->∃d',aH[j]?=some (.own d'))/\∀d,ss[j]?=0#d->∃d',aH[j]?=0#d'
theorem OQ{fb}(hG:∀ss y,G ss=some y->gE fb n ss=some y):pR G:=λss r aH h=>by have:=hG ss _ h;unfold gE at this;cases e:fb (bW n ss)with|exc x GE=>rw[e]at this;cases this|stuck=>rw[e]at this;cases this|ok fl Y=>rw[e]at this;simp only at this;cases e1:dS fl with|none=>rw[e1]at this;cases this|some r'=>rw[e1]at this;simp only[WO]at this;cases e2:bZ 0 ss Y with|none=>rw[e2]at this;cases this|some os=>
    rw[e2]at this;cases this;obtain⟨h1,h2⟩:=pL e2;refine⟨h1,λj=>⟨λd ed=>?_,λd ed=>?_⟩⟩
    .rcases h2 j _ ed with⟨d',z,_⟩|⟨d',d'',_,_,z⟩;.cases z
     .exact⟨d'',z⟩
    .rcases h2 j _ ed with⟨d',z,z'⟩|⟨d',d'',z,_⟩;.exact⟨d',z'⟩
     .cases z
section
variable{c:Fc}{k:Nat}{x:Str}{G:DF}
universe H in theorem C0{ps:List Str}(hK:pR G){Q:VK}(hl:as.length=n)(h:tD c (az G as) Z H Q):vk (ka n G) [] E0 (tX c as) Z H Q:=by
 obtain⟨Y,kk,q⟩:=h;unfold az at q;split at q
 .rename_i hc;rw[Wn]at hc;have nd:=s_ hc.2;rw[bo]at q;refine⟨Y,kk,λi hi=>?_,aM q λds SL q1 vs H1 a1 r1=>?_⟩
  .have:=WV.mp hc.1 i (kf.mpr hi);unfold cG at this;split at this;.rename_i d ed;exact px kk ed
   .cases this
  .cases em:b7 as ds SL with|none=>rw[em]at q1;exact q1.elim|some ss=>rw[em]at q1;simp only at q1;cases eg:G ss with|none=>rw[eg]at q1;exact q1.elim|some y=>obtain⟨r,aH⟩:=y;rw[eg]at q1;have kg:=wM a1.ok r1 em nd;obtain⟨m1,m2,_⟩:=pN r1 em;obtain⟨g1,g2⟩:=hK ss r aH eg;refine⟨ss,_,by rw[WT,<-m2];exact hl,%[WT|kg],r,aH,eg,λv H2 a2 r2=>?_⟩;rw[WT]at a2 r2;obtain⟨o1,o2⟩:=tm a1.ok r1 em nd rfl a2 (λj d ed=>(g2 j).1 d ed) λj d ed=>(g2 j).2 d ed;exact q1 v H2 (a1.trans o1) (aL.back (o2 v r r2) a1)
 .exact q.elim
theorem OR(F:aY X.prog X.w X.K X.mg X.base k x n G)(hK:pR G)(hr:cj k X.A)(hg:Gl X x)(ha:SX X c (e::es) as)(hl:as.length=n)(cU:(x==("__debug__":Str))=false:=by decide)(he:Wa (e::es) X.env=(false,eval e X.env)::Wa es X.env:=by rfl)(bT:(Qp pos (Wa es X.env)).any (·.1)=false:=by rfl):SE X c (.Call (.Name x pp) (e::es) [] pos) (az G as):=by obtain⟨f,fd,ps,hm,hk,hb,ok⟩:=F;exact PE.weak (K7 ok hr hg hm hk hb .nil Mf ha cU he bT) λZ H Q h=>C0 (ps:=ps) hK hl h
end
def bF(np:List Nat)(n:Nat)(b:DS):DF:=λss=>if cP np 0 ss then gE b n ss else none
universe H in theorem tF(h:bF np n b ss=some y):cP np 0 ss=true/\gE b n ss=some y:=by
 unfold bF at h;split at h;.rename_i hi;exact⟨hi,h⟩
 .cases h
theorem C1:pR (bF np n b):=OQ λj j h=>(tF h).2
theorem tG(r:cj k A):A.units+64<WK:=by have:=r.un;lia
theorem C2{c:Fc}(h:Np c np)(hc:cs.all (λi=>!np.contains i)=true):∀p∈c.pin,p.1∉cs:=λp hp z=>by have h1:=h p hp;grind
def tH:List Str->Bool|[]=>true|x::r=>!r.contains x&&tH r
theorem C3:∀{l:List Str},tH l=true->l.Nodup|[],_=>.nil|x::r,h=>by simp only[tH,Wn,JI]at h;exact List.nodup_cons.mpr ⟨λhm=>by have:=h.1;simp at this;exact this hm,C3 h.2⟩
def g7(names:List (Str×NameKind))(x:Str)(k:NameKind):Bool:=match names.lookup x with|some j=>j==k|none=>false
universe H in theorem wN(h:g7 names x k=true):names.lookup x=some k:=by
 unfold g7 at h;split at h;.rename_i j e;rw[e,eq_of_beq h]
 .cases h
def C4(names:List (Str×NameKind))(N:List Str)(sc:List (Str×NameKind))(cs:List Nat):Bool:=sc.all (λx=>!x.2==.local||g7 sc x.1 .local)&&sc.all (λx=>!x.2==.free||(g7 names x.1 .cell||g7 names x.1 .free))&&tH (sc.map (·.1))&&(Wl N.length).all λi=>match N[i]? with|some x=>!(g7 sc x .local||g7 sc x .cell)||cs.contains i|none=>true
theorem OS(h:names.lookup x=some k):g7 names x k=true:=by unfold g7;rw[h];simp
theorem C5{X:Cx}{scope:Scope}{cs:List Nat}(hk:scope.kind=.function)(h:C4 X.env.scope.names X.N scope.names cs=true):mj X scope cs:=by
 unfold C4 at h;simp only[Wn]at h;obtain⟨⟨⟨h1,h2⟩,h3⟩,h4⟩:=h;refine⟨hk,λx hx hl=>?_,λx hx hf=>?_,C3 h3,λi x hi hl=>?_⟩;.have:=WV.mp h1 x hx;rw[hl]at this;exact wN (~~~this)
 .have:=WV.mp h2 x hx;rw[hf]at this;have:g7 X.env.scope.names x.1 .cell=true\/g7 X.env.scope.names x.1 .free=true:= ~~~this;exact this.elim (λz=>.inl (wN z)) λz=>.inr (wN z)
 .have wC:i<X.N.length:=(Wd.mp hi).1;have:=WV.mp h4 i (List.mem_range.mpr wC);rw[hi]at this;have gO:(g7 scope.names x .local||g7 scope.names x .cell)=true:=by grind[OS]
  grind
theorem OT:i8 K "bool":=⟨rfl,rfl,rfl,rfl,rfl,rfl,rfl⟩
theorem OU:i8 K "str":=⟨rfl,rfl,rfl,rfl,rfl,rfl,rfl⟩
theorem OV:i8 K "tuple":=⟨rfl,rfl,rfl,rfl,rfl,rfl,rfl⟩
theorem OW:i8 K "list":=⟨rfl,rfl,rfl,rfl,rfl,rfl,rfl⟩
theorem C6:a_ X (Qw .Mult) (rI nu λi j=>.int (i*j)):=AM
def kh:Expr->Bool|.Starred ..=>false|_=>true
theorem lj(h:kh e=true):Wa (e::es) env=(false,eval e env)::Wa es env:=by
 cases e<;>first|(cases h;done)|rw[Wa]|rfl
 all_goals(intros;contradiction)
section
variable{c:Fc}{f:DE}{g:DA}
theorem OX(ha:SE X c e f)(hr:SA X c es g)(hs:kh e=true:=by rfl):SA X c (e::es) (aw f g):=Cp ha hr (lj hs)
theorem OY(ha:SE X c e fe)(hr:SX X c es as)(hs:kh e=true:=by rfl):SX X c (e::es) (.val fe::as):=OK ha hr (lj hs)
theorem OZ(ha:PE X e (dz i))(hr:SX X c es as)(hs:kh e=true:=by rfl):SX X c (e::es) (.io i::as):=OL ha hr (lj hs)
end
mutual def jd:Nat->Expr->Option D
 |_,.Constant c _ _=>match c with|.int i=>some (.int i)|.bool b=>some (.bl b)|.none=>some .aI|.str x=>some (.str x.cps.toList)|_=>none
 |n+1,.Tuple es _ _=>if es.length<=1000 then(lp n es).map .tup else none|_,_=>none def lp:Nat->List Expr->Option (List D)|_,[]=>some []|n,e::es=>match jd n e,lp n es with|some d,some ds=>some (d::ds)|_,_=>none end
theorem O0:∀{n:Nat}{e:Expr}{d:D},jd n e=some d->kh e=true:=λ{n e d}h=>by cases e<;>first|rfl|(cases n<;>simp[jd]at h)
theorem C7{c:Fc}{k:Const}{a:Nat}{b:Pos}{d:D}(h:jd n (.Constant k a b)=some d):SE X c (.Constant k a b) (eD d):=by cases k<;>cases n<;>simp[jd]at h<;>subst h<;>first|exact BU|exact BV|exact BW|exact BX _ (MF _)
universe H in theorem wO{c:Fc}(ih:∀{e:Expr}{d:D},jd n e=some d->SE X c e (eD d)):∀{es:List Expr}{ds:List D},lp n es=some ds->SA X c es λY=>.ok ds Y
 |[],ds,h=>by simp only[lp,Wb]at h;subst h;exact Co|e::es,ds,h=>by
  simp only[lp]at h;split at h;.rename_i d dO h1 h2;cases h;exact Cp (ih h1) (wO ih h2) (lj (O0 h1))
  .cases h
universe H in theorem C8:∀{e:Expr}{d:D},jd n e=some d->SE X c e (eD d):=by induction n with
 |zero=>intro e d h;cases e<;>first|exact C7 h|(simp[jd]at h;done)
 |succ n ih=>
 intro e d h;cases e<;>first|exact C7 h|(simp[jd]at h;done)|skip
 simp only[jd]at h;split at h;.rename_i es _ _ hl;cases e:lp n es with|none=>rw[e]at h;cases h|some ds=>rw[e]at h;simp only[WM,Wb]at h;subst h;exact Cs (wO ih e) hl
 .cases h
theorem O2(h:lp n es=some ds):SA X c es λY=>.ok ds Y:=wO C8 h
def pU(ds:List D):DE:=λY=>.ok (.own (.lst ds)) Y
theorem O3{c:Fc}{d:D}(h:jd 9 e=some d):SE X c e (eD d):=C8 h
theorem O4{c:Fc}(h:lp 9 es=some ds)(hl:es.length<=1000):SE X c (.List es pos) (pU ds):=Ct (O2 h) hl
section
variable{c:Fc}
theorem O5{x:Str}{i:Int}(hg:Gl X x)(hm:∃t,X.mg x=some (.int i t))(hd:(x==("__debug__":Str))=false:=by decide):SE X c (.Name x pos) 3#i:=by obtain⟨t,h⟩:=hm;exact MN hg h hd
theorem O6(he:SE X c e fe)(hs:Jg e none pos.line X.env=pure false:=by rfl):SS X c (.Expr e pos) (gD fe):=N_ he (λj=>hs) trivial (va he hs)
theorem O7{o:Expr}{apos bu:Pos}(ho:PE X o (dz i))(he:SE X c e fe)(fD:Ja o "append" X.env (eval o X.env)=eval o X.env:=by rfl)(iY:((Qp bu (Wa [e] X.env)).all (λx=>!x.1)&&(backToKw bu (Ui [] X.env)).all (λx=>x.1.isSome)&&decide ([e].length+([]:List Keyword).length+(if([]:List Keyword).isEmpty then 0 else 1)<30))=true:=by rfl)(cY:(apos.endLine==bu.line)=true:=by rfl)(hs:Wa [e] X.env=(false,eval e X.env)::Wa [] X.env:=by rfl)(ml:Jg (.Call (.Attribute o "append" apos) [e] [] bu) none pos.line X.env=pure false:=by rfl):SS X c (.Expr (.Call (.Attribute o "append" apos) [e] [] bu) pos) (dt i fe):=Oa (p0:=apos) ho he (va (oX Jc PySem.F.slot_list_append PySem.F.type_list_append Bs ho (dX he f_ hs) fD iY cY hs rfl) ml)
end
def wQ(K:W2):Bool:=K.all λp=>match p.2.cls with|.type t=>!t=="list"|_=>true
theorem C9[BEq α][LawfulBEq α]:∀{K:List (α×β)}{a:α}{o:β},K.lookup a=some o->(a,o)∈K|[],a,o,e=>by simp at e|(b,o')::r,a,o,e=>by rw[Qn]at e;cases hb:a==b with|true=>rw[hb]at e;have h1:o'=o:=WS e;have h2:a=b:=eq_of_beq hb;rw[h1,h2];exact WA|false=>rw[hb]at e;exact Wh _ (C9 e)
theorem O8{a:Addr}{o:Obj}(h:wQ K=true)(e:K.lookup a=some o)(hc:o.cls=.type "list"):False:=by have hm:(a,o)∈(K:List (Addr×Obj)):=C9 e;have h1:=WV.mp h (a,o) hm;have h2:(match o.cls with|.type t=>!t=="list"|_=>true)=true:=h1;rw[hc]at h2;have h3:!("list":String)=="list"=true:=h2;rw[beq_self_eq_true]at h3;cases h3
theorem O9{G:DF}{a:Addr}{E:XK}(hK:wQ K=true)(hS:bN K H a (ns.map V.int))(hG:∃aH,G [.pure (.lst (ns.map .int))]=some (.pure (.bl true),aH)):ka 1 G [.ref a] H (λv y=>v=.bl true) E:=by
 have hR:Rd H a (.lst (ns.map V.int)):=by
  rcases hS with h|⟨o,af,n,e,hc,_⟩;.exact h
  .exact(O8 hK e hc).elim
 obtain⟨aH,hg⟩:=hG;have rep:∀O:Addr->Prop,¬O a->Rep H O (.ref a) (.lst (ns.map D.int)):=λO hO=>.lst hO hR Zw λi v d e1 e2=>by rw[WD]at e1 e2;cases e:ns[i]? with|none=>rw[e]at e1;cases e1|some k=>rw[e]at e1 e2;cases e1;cases e2;exact .int k
 refine⟨[.pure (.lst (ns.map .int))],λy=>False,rfl,⟨λb o e y=>e,λb z=>z.elim,λb⟨i,z⟩=>?_,rfl,λi d e=>?_,λi d e=>?_,λi j b d d' e1 e2 e3 e4=>?_,λp z=>?_⟩,_,aH,hg,λv H' x r=>?_⟩;.simp[bQ]at z
 .cases i with
 |zero=>
 simp at e;subst e;refine⟨.ref a,rfl,rep _ λz=>?_⟩;rcases z with z|⟨j,d',z1,z2⟩;.exact z
 .cases j with|zero=>simp at z1|succ j=>simp at z1
 |succ i=>simp at e
 .cases i with|zero=>simp at e|succ i=>simp at e
 .cases i with|zero=>simp at e1|succ i=>simp at e1
 .simp[bQ]at z
 .cases r;rfl
theorem O_{l:PySem.W.OpenLaw}{q:Wk}{d:DefRec}{K:Params->W2}{k:Nat}{G:DF}(hn:l.most=some 63)(oZ:d.params.defaults=[])(hr:cj k callerA)(hY:∀(w:Wx)(h:Heap),YP w h->(K w.params).In h)(hL:∀p:Params,wQ (K p)=true)(hG:∀ns:List Int,ns.length<=63->∃aH,G [.pure (.lst (ns.map .int))]=some (.pure (.bl true),aH))(F:∀(w:Wx)(mg:Str->Option Value)(fa:Addr)(h:Heap),(K w.params).In h->h.Ns Wr mg->mg d.name=some (.ref fa)->∃fd:Q0,(∀(s:W1)(u:Value),BindsTo s fd ⟨[u],[]⟩ [("script",u)])/\∀base:Heap,(K w.params).In base->base.Ns Wr mg->eO l.prog w (K w.params) mg base di k fa fd ["script"] (ka 1 G)):PySem.W.WalkO q loose XP YP l.row.toRowW d [] λf vs=>PySem.call f vs:=Lake.Me (n:=63) (k:=k) (x:="script") (CX:=λj=>di) (sp:=λj=>ka 1 G) hn Z' oZ hr hY F (λw H a ns hl j hS=>O9 (hL w.params) hS (hG ns hl)) λj j j j j z=>z
def wR(x:Str):It:=⟨λi j=>i<x.cps.size,λi H y H'=>H'=H/\∃c,x.cps[i]?=some c/\y=.str ⟨#[c]⟩,λi j=>i=x.cps.size⟩
theorem Pa(x:Str)(t:Tok)(it:Addr)(T:String)(hT:T="str_ascii_iterator"\/T="str_iterator"):Turn P w K tg (wR x) [it] it λi h=>h.IsStrIter it T x t i:=by
 have W:∀A:Wp,A.handled=none->Walks P w A it [it] [it] x.cps.size (SignAt x) λi h=>h.IsStrIter it T x t i:=λA hh=>by
  rcases hT with rfl|rfl;.exact Walks.strAscii hh it x t
  .exact Walks.strWide hh it x t
 refine⟨Zw,λi h st b hb=>?_,λi h h' st k=>?_,?_,?_,λA i s Q E st h=>?_⟩;.have e:b=it:= ~~~hb;subst e;obtain⟨o,e,c,d⟩:=st;exact⟨o,e,λv z=>by rw[d]at z;cases z⟩
 .obtain⟨o,e,r⟩:=st;exact⟨o,k it Zw o e,r⟩
 .intro X hP hw hK hc i pins s Z H E I hf st hg;subst hP hw hK;obtain⟨f0,f1,f2,f3,f4,f5⟩:=hf it Zw;refine(W X.A (I.ok.hd hc)).item i s _ _ hg st λv h' tk hv ar kk=>?_;obtain⟨c,u,hx,rfl⟩:=hv;have I1:Inv X pins Z H {s with heap:=h',toks:=tk}:=I.turned (λb o hb e=>kk b o (~~~hb) e) f0 f1 f3 f4 f5;obtain⟨o,e,c',d⟩:=id ar;refine⟨_,rfl,rN (s:={s with heap:=h',toks:=tk}) e c' d (by rcases hT with rfl|rfl<;>decide) ⟨.str ⟨#[c]⟩,H,I1,⟨u,rfl⟩,⟨rfl,c,hx,rfl⟩,ar,λb hb=>(hf b hb).1⟩⟩
 .intro X hP hw hK hc i pins s Z H E I hf st hg;subst hP hw hK;have sh:i=x.cps.size:=hg;subst sh;obtain⟨f0,f1,f2,f3,f4,f5⟩:=hf it Zw;exact(W X.A (I.ok.hd hc)).done s _ _ st λh' tk eb=>⟨rfl,I.turned (λb o hb e=>eb b o (~~~hb) e) f0 f1 f3 f4 f5⟩
 grind[wpAny_pyIter_striter_ascii,wpAny_pyIter_striter_wide]
section
variable{c:Fc}
def Pb(K:W2)(tl:TE):TI:=λZ H R=>tl Z H λx H1=>(∃a,x=.ref a/\(∃xs,bN K H1 a xs)/\R (AG K a) H1)\/(∃a,x=.ref a/\(∃xs,cA K H1 a xs)/\R (vb K a) H1)\/∃z,x=.str z/\R (wR z) H1
theorem Pc{l:Expr}{tl:TE}(hl:PE X l tl):PI X tg l (Pb X.K tl):=by
 intro pins s Z H R I h;refine aN (hl pins s Z H _ I h) λv s1 hh=>?_;obtain⟨x,H1,I1,r1,q1⟩:=hh;rcases q1 with q1|q1|⟨z,e,q⟩;.obtain⟨a,e,⟨xs,hq⟩,q⟩:=q1;subst e;cases r1;obtain⟨af,rv,p,hz⟩:=I1.list hq;refine Ug p.isList ?_;refine⟨s1.heap.objs.size,[s1.heap.objs.size],_,_,H1,rfl,I1.kept (t':=s1.toks) λb o e=>W6 _ e,Kk a _,⟨_,Wv _ rfl,rfl,rfl⟩,λb hb=>?_,q⟩;have e:b=s1.heap.objs.size:= ~~~hb;subst e;exact I1.jT (W5 _) (I1.aB.fresh (W5 _))
 .obtain⟨a,e,⟨xs,hq⟩,q⟩:=q1;subst e;cases r1;obtain⟨af,rv,p,hz⟩:=I1.tuple hq;refine wpAny_pyIter_tuple (show s1.heap.IsTuple a af.toArray from p) ?_;refine⟨s1.heap.objs.size,[s1.heap.objs.size],_,_,H1,rfl,I1.kept (t':=s1.toks) λb o e=>W6 _ e,Kl a _,⟨_,Wv _ rfl,rfl,rfl⟩,λb hb=>?_,q⟩;have e:b=s1.heap.objs.size:= ~~~hb;subst e;exact I1.jT (W5 _) (I1.aB.fresh (W5 _))
 .subst e;obtain⟨t,rfl⟩:=r1;refine wpAny_pyIter_strU ?_;have hT:strIterType z="str_ascii_iterator"\/strIterType z="str_iterator":=by
   unfold strIterType;split;.exact .inl rfl
   .exact .inr rfl
  refine⟨s1.heap.objs.size,[s1.heap.objs.size],_,_,H1,rfl,I1.kept (t':=s1.toks) λb o e=>W6 _ e,Pa z t _ _ hT,⟨_,Wv _ rfl,rfl,rfl⟩,λb hb=>?_,q⟩;have e:b=s1.heap.objs.size:= ~~~hb;subst e;exact I1.jT (W5 _) (I1.aB.fresh (W5 _))
theorem Pd(z:Tx):nM c Z Y H (wR (toS z)) (z.map λn=>D.str [n]):=by intro H2 kp;have hsz:(toS z).cps.size=z.length:=#v[toS];refine⟨by show(z.map _).length=_;rw[hsz];simp,λi d e=>?_⟩;rw[WD]at e;cases ez:z[i]? with|none=>rw[ez]at e;cases e|some n=>rw[ez]at e;cases e;have hi:i<z.length:=(Wd.mp ez).1;refine⟨by show i<_;rw[hsz];exact hi,λx H3⟨e3,cc,hc,hx⟩=>.inl ⟨e3,?_⟩⟩;have:(toS z).cps[i]?=z[i]?:=#v[toS];rw[this,ez]at hc;cases hc;rw[hx];exact .str [n]
def aR(f:DE):DI:=λY=>(f Y).bind λr SL=>match r.d with|.lst ds=>.ok ds SL|.tup ds=>.ok ds SL|.str x=>.ok (x.map λn=>.str [n]) SL|_=>.stuck
universe H in theorem Pe(he:SE X c e fe):SI X c tg e (aR fe):=PI.weak (Pc he) λZ H R⟨Y,k,q⟩=>by
 unfold aR at q;rw[bo]at q;refine⟨Y,k,aM q λr SL q1 v H1 a1 r1=>?_⟩;have rr:=r1.rep;generalize r.d=d at q1 rr;cases d<;>first|exact q1.elim|skip
 .cases rr;exact .inr (.inr ⟨_,rfl,q1 _ H1 a1 (Pd _)⟩)
 .cases rr with|tup h1 h2 h3 h4=>exact .inr (.inl ⟨_,rfl,⟨_,.of h2⟩,q1 _ H1 a1 (Oc _ h2 (λz=>h1 (.inr z)) ⟨h3,h4⟩)⟩)
 .cases rr with|lst h1 h2 h3 h4=>refine .inl ⟨_,rfl,⟨_,.inl h2⟩,q1 _ H1 a1 ?_⟩;intro H2 kp;rename_i a vs;have h5:Rd H2 a (.lst vs):=Rd.keep h2 λo e=>kp a o e λz=>h1 (.inr z);have r':aG H1 (Av c Z SL) vs _:=⟨h3,h4⟩;refine⟨⟨vs,.inl h5,%[r'.1|W5 _]⟩,λi d e=>?_⟩;obtain⟨v,ev,rv⟩:=r'.get e;refine⟨⟨vs,v,.inl h5,ev⟩,λx H3⟨e3,y⟩=>.inl ⟨e3,?_⟩⟩;have:=y vs (.inl h5);grind
end
theorem Pf(a:Int)(t:Tok)(l:Addr)(dd:Option Addr)(items:Array Value)(n:Nat)(sl:Array (Option Value)):Meets (Builtin.«int.__rmul__» ⟨[.int a t,.ref l],[]⟩) λj R s=>s.heap.get? l=some {cls:=.type "tuple",dict:=dd,data:=.seq items n,slots:=sl}/\R (.ok (.ret Value.notImplemented)) s:=.of_wp λprog w A R s h=>by obtain⟨hp,g,d,tk,os⟩:=s;obtain⟨hl,h⟩:=h;wp_walk;exact⟨_,rfl,h⟩
theorem Pg:fillsNumberSlot (.type "tuple") "mul"=pure false:=PySem.fillsNumberSlot_seq (id:="tuple.__mul__") (r:=some (.builtin "tuple.__rmul__")) F.slot_tuple_mul.lookup V' F.slot_tuple_rmul.lookup V'
theorem Ph:seqRepeat? (.type "tuple")=pure (some (.builtin "tuple.__mul__")):=by unfold seqRepeat?;rw[PySem.seqSlot_of (T:="tuple") (name:="__mul__") (id:="tuple.__mul__") F.slot_tuple_mul.lookup V',PySem.seqSlot_of (T:="tuple") (name:="__rmul__") (id:="tuple.__rmul__") F.slot_tuple_rmul.lookup V'];rfl
theorem Pj(l:Addr)(dd:Option Addr)(items:Array Value)(n:Nat)(sl:Array (Option Value))(x:Int)(u:Tok)(h1:¬(decide (x< -2^63)||decide (x≥2^63))=true)(h2:¬(items.isEmpty||x==1)=true)(h3:¬(decide (x<=0)||items.isEmpty)=true)(h4:¬items.size*x>(2^63-1)/8)(h5:¬Builtin.Tuple.tupleTooMany (items.size*x)=true)(h6:((W9 x.toNat items).foldl (.++.) #[]).size<=W7):Meets (Builtin.«tuple.__mul__» ⟨[.ref l,.int x u],[]⟩) (λj R s=>s.heap.get? l=some {cls:=.type "tuple",dict:=dd,data:=.seq items n,slots:=sl}/\R (.ok (.ret (.ref s.heap.objs.size))) 9#(s.heap.push {cls:=.type "tuple",data:=.seq ((W9 x.toNat items).foldl (.++.) #[])})):=.of_wp λprog w A R s h=>by
 obtain⟨hp,g,d,tk,os⟩:=s;obtain⟨hl,h⟩:=h;wp_walk;rw[if_neg h1];wp_walk;try rw[if_neg h2]
 try wp_walk
 try rw[if_neg h3]
 try wp_walk
 try rw[if_neg h4]
 try wp_walk
 try rw[if_neg h5]
 try wp_walk
 exact⟨_,rfl,h⟩
theorem wU(af:List α):∀(k:Nat)(acc:List α),List.foldl (λx1 x2:Array α=>x1++x2) acc.toArray (W9 k af.toArray)=(acc++(W9 k af).flatten).toArray|0,acc=>by simp|k+1,acc=>by rw[Qc,Jl,show acc.toArray++af.toArray=(acc++af).toArray by simp,wU af k];simp[Qc]
def C_(K:W2):R2:=λx y H Q=>∃l k xs,x=.ref l/\y=.int k/\cA K H l xs/\xs≠[]/\2<=k/\k<=1000000/\xs.length*k.toNat<=W7/\∀p,H p=none->Q (.ref p) (upd H p (.tup (W9 k.toNat xs).flatten))
theorem Pk:a_ X (Qw .Mult) (C_ X.K):=by
 intro pins s Z H x y v u Q I rx ry h;obtain⟨l,k,xs,rfl,rfl,hH,bO,h1,h2,hz,q⟩:=h;cases rx;obtain⟨t,rfl⟩:=ry;obtain⟨af,r,pl,hl⟩:=I.tuple hH;obtain⟨⟨cls,dd,data,sl⟩,ho,hc,n,hd⟩:=id pl;simp only at hc hd;subst hc hd;have hlen:af.toArray.size=xs.length:=%[We|r.length.symm];have lu:af.toArray.isEmpty=false:=by cases af with|nil=>exact absurd (r.oS.mp rfl) bO|cons a b=>rfl
 have cY:W7=16777216:=rfl;have hk:(k.toNat:Int)=k:=by lia
 have hmul:((af.toArray.size:Nat):Int)*k=((xs.length*k.toNat:Nat):Int):=by rw[hlen,Int.natCast_mul,hk]
 have tJ:List.foldl (λx1 x2=>x1++x2) #[] (W9 k.toNat af.toArray)=(W9 k.toNat af).flatten.toArray:=by have:=vA af k.toNat [];rw[Qt]at this;exact this
 refine wpAny_binaryOp_repeat_ref (T:="tuple") (U:="int") Z' ⟨_,ho,rfl⟩ (λs'=>typeIs_int s' k t) Pg F.fills_int_mul F.slot_int_rmul Ph F.slot_int_index.lookup (Jf F.slot_int_rmul (typeIs_int s k t) F.entry_int_rmul (F.args_int_rmul_2 _ _) (Pf k t l dd af.toArray n sl) ⟨ho,rfl,⟨_,ho,rfl⟩,Jf F.slot_tuple_mul ⟨_,ho,rfl⟩ F.entry_tuple_mul (F.args_tuple_mul_2 _ _) (Pj l dd af.toArray n sl k t ?_ ?_ ?_ ?_ ?_ ?_) ⟨ho,?_⟩⟩);.simp;lia
 .rw[lu];simp;lia
 .rw[lu];simp;lia
 .rw[hmul];lia
 .rw[hmul];unfold Builtin.Tuple.tupleTooMany;rw[cY]at hz;generalize xs.length*k.toNat=m at hz;simp only[cY,decide_eq_true_eq];lia
 .rw[tJ,We,rZ,<-r.length,Jw];exact hz
 .rw[tJ];have I1:Inv X pins Z (upd H s.heap.objs.size (.tup (W9 k.toNat xs).flatten)) 9#(s.heap.push {cls:=.type "tuple",data:=.seq (W9 k.toNat af).flatten.toArray}):=I.laid (t':=s.toks) (λb o e=>W6 _ e) (W5 _) (show aZ X.prog X.w _ _ _ (.tup (W9 k.toNat xs).flatten)from⟨%[rZ,Jw|hz],(W9 k.toNat af).flatten,r.rep k.toNat,ip.new _ _⟩);exact⟨.ref _,_,I1,rfl,q _ (I.aB.fresh (W5 _))⟩
def Dc:R2:=λx y H Q=>∃z k,x=.str z/\y=.int k/\2<=k/\k<=1000000/\0<z.length/\z.length*k.toNat<=W7/\Q (.str ⟨(W9 k.toNat z.cps).foldl (.++.) #[]⟩) H
theorem Pl:a_ X (Qw .Mult) Dc:=by
 intro pins s Z H x y v u Q I rx ry h;obtain⟨z,k,rfl,rfl,h1,h2,h0,hz,q⟩:=h;obtain⟨t,rfl⟩:=rx;obtain⟨t',rfl⟩:=ry;have cY:W7=16777216:=rfl;have c1:¬k<1:=by lia
 have c2:(k==1||z.length==0)=false:=by simp;lia
 refine PySem.P.mul_str Zx (λj j=>?_) (λj j=>?_) ?_
 .have hm:(z.length:Int)*k<=16777216:=by
   have:(z.length:Int)*k=((z.length*k.toNat:Nat):Int):=by rw[Int.natCast_mul,show(k.toNat:Int)=k by lia]
   rw[this];rw[cY]at hz;lia
  have:(z.length:Int)<=(2^63-1)/k:=(Int.le_ediv_iff_mul_le Y').mpr Y';lia
 .unfold Builtin.Str.tooLong;rw[cY]at hz;generalize z.length*k.toNat=m at hz;simp only[cY,decide_eq_false_iff_not];lia
 .rw[if_neg c1,if_neg (by rw[c2];simp)];have hsz:((W9 k.toNat z.cps).foldl (.++.) #[]).size=k.toNat*z.length:=by have h:=wU z.cps.toList k.toNat [];simp only[Qt,Array.toArray_toList]at h;rw[h,We,rZ];simp[Str.length]
  exact⟨by show((W9 k.toNat z.cps).foldl (.++.) #[]).size<=_;rw[hsz,Jw];exact hz,.str _,H,I.tok _,⟨_,rfl⟩,q⟩
theorem Dd:∀{xs:List Nat}{us:List Value},us.length=xs.length->(∀(j n:Nat)(v:Value),xs[j]?=some n->us[j]?=some v->∃w,v=.str ⟨#[n]⟩ w)->Vals (xs.map λn=>V.str ⟨#[n]⟩) us|[],[],_,_=>.nil|[],u::us,h,_=>by simp at h|x::xs,[],h,_=>by simp at h|x::xs,u::us,h,k=>.cons (by obtain⟨w,e⟩:=k 0 x u rfl rfl;exact⟨w,e⟩) (Dd (~~~h) λj n v h1 h2=>k (j+1) n v (~~~h1) (~~~h2))
theorem Pm(hc:X.calm=true):cN X (.type "list") λxs H Q=>∃z:Str,xs=[.str z]/\z.cps.size<=W7/\∀l,H l=none->Q (.ref l) (upd H l (.lst (z.cps.toList.map λn=>V.str ⟨#[n]⟩))):=by
 intro pins s Z H xs us Q I r h;obtain⟨z,rfl,hz,q⟩:=h;obtain⟨u,rfl,t,rfl⟩:=eN r;refine call_list_str (hn:=hz) (I.ok.hd hc) z t λh' tk acc c' kp e pV=>?_;have hv:Vals (z.cps.toList.map λn=>V.str ⟨#[n]⟩) acc.toList:=Dd #v[pV.1] λj n v h1 h2=>by obtain⟨c,w,h3,h4⟩:=pV.2 j v (~~~h2);rw[show z.cps[j]?=some n by simpa using h1]at h3;cases h3;exact⟨w,h4⟩
 exact⟨.ref s.heap.objs.size,_,I.laid (t':=tk) kp (W5 _) (show aZ X.prog X.w _ h' _ (.lst _)from⟨~~~hz,acc.toList,c',hv,~~~e⟩),rfl,q _ (I.aB.fresh (W5 _))⟩
noncomputable def ly:D->D->Option S|.int i,.int j=>iA (.int i) (.int j)|.str x,.int k=>if 2<=k/\k<=1000000/\0<x.length/\x.length*k.toNat<=W7 then 0#(.str (W9 k.toNat x).flatten) else none|.tup xs,.int k=>if 2<=k/\k<=1000000/\0<xs.length/\xs.length*k.toNat<=W7 then 0#(.tup (W9 k.toNat xs).flatten) else none|_,_=>none
def De(K:W2):R2:=λx y H Q=>rI nu (λi j=>V.int (i*j)) x y H Q\/Dc x y H Q\/C_ K x y H Q
theorem Pn:a_ X (Qw .Mult) (De X.K):=AM.or (Pl.or Pk)
theorem aG.rep(h:aG H O vs ds):∀k:Nat,aG H O (W9 k vs).flatten (W9 k ds).flatten|0=>.nil|k+1=>%[Qc,Qc,Jr,Jr|h.append (aG.rep h k)]
universe H in theorem Po:bV (De K) ly:=by
 intro c Z Y H x y d e s Q k rx ry hp q;cases d<;>cases e<;>first|(simp[ly]at hp;done)|skip
 .exact .inl (v_ c Z Y H x y _ _ s Q k rx ry hp q)
 .rename_i z n;simp only[ly]at hp;split at hp
  .rename_i h;cases hp;refine .inr (.inl ⟨toS z,n,rx.str,ry.int,h.1,h.2.1,%[i4|h.2.2.1],%[i4|h.2.2.2],?_⟩);have e:(⟨(W9 n.toNat (toS z).cps).foldl (.++.) #[]⟩:Str)=toS (W9 n.toNat z).flatten:=by unfold toS;congr 1;have:=wU z n.toNat [];rw[Qt]at this;exact this
   rw[e];exact q _ H (.refl k) (.str _)
  .cases hp
 .rename_i ds n;simp only[ly]at hp;split at hp
  .rename_i h;cases hp;obtain⟨a,vs,ex,ha,r⟩:=rx.tup;refine .inr (.inr ⟨a,n,vs,ex,ry.int,.of ha,?_,h.1,h.2.1,%[r.1|h.2.2.2],λp cm=>?_⟩);.intro z;rw[z]at r;have:=r.1;simp at this;lia
   .exact q _ _ (.alloc k cm _) (aL.mr k (aG.rep r _) cm)
  .cases hp
theorem aL.newD(k:Ok c Z Y H)(hp:H p=none):aL c Z Y H (upd H p (.dK [])) (.ref p) (.own (.bP [])):=by refine⟨p,rfl,⟨[],cz,rfl,λi p q e=>by simp at e⟩,λz=>k.i5 hp (.inl z),k.j5 hp,k.plus hp _,hp⟩
def mE:DE:=λY=>.ok (.own (.bP [])) Y
theorem Pp{c:Fc}:SE X c (.Dict [] [] pos) mE:=PE.weak L4 λZ H Q⟨Y,k,q⟩=>λp hp=>q _ _ (.alloc k hp _) (aL.newD k hp)
noncomputable def nR:D->Option S|.lst ds=>some (.own (.lst ds))|.tup ds=>some (.own (.lst ds))|.str x=>if x.length<=W7 then some (.own (.lst (x.map λn=>.str [n])))else none|_=>none
section
variable{c:Fc}{a x y:Expr}{f g:DE}{p p2:Pos}
theorem Df:∀z:Tx,aG H O (z.map λn=>V.str ⟨#[n]⟩) (z.map λn=>D.str [n])|[]=>.nil|n::r=>.cons (.str [n]) (Df r)
universe H in theorem Pq(hc:X.calm=true)(hg:Gl X "list")(hm:X.mg "list"=none)(he:SB X c e fb)(hs:kh e=true:=by rfl):SE X c (.Call (.Name "list" pp) [e] [] pos) (ay nR fb):=nK (r:=λv H Q=>(∃p ys,v=.ref p/\(bN X.K H p ys\/cA X.K H p ys)/\∀l,H l=none->Q (.ref l) (upd H l (.lst ys)))\/∃z:Str,v=.str z/\z.cps.size<=W7/\∀l,H l=none->Q (.ref l) (upd H l (.lst (z.cps.toList.map λn=>V.str ⟨#[n]⟩)))) (LD.or (Pm hc)) λv H Q h=>by
   rcases h with⟨p,ys,e,h⟩|⟨z,e,h⟩;.exact .inl ⟨p,ys,by rw[e],h⟩
   .exact .inr ⟨z,by rw[e],h⟩
 (λc Z Y H x d s Q k rx hp q=>by cases d with
 |lst ds=>cases hp;obtain⟨a,vs,ex,ha,r⟩:=rx.lst;exact .inl ⟨a,vs,ex,.inl (.inl ha),λl hl=>q _ _ (.alloc k hl _) (aL.i6 k r hl)⟩|tup ds=>cases hp;obtain⟨a,vs,ex,ha,r⟩:=rx.tup;exact .inl ⟨a,vs,ex,.inr (.of ha),λl hl=>q _ _ (.alloc k hl _) (aL.i6 k r hl)⟩|str z=>
 simp only[nR]at hp;split at hp;.rename_i hz;cases hp;refine .inr ⟨toS z,rx.str,by simpa[toS]using hz,λl hl=>?_⟩;have:(toS z).cps.toList=z:=#v[toS];rw[this];exact q _ _ (.alloc k hl _) (aL.i6 k (Df z) hl)
 .cases hp|_=>simp[nR]at hp) hg hm PyProof.Rows.boot_list he Z' Z' (lj hs)
end
theorem Dg:entryFor table "dict.update.loop"=some Builtin.«dict.update.loop»:=entryFor_of_tree (by kernel_rfl)
theorem mF:plainId "dict.update.loop"=true:=by decide+kernel
theorem Pr:typeLookup (.type "tuple") "keys"=pure none:=by rw[typeLookup_type,builtinLookup_eq_fast];kernel_rfl
theorem Pt:typeLookup (.type "list") "keys"=pure none:=by rw[typeLookup_type,builtinLookup_eq_fast];kernel_rfl
set_option maxRecDepth 8000 in theorem Dh{xs}(hx:s.heap.get? a=some o)(hc:o.cls=.type "tuple")(lz:o.data=.seq xs k)(hd:o.dict=none)(hA:A.handled=none)(h:∀h' tk,(∀b ob,s.heap.get? b=some ob->h'.get? b=some ob)->Q none {s with heap:=h',toks:=tk}):W8 4#0 A (getAttr? (.ref a) "keys") Q E s:=by
 obtain⟨c,bP,dat,sl⟩:=o;simp only at hc lz hd;subst hc lz hd;obtain⟨hp,g,d,tk,os⟩:=s;have hT:∀pW,(⟨hp,g,d,pW,os⟩:W1).TypeIs (.ref a) "tuple":=λj=>⟨_,hx,rfl⟩;have f1:=sub_AttributeError;have f3:=F.slot_tuple_getattribute.lookup;have f4:=F.slot_tuple_getattribute.bind (.ref a);have f5:=am_tuple_getattr_none;have wV:=Pr;unfold getAttr? getAttrBy? getAttrBy;repeat(any_goals(first|assumption|exact hT _|((with_reducible show W8 _ _ (call (Value.builtin "tuple.__getattribute__") _ _) _ _ _);refine Jf F.slot_tuple_getattribute (hT _) am_entry_tuple_getattribute (F.args_tuple_getattribute_2 _ _) (meets_getattribute_miss_tuple a xs k sl "keys" _ wV V') ⟨hx,hA,λh' pW e pX=>?_⟩)|wp_step))
 obtain⟨t',u',he⟩:=pX.there;show W8 _ _ (U8 _ _ _ _ _ _ _) _ _ _;unfold U8;repeat(any_goals(first|assumption|wp_step))
 exact h _ _ pX.keeps
set_option maxRecDepth 8000 in theorem Di{xs}(hx:s.heap.get? a=some o)(hc:o.cls=.type "list")(lz:o.data=.seq xs k)(hd:o.dict=none)(hA:A.handled=none)(h:∀h' tk,(∀b ob,s.heap.get? b=some ob->h'.get? b=some ob)->Q none {s with heap:=h',toks:=tk}):W8 4#0 A (getAttr? (.ref a) "keys") Q E s:=by
 obtain⟨c,bP,dat,sl⟩:=o;simp only at hc lz hd;subst hc lz hd;obtain⟨hp,g,d,tk,os⟩:=s;have hT:∀pW,(⟨hp,g,d,pW,os⟩:W1).TypeIs (.ref a) "list":=λj=>⟨_,hx,rfl⟩;have f1:=sub_AttributeError;have f3:=F.slot_list_getattribute.lookup;have f4:=F.slot_list_getattribute.bind (.ref a);have f5:=am_list_getattr_none;have wV:=Pt;unfold getAttr? getAttrBy? getAttrBy;repeat(any_goals(first|assumption|exact hT _|((with_reducible show W8 _ _ (call (Value.builtin "list.__getattribute__") _ _) _ _ _);refine Jf F.slot_list_getattribute (hT _) am_entry_list_getattribute (F.args_list_getattribute_2 _ _) (meets_getattribute_miss_list a xs k sl "keys" _ wV V') ⟨hx,hA,λh' pW e pX=>?_⟩)|wp_step))
 obtain⟨t',u',he⟩:=pX.there;show W8 _ _ (U8 _ _ _ _ _ _ _) _ _ _;unfold U8;repeat(any_goals(first|assumption|wp_step))
 exact h _ _ pX.keeps
def fI(kps:List (Key×V))(acc:List (Key×V)):List (Key×V):=kps.foldl (λa kv=>putK a kv.1 kv.2) acc
theorem Dj{R:Result->W1->Prop}{s:W1}{dl:Addr}{i:Int}{t0:Tok}(hn:W8 4#0 A.in1 (JE (.ref it)) (λr s1=>∃(q:Addr)(k v:Value)(n:Nat),r=some (.ref q)/\s1.heap.get? q=some {cls:=.type "tuple",dict:=none,data:=.seq #[k,v] n,slots:=#[]}/\W8 4#0 A.in1 (dictSet dl k v) (λj s2=>J4 4#0 A (.builtin "dict.update.loop" ⟨[.ref dl,.ref it,QU (i+1),.none],[]⟩) R s2) (λj j=>False) s1) (λj j=>False) s):J4 4#0 A (.builtin "dict.update.loop" ⟨[.ref dl,.ref it,.int i t0,.none],[]⟩) R s:=by
 refine codeAny_builtin Dg ?_;rw[Around.under_plainId mF _];show W8 _ A.in1 (JE (.ref it)>>=_) _ _ s;refine W0 (Q7 hn (λr s1 hr=>?_) (by grind));obtain⟨q,k,v,n,rfl,hq,hd⟩:=hr;dsimp only;refine W0 ?_;try with_reducible refine WP ?_
 refine W0 (wpAny_tryCatch ?_);have hT:s1.TypeIs (.ref q) "tuple":=⟨_,hq,rfl⟩;unfold Builtin.Dict.pairItems;refine W0 (QX hT ?_);rw[if_pos Z'];refine W0 ?_;unfold seqItems?;refine W0 (wpAny_load hq (W3 ?_));refine W3 ?_;show W8 _ A.in1 (holding [k,v] (dictSet dl k v)) _ _ s1;try with_reducible refine WP ?_
 refine Q7 hd (λj s2 h2=>?_) (by grind);exact W3 ⟨plainId_quiet mF _,h2⟩
theorem Dk{R:Result->W1->Prop}{i:Int}(hn:W8 4#0 A.in1 (JE (.ref it)) (λr s1=>r=none/\R (.ok (.ret .none)) s1) (λj j=>False) s):J4 4#0 A (.builtin "dict.update.loop" ⟨[.ref dl,.ref it,.int i t0,.none],[]⟩) R s:=by refine codeAny_builtin Dg ?_;rw[Around.under_plainId mF _];show W8 _ A.in1 (JE (.ref it)>>=_) _ _ s;refine W0 (Q7 hn (λr s1 hr=>?_) (by grind));obtain⟨rfl,hd⟩:=hr;dsimp only;show W8 _ A.in1 (Builtin.Dict.addKeywords dl []>>=_) _ _ s1;exact W0 (W3 (W3 hd))
theorem Rd.sub{u}(h:Rd H a u)(k:∀b o,H b=Option.some o->H' b=Option.some o):Rd H' a u:=by
 rcases h with h|⟨o,h⟩;.exact .inl (k _ _ h)
 .exact .inr ⟨o,k _ _ h⟩
def tK(H:Hp)(ys:List V)(kps:List (Key×V)):Prop:=ys.length=kps.length/\∀(i:Nat)y kv,ys[i]?=some y->kps[i]?=some kv->∃q,y=.ref q/\H q=some (.tup [kV kv.1,kv.2])
theorem Dp:∀(kps acc:List (Key×V)),(fI kps acc).length<=acc.length+kps.length|[],acc=>W5 _|kv::r,acc=>by have h1:=Dp r (putK acc kv.1 kv.2);have h2:=Bt acc kv.1 kv.2;show(fI r (putK acc kv.1 kv.2)).length<=_;simp only[WE];lia
theorem Pu(kps:List (Key×V))(kv:Key×V)(acc:List (Key×V)):fI (kps++[kv]) acc=putK (fI kps acc) kv.1 kv.2:=by unfold fI;rw[List.foldl_append];rfl
theorem Dq{R:Result->W1->Prop}{ys:List V}(hP:tK H ys kps)(gf:H dl=none)(hz:kps.length<=W7)(item:∀(i:Nat)(y:V)(H':Hp)(s:W1)(Q:Option Value->W1->Prop),(∀b o,H b=some o->H' b=some o)->H' it=none->Inv X pins Z H' s->tn i s.heap->ys[i]?=some y->(∀u s',RelV y u->Inv X pins Z H' s'->tn (i+1) s'.heap->Q (some u) s')->W8 5#0 A.in1 (JE (.ref it)) Q (λc c=>False) s)(done:∀(H':Hp)(s:W1)(Q:Option Value->W1->Prop),(∀b o,H b=some o->H' b=some o)->H' it=none->Inv X pins Z H' s->tn ys.length s.heap->(∀s',Inv X pins Z H' s'->Q none s')->W8 5#0 A.in1 (JE (.ref it)) Q (λc c=>False) s)(keep:∀(i:Nat)(h h':Heap),tn i h->(∀o,h.get? it=some o->h'.get? it=some o)->tn i h')(hit:H it=none)(bO:it≠dl)(hR:∀s',Inv X pins Z (upd H dl (.dK (fI kps []))) s'->R (.ok (.ret .none)) s'):∀(k i:Nat)(s:W1)(j:Int)(t0:Tok),ys.length-i=k->i<=ys.length->Inv X pins Z (upd H dl (.dK (fI (kps.take i) []))) s->tn i s.heap->J4 5#0 A (.builtin "dict.update.loop" ⟨[.ref dl,.ref it,.int j t0,.none],[]⟩) R s:=by
 have up:∀(acc:List (Key×V))b o,H b=some o->upd H dl (.dK acc) b=some o:=λacc b o e=>%[ba (fj e gf)|e];have kK:∀acc:List (Key×V),upd H dl (.dK acc) it=none:=λacc=>%[ba bO|hit]
 intro k;induction k with|zero=>
 intro i s j t0 hk hi I st;have e:i=ys.length:=by lia
 subst e;rw[hP.1,QN (W5 _)]at I;refine Dk (done _ s _ (up _) (kK _) I st λs' I'=>⟨rfl,hR s' I'⟩)|succ k ih=>
 intro i s j t0 hk hi I st;have bz:i<ys.length:=by lia
 have je:i<kps.length:=by rw[<-hP.1];exact bz
 obtain⟨q,ey,hq⟩:=hP.2 i ys[i] kps[i] #v[bz] #v[je];have main:∀s1,Inv X pins Z (upd H dl (.dK (fI (kps.take i) []))) s1->tn (i+1) s1.heap->∃(kk vv:Value)(n:Nat),s1.heap.get? q=some {cls:=.type "tuple",dict:=none,data:=.seq #[kk,vv] n,slots:=#[]}/\RelV (kV kps[i].1) kk/\RelV kps[i].2 vv:=λs1 I1 c=>by obtain⟨_,af,r,n,e⟩:=show aZ X.prog X.w _ s1.heap q (.tup [kV kps[i].1,kps[i].2])from I1.aB q _ (up _ q _ hq);obtain⟨u,v,rfl,r1,r2⟩:=Vals.two r;exact⟨u,v,n,e,r1,r2⟩
 refine Dj (item i ys[i] _ s _ (up _) (kK _) I st #v[bz] λu s' ru I' ar=>?_);rw[ey]at ru;cases ru;obtain⟨kk,vv,n,e,r1,r2⟩:=main s' I' ar;refine⟨q,kk,vv,n,rfl,e,?_⟩;obtain⟨z,hd,vs,rel,dd⟩:=Bw I'.aB cz;have kc:vs.length<=W7:=by rw[<-rel.length];exact z
 have hl:(putK (fI (kps.take i) []) kps[i].1 kps[i].2).length<=W7:=by have h1:=Bt (fI (kps.take i) []) kps[i].1 kps[i].2;have h2:=Dp (kps.take i) [];simp at h2;lia
 refine wpAny_dictSet_pairs (hsz:=kc) (nC r1) dd λh' Dr hs=>?_;have he:∃q,h'.get? dl=some q:=let⟨q,_,_,hq,_⟩:=Dr;⟨q,hq⟩;have I2:=vF (t':=s'.toks+1) I' %[cz|True.intro] hs he (LX hl hd (rel.put kps[i].1 r2) Dr);rw[Aj]at I2;have et:kps.take (i+1)=kps.take i++[kps[i]]:=by simp_all
 rw[show putK (fI (kps.take i) []) kps[i].1 kps[i].2=fI (kps.take (i+1)) []by rw[et,Pu]]at I2;exact ih (i+1) _ (j+1) _ Y' bz I2 (keep (i+1) _ _ ar λo eo=>(hs.2 it bO).trans eo)
theorem Pw(hc:X.calm=true):cN X (.type "dict") λxs H Q=>∃p ys kps,xs=[.ref p]/\(H p=some (.tup ys)\/Rd H p (.lst ys))/\tK H ys kps/\kps.length<=W7/\∀l,H l=none->Q (.ref l) (upd H l (.dK (fI kps []))):=by
 intro pins s Z H xs us Q I r h;obtain⟨p,ys,kps,rfl,hp,hP,hz,q⟩:=h;obtain⟨u,rfl,rx⟩:=eN r;cases rx;have hA:X.A.handled=none:=I.ok.hd hc;refine callType_codes (Q₁:=λobj s₁=>obj=.ref s.heap.objs.size/\s₁=9#(s.heap.push {cls:=.type "dict",data:=.dict #[]})) F.kt_called_dict (F.kt_typeCall_dict_1 _) F.entry_dict_init (kt_code_dict_new _ ⟨rfl,rfl⟩) ?_;rintro obj s₁⟨rfl,rfl⟩;have gf:H s.heap.objs.size=none:=I.aB.fresh (W5 _);have I1:Inv X pins Z (upd H s.heap.objs.size (.dK [])) 9#(s.heap.push {cls:=.type "dict",data:=.dict #[]}):=I.laid (t':=s.toks) (λj j q=>W6 _ q) (W5 _) (Bx s.heap I.big);generalize iy:s.heap.objs.size=dl at gf I1;have up:∀(acc:List (Key×V))b o,H b=some o->upd H dl (.dK acc) b=some o:=λacc b o e=>%[ba (fj e gf)|e];have pY:(9#(s.heap.push {cls:=.type "dict",data:=.dict #[]}):W1).TypeIs (.ref dl) "dict":=⟨_,by rw[<-iy];exact Wv _ rfl,rfl⟩;refine⟨pY,F.args_dict_init_2 _ _,?_⟩;unfold Builtin.«dict.__init__»;refine W0 ?_;unfold Builtin.Dict.selfAndRest;refine W0 (JM pY ?_);show W8 _ _ (pure (dl,[Value.ref p])) _ _ _;refine W3 ?_;show W8 _ _ (JB "dict.__init__" dl (.ref p) [] .none) _ _ _;unfold JB;have fin:∀s',Inv X pins Z (upd H dl (.dK (fI kps []))) s'->EP X pins Z Q (.ref dl) s':=λs' I'=>⟨.ref dl,_,I',rfl,q dl gf⟩;rcases hp with hp|hp
 .obtain⟨_,af,r,n,e⟩:=show aZ X.prog X.w _ (s.heap.push {cls:=.type "dict",data:=.dict #[]}) p (.tup ys)from I1.aB p _ (up _ p _ hp);refine W0 (QX ⟨_,e,rfl⟩ ?_);rw[if_pos Z'];refine W0 (Dh e rfl rfl rfl hA λh' tk kp=>?_);rw[if_pos (show(none:Option Value).isNone=true from rfl)];refine W0 (QF ?_);have I2:Inv X pins Z (upd H dl (.dK [])) {s with heap:=h',toks:=tk}:=I1.kept kp;have fV:h'.IsTuple p af.toArray:=⟨_,kp _ _ e,rfl,n,rfl⟩;refine W0 (wpAny_pyIter_tuple (s:={s with heap:=h',toks:=tk}) fV ?_);refine W3 ⟨plainId_quiet mF _,?_⟩;have cZ:upd H dl (.dK []) h'.objs.size=none:=I2.aB.fresh (W5 _);have bO:h'.objs.size≠dl:=λz=>by grind[cz]
  have hit:H h'.objs.size=none:=by rw[ba bO]at cZ;exact cZ
  have fp:∀H':Hp,H' h'.objs.size=none->f9 X pins H' h'.objs.size:=λH' hn=>I2.jT (W5 _) hn;refine Dq (X:=X) (pins:=pins) (Z:=Z) (H:=H) (dl:=dl) (it:=h'.objs.size) (ys:=ys) (kps:=kps) (tn:=λi h=>h.IsTupleIter h'.objs.size p i) hP gf hz ?_ ?_ (λi h h2 st k=>st.at k) hit bO (λs' I'=>⟨rfl,fin s' I'⟩) ys.length 0 _ 0 _ (Us _) (Q2 _) ?_ ?_;.intro i y H' s' Q' sub hn I' st hy k;obtain⟨_,its2,r2,n2,e2⟩:=show aZ X.prog X.w _ s'.heap p (.tup ys)from I'.aB p _ (sub p _ hp);obtain⟨v,hv,rv⟩:=r2.get hy;obtain⟨f0,f1,f2,f3,f4,f5⟩:=fp H' hn;refine wpAny_pyNext_tuple_item st (items:=its2.toArray) ⟨_,e2,rfl,n2,rfl⟩ (x:=v) (~~~hv) λh3 bq sb=>?_;exact k v {s' with heap:=h3} rv (I'.turned (t':=s'.toks) (λb o hb e=>(sb.2 b hb).trans e) f0 f1 f3 f4 f5) bq
  .intro H' s' Q' sub hn I' st k;obtain⟨_,its2,r2,n2,e2⟩:=show aZ X.prog X.w _ s'.heap p (.tup ys)from I'.aB p _ (sub p _ hp);obtain⟨f0,f1,f2,f3,f4,f5⟩:=fp H' hn;have kT:=r2.length;exact wpAny_pyNext_tuple_end (show X.A.in1.in1.handled=none from hA) st (items:=its2.toArray) ⟨_,e2,rfl,n2,rfl⟩ Zx λh3 eb=>k {s' with heap:=h3} (I'.turned (t':=s'.toks) (λb o hb e=>eb b o hb e) f0 f1 f3 f4 f5)
  .exact I2.kept (t':=tk) λb o e=>W6 _ e
  .exact⟨_,Wv _ rfl,rfl,rfl⟩
 .obtain⟨_,af,n,r,e⟩:=show aZ X.prog X.w _ (s.heap.push {cls:=.type "dict",data:=.dict #[]}) p (.lst ys)from(Rd.sub hp (up _)).ok I1.aB;refine W0 (QX ⟨_,e,rfl⟩ ?_);rw[if_pos Z'];refine W0 (Di e rfl rfl rfl hA λh' tk kp=>?_);rw[if_pos (show(none:Option Value).isNone=true from rfl)];refine W0 (QF ?_);have I2:Inv X pins Z (upd H dl (.dK [])) {s with heap:=h',toks:=tk}:=I1.kept kp;have fV:h'.IsList p af.toArray:=⟨_,kp _ _ e,rfl,n,rfl⟩;refine W0 (Ug (s:={s with heap:=h',toks:=tk}) fV ?_);refine W3 ⟨plainId_quiet mF _,?_⟩;have cZ:upd H dl (.dK []) h'.objs.size=none:=I2.aB.fresh (W5 _);have bO:h'.objs.size≠dl:=λz=>by grind[cz]
  have hit:H h'.objs.size=none:=by rw[ba bO]at cZ;exact cZ
  have fp:∀H':Hp,H' h'.objs.size=none->f9 X pins H' h'.objs.size:=λH' hn=>I2.jT (W5 _) hn;refine Dq (X:=X) (pins:=pins) (Z:=Z) (H:=H) (dl:=dl) (it:=h'.objs.size) (ys:=ys) (kps:=kps) (tn:=λi h=>h.IsListIter h'.objs.size p i) hP gf hz ?_ ?_ (λi h h2 st k=>st.at k) hit bO (λs' I'=>⟨rfl,fin s' I'⟩) ys.length 0 _ 0 _ (Us _) (Q2 _) ?_ ?_;.intro i y H' s' Q' sub hn I' st hy k;obtain⟨_,its2,n2,r2,e2⟩:=show aZ X.prog X.w _ s'.heap p (.lst ys)from(Rd.sub hp sub).ok I'.aB;obtain⟨v,hv,rv⟩:=r2.get hy;obtain⟨f0,f1,f2,f3,f4,f5⟩:=fp H' hn;refine wpAny_pyNext_list_item st (items:=its2.toArray) ⟨_,e2,rfl,n2,rfl⟩ (x:=v) (~~~hv) λh3 bq sb=>?_;exact k v {s' with heap:=h3} rv (I'.turned (t':=s'.toks) (λb o hb e=>(sb.2 b hb).trans e) f0 f1 f3 f4 f5) bq
  .intro H' s' Q' sub hn I' st k;obtain⟨_,its2,n2,r2,e2⟩:=show aZ X.prog X.w _ s'.heap p (.lst ys)from(Rd.sub hp sub).ok I'.aB;obtain⟨f0,f1,f2,f3,f4,f5⟩:=fp H' hn;have kT:=r2.length;exact wpAny_pyNext_list_end (show X.A.in1.in1.handled=none from hA) st (items:=its2.toArray) ⟨_,e2,rfl,n2,rfl⟩ Zx λh3 eb=>k {s' with heap:=h3} (I'.turned (t':=s'.toks) (λb o hb e=>eb b o hb e) f0 f1 f3 f4 f5)
  .exact I2.kept (t':=tk) λb o e=>W6 _ e
  .exact⟨_,Wv _ rfl,rfl,rfl⟩
def dZ(ao:List (b_×D))(k:b_):Option D:=(ao.find? λkv=>decide (kv.1=k)).map (·.2)
def putD(ao:List (b_×D))(k:b_)(v:D):List (b_×D):=if(ao.any λkv=>decide (kv.1=k))=true then ao.map λkv=>if kv.1=k then(kv.1,v)else kv else ao++[(k,v)]
def mG(kps acc:List (b_×D)):List (b_×D):=kps.foldl (λa kv=>putD a kv.1 kv.2) acc
theorem Px(h:dE k=dE j):k=j:=by
 cases k<;>cases j<;>simp[dE]at h;.rw[h]
 .rw[nH h]
def DR(H:Hp)(O:Addr->Prop):List (Key×V)->List (b_×D)->Prop|[],[]=>True|p::ws,q::ds=>p.1=dE q.1/\Rep H O p.2 q.2/\DR H O ws ds|_,_=>False
theorem DR.of:∀{ws:List (Key×V)}{ds:List (b_×D)},ws.map (·.1)=ds.map (λp=>dE p.1)->(∀(i:Nat)p q,ws[i]?=some p->ds[i]?=some q->Rep H O p.2 q.2)->DR H O ws ds|[],[],_,_=>trivial|[],_::_,h,_=>by simp at h|_::_,[],h,_=>by simp at h|p::ws,q::ds,h,k=>by simp only[Wj,JF]at h;exact⟨h.1,k 0 p q rfl rfl,DR.of h.2 λi p' q' e1 e2=>k (i+1) p' q' (~~~e1) (~~~e2)⟩
theorem DR.keys:∀{ws:List (Key×V)}{ds:List (b_×D)},DR H O ws ds->ws.map (·.1)=ds.map λp=>dE p.1|[],[],_=>rfl|[],_::_,h=>h.elim|_::_,[],h=>h.elim|p::ws,q::ds,h=>by simp only[Wj,h.1,DR.keys h.2.2]
theorem DR.vals:∀{ws:List (Key×V)}{ds:List (b_×D)},DR H O ws ds->∀(i:Nat)p q,ws[i]?=some p->ds[i]?=some q->Rep H O p.2 q.2|[],[],_,i,p,q,e,_=>by simp at e|[],_::_,h,_,_,_,_,_=>h.elim|_::_,[],h,_,_,_,_,_=>h.elim|p::ws,q::ds,h,i,p',q',e1,e2=>by cases i with|zero=>simp at e1 e2;subst e1 e2;exact h.2.1|succ i=>exact DR.vals h.2.2 i p' q' (~~~e1) (~~~e2)
theorem DR.map:∀{ws:List (Key×V)}{ds:List (b_×D)},DR H O ws ds->(∀v d,Rep H O v d->Rep H' O' v d)->DR H' O' ws ds|[],[],_,_=>trivial|[],_::_,h,_=>h.elim|_::_,[],h,_=>h.elim|p::ws,q::ds,h,k=>⟨h.1,k _ _ h.2.1,DR.map h.2.2 k⟩
theorem mH(h:p=dE q):p=dE k↔q=k:=⟨λe=>Px (by rw[<-h];exact e),by grind⟩
theorem DR.any:∀{ws:List (Key×V)}{ds:List (b_×D)}(k:b_),DR H O ws ds->(ws.any λkv=>decide (kv.1=dE k))=ds.any λkv=>decide (kv.1=k)|[],[],_,_=>rfl|[],_::_,_,h=>h.elim|_::_,[],_,h=>h.elim|p::ws,q::ds,k,h=>by rw[QJ,QJ,DR.any k h.2.2];congr 1;exact decide_eq_decide.mpr (mH h.1)
theorem DR.val{H O}:∀{ws:List (Key×V)}{ds:List (b_×D)}(k:b_),DR H O ws ds->dZ ds k=none/\fR ws (dE k)=none\/∃v d,dZ ds k=some d/\fR ws (dE k)=some v/\Rep H O v d
 |[],[],_,_=>.inl ⟨rfl,rfl⟩|[],_::_,_,h=>h.elim|_::_,[],_,h=>h.elim|p::ws,q::ds,k,h=>by
  by_cases e:q.1=k;.have e':=(mH h.1).mpr e;exact .inr ⟨p.2,q.2,#v[dZ,Qa,e],vC e',h.2.1⟩
  .have e':¬p.1=dE k:=λz=>e ((mH h.1).mp z);have ev:dZ (q::ds) k=dZ ds k:=#v[dZ,Qa,e];rw[ev,vD e'];exact DR.val k h.2.2
theorem DR.append:∀{ws Ds:List (Key×V)}{ds dO:List (b_×D)},DR H O ws ds->DR H O Ds dO->DR H O (ws++Ds) (ds++dO)|[],_,[],_,_,h'=>h'|[],_,_::_,_,h,_=>h.elim|_::_,_,[],_,h,_=>h.elim|p::ws,_,q::ds,_,h,h'=>⟨h.1,h.2.1,DR.append h.2.2 h'⟩
theorem DR.store:∀{ws:List (Key×V)}{ds:List (b_×D)}{k:b_}{v:V}{d:D},DR H O ws ds->Rep H O v d->DR H O (ws.map λkv=>if kv.1=dE k then(kv.1,v)else kv) (ds.map λkv=>if kv.1=k then(kv.1,d)else kv)
 |[],[],_,_,_,_,_=>trivial|[],_::_,_,_,_,h,_=>h.elim|_::_,[],_,_,_,h,_=>h.elim|p::ws,q::ds,k,v,d,h,r=>by
  refine⟨?_,?_,DR.store h.2.2 r⟩
  .by_cases e:q.1=k;.dsimp only;rw[if_pos ((mH h.1).mpr e),if_pos e];exact h.1
   .dsimp only;rw[if_neg λz=>e ((mH h.1).mp z),if_neg e];exact h.1
  .by_cases e:q.1=k;.dsimp only;rw[if_pos ((mH h.1).mpr e),if_pos e];exact r
   .dsimp only;rw[if_neg λz=>e ((mH h.1).mp z),if_neg e];exact h.2.1
theorem DR.put{ds}(h:DR H O ws ds)(r:Rep H O v d):DR H O (putK ws (dE k) v) (putD ds k d):=by
 unfold putK putD;rw[DR.any k h];split;.exact DR.store h r
 .exact DR.append h ⟨rfl,r,trivial⟩
theorem DR.mI:∀{kps:List (Key×V)}{tL:List (b_×D)}{ws:List (Key×V)}{ds:List (b_×D)},DR H O kps tL->DR H O ws ds->DR H O (fI kps ws) (mG tL ds)|[],[],_,_,_,h=>h|[],_::_,_,_,h,_=>h.elim|_::_,[],_,_,h,_=>h.elim|p::kps,q::tL,ws,ds,h,h'=>by show DR H O (fI kps (putK ws p.1 p.2)) (mG tL (putD ds q.1 q.2));rw[h.1];exact DR.mI h.2.2 (DR.put h' h.2.1)
noncomputable def fu:D->Option b_|.int i=>some (.inl i)|.str x=>some (.inr x)|_=>none
theorem Dt(h:fu d=some k)(r:Rep H O v d):v=kV (dE k):=by cases d<;>simp[fu]at h<;>subst h<;>cases r<;>rfl
theorem Du(h:fu d=some k)(r:cw c Z Y H v d):v=kV (dE k):=by
 rcases r with r|⟨a,rfl,r⟩;.exact Dt h r
 .cases d<;>simp[fu]at h<;>exact r.elim
noncomputable def jz:List D->Option (List (b_×D))
 |[]=>some []|.tup [k,v]::r=>match fu k,jz r with|some k',some r'=>some ((k',v)::r')|_,_=>none
 |_::_=>none
noncomputable def jA:D->Option S|.lst ds=>(jz ds).bind λps=>if ps.length<=W7 then some (.own (.bP (mG ps [])))else none|.tup ds=>(jz ds).bind λps=>if ps.length<=W7 then some (.own (.bP (mG ps [])))else none|_=>none
universe H in theorem wW:∀{ds:List D}{vs:List V}{ps:List (b_×D)},jz ds=some ps->aG H O vs ds->∃kps,tK H vs kps/\DR H O kps ps/\kps.length=ps.length
 |[],[],ps,h,_=>by simp[jz]at h;subst h;exact⟨[],⟨rfl,λi y kv e=>by simp at e⟩,trivial,rfl⟩|[],_::_,_,_,r=>by have:=r.1;simp at this|_::_,[],_,_,r=>by have:=r.1;simp at this|d::ds,v::vs,ps,h,r=>by
  unfold jz at h;split at h;.grind
  .rename_i k w r' heq;cases heq;split at h;.rename_i k' r'' hk hr;cases h;obtain⟨kps,hP,hD,hL⟩:=wW hr r.tail;have rp:=r.head;cases rp with|tup h1 h2 h3 h4=>rename_i a us;rcases us with _|⟨x,_|⟨y,_|_⟩⟩<;>cases h3;have rk:=h4 0 x k rfl rfl;have rv:=h4 1 y w rfl rfl;have ek:=Dt hk rk;subst ek;refine⟨(dE k',y)::kps,⟨#v[hP.1],λi z kv e1 e2=>?_⟩,⟨rfl,rv,hD⟩,#v[hL]⟩;cases i with|zero=>simp at e1 e2;subst e1 e2;exact⟨a,rfl,h2⟩|succ i=>exact hP.2 i z kv (~~~e1) (~~~e2)
   .cases h
  .cases h
theorem aL.Dv{ds}(k:Ok c Z Y H)(hp:H p=none)(r:DR H (Av c Z Y) ws ds):aL c Z Y H (upd H p (.dK ws)) (.ref p) (.own (.bP ds)):=by
 have up:∀a w,H a=some w->upd H p (.dK ws) a=some w:=λa w e=>%[ba (fj e hp)|e];have r1:DR (upd H p (.dK ws)) (Av (c.plus p) Z Y) ws ds:=r.map λv d h=>(h.aS λb z=>by
 rcases z with(z|z)|z;.exact .inl (.inl z)
 .exact .inr %[z|hp]
 .exact .inl (.inr z)).keep λb w e j=>up b w e;exact⟨p,rfl,⟨ws,cz,r1.keys,r1.vals⟩,λz=>k.i5 hp (.inl z),k.j5 hp,k.plus hp _,hp⟩
section
variable{c:Fc}
theorem Dw:QH "dict"=some (.type "dict"):=by decide+kernel
universe H in theorem Py(hc:X.calm=true)(hg:Gl X "dict")(hm:X.mg "dict"=none)(he:SB X c e fb)(hs:kh e=true:=by rfl):SE X c (.Call (.Name "dict" pp) [e] [] pos) (ay jA fb):=nK (r:=λv H Q=>∃p ys kps,v=.ref p/\(H p=some (.tup ys)\/Rd H p (.lst ys))/\tK H ys kps/\kps.length<=W7/\∀l,H l=none->Q (.ref l) (upd H l (.dK (fI kps [])))) (Pw hc) (λv H Q⟨p,ys,kps,e,h⟩=>⟨p,ys,kps,by rw[e],h⟩) (λc Z Y H x d s Q k rx hp q=>by cases d with
 |lst ds=>simp only[jA]at hp;cases fJ:jz ds with|none=>rw[fJ]at hp;cases hp|some ps=>
 rw[fJ]at hp;simp only[WO]at hp;split at hp;.rename_i hz;cases hp;obtain⟨a,vs,ex,ha,r⟩:=rx.lst;obtain⟨kps,hP,hD,hL⟩:=wW fJ r;exact⟨a,vs,kps,ex,.inr ha,hP,%[hL|hz],λl hl=>q _ _ (.alloc k hl _) (aL.Dv k hl (DR.mI hD (ws:=[]) (ds:=[]) trivial))⟩
 .cases hp|tup ds=>simp only[jA]at hp;cases fJ:jz ds with|none=>rw[fJ]at hp;cases hp|some ps=>
 rw[fJ]at hp;simp only[WO]at hp;split at hp;.rename_i hz;cases hp;obtain⟨a,vs,ex,ha,r⟩:=rx.tup;obtain⟨kps,hP,hD,hL⟩:=wW fJ r;exact⟨a,vs,kps,ex,.inl ha,hP,%[hL|hz],λl hl=>q _ _ (.alloc k hl _) (aL.Dv k hl (DR.mI hD (ws:=[]) (ds:=[]) trivial))⟩
 .cases hp|_=>simp[jA]at hp) hg hm Dw he Z' Z' (lj hs)
end
theorem Dx{ds}(r:cw c Z Y H v (.bP ds)):∃a ws,v=.ref a/\H a=some (.dK ws)/\DR H (Av c Z Y) ws ds:=by obtain⟨a,ws,e,h,k1,k2⟩:=r.bP;exact⟨a,ws,e,h,DR.of k1 k2⟩
def wX(neg:Bool):R2:=λx y H Q=>∃a ao k,y=.ref a/\H a=some (.dK ao)/\x=kV k/\Q (.bl (if neg then !(fR ao k).isSome else(fR ao k).isSome)) H
theorem Pz(hu:X.A.units+64<WK):a_ X (WC .In) (wX false):=by intro pins s Z H x y v u Q I rx ry h;obtain⟨a,ao,k,rfl,ha,rfl,q⟩:=h;cases ry;exact LV Y' I (kU.k ha) rx λs' I'=>⟨.bl _,H,I',rfl,q⟩
theorem PB(hu:X.A.units+64<WK):a_ X (WC .NotIn) (wX true):=by intro pins s Z H x y v u Q I rx ry h;obtain⟨a,ao,k,rfl,ha,rfl,q⟩:=h;cases ry;exact LW Y' I (kU.k ha) rx λs' I'=>⟨.bl _,H,I',rfl,q⟩
def wY(K:W2)(neg:Bool):R2:=λx y H Q=>wX neg x y H Q\/vx K neg x y H Q\/∃i j,x=.str i/\y=.str j/\Q (.bl (if neg then !!(JA j i 0 j.length 1).isEmpty else !(JA j i 0 j.length 1).isEmpty)) H
theorem PC{X:Cx}(hu:X.A.units+64<WK):a_ X (WC .In) (wY X.K false):=(Pz hu).or (Lz.or KG)
theorem Dy{X:Cx}(hu:X.A.units+64<WK):a_ X (WC .NotIn) (wY X.K true):=(PB hu).or (LA.or KH)
noncomputable def eW(neg:Bool)(x y:D):Option S:=match y with
 |.bP ds=>(fu x).map λk=>.pure (.bl (if neg then !(dZ ds k).isSome else(dZ ds k).isSome))|.str y=>match x with|.str [n]=>0#(.bl (if neg then !decide (n∈y)else decide (n∈y)))|_=>none
 |.lst ds=>match x,cO ds with|.str z,some ts=>0#(.bl (if neg then !ts.contains z else ts.contains z))|_,_=>none
 |.tup ds=>match x,cO ds with|.str z,some ts=>0#(.bl (if neg then !ts.contains z else ts.contains z))|_,_=>none
 |_=>none
theorem Dz(z:Tx)(ts:List Tx):rX (V.str (toS z)) (ts.map λz=>V.str (toS z))=ts.contains z:=by unfold rX;rw[List.any_map];induction ts with|nil=>rfl|cons t r ih=>rw[QJ,U9,ih];congr 1;show(toS t==toS z)=(z==t);rw[pk,Bool.beq_comm]
theorem DB(ts:List Tx):(ts.map λz=>V.str (toS z)).all jW=true:=by rw[Ur];exact List.all_eq_true.mpr λj j=>rfl
universe H in theorem wZ{K:W2}(neg:Bool):bV (wY K neg) (eW neg):=by
 intro c Z Y H x y d e s Q k rx ry hp q;cases e<;>first|(simp[eW]at hp;done)|skip
 .rename_i z;simp only[eW]at hp;split at hp<;>first|(cases hp;done)|skip
  rename_i n;cases hp;refine .inr (.inr ⟨toS [n],toS z,rx.str,ry.str,?_⟩);rw[show toS [n]=⟨#[n]⟩from rfl,PySem.StrLaws.found_one,show(toS z).cps.toList=z by simp[toS]];exact q _ H (.refl k) (.bl _)
 .rename_i ds;simp only[eW]at hp;split at hp<;>first|(cases hp;done)|skip
  rename_i z ts ht;cases hp;obtain⟨a,vs,ea,ha,r⟩:=ry.tup;have ev:=sR ht r;refine .inr (.inl ⟨a,vs,ea,.inr (.of ha),by rw[rx.str];rfl,%[ev|DB ts],?_⟩);rw[rx.str,ev,Dz];exact q _ H (.refl k) (.bl _)
 .rename_i ds;simp only[eW]at hp;split at hp<;>first|(cases hp;done)|skip
  rename_i z ts ht;cases hp;obtain⟨a,vs,ea,ha,r⟩:=ry.lst;have ev:=sR ht r;refine .inr (.inl ⟨a,vs,ea,.inl (.inl ha),by rw[rx.str];rfl,%[ev|DB ts],?_⟩);rw[rx.str,ev,Dz];exact q _ H (.refl k) (.bl _)
 .rename_i ds;simp only[eW]at hp;cases hk:fu d with|none=>rw[hk]at hp;cases hp|some kk=>
   rw[hk]at hp;cases hp;obtain⟨a,ws,ea,ha,dr⟩:=Dx ry;refine .inl ⟨a,ws,dE kk,ea,ha,Du hk rx,?_⟩;have:(fR ws (dE kk)).isSome=(dZ ds kk).isSome:=by
    rcases dr.val kk with⟨e1,e2⟩|⟨v,d,e1,e2,_⟩;.rw[e1,e2];rfl
    .rw[e1,e2];rfl
   rw[this];exact q _ H (.refl k) (.bl _)
def w4:R2:=λx y H Q=>∃a ao k v,x=.ref a/\H a=some (.dK ao)/\y=kV k/\fR ao k=some v/\Q v H
noncomputable def jB:D->D->Option S|.bP ds,k=>(fu k).bind λk=>(dZ ds k).map .pure|x,y=>aC x y
theorem PD(hu:X.A.units+64<WK):gW X w4:=by intro value slice pins s Z H x y v u Q I rx ry h hs;obtain⟨a,ao,k,w,rfl,ha,rfl,hv,q⟩:=h;cases rx;obtain⟨_,_,vs,_,dd⟩:=Bw I.aB ha;have hT:s.TypeIs (.ref a) "dict":=dd.typeIs;exact tail_any hT F.slot_dict_getitem.lookup (LU (v:=w) Y' I (by rw[<-hv];exact kU.k ha) ry λw' s' I' bU=>⟨w,H,I',bU,q⟩) hs
theorem PF:bV (λx y H Q=>w4 x y H Q\/rW K x y H Q) jB:=by intro c Z Y H x y d e s Q k rx ry hp q;cases d with
 |bP ds=>simp only[jB]at hp;cases hk:fu e with|none=>rw[hk]at hp;cases hp|some kk=>
 rw[hk]at hp;simp only[WO,Qz]at hp;obtain⟨dv,hv,rfl⟩:=hp;obtain⟨a,ws,ea,ha,dr⟩:=Dx rx;rcases dr.val kk with⟨e1,e2⟩|⟨v,d',e1,e2,r⟩;.grind
 .rw[e1]at hv;cases hv;exact .inl ⟨a,ws,dE kk,v,ea,ha,Du hk ry,e2,q v H (.refl k) r⟩
 |_=>exact .inr (wc c Z Y H x y _ e s Q k rx ry hp q)
theorem PH(n:Nat):QD none none (-1) (n:Int)=((n:Int)-1,-1):=by unfold QD;simp
theorem PJ(n:Nat):Qe ((n:Int)-1) (-1) (-1)=n:=by unfold Qe;simp;try lia
theorem PK{t:Tok}{Q:Int×Int×Nat->W1->Prop}(hs:s.heap.IsSliceOf sl .none .none (.int (-1) t))(h:Q ((n:Int)-1,-1,n) s):W8 4#0 A (Jm (.ref sl) (pure (n:Int))) Q E s:=by obtain⟨os,hos,hcs,hds⟩:=id hs;unfold Jm Builtin.Slice.sliceFields;refine W0 (W0 (QM hos hds (x:=.none) rfl (W0 (QM hos hds (x:=.none) rfl (W0 (QM hos hds (x:=.int (-1) t) rfl (W3 ?_)))))));refine W0 (slicePart_int ?_);show W8 _ _ (if((-1:Int)==0)=true then _ else _) _ _ s;rw[if_neg Z'];refine W0 (slicePart_none (W0 (slicePart_none (W0 (W3 ?_)))));show W8 _ _ (match QD none none (-1) (n:Int)with|(lo,hi)=>pure (lo,(-1:Int),Qe lo hi (-1))) _ _ s;rw[PH n];show W8 _ _ (pure ((n:Int)-1,(-1:Int),Qe ((n:Int)-1) (-1) (-1))) _ _ s;rw[PJ];exact W3 h
theorem DC{f}:∀{l:List α},(∀x∈l,f x=g x)->l.filterMap f=l.filterMap g|[],_=>rfl|x::l,h=>by rw[Jz,Jz,h x Zw,DC λy hy=>h y #v[hy]]
theorem PL(xs:Array Value):((Wl xs.size).filterMap λ(m:Nat)=>xs[(((xs.size:Int)-1)+(m:Int)*-1).toNat]?).toArray=xs.toList.reverse.toArray:=by
 have e:((Wl xs.size).filterMap λ(m:Nat)=>xs[(((xs.size:Int)-1)+(m:Int)*-1).toNat]?)=((Wl xs.size).map λk=>xs.size-1-k).filterMap (xs[.]?):=by
  rw[List.filterMap_map];refine DC λm hm=>?_;have:(((xs.size:Int)-1)+(m:Int)*-1).toNat=xs.size-1-m:=by have:=List.mem_range.mp hm;lia
  simp only[this,Function.comp]
 rw[e,PySem.W.krv_range,List.filterMap_reverse,PySem.W.krv_all]
theorem PM(ht:IsTup s.heap t items)(hs:s.heap.IsSliceOf sl .none .none (.int (-1) tk))(h:Q (.ref s.heap.objs.size) 9#(s.heap.push {cls:=.type "tuple",data:=.seq items.toList.reverse.toArray}))(hsz:items.size<=W7):W8 4#0 A (JV (.ref t) (.ref sl)) Q E s:=by
 have jV:sizeOk (.seq items.toList.reverse.toArray):=by show items.toList.reverse.toArray.size<=W7;simpa using hsz
 obtain⟨os,hos,hcs,hds⟩:=id hs;have oR:s.TypeIs (.ref sl) "slice":=⟨os,hos,hcs⟩;unfold JV;try with_reducible refine WP ?_
 first|refine W0 (W3 ?_)|skip
 refine W0 (Ue ht.typeIs Z' ?_);refine W0 (Qu (name:=Str.ofString "__getitem__") ht.typeIs Qj (Qm Qj ht.typeIs entry_tuple_getitem ?_ (args_tuple_getitem _ _)));show W8 _ _ (Jn (.ref t)>>=_) _ _ s;refine W0 (tupleItemsOf_ ht ?_);refine W0 (QX oR ?_);rw[if_pos Z'];refine W0 (PK hs ?_);have dh:¬(((items.size:Int)-1)==0&&(-1:Int)==1&&items.size==items.size)=true:=by intro q;rw[Wn,Wn]at q;exact absurd q.1.2 Z'
 show W8 _ _ (if(((items.size:Int)-1)==0&&(-1:Int)==1&&items.size==items.size)=true then _ else _) _ _ s;rw[if_neg dh,PL];first|exact W0 (m:=Qg _) (Q5 (W3 ⟨_,rfl,W3 h⟩) jV)|exact W0 (m:=Qg _) (Q5 (W0 (W3 (W3 ⟨_,rfl,W3 h⟩))) jV)|exact W0 (W0 (m:=Qg _) (Q5 (W3 (W3 ⟨_,rfl,W3 h⟩)) jV))|exact W0 (W0 (m:=Qg _) (Q5 (W3 ⟨_,rfl,W3 h⟩) jV))
theorem PN:kZ X λx H Q=>∃a xs,x=.ref a/\cA X.K H a xs/\∀p,H p=none->Q (.ref p) (upd H p (.tup xs.reverse)):=by intro pins s Z H x v t sl Q I rx hs h;obtain⟨a,xs,rfl,hx,q⟩:=h;cases rx;obtain⟨af,r,ht,hz⟩:=I.tuple hx;have hlen:=r.length;refine⟨"tuple",_,PyProof.Rows.slot_tuple_getitem.lookup,ht.typeIs,?_⟩;refine PM ht hs ?_ (by rw[We];lia);refine⟨.ref s.heap.objs.size,_,I.laid (t':=s.toks) (o:=.tup xs.reverse) (λb ob q=>W6 _ q) (W5 _) ?_,rfl,q _ (I.aB.fresh (W5 _))⟩;exact⟨%[JY|hz],_,r.reverse,ip.new _ _⟩
section
variable{c:Fc}{p2:Pos}
noncomputable def jf:D->Option S|.tup ds=>0#(.tup ds.reverse)|d=>sT d
def PQ(K:W2):V->Hp->VK->Prop:=λx H Q=>(∃a xs,x=.ref a/\cA K H a xs/\∀p,H p=none->Q (.ref p) (upd H p (.tup xs.reverse)))\/NW K x H Q
universe H in theorem PR{st:Expr}(he:SB X c e fb)(cL:PE X st (tC (.int (-1)))):SE X c (.Subscript e (.Slice none none (some st) p2) pos) (ay jf fb):=PE.weak (M4 (r:=PQ X.K) (PN.or (M7.or M8)) he cL) λZ H Q h=>mB (λc Z Y H x d s Q k rx hp q=>by cases d with
 |tup ds=>simp only[jf,Wb]at hp;subst hp;obtain⟨a,vs,ea,ha,ra⟩:=rx.tup;exact .inl ⟨a,vs,ea,.of ha,λp hp=>q _ _ (.alloc k hp _) (aL.mr k ra.reverse hp)⟩|str z=>
 simp only[jf,sT]at hp;split at hp;.rename_i hz;simp only[Wb]at hp;subst hp;exact .inr (.inl ⟨z,rx.str,hz,q _ H (.refl k) (.str _)⟩)
 .cases hp|lst ds=>simp only[jf,sT,Wb]at hp;subst hp;obtain⟨a,vs,ea,ha,ra⟩:=rx.lst;exact .inr (.inr ⟨a,vs,ea,.inl ha,λp hp=>q _ _ (.alloc k hp _) (aL.i6 k ra.reverse hp)⟩)|_=>simp[jf,sT]at hp) h
noncomputable def nS:D->Option S|.int i=>0#(.int (-i))|_=>none
theorem PU(he:SB X c e fb):SE X c (.UnaryOp .USub e pos) (ay nS fb):=PE.weak (AI AO he) λZ H Q h=>mB (λc Z Y H x d s Q k rx hp q=>by cases d with|int i=>simp only[nS,Wb]at hp;subst hp;exact⟨i,rx.int,q _ H (.refl k) (.int _)⟩|_=>simp[nS]at hp) h
end
section
variable{c:Fc}{a:Addr}
universe H in theorem Own.unset(h:Own Z (Y.set i none) b):Own Z Y b:=by
 obtain⟨j,d',e1,e2⟩:=h;by_cases hj:i=j
 .subst hj;rw[Q6]at e1;split at e1;.split at e1<;>cases e1
  .rename_i q;exact absurd rfl q
 .rw[Wc hj]at e1;exact⟨j,d',e1,e2⟩
end
def ZD(i:Nat)(g:DG)(b:DS):DS:=λY=>match Y[i]? with
 |some (some (.own (.lst ds)))=>(forL g b ds (Y.set i none)).bind λfl P3=>match fl with|.ret (.own _)=>.stuck|fl=>.ok fl (P3.set i (some (.own (.lst ds))))
 |_=>.stuck
section
variable{c:Fc}{g:DG}{b:DS}
def w8(np:List Nat)(i:Nat):DS:=λY=>match Y[i]? with|some (some (.own d))=>if np.contains i||!np.all (cG Y)then .ok (.ret (.pure d)) (Y.set i 0#d)else .ok (.ret (.own d)) (Y.set i none)|some 0#d=>.ok (.ret (.pure d)) Y|_=>.stuck
universe H in theorem PV(eU:Np c np)(he:PE X e (dz i)):SS X c (.Return (some e) pos) (w8 np i):=PS.weak (Au he) λD Z H⟨Y,k,q⟩=>by
 unfold w8 dq at q;split at q
 .rename_i d e;obtain⟨a,ea,oa,ia,nb⟩:=k.own i d e;refine⟨.ref a,ea,?_⟩;split at q;.obtain⟨a',ea',x,r⟩:=k.give e;rw[ea]at ea';cases ea';exact q Z H x _ r
  .rename_i hc;simp only[Bool.or_eq_true,not_or,Bool.not_eq_true,Bool.not_eq_false',WV]at hc;obtain⟨hc1,hc2⟩:=hc;have nI:¬c.I a:=λ⟨j,z⟩=>by
    have z1:=eU (j,a) z;have z2:=k.pinned (j,a) z;have z3:=hc2 j (~~~z1);unfold cG at z3;split at z3;.rename_i d' ej;have:=k.inj i j a _ _ e ej ea z2;grind
    .cases z3
   have h0:c.H₀ a=none:=ia.resolve_left nI;have hi:i<Y.length:=(Wd.mp e).1;have ne:∀j d,(Y.set i none)[j]?=some (some d)->i≠j/\Y[j]?=some (some d):=λj d q=>by
    by_cases hj:i=j;.subst hj;rw[WB hi]at q;cases q
    .rw[Wc hj]at q;exact⟨hj,q⟩
   have sub:∀b,Av (c.plus a) Z (Y.set i none) b->Av c Z Y b:=λb z=>by
    rcases z with(z|z)|z;.exact .inl z
    .subst z;exact .inr ⟨i,_,e,ea⟩
    .exact .inr z.unset
   have kp:Ok (c.plus a) Z (Y.set i none) H:=by
    refine⟨k.keep,λb z=>?_,k.dj,%[QY|k.len],λj d q=>?_,λj d q=>?_,λj l b d d' q1 q2=>k.inj j l b d d' (ne j _ q1).2 (ne l _ q2).2,k.pinned⟩
    .rcases z with z|z;.exact k.bd b z
     .subst z;exact k.vU ⟨i,_,e,ea⟩
    .obtain⟨_,q⟩:=ne j _ q;obtain⟨v,g1,g2⟩:=k.slot j d q;exact⟨v,g1,g2.aS λb z=>.inl (sub b z)⟩
    .obtain⟨hj,q⟩:=ne j _ q;obtain⟨b,g1,g2,g3,g4⟩:=k.own j d q;refine⟨b,g1,g2.aS λb z=>.inl (sub b z),g3,λz=>?_⟩;rcases z with z|z;.exact g4 z
     .subst z;exact hj (k.inj i j b _ _ e q ea g1)
   have x:aK c Z Y H Z (Y.set i none) H:=by
    refine⟨⟨k.keep,k.bd,k.dj,%[QY|k.len],λj d q=>?_,λj d q=>?_,λj l b d d' q1 q2=>k.inj j l b d d' (ne j _ q1).2 (ne l _ q2).2,k.pinned⟩,λ_ _ w _=>w,λb z=>.inl z.unset,λ_ o w=>⟨o,w⟩⟩;.obtain⟨_,q⟩:=ne j _ q;obtain⟨v,g1,g2⟩:=k.slot j d q;exact⟨v,g1,g2.aS λb z=>.inl (z.elim .inl λz=>.inr z.unset)⟩
    .obtain⟨hj,q⟩:=ne j _ q;obtain⟨b,g1,g2,g3,g4⟩:=k.own j d q;exact⟨b,g1,g2.aS λb z=>.inl (z.elim .inl λz=>.inr z.unset),g3,g4⟩
   exact q Z H x _ ⟨a,rfl,oa.aS λb z=>.inl (sub b z),nb,h0,kp,h0⟩
 .rename_i d e;obtain⟨v,e1,r⟩:=k.slot i d e;exact⟨v,e1,q Z H (.refl k) v r⟩
 .exact q.elim
end
theorem PX(hu:X.A.units+64<WK):gW X λx y H Q=>w4 x y H Q\/rW X.K x y H Q:=(PD hu).or vw
section
variable{c:Fc}
noncomputable def tM:D->D->Option S|.int i,.int j=>0#(.int (if j<i then j else i))|_,_=>none
def iE(f g:DE):DE:=λY=>(f Y).bind λx SL=>(g SL).bind λy PP=>p2 tM x.d y.d PP
universe H in theorem PY{a b:Expr}{f g:DE}(hc:X.calm=true)(hg:Gl X "min")(hm:X.mg "min"=none)(ha:SE X c a f)(hb:SE X c b g)(hs:Wa [a,b] X.env=(false,eval a X.env)::Wa [b] X.env:=by rfl)(wk:Wa [b] X.env=(false,eval b X.env)::Wa [] X.env:=by rfl)(bT:(Qp pos (Wa [b] X.env)).any (·.1)=false:=by rfl):SE X c (.Call (.Name "min" pp) [a,b] [] pos) (iE f g):=PE.weak (nA (KO hc) hg hm PyProof.Rows.boot_min (dX ha (dX hb f_ wk) hs) Z' Z' hs bT) λZ H Q⟨Y,k,q⟩=>by
 unfold iE at q;rw[bo]at q;refine⟨Y,k,aM q λx SL q1 v H1 a1 r1=>⟨SL,a1.ok,?_⟩⟩;rw[bo]at q1;refine aM q1 λy PP q2 u H2 a2 r2=>?_;unfold p2 at q2;have hx:cw c Z PP H2 v x.d:=.inl (Rep.da r1.rep a2);have hy:=r2.b;generalize x.d=dx at q2 hx;generalize y.d=dy at q2 hy;cases dx<;>first|exact q2.elim|skip
 cases dy<;>first|exact q2.elim|skip
 rename_i i j;obtain⟨i',e1⟩:∃i',v=.int i':=hx.elim (λh=>by cases h;exact⟨_,rfl⟩) λ⟨_,_,h⟩=>h.elim;subst e1;have e2:i'=i:=hx.elim λh=>by cases h;rfl λ⟨_,_,h⟩=>h.elim;obtain⟨j',e3⟩:∃j',u=.int j':=hy.elim (λh=>by cases h;exact⟨_,rfl⟩) λ⟨_,_,h⟩=>h.elim;subst e3;have e4:j'=j:=hy.elim λh=>by cases h;rfl λ⟨_,_,h⟩=>h.elim;subst e2 e4;exact⟨i',j',rfl,q2 _ H2 (a1.trans a2) (.int _)⟩
end
def iF(h:Heap)(a C T:Addr)(dx:Option Addr)(fl:Value):Prop:=∃vs sl oT ts a0,h.get? a=some ⟨.ref C,dx,.fields vs,sl⟩/\vs[0]?=some a0/\vs[1]?=some (.ref T)/\T≠a/\h.get? T=some oT/\oT.data=.fields ts/\ts[3]?=some fl
structure w_(h h':Heap)(fs:List Addr)(a T:Addr)(old:Value):Prop where
 new:h.get? T=none
 keep:∀b o,h.get? b=some o->b≠a->old≠.ref b->b∉fs->h'.get? b=some o
 frame:∀b o,h.get? b=some o->(∀vs,o.data≠.fields vs)->∃sl,h'.get? b=some {o with slots:=sl}
theorem DD{vs sl}(cZ:A.frames=some (env::outer))(hl:s.heap.FunFrames base (env::outer))(hf:env.frame=some L)(he:s.heap.get? a=some ⟨.ref C,dx,.fields vs,sl⟩)(h0:vs[0]?=some a0)(h1:1<vs.size)(q:∀h' T,iF h' a C T dx (QU L)->w_ s.heap h' ((env::outer).filterMap (·.frame)) a T .none->Q () 9#h'):W8 M A (do let x<-frameOf env;let pl<-entryPlaceOf L b0;let y<-EntryCells.newEntry head x .none (QU L) .none pl;setField (.ref a) 1 y) Q E s:=by
 have na:a∉(env::outer).filterMap (·.frame):=λz=>by obtain⟨_,o,g1,g2⟩:=hl.mem z;rw[he]at g1;cases g1;exact g2 vs rfl
 refine W0 (wpAny_frameOf_fun cZ hl hf λhA k=>W0 (wpAny_entryPlaceOf λpl bT=>?_));unfold EntryCells.newEntry newFields;refine W0 (Q5 ?_ (bT.sizeOk5 _ _ _ _ _));have eA:hA.get? a=some ⟨.ref C,dx,.fields vs,sl⟩:=(k.2.1 a na).trans he;generalize jC:([head,.ref L,.none,QU L,.none]++if pl.isEmpty then W9 6 Value.none else pl).toArray=ts;have t3:ts[3]?=some (QU L):=by rw[<-jC];rcases bT with rfl|⟨_,_,_,_,_,_,_,rfl⟩<;>simp
 have eB:=W6 (h:=hA) {cls:=.type "traceback",dict:=none,data:=.fields ts} eA;have nT:hA.objs.size≠a:=Nat.ne_of_gt (Wm eA);refine Ud eB rfl h1 (q _ hA.objs.size ⟨vs.setIfInBounds 1 (.ref hA.objs.size),sl,{cls:=.type "traceback",dict:=none,data:=.fields ts},ts,a0,?_,?_,?_,nT,?_,rfl,t3⟩ ⟨?_,λb o e n j nf=>?_,λb o e d=>?_⟩);.exact Qs _ eB rfl
 .rw[Array.getElem?_setIfInBounds_ne Z'];exact h0
 .simp[h1]
 .rw[Qf _ _ (Ne.symm nT)];exact Wv hA rfl
 .cases z:s.heap.get? hA.objs.size with|none=>rfl|some o=>obtain⟨sl',z'⟩:=k.2.2 _ o z;exact absurd (Wm z') (QO _)
 .rw[Qf _ _ (Ne.symm n)];exact W6 _ ((k.2.1 b nf).trans e)
 .have nb:b≠a:=λz=>by rw[z,he]at e;cases e;exact d vs rfl
  obtain⟨sl',z⟩:=k.2.2 b o e;exact⟨sl',%[Qf _ _ (Ne.symm nb)|W6 _ z]⟩
theorem PZ{vs sl}(cZ:A.frames=some (env::outer))(hl:s.heap.FunFrames base (env::outer))(hf:env.frame=some L)(he:s.heap.get? a=some ⟨.ref C,dx,.fields vs,sl⟩)(h0:vs[0]?=some a0)(h1:vs[1]?=some .none)(q:∀h' T,iF h' a C T dx (QU L)->w_ s.heap h' ((env::outer).filterMap (·.frame)) a T .none->Q () 9#h'):W8 M A (U6 (.ref a) env) Q E s:=by unfold U6;simp only[hf];refine W0 (QM he rfl h1 ?_);rw[if_neg Z'];exact DD cZ hl hf he h0 (Jo.mp h1).1 q
theorem P0(cZ:A.frames=some (env::outer))(hl:s.heap.FunFrames base (env::outer))(hf:env.frame=some L)(hx:iF s.heap a C T₀ dx .none)(q:∀h' T,iF h' a C T dx (QU L)->w_ s.heap h' ((env::outer).filterMap (·.frame)) a T (.ref T₀)->Q () 9#h'):W8 M A (U6 (.ref a) env) Q E s:=by
 obtain⟨vs,sl,oT,ts,a0,e1,e2,e3,e4,e5,e6,e7⟩:=hx;unfold U6;simp only[hf];refine W0 (QM e1 rfl e3 ?_);rw[if_pos Zw];refine W0 (QM e5 e6 e7 ?_);rw[if_neg #v[QU]];refine W0 (Ud e5 e6 (Jo.mp e7).1 ?_);have lA:∀b,b≠T₀->(s.heap.update T₀ (Obj.mapFields (·.setIfInBounds 3 Value.none))).get? b=s.heap.get? b:=λb n=>Qf _ _ (Ne.symm n);have DH:∀b o,s.heap.get? b=some o->(∀us,o.data≠.fields us)->b≠T₀:=λb o e d z=>by rw[z,e5]at e;cases e;exact d ts e6
 refine DD (s:=9#(s.heap.update T₀ (Obj.mapFields (·.setIfInBounds 3 Value.none)))) cZ (hl.of_keeps λb o e d=>⟨o,(lA b (DH b o e d)).trans e,rfl⟩) hf ((lA a (Ne.symm e4)).trans e1) e2 (Jo.mp e3).1 λh' T f n=>q h' T f ⟨?_,λb o e n1 n2 n3=>?_,λb o e d=>n.frame b o ((lA b (DH b o e d)).trans e) d⟩
 .have:=n.new;by_cases z:T=T₀;.exfalso;rw[z]at this;have g:=Qs (h:=s.heap) (Obj.mapFields (·.setIfInBounds 3 Value.none)) e5 (Obj.isFreed_of_fields (Obj.data_mapFields e6 _));rw[this]at g;cases g
  .exact(lA T z).symm.trans this
 .exact n.keep b o ((lA b λz=>n2 (by rw[z])).trans e) n1 Zw n3
theorem P1{a T:Addr}{Q:Unit->W1->Prop}(hf:env.frame=some L)(hx:iF s.heap a C T dx (QU L))(q:Q () s):W8 M A (U6 (.ref a) env) Q E s:=by obtain⟨vs,sl,oT,ts,a0,e1,e2,e3,e4,e5,e6,e7⟩:=hx;unfold U6;simp only[hf];refine W0 (QM e1 rfl e3 ?_);rw[if_pos Zw];refine W0 (QM e5 e6 e7 ?_);rw[if_pos Zw];exact W3 q
theorem P2{fl}(hx:iF s.heap a C T dx fl)(q:∀h',iF h' a C T dx (o.elim .none λf=>QU f)->(∀b,b≠T->h'.get? b=s.heap.get? b)->Q () 9#h'):W8 M A (setFlight (.ref a) o) Q E s:=by obtain⟨vs,sl,oT,ts,a0,e1,e2,e3,e4,e5,e6,e7⟩:=hx;have hi:=(Jo.mp e7).1;have lA:∀b,b≠T->(s.heap.update T (Obj.mapFields (·.setIfInBounds 3 (o.elim Value.none λf=>QU f)))).get? b=s.heap.get? b:=λb n=>Qf _ _ (Ne.symm n);unfold setFlight;refine W0 (QM e1 rfl e3 ?_);rw[if_pos Zw];exact Ud e5 e6 hi (q _ ⟨vs,sl,_,_,a0,(lA a (Ne.symm e4)).trans e1,e2,e3,e4,Qs _ e5 (Obj.isFreed_of_fields (Obj.data_mapFields e6 _)),Obj.data_mapFields e6 _,#v[hi]⟩ lA)
abbrev ki:List Value:=[.type "ValueError",.type "Exception",.type "BaseException",.type "object"]
def xa(K:W2)(C:Addr):Bool:=match K.lookup C with|none=>false|some o=>match o.data with
 |.cls cd=>match cd.mro with|[]=>false|m::bm=>m==.ref C&&PySem.W.tailIn K ki bm&&o.cls==.type "type"&&o.slots==#[o.slots.getD 0 none,o.slots.getD 1 none,o.slots.getD 2 none,o.slots.getD 3 none,some (.builtin "ValueError.__new__"),o.slots.getD 5 none]&&!cd.hasDel&&PySem.W.nsOkIn K cd.ns&&PySem.W.nsIn K cd.ns "__init__"==some none
 |_=>false
def mJ(K:W2)(C:Addr):Prop:=xa K C=true
theorem mJ.obj{h:Heap}(q:mJ K C)(X:K.In h):∃(bm:List Value)(N:Addr)(nm qn:Str)(bs:List Value)(g8:Bool)(sn:List Str)(sub:List Value)(ab:Bool)(col:Option Bool)(dd:Option Addr)(k0 k1 k2 k3 k5:Option Value)(mN:Str->Option Value),h.get? C=some (excClassObj nm qn C N bs bm g8 sn sub ab col dd k0 k1 k2 k3 k5 "ValueError.__new__")/\h.Ns N mN/\mN "__init__"=none/\OwnTail h ki bm:=by unfold mJ xa at q;cases lk:K.lookup C with|none=>rw[lk]at q;cases q|some o=>rw[lk]at q;obtain⟨cl,dd,data,sl⟩:=o;cases data with
 |cls cd=>obtain⟨nm,bs,mro,ns,qn,hd,sn,sub,ab,col,del⟩:=cd;cases mro with|nil=>cases q|cons m bm=>simp only[Wn,beq_iff_eq,JI]at q;obtain⟨⟨⟨⟨⟨⟨rfl,c4⟩,rfl⟩,c1⟩,rfl⟩,c5⟩,c6⟩:=q;rw[c1]at lk;exact⟨bm,_,_,_,_,_,_,_,_,_,dd,_,_,_,_,_,_,X _ _ lk,.of_isNs (PySem.W.isNs_of_in X c5),PySem.W.nsMap_none_of_in X c5 c6,PySem.W.tail_of_in X c4⟩
 |_=>cases q
def kj(P:Wk)(w:Wx):iw:=λouter H s E v s'=>∃(a C T:Addr)(dx:Option Addr)(H':Hp),v=.ref a/\s'.os=s.os/\AllBare s'.gens/\Un (eG outer) [] H H' s.heap s'.heap/\ck P w H' s'.heap/\iF s'.heap a C T dx .none/\s.heap.get? a=none/\s.heap.get? T=none/\H' a=none/\H' T=none/\E (.ref C) dx H'
theorem Inv.gone(I:Inv X pins Z H s)(hx:X.ex=[])(e:s.heap.get? b=none):H b=none/\X.s₀.heap.get? b=none:=by
 constructor;.cases q:H b with|none=>rfl|some o=>
   exfalso;have:∃u,s.heap.get? b=some u:=by have z:=I.aB b o q;clear q;induction o with|lst xs=>obtain⟨_,_,_,_,e⟩:=z;exact⟨_,e⟩|tup xs=>obtain⟨_,_,_,_,e⟩:=z;exact⟨_,e⟩|dK ao=>obtain⟨_,_,_,_,_,_,_,e,_⟩:=z;exact⟨_,e⟩|dT ao=>obtain⟨_,_,_,_,_,_,_,e,_⟩:=z;exact⟨_,e⟩|set S n=>obtain⟨_,_,_,_,e,_⟩:=z;exact⟨_,e⟩|ins C dx fs=>obtain⟨_,_,_,e,_⟩:=z;exact⟨_,e⟩|own y=>exact z|xd fs=>obtain⟨_,⟨_,_,_,e,_⟩,_⟩:=z;exact⟨_,e⟩|jP lo hi=>obtain⟨_,_,_,e⟩:=z;exact⟨_,e⟩|frz ob u ih=>exact⟨_,z.1⟩|tbl ps=>exact⟨_,z⟩|ctab pos q=>obtain⟨_,e,_⟩:=z;exact⟨_,e⟩|dN ep ao=>obtain⟨_,_,_,_,e,_⟩:=z;exact⟨_,e⟩|met f y=>exact⟨_,z⟩|ext φ=>exact z.2.1
   obtain⟨u,q⟩:=this;rw[e]at q;cases q
 .cases q:X.s₀.heap.get? b with|none=>rfl|some o=>obtain⟨o',q'⟩:=I.base.there b o q (by rw[hx];simp);rw[e]at q';cases q'
open Sem(wp)
section
variable{g:Array GenState}{d:Drawn}{t:Nat}
variable{nm qn:Str}{N:Addr}{bs bm tN:List Value}{sub:List Value}{col:Option Bool}{k0 k1 k2 k3 k5:Option Value}{B newId DJ:String}
theorem P4{vs}(F:ExcBaseFacts B newId DJ tN)(T:OwnTail hp tN bm)(hC:hp.get? C=some (excClassObj nm qn C N bs bm g8 sn sub ab col dd k0 k1 k2 k3 k5 newId))(hN:hp.Ns N mN)(hi:mN "__init__"=some (.ref f))(hf:hp.get? f=some o)(pZ:o.cls=.type "function")(q:∀h' e,Heap.MadeExcOf hp h' e (.ref C) vs->W8 4#0 A (call (.ref f) (.ref e::vs)) (λr s'=>r=.none/\Q (.done (.ret (.ref e))) s') E ⟨h',g,d,t,os⟩)(hl:vs.length<=W7):W8 4#0 A (Builtin.«type.__call__» ⟨.ref C::vs,[]⟩) Q E ⟨hp,g,d,t,os⟩:=by
 repeat(first|with_reducible refine QA hC ?_|with_reducible refine wpAny_madeBy_exc hC ?_|wp_step)
 refine codeAny_call_builtin_code (Code.quiet_builtin _ F.quiet) (wpAny_check_new_subT F T hC (codeAny_exc_new_subT F T hC ?_ hl));show W8 _ _ _ _ _ _;have up:∀{o1 o2:Obj}{b:Addr}{u:Obj},hp.get? b=some u->((hp.push o1).push o2).get? b=some u:=λe=>W6 _ (W6 _ e);have DK:=up (o1:={cls:=.type "tuple",data:=.seq vs.toArray}) (o2:={cls:=.ref C,data:=.fields #[.ref hp.objs.size,.none,.none,.none,.bool false,.none]}) hC;have P5:=up (o1:={cls:=.type "tuple",data:=.seq vs.toArray}) (o2:={cls:=.ref C,data:=.fields #[.ref hp.objs.size,.none,.none,.none,.bool false,.none]}) hf;have P6:((hp.push {cls:=.type "tuple",data:=.seq vs.toArray}).push {cls:=.ref C,data:=.fields #[.ref hp.objs.size,.none,.none,.none,.bool false,.none]}).Ns N mN:=let⟨o,es,ep,e,r⟩:=hN;⟨o,es,ep,up e,r⟩;have he:((hp.push {cls:=.type "tuple",data:=.seq vs.toArray}).push {cls:=.ref C,data:=.fields #[.ref hp.objs.size,.none,.none,.none,.bool false,.none]}).get? (hp.objs.size+1)=some {cls:=.ref C,data:=.fields #[.ref hp.objs.size,.none,.none,.none,.bool false,.none]}:=by heap_get
 have hc:(Value.ref C::bm).contains (.ref C)=true:=by simp
 have T1:=T.keeps (h':=(hp.push {cls:=.type "tuple",data:=.seq vs.toArray}).push {cls:=.ref C,data:=.fields #[.ref hp.objs.size,.none,.none,.none,.bool false,.none]}) λb o e=>up e;unfold isInstance;repeat(first|with_reducible refine QA he ?_|(with_reducible refine wpAny_isSubtype_exc DK ?_;rw[hc])|wp_step)
 show W8 _ _ (typeLookup (.ref C) _) _ _ _;refine wpAny_typeLookup_tail DK P6 T1 F.mroIs F.init.lookup ?_;rw[hi];refine WP (W0 ?_);unfold bindSpecial;refine W0 (QX (T:="function") ⟨_,P5,pZ⟩ ?_);rw[if_pos Z'];refine W3 (W0 (Q7 (q _ (hp.objs.size+1) ⟨λb o hb=>up hb,JN (Nat.le_succ _),hp.objs.size,he,JN (W5 _),W6 _ (Heap.get?_push_at rfl rfl)⟩) (λr s' hr=>?_) λj j x=>x));obtain⟨rfl,hQ⟩:=hr;wp_walk;exact hQ
theorem P7{vs}(F:ExcBaseFacts B newId DJ tN)(T:OwnTail hp tN bm)(hC:hp.get? C=some (excClassObj nm qn C N bs bm g8 sn sub ab col dd k0 k1 k2 k3 k5 newId))(hN:hp.Ns N mN)(hi:mN "__init__"=some (.ref f))(hf:hp.get? f=some o)(pZ:o.cls=.type "function")(q:∀h' e,Heap.MadeExcOf hp h' e (.ref C) vs->W8 4#0 (A.under (.builtin "type.__call__" ⟨.ref C::vs,[]⟩)) (call (.ref f) (.ref e::vs)) (λr s'=>r=.none/\Q (.ref e) s') E ⟨h',g,d,t,os⟩)(hl:vs.length<=W7):W8 4#0 A (call (.ref C) vs) Q E ⟨hp,g,d,t,os⟩:=by
 have f1:=tc_lookup;have f2:=tc_bind (.ref C);have hT:(⟨hp,g,d,t,os⟩:W1).TypeIs (.ref C) "type":=⟨_,hC,rfl⟩;refine wpAny_call (codeAny_of_tree ?_);show W8 _ _ (callAny (.ref C) _) _ _ _;repeat(any_goals(first|assumption|with_reducible refine QA hC ?_|wp_step))
 exact⟨rfl,codeAny_call_builtin_at (Code.quiet_builtin _ V') entry_typeCall (wpAny_check_type_call_sub hC (P4 F T hC hN hi hf pZ (λh' e hm=>q h' e hm) hl))⟩
theorem P8(hh:A.handled=none)(h:W8 M A x (λv s1=>∃(e C N:Addr)(dx:Option Addr)(vs:Array Value)(sl:Array (Option Value))(nm qn:Str)(bs bm:List Value)(g8:Bool)(sn:List Str)(sub:List Value)(ab:Bool)(col:Option Bool)(dd:Option Addr)(k0 k1 k2 k3 k5:Option Value)(newId:String),v=.ref e/\bm.contains (.type "BaseException")=true/\s1.heap.get? C=some (excClassObj nm qn C N bs bm g8 sn sub ab col dd k0 k1 k2 k3 k5 newId)/\s1.heap.get? e=some ⟨.ref C,dx,.fields vs,sl⟩/\vs[1]?=some .none/\E (.ref e) s1) E s):W8 M A (raiseStmt env (some x) none) Q E s:=by
 unfold raiseStmt;refine W0 (Q7 h (λv s1 h1=>?_) λj j x=>x);obtain⟨e,C,N,dx,vs,sl,nm,qn,bs,bm,g8,sn,sub,ab,col,dd,k0,k1,k2,k3,k5,newId,rfl,hb,hC,he,hv,hE⟩:=h1;have hc:(Value.ref C::bm).contains (.type "BaseException")=true:=by rw[U9,hb,Bool.or_true]
 obtain⟨hp,g,d,tk,os⟩:=s1;repeat(first|with_reducible refine QA he ?_|with_reducible refine QA hC ?_|(with_reducible refine wpAny_isSubtype_exc hC ?_;rw[hc])|wp_step)
 rw[hv];repeat(first|wp_step)
 exact wpAny_raiseNew_none hh hE
end
structure Apart(X:Cx)(pins:List (Addr×Obj))(H:Hp)(b:Addr):Prop where
 old:X.s₀.heap.get? b=none
 free:H b=none
 loc:b≠X.env.locals
 jw:∀x c,X.env.cells.lookup x=some c->c≠b
 pin:∀p∈X.pn++pins,p.1≠b
section
variable{a T:Addr}
theorem Inv.l9(I:Inv X pins Z H s)(e:X.s₀.heap.get? b=some o):b≠X.env.locals:=Qd (WG (Wm e) I.ok.above)
theorem Inv.xb(I:Inv X pins Z H s)(ha:Apart X pins H a)(hT:Apart X pins H T)(k1:∀b o,s.heap.get? b=some o->b∉eG X.stack->b≠a->b≠T->h'.get? b=some o)(k2:∀b o,s.heap.get? b=some o->b∈eG X.stack->∃sl,h'.get? b=some {o with slots:=sl}):Inv X pins Z H 9#h':=by
 have any:∀b o,s.heap.get? b=some o->b≠a->b≠T->∃sl,h'.get? b=some {o with slots:=sl}:=λb o e n1 n2=>by
  by_cases hb:b∈eG X.stack;.exact k2 b o e hb
  .exact⟨o.slots,k1 b o e hb n1 n2⟩
 have ne:∀b o,X.s₀.heap.get? b=some o->b≠a/\b≠T:=λb o e=>⟨λz=>(by rw[z,ha.old]at e;cases e),λz=>by rw[z,hT.old]at e;cases e⟩;have DL:∀b,b≠X.env.locals->b∉X.fs->b∉eG X.stack:=λb n1 n2 z=>(Wi.mp (I.rD b z)).elim n1 n2;have cellK:∀y c,X.env.cells.lookup y=some c->∀v,s.heap.IsCell c v->h'.IsCell c v:=λy c e v⟨o,ho,hd⟩=>by obtain⟨sl,q⟩:=any c o ho (ha.jw y c e) (hT.jw y c e);exact⟨_,q,hd⟩
 refine⟨I.ok,I.os,I.bare,⟨λb o e n hb hx=>?_,λb o e n hb hx=>?_,I.base.free,λb o e hx=>?_,I.base.iq,I.base.gN,I.base.iQ⟩,?_,λy c e=>?_,I.free,I.dW,λp hp=>?_,λb o e=>?_,I.len⟩;.exact k1 b o (I.base.keep b o e n hb hx) (DL b (I.l9 e) hb) (ne b o e).1 (ne b o e).2
 .obtain⟨sl,q⟩:=I.base.slot b o e n hb hx;obtain⟨sl',q'⟩:=any b _ q (ne b o e).1 (ne b o e).2;exact⟨sl',q'⟩
 .obtain⟨o',q⟩:=I.base.there b o e hx;obtain⟨sl',q'⟩:=any b _ q (ne b o e).1 (ne b o e).2;exact⟨_,q'⟩
 .obtain⟨m,⟨o,es,ep,ho,hd,r⟩,hl⟩:=I.loc;obtain⟨sl,q⟩:=any _ o ho (λz=>ha.loc z.symm) λz=>hT.loc z.symm;refine⟨m,⟨_,es,ep,q,hd,r⟩,λi y v e1 e2 e3=>?_⟩;obtain⟨u,ru,lk⟩:=hl i y v e1 e2 e3;refine⟨u,ru,lk.elim .inl λ⟨k,c,e,z⟩=>.inr ⟨k,c,e,cellK y c e _ z⟩⟩
 .obtain⟨v,z⟩:=I.cell y c e;exact⟨v,cellK y c e v z⟩
 .obtain⟨e,n,nl,nf,d⟩:=I.pin p hp;exact⟨k1 p.1 p.2 e (DL _ nl nf) (ha.pin p hp) (hT.pin p hp),n,nl,nf,d⟩
 .refine(I.aB b o e).kG (λc u hc q=>k1 c u q (λz=>?_) (λz=>?_) λz=>?_) (λj q=>q) (λj j q=>q) λj j j q=>q
  .have:=I.rE c z;rcases hc with rfl|hc;.rw[e]at this;cases this
   .rw[hc]at this;cases this
  .subst z;rcases hc with rfl|hc;.rw[ha.free]at e;cases e
   .rw[ha.free]at hc;cases hc
  .subst z;rcases hc with rfl|hc;.rw[hT.free]at e;cases e
   .rw[hT.free]at hc;cases hc
theorem Inv.xf(I:Inv X pins Z H s)(ha:Apart X pins H a)(ob:aZ X.prog X.w (upd H a o) s.heap a o):Inv X pins Z (upd H a o) s:=by
 have ne:∀{b:Addr}{u:HO},H b=some u->b≠a:=λ{b u}e z=>by rw[z,ha.free]at e;cases e
 have up:∀{b:Addr}{u:HO},H b=some u->upd H a o b=some u:=λ{b u}e=>%[ba (ne e)|e];have no:∀{b:Addr},b≠a->H b=none->upd H a o b=none:=λ{b}n e=>%[ba n|e];refine⟨I.ok,I.os,I.bare,⟨I.base.keep,I.base.slot,λb u e n hx=>no (λz=>by rw[z,ha.old]at e;cases e) (I.base.free b u e n hx),I.base.there,λb xs e=>up (I.base.iq b xs e),λb u z e=>up (I.base.gN b u z e),λb ps e=>?_⟩,I.loc,I.cell,no (Ne.symm ha.loc) I.free,λx c e=>no (ha.jw x c e) (I.dW x c e),λp hp=>?_,λb u e=>?_,I.len⟩;.obtain⟨m,q⟩:=I.base.iQ b ps e;exact⟨m,up q⟩
 .obtain⟨e,n,nl,nf,d⟩:=I.pin p hp;exact⟨e,no (ha.pin p hp) n,nl,nf,d⟩
 .by_cases hb:b=a;.subst hb;rw[cz]at e;cases e;exact ob
  .rw[ba hb]at e;exact(I.aB b u e).kG (λj j j q=>q) (λc q=>up q) (λc xs q=>up q) λj j j q=>up q
theorem P9(I:Inv X pins Z H s)(hN:X.N.Nodup)(hi:X.N[i]?=some x)(hk:X.env.scope.names.lookup x=some .local)(h:∀s',Inv X pins (Z.set i none) H s'->Q () s'):W8 M A (do bindName X.env x .none;unbindBehindTheSuite X.env x pos) Q E s:=by
 have oM:i<Z.length:=by rw[I.len];exact(Wd.mp hi).1
 refine W0 (wpAny_bindName (rG (v:=.aI) (u:=.none) I hN hi (.inl hk) rfl (λs1 I1 f=>?_) (.inr hk)));obtain⟨m,hn,hl⟩:=id I1.loc;obtain⟨u,ru,lk⟩:=hl i x .aI hi (WB oM) (.inl hk);have hv:m x=some u:=by
  rcases lk with⟨_,e⟩|⟨z,_⟩;.exact e
  .have:X.env.kindOf x=some .local:=hk;rw[this]at z;rcases z with z|z<;>cases z
 refine wpAny_onRaise (wpAny_unbindName_local hk hn hv (by rw[I.ok.kind];rfl) λh' w' iT hs=>h _ ?_);obtain⟨oL,_,_,kL,_⟩:=id hn;have iS:=I1.iS;refine⟨I1.ok,I1.os,I1.bare,⟨λb o e n hb hx=>?_,λb o e n hb hx=>?_,I1.base.free,λb o e hx=>?_,I1.base.iq,I1.base.gN,I1.base.iQ⟩,⟨_,iT,λj y v' e1 e2 e3=>?_⟩,λy c e=>?_,I1.free,I1.dW,λp hp=>?_,λb ob e=>?_,~~~I.len⟩;.exact(hs.2 b (I1.l9 e)).trans (I1.base.keep b o e n hb hx)
 .obtain⟨sl,q⟩:=I1.base.slot b o e n hb hx;exact⟨sl,(hs.2 b (I1.l9 e)).trans q⟩
 .obtain⟨o',q⟩:=I1.base.there b o e hx;exact⟨o',(hs.2 b (I1.l9 e)).trans q⟩
 .by_cases hj:j=i;.subst hj;rw[WB oM]at e2;cases e2
  .rw[Wc (Ne.symm hj)]at e2;obtain⟨u',r',q⟩:=hl j y v' e1 %[Wc (Ne.symm hj)|e2] e3;have xg:y≠x:=λz=>hj (u7 hN e1 (z▸hi));refine⟨u',r',?_⟩;rcases q with⟨k,e⟩|⟨k,c,e,z⟩;.exact .inl ⟨k,#v[xg,e]⟩
   .exact .inr ⟨k,c,e,z.sameBut hs (iS y c e)⟩
 .obtain⟨w2,z⟩:=I1.cell y c e;exact⟨w2,z.sameBut hs (iS y c e)⟩
 .obtain⟨e,n,nl,nf,d⟩:=I1.pin p hp;exact⟨(hs.2 p.1 nl).trans e,n,nl,nf,d⟩
 .refine(I1.aB b ob e).kG (λc u' hc q=>(hs.2 c λz=>?_).trans q) (λf q=>q) (λf f q=>q) λf f f q=>q;subst z;have:=I1.free;rcases hc with rfl|hc;.rw[e]at this;cases this
  .rw[hc]at this;cases this
end
def DM(neg:Bool):R2:=λx y H Q=>∃c d:Bool,x=.bl c/\y=.bl d/\Q (.bl (if neg then c !=d else c==d)) H
theorem P_:a_ X (WC .IsNot) (DM true):=by intro pins s Z H x y v u Q I rx ry h;obtain⟨c,d,rfl,rfl,q⟩:=h;cases rx;cases ry;exact isnot_bool (rS I q rfl)
noncomputable def mK(neg:Bool):D->D->Option S|.bl c,.bl d=>0#(.bl (if neg then c !=d else c==d))|_,_=>none
universe H in theorem Q_(neg:Bool):bV (DM neg) (mK neg):=by
 intro c Z Y H x y d e s Q k rx ry hp q;cases d<;>cases e<;>first|(simp[mK]at hp;done)|skip
 rename_i i j;simp only[mK,Wb]at hp;subst hp;have ex:x=.bl i:=by
  rcases rx with r|⟨a,e,o⟩;.cases r;rfl
  .exact o.elim
 have ey:y=.bl j:=by
  rcases ry with r|⟨a,e,o⟩;.cases r;rfl
  .exact o.elim
 exact⟨i,j,ex,ey,q _ H (.refl k) (.bl _)⟩
def gh:List Int->Int|[]=>0|a::r=>match r with|[]=>a|_=>if a<=gh r then gh r else a
def gi:List Int->Int|[]=>0|a::r=>match r with|[]=>a|_=>if gi r<=a then gi r else a
theorem DO:∀ns:List Int,ns≠[]->gh ns∈ns/\∀a∈ns,a<=gh ns
 |[],h=>(h rfl).elim|[a],_=>#v[gh]|a::b::r,_=>by
  obtain⟨h1,h2⟩:=DO (b::r) Zw;have e:gh (a::b::r)=if a<=gh (b::r)then gh (b::r)else a:=rfl;rw[e];split;.exact⟨Wh _ h1,λx hx=>by
    rcases Wi.mp hx with rfl|hx;.assumption
    .exact h2 x hx⟩
  .refine⟨WA,λx hx=>?_⟩;rcases Wi.mp hx with rfl|hx;.lia
   .have:=h2 x hx;lia
theorem DP:∀ns:List Int,ns≠[]->gi ns∈ns/\∀a∈ns,gi ns<=a
 |[],h=>(h rfl).elim|[a],_=>#v[gi]|a::b::r,_=>by
  obtain⟨h1,h2⟩:=DP (b::r) Zw;have e:gi (a::b::r)=if gi (b::r)<=a then gi (b::r)else a:=rfl;rw[e];split;.exact⟨Wh _ h1,λx hx=>by
    rcases Wi.mp hx with rfl|hx;.assumption
    .exact h2 x hx⟩
  .refine⟨WA,λx hx=>?_⟩;rcases Wi.mp hx with rfl|hx;.lia
   .have:=h2 x hx;lia
theorem UV:∀{ns:List Int}{us:List Value},Vals (ns.map V.int) us->∃ys:List (Int×Tok),us=(ys.map λp=>Value.int p.1 p.2)/\ns=ys.map (·.1)|[],us,r=>by cases r;exact⟨[],rfl,rfl⟩|n::ns,us,r=>by cases r with|cons r1 r2=>obtain⟨ys,e1,e2⟩:=UV r2;obtain⟨t,rfl⟩:=r1;exact⟨(n,t)::ys,by rw[e1];rfl,by rw[e2];rfl⟩
theorem DQ(ys:List (Int×Tok))(h:i<ys.length):JP ys.toArray i∈ys.map (·.1):=by simp only[JP,List.getElem?_toArray,W4 h,WM,Jv];exact QB (WU h)
theorem DU(ys:List (Int×Tok))(h:a∈ys.map (·.1)):∃i,i<ys.length/\a=JP ys.toArray i:=by obtain⟨p,hp,rfl⟩:=WH.mp h;obtain⟨i,hi,rfl⟩:=List.getElem_of_mem hp;exact⟨i,hi,#v[JP,hi]⟩
theorem Ra(hc:X.calm=true):cN X (.builtin "max") λxs H Q=>∃(a:Addr)(ns:List Int),xs=[.ref a]/\bN X.K H a (ns.map V.int)/\ns≠[]/\Q (.int (gh ns)) H:=by
 intro pins s Z H xs us Q I r h;obtain⟨a,ns,rfl,hq,bO,q⟩:=h;obtain⟨u,rfl,ru⟩:=eN r;cases ru;obtain⟨af,r',p,_⟩:=I.list hq;obtain⟨ys,rfl,rfl⟩:=UV r';have hl:=p.isList;have el:(ys.map λp=>Value.int p.1 p.2).toArray=intItems ys.toArray:=#v[intItems];rw[el]at hl;have hy:0<ys.length:=by cases ys with|nil=>exact(bO rfl).elim|cons _ _=>simp
 refine max_intList (I.ok.hd hc) hl (~~~hy) λv h' tk hv hk=>?_;obtain⟨t,rfl⟩:=intItems_at hv;obtain⟨h1,h2⟩:=argBest_gt (JP ys.toArray) (ys.toArray.size-1);have hs:ys.toArray.size=ys.length:=by simp
 have hm:=DQ ys (i:=argBest (λi j=>decide (JP ys.toArray i>JP ys.toArray j)) (ys.toArray.size-1)) Y';obtain⟨m1,m2⟩:=DO (ys.map (·.1)) bO;obtain⟨i,hi,ei⟩:=DU ys m1;have l1:=m2 _ hm;have l2:=h2 i Y';have e:JP ys.toArray (argBest (λi j=>decide (JP ys.toArray i>JP ys.toArray j)) (ys.toArray.size-1))=gh (ys.map (·.1)):=by rw[<-ei]at l2;exact Int.le_antisymm l1 l2
 refine⟨.int (gh (ys.map (·.1))),H,I.kept hk,⟨t,by rw[e]⟩,q⟩
theorem Rb(hc:X.calm=true):cN X (.builtin "min") λxs H Q=>∃(a:Addr)(ns:List Int),xs=[.ref a]/\bN X.K H a (ns.map V.int)/\ns≠[]/\Q (.int (gi ns)) H:=by
 intro pins s Z H xs us Q I r h;obtain⟨a,ns,rfl,hq,bO,q⟩:=h;obtain⟨u,rfl,ru⟩:=eN r;cases ru;obtain⟨af,r',p,_⟩:=I.list hq;obtain⟨ys,rfl,rfl⟩:=UV r';have hl:=p.isList;have el:(ys.map λp=>Value.int p.1 p.2).toArray=intItems ys.toArray:=#v[intItems];rw[el]at hl;have hy:0<ys.length:=by cases ys with|nil=>exact(bO rfl).elim|cons _ _=>simp
 refine min_intList (I.ok.hd hc) hl (~~~hy) λv h' tk hv hk=>?_;obtain⟨t,rfl⟩:=intItems_at hv;obtain⟨h1,h2⟩:=argBest_lt (JP ys.toArray) (ys.toArray.size-1);have hs:ys.toArray.size=ys.length:=by simp
 have hm:=DQ ys (i:=argBest (λi j=>decide (JP ys.toArray i<JP ys.toArray j)) (ys.toArray.size-1)) Y';obtain⟨m1,m2⟩:=DP (ys.map (·.1)) bO;obtain⟨i,hi,ei⟩:=DU ys m1;have l1:=m2 _ hm;have l2:=h2 i Y';have e:JP ys.toArray (argBest (λi j=>decide (JP ys.toArray i<JP ys.toArray j)) (ys.toArray.size-1))=gi (ys.map (·.1)):=by rw[<-ei]at l2;exact Int.le_antisymm l2 l1
 refine⟨.int (gi (ys.map (·.1))),H,I.kept hk,⟨t,by rw[e]⟩,q⟩
noncomputable def eX:List D->Option (List Int)|[]=>some []|.int i::r=>(eX r).map (i::.)|_::_=>none
theorem xh:∀{ds:List D}{vs:List V}{ns:List Int},eX ds=some ns->aG H O vs ds->vs=ns.map V.int|[],vs,bs,h,r=>by simp only[eX,Wb]at h;subst h;have:=r.1;simpa using this|d::ds,[],bs,h,r=>by have:=r.1;simp at this|d::ds,v::vs,bs,h,r=>by cases d with
 |int b=>simp only[eX]at h;cases e:eX ds with|none=>rw[e]at h;cases h|some bs'=>rw[e]at h;simp only[WM,Wb]at h;subst h;have:=r.head;cases this;rw[xh e r.tail];rfl
 |_=>simp[eX]at h
theorem ints_map(ns:List Int):eX (ns.map D.int)=some ns:=by induction ns with|nil=>rfl|cons n r ih=>simp[eX,ih]
noncomputable def nU:D->Option S
 |.lst ds=>match eX ds with|some (n::ns)=>0#(.int (gh (n::ns)))|_=>none
 |_=>none
noncomputable def nV:D->Option S
 |.lst ds=>match eX ds with|some (n::ns)=>0#(.int (gi (n::ns)))|_=>none
 |_=>none
section
variable{c:Fc}
theorem Rc(hc:X.calm=true)(hg:Gl X "max")(hm:X.mg "max"=none)(he:SB X c e fb)(hs:Wa [e] X.env=(false,eval e X.env)::Wa [] X.env:=by rfl):SE X c (.Call (.Name "max" pp) [e] [] pos) (ay nU fb):=nJ (r:=λv H Q=>∃(a:Addr)(ns:List Int),v=.ref a/\bN X.K H a (ns.map V.int)/\ns≠[]/\Q (.int (gh ns)) H) (Ra hc) (λv H Q⟨a,bs,e,h⟩=>⟨a,bs,by rw[e],h⟩) (λc Z Y H x d s Q k rx hp q=>by cases d with
 |lst ds=>simp only[nU]at hp;cases e:eX ds with|none=>rw[e]at hp;cases hp|some bs=>rw[e]at hp;cases bs with|nil=>cases hp|cons n ns=>simp only[Wb]at hp;subst hp;obtain⟨a,vs,ea,ha,ra⟩:=rx.lst;have:=xh e ra;subst this;exact⟨a,n::ns,ea,.inl ha,Zw,q _ H (.refl k) (.int _)⟩
 |_=>simp[nU]at hp) hg hm PyProof.Rows.boot_max he Z' Z' hs
theorem Rf(hc:X.calm=true)(hg:Gl X "min")(hm:X.mg "min"=none)(he:SB X c e fb)(hs:Wa [e] X.env=(false,eval e X.env)::Wa [] X.env:=by rfl):SE X c (.Call (.Name "min" pp) [e] [] pos) (ay nV fb):=nJ (r:=λv H Q=>∃(a:Addr)(ns:List Int),v=.ref a/\bN X.K H a (ns.map V.int)/\ns≠[]/\Q (.int (gi ns)) H) (Rb hc) (λv H Q⟨a,bs,e,h⟩=>⟨a,bs,by rw[e],h⟩) (λc Z Y H x d s Q k rx hp q=>by cases d with
 |lst ds=>simp only[nV]at hp;cases e:eX ds with|none=>rw[e]at hp;cases hp|some bs=>rw[e]at hp;cases bs with|nil=>cases hp|cons n ns=>simp only[Wb]at hp;subst hp;obtain⟨a,vs,ea,ha,ra⟩:=rx.lst;have:=xh e ra;subst this;exact⟨a,n::ns,ea,.inl ha,Zw,q _ H (.refl k) (.int _)⟩
 |_=>simp[nV]at hp) hg hm PyProof.Rows.boot_min he Z' Z' hs
end
theorem Rg{B e:Addr}{h:Heap}{g:Array GenState}{d:Drawn}{t:Nat}{Q:Bool->W1->Prop}(X:K.In h)(qB:mJ K B)(qm:PySem.W.mroIn K C (.ref B)=some true)(he:h.get? e=some oe)(hc:oe.cls=.ref C)(hq:Q true ⟨h,g,d,t,os⟩):W8 4#0 A (excMatches (.ref e) (.ref B)) Q E ⟨h,g,d,t,os⟩:=by
 obtain⟨bm,N,nm,qn,bs,g8,sn,sub,ab,col,dd,k0,k1,k2,k3,k5,mN,hB,_,_,hT⟩:=qB.obj X;have cB:(Value.ref B::bm).contains (.type "BaseException")=true:=by rw[U9,hT.hasType (X:="BaseException") (b:=true) rfl,Bool.or_true]
 have lk:=PySem.W.looks_mroIn (M:=4#0) X qm;have f:=tc_notTuple;unfold excMatches;repeat(first|with_reducible refine PySem.W.Looks.at lk ?_|(with_reducible refine QA he ?_;rw[hc])|with_reducible refine QA hB ?_|(with_reducible refine wpAny_isSubtype_exc hB ?_;rw[cB])|wp_step)
 exact hq
def Cx.wt(X:Cx)(pn:List (Addr×Obj))(xe:Value->W1->Prop):Cx:={X with pn:=pn,xe:=xe}
def Cx.hand(X:Cx)(a:Addr):Cx:={X with A:=X.A.mark (some (.ref a)),calm:=false,xe:=λj j=>False}
section
variable{ps:List (Addr×Obj)}{a:Addr}
theorem Cx.Ok.wt(o:X.Ok):(X.wt pn xe).Ok:=⟨o.mod,o.kind,o.glob,o.blt,o.above,o.inj,o.has,o.kH,o.hd,o.frames,o.l7,o.l8,o.bs,o.ir,o.kI,o.kJ,o.fP,o.iR⟩
theorem Cx.Ok.hand(o:X.Ok):(X.hand a).Ok:=⟨o.mod,o.kind,o.glob,o.blt,o.above,o.inj,o.has,o.kH,λz=>(by cases z),o.frames,o.l7,o.l8,o.bs,o.ir,o.kI,o.kJ,o.fP,o.iR⟩
theorem Inv.wt(I:Inv X pins Z H s):Inv (X.wt (X.pn++pins) xe) [] Z H s:=⟨I.ok.wt,I.os,I.bare,I.base,I.loc,I.cell,I.free,I.dW,λp hp=>I.pin p (by simpa[Cx.wt]using hp),I.aB,I.len⟩
theorem Inv.jg(o:X.Ok)(J:Inv (X.wt (X.pn++pins) xe) ps Z H s):Inv X pins Z H s:=⟨o,J.os,J.bare,J.base,J.loc,J.cell,J.free,J.dW,λp hp=>J.pin p (JO _ hp),J.aB,J.len⟩
theorem Inv.hand(I:Inv X pins Z H s):Inv (X.hand a) pins Z H s:=⟨I.ok.hand,I.os,I.bare,I.base,I.loc,I.cell,I.free,I.dW,I.pin,I.aB,I.len⟩
theorem Inv.Rh(o:X.Ok)(J:Inv (X.hand a) pins Z H s):Inv X pins Z H s:=⟨o,J.os,J.bare,J.base,J.loc,J.cell,J.free,J.dW,J.pin,J.aB,J.len⟩
theorem Apart.jg(h:Apart (X.wt (X.pn++pins) xe) ps H a):Apart X pins H a:=⟨h.old,h.free,h.loc,h.jw,λp hp=>h.pin p (JO _ hp)⟩
theorem SP.jg{D f}(o:X.Ok)(h:SP (X.wt (X.pn++pins) xe) ps D f s):SP X pins D f s:=by cases f with|next=>obtain⟨Pv,H',J,q⟩:=h;exact⟨Pv,H',Inv.jg o J,q⟩|brk=>obtain⟨Pv,H',J,q⟩:=h;exact⟨Pv,H',Inv.jg o J,q⟩|cont=>obtain⟨Pv,H',J,q⟩:=h;exact⟨Pv,H',Inv.jg o J,q⟩|ret u=>obtain⟨v,Pv,H',J,r,q⟩:=h;exact⟨v,Pv,H',Inv.jg o J,r,q⟩
def p8(X:Cx)(pins:List (Addr×Obj))(H:Hp)(s:W1)(a C:Addr)(dx:Option Addr):Prop:=∃T fl,iF s.heap a C T dx fl/\(fl=.none\/∃L,X.env.frame=some L/\fl=QU L)/\Apart X pins H a/\Apart X pins H T
def tO(X:Cx)(ps:List (Addr×Obj))(H:Hp)(s:W1)(a C:Addr)(dx:Option Addr):Prop:=(∃vs sl a0,s.heap.get? a=some ⟨.ref C,dx,.fields vs,sl⟩/\vs[0]?=some a0/\vs[1]?=some .none)/\Apart X ps H a
theorem Inv.apart(I:Inv X pins Z H s)(hx:X.ex=[])(e:s.heap.get? b=none)(f:H' b=none):Apart X pins H' b:=by
 refine⟨(I.gone hx e).2,f,λz=>?_,λx c hc z=>?_,λp hp z=>?_⟩;.obtain⟨m,⟨o,_,_,ho,_⟩,_⟩:=I.loc;rw[<-z,e]at ho;cases ho
 .obtain⟨v,o,ho,_⟩:=I.cell x c hc;rw[z,e]at ho;cases ho
 .have:=(I.pin p hp).1;rw[z,e]at this;cases this
section
variable{Q:Unit->W1->Prop}
theorem Inv.DW(I:Inv X pins Z H s)(cL:X.stack=X.env::X.outer)(hf:X.env.frame=some L)(hex:X.ex=[])(hc:p8 X pins H s a C dx\/tO X pins H s a C dx)(q:∀h' T,Inv X pins Z H 9#h'->iF h' a C T dx (QU L)->Apart X pins H a->Apart X pins H T->Q () 9#h'):W8 M X.A (U6 (.ref a) X.env) Q E s:=by
 have cZ:X.A.frames=some (X.env::X.outer):=by rw[<-cL];exact I.ok.frames
 have hl:s.heap.FunFrames X.base (X.env::X.outer):=by rw[<-cL];exact I.stack
 have mem:∀{b},b∈eG X.stack->∃o,s.heap.get? b=some o/\∀vs,o.data≠.fields vs:=λ{b}z=>let⟨_,o,g1,g2⟩:=I.stack.mem z;⟨o,g1,g2⟩;rcases hc with⟨T,fl,f,ph,pa,pT⟩|⟨⟨vs,sl,a0,e1,e2,e3⟩,pa⟩
 .rcases ph with rfl|⟨L',e,rfl⟩;.refine P0 cZ hl hf f λh' T' f' n=>?_;refine q h' T' (I.xb pa pT (λb o z m n1 n2=>n.keep b o z n1 (λw=>n2 (by cases w;rfl)) (by rw[<-cL];exact m)) λb o z m=>?_) f' pa (I.apart hex n.new (I.gone hex n.new).1);obtain⟨o',g1,g2⟩:=mem m;rw[z]at g1;cases g1;exact n.frame b o z g2
  .rw[hf]at e;cases e;exact P1 hf f (q s.heap T I f pa pT)
 .refine PZ cZ hl hf e1 e2 e3 λh' T' f' n=>?_;refine q h' T' (I.xb pa pa (λb o z m n1 n2=>n.keep b o z n1 (λw=>by cases w) (by rw[<-cL];exact m)) λb o z m=>?_) f' pa (I.apart hex n.new (I.gone hex n.new).1);obtain⟨o',g1,g2⟩:=mem m;rw[z]at g1;cases g1;exact n.frame b o z g2
theorem Inv.xi{A:Wp}{o:Option Addr}{fl:Value}(I:Inv X pins Z H s)(f:iF s.heap a C T dx fl)(pT:Apart X pins H T)(q:∀h',Inv X pins Z H 9#h'->iF h' a C T dx (o.elim .none λf=>QU f)->Q () 9#h'):W8 M A (setFlight (.ref a) o) Q E s:=P2 f λh' f' k=>q h' (I.xb pT pT (λb u z j n j=>(k b n).trans z) λb u z j=>by
 by_cases n:b=T;.subst n;obtain⟨vs,sl,oT,ts,a0,e1,e2,e3,e4,e5,e6,e7⟩:=f;have:=I.rE b ‹_›;obtain⟨_,o',g1,g2⟩:=I.stack.mem ‹b∈eG X.stack›;rw[e5]at g1;cases g1;exact absurd e6 (g2 ts)
 .exact⟨u.slots,(k b n).trans z⟩) f'
end
def Ends.hand(D:Ends)(i:Nat):Ends where
 nx:=λZ H=>D.nx (Z.set i none) H
 rt:=D.rt
 bk:=λZ H=>D.bk (Z.set i none) H
 ct:=λZ H=>D.ct (Z.set i none) H
theorem Ri{x n:Str}{np xj:Pos}{B:Addr}{tb:(Addr->Option Addr->St->Hp->Prop)->TS}(hex:X.ex=[])(cL:X.stack=X.env::X.outer)(hf:X.env.frame=some X.env.locals)(hN:X.N.Nodup)(hi:X.N[i]?=some n)(hl:X.env.scope.names.lookup n=some .local)(hg:Gl X x)(hm:X.mg x=some (.ref B))(qB:mJ X.K B)(cU:(x==("__debug__":Str))=false)(dC:∀(W:Addr->Option Addr->St->Hp->Prop)(pn:List (Addr×Obj))(xe:Value->W1->Prop),(∀ps Z H s a C dx,Inv (X.wt pn xe) ps Z H s->p8 (X.wt pn xe) ps H s a C dx\/tO (X.wt pn xe) ps H s a C dx->W C dx Z H->xe (.ref a) s)->c_ (X.wt pn xe) body (tb W))(Rj:∀C a,c_ (X.hand a) (b₀::tP) (th C a)):PS X (.Try body [.ExceptHandler (some (.Name x np)) (some n) (b₀::tP) xj] [] [] pos) λD Z H=>tb (λC dx Pv H'=>PySem.W.mroIn X.K C (.ref B)=some true/\∃v,(∀x,v=.ref x->dx=some x)/\∀a,H' a=none->th C a (D.hand i) (Pv.set i (some (.ref a))) (upd H' a (.ext (excAt C v a)))) D Z H:=by
 intro pins s Z H D I hw;refine wpAny_Try_except (Q7 (dC _ (X.pn++pins) _ (λps KS H1 s1 a C dx J hc hW=>?_) [] s Z H D I.wt hw) (λf s1 hs=>?_) λe s1 he=>he)
 .have J:Inv X pins KS H1 s1:=Inv.jg I.ok J;have hc:p8 X pins H1 s1 a C dx\/tO X pins H1 s1 a C dx:=by
   rcases hc with⟨T,fl,f,ph,pa,pT⟩|⟨y,pa⟩;.exact .inl ⟨T,fl,f,ph,pa.jg,pT.jg⟩
   .exact .inr ⟨y,pa.jg⟩
  refine J.DW cL hf hex hc λh2 T J2 f2 pa pT=>?_;refine J2.xi f2 pT λh3 I3 f3=>?_;obtain⟨vs3,sl3,_,_,_,u3,_⟩:=id f3;obtain⟨qm,v,hv,qh⟩:=hW;refine wpAny_handleBy_cons (codeAny_handlers_test ?_) (by intro z;cases z);have Rk:Inv (X.hand a) pins KS H1 {s1 with heap:=h3}:=I3.hand;refine l_ (X:=X.hand a) Rk hg hm ?_ cU;refine Rg I3.cH qB qm u3 rfl ?_;refine codeAny_handlers_suite_as (I3.xi f3 pT λh4 I4 f4=>?_);obtain⟨vs4,sl4,_,_,_,u1,_⟩:=f4;have I5:Inv X pins KS (upd H1 a (.ext (excAt C v a))) {s1 with heap:=h4}:=I4.xf pa ⟨⟨_,u1,rfl,λx z=>hv x z,vs4,rfl⟩,⟨_,u1⟩,λh1 h2⟨o,e1,e2⟩k=>⟨o,k o e1,e2⟩⟩;refine rG (v:=.ref a) (u:=.ref a) (X:=X.hand a) I5.hand hN hi (.inl hl) rfl (λs6 I6 j=>?_) (.inr hl);refine Q7 (Rj C a pins s6 _ _ (D.hand i) I6 (qh a pa.free)) (λf s7 hs=>?_) λe s7 he=>he.elim;have un:∀{Pv:St}{H':Hp}{Q:Flow->W1->Prop},Inv (X.hand a) pins Pv H' s7->(∀s8,Inv X pins (Pv.set i none) H' s8->Q f s8)->W8 5#0 X.A (do bindName X.env n .none;unbindBehindTheSuite X.env n xj) (λj s8=>Q f s8) X.xe s7:=λ{Pv H' Q}J7 k=>P9 (Inv.Rh I.ok J7) hN hi hl λs8 J8=>k s8 J8;cases f with|next=>obtain⟨Pv,H',J7,q⟩:=hs;exact un J7 λs8 J8=>⟨_,_,J8,q⟩|brk=>obtain⟨Pv,H',J7,q⟩:=hs;exact un J7 λs8 J8=>⟨_,_,J8,q⟩|cont=>obtain⟨Pv,H',J7,q⟩:=hs;exact un J7 λs8 J8=>⟨_,_,J8,q⟩|ret u=>obtain⟨v,Pv,H',J7,r,q⟩:=hs;exact un J7 λs8 J8=>⟨v,_,_,J8,r,q⟩
 .have hs:=SP.jg I.ok hs;cases f with|next=>exact U0 hs|brk=>exact hs|cont=>exact hs|ret u=>exact hs
end
def lD(X:Cx)(W:Addr->Option Addr->St->Hp->Prop):Prop:=∀ps Z H s a C dx,Inv X ps Z H s->p8 X ps H s a C dx\/tO X ps H s a C dx->W C dx Z H->X.xe (.ref a) s
section
variable{b:Addr}
theorem Inv.Rl{E}(I:Inv X pins Z H s)(hx:X.ex=[])(h:kj X.prog X.w X.stack H s E v s'):∃a C dx H',v=.ref a/\Inv X pins Z H' s'/\p8 X pins H' s' a C dx/\E (.ref C) dx H':=by obtain⟨a,C,T,dx,H',rfl,ho,hb,un,aB,fl,na,nT,fa,fT,q⟩:=h;exact⟨a,C,dx,H',rfl,I.An (ch:=[]) ho un aB hb λb z=>absurd z Zw,⟨T,.none,fl,.inl rfl,I.apart hx na fa,I.apart hx nT fT⟩,q⟩
end
section
variable{k:Nat}{x:Str}{p:Pos}{t:TA}{W:Addr->Option Addr->St->Hp->Prop}
theorem DY(F:eO X.prog X.w X.K X.mg X.base (kj X.prog X.w) k f fd ps sp)(hr:cj k X.A)(hex:X.ex=[])(hg:Gl X x)(hm:X.mg x=some (.ref f))(hk:QQ X.K (.ref f)=true)(hb:Binds X.K fd ps [])(hx:lD X W)(ha:PA X (e::es) t)(cU:(x==("__debug__":Str))=false:=by decide)(he:Wa (e::es) X.env=(false,eval e X.env)::Wa es X.env:=by rfl)(bT:(Qp pos (Wa es X.env)).any (·.1)=false:=by rfl):PE X (.Call (.Name x p) (e::es) [] pos) λZ H Q=>t Z H λvs H1=>sp vs H1 Q λc dx H'=>∃C,c=.ref C/\W C dx Z H':=by
 intro pins s Z H Q I h;refine Jh (l_ I hg hm ?_ cU);refine PySem.W.callWith_K (h₀:=X.base) I.ok.mod.l5 hk (aN (ha pos pins s Z H _ I h) λus s1⟨vs,H1,I1,r,q⟩=>⟨I1.cH,?_⟩) he bT;have hl:(us++[]).length=ps.length:=by rw[WT,<-r.length];exact F.len _ _ _ _ q
 refine wpAny_call (U4 (F.run X.A X.stack s1 H1 ⟨us,[]⟩ us vs Q _ hr I1.rV (by have:=hb s1 us I1.cH hl;rwa[WT]at this) r q) λr s' hq=>?_);cases r with|error e=>obtain⟨a,C,dx,H',ea,I2,co,C',hC,hW⟩:=I1.Rl (E:=λc dx H'=>∃C,c=.ref C/\W C dx Z H') (v:=e) (s':=s') hex hq;cases hC;subst ea;exact hx pins Z H' s' a C dx I2 (.inl co) hW|ok fl=>cases fl with|ret u=>exact I1.after hq|next=>exact False.elim hq|brk=>exact False.elim hq|cont=>exact False.elim hq
end
section
variable{N:List Str}{s₀:W1}{H₀:Hp}{E:XK}
theorem Rm{W:Addr->Option Addr->St->Hp->Prop}(hW:∀C dx Z H,W C dx Z H->E (.ref C) dx H):lD (eQ (kj P w) P w K mg base N qual scope f cd A outer s₀ H₀ E) W:=λps Z H s a C dx I hc q=>by show W8 _ _ (leaving _ _) _ _ _;unfold leaving;refine W0 (I.DW rfl rfl rfl hc λh2 T I2 f2 pa pT=>I2.xi f2 pT λh3 I3 f3=>?_);exact⟨a,C,T,dx,H,rfl,I3.os,I3.bare,I3.base,I3.aB,f3,pa.old,pT.old,pa.free,pT.free,hW C dx Z H q⟩
end
def Cx.loop(X:Cx):Cx:={X with xe:=notedBy 5#0 X.A X.env (cameBackBy 5#0 X.A X.env X.xe)}
section
variable{c:Fc}{g:Xc->Dl->Prop}
theorem Ok.since(h0:c.H₀=H)(k:Ok c Z Y H)(hI:∀a,c.I a->Own Z Y a)(k':Ok c Pv P3 H'):aK c Z Y H Pv P3 H':=by
 refine⟨k',λa o e n=>k'.keep a o %[h0|e] λz=>n (hI a z),λa⟨i,d,e1,e2⟩=>?_,λa o e=>?_⟩
 .obtain⟨b,e3,_,q,_⟩:=k'.own i d e1;rw[e2]at e3;cases e3;rcases q with q|q;.exact .inl (hI a q)
  .rw[h0]at q;exact .inr q
 .by_cases z:c.I a;.exact k'.dj a z
  .exact⟨o,k'.keep a o %[h0|e] z⟩
end
def wD(mg:Str->Option Value)(c:Fc)(C:Addr)(dx:Option Addr)(Z:St)(H:Hp):Prop:=∃(x:Xc)(Y:Dl)(v:V),mg (toS x.cls)=some (.ref C)/\Ok c Z Y H/\Rep H (Av c Z Y) v x.j4/\(∀y,v=.ref y->dx=some y)/\c.xc x Y
abbrev DX:=List S->Option ((S×List S)⊕Xc×List S)
def lE(f:DS)(n:Nat)(ss:List S):Option ((S×List S)⊕Xc×List S):=match f (bW n ss)with|.ok fl Y=>(dS fl).bind λr=>(bZ 0 ss Y).map λaH=>.inl (r,aH)|.exc x Y=>(bZ 0 ss Y).map λaH=>.inr (x,aH)|.stuck=>none
def tQ(mg:Str->Option Value)(n:Nat)(G:DX):Sp:=λvs H Q E=>∃ss B,vs.length=n/\Ok ⟨H,B,bQ 0 ss vs,λj j=>False⟩ (bR vs) (bY ss) H/\∃y,G ss=some y/\match y with|.inl (r,aH)=>∀v H',aK ⟨H,B,bQ 0 ss vs,λj j=>False⟩ (bR vs) (bY ss) H (bR vs) (bY aH) H'->aL ⟨H,B,bQ 0 ss vs,λj j=>False⟩ (bR vs) (bY aH) H H' v r->Q v H'|.inr (x,aH)=>∀C dx v H',mg (toS x.cls)=some (.ref C)->aK ⟨H,B,bQ 0 ss vs,λj j=>False⟩ (bR vs) (bY ss) H (bR vs) (bY aH) H'->Rep H' (Av ⟨H,B,bQ 0 ss vs,λj j=>False⟩ (bR vs) (bY aH)) v x.j4->(∀y,v=.ref y->dx=some y)->E (.ref C) dx H'
def kl(P:Wk)(w:Wx)(K:W2)(mg:Str->Option Value)(base:Heap)(k:Nat)(x:Str)(n:Nat)(G:DX):Prop:=∃(f:Addr)(fd:Q0)(ps:List Str),mg x=some (.ref f)/\QQ K (.ref f)=true/\Binds K fd ps []/\eO P w K mg base (kj P w) k f fd ps (tQ mg n G)
theorem Rn(h:(⟨H,B,bQ 0 ss vs,g⟩:Fc).I a):Own (bR vs) (bY ss) a:=by obtain⟨i,hi⟩:=h;obtain⟨j,d,_,e1,e2⟩:=lb hi;exact⟨j,d,eV.mpr e1,fq.mpr e2⟩
theorem aL.Ro(h:aL {c with xc:=g} Z Y Hs H v r):aL c Z Y Hs H v r:=by cases r with|pure d=>exact h|own d=>obtain⟨a,e,o,n,f,k,q⟩:=h;exact⟨a,e,o,n,f,⟨k.keep,k.bd,k.dj,k.len,k.slot,k.own,k.inj,k.pinned⟩,q⟩
theorem Rp{x:Str}{st:Stmt}{N:List Str}{k:Nat}{fb:DS}{G:DX}(F:dM K x qual st f fd)(S:fA N ps (bG st))(dC:∀(c:Fc)(aQ:Value)(A:Wp)(outer:List Env)(s:W1)(H:Hp)(E:XK),cj k (A.deeper (Ji qual (bG st) s.heap.objs.size f aQ))->Np c np->lD (eQ (kj P w) P w K mg base N qual (bG st) f aQ A outer s H E) (wD mg c)->fm (eQ (kj P w) P w K mg base N qual (bG st) f aQ A outer s H E) c (eR st) fb)(hG:∀ss y,G ss=some y->cP np 0 ss=true/\lE fb N.length ss=some y):eO P w K mg base (kj P w) (k+1) f fd ps (tQ mg ps.length G):=by
 obtain⟨oc,od,kV,doc,pm,an,aQ,ct,ju,rfl,lk,dA⟩:=F.ex;refine A8 lk dA S (λvs H Q E h=>?_) λA outer s H vs Q E hr h=>?_;.obtain⟨ss,B,hl,_⟩:=h;exact hl
 .obtain⟨ss,B,hl,ok,y,hg,q⟩:=h;obtain⟨gc,hrun⟩:=hG ss _ hg;have kc:ss.length=vs.length:=by have:=ok.len;simpa using this
  let g:Xc->Dl->Prop:=λx P3=>∃aH,bZ 0 ss P3=some aH/\y=.inr (x,aH);have pM:Np ⟨H,B,bQ 0 ss vs,g⟩ np:=λp hp=>by obtain⟨j,d,e,h1,_⟩:=lb (i:=p.1) (a:=p.2) hp;rw[e];exact sY gc h1
  have cL:start N vs=bR vs++W9 (N.length-ss.length) none:=by rw[kc];rfl
  have jD:Ok ⟨H,B,bQ 0 ss vs,λu u=>False⟩ (start N vs) (bW N.length ss) H:=%[cL|ok.ext _];have gP:∀C dx Pv H',wD mg ⟨H,B,bQ 0 ss vs,g⟩ C dx Pv H'->E (.ref C) dx H':=λC dx Pv H' hh=>by obtain⟨z,P3,v,hm,k',rv,hv,aH,ho,hy⟩:=hh;rw[hy]at q;have k1:Ok ⟨H,B,bQ 0 ss vs,λu u=>False⟩ Pv P3 H':=⟨k'.keep,k'.bd,k'.dj,k'.len,k'.slot,k'.own,k'.inj,k'.pinned⟩;have a:aK ⟨H,B,bQ 0 ss vs,λu u=>False⟩ (bR vs++W9 (N.length-ss.length) none) (bY ss++W9 (N.length-ss.length) none) H Pv P3 H':=Ok.since rfl (by rw[cL]at jD;exact jD) (λa z=>Own.ext.mpr (Rn z)) k1;exact q C dx v H' hm (lh rfl ok a ho).1 ((lh rfl ok a ho).2 v (.pure z.j4) rv) hv
  refine⟨k9 ⟨H,B,bQ 0 ss vs,g⟩ fb,dC ⟨H,B,bQ 0 ss vs,g⟩ aQ A outer s H E hr pM (Rm gP),bW N.length ss,⟨jD.keep,jD.bd,jD.dj,jD.len,jD.slot,jD.own,jD.inj,jD.pinned⟩,?_⟩;unfold lE at hrun;unfold dq;cases e:fb (bW N.length ss)with
 |stuck=>rw[e]at hrun;cases hrun|exc x GE=>rw[e]at hrun;simp only at hrun;cases eo:bZ 0 ss GE with|none=>rw[eo]at hrun;cases hrun|some os=>rw[eo]at hrun;cases hrun;exact⟨os,eo,rfl⟩
 |ok fl P3=>rw[e]at hrun;show∀Pv H',aK _ (start N vs) (bW N.length ss) H Pv P3 H'->fin _ _ Pv P3 H' fl;intro Pv H' a;rw[cL]at a;have k1:=a.ok;have a1:aK ⟨H,B,bQ 0 ss vs,λu u=>False⟩ (bR vs++W9 (N.length-ss.length) none) (bW N.length ss) H Pv P3 H':=⟨⟨k1.keep,k1.bd,k1.dj,k1.len,k1.slot,k1.own,k1.inj,k1.pinned⟩,a.keep,a.own,a.there⟩;simp only at hrun;cases fl with
 |brk=>cases hrun|cont=>cases hrun|next=>simp only[dS,WO]at hrun;cases eo:bZ 0 ss P3 with|none=>rw[eo]at hrun;cases hrun|some os=>rw[eo]at hrun;cases hrun;obtain⟨l1,l2⟩:=lh rfl ok a1 eo;exact q .aI H' l1 .aI
 |ret r'=>simp only[dS,WO]at hrun;cases eo:bZ 0 ss P3 with|none=>rw[eo]at hrun;cases hrun|some os=>rw[eo]at hrun;cases hrun;obtain⟨l1,l2⟩:=lh rfl ok a1 eo;exactλv rv=>q v H' l1 (l2 v _ (aL.Ro (c:=⟨H,B,bQ 0 ss vs,λu u=>False⟩) (g:=g) rv))
theorem DZ{x:Str}{st:Stmt}{N:List Str}{k:Nat}{fb:DS}{G:DX}(F:dM K x qual st f fd)(hm:mg x=some (.ref f))(hb:Binds K fd ps [])(S:fA N ps (bG st))(dC:∀(c:Fc)(aQ:Value)(A:Wp)(outer:List Env)(s:W1)(H:Hp)(E:XK),cj k (A.deeper (Ji qual (bG st) s.heap.objs.size f aQ))->Np c np->lD (eQ (kj P w) P w K mg base N qual (bG st) f aQ A outer s H E) (wD mg c)->fm (eQ (kj P w) P w K mg base N qual (bG st) f aQ A outer s H E) c (eR st) fb)(hG:∀ss y,G ss=some y->cP np 0 ss=true/\lE fb N.length ss=some y):kl P w K mg base (k+1) x ps.length G:=⟨f,fd,ps,hm,F.kp,hb,Rp F S dC hG⟩
def xl:S×List S⊕Xc×List S->List S|.inl y=>y.2|.inr y=>y.2
def p9(G:DX):Prop:=∀ss y,G ss=some y->∀(j:Nat),(∀d,ss[j]?=some (.own d)->∃d',(xl y)[j]?=some (.own d'))/\∀d,ss[j]?=0#d->∃d',(xl y)[j]?=0#d'
theorem Rq{os:List S}(e:bZ 0 ss Y=some os)(j:Nat):(∀d,ss[j]?=some (.own d)->∃d',os[j]?=some (.own d'))/\∀d,ss[j]?=0#d->∃d',os[j]?=0#d':=by
 obtain⟨h1,h2⟩:=pL e;refine⟨λd ed=>?_,λd ed=>?_⟩
 .rcases h2 j _ ed with⟨d',z,_⟩|⟨d',d'',_,_,z⟩;.cases z
  .exact⟨d'',z⟩
 .rcases h2 j _ ed with⟨d',z,z'⟩|⟨d',d'',z,_⟩;.exact⟨d',z'⟩
  .cases z
theorem Rr{fb}(h:lE fb n ss=some y):∃Y,bZ 0 ss Y=some (xl y):=by unfold lE at h;cases e:fb (bW n ss)with
 |stuck=>rw[e]at h;cases h|exc x Y=>rw[e]at h;simp only at h;cases e2:bZ 0 ss Y with|none=>rw[e2]at h;cases h|some os=>rw[e2]at h;cases h;exact⟨Y,e2⟩
 |ok fl Y=>rw[e]at h;simp only at h;cases e1:dS fl with|none=>rw[e1]at h;cases h|some r=>rw[e1]at h;simp only[WO]at h;cases e2:bZ 0 ss Y with|none=>rw[e2]at h;cases h|some os=>rw[e2]at h;cases h;exact⟨Y,e2⟩
def jh(np:List Nat)(n:Nat)(b:DS):DX:=λss=>if cP np 0 ss then lE b n ss else none
theorem xn(h:jh np n b ss=some y):cP np 0 ss=true/\lE b n ss=some y:=by
 unfold jh at h;split at h;.exact⟨by assumption,h⟩
 .cases h
theorem D0{b:DS}:p9 (jh np n b):=λss y h j=>by obtain⟨Y,e⟩:=Rr (xn h).2;exact Rq e j
def g9(G:DX)(as:List Ak):DE:=λY=>if(bJ as).all (cG Y)&&cK (bJ as)then(cC as Y).bind λds SL=>match b7 as ds SL with|none=>.stuck|some ss=>match G ss with|none=>.stuck|some (.inl (r,aH))=>.ok r (bp as aH SL)|some (.inr (x,aH))=>.exc x (bp as aH SL)else .stuck
section
variable{c:Fc}{k:Nat}{x:Str}{G:DX}
universe H in theorem Rt(hK:p9 G)(hl:as.length=n)(h:tD c (g9 G as) Z H Q):tX c as Z H λvs H1=>tQ X.mg n G vs H1 Q λc' dx H'=>∃C,c'=.ref C/\wD X.mg c C dx Z H':=by
 obtain⟨Y,kk,q⟩:=h;unfold g9 at q;split at q
 .rename_i hc;rw[Wn]at hc;have nd:=s_ hc.2;rw[bo]at q;refine⟨Y,kk,λi hi=>?_,aM q λds SL q1 vs H1 a1 r1=>?_⟩
  .have:=WV.mp hc.1 i (kf.mpr hi);unfold cG at this;split at this;.rename_i d ed;exact px kk ed
   .cases this
  .cases em:b7 as ds SL with|none=>rw[em]at q1;exact q1.elim|some ss=>rw[em]at q1;simp only at q1;cases eg:G ss with|none=>rw[eg]at q1;exact q1.elim|some y=>rw[eg]at q1;have kg:=wM a1.ok r1 em nd;obtain⟨m1,m2,_⟩:=pN r1 em;have g2:=hK ss y eg;refine⟨ss,_,by rw[<-m2];exact hl,kg,y,eg,?_⟩;cases y with|inl y=>obtain⟨r,aH⟩:=y;intro v H2 a2 r2;obtain⟨o1,o2⟩:=tm a1.ok r1 em nd rfl a2 (λj d ed=>(g2 j).1 d ed) λj d ed=>(g2 j).2 d ed;exact q1 v H2 (a1.trans o1) (aL.back (o2 v r r2) a1)|inr y=>obtain⟨z,aH⟩:=y;intro C dx v H2 hm a2 rv hv;obtain⟨o1,o2⟩:=tm a1.ok r1 em nd rfl a2 (λj d ed=>(g2 j).1 d ed) λj d ed=>(g2 j).2 d ed;exact⟨C,rfl,z,bp as aH SL,v,hm,o1.ok,o2 v (.pure z.j4) rv,hv,q1⟩
 .exact q.elim
theorem Rv(F:kl X.prog X.w X.K X.mg X.base k x n G)(hK:p9 G)(hr:cj k X.A)(hex:X.ex=[])(hx:lD X (wD X.mg c))(hg:Gl X x)(ha:SX X c (e::es) as)(hl:as.length=n)(cU:(x==("__debug__":Str))=false:=by decide)(he:Wa (e::es) X.env=(false,eval e X.env)::Wa es X.env:=by rfl)(bT:(Qp pos (Wa es X.env)).any (·.1)=false:=by rfl):SE X c (.Call (.Name x pp) (e::es) [] pos) (g9 G as):=by obtain⟨f,fd,ps,hm,hk,hb,ok⟩:=F;exact PE.weak (DY ok hr hex hg hm hk hb hx ha cU he bT) λZ H Q h=>Rt hK hl h
end
def xo(Y:Dl):Bool:=Y.all fun|some (.own _)=>false|_=>true
def unset(i:Nat):Rs Fl->Rs Fl|.ok fl Y=>.ok fl (Y.set i none)|r=>r
def mL(ce:Tx->Nat)(ys:List Tx)(i:Nat)(fb fh:DS):DS:=λY=>if xo Y then match fb Y with|.exc x P3=>if ys.contains x.cls&&decide (i<P3.length)then unset i (fh (P3.set i 0#(.exc (ce x.cls) x.j4)))else .stuck|r=>r else .stuck
section
variable{c:Fc}
theorem Rw(h:Np c []):c.pin=[]:=by cases e:c.pin with|nil=>rfl|cons p r=>have:=h p %[e|WA];simp at this
theorem aK.unset(x:aK c Z₀ Y₀ H₀ Z Y H)(hp:c.pin=[])(i:Nat):aK c Z₀ Y₀ H₀ (Z.set i none) (Y.set i none) H:=by
 have k:=x.ok;have back:∀{α:Type}{l:List (Option α)}{j:Nat}{v:α},(l.set i none)[j]?=some (some v)->l[j]?=some (some v)/\i≠j:=λ{α l j v}e=>by
  by_cases hj:i=j;.subst hj;rw[Q6]at e;simp at e
  .rw[Wc hj]at e;exact⟨e,hj⟩
 have own:∀a,Own (Z.set i none) (Y.set i none) a->Own Z Y a:=λa⟨j,d,e1,e2⟩=>⟨j,d,(back e1).1,(back e2).1⟩;have av:∀a,Av c (Z.set i none) (Y.set i none) a->Av c Z Y a:=λa z=>z.elim .inl λz=>.inr (own a z);refine⟨⟨k.keep,k.bd,k.dj,#v[k.len],λj d e=>?_,λj d e=>?_,λj1 j2 a d d' e1 e2 e3 e4=>k.inj j1 j2 a d d' (back e1).1 (back e2).1 (back e3).1 (back e4).1,λp hm=>by rw[hp]at hm;simp at hm⟩,x.keep,λa z=>x.own a (own a z),x.there⟩;.obtain⟨e',n⟩:=back e;obtain⟨v,e1,r⟩:=k.slot j d e';exact⟨v,%[Wc n|e1],r.aS λa z=>.inl (av a z)⟩
 .obtain⟨e',n⟩:=back e;obtain⟨a,e1,r,q⟩:=k.own j d e';exact⟨a,%[Wc n|e1],r.aS λa z=>.inl (av a z),q⟩
end
section
variable{c:Fc}{g:Xc->Dl->Prop}
theorem Ok.D1(k:Ok c Z Y H)(h:xo Y=true):Ok ⟨H,c.B,[],g⟩ Z Y H:=⟨λj j e j=>e,k.bd,λa⟨i,z⟩=>by simp at z,k.len,k.slot,λi d e=>(by have:=WV.mp h _ (WQ e);cases this),k.inj,λp z=>by simp at z⟩
theorem Ok.mM(k:Ok c Z Y H)(hp:c.pin=[])(k':Ok ⟨H,B',[],g⟩ Pv P3 H'):Ok {c with B:=B'} Pv P3 H':=by
 have nI:∀a,¬c.I a:=λa⟨i,z⟩=>by rw[hp]at z;simp at z
 have D2:∀a,¬(⟨H,B',[],g⟩:Fc).I a:=λa⟨i,z⟩=>by simp at z
 refine⟨λa o e n=>k'.keep a o (k.keep a o e n) (D2 a),k'.bd,λa z=>absurd z (nI a),k'.len,k'.slot,λi d e=>?_,k'.inj,λp z=>by rw[show({c with B:=B'}:Fc).pin=c.pin from rfl,hp]at z;simp at z⟩;obtain⟨a,e1,r,q,nb⟩:=k'.own i d e;refine⟨a,e1,r,.inr ?_,nb⟩;rcases q with q|q;.exact absurd q (D2 a)
 .exact k.j5 q
theorem aK.mM(k:Ok c Z Y H)(hp:c.pin=[])(x:aK ⟨H,c.B,[],g⟩ Z Y H Pv P3 H'):aK c Z Y H Pv P3 H':=⟨k.mM hp x.ok,x.keep,x.own,x.there⟩
theorem aL.mM(k:Ok c Z Y H)(hp:c.pin=[])(h:aL ⟨H,c.B,[],g⟩ Pv P3 H H' v r):aL c Pv P3 c.H₀ H' v r:=by cases r with|pure d=>exact h|own d=>obtain⟨a,e,o,n,f,k',q⟩:=h;exact⟨a,e,o,n,k.j5 f,k.mM hp k',k.j5 f⟩
theorem aL.unset(hp:c.pin=[])(i:Nat)(h:aL c Z Y Hs H v r):aL c (Z.set i none) (Y.set i none) Hs H v r:=by
 have own:∀a,Own (Z.set i none) (Y.set i none) a->Own Z Y a:=λa⟨j,d,e1,e2⟩=>by
  have back:∀{α:Type}{l:List (Option α)}{v:α},(l.set i none)[j]?=some (some v)->l[j]?=some (some v):=λ{α l v}e=>by
   by_cases hj:i=j;.subst hj;rw[Q6]at e;simp at e
   .rw[Wc hj]at e;exact e
  exact⟨j,d,back e1,back e2⟩
 cases r with|pure d=>exact Rep.aS h λa z=>.inl (z.elim .inl λz=>.inr (own a z))|own d=>obtain⟨a,e,o,n,f,k,q⟩:=h;exact⟨a,e,o.aS λb z=>.inl (z.elim .inl λz=>.inr (own b z)),n,f,(aK.unset (aK.refl k) hp i).ok,q⟩
end
universe H in theorem Rx{n fb np}(hex:X.ex=[])(eU:Np c [])(cL:X.stack=X.env::X.outer)(hf:X.env.frame=some X.env.locals)(hN:X.N.Nodup)(hi:X.N[i]?=some n)(hl:X.env.scope.names.lookup n=some .local)(hg:Gl X x)(hm:X.mg x=some (.ref B))(qB:mJ X.K B)(Ry:∀y∈ys,X.mg (toS y)=some (.ref (ce y))/\PySem.W.mroIn X.K (ce y) (.ref B)=some true)(hb:∀(c':Fc)(pn:List (Addr×Obj))(xe:Value->W1->Prop),Np c' []->lD (X.wt pn xe) (wD X.mg c')->fm (X.wt pn xe) c' body fb)(hh:∀a,fm (X.hand a) c (b₀::tP) fh)(cU:(x==("__debug__":Str))=false:=by decide):SS X c (.Try body [.ExceptHandler (some (.Name x np)) (some n) (b₀::tP) xj] [] [] pos) (mL ce ys i fb fh):=by
 have hp:=Rw eU;refine PS.weak (Ri (i:=i) (B:=B) (th:=λ_ _=>k9 c fh) (tb:=λW D Z H=>k9 ⟨H,c.B,[],λz P3=>∀Pv H',Ok ⟨H,c.B,[],λ_ _=>False⟩ Pv P3 H'->∀C dx v,X.mg (toS z.cls)=some (.ref C)->Rep H' (Av ⟨H,c.B,[],λ_ _=>False⟩ Pv P3) v z.j4->(∀y,v=.ref y->dx=some y)->W C dx Pv H'⟩ fb D Z H) hex cL hf hN hi hl hg hm qB cU (λW pn xe acc pins s Z H D I hw=>hb _ pn xe (λp z=>by simp at z) (λps Pv H' s' a C dx J co⟨y,P3,v,hy,k',rv,hv,w'⟩=>acc ps Pv H' s' a C dx J co (w' Pv H' ⟨k'.keep,k'.bd,k'.dj,k'.len,k'.slot,k'.own,k'.inj,k'.pinned⟩ C dx v hy rv hv)) pins s Z H D I hw) λ_ a=>hh a) λD Z H⟨Y,k,q⟩=>?_;unfold mL at q;split at q;.rename_i dh;refine⟨Y,k.D1 dh,?_⟩;unfold dq at q⊢;cases e:fb Y with
 |stuck=>rw[e]at q;exact q.elim|ok fl P3=>rw[e]at q;intro Pv H' a;have f0:=q Pv H' (aK.mM k hp a);cases fl with|next=>exact f0|brk=>exact f0|cont=>exact f0|ret r=>exactλv rv=>f0 v (aL.mM k hp rv)
 |exc z P3=>
   rw[e]at q;simp only at q;split at q;.rename_i hc;simp only[Wn,decide_eq_true_eq]at hc;obtain⟨hy,bz⟩:=hc;intro Pv H' k' C dx v hC rv hv;obtain⟨y1,y2⟩:=Ry z.cls (~~~hy);rw[y1]at hC;cases hC;refine⟨y2,v,hv,λa ha=>?_⟩;have A1:aK c Z Y H Pv P3 H':=aK.mM k hp (Ok.since (c:=⟨H,c.B,[],λ_ _=>False⟩) rfl (k.D1 dh) (λa⟨j,z⟩=>by simp at z) k');have A2:=A1.trans (aK.alloc A1.ok ha (.ext (excAt (ce z.cls) v a)));have A3:=Ok.set (i:=i) (v:=.ref a) (r:=.pure (.exc (ce z.cls) z.j4)) A2 (.exc (A1.ok.i5 ha) cz (Rep.da rv (aK.alloc A1.ok ha _))) (λp zz=>by rw[hp]at zz;simp at zz);refine⟨P3.set i 0#(.exc (ce z.cls) z.j4),A3.ok,?_⟩;unfold dq;generalize fh (P3.set i 0#(.exc (ce z.cls) z.j4))=r at q;cases r with|stuck=>exact q.elim|exc z' Os=>exact q|ok fl Os=>intro On H4 A4;have f0:=q (On.set i none) H4 (aK.unset (A3.trans A4) hp i);cases fl with|next=>exact f0|brk=>exact f0|cont=>exact f0|ret r=>exactλv rv=>f0 v (aL.unset hp i rv)
   .exact q.elim
 .exact q.elim
section
open PySem.W Builtin Builtin.ObjectAttr Builtin.Getset_descriptor
section
variable{e:Addr}{h:Heap}{g:Array GenState}{d:Drawn}{t:Nat}
structure mP(K:W2)(C:Addr):Prop where
 ga:findIn K (.ref C) "__getattribute__"=some (some (.builtin "BaseException.__getattribute__"))gt:findIn K (.ref C) "__getattr__"=some none
 cl:findIn K (.ref C) "__class__"=some (some (.builtin "object.__class__"))sp:specialIn K (.builtin "object.__class__") "__get__"=some (some (.builtin "getset_descriptor.__get__"))tk:takesIn K (.builtin "object.__class__")=some true
 mo:mroIn K C (.type "object")=some true
 mb:mroIn K C (.type "BaseException")=some true
theorem Rz(X:K.In h)(k:mP K C)(he:h.get? e=some oe)(hc:oe.cls=.ref C)(q:R (.ok (.ret (.ref C))) ⟨h,g,d,t,os⟩):J4 4#0 A (.call (.builtin "getset_descriptor.__get__") ⟨[.builtin "object.__class__",.ref e,tp],[]⟩) R ⟨h,g,d,t,os⟩:=by
 have l1:Looks 4#0 h (typeOf (.ref e)) (.ref C):=hc▸(Looks.ld he).andThen .now;have l2:=looks_mroIn (M:=4#0) X k.mo;refine codeAny_call_builtin KF.slot_gs.plain KF.entry_gs (KF.slot_gs.check _ _ _ _ _ _ _ _ KF.type_class (KF.args_gs _ _ _) ?_);unfold Builtin.«getset_descriptor.__get__» descrGet;rw[dga_obj];refine W0 (W3 ?_);unfold descrGetter descrCheckInstance descrNameAndClass isInstance;simp only[KF.owner_class];repeat lk
 refine⟨Code.quiet_builtin _ V',codeAny_builtin KF.entry_class ?_⟩;unfold Builtin.«object.__class__» shownTypeOf;repeat lk
 exact q
theorem RA(X:K.In h)(k:mP K C)(he:h.get? e=some oe)(hc:oe.cls=.ref C)(q:Q (.done (.ret (.ref C))) ⟨h,g,d,t,os⟩):W8 4#0 A (Builtin.«object.__getattribute__» ⟨[.ref e,.str "__class__" tk],[]⟩) Q E ⟨h,g,d,t,os⟩:=by
 have l0:Looks 4#0 h (typeOf (.ref e)) (.ref C):=hc▸(Looks.ld he).andThen .now;have l1:=looks_findIn (M:=4#0) X k.cl;have l2:=KF.type_class;have l3:=F.slot_gs_get.lookup;have l4:=F.slot_gs_set.lookup;repeat(any_goals(first|assumption|with_reducible refine Looks.at l0 ?_|with_reducible refine Looks.at l1 ?_|(with_reducible refine QA he ?_;rw[hc])|wp_step))
 refine Rz X k he hc ?_;repeat(any_goals(first|assumption|wp_step))
theorem RB(X:K.In h)(k:mP K C)(he:h.get? e=some oe)(hc:oe.cls=.ref C)(q:Q () ⟨h,g,d,t,os⟩):W8 4#0 A (checkBuiltinCall "BaseException.__getattribute__" ⟨[.ref e,nv],[]⟩) Q E ⟨h,g,d,t,os⟩:=by
 have l0:Looks 4#0 h (typeOf (.ref e)) (.ref C):=hc▸(Looks.ld he).andThen .now;have l1:=looks_mroIn (M:=4#0) X k.mb;have b1:builtinKind "BaseException.__getattribute__"=some .slot:=by decide+kernel
 have b2:splitId "BaseException.__getattribute__"=some ("BaseException","__getattribute__"):=by decide+kernel
 have b3:=F.args_bexc_ga (.ref e) nv;simp only[checkBuiltinCall,b1,b2];refine W0 ?_;unfold isInstance;repeat(first|with_reducible refine Looks.at l0 ?_|with_reducible refine Looks.at l1 ?_|(with_reducible refine QA he ?_;rw[hc])|wp_step)
 exact q
theorem RC(X:K.In h)(k:mP K C)(he:h.get? e=some oe)(hc:oe.cls=.ref C)(q:Q (some (.ref C)) ⟨h,g,d,t+1,os⟩):W8 4#0 A (getAttr? (.ref e) "__class__") Q E ⟨h,g,d,t,os⟩:=by
 have L0:Looks 4#0 h (typeOf (.ref e)) (.ref C):=hc▸(Looks.ld he).andThen .now;have L1:=looks_findIn (M:=4#0) X k.ga;have L2:=looks_findIn (M:=4#0) X k.gt;have L3:=looks_mroIn (M:=4#0) X k.mb;have ZE:(false&&onTheHeap (Value.builtin "BaseException.__getattribute__"))=false:=rfl;have RD:(Value.builtin "BaseException.__getattribute__"==Value.builtin "object.__getattribute__")=false:=by decide+kernel
 have f3:=F.attrBase_ValueError.ga.bind (.ref e);unfold getAttr? getAttrBy? getAttrBy;refine W0 (wpAny_mkText (W0 (wpAny_attempt (WP (W0 (L0.at (W0 (L1.at ?_))))))));dsimp only;rw[RD,Bool.and_false];simp only[WZ,if_false];unfold getAttrByItsOwn hookBefore;repeat(any_goals(first|assumption|with_reducible refine Looks.at L2 ?_|wp_step))
 refine codeAny_call_builtin F.attrBase_ValueError.ga.plain F.entry_bexc_ga (RB X k he hc (RA X k he hc ?_));repeat(any_goals(first|assumption|wp_step))
universe H in theorem RE{v:V}(k:mP K C)(hk:(clsIn K C).isSome=true):KitX K (.ref e) (.ref C) (excAt C v e)where
 ty:=λM h X⟨o,h1,h2,_⟩=>h2▸(Looks.ld h1).andThen .now
 it:=λM h X j=>by
  obtain⟨cd,dA⟩:=Qr.mp hk;unfold clsIn at dA;split at dA;next c' d' cd' sl' ho=>exactλA' Q' E' s' kk q=>by unfold isType loadHead;exact W0 (wpAny_loadPart (kk _ _ (X _ _ ho)) (W3 q))
  next=>cases dA
 ne:=λh tp dd af n sl X RF=>by
  obtain⟨cd,dA⟩:=Qr.mp hk;refine Bool.eq_false_iff.mpr λq=>?_;obtain rfl:C=tp:=Value.ref.inj (beq_iff_eq.mp q);unfold clsIn at dA;split at dA;next c' d' cd' sl' ho=>have z:=(X _ _ ho).symm.trans RF;cases z
  next=>cases dA
 ca:=λ{prog w A E Q s}X⟨o,h1,h2,_⟩q=>by obtain⟨hh,gg,dd,tt,oo⟩:=s;exact RC X k h1 h2 q
end
open PySem.W PySem.Builtin PySem.Builtin.ObjectAttr
def tR:List Value->Bool|.ref _::r=>tR r|l=>l==ki
theorem xp(self:Value):∀{l:List Value},tR l=true->refuseLoop self "__setattr__" l=pure ()|[],e=>by cases e|.ref c::r,e=>%[refuseLoop_ref|xp self e]|.none::r,e=>by cases e|.type n::r,e=>by have:Value.type n::r=ki:=beq_iff_eq.mp e;rw[this];exact PySem.F.store_ValueError.passes self|.bool b::r,e=>by cases beq_iff_eq.mp (show((Value.bool b::r)==ki)=true from e)|v::r,e=>by cases v<;>first|(rw[refuseLoop_ref];exact xp self e)|(rw[show _=ki from beq_iff_eq.mp e];exact PySem.F.store_ValueError.passes self)
theorem D3:∀{l:List Value},tR l=true->l.contains (.type "object")=true|[],e=>by cases e|v::r,e=>by cases v<;>first|(rw[U9,D3 (l:=r) e,Bool.or_true])|(rw[show _=ki from beq_iff_eq.mp e];decide)
def tU(K:W2)(C:Addr):Bool:=(clsIn K C).any λcd=>tR cd.mro
section
variable{x:Addr}{v:Value}{R:Result->W1->Prop}
theorem RG(X:K.In s.heap)(I:InstAt s.heap x ox C od)(hp:tU K C=true)(ht:takerIn K C name=some none)(q:∀b,W8 4#0 A.in1 (storeInOwnDict (.ref x) (.ref C) (.str name tk) name v b) (λfin s'=>match fin with|.done f=>R (.ok f) s'|.again c'=>c'.quiet=true/\J4 4#0 A c' R s') (λe s'=>R (.error e) s') s):J4 4#0 A (.call (.builtin "object.__setattr__") ⟨[.ref x,.str name tk,v],[]⟩) R s:=by
 have SF:=PySem.F.store_object;obtain⟨cd,hc,ho⟩:=any_some hp;have ne:cd.mro.isEmpty=false:=by cases z:cd.mro with|nil=>rw[z]at ho;cases ho|cons _ _=>rfl
 have sub:Looks 4#0 s.heap (isInstance (.ref x) (.type "object")) true:=I.type.andThen (looks_mroIn X (by unfold mroIn;rw[hc,WO,if_neg (by rw[ne];decide),D3 ho]));refine codeAny_call_builtin SF.slot.plain SF.entry (@check_slot 4#0 _ _ s "object.__setattr__" "object" "__setattr__" (.ref x) [.str name tk,v] [] _ SF.kind SF.split sub (SF.args (.ref x) (.str name tk) v) ?_);obtain⟨attr,ha,hr⟩:=Option.bind_eq_some_iff.mp ht;have hm:Looks 4#0 s.heap (mroOf (.ref C)) cd.mro:=(looks_clsIn X hc).andThen .now;have L3:Looks 4#0 s.heap (storeTaker? attr) none:=by cases attr with|none=>exact .now|some a=>
   obtain⟨b,hb,hn⟩:=Option.map_eq_some_iff.mp hr;refine(looks_takesIn X hb).andThen ?_;cases b;.exact .now
   .cases hn
 rw[osa_eq,refuse_eq];refine W0 (W0 (I.type.here (W0 (hm.here ?_))));rw[xp _ ho];exact W3 (W0 (I.type.here (W0 ((looks_findIn X ha).here (W0 (L3.here (q _)))))))
theorem RH{vs sl}(X:K.In s.heap)(hx:s.heap.get? x=some ⟨.ref C,none,.fields vs,sl⟩)(hs:findIn K (.ref C) "__setattr__"=some (some (.builtin "object.__setattr__")))(hp:tU K C=true)(ht:takerIn K C name=some none)(hh:hasDictIn K C=true)(q:∀h' tk,h'.get? x=some ⟨.ref C,some s.heap.objs.size,.fields vs,sl⟩->(∀b o,b≠x->s.heap.get? b=some o->h'.get? b=some o)->h'.Ns1 s.heap.objs.size (λz=>if z=name then some v else none)->Q () {s with heap:=h',toks:=tk}):W8 4#0 A (setAttr (.ref x) name v) Q E s:=by have J:InstAt s.heap x ⟨.ref C,none,.fields vs,sl⟩ C none:=⟨hx,rfl,rfl,trivial⟩;refine set_plain X J hs (RG (s:={s with toks:=s.toks+1}) X J hp ht λb=>?_);obtain⟨cd,hc,hd'⟩:=any_some hh;have D4:(s.heap.push {cls:=.type "dict",data:=.dict #[]}).get? x=some ⟨.ref C,none,.fields vs,sl⟩:=W6 _ hx;have D5:x≠s.heap.objs.size:=Qd (Wm hx);refine W0 (W3 (W0 (W0 (wpAny_loadPart hx (W0 (PySem.W.Looks.here (s:={s with toks:=s.toks+1}) (PySem.W.looks_clsIn X hc) ?_))))));rw[hd'];show W8 _ _ (alloc {cls:=.type "dict",data:=.dict #[]}>>=λd=>(update x λo=>{cls:=o.cls,dict:=some d,data:=o.data,slots:=o.slots})>>=λj=>dictMade (.ref C) x d) _ _ _;refine W0 (wpAny_alloc' (W0 (wpAny_update' D4 (W3 ?_))));have gd:((s.heap.push {cls:=.type "dict",data:=.dict #[]}).update x λo=>{cls:=o.cls,dict:=some s.heap.objs.size,data:=o.data,slots:=o.slots}).get? s.heap.objs.size=some {cls:=.type "dict",data:=.dict #[]}:=(Heap.get?_update_ne _ _ _ _ D5.symm).trans (Heap.get?_push_at rfl rfl);have nd:((s.heap.push {cls:=.type "dict",data:=.dict #[]}).update x λo=>{cls:=o.cls,dict:=some s.heap.objs.size,data:=o.data,slots:=o.slots}).Ns s.heap.objs.size λj=>none:=⟨_,#[],_,gd,rfl,λe he=>absurd he Zw,λj=>rfl⟩;show W8 _ _ (storeInDict s.heap.objs.size (.str name _) name v) _ _ _;unfold storeInDict newKeyGuard;refine W0 (W3 (W0 (wpAny_nsSet1 (Heap.Ns1.of_empty nd) λh' iT sb=>?_)));obtain⟨oD,esD,epD,hoD,hdD,hcD⟩:=iT.count (Within.cons name v Within.nil);refine W0 (wpAny_lookBehind hoD %[hdD|pastItsLine_dict (WF hcD (by rw[WE,QZ,Qi];lia))] ?_);refine W3 (q h' _ ((sb.2 x D5).trans (Qs _ D4 rfl)) (λb o hb e=>?_) iT);exact(sb.2 b (Qd (Wm e))).trans ((Heap.get?_update_ne _ _ _ _ hb).trans (W6 _ e))
end
def lF(C a:Addr):Heap->Prop:=λh=>∃vs sl a0,h.get? a=some ⟨.ref C,none,.fields vs,sl⟩/\vs[0]?=some a0/\vs[1]?=some .none
def iG(C:Addr)(dx:Option Addr)(a:Addr):Heap->Prop:=λh=>∃vs sl a0,h.get? a=some ⟨.ref C,dx,.fields vs,sl⟩/\vs[0]?=some a0/\vs[1]?=some .none
section
variable{h:Heap}{a:Addr}
theorem RI(q:lF C a h):aZ P w H h a (.ext (lF C a)):=by
 refine⟨q,?_,?_⟩;.obtain⟨vs,sl,a0,e,_⟩:=q;exact⟨_,e⟩
 .rintro h1 h2⟨vs,sl,a0,e,r⟩k;exact⟨vs,sl,a0,k _ e,r⟩
theorem RJ(q:iG C dx a h):aZ P w H h a (.ext (iG C dx a)):=by
 refine⟨q,?_,?_⟩;.obtain⟨vs,sl,a0,e,_⟩:=q;exact⟨_,e⟩
 .rintro h1 h2⟨vs,sl,a0,e,r⟩k;exact⟨vs,sl,a0,k _ e,r⟩
theorem RK{fs:List (Str×V)}(q:j3 fs a h):aZ P w H h a (.ext (j3 fs a)):=by
 refine⟨q,?_,?_⟩;.obtain⟨mA,⟨o,_,_,e,_⟩,_⟩:=q;exact⟨_,e⟩
 .rintro h1 h2⟨mA,⟨o,es,ep,e,c⟩,r⟩k;exact⟨mA,⟨o,es,ep,k _ e,c⟩,r⟩
end
structure tV(K:W2)(C:Addr)(f:Str):Prop where
 set:findIn K (.ref C) "__setattr__"=some (some (.builtin "object.__setattr__"))over:tU K C=true
 hd:hasDictIn K C=true
 tk:takerIn K C f=some none
section
variable{o value:Expr}{f:Str}{tv:TE}
def D6(K:W2)(ta tv:TE)(f:Str):TS:=λD Z H=>tv Z H λy H1=>ta Z H1 λx H2=>∃a C,x=.ref a/\H2 a=some (.ext (lF C a))/\tV K C f/\∀dx,H2 dx=none->dx≠a->D.nx Z (upd (upd H2 a (.ext (iG C (some dx) a))) dx (.ext (j3 [(f,y)] dx)))
theorem RL{f g:Str}{y:V}(r:RelV y u):eF (List.lookup g [(f,y)]) (if g=f then some u else none):=by
 by_cases z:g=f;.subst z;simp[eF,r]
 .rw[Qn,beq_eq_false_iff_ne.mpr z,if_neg z];trivial
theorem RM(hex:X.ex=[])(ha:PE X o ta)(hv:PE X value tv)(hs:Jg value (some (.Attribute o f pos')) pos.line X.env=pure false):PS X (.Assign [.Attribute o f pos'] value pos) (D6 X.K ta tv f):=by intro pins s Z H D I h;refine plainObj_wpAny_Assign_Attribute (aN (hv pins s Z H _ I h) λu s1⟨y,H1,I1,ry,q⟩=>aN (ha pins s1 Z H1 _ I1 q) λov s2 hh=>?_) hs;obtain⟨x,H2,I2,rx,a,C,ex,ea,c,q2⟩:=hh;subst ex;obtain rfl:ov=Value.ref a:=rx;obtain⟨⟨vs,sl,a0,e0,e1,e2⟩,_,_⟩:=show aZ X.prog X.w H2 s2.heap a (.ext (lF C a))from I2.aB a _ ea;have n0:=I2.aB.fresh (W5 s2.heap.objs.size);have ne:s2.heap.objs.size≠a:=Nat.ne_of_gt (Wm e0);refine RH I2.cH e0 c.set c.over c.tk c.hd λh' tk g1 g2 g3=>⟨Z,_,?_,q2 _ n0 ne⟩;have Iw:=I2.write (x:=a) (e:=a) (t':=tk) %[ea|True.intro] (.inl rfl) (λb u nb z=>g2 b u nb z) ⟨_,g1⟩ (RJ (P:=X.prog) (w:=X.w) (H:=upd H2 a (.ext (iG C (some s2.heap.objs.size) a))) ⟨vs,sl,a0,g1,e1,e2⟩);exact Iw.xf (I2.apart hex (JN (W5 _)) %[ba ne|n0]) (RK ⟨_,g3,λg=>RL ry⟩)
end
def lG(K:W2)(C f:Addr):Bool:=match K.lookup C with
 |some ⟨.type "type",_,.cls c,ss⟩=>match c.mro,ss.toList with|.ref C'::bm,[_,_,_,_,some (.builtin n),_]=>C'==C&&n=="ValueError.__new__"&&!c.hasDel&&tailIn K ki bm&&nsOkIn K c.ns&&nsIn K c.ns "__init__"==some (some (.ref f))|_,_=>false
 |_=>false
universe H in theorem RN{h:Heap}{N:Addr}{m:Str->Option Value}{n:Str}{v:Value}(X:K.In h)(G:h.Ns N m)(e:nsIn K N n=some (some v)):m n=some v:=by
 obtain⟨o,es,ep,ho,hd,_,hf⟩:=G;unfold nsIn at e;split at e;next c d jR n' sl q=>
  have z:=X _ _ q;rw[ho]at z;cases z;simp only at hd;injection hd with h1 h2;subst h1;split at e;next x hx=>cases e;rw[<-hf n];unfold nsFind findBy;rw[<-Array.find?_toList,hx];rfl
  next=>split at e<;>cases e
 next=>cases e
universe H in theorem D7{h:Heap}(q:lG K C f=true)(X:K.In h):∃(bm:List Value)(N:Addr)(nm qn:Str)(bs:List Value)(g8:Bool)(sn:List Str)(sub:List Value)(ab:Bool)(col:Option Bool)(dd:Option Addr)(k0 k1 k2 k3 k5:Option Value)(mN:Str->Option Value),h.get? C=some (excClassObj nm qn C N bs bm g8 sn sub ab col dd k0 k1 k2 k3 k5 "ValueError.__new__")/\h.Ns N mN/\mN "__init__"=some (.ref f)/\OwnTail h ki bm:=by
 unfold lG at q;split at q;next dd cd sl lk=>
  split at q;next C' bm k0 k1 k2 k3 n k5 e1 e2=>
   simp only[Wn,beq_iff_eq,JI]at q;obtain⟨⟨⟨⟨⟨c1,c2⟩,c3⟩,c4⟩,c5⟩,c6⟩:=q;subst c1;subst c2;have e3:sl=#[k0,k1,k2,k3,some (.builtin "ValueError.__new__"),k5]:=by cases sl;simp only at e2;rw[e2]
   subst e3;cases cd;simp only at e1 c3 c4 c5 c6 lk;subst e1;subst c3;have hN:=Heap.Ns.of_isNs (isNs_of_in X c5);exact⟨bm,_,_,_,_,_,_,_,_,_,dd,k0,k1,k2,k3,k5,_,X _ _ lk,hN,RN X hN c6,tail_of_in X c4⟩
  next=>cases q
 next=>cases q
section
variable{k:Nat}{x:Str}{p:Pos}{t:TA}
theorem RO{h:Heap}(X:K.In h)(q:isFn K (.ref f)=true):∃o,h.get? f=some o/\o.cls=.type "function":=by have z:(K.lookup f).map (·.cls)=some (.type "function"):=beq_iff_eq.mp q;obtain⟨o,lk,e⟩:=Option.map_eq_some_iff.mp z;exact⟨o,X _ _ lk,e⟩
theorem RP{Q:VK}(q:lG X.K C f=true)(iU:isFn X.K (.ref f)=true)(F:eO X.prog X.w X.K X.mg X.base di k f fd ps sp)(hr:cj (k+1) X.A)(hb:Binds X.K fd ps [])(hex:X.ex=[])(I:Inv X pins Z H s)(r:Vals vs us)(hl:us.length<=W7)(h:∀a,H a=none->X.s₀.heap.get? a=none->sp (.ref a::vs) (upd H a (.ext (lF C a))) (λv H2=>v=.aI/\Q (.ref a) H2) E0):W8 5#0 X.A (call (.ref C) us) (EP X pins Z Q) X.xe s:=by
 obtain⟨bm,N,nm,qn,bs,g8,sn,sub,ab,col,dd,k0,k1,k2,k3,k5,mN,hC,hN,hi,hT⟩:=D7 q I.cH;obtain⟨o,hf,pZ⟩:=RO I.cH iU;obtain⟨hp,g,d,tk,os⟩:=s;refine P7 PySem.F.excBase_ValueError hT hC hN hi hf pZ (λh' a hm=>?_) hl;obtain⟨t0,ht,_,_⟩:=hm.there;have I1:Inv X pins Z H ⟨h',g,d,tk,os⟩:=I.kept (t':=tk) hm.keeps;have g1:=I.gone hex hm.new;have ap:=I.apart hex hm.new g1.1;have I2:Inv X pins Z (upd H a (.ext (lF C a))) ⟨h',g,d,tk,os⟩:=I1.xf ap (RI ⟨_,_,_,ht,rfl,rfl⟩);have hq:=h a g1.1 g1.2;have r2:Vals (V.ref a::vs) (Value.ref a::us):=.cons rfl r;have p_:(Value.ref a::us++[]).length=ps.length:=by rw[WT,<-r2.length];exact F.len _ _ _ _ hq
 refine wpAny_call (U4 (F.run _ X.stack _ _ ⟨Value.ref a::us,[]⟩ (Value.ref a::us) _ _ E0 (hr.make C us []) (I2.rV.make C us []) (by have:=hb _ (Value.ref a::us) I2.cH p_;rwa[WT]at this) r2 hq) λrr s' qa=>?_);cases rr with|error z=>exact qa.elim|ok fl=>cases fl with|ret u=>obtain⟨v,H',I3,rv,ev,q3⟩:=I2.after qa;subst ev;exact⟨rv,⟨V.ref a,H',I3,rfl,q3⟩⟩|next=>exact False.elim qa|brk=>exact False.elim qa|cont=>exact False.elim qa
theorem RQ(q:lG X.K C f=true)(iU:isFn X.K (.ref f)=true)(hk:keepIn X.K (.ref C)=true)(F:eO X.prog X.w X.K X.mg X.base di k f fd ps sp)(hr:cj (k+1) X.A)(hb:Binds X.K fd ps [])(hex:X.ex=[])(hg:Gl X x)(hm:X.mg x=some (.ref C))(ha:PA X (e::es) t)(hl:(e::es).length<=100)(cU:(x==("__debug__":Str))=false:=by decide)(he:Wa (e::es) X.env=(false,eval e X.env)::Wa es X.env:=by rfl)(bT:(Qp pos (Wa es X.env)).any (·.1)=false:=by rfl):PE X (.Call (.Name x p) (e::es) [] pos) λZ H Q=>t Z H λvs H1=>vs.length<=100/\∀a,H1 a=none->X.s₀.heap.get? a=none->sp (.ref a::vs) (upd H1 a (.ext (lF C a))) (λv H2=>v=.aI/\Q (.ref a) H2) E0:=by intro pins s Z H Q I h;refine Jh (l_ I hg hm ?_ cU);refine callWith_K (h₀:=X.base) I.ok.mod.l5 hk (aN (ha pos pins s Z H _ I h) λus s1⟨vs,H1,I1,r,q1⟩=>⟨I1.cH,?_⟩) he bT;exact RP q iU F hr hb hex I1 r (by rw[Qt,<-r.length,Qi];have:=q1.1;lia) q1.2
end
def xq(K:W2)(fl:List Str):Sp:=λvs H Q j=>∃a C ys,vs=.ref a::ys/\ys.length=fl.length/\H a=some (.ext (lF C a))/\(∀f∈fl,tV K C f)/\∀dx,H dx=none->dx≠a->Q .aI (upd (upd H a (.ext (iG C (some dx) a))) dx (.ext (j3 (fl.zip ys) dx)))
section
variable{x f1 f2:Str}{st:Stmt}{N:List Str}{k:Nat}
theorem RS(F:dM K x qual st f fd)(S:fA N ps (bG st))(fJ:ps.length=2)(h0:∀vs:List V,vs.length=2->start N vs=vs.map some)(dC:∀(aQ:Value)(A:Wp)(outer:List Env)(s:W1)(H:Hp)(E:XK),cj k (A.deeper (Ji qual (bG st) s.heap.objs.size f aQ))->c_ (eQ di P w K mg base N qual (bG st) f aQ A outer s H E).iV (eR st) (D6 K (dz 0) (dz 1) f1)):eO P w K mg base di (k+1) f fd ps (xq K [f1]):=by refine F.ok S λvs H Q E hh=>by obtain⟨a,C,ys,e,l,_⟩:=hh;rw[e,fJ,WE,l];rfl λaQ A outer s H vs Q E hr⟨a,C,ys,e,l,ea,c,q⟩=>⟨_,dC aQ A outer s H E hr,?_⟩;subst e;obtain⟨y,rfl⟩:=List.length_eq_one_iff.mp l;rw[h0 _ rfl];exact⟨y,rfl,.ref a,rfl,a,C,rfl,ea,c _ Zw,q⟩
end
theorem aZ.less:∀{b:Addr}{o:HO},aZ P w (upd H a (.ext φ)) h b o->aZ P w H h b o:=by
 have dn:∀{c:Addr}{u:HO},upd H a (.ext φ) c=some u->(∀ψ,u≠.ext ψ)->H c=some u:=λ{c u}e n=>by
  by_cases hc:c=a;.subst hc;rw[cz]at e;cases e;exact absurd rfl (n φ)
  .rw[ba hc]at e;exact e
 intro b o;induction o generalizing b with|dT ao=>rintro⟨h1,h2,xs,h3,h4⟩;refine⟨h1,h2,xs,Lake.Paired.uZ h3 λp q⟨e1,e2,e3⟩=>⟨e1,dn e2 (λψ z=>by cases z),e3⟩,h4⟩|ins C dx fs=>rintro⟨h1,h2⟩;exact⟨dn h1 (λψ z=>by cases z),h2⟩|frz ob u ih=>exactλ⟨h1,h2⟩=>⟨h1,ih h2⟩|ctab pos q=>exactλ⟨ps,h1,h2,h3⟩=>⟨ps,h1,h2,λcv z=>let⟨c',oc,z1,z2,z3⟩:=h3 cv z;⟨c',oc,z1,dn z2 (λψ z=>by cases z),z3⟩⟩|_=>exactλx=>x
theorem Inv.RT(I:Inv X pins Z (upd H a (.ext φ)) s)(hn:H a=none):Inv X pins Z H s:=by
 have dn:∀{c:Addr}{u:HO},upd H a (.ext φ) c=some u->(∀ψ,u≠.ext ψ)->H c=some u:=λ{c u}e n=>by
  by_cases hc:c=a;.subst hc;rw[cz]at e;cases e;exact absurd rfl (n φ)
  .rw[ba hc]at e;exact e
 have no:∀{c:Addr},upd H a (.ext φ) c=none->H c=none:=λ{c}e=>by
  by_cases hc:c=a;.subst hc;exact hn
  .rw[ba hc]at e;exact e
 refine⟨I.ok,I.os,I.bare,⟨I.base.keep,I.base.slot,λb o e n hx=>no (I.base.free b o e n hx),I.base.there,λb xs e=>dn (I.base.iq b xs e) (λψ z=>by cases z),λb o u e=>dn (I.base.gN b o u e) (λψ z=>by cases z),λb ps e=>?_⟩,I.loc,I.cell,no I.free,λx c e=>no (I.dW x c e),λp hp=>?_,λb o e=>?_,I.len⟩;.obtain⟨m,q⟩:=I.base.iQ b ps e;exact⟨m,dn q λψ z=>by cases z⟩
 .obtain⟨e,n,r⟩:=I.pin p hp;exact⟨e,no n,r⟩
 .have hb:b≠a:=λz=>by rw[z,hn]at e;cases e
  exact(I.aB b o %[ba hb|e]).less
section
variable{call:Expr}
theorem RU{W:Option Addr->St->Hp->Prop}(q:lG X.K C f=true)(hc:X.calm=true)(he:PE X call te)(nF:∀pins Z H s a dx,Inv X pins Z (upd H a (.ext (iG C dx a))) s->H a=none->X.s₀.heap.get? a=none->W dx Z H->X.xe (.ref a) s):PS X (.Raise (some call) none pos) λj Z H=>te Z H λv H2=>∃a H1 dx,v=.ref a/\H2=upd H1 a (.ext (iG C dx a))/\H1 a=none/\X.s₀.heap.get? a=none/\W dx Z H1:=by intro pins s Z H D I h;rw[arm_exec_Raise];refine W0 (wpAny_standAt (P8 (I.ok.hd hc) (W0 (aN (he pins s Z H _ I h) λv s1⟨x,H2,I2,rx,a,H1,dx,ex,eH,n1,n2,w⟩=>W0 (wpAny_standAt (W3 ?_))))));subst ex eH;obtain rfl:v=Value.ref a:=rx;obtain⟨bm,N,nm,qn,bs,g8,sn,sub,ab,col,dd,k0,k1,k2,k3,k5,mN,hC,hN,hi,hT⟩:=D7 q I2.cH;obtain⟨⟨vs,sl,a0,e0,e1,e2⟩,_,_⟩:=show aZ X.prog X.w (upd H1 a (.ext (iG C dx a))) s1.heap a (.ext (iG C dx a))from I2.aB a _ cz;exact⟨a,C,N,dx,vs,sl,nm,qn,bs,bm,g8,sn,sub,ab,col,dd,k0,k1,k2,k3,k5,_,rfl,hT.hasType rfl,hC,e0,e2,nF pins Z H1 s1 a dx I2 n1 n2 w⟩
end
section
variable{y:Str}{D:Addr}
theorem RV(hg:Gl X y)(hm:X.mg y=some (.ref D))(hd:(y==("__debug__":Str))=false:=by decide):PE X (.Name y pos) λZ H Q=>Q (.ref D) H:=λpins s Z H Q I h=>l_ I hg hm ⟨.ref D,H,I,rfl,h⟩ hd
structure IsT(K:W2)(ce:Tx->Nat)(ys:List Tx)(cv:Value)(tab:Tx->Bool):Prop where
 k:∀z∈ys,mP K (ce z)c:∀z∈ys,(PySem.W.clsIn K (ce z)).isSome=true
 one:∀z∈ys,QP K (.ref (ce z)) cv=some (tab z)
theorem D8(RW:∀u,RelV cV u->u=cv)(T:IsT X.K ce ys cv tab):cN X (.builtin "isinstance") λxs H Q=>∃(a:Addr)(z:Tx)(v:V),xs=[.ref a,cV]/\H a=some (.ext (excAt (ce z) v a))/\z∈ys/\Q (.bl (tab z)) H:=by intro pins s Z H xs us Q I r h;obtain⟨a,z,v,rfl,ha,hz,q⟩:=h;obtain⟨u,w',rfl,r1,r2⟩:=rT r;cases r1;have e:=RW _ r2;subst e;obtain⟨p,_,_⟩:=I.aB a _ ha;exact Qk (RE (T.k z hz) (T.c z hz)) I.cH p (T.one z hz) (λz=>nomatch z) λtk=>⟨.bl (tab z),H,I.tok tk,rfl,q⟩
end
structure fK(k:Nat)(A:Wp):Prop where
 dp:A.depth+3*k+5<recursionLimit
 un:A.units+16*k+200<WK
theorem fK.deeper(r:fK (k+1) A)(env:Env):fK k (A.deeper env):=⟨by have:=r.dp;show A.depth+1+3*k+5<_;lia,by have:=r.un;show A.units+3+16*k+200<_;lia⟩
theorem cj.h(r:cj k A):fK k A:=⟨r.dp,r.un⟩
theorem fK.mono(r:fK k A)(h:j<=k):fK j A:=⟨by have:=r.dp;lia,by have:=r.un;lia⟩
theorem fK.mark(r:fK k A)(v:Option Value):fK k (A.mark v):=⟨r.dp,r.un⟩
def Cx.tW(X:Cx):Cx:={X with calm:=false,xe:=λj j=>False}
structure xr(P:Wk)(w:Wx)(K:W2)(mg:Str->Option Value)(base:Heap)(k:Nat)(f:Addr)(fd:Q0)(ps:List Str)(sp:Sp):Prop where
 len:∀vs H Q E,sp vs H Q E->vs.length=ps.length
 run:∀(A:Wp)(outer:List Env)(s:W1)(H:Hp)(args:Args)(us:List Value)(vs:List V)(Q:VK),fK k A->jU P w K mg base A outer s H->BindsTo s fd args (ps.zip us)->Vals vs us->sp vs H Q E0->J4 (model P w) A (.call (.ref f) args) (CR di outer P w H s Q E0) s
section
variable{k:Nat}
theorem RX{x:Str}{st:Stmt}{N:List Str}(F:dM K x qual st f fd)(S:fA N ps (bG st))(len:∀vs H Q E,sp vs H Q E->vs.length=ps.length)(dC:∀(aQ:Value)(A:Wp)(outer:List Env)(s:W1)(H:Hp)(vs:List V)(Q:VK),fK k (A.deeper (Ji qual (bG st) s.heap.objs.size f aQ))->sp vs H Q E0->∃t,c_ (eQ di P w K mg base N qual (bG st) f aQ A outer s H E0).tW (eR st) t/\t {nx:=λj H'=>Q .aI H',rt:=Q} (start N vs) H):xr P w K mg base (k+1) f fd ps sp:=by
 obtain⟨oc,od,kV,doc,pm,an,aQ,ct,ju,rfl,lk,dA⟩:=F.ex;refine⟨len,λA outer s H args us vs Q hr e0 hb r iX=>?_⟩;have hl:=len _ _ _ _ iX;have KX:K.In s.heap:=e0.mod.l5.keeps λb o e=>(e0.bs b o e).1;have lim:s.heap.NoLimit:=e0.mod.nolimit.keeps λb o e=>(e0.bs b o e).1;have vo:∀y∈ps.zip us,(bG st).names.lookup y.1=some .local\/(bG st).names.lookup y.1=some .cell/\((QK (s.heap.objs.size+1) (bG st).names []).lookup y.1).isSome=true:=λ⟨n,v⟩hy=>by
  rcases S.par n (Uq hy).1 with q|q;.exact .inl q
  .exact .inr ⟨q,JG _ _ _ (.inl q)⟩
 have RY:A.depth<recursionLimit:=by have:=hr.dp;lia
 refine codeAny_call_function RY (KX _ _ lk) rfl S.co S.gen rfl (PySem.W.codeRec_of KX dA) (hb _ _ _ _ ?_);refine wpAny_newFunctionEnv_cells S.kind vo λenv he s1 x=>?_;subst he;refine⟨lim.keeps x.toInCall.keep,codeAny_func ?_⟩;obtain⟨t,ht,hq⟩:=dC aQ A outer s H vs Q (hr.deeper _) iX;have e1:jU P w K mg base {A with handled:=none} outer s H:=⟨e0.frames,e0.mod,e0.bs,e0.ir,e0.fP,e0.iR,e0.aB,e0.bare⟩;have J:=A6 (CX:=di) (E:=E0) (qual:=qual) (f:=f) (cd:=aQ) (A:={A with handled:=none}) S rfl e1 hl r x;have I:Inv (eQ di P w K mg base N qual (bG st) f aQ A outer s H E0).tW [] (start N vs) H s1:=by have o:=J.ok;exact⟨⟨o.mod,o.kind,o.glob,o.blt,o.above,o.inj,o.has,o.kH,λz=>(by cases z),Around.frames_deeper e0.frames,o.l7,o.l8,o.bs,o.ir,o.kI,o.kJ,o.fP,o.iR⟩,J.os,J.bare,J.base,J.loc,J.cell,J.free,J.dW,J.pin,J.aB,J.len⟩
 refine Q7 (ht [] s1 (start N vs) H _ I hq) (λfl s' hs=>?_) λe s' hs=>hs.elim;cases fl with|ret u=>obtain⟨v,Pv,H',J2,rv,q⟩:=hs;exact⟨v,H',J2.os,J2.bare,J2.base,J2.aB,rv,q⟩|next=>obtain⟨Pv,H',J2,q⟩:=hs;exact⟨V.aI,H',J2.os,J2.bare,J2.base,J2.aB,rfl,q⟩|brk=>obtain⟨_,_,_,q⟩:=hs;exact False.elim q|cont=>obtain⟨_,_,_,q⟩:=hs;exact False.elim q
end
section
variable{k:Nat}{x:Str}{p:Pos}{t:TA}
theorem RZ(F:xr X.prog X.w X.K X.mg X.base k f fd ps sp)(hr:fK k X.A)(hg:Gl X x)(hm:X.mg x=some (.ref f))(hk:QQ X.K (.ref f)=true)(hb:Binds X.K fd ps [])(ha:PA X (e::es) t)(cU:(x==("__debug__":Str))=false:=by decide)(he:Wa (e::es) X.env=(false,eval e X.env)::Wa es X.env:=by rfl)(bT:(Qp pos (Wa es X.env)).any (·.1)=false:=by rfl):PE X (.Call (.Name x p) (e::es) [] pos) (vk sp [] E0 t):=by
 intro pins s Z H Q I h;refine Jh (l_ I hg hm ?_ cU);refine PySem.W.callWith_K (h₀:=X.base) I.ok.mod.l5 hk (aN (ha pos pins s Z H _ I h) λus s1⟨vs,H1,I1,r,q⟩=>⟨I1.cH,?_⟩) he bT;have q:sp vs H1 Q E0:=by have q':sp (vs++[]) H1 Q E0:=q;rwa[WT]at q'
 have hl:(us++[]).length=ps.length:=by rw[WT,<-r.length];exact F.len _ _ _ _ q
 refine wpAny_call (U4 (F.run X.A X.stack s1 H1 ⟨us,[]⟩ us vs Q hr I1.rV (by have:=hb s1 us I1.cH hl;rwa[WT]at this) r q) λr s' hq=>?_);cases r with|error e=>exact False.elim hq|ok fl=>cases fl with|ret u=>exact I1.after hq|next=>exact False.elim hq|brk=>exact False.elim hq|cont=>exact False.elim hq
end
end
def fL(ce:Tx->Nat)(ys:List Tx)(tab:Tx->Bool)(fb:BE):DE:=λY=>(fb Y).bind λd P3=>match d with
 |.exc n _=>match ys.find? λz=>ce z==n with|some z=>.ok (.pure (.bl (tab z))) P3|none=>.stuck
 |_=>.stuck
section
variable{c:Fc}{y:Str}{ys:List Tx}
universe H in theorem D9(h:tD c (fL ce ys tab fb) Z H Q):UF c fb Z H λv H1=>∃(a:Addr)(z:Tx)(w:V),[v,cV]=[.ref a,cV]/\H1 a=some (.ext (excAt (ce z) w a))/\z∈ys/\Q (.bl (tab z)) H1:=by
 obtain⟨Y,k,q⟩:=h;unfold fL at q;rw[bo]at q;refine⟨Y,k,aM q λd SL q1 v H1 a1 r1=>?_⟩;cases d<;>first|exact q1.elim|skip
 rename_i n fl;simp only at q1;split at q1
 .rename_i z hz;have h1:=List.find?_some hz;have h2:=List.mem_of_find?_eq_some hz;have e:ce z=n:= ~~~h1;subst e;rcases r1 with r1|⟨a,_,o⟩;.cases r1 with|exc _ ha _=>exact⟨_,z,_,rfl,ha,h2,q1 _ H1 a1 (.bl _)⟩
  .exact o.elim
 .exact q1.elim
theorem R0{D:Addr}(T:IsT X.K ce ys (.ref D) tab)(hg:Gl X "isinstance")(hm:X.mg "isinstance"=none)(pB:Gl X y)(pD:X.mg y=some (.ref D))(he:SB X c e fb)(pE:(y==("__debug__":Str))=false:=by decide)(hs:Wa [e,.Name y py] X.env=(false,eval e X.env)::Wa [.Name y py] X.env:=by rfl)(bT:(Qp pos (Wa [.Name y py] X.env)).any (·.1)=false:=by rfl):SE X c (.Call (.Name "isinstance" pp) [e,.Name y py] [] pos) (fL ce ys tab fb):=PE.weak (nA (D8 (cV:=.ref D) λu r=>by cases r;rfl T) hg hm PyProof.Rows.boot_isinstance (dX he (dX (RV pB pD pE) f_) hs) Z' Z' hs bT) λZ H Q h=>D9 h
theorem R3(T:IsT X.K ce ys (.type T') tab)(hg:Gl X "isinstance")(hm:X.mg "isinstance"=none)(pB:Gl X y)(pD:X.mg y=none)(wm:QH y=some (.type T'))(he:SB X c e fb)(wo:y≠"__name__":=by decide)(pE:(y==("__debug__":Str))=false:=by decide)(hs:Wa [e,.Name y py] X.env=(false,eval e X.env)::Wa [.Name y py] X.env:=by rfl)(bT:(Qp pos (Wa [.Name y py] X.env)).any (·.1)=false:=by rfl):SE X c (.Call (.Name "isinstance" pp) [e,.Name y py] [] pos) (fL ce ys tab fb):=PE.weak (nA (D8 (cV:=.ty T') λu r=>by cases r;rfl T) hg hm PyProof.Rows.boot_isinstance (dX he (dX (Aq (v:=.ty T') pB pD wm rfl wo pE) f_) hs) Z' Z' hs bT) λZ H Q h=>D9 h
end
def qb(P:Wk)(w:Wx)(K:W2)(mg:Str->Option Value)(base:Heap)(k:Nat)(x:Str)(n:Nat)(G:DF):Prop:=∃(f:Addr)(fd:Q0)(ps:List Str),mg x=some (.ref f)/\QQ K (.ref f)=true/\Binds K fd ps []/\xr P w K mg base k f fd ps (ka n G)
theorem R4(r:fK k A):A.units+64<WK:=by have:=r.un;lia
theorem R5{x:Str}{st:Stmt}{N:List Str}{k:Nat}{fb:DS}{G:DF}(F:dM K x qual st f fd)(hm:mg x=some (.ref f))(hb:Binds K fd ps [])(S:fA N ps (bG st))(dC:∀(c:Fc)(aQ:Value)(A:Wp)(outer:List Env)(s:W1)(H:Hp)(E:XK),fK k (A.deeper (Ji qual (bG st) s.heap.objs.size f aQ))->Np c np->fm (eQ di P w K mg base N qual (bG st) f aQ A outer s H E).tW c (eR st) fb)(hG:∀ss y,G ss=some y->cP np 0 ss=true/\gE fb N.length ss=some y):qb P w K mg base (k+1) x ps.length G:=by
 refine⟨f,fd,ps,hm,F.kp,hb,RX F S (λvs H Q E h=>?_) λaQ A outer s H vs Q hr h=>?_⟩;.obtain⟨ss,B,hl,_⟩:=h;exact hl
 .obtain⟨ss,B,hl,ok,r,aH,hg,q⟩:=h;obtain⟨gc,hrun⟩:=hG ss _ hg;have kc:ss.length=vs.length:=by have:=ok.len;simpa using this
  have pM:Np ⟨H,B,bQ 0 ss vs,λu u=>False⟩ np:=λp hp=>by obtain⟨j,d,e,h1,_⟩:=lb (i:=p.1) (a:=p.2) hp;rw[e];exact sY gc h1
  refine⟨k9 ⟨H,B,bQ 0 ss vs,λu u=>False⟩ fb,dC ⟨H,B,bQ 0 ss vs,λu u=>False⟩ aQ A outer s H E0 hr pM,?_⟩;have cL:start N vs=bR vs++W9 (N.length-ss.length) none:=by rw[kc];rfl
  refine⟨bW N.length ss,%[cL|ok.ext _],?_⟩;unfold gE at hrun;unfold dq;cases e:fb (bW N.length ss)with|exc x GE=>rw[e]at hrun;cases hrun|stuck=>rw[e]at hrun;cases hrun|ok fl P3=>rw[e]at hrun;show∀Pv H',aK _ (start N vs) (bW N.length ss) H Pv P3 H'->fin _ _ Pv P3 H' fl;intro Pv H' a;rw[cL]at a;simp only at hrun;cases fl with
 |brk=>cases hrun|cont=>cases hrun|next=>simp only[dS,WO]at hrun;cases eo:bZ 0 ss P3 with|none=>rw[eo]at hrun;cases hrun|some os=>rw[eo]at hrun;cases hrun;obtain⟨l1,l2⟩:=lh rfl ok a eo;exact q .aI H' l1 .aI
 |ret r'=>simp only[dS,WO]at hrun;cases eo:bZ 0 ss P3 with|none=>rw[eo]at hrun;cases hrun|some os=>rw[eo]at hrun;cases hrun;obtain⟨l1,l2⟩:=lh rfl ok a eo;exactλv rv=>q v H' l1 (l2 v _ rv)
section
variable{c:Fc}{k:Nat}{x:Str}{G:DF}
theorem R6(F:qb X.prog X.w X.K X.mg X.base k x n G)(hK:pR G)(hr:fK k X.A)(hg:Gl X x)(ha:SX X c (e::es) as)(hl:as.length=n)(cU:(x==("__debug__":Str))=false:=by decide)(he:Wa (e::es) X.env=(false,eval e X.env)::Wa es X.env:=by rfl)(bT:(Qp pos (Wa es X.env)).any (·.1)=false:=by rfl):SE X c (.Call (.Name x pp) (e::es) [] pos) (az G as):=by obtain⟨f,fd,ps,hm,hk,hb,ok⟩:=F;exact PE.weak (RZ ok hr hg hm hk hb ha cU he bT) λZ H Q h=>C0 (ps:=ps) hK hl h
end
section
open PySem.SeqAt
theorem xt:∀{bs:List Bool}{us:List Value},Vals (bs.map V.bl) us->us=bs.map Value.bool|[],us,r=>by cases r;rfl|b::bs,us,r=>by cases r with|cons r1 r2=>cases r1;rw[xt r2];rfl
def qc:Value->Bool|.bool b=>b|_=>false
theorem D_:∀bs:List Bool,(bs.map Value.bool).countP qc=bs.count true|[]=>rfl|b::bs=>by rw[Wj,List.countP_cons,D_ bs,List.count_cons];cases b<;>rfl
def Ea(K:W2):V->List V->Hp->VK->Prop:=λx xs H Q=>∃(a:Addr)(bs:List Bool),x=.ref a/\xs=[.bl true]/\bN K H a (bs.map V.bl)/\Q (.int (bs.count true:Nat)) H
def Eb(K:W2):V->List V->Hp->VK->Prop:=λx xs H Q=>∃(a:Addr)(bs:List Bool),x=.ref a/\xs=[.bl true]/\bN K H a (bs.map V.bl)/\true∈bs/\bs.length<=1000/\Q (.int (bs.idxOf true:Nat)) H
theorem R7:nB X "list.count" (Ea X.K):=by
 intro pins s Z H x xs v us Q I rx rs h;obtain⟨a,bs,rfl,rfl,hq,q⟩:=h;obtain⟨u,rfl,ru⟩:=eN rs;cases ru;cases rx;obtain⟨af,r',p,_⟩:=I.list hq;obtain rfl:=xt r';obtain⟨⟨cls,dd,data,sl⟩,ho,hc,n,hd⟩:=p.isList;simp only at hc hd;subst hc;subst hd;refine Jf PySem.F.slot_list_count ⟨_,ho,rfl⟩ PySem.F.entry_list_count (PySem.F.args_list_count_2 _ _) (list_countAt a _ n dd sl (.bool true) qc) ⟨ho,λy hy=>?_,?_⟩;.have jX:y∈bs.map Value.bool:= ~~~hy;obtain⟨b,_,rfl⟩:=WH.mp jX;have:=EqAt.bool_bool (A:=X.A.in1) (s:=s) b true;cases b<;>exact this
 .rw[show(bs.map Value.bool).toArray.toList=bs.map Value.bool from rfl,D_];exact⟨.int (bs.count true:Nat),H,I.tok _,⟨_,rfl⟩,q⟩
theorem R8:nB X "list.index" (Eb X.K):=by
 intro pins s Z H x xs v us Q I rx rs h;obtain⟨a,bs,rfl,rfl,hq,hm,hl,q⟩:=h;obtain⟨u,rfl,ru⟩:=eN rs;cases ru;cases rx;obtain⟨af,r',p,_⟩:=I.list hq;obtain rfl:=xt r';obtain⟨⟨cls,dd,data,sl⟩,ho,hc,n,hd⟩:=p.isList;simp only at hc hd;subst hc;subst hd;have hj:bs.idxOf true<bs.length:=List.idxOf_lt_length_iff.mpr hm;refine Jf PySem.F.slot_list_index ⟨_,ho,rfl⟩ PySem.F.entry_list_index (PySem.F.args_list_index_2 _ _) (list_indexAt a _ n dd sl (.bool true) qc (bs.idxOf true) (~~~hj) Y' ?_ ?_) ⟨ho,λy hy=>?_,⟨.int (bs.idxOf true:Nat),H,I.tok _,⟨_,rfl⟩,q⟩⟩;.have:=List.getElem_idxOf hj;simp[qc,this]
 .intro m hm' bz;have ZF:m<bs.length:= ~~~hm';have:bs[m]≠true:=λz=>by have z2:=List.not_of_lt_findIdx (p:=(.==true)) (xs:=bs) (i:=m) bz;rw[z]at z2;cases z2
  simp[qc,this]
 .have jX:y∈bs.map Value.bool:= ~~~hy;obtain⟨b,_,rfl⟩:=WH.mp jX;have:=EqAt.bool_bool (A:=X.A.in1) (s:=s) b true;cases b<;>exact this
end
noncomputable def qd:D->Option S|.lst ds=>(gA ds).map λbs=>.pure (.int (bs.count true:Nat))|_=>none
noncomputable def qe:D->Option S
 |.lst ds=>match gA ds with|some bs=>if true∈bs/\bs.length<=1000 then 0#(.int (bs.idxOf true:Nat)) else none|none=>none
 |_=>none
section
variable{c:Fc}
theorem R9:i7 (λx H Q=>oW K "list" x H/\Ea K x [.bl true] H Q) qd:=by intro c Z Y H x d s Q k rx hp q;cases d with
 |lst ds=>simp only[qd]at hp;cases e:gA ds with|none=>rw[e]at hp;cases hp|some bs=>rw[e]at hp;cases hp;obtain⟨a,vs,ea,ha,ra⟩:=rx.lst;obtain rfl:=sQ e ra;subst ea;exact⟨.inl ⟨rfl,_,.inl ha⟩,a,bs,rfl,rfl,.inl ha,q _ H (.refl k) (.int _)⟩
 |_=>simp[qd]at hp
universe H in theorem R_:i7 (λx H Q=>oW K "list" x H/\Eb K x [.bl true] H Q) qe:=by intro c Z Y H x d s Q k rx hp q;cases d with
 |lst ds=>simp only[qe]at hp;cases e:gA ds with|none=>rw[e]at hp;cases hp|some bs=>
 rw[e]at hp;simp only at hp;split at hp;.rename_i hz;cases hp;obtain⟨a,vs,ea,ha,ra⟩:=rx.lst;obtain rfl:=sQ e ra;subst ea;exact⟨.inl ⟨rfl,_,.inl ha⟩,a,bs,rfl,rfl,.inl ha,hz.1,hz.2,q _ H (.refl k) (.int _)⟩
 .cases hp|_=>simp[qe]at hp
theorem Sa{j}{p0 apos bu:Pos}(he:SB X c e fb)(fD:Ja e "count" X.env (eval e X.env)=eval e X.env:=by rfl)(iY:((Qp bu (Wa [.Constant (.bool true) j p0] X.env)).all (λx=>!x.1)&&(backToKw bu (Ui [] X.env)).all (λx=>x.1.isSome)&&decide ([Expr.Constant (.bool true) j p0].length+([]:List Keyword).length+(if([]:List Keyword).isEmpty then 0 else 1)<30))=true:=by rfl)(cY:(apos.endLine==bu.line)=true:=by rfl)(hs:Wa [.Constant (.bool true) j p0] X.env=(false,eval (.Constant (.bool true) j p0) X.env)::Wa [] X.env:=by rfl):SE X c (.Call (.Attribute e "count" apos) [.Constant (.bool true) j p0] [] bu) (ay qd fb):=by refine PE.weak (oX Jc PySem.F.slot_list_count PySem.F.type_list_count R7 he (dX u9 f_ hs) fD iY cY hs rfl) λZ H Q h=>?_;obtain⟨Y,k,q⟩:=mB (R9 (K:=X.K)) h;exact⟨Y,k,aM q λy SL q1 v H1 a1 r1=>q1 v H1 a1 r1⟩
theorem Sb{j}{p0 apos bu:Pos}(he:SB X c e fb)(fD:Ja e "index" X.env (eval e X.env)=eval e X.env:=by rfl)(iY:((Qp bu (Wa [.Constant (.bool true) j p0] X.env)).all (λx=>!x.1)&&(backToKw bu (Ui [] X.env)).all (λx=>x.1.isSome)&&decide ([Expr.Constant (.bool true) j p0].length+([]:List Keyword).length+(if([]:List Keyword).isEmpty then 0 else 1)<30))=true:=by rfl)(cY:(apos.endLine==bu.line)=true:=by rfl)(hs:Wa [.Constant (.bool true) j p0] X.env=(false,eval (.Constant (.bool true) j p0) X.env)::Wa [] X.env:=by rfl):SE X c (.Call (.Attribute e "index" apos) [.Constant (.bool true) j p0] [] bu) (ay qe fb):=by refine PE.weak (oX Jc PySem.F.slot_list_index PySem.F.type_list_index R8 he (dX u9 f_ hs) fD iY cY hs rfl) λZ H Q h=>?_;obtain⟨Y,k,q⟩:=mB (R_ (K:=X.K)) h;exact⟨Y,k,aM q λy SL q1 v H1 a1 r1=>q1 v H1 a1 r1⟩
end
theorem SS.iV{c:Fc}{st:Stmt}{f:DS}(h:SS X.iV c st f):SS X c st f:=λpins s Z H D I hw=>Q7 (h pins s Z H D (I.gP _) hw) (λj j q=>q.jS) λj j z=>False.elim z
def Ec:List (Tx×Nat)->Tx->Nat|[],_=>0|p::r,x=>bif p.1==x then p.2 else Ec r x
def Ed(K:W2):R2:=λx y H Q=>∃l k xs,x=.ref l/\y=.int k/\bN K H l xs/\xs≠[]/\2<=k/\k<=1000/\xs.length<=1000/\∀p,H p=none->Q (.ref p) (upd H p (.lst (W9 k.toNat xs).flatten))
theorem Sd:a_ X (Qw .Mult) (Ed X.K):=by
 intro pins s Z H x y v u Q I rx ry h;obtain⟨l,k,xs,rfl,rfl,hH,bO,h1,h2,hz,q⟩:=h;cases rx;obtain⟨t,rfl⟩:=ry;obtain⟨af,r,pl,hl⟩:=I.list hH;obtain⟨⟨cls,dd,data,sl⟩,ho,hc,n,hd⟩:=pl.isList;simp only at hc hd;subst hc hd;have hlen:af.toArray.size=xs.length:=%[We|r.length.symm];have lu:af.toArray.isEmpty=false:=by cases af with|nil=>exact absurd (r.oS.mp rfl) bO|cons a b=>rfl
 have cY:W7=16777216:=rfl;have ZG:xs.length*k.toNat<=1000000:=by have:xs.length*k.toNat<=1000*1000:=WN hz Y';lia
 have tJ:List.foldl (λx1 x2=>x1++x2) #[] (W9 k.toNat af.toArray)=(W9 k.toNat af).flatten.toArray:=by have:=vA af k.toNat [];rw[Qt]at this;exact this
 refine wpAny_binaryOp_repeat_ref (T:="list") (U:="int") Z' ⟨_,ho,rfl⟩ (λs'=>typeIs_int s' k t) noFill_list_mul F.fills_int_mul F.slot_int_rmul repeat_list F.slot_int_index.lookup (Jf F.slot_int_rmul (typeIs_int s k t) F.entry_int_rmul (F.args_int_rmul_2 _ _) (lm_int_rmul_list_any k t l af.toArray n dd sl) ⟨ho,rfl,⟨_,ho,rfl⟩,Jf F.slot_list_mul ⟨_,ho,rfl⟩ F.entry_list_mul (F.args_list_mul_2 _ _) (lm_list_mul_any l af.toArray n dd sl k t ?_ ?_ ?_) ⟨ho,?_⟩⟩);.unfold Builtin.List.listFitsIndex;simp;lia
 .rw[hlen];lia
 .rw[hlen];unfold Ju;simp only[cY,decide_eq_true_eq];lia
 .rw[if_neg %[lu|WW],tJ];have I1:Inv X pins Z (upd H s.heap.objs.size (.lst (W9 k.toNat xs).flatten)) 9#(s.heap.push {cls:=.type "list",data:=.seq (W9 k.toNat af).flatten.toArray}):=I.laid (t':=s.toks) (λb o e=>W6 _ e) (W5 _) (show aZ X.prog X.w _ _ _ (.lst (W9 k.toNat xs).flatten)from⟨by rw[rZ,Jw];lia,(W9 k.toNat af).flatten,0,r.rep k.toNat,Wv _ rfl⟩);exact⟨.ref _,_,I1,rfl,q _ (I.aB.fresh (W5 _))⟩
noncomputable def mQ:D->D->Option S|.lst xs,.int k=>if 2<=k/\k<=1000/\0<xs.length/\xs.length<=1000 then some (.own (.lst (W9 k.toNat xs).flatten))else none|_,_=>none
universe H in theorem Se:bV (Ed K) mQ:=by
 intro c Z Y H x y d e s Q k rx ry hp q;cases d<;>cases e<;>first|(simp[mQ]at hp;done)|skip
 rename_i ds n;simp only[mQ]at hp;split at hp
 .rename_i h;cases hp;obtain⟨a,vs,ex,ha,r⟩:=rx.lst;refine⟨a,n,vs,ex,ry.int,.inl ha,?_,h.1,h.2.1,%[r.1|h.2.2.2],λp cm=>?_⟩;.intro z;rw[z]at r;have:=r.1;simp at this;lia
  .exact q _ _ (.alloc k cm _) (aL.i6 k (aG.rep r _) cm)
 .cases hp
def gj(G:DX)(as:List Ak):DE:=λY=>if(bJ as).all (cG Y)&&cK (bJ as)then(cC as Y).bind λds SL=>match b7 as ds SL with|none=>.stuck|some ss=>match G ss with|some (.inl (r,aH))=>.ok r (bp as aH SL)|_=>.stuck else .stuck
section
variable{c:Fc}{k:Nat}{x:Str}{G:DX}
universe H in theorem Sf(hK:p9 G)(hl:as.length=n)(h:tD c (gj G as) Z H Q):tX c as Z H λvs H1=>tQ X.mg n G vs H1 Q λc' _ H'=>∃C,c'=.ref C/\False:=by
 obtain⟨Y,kk,q⟩:=h;unfold gj at q;split at q
 .rename_i hc;rw[Wn]at hc;have nd:=s_ hc.2;rw[bo]at q;refine⟨Y,kk,λi hi=>?_,aM q λds SL q1 vs H1 a1 r1=>?_⟩
  .have:=WV.mp hc.1 i (kf.mpr hi);unfold cG at this;split at this;.rename_i d ed;exact px kk ed
   .cases this
  .cases em:b7 as ds SL with|none=>rw[em]at q1;exact q1.elim|some ss=>rw[em]at q1;simp only at q1;cases eg:G ss with|none=>rw[eg]at q1;exact q1.elim|some y=>rw[eg]at q1;have kg:=wM a1.ok r1 em nd;obtain⟨m1,m2,_⟩:=pN r1 em;have g2:=hK ss y eg;cases y with|inl y=>refine⟨ss,_,by rw[<-m2];exact hl,kg,.inl y,eg,?_⟩;obtain⟨r,aH⟩:=y;intro v H2 a2 r2;obtain⟨o1,o2⟩:=tm a1.ok r1 em nd rfl a2 (λj d ed=>(g2 j).1 d ed) λj d ed=>(g2 j).2 d ed;exact q1 v H2 (a1.trans o1) (aL.back (o2 v r r2) a1)|inr y=>exact q1.elim
 .exact q.elim
theorem Sg(F:kl X.prog X.w X.K X.mg X.base k x n G)(hK:p9 G)(hr:cj k X.A)(hex:X.ex=[])(hg:Gl X x)(ha:SX X c (e::es) as)(hl:as.length=n)(cU:(x==("__debug__":Str))=false:=by decide)(he:Wa (e::es) X.env=(false,eval e X.env)::Wa es X.env:=by rfl)(bT:(Qp pos (Wa es X.env)).any (·.1)=false:=by rfl):SE X c (.Call (.Name x pp) (e::es) [] pos) (gj G as):=by obtain⟨f,fd,ps,hm,hk,hb,ok⟩:=F;exact PE.weak (DY (W:=λj j j j=>False) ok hr hex hg hm hk hb (λj j j j j j j j j h=>h.elim) ha cU he bT) λZ H Q h=>Sf hK hl h
end
open PySem.W
def mR(y:Tx)(fl:List Tx)(fs:DA):DS:=λY=>(fs Y).bind λds SL=>if ds.length=fl.length then .exc ⟨y,.xd (fl.zip ds)⟩ SL else .stuck
theorem Sh{c:Fc}{dx:Addr}{fl:List Tx}(k:Ok c Z Y H)(n:H dx=none)(r:aG H (Av c Z Y) vs ds)(hl:ds.length=fl.length):Ok c Z Y (upd H dx (.ext (j3 ((fl.map toS).zip vs) dx)))/\Rep (upd H dx (.ext (j3 ((fl.map toS).zip vs) dx))) (Av c Z Y) (.ref dx) (.xd (fl.zip ds)):=by
 have r1:=aG.da r (aK.alloc k n (.ext (j3 ((fl.map toS).zip vs) dx)));refine⟨k.alloc n _,.xd (k.i5 n) cz ?_ λi p q e1 e2=>?_⟩
 .rw[List.map_fst_zip (by rw[Wq,r.1,hl];lia)];have z:(fl.zip ds).map (λp=>toS p.1)=((fl.zip ds).map Prod.fst).map toS:=by rw[Q9];rfl
  rw[z,List.map_fst_zip Y']
 .rw[List.getElem?_zip_eq_some]at e1 e2;exact r1.2 i _ _ e1.2 e2.2
universe H in theorem Si{c:Fc}{x:Str}{k:Nat}{fe:DA}{np bu pos:Pos}(y:Tx)(gl:List Tx)(q:lG X.K C f=true)(iU:isFn X.K (.ref f)=true)(hk:keepIn X.K (.ref C)=true)(hS:∀z∈fl,tV X.K C z)(F:eO X.prog X.w X.K X.mg X.base di k f fd ps (xq X.K fl))(hr:cj (k+1) X.A)(hb:Binds X.K fd ps [])(hc:X.calm=true)(hg:Gl X x)(hm:X.mg x=some (.ref C))(he:SA X c (e::es) fe)(hx:lD X (wD X.mg c))(hl:(e::es).length<=100)(tY:fl=gl.map toS:=by decide+kernel)(p_:fl.length<=100:=by decide)(hy:x=toS y:=by decide+kernel)(hd:(x==("__debug__":Str))=false:=by decide)(hex:X.ex=[]:=by rfl)(hs:Wa (e::es) X.env=(false,eval e X.env)::Wa es X.env:=by rfl)(bT:(Qp bu (Wa es X.env)).any (·.1)=false:=by rfl):SS X c (.Raise (some (.Call (.Name x np) (e::es) [] bu)) none pos) (mR y gl fe):=PS.weak (RU (W:=λdx Z H=>wD X.mg c C dx Z H) q hc (RQ (p:=np) (pos:=bu) q iU hk F hr hb hex hg hm he.pa hl hd hs bT) λpins Z H s a dx I n1 n2 w=>by
 obtain⟨⟨vs,sl,a0,e0,e1,e2⟩,_,_⟩:=show aZ X.prog X.w (upd H a (.ext (iG C dx a))) s.heap a (.ext (iG C dx a))from I.aB a _ cz;have ne:∀{b:Addr},upd H a (.ext (iG C dx a)) b=none->a≠b:=λ{b}z e=>by rw[<-e,cz]at z;cases z
 exact hx pins Z H s a C dx (I.RT n1) (.inr ⟨⟨vs,sl,a0,e0,e1,e2⟩,n2,n1,ne I.free,λx c hc z=>ne (I.dW x c hc) z.symm,λp hp z=>ne (I.pin p hp).2.1 z.symm⟩) w) λD Z H⟨Y,k,q⟩=>by
  unfold mR dq at q;rw[bo]at q;refine⟨Y,k,aM q λds SL q1 vs H1 a1 r1=>?_⟩;split at q1
  .rename_i hlen;have Sj:vs.length=fl.length:=by rw[r1.1,hlen,tY,Wq]
   refine⟨Y',λa n1 n2=>⟨a,C,vs,rfl,Sj,cz,hS,λdx d1 d2=>⟨rfl,a,upd H1 dx (.ext (j3 (fl.zip vs) dx)),some dx,rfl,?_,?_,n2,?_⟩⟩⟩
   .funext b;unfold upd;by_cases hb:b=a;.subst hb;simp[Ne.symm d2]
    .simp[hb]
   .rw[ba (Ne.symm d2)];exact n1
   .have Sk:H1 dx=none:=by rwa[ba d2]at d1
    obtain⟨k1,rx⟩:=Sh (fl:=gl) a1.ok Sk r1 hlen;rw[tY];exact⟨⟨y,.xd (gl.zip ds)⟩,SL,.ref dx,by rw[<-hy];exact hm,k1,rx,λz e=>by cases e;rfl,q1⟩
  .exact q1.elim
def xw(P:Wk)(w:Wx)(K:W2)(mg:Str->Option Value)(base:Heap)(C:Addr)(fl:List Str):Prop:=∃(f:Addr)(fd:Q0)(ps:List Str),lG K C f=true/\isFn K (.ref f)=true/\keepIn K (.ref C)=true/\(∀z∈fl,tV K C z)/\Binds K fd ps []/\eO P w K mg base di 1 f fd ps (xq K fl)
theorem Sl{c:Fc}{x:Str}{fe:DA}{np bu pos:Pos}(y:Tx)(gl:List Tx)(N:xw X.prog X.w X.K X.mg X.base C fl)(hr:cj 2 X.A)(hc:X.calm=true)(hg:Gl X x)(hm:X.mg x=some (.ref C))(he:SA X c (e::es) fe)(hx:lD X (wD X.mg c))(hl:(e::es).length<=100:=by decide)(tY:fl=gl.map toS:=by decide+kernel)(p_:fl.length<=100:=by decide)(hy:x=toS y:=by decide+kernel)(hd:(x==("__debug__":Str))=false:=by decide)(hex:X.ex=[]:=by rfl)(hs:Wa (e::es) X.env=(false,eval e X.env)::Wa es X.env:=by rfl)(bT:(Qp bu (Wa es X.env)).any (·.1)=false:=by rfl):SS X c (.Raise (some (.Call (.Name x np) (e::es) [] bu)) none pos) (mR y gl fe):=by obtain⟨f,fd,ps,h1,h2,h3,h4,h5,h6⟩:=N;exact Si y gl h1 h2 h3 h4 h6 hr h5 hc hg hm he hx hl tY p_ hy hd hex hs bT
def Sn:Stmt->List Stmt|.ClassDef _ _ _ b _ _ _ _ _ _ _=>b|_=>[]
section
variable{c:Fc}
noncomputable def nW:D->Option S|.str [n]=>if 97<=n/\n<=122 then 0#(.str [n-32]) else none|_=>none
theorem So:∀k:Nat,k<26->Txt.upper (toS [97+k])=toS [97+k-32]:=by decide+kernel
theorem Sq:nB X "str.upper" λx vs H Q=>∃n:Nat,x=.str (toS [n])/\vs=[]/\(97<=n/\n<=122)/\Q (.str (toS [n-32])) H:=by
 intro pins s Z H x vs v us Q I rx rv h;obtain⟨n,rfl,rfl,hn,q⟩:=h;obtain⟨t,rfl⟩:=rx;cases rv;have e:Txt.upper (toS [n])=toS [n-32]:=by have:=So (n-97) Y';rwa[show 97+(n-97)=n by lia]at this
 exact SC.upper (by rw[e];rfl) (by rw[e];exact⟨.str _,H,I.tok _,⟨_,rfl⟩,q⟩)
theorem Sr{apos bu:Pos}(he:SB X c e fb)(fD:Ja e "upper" X.env (eval e X.env)=eval e X.env:=by rfl)(cY:(apos.endLine==bu.line)=true:=by rfl):SE X c (.Call (.Attribute e "upper" apos) [] [] bu) (ay nW fb):=by refine PE.weak (Bp PySem.F.plainAttrs_str PySem.F.slot_str_upper PySem.F.type_str_upper Sq he fD cY) λZ H Q h=>?_;obtain⟨Y,k,q⟩:=h;refine⟨Y,k,?_⟩;unfold ay at q;rw[bo]at q;refine aM q λd SL q1 v H1 a1 r1=>?_;unfold p1 at q1;cases d with
 |str z=>match z with
  |[]=>exact q1.elim|[n]=>
   have hv:v=.str (toS [n]):=by
    rcases r1 with r1|⟨a,_,o⟩;.cases r1;rfl
    .exact o.elim
   by_cases hn:97<=n/\n<=122;.have e1:nW (.str [n])=0#(.str [n-32]):=if_pos hn;rw[e1]at q1;subst hv;exact⟨rfl,n,rfl,rfl,hn,q1 _ H1 a1 (.str _)⟩
   .have e1:nW (.str [n])=none:=if_neg hn;rw[e1]at q1;exact q1.elim|_::_::_=>exact q1.elim
 |_=>exact q1.elim
end
section
variable{h:Heap}{x q:Str}{st:Stmt}
abbrev bf(K:W2)(x:Str)(st:Stmt):Prop:=∃(f:Addr)(oc:Value)(od:Option Addr)(kV dc pm:Value)(an:Option Addr)(cd ct:Value)(sl:Array (Option Value)),PySem.W.nsIn K Wr x=some (some (.ref f))/\K.lookup f=some ⟨oc,od,.func (QL x x (jY st) (eR st) (bG st) .none kV dc pm an cd ct),sl⟩/\PySem.W.codeIn K cd x=true/\QQ K (.ref f)=true
theorem tZ(X:K.In h)(G:h.Ns Wr mg)(d:bf K x st):∃f fd,dM K x x st f fd/\mg x=some (.ref f):=by obtain⟨f,oc,od,kV,dc,pm,an,cd,ct,sl,a,l,c,k⟩:=d;exact⟨f,_,vM l c k,PySem.W.mg_of X G a⟩
abbrev Bd(x q:Str)(st:Stmt)(ps:List Str)(us:List Value):Prop:=∀(kV doc pm:Value)(an:Option Addr)(aQ ct:Value),bindArgs (QL x q (jY st) (eR st) (bG st) .none kV doc pm an aQ ct) ⟨us,[]⟩=pure (ps.zip us)
variable{p1 p2 p3 p4 p5 p6:Str}
theorem Ee(F:dM K x q st f fd)(h:∀a,Bd x q st [p1] [a]):Binds K fd [p1] []:=F.binds λj j j j j j us hl=>by rcases us with _|⟨a,_|_⟩<;>cases hl;exact h a _ _ _ _ _ _
theorem t5(F:dM K x q st f fd)(h:∀a b,Bd x q st [p1,p2] [a,b]):Binds K fd [p1,p2] []:=F.binds λj j j j j j us hl=>by rcases us with _|⟨a,_|⟨b,_|_⟩⟩<;>cases hl;exact h a b _ _ _ _ _ _
theorem xx(F:dM K x q st f fd)(h:∀a b c,Bd x q st [p1,p2,p3] [a,b,c]):Binds K fd [p1,p2,p3] []:=F.binds λj j j j j j us hl=>by rcases us with _|⟨a,_|⟨b,_|⟨c,_|_⟩⟩⟩<;>cases hl;exact h a b c _ _ _ _ _ _
theorem Ef(F:dM K x q st f fd)(h:∀a b c d e,Bd x q st [p1,p2,p3,p4,p5] [a,b,c,d,e]):Binds K fd [p1,p2,p3,p4,p5] []:=F.binds λj j j j j j us hl=>by rcases us with _|⟨a,_|⟨b,_|⟨c,_|⟨d,_|⟨e,_|_⟩⟩⟩⟩⟩<;>cases hl;exact h a b c d e _ _ _ _ _ _
end
theorem cD{α:Type}{P:α->Prop}{a:α}(x:P a):∀z∈[a],P z:=λj h=>by cases h with|head=>exact x|tail _ h=>cases h
section
open PySem.W
theorem Vals.at2{v:V}(r:Vals vs af)(e1:vs[i]?=some v)(e2:af[i]?=some u):RelV v u:=by obtain⟨u',e,q⟩:=Vals.get r e1;rw[e2]at e;cases e;exact q
theorem Vals.pick(r:Vals vs af):∀is:List Nat,(∀i∈is,i<vs.length)->Vals (is.map λi=>vs.getD i .aI) (is.map λi=>af.getD i Value.none)|[],_=>.nil|i::is,h=>by refine .cons ?_ (Vals.pick r is λj hj=>h j (Wh _ hj));have hi:=h i WA;have hl:=r.length;have e1:vs.getD i .aI=vs[i]:=#v[hi];have e2:af.getD i Value.none=af[i]' Y':=#v[show i<af.length by lia];show RelV (vs.getD i .aI) (af.getD i Value.none);rw[e1,e2];exact Vals.at2 (i:=i) r (W4 hi) (W4 Y')
end
section
variable{c:Fc}
theorem aG.pick(r:aG H O vs ds):∀is:List Nat,(∀i∈is,i<vs.length)->aG H O (is.map λi=>vs.getD i .aI) (is.map λi=>ds.getD i .aI)
 |[],_=>.nil|i::is,h=>by
  have hi:=h i WA;have hl:=r.1;refine .cons (r.2 i _ _ ?_ ?_) (aG.pick r is λj hj=>h j (Wh _ hj));.simp[hi]
  .simp[show i<ds.length by lia]
end
section
variable{c:Fc}
def mS(i:Nat)(f:DE):DS:=λY=>if jc Y i then(f Y).bind λr SL=>match r with|.own (.lst es)=>putL SL i λds=>if ds.length+es.length<=W7 then some (ds++es)else none|_=>.stuck else .stuck
universe H in theorem Ss(ho:PE X o (dz i))(he:SE X c e fe)(fD:Ja o "extend" X.env (eval o X.env)=eval o X.env:=by rfl)(iY:((Qp bu (Wa [e] X.env)).all (λx=>!x.1)&&(backToKw bu (Ui [] X.env)).all (λx=>x.1.isSome)&&decide ([e].length+([]:List Keyword).length+(if([]:List Keyword).isEmpty then 0 else 1)<30))=true:=by rfl)(cY:(apos.endLine==bu.line)=true:=by rfl)(hs:Wa [e] X.env=(false,eval e X.env)::Wa [] X.env:=by rfl)(ml:Jg (.Call (.Attribute o "extend" apos) [e] [] bu) none pos.line X.env=pure false:=by rfl):SS X c (.Expr (.Call (.Attribute o "extend" apos) [e] [] bu) pos) (mS i fe):=PS.weak (va (oX Jc PySem.F.slot_list_extend PySem.F.type_list_extend LM ho (dX he f_ hs) fD iY cY hs rfl) ml) λD Z H⟨Y,k,q⟩=>by
  unfold mS dq at q;split at q
  .rename_i j9;obtain⟨ds0,e0⟩:=wA j9;rw[bo]at q;obtain⟨a,ea,oa,_⟩:=k.own i _ e0;refine⟨.ref a,ea,?_,Y,k,aM q λr SL q1 v H1 a1 r1=>?_⟩;.obtain⟨vs,ha,_⟩:=oa;exact .inl ⟨rfl,vs,.of ha⟩
   .split at q1
    .rename_i es;obtain⟨ds,dO,e1,e2,q2⟩:=wB q1;split at e2;.rename_i hz;cases e2;obtain⟨a',ea',oa1,_⟩:=a1.ok.own i _ e1;rw[ea]at ea';cases ea';obtain⟨vs,ha,ra⟩:=id oa1;obtain⟨b,rfl,⟨zs,hb,rb⟩,_⟩:=r1;refine⟨a,b,vs,zs,rfl,rfl,ha,hb,%[ra.1,rb.1|hz],?_⟩;exact q2 Z _ (a1.trans (Ok.sU a1.ok e1 ea (ra.append (rb.aS λx hx=>.inl (by
 rcases hx with z|z;.exact .inl (.inl z)
 .exact .inr z)))))
     .cases e2
    .exact q1.elim
  .exact q.elim
end
section
open PySem.W
section
variable{vs:List Value}
theorem Su{P}(ho:s.heap.get? a=some (Q3 "list" vs.toArray n))(h1:vs.length<2)(h:P (.done (.ret .none)) 9#(sortedHeap s.heap a vs vs.toArray)):W8 4#0 A (Builtin.«list.sort» ⟨[.ref a],[]⟩) P E s:=by
 obtain⟨e1,ho1⟩:∃e1,(s.heap.update a (Obj.mapSeq λj=>(#[]:Array Value))).get? a=some (Q3 "list" #[] e1):=⟨_,get?_update_seq ho λj=>#[]⟩;rw[list_sort_plain];refine W0 (listItems_at ho rfl (W0 (listUpdate_at ho rfl (W0 (seqEpoch_at ho1 rfl (W0 (wpAny_newTuple (W0 (wpAny_newList (WP ?_) (Q2 _))) (by show vs.length<=_;rw[Qi];lia))))) (by rw[We,Qi];lia) (Q2 _))));show W8 4#0 A _ P E 9#(((s.heap.update a (Obj.mapSeq λj=>(#[]:Array Value))).push (Q3 "tuple" vs.toArray 0)).push (Q3 "list" #[] 0));have h6:(((s.heap.update a (Obj.mapSeq λj=>(#[]:Array Value))).push (Q3 "tuple" vs.toArray 0)).push (Q3 "list" #[] 0)).get? a=some (Q3 "list" #[] e1):=W6 _ (W6 _ ho1);dsimp only;have mh:vs.toArray.size<2:=%[We|h1];rw[if_pos mh,if_pos mh];refine W0 (W3 (W0 (W3 ?_)));dsimp only;have q1:(Wf (SortSt.mk' general' (vs.toArray.zip vs.toArray) #[] 7 none)).map (·.2)=vs.toArray:=by show(vs.toArray.zip vs.toArray).map (·.2)=vs.toArray;have:List.map (λx:Value×Value=>x.2) (vs.zip vs)=vs:=List.map_snd_zip (W5 _);simpa using this
 rw[q1];refine W0 (seqEpoch_at h6 rfl (W0 (listUpdate_at h6 rfl ?_ (Q2 _) (by rw[We,Qi];lia))));simp only[bne_self_eq_false,WZ,if_false];exact W3 h
theorem Sv(hl:s.heap.IsList l vs.toArray)(h1:vs.length<2)(h:Q (.ref (s.heap.objs.size+1)) 9#(sortedAll s.heap vs vs.toArray)):W8 4#0 A (call (.builtin "sorted") [.ref l]) Q E s:=by
 refine Calls.call_function_entry kind_sorted plain_sorted entry_sorted (args_sorted1 _) ?_;unfold Builtin.«sorted»;refine W0 (m:=checkCount "sorted" 1 1 _) (W3 (W0 (collect_list hl (W0 (wpAny_newList ?_ (by rw[Qi];lia))) (by rw[Qi];lia))));have hz:((s.heap.push (Q3 "list" #[] 0)).update s.heap.objs.size (Obj.mapSeq (.++vs.toArray))).objs.size=s.heap.objs.size+1:=by rw[Heap.size_update,size_push']
 have kL:(((s.heap.push (Q3 "list" #[] 0)).update s.heap.objs.size (Obj.mapSeq (.++vs.toArray))).push (Q3 "list" vs.toArray 0)).get? (s.heap.objs.size+1)=some (Q3 "list" vs.toArray 0):=by rw[<-hz];exact Wv _ rfl
 show W8 _ _ _ _ _ 9#(((s.heap.push (Q3 "list" #[] 0)).update s.heap.objs.size (Obj.mapSeq (.++vs.toArray))).push (Q3 "list" vs.toArray 0));rw[hz];refine W0 (WP (Qm slot_list_sort ⟨_,kL,rfl⟩ entry_list_sort (Su (s:=9#(((s.heap.push (Q3 "list" #[] 0)).update s.heap.objs.size (Obj.mapSeq (.++vs.toArray))).push (Q3 "list" vs.toArray 0))) kL h1 ⟨_,rfl,?_⟩) (args_list_sort _)));exact W3 ⟨_,rfl,h⟩
end
theorem Sw:cN X (.builtin "sorted") λxs H Q=>∃(a:Addr)(vs:List V),xs=[.ref a]/\bN X.K H a vs/\vs.length<2/\∀p,H p=none->Q (.ref p) (upd H p (.lst vs)):=by intro pins s Z H xs us Q I r h;obtain⟨a,vs,rfl,hq,h1,q⟩:=h;obtain⟨u,rfl,ru⟩:=eN r;cases ru;obtain⟨af,r',p,_⟩:=I.list hq;have hl:=r'.length;refine Sv p.isList Y' ?_;obtain⟨e,he⟩:=sortedAll_at s.heap af af.toArray;have I1:Inv X pins Z (upd H (s.heap.objs.size+1) (.lst vs)) 9#(sortedAll s.heap af af.toArray):=I.laid (t':=s.toks) (λb o z=>sortedAll_old z) (Nat.le_succ _) (show aZ X.prog X.w _ _ _ (.lst vs)from⟨by rw[Qi];lia,af,e,r',he⟩);exact⟨.ref _,_,I1,rfl,q _ (I.aB.fresh (Nat.le_succ _))⟩
end
section
variable{c:Fc}
abbrev Eg(K:W2):V->Hp->VK->Prop:=λv H Q=>∃(a:Addr)(vs:List V),v=.ref a/\bN K H a vs/\vs.length<2/\∀p,H p=none->Q (.ref p) (upd H p (.lst vs))
end
section
variable{α β:Type}
@[simp]theorem g_(a:α)(Y:Dl)(f:α->Dl->Rs β):(Rs.ok a Y).bind f=f a Y:=id rfl
@[simp]theorem ZH(f:α->Dl->Rs β):(Rs.stuck:Rs α).bind f=.stuck:=id rfl
@[simp]theorem ZI(d:D):(S.pure d).d=d:=id rfl
@[simp]theorem ZJ(d:D):(S.own d).d=d:=id rfl
end
section
variable(Y:Dl)(i:Nat)(d e:D)(f g:DE)(fb:BE)(t u:DT)(p:D->D->Option S)
@[simp]theorem ZK:eD d Y=.ok (.pure d) Y:=id rfl
@[simp]theorem ZL:ag f Y=(f Y).bind λr P3=>.ok r.d P3:=id rfl
@[simp]theorem ZM:ax p f fb Y=(f Y).bind λx SL=>(fb SL).bind λy PP=>p2 p x.d y PP:=id rfl
@[simp]theorem ZN:Cb t u Y=(t Y).bind λb SL=>if b then u SL else .ok false SL:=id rfl
@[simp]theorem ZO:cu t u Y=(t Y).bind λb SL=>if b then .ok true SL else u SL:=id rfl
@[simp]theorem ZP:bD t Y=(t Y).bind λb SL=>.ok (!b) SL:=id rfl
@[simp]theorem ZQ:j7 t f g Y=(t Y).bind λb SL=>if b then f SL else g SL:=id rfl
@[simp]theorem ZR:bI Y=.ok .next Y:=id rfl
@[simp]theorem ZS:bw Y=.ok true Y:=id rfl
@[simp]theorem ZT:gD f Y=(f Y).bind λj SL=>.ok .next SL:=id rfl
@[simp]theorem ZU:aU f Y=(f Y).bind λr SL=>.ok (.ret r) SL:=id rfl
@[simp]theorem ZV(a b:DS):bA t a b Y=(t Y).bind λx SL=>if x then a SL else b SL:=id rfl
@[simp]theorem ZW(it:DI)(gg:DG)(b:DS):bX it gg b Y=(it Y).bind λds SL=>forL gg b ds SL:=id rfl
@[simp]theorem ZX(a:DA):cp a Y=(a Y).bind λds P3=>.ok (.pure (.tup ds)) P3:=id rfl
@[simp]theorem ZY(a:DA):aX a Y=(a Y).bind λds P3=>.ok (.own (.lst ds)) P3:=id rfl
@[simp]theorem ZZ(ds:List D):pU ds Y=.ok (.own (.lst ds)) Y:=id rfl
@[simp]theorem Z0:aJ Y=.ok [] Y:=id rfl
@[simp]theorem Z1(a:DA):aw f a Y=(f Y).bind λx SL=>(a SL).bind λxs PP=>.ok (x.d::xs) PP:=id rfl
@[simp]theorem Z2(q:D->Option S):ay q fb Y=(fb Y).bind λx SL=>p1 q x SL:=id rfl
@[simp]theorem Z3:sS f g Y=(f Y).bind λx SL=>(g SL).bind λy PP=>p2 wj x.d y.d PP:=id rfl
@[simp]theorem Z4(fl fh:k8):pF f fl fh Y=(f Y).bind λx SL=>(fl SL).bind λl PP=>(fh PP).bind λh Pi=>p1 (cJ l h) x.d Pi:=id rfl
@[simp]theorem Z5:bE Y=.ok none Y:=id rfl
@[simp]theorem Z6(cs:List Nat)(it:DI)(gg:DG)(el:DE):bb cs it gg t el Y=(it Y).bind λds SL=>if cs.any (cG SL)then .stuck else(dR cs gg t el ds (bt cs SL) []).bind λacc PP=>.ok (.own (.lst acc)) (dg cs SL PP):=id rfl
@[simp]theorem Z7(np:List Nat)(r:S):ah np i r Y=if np.contains i then none else some (Y.set i (some r)):=id rfl
@[simp]theorem Z8(gg:DG)(b:DS):forL gg b [] Y=.ok .next Y:=id rfl
end
section
variable(Y:Dl)(i:Nat)(d e:D)(f g:DE)(fb:BE)(p:D->D->Option S)(s:S)
@[simp]theorem Z9(x y:D):p2 p x y Y=match p x y with|some s=>.ok s Y|none=>.stuck:=id rfl
@[simp]theorem Z_(q:D->Option S)(x:D):p1 q x Y=match q x with|some s=>.ok s Y|none=>.stuck:=id rfl
@[simp]theorem qaa(a b:DS):aA a b Y=(a Y).bind λfl SL=>match fl with|.next=>b SL|.ret r=>.ok (.ret r) SL|.brk=>.ok .brk SL|.cont=>.ok .cont SL:=id rfl
@[simp]theorem zgQ{α β:Type}(c:Prop)[Decidable c](x y:Rs α)(k:α->Dl->Rs β):(if c then x else y).bind k=if c then x.bind k else y.bind k:=by split<;>rfl
end
theorem hU:W7=16777216:=rfl
theorem ji(xs:List α)(i:Nat):dJ xs (i:Int)=xs[i]?:=by
 unfold dJ gx;by_cases h:i<xs.length;.rw[if_pos Y',if_pos Y'];simp
 .rw[if_pos Y',if_neg Y'];simp[WJ (Nat.le_of_not_lt h)]
theorem xy(xs:List α):dJ xs 2=xs[2]?:=ji xs 2
theorem lH(xs:List α):dJ xs 0=xs[0]?:=ji xs 0
theorem xA(xs:List α):dJ xs 1=xs[1]?:=ji xs 1
theorem Eh{el}(I:Dl->Prop)(R:D->D->Prop):∀(ds:List D)(Y:Dl)(acc:List D),I Y->acc.length+ds.length<=W7->(∀d∈ds,∀Y,I Y->∃SL PP x Pi,g (.pure d) Y=some SL/\t SL=.ok true PP/\el PP=.ok x Pi/\I (bt cs Pi)/\R d x.d)->∃xs P3,dR cs g t el ds Y acc=.ok (acc++xs) P3/\I P3/\xs.length=ds.length/\∀(i:Nat)d x,ds[i]?=some d->xs[i]?=some x->R d x
 |[],Y,acc,h,_,_=>⟨[],Y,#v[dR],h,rfl,λi d x e=>by simp at e⟩|d::r,Y,acc,h,hl,hs=>by
  obtain⟨SL,PP,x,Pi,e1,e2,e3,h3,hr⟩:=hs d WA Y h;have gO:acc.length<W7:=by simp at hl;lia
  obtain⟨xs,P3,e4,h4,hn,hf⟩:=Eh (g:=g) (t:=t) (el:=el) I R r (bt cs Pi) (acc++[x.d]) h3 Re λd hd=>hs d (Wh _ hd);refine⟨x.d::xs,P3,?_,h4,#v[hn],λi d' x' f1 f2=>?_⟩;.unfold dR;simp_all
  .cases i with|zero=>simp at f1 f2;subst f1 f2;exact hr|succ i=>exact hf i d' x' (~~~f1) (~~~f2)
theorem t7(xs:List Tx):cO (xs.map .str)=some xs:=by induction xs with|nil=>rfl|cons x r ih=>simp[cO,ih]
theorem t8:∀ts:List Tx,i9 [] ts=ts.flatten|[]=>rfl|[x]=>#v[i9]|x::y::r=>by rw[i9,t8 (y::r)];simp
theorem Sx(xs:List Nat):i_ (xs.map λn=>[n])=xs.length:=by unfold i_;induction xs with|nil=>rfl|cons x r ih=>simp at ih⊢;lia
theorem Sy(xs:List Nat):(xs.map λn=>[n]).flatten=xs:=by induction xs with|nil=>rfl|cons x r ih=>simp[ih]
theorem Ei(xs:List Nat)(h:xs.length<=16777216):dQ [] (.lst (xs.map λn=>.str [n]))=0#(.str xs):=by
 have e:(xs.map λn=>D.str [n])=(xs.map λn=>[n]).map D.str:=by simp
 unfold dQ;simp only[e,t7,Sx,t8,Sy];rw[if_pos (~~~h)]
theorem Sz(bs:List Bool):gA (bs.map .bl)=some bs:=by induction bs with|nil=>rfl|cons x r ih=>simp[gA,ih]
theorem SD(r:Tx)(c:Nat)(h:c<r.length)(hl:r.length<=64):aC (.str r) (.int c)=0#(.str [r.getD c 0]):=by unfold aC;have:W7=16777216:=rfl;simp only;rw[if_pos Y',ji];simp[h]
theorem SH(r:Tx)(hl:r.length<=64):aP (.str r)=0#(.int r.length):=by unfold aP;have:W7=16777216:=rfl;simp only;rw[if_pos Y']
abbrev aa(fl:List Tx):D:=.tup (fl.map .str)
def turn(w:Nat)(fl:List Tx):List Tx:=(Wl w).map λc=>fl.map λr=>r.getD c 0
def jP(r:S)(SL:Dl):Rs (List D):=match r with|.pure (.int j)=>if nN j then .ok (gZ 0 j.toNat) SL else .stuck|_=>.stuck
@[simp]theorem SJ(f:DE)(Y:Dl):cb f Y=(f Y).bind λr SL=>jP r SL:=id rfl
theorem SK(w:Nat)(hw:w<=1000000):nN (w:Int)=true:=by
 have h1:-(4611686018427387904:Int)<=(w:Int):=by lia
 have h2:(w:Int)<4611686018427387904:=by lia
 unfold nN;rw[Wn];exact⟨decide_eq_true h1,decide_eq_true h2⟩
theorem SN(j:Int)(hs:nN j=true)(Y:Dl):jP (.pure (.int j)) Y=.ok (gZ 0 j.toNat) Y:=by unfold jP;grind
theorem SQ(w:Nat)(hw:w<=1000000)(Y:Dl):jP (.pure (.int w)) Y=.ok (gZ 0 w) Y:=by have:=SN (w:Int) (SK w hw) Y;rwa[Uh]at this
@[simp]theorem zeJ(lo:Int)(n:Nat):(gZ lo n).length=n:=#v[gZ]
theorem xB{P:Nat->Prop}:∀{xs:List D},(∀x∈xs,∃n,P n/\x=.str [n])->∃row:List Nat,xs=row.map (λn=>.str [n])/\∀n∈row,P n|[],_=>⟨[],rfl,Zw⟩|x::r,h=>by obtain⟨n,hn,rfl⟩:=h x WA;obtain⟨row,rfl,hr⟩:=xB (xs:=r) λy hy=>h y (Wh _ hy);exact⟨n::row,rfl,by simpa using⟨hn,hr⟩⟩
theorem xC{R:D->D->Prop}{xs:List D}{Q:D->Prop}(hn:xs.length=ds.length)(hf:∀(i:Nat)d x,ds[i]?=some d->xs[i]?=some x->R d x)(hq:∀d x,d∈ds->R d x->Q x):∀x∈xs,Q x:=λx hx=>by obtain⟨i,hi⟩:=List.getElem?_of_mem hx;have h1:=(Wd.mp hi).1;have h2:ds[i]?=some (ds[i]' Y'):=#v[show i<ds.length by lia];exact hq _ x (WU _) (hf i _ x h2 hi)
abbrev dG(b:Nat×List Tx):D:=.tup [.str [b.1],aa b.2]
abbrev aj(h w:Nat)(bs:8#0):D:=.tup [.int h,.int w,.tup (bs.map dG)]
structure bS(h w:Nat)(bs:8#0):Prop where
 h0:0<h
 h1:h<=4w0:0<w
 w1:w<=4hw:2<h+w
 n0:0<bs.length
 n1:bs.length<=26up:(bs.map (·.1)).Pairwise (.<.)t9:∀b∈bs,97<=b.1/\b.1<=122cW:∀b∈bs,b.2.length=h/\∀r∈b.2,r.length=w/\∀n∈r,n∈bs.map (·.1)
theorem t_{el cs A}(f F:A->D)(Y:Dl):∀(as:List A)(acc:List D),acc.length+as.length<=W7->(∀a∈as,∃SL PP x Pi,g (.pure (f a)) Y=some SL/\t SL=.ok true PP/\el PP=.ok x Pi/\bt cs Pi=Y/\x.d=F a)->dR cs g t el (as.map f) Y acc=.ok (acc++as.map F) Y
 |[],acc,_,_=>#v[dR]|a::r,acc,hl,hs=>by
  obtain⟨SL,PP,x,Pi,e1,e2,e3,e4,e5⟩:=hs a WA;have gO:acc.length<W7:=by simp at hl;lia
  have ih:=t_ (cs:=cs) (g:=g) (t:=t) (el:=el) f F Y r (acc++[x.d]) Re λa ha=>hs a (Wh _ ha);rw[Wj];unfold dR;simp_all
def uc(K:W2)(neg:Bool):R2:=λx y H Q=>∃p vs ds d,y=.ref p/\bN K H p vs/\aG H cx vs ds/\Rep H cx x d/\flat 49 d=true/\(∀e∈ds,flat 49 e=true)/\Q (.bl (if neg then !ds.any λe=>aW e d else ds.any λe=>aW e d)) H
theorem ud(hu:X.A.units+64<WK)(I:Lake.Inv X pins Z H s)(rx:RelV x v)(r1:Rep H cx x d)(f1:flat 49 d=true)(rv:Vals vs af)(rs:aG H cx vs ds)(fs:∀e∈ds,flat 49 e=true):∃e:Value->Bool,(∀y∈af.toArray,SeqAt.EqAt X.A.in1 s y v (e y))/\af.toArray.any e=ds.any λe=>aW e d:=by
 have pre:=vZ I (A:=X.A) 50 Y';obtain⟨_,it⟩:=pre;have lv:=rv.length;have at_:∀(i:Nat)(y:Value)(e:D),af[i]?=some y->ds[i]?=some e->SeqAt.EqAt X.A.in1 s y v (aW e d):=λi y e h1 h2=>by
  have hi:i<vs.length:=by rw[rs.1];exact(Wd.mp h2).1
  have hv:vs[i]?=some vs[i]:=W4 hi;obtain⟨y',e1,ry⟩:=rv.get hv;rw[h1]at e1;cases e1;exact it _ _ _ _ _ _ _ (show X.A.units+1+49+1<WK by lia) (fs e (WQ h2)) f1 (rs.2 i _ _ hv h2) r1 ry rx
 have dec:∀p:Prop,Decidable p:=Classical.propDecidable;refine⟨λy=>decide (∃(i:Nat)(e:D),af[i]?=some y/\ds[i]?=some e/\aW e d=true),λy hy=>?_,?_⟩
 .have jX:y∈af:= ~~~hy;obtain⟨i,h1⟩:=List.getElem?_of_mem jX;have hi:i<ds.length:=by have:=(Wd.mp h1).1;rw[<-rs.1,lv];exact this
  have h2:ds[i]?=some ds[i]:=W4 hi;by_cases q:∃(i:Nat)(e:D),af[i]?=some y/\ds[i]?=some e/\aW e d=true;.obtain⟨j,e,q1,q2,q3⟩:=id q;have:=at_ j y e q1 q2;rw[q3]at this;show SeqAt.EqAt X.A.in1 s y v (decide _);rw[decide_eq_true q];exact this
  .have:=at_ i y _ h1 h2;have hf:aW ds[i] d=false:=by cases z:aW ds[i] d with|false=>rfl|true=>exact absurd ⟨i,_,h1,h2,z⟩ q
   rw[hf]at this;show SeqAt.EqAt X.A.in1 s y v (decide _);rw[decide_eq_false q];exact this
 .rw[QE,JQ];simp only[List.any_toArray,JQ,decide_eq_true_eq];constructor;.rintro⟨y,_,i,e,h1,h2,h3⟩;exact⟨e,WQ h2,h3⟩
  .rintro⟨e,he,h3⟩;obtain⟨i,h2⟩:=List.getElem?_of_mem he;have hi:i<af.length:=by rw[<-lv,rs.1];exact(Wd.mp h2).1
   have h1:af[i]?=some af[i]:=W4 hi;exact⟨af[i],WU hi,i,e,h1,h2,h3⟩
theorem SR(hu:X.A.units+64<WK):a_ X (WC .In) (uc X.K false):=by intro pins s Z H x y v u Q I rx ry h;obtain⟨p,vs,ds,d,rfl,hq,rs,r1,f1,fs,q⟩:=h;cases ry;obtain⟨af,r,pl,hz⟩:=I.list hq;obtain⟨e,h1,h2⟩:=ud hu I rx r1 f1 r rs fs;refine SeqAt.in_listAt e pl.isList h1 ⟨.bl _,H,I,rfl,?_⟩;rw[h2];exact q
theorem SU(hu:X.A.units+64<WK):a_ X (WC .NotIn) (uc X.K true):=by intro pins s Z H x y v u Q I rx ry h;obtain⟨p,vs,ds,d,rfl,hq,rs,r1,f1,fs,q⟩:=h;cases ry;obtain⟨af,r,pl,hz⟩:=I.list hq;obtain⟨e,h1,h2⟩:=ud hu I rx r1 f1 r rs fs;refine SeqAt.notIn_listAt e pl.isList h1 ⟨.bl _,H,I,rfl,?_⟩;rw[h2];exact q
noncomputable def mT(neg:Bool)(x y:D):Option S:=match y with|.lst ds=>if flat 49 x&&ds.all (flat 49)then 0#(.bl (if neg then !ds.any λe=>aW e x else ds.any λe=>aW e x)) else none|_=>none
universe H in theorem SV(neg:Bool):bV (uc K neg) (mT neg):=by
 intro c Z Y H x y d e s Q k rx ry hp q;cases e<;>first|(simp[mT]at hp;done)|skip
 rename_i ds;simp only[mT]at hp;split at hp;.rename_i hf;cases hp;simp only[Wn,WV]at hf;obtain⟨a,vs,ea,ha,r⟩:=ry.lst;exact⟨a,vs,ds,d,ea,.inl ha,aG.aS r λ_ z=>z.elim,rx.un,hf.1,hf.2,q _ H (.refl k) (.bl _)⟩
 .cases hp
section
open PySem.SeqAt
mutual def hV:NK->Nat|.i _=>1|.s _=>1|.t ks=>iH ks+1def iH:List NK->Nat|[]=>0|k::ks=>hV k+iH ks end
inductive cX(h:Heap):Nat->NK->Value->Prop|int{n:Nat}(z:Int)(t:Tok):cX h n (.i z) (.int z t)|bl{n:Nat}(b:Bool):cX h n (.i (if b then 1 else 0)) (.bool b)|str{n:Nat}(x:Str)(t:Tok):cX h n (.s x) (.str x t)|tup{n:Nat}{a:Addr}{af:Array Value}{ks:List NK}:h.IsTuple a af->ks.length=af.toList.length->(∀(i:Nat)k v,ks[i]?=some k->af.toList[i]?=some v->cX h n k v)->cX h (n+1) (.t ks) (.ref a)
section
variable{h:Heap}
theorem SY{α β:Type}{xs ys:List α}{vs:List β}(h1:xs.length=vs.length)(h2:ys.length=vs.length)(q:∀(i:Nat)x y v,xs[i]?=some x->ys[i]?=some y->vs[i]?=some v->x=y):xs=ys:=by apply List.ext_getElem Y';intro i a b;exact q i _ _ vs[i] (W4 a) (W4 b) (W4 Y')
theorem cX.inj{x:NK}{v:Value}(r:cX h n x v):∀{m:Nat}{y:NK},cX h m y v->x=y:=by induction r with|int z t=>intro m y k;cases k;rfl|bl b=>intro m y k;cases k;rfl|str x t=>intro m y k;cases k;rfl|@tup n a af ks h1 h2 h3 ih=>intro m y k;cases k with|@tup m _ its' ks' k1 k2 k3=>obtain⟨o,e,c,q,d⟩:=h1;obtain⟨o',e',c',q',d'⟩:=k1;rw[e]at e';cases e';rw[d]at d';cases d';rw[SY h2 k2 λi x y v e1 e2 e3=>ih i x v e1 e3 (k3 i y v e2 e3)]
theorem cX.kept(r:cX h n x v)(k:∀b af,h.IsTuple b af->h'.IsTuple b af):cX h' n x v:=by induction r with|int z t=>exact .int z t|bl b=>exact .bl b|str x t=>exact .str x t|tup h1 h2 h3 ih=>exact .tup (k _ _ h1) h2 ih
theorem cX.up(r:cX h n x v):∀{m:Nat},n<=m->cX h m x v:=by induction r with|int z t=>intro m _;exact .int z t|bl b=>intro m _;exact .bl b|str x t=>intro m _;exact .str x t|tup h1 h2 h3 ih=>intro m l;obtain⟨m,rfl⟩:∃m',m=m'+1:=⟨m-1,Y'⟩;exact .tup h1 h2 λi k v e1 e2=>ih i k v e1 e2 Y'
end
theorem S0(h:Q (hashInt (if b then 1 else 0)) {s with toks:=s.toks+1}):W8 4#0 A (PySem.pyHash (.bool b)) Q E s:=by
 have z:reduceHash (if b then 1 else 0)=hashInt (if b then 1 else 0):=by cases b<;>decide+kernel
 refine PySem.W.pyHash_slot (id:="int.__hash__") (T:="bool") (hT:=rfl) (slot:=F.slot_bool_hash) (entry:=entry_int_hash) (args:=args_int_hash _) (hid:=beq_builtin_none _) (hu:=.inl rfl) (body:=?_);cases b;.exact show W8 _ _ (mkInt 0>>=λv=>ret v) _ _ _ from W0 (wpAny_mkInt (W3 ⟨_,_,rfl,z▸h⟩))
 .exact show W8 _ _ (mkInt 1>>=λv=>ret v) _ _ _ from W0 (wpAny_mkInt (W3 ⟨_,_,rfl,z▸h⟩))
theorem Ej(w:Wx):∀ks:List NK,rA w ks=ks.map (fz w)|[]=>rfl|k::ks=>by simp only[rA,Wj,Ej w ks]
theorem Ek:∀xs ys:List NK,iH (xs++ys)=iH xs+iH ys|[],ys=>#v[iH]|x::xs,ys=>by simp only[List.cons_append,iH,Ek xs ys];lia
theorem cX.pyHash(r:cX h n k v):∀{A:Wp}{s:W1}{Q:Int->W1->Prop},s.heap=h->A.units+n<WK->Q (fz w k) {s with toks:=s.toks+hV k}->W8 4#0 A (PySem.pyHash v) Q E s:=by induction r with|int z t=>intro A s Q _ _ q;exact wpAny_pyHash_int q|bl b=>intro A s Q _ _ q;exact S0 q|str x t=>intro A s Q _ _ q;exact wpAny_pyHash_str q|@tup n a af ks h1 h2 h3 ih=>
  intro A s Q hs hu q;subst hs;obtain⟨o,ho,hc,m,hd⟩:=id h1;have hT:s.TypeIs (.ref a) "tuple":=⟨o,ho,hc⟩;refine PySem.W.pyHash_slot (T:="tuple") hT F.slot_tuple_hash F.entry_tuple_hash (F.args_tuple_hash_1 _) (beq_builtin_none _) (.inr Y') ?_;show W8 _ _ (Jn (.ref a)>>=_) _ _ s;refine W0 (wpAny_tupleItemsOf ho hd ?_);refine W0 ?_;rw[<-Array.forIn_toList];refine wpAny_forIn_list _ (λrest(b:Array Int)s'=>∃i,i<=ks.length/\rest=af.toList.drop i/\b.toList=(ks.take i).map (fz w)/\s'={s with toks:=s.toks+iH (ks.take i)}) _ ?_ ?_ _ _ ⟨0,Q2 _,rfl,rfl,#v[iH]⟩
  .rintro x rest b s'⟨i,hi,hr,hb,rfl⟩;have bz:i<af.toList.length:=by
    rcases Nat.lt_or_ge i af.toList.length with z|z;.exact z
    .rw[List.drop_eq_nil_of_le z]at hr;cases hr
   rw[QG bz]at hr;injection hr with hx hr;have je:i<ks.length:=by lia
   refine W0 (ih i ks[i] x (W4 je) %[hx|W4 bz] rfl (show A.units+1+n<WK by lia) ?_);have ht:ks.take (i+1)=ks.take i++[ks[i]]:=by simp_all
   have fin:∃j,j<=ks.length/\rest=af.toList.drop j/\(b.push (fz w ks[i])).toList=(ks.take j).map (fz w)/\({s with toks:=s.toks+iH (ks.take i)+hV ks[i]}:W1)={s with toks:=s.toks+iH (ks.take j)}:=by refine⟨i+1,je,hr,by rw[ht,Qb,Array.toList_push,hb];rfl,?_⟩;rw[ht,Ek];simp only[iH];rw[Nat.add_zero,Jp]
   first|exact W3 fin|exact W0 (W3 (W3 fin))
  .rintro b s'⟨i,hi,hr,hb,rfl⟩;have hz:i=ks.length:=by have:=congrArg QS hr;simp at this;simp at h2;lia
   subst hz;rw[List.take_length]at hb⊢;show W8 _ _ (retInt (Builtin.Tuple.tupleHashOf b.toList)) _ _ _;rw[hb];refine W0 (wpAny_mkInt (W3 ⟨_,_,rfl,?_⟩));simp only[fz,hV,Ej]at q;simpa[Jp]using q
theorem cX.quiet(r:cX s.heap n k v):∀{A:Wp}{m:Nat}{Q:Bool->W1->Prop},n<=m->Q true s->W8 4#0 A (eqIsQuiet m v) Q E s:=by induction r with|int z t=>intro A m Q _ q;rw[eqIsQuiet_byValue _ rfl];exact W3 q|bl b=>intro A m Q _ q;rw[eqIsQuiet_byValue _ rfl];exact W3 q|str x t=>intro A m Q _ q;rw[eqIsQuiet_byValue _ rfl];exact W3 q|@tup n a af ks h1 h2 h3 ih=>
  intro A m Q hm q;obtain⟨o,ho,hc,mm,hd⟩:=id h1;have hT:s.TypeIs (.ref a) "tuple":=⟨o,ho,hc⟩;obtain⟨m,rfl⟩:∃m',m=m'+1:=⟨m-1,Y'⟩;unfold eqIsQuiet;refine W0 (wpAny_specialOf hT F.slot_tuple_eq.lookup ?_);show W8 _ _ (isInstance (.ref a) (.type "tuple")>>=_) _ _ s;refine W0 (wpAny_isInstance hT isSubtype_tuple_tuple ?_);simp only[JD,WZ,if_false];refine W0 (wpAny_seqItems ho hd ?_);refine W0 ?_;show W8 _ _ (forIn af _ _) _ _ s;rw[<-Array.forIn_toList];refine wpAny_forIn_list _ (λrest r s'=>r.1=none/\s'=s/\∃i,rest=af.toList.drop i) _ ?_ ?_ _ _ ⟨rfl,rfl,0,rfl⟩
  .rintro x rest r s'⟨hr,rfl,i,hi⟩;have bz:i<af.toList.length:=by grind[List.drop_eq_nil_of_le]
   rw[QG bz]at hi;injection hi with hx hi;have je:i<ks.length:=by lia
   refine W0 (ih i ks[i] x (W4 je) %[hx|W4 bz] Y' ?_);simp only[JD,WZ,if_false];exact W3 ⟨rfl,rfl,i+1,hi⟩
  grind[W3]
theorem lI(a b:Int):decide (NK.i a=NK.i b)=(a==b):=by grind
theorem xD(a b:Str):decide (NK.s a=NK.s b)=(a==b):=by grind
theorem xE(a b:Bool):(a==b)=(((if a then 1 else 0:Int))==(if b then 1 else 0:Int)):=by cases a<;>cases b<;>rfl
theorem S5{xs e}(he:∀(j:Nat)x y,xs[j]?=some x->ys[j]?=some y->e j=decide (x=y)):((Wl (min xs.length ys.length)).all e&&xs.length==ys.length)=decide (NK.t xs=NK.t ys):=by
 by_cases hl:xs.length=ys.length
 .rw[<-hl,Nat.min_self];simp only[beq_self_eq_true,Bool.and_true];by_cases hx:xs=ys;.simp_all
  .rw[decide_eq_false λq=>hx (NK.t.inj q)];rw[List.all_eq_false];apply Classical.byContradiction;intro hn;apply hx;apply List.ext_getElem hl;intro j a b;apply Classical.byContradiction;intro bO;refine hn ⟨j,List.mem_range.mpr a,?_⟩;rw[he j _ _ (W4 a) (W4 b)];simpa using bO
 grind
theorem cX.S6(r:cX s.heap n x u):∀{A:Wp}{m:Nat}{y:NK}{v:Value},cX s.heap m y v->A.units+n<WK->EqAt A s u v (decide (x=y)):=by induction r with
 |int z t=>intro A m y v k hu;cases k with|int z' t'=>rw[lI];exact EqAt.int_int _ _ _ _|bl b=>rw[lI];exact EqAt.int_bool _ _ _|str x t'=>rw[decide_eq_false λq=>nomatch q];exact EqAt.int_str _ _ _ _|tup k1 k2 k3=>rw[decide_eq_false λq=>nomatch q];exact EqAt.int_tuple _ _ k1 Y'
 |bl b=>intro A m y v k hu;cases k with|int z' t'=>rw[lI];exact EqAt.bool_int _ _ _|bl b=>rw[lI,<-xE];exact EqAt.bool_bool _ _|str x t'=>rw[decide_eq_false λq=>nomatch q];exact EqAt.bool_str _ _ _|tup k1 k2 k3=>rw[decide_eq_false λq=>nomatch q];exact EqAt.bool_tuple _ k1 Y'
 |str x t=>intro A m y v k hu;cases k with|int z' t'=>rw[decide_eq_false λq=>nomatch q];exact EqAt.str_int _ _ _ _|bl b=>rw[decide_eq_false λq=>nomatch q];exact EqAt.str_bool _ _ _|str x t'=>rw[xD];exact EqAt.str_str _ _ _ _|tup k1 k2 k3=>rw[decide_eq_false λq=>nomatch q];exact EqAt.str_tuple _ _ k1 Y'
 |@tup n a af ks h1 h2 h3 ih=>intro A m y v k hu;cases k with|int z' t'=>rw[decide_eq_false λq=>nomatch q];exact EqAt.tuple_int _ _ h1 Y'|bl b=>rw[decide_eq_false λq=>nomatch q];exact EqAt.tuple_bool _ h1 Y'|str x t'=>rw[decide_eq_false λq=>nomatch q];exact EqAt.tuple_str _ _ h1 Y'|@tup m' b its' ks' k1 k2 k3=>
   by_cases pq:a=b;.subst pq;have e:NK.t ks=NK.t ks':=cX.inj (cX.tup h1 h2 h3) (cX.tup k1 k2 k3);rw[decide_eq_true e];exact EqAt.same _
   .refine EqAt.of_refs pq ?_;let e:Nat->Bool:=λj=>match ks[j]?,ks'[j]? with|some x,some y=>decide (x=y)|_,_=>false;have z1:af.size=ks.length:= ~~~h2.symm;have z2:its'.size=ks'.length:= ~~~k2.symm;have q:=RcAt.tuples (A:=A) (s:=s) (e:=e) h1 k1 Y' λj j1 j2=>by
     have l1:j<ks.length:=by lia
     have l2:j<ks'.length:=by lia
     have ee:e j=decide (ks[j]=ks'[j]):=by simp only[e,W4 l1,W4 l2]
     rw[ee];exact ih j ks[j] af[j] (W4 l1) #v[j1] (k3 j ks'[j] its'[j] (W4 l2) #v[j2]) (show A.units+1+n<WK by lia)
    rw[z1,z2,S5 λj x y e1 e2=>by simp only[e,e1,e2]]at q;exact q
theorem S7{es ep}(ho:h.get? d=some o)(hd:o.data=.dict es ep)(hs:U3 d h h'):∀b af,h.IsTuple b af->h'.IsTuple b af:=λb af hh=>by
 obtain⟨o',e,c,n,q⟩:=hh
 have bO:b≠d:=by grind
 exact⟨o',(hs.2 b bO).trans e,c,n,q⟩
noncomputable def nkKind(prog:Wk)(w:Wx):HeapKind prog w NK where
 is:=λh k a=>cX h 6 k (.ref a)
 hash:=fz w
 draws:=hV
 room:=λA=>A.units+6<WK
 inj:=λhx hy=>hx.inj hy
 keeps:=λx ho hd hs=>x.kept (S7 ho hd hs)
 pyHash:=λhu hk h=>hk.pyHash rfl hu h
 eqBool:=λhu hx hy h=>hx.S6 hy hu _ _ _ _ h
 quiet:=λhk h=>hk.quiet Y' h
def kN:Key->NK|.inl z=>.i z|.inr x=>.s x
theorem S8(h:kN p=kN q):p=q:=by cases p<;>cases q<;>first|(cases h;rfl)|cases h
def jE(h:Heap)(m:Bool)(k:NK)(u:Value):Prop:=match m with|true=>∃a,u=.ref a/\cX h 6 k u|false=>∃q:Key,il q u=true/\k=kN q
theorem S9(h1:il p u=true)(h2:il q u=true):p=q:=by all_goals grind[kF]
def ent(w:Wx)(x:NK×Value×Value):DictEntry:=⟨fz w x.1,x.2.1,x.2.2⟩
theorem El(hu:A.units+6<WK)(hk:jE s.heap m k u)(h:Q (fz w k) {s with toks:=s.toks+hV k}):W8 4#0 A (PySem.pyHash u) Q E s:=by cases m with|true=>obtain⟨a,rfl,r⟩:=hk;exact r.pyHash rfl hu h|false=>obtain⟨q,h1,rfl⟩:=hk;refine(fg prog w).pyHash (k:=q) h1 ?_;cases q<;>exact h
theorem Em:∀{xs:List (NK×Value×Value)},(∀x∈xs,jE h true x.1 x.2.1)->∃ys:List (NK×Addr×Value),xs=ys.map λy=>(y.1,Value.ref y.2.1,y.2.2)|[],_=>⟨[],rfl⟩|x::xs,q=>by obtain⟨ys,e⟩:=Em (xs:=xs) λy hy=>q y (Wh _ hy);obtain⟨a,e1,_⟩:=q x WA;exact⟨(x.1,a,x.2.2)::ys,by rw[Wj,<-e];simp only[<-e1]⟩
theorem En{k:NK}{d:Addr}{o:Obj}{es ep}{Q:Option Nat->W1->Prop}(hu:A.units+6<WK)(hk:jE s.heap m k u)(ho:s.heap.get? d=some o)(hd:o.data=.dict es ep)(he:es.toList=xs.map (ent w))(hx:∀x∈xs,jE s.heap m x.1 x.2.1)(hn:(xs.map (·.1)).Nodup)(Ep:(∀(j:Nat)p,xs[j]?≠some (k,p))->Q none s)(nX:∀(j:Nat)p,xs[j]?=some (k,p)->Q (some j) s):W8 4#0 A (dictFind d u (fz w k)) Q E s:=by
 cases m with|true=>
 obtain⟨a,rfl,r⟩:=hk;obtain⟨ys,rfl⟩:=Em hx;refine wpAny_dictFind_heap (knd:=nkKind prog w) (xs:=ys) hu r ho hd (by rw[he,Q9];rfl) (λy hy=>?_) (by rw[Q9]at hn;exact hn) (λdh=>Ep λj p e=>?_) λj p e=>?_;.obtain⟨b,e1,e2⟩:=hx _ (QB hy);cases e1;exact e2
 .rw[WD]at e;cases q:ys[j]? with|none=>rw[q]at e;cases e|some y=>rw[q]at e;simp only[WM,Wb]at e;exact dh j y.2 (by rw[q,<-show y.1=k from congrArg Prod.fst e])
 .exact nX j (.ref p.1,p.2) (by rw[WD,e];rfl)|false=>
 obtain⟨q,h1,rfl⟩:=hk;have lu:∀(j:Nat)e,es[j]?=some e->∃x,xs[j]?=some x/\e=ent w x:=λj e z=>by rw[<-Qh,he,WD]at z;cases y:xs[j]? with|none=>rw[y]at z;cases z|some x=>rw[y]at z;simp only[WM,Wb]at z;exact⟨x,rfl,z.symm⟩
 have ks:KeysOf (fg prog w) es:=λe kg=>by obtain⟨j,hj⟩:=List.mem_iff_getElem?.mp (Array.mem_toList_iff.mpr kg);obtain⟨x,e1,rfl⟩:=lu j e (by rw[<-Qh];exact hj);obtain⟨q',e2,e3⟩:=hx x (WQ e1);refine⟨q',e2,?_⟩;show fz w x.1=_;rw[e3];cases q'<;>rfl
 have hh:fz w (kN q)=(fg prog w).hash q:=by cases q<;>rfl
 rw[hh];refine wpAny_dictFind_of (knd:=fg prog w) (k:=q) h1 ho hd ks ?_;cases hf:es.findIdx? λe=>(fg prog w).is q e.key with|none=>
 refine Ep λj p e=>?_;have hj:j<xs.length:=(Wd.mp e).1;have hz:es.size=xs.length:=by rw[<-WY,he,Wq]
 obtain⟨x,e1,e2⟩:=lu j es[j] #v[hz,hj];rw[e]at e1;cases e1;have:=Array.findIdx?_eq_none_iff.mp hf es[j] (J9 _);obtain⟨q',e3,e4⟩:=hx _ (WQ e);rw[S8 e4]at this;rw[e2]at this;have z:il q' p.1=false:=this;grind|some j=>obtain⟨bz,hp,_⟩:=Array.findIdx?_eq_some_iff_getElem.mp hf;obtain⟨x,e1,e2⟩:=lu j es[j] #v[bz];obtain⟨q',e3,e4⟩:=hx x (WQ e1);rw[e2]at hp;have:q=q':=S9 (show il q x.2.1=true from hp) e3;grind
noncomputable def atN(xs:List (NK×Value×Value))(k:NK):Option (Value×Value):=(xs.find? λx=>decide (x.1=k)).map (·.2)
noncomputable def stN(xs:List (NK×Value×Value))(k:NK)(u v:Value):List (NK×Value×Value):=if(xs.any λx=>decide (x.1=k))=true then xs.map λx=>if x.1=k then(x.1,x.2.1,v)else x else xs++[(k,u,v)]
theorem Er(h:∀(j:Nat)p,xs[j]?≠some (k,p)):atN xs k=none/\(xs.any λx=>decide (x.1=k))=false:=by
 have z:∀x∈xs,decide (x.1=k)=false:=λx hx=>by grind[List.mem_iff_getElem?]
 grind[atN]
theorem xF:∀{xs:List (NK×Value×Value)}{k:NK}{j:Nat}{p:Value×Value},(xs.map (·.1)).Nodup->xs[j]?=some (k,p)->atN xs k=some p/\(xs.any λx=>decide (x.1=k))=true|[],k,j,p,_,e=>by simp at e|x::xs,k,j,p,hn,e=>by rw[Wj,List.nodup_cons]at hn;cases j with|zero=>simp at e;subst e;simp[atN]|succ j=>have e':xs[j]?=some (k,p):= ~~~e;have bO:¬x.1=k:=λz=>hn.1 (by rw[z];exact List.mem_map.mpr ⟨_,WQ e',rfl⟩);obtain⟨h1,h2⟩:=xF hn.2 e';grind[atN]
theorem S_{k:NK}{d:Addr}{o:Obj}{es ep}{Q:Option Value->W1->Prop}(hu:A.units+6<WK)(hk:jE s.heap m k u)(ho:s.heap.get? d=some o)(hd:o.data=.dict es ep)(he:es.toList=xs.map (ent w))(hx:∀x∈xs,jE s.heap m x.1 x.2.1)(hn:(xs.map (·.1)).Nodup)(h:Q ((atN xs k).map (·.2)) {s with toks:=s.toks+hV k}):W8 4#0 A (dictGet d u) Q E s:=by
 unfold dictGet;try with_reducible refine WP ?_
 refine W0 (El hu hk (W0 (En (s:={s with toks:=s.toks+hV k}) hu hk ho hd he hx hn ?_ ?_)));.intro dh;rw[(Er dh).1]at h;exact W3 h
 .intro j p hj;rw[(xF hn hj).1]at h;refine W0 (JJ (s:={s with toks:=s.toks+hV k}) ho hd ?_);rw[<-Qh,he,WD,hj];exact W3 h
universe H in theorem Es(hn:(xs.map (·.1)).Nodup):((stN xs k u v).map (·.1)).Nodup:=by
 unfold stN;split;.rw[Q9];rw[show((λx:NK×Value×Value=>x.1)∘λx=>if x.1=k then(x.1,x.2.1,v)else x)=(·.1)from funext λx=>by simp only[Function.comp];split<;>rfl];exact hn
 .rename_i hh;rw[Qb,List.nodup_append];refine⟨hn,Zw,λx hx y hy e=>?_⟩;simp only[Wj,List.map_nil,List.mem_singleton]at hy;subst hy e;obtain⟨z,hz,e⟩:=WH.mp hx;exact hh (List.any_eq_true.mpr ⟨z,hz,decide_eq_true e⟩)
theorem Eu:∀{xs:List (NK×Value×Value)}{j:Nat}{p:Value×Value},(xs.map (·.1)).Nodup->xs[j]?=some (k,p)->(xs.map (ent w)).modify j (λe=>{e with val:=v})=(xs.map λx=>if x.1=k then(x.1,x.2.1,v)else x).map (ent w)
 |[],j,p,_,e=>by simp at e|x::xs,j,p,hn,e=>by
  rw[Wj,List.nodup_cons]at hn
  cases j with|zero=>
   simp at e;subst e;have z:(xs.map λx=>if x.1=k then(x.1,x.2.1,v)else x)=xs:=by
    conv=>rhs;rw[<-List.map_id xs]
    refine JX λy hy=>?_;rw[if_neg λq=>hn.1 (List.mem_map.mpr ⟨y,hy,q⟩)];rfl
   rw[Wj,Wj,Wj,z,if_pos rfl];rfl|succ j=>have e':xs[j]?=some (k,p):= ~~~e;have bO:¬x.1=k:=λz=>hn.1 (by rw[z];exact List.mem_map.mpr ⟨_,WQ e',rfl⟩);rw[Wj,Wj,Wj,if_neg bO];show ent w x::(xs.map (ent w)).modify j _=_;rw[Eu hn.2 e']
theorem Ew{k:NK}{v:Value}{d:Addr}{o:Obj}{es ep}{Q:Unit->W1->Prop}(hu:A.units+6<WK)(hk:jE s.heap m k u)(ho:s.heap.get? d=some o)(hc:o.ExactDict)(hd:o.data=.dict es ep)(he:es.toList=xs.map (ent w))(hx:∀x∈xs,jE s.heap m x.1 x.2.1)(hn:(xs.map (·.1)).Nodup)(hz:xs.length<=W7)(hQ:∀h' o' jR fQ,h'.get? d=some o'->o'.ExactDict->o'.data=.dict jR fQ->jR.toList=(stN xs k u v).map (ent w)->U3 d s.heap h'->Q () {s with heap:=h',toks:=s.toks+hV k}):W8 4#0 A (dictSet d u v) Q E s:=by
 have hsz:es.size=xs.length:=by rw[<-WY,he,Wq]
 unfold dictSet;try with_reducible refine WP ?_
 refine W0 (El hu hk ?_);unfold dictSetHashed;try with_reducible refine WP ?_
 refine W0 (En (s:={s with toks:=s.toks+hV k}) hu hk ho hd he hx hn ?_ ?_);.intro dh;refine W0 (QF (wpAny_updateDictKeys (hz:=by lia) (s:={s with toks:=s.toks+hV k}) ho hd (hQ _ _ _ (ep+1) (Qs _ ho (Obj.isFreed_of_dict (Obj.data_mapDictKeys hd _))) (hc.mapDictKeys _) (Obj.data_mapDictKeys hd _) ?_ (JZ ..))));unfold stN;rw[if_neg (by rw[(Er dh).2];simp)];simp[he,ent]
 .intro j p hj;refine W0 (QF (W0 (wpAny_updateDict (s:={s with toks:=s.toks+hV k}) ho hd (wpAny_point (hQ _ _ _ ep (Qs _ ho (Obj.isFreed_of_dict (Obj.data_mapDict hd _))) (hc.mapDict _) (Obj.data_mapDict hd _) ?_ (JZ ..))))));unfold stN;rw[if_pos (xF hn hj).2,<-Eu hn hj,<-he];grind
inductive iI(H:Hp):Nat->NK->V->Prop|int{n:Nat}(z:Int):iI H n (.i z) (.int z)|bl{n:Nat}(b:Bool):iI H n (.i (if b then 1 else 0)) (.bl b)|str{n:Nat}(x:Str):iI H n (.s x) (.str x)|tup{n:Nat}{a:Addr}{vs:List V}{ks:List NK}:H a=some (.tup vs)->ks.length=vs.length->(∀(i:Nat)k v,ks[i]?=some k->vs[i]?=some v->iI H n k v)->iI H (n+1) (.t ks) (.ref a)
def fW(H:Hp)(m:Bool)(k:NK)(v:V):Prop:=match m with|true=>(∃a,v=.ref a)/\iI H 6 k v|false=>∃q:Key,k=kN q/\v=kV q
theorem Vals.Ta{xs:List V}(r:Vals xs us)(e:us[i]?=some u):∃x,xs[i]?=some x/\RelV x u:=by
 have h1:=r.length;have h2:i<xs.length:=by have:=(Wd.mp e).1;lia
 obtain⟨u',e',rr⟩:=r.get (W4 h2);rw[e]at e';cases e';exact⟨_,W4 h2,rr⟩
theorem iI.nk{h:Heap}{k:NK}{v:V}(ok:ck P w H h)(r:iI H n k v):∀{u:Value},RelV v u->cX h n k u:=by induction r with|int z=>intro u q;obtain⟨t,rfl⟩:=q;exact .int z t|bl b=>intro u q;cases q;exact .bl b|str x=>intro u q;obtain⟨t,rfl⟩:=q;exact .str x t|@tup n a vs ks h1 h2 h3 ih=>intro u q;cases q;obtain⟨_,af,r,p⟩:=show aZ P w H h a (.tup vs)from ok a _ h1;have ht:h.IsTuple a af.toArray:=p.tup;refine .tup ht (by rw[h2];simpa using r.length) λi k u e1 e2=>?_;obtain⟨x,e3,rx⟩:=r.Ta (u:=u) (i:=i) (~~~e2);exact ih i k x e1 e3 rx
theorem fW.key(ok:ck P w H h)(r:fW H m k v)(q:RelV v u):jE h m k u:=by cases m with|true=>obtain⟨⟨a,rfl⟩,r⟩:=r;cases q;exact⟨a,rfl,r.nk ok rfl⟩|false=>obtain⟨q',rfl,rfl⟩:=r;exact⟨q',by rw[<-Ip P w];exact nC q,rfl⟩
abbrev NE:=NK×V×V
def du:List NE->List (NK×Value×Value)->Prop:=Paired λ(p:NE)(x:NK×Value×Value)=>p.1=x.1/\RelV p.2.1 x.2.1/\RelV p.2.2 x.2.2
theorem Ex{ao:List NE}{es:List DictEntry}(h:Paired (λ(p:NE)(e:DictEntry)=>e.hash=fz w p.1/\RelV p.2.1 e.key/\RelV p.2.2 e.val) ao es):∃xs,du ao xs/\es=xs.map (ent w):=by induction h with|nil=>exact⟨[],.nil,rfl⟩|@cons p e _ _ r t ih=>obtain⟨xs,h1,h2⟩:=ih;refine⟨(p.1,e.key,e.val)::xs,.cons ⟨rfl,r.2.1,r.2.2⟩ h1,?_⟩;rw[Wj,<-h2];unfold ent;rw[<-r.1]
theorem zev{ao:List NE}{xs:List (NK×Value×Value)}(h:du ao xs):Paired (λ(p:NE)(e:DictEntry)=>e.hash=fz w p.1/\RelV p.2.1 e.key/\RelV p.2.2 e.val) ao (xs.map (ent w)):=by induction h with|nil=>exact .nil|@cons p x _ _ r t ih=>exact .cons ⟨by show fz w x.1=_;rw[r.1],r.2.1,r.2.2⟩ ih
theorem du.keys{ao:List NE}{xs:List (NK×Value×Value)}(h:du ao xs):ao.map (·.1)=xs.map (·.1):=by induction h with|nil=>rfl|cons r t ih=>rw[Wj,Wj,r.1,ih]
noncomputable def valN(ao:List NE)(k:NK):Option V:=(ao.find? λp=>decide (p.1=k)).map (·.2.2)
noncomputable def putN(ao:List NE)(k:NK)(y v:V):List NE:=if(ao.any λp=>decide (p.1=k))=true then ao.map λp=>if p.1=k then(p.1,p.2.1,v)else p else ao++[(k,y,v)]
theorem du.val(k:NK){ao:List NE}{xs:List (NK×Value×Value)}(h:du ao xs):eF (valN ao k) ((atN xs k).map (·.2))/\(ao.any λp=>decide (p.1=k))=xs.any λx=>decide (x.1=k):=by induction h with|nil=>exact⟨trivial,rfl⟩|@cons p x ao xs r t ih=>
  obtain⟨i1,i2⟩:=ih;rw[QJ,QJ,i2,r.1];refine⟨?_,rfl⟩;unfold valN atN at i1⊢;rw[Qa,Qa,r.1];by_cases e:x.1=k;.rw[decide_eq_true e];exact r.2.2
  .rw[decide_eq_false e];exact i1
theorem du.st(rv:RelV v r){ao:List NE}{xs:List (NK×Value×Value)}(h:du ao xs):du (ao.map λp=>if p.1=k then(p.1,p.2.1,v)else p) (xs.map λx=>if x.1=k then(x.1,x.2.1,r)else x):=by induction h with|nil=>exact .nil|@cons p x _ _ q t ih=>
  rw[Wj,Wj];refine .cons ?_ ih;rw[q.1];by_cases e:x.1=k;.rw[if_pos e,if_pos e];exact⟨rfl,q.2.1,rv⟩
  .rw[if_neg e,if_neg e];exact q
theorem du.app(ry:RelV y u)(rv:RelV v r){ao:List NE}{xs:List (NK×Value×Value)}(h:du ao xs):du (ao++[(k,y,v)]) (xs++[(k,u,r)]):=by induction h with|nil=>exact .cons ⟨rfl,ry,rv⟩ .nil|cons q t ih=>exact .cons q ih
theorem du.put(ry:RelV y u)(rv:RelV v r)(h:du ao xs):du (putN ao k y v) (stN xs k u r):=by
 unfold putN stN;rw[(du.val k h).2];split;.exact h.st rv
 .exact h.app ry rv
section
variable{h:Heap}{a:Addr}{ao:List NE}
structure lJ(w:Wx)(h:Heap)(a:Addr)(ep:Nat)(xs:List (NK×Value×Value))(o:Obj)(es:Array DictEntry):Prop where
 get:h.get? a=some o
 ex:o.ExactDict
 data:o.data=.dict es ep
 ents:es.toList=xs.map (ent w)jF:(xs.map (·.1)).Nodup
theorem mU(ok:ck P w H h)(e:H a=some (.dN ep ao)):ao.length<=W7/\(a==QC)=false/\∃xs o es,du ao xs/\lJ w h a ep xs o es:=by obtain⟨z,hS,o,es,h1,h2,h3,h4,h5⟩:=show aZ P w H h a (.dN ep ao)from ok a _ e;obtain⟨xs,q1,q2⟩:=Ex h4;exact⟨z,hS,xs,o,es,q1,h1,h2,h3,q2,by rw[<-q1.keys];exact h5⟩
theorem Ey{es}(z:ao.length<=W7)(hS:(a==QC)=false)(r:du ao xs)(d:lJ w h a ep xs o es):aZ P w H h a (.dN ep ao):=⟨z,hS,o,es,d.get,d.ex,d.data,%[d.ents|zev r],%[r.keys|d.jF]⟩
theorem lJ.typeIs{o:Obj}{es:Array DictEntry}(d:lJ w s.heap a ep xs o es):s.TypeIs (.ref a) "dict":=⟨o,d.get,d.ex.1⟩
theorem lJ.noDict{es}(d:lJ w h a ep xs o es):∀b,Value.ref a=.ref b->∃ob,h.get? b=some ob/\ob.dict=none:=λb e=>by cases e;exact⟨o,d.get,d.ex.2.1⟩
theorem xG(ok:ck P w H h)(r:du ao xs)(hk:∀p∈ao,fW H m p.1 p.2.1):∀x∈xs,jE h m x.1 x.2.1:=by induction r with|nil=>intro x hx;simp at hx|cons q t ih=>
 intro x hx;rcases Wi.mp hx with rfl|hx;.rw[<-q.1];exact(hk _ WA).key ok q.2.1
 .exact ih (λp hp=>hk p (Wh _ hp)) x hx
end
def mV(H:Hp)(a:Addr)(y:V)(r:Option V):Prop:=∃m ep ao k,H a=some (.dN ep ao)/\(∀p∈ao,fW H m p.1 p.2.1)/\fW H m k y/\r=valN ao k
section
variable{a:Addr}{y v:V}{r:Value}{o:Option V}
theorem Tb(hu:A.units+6<WK)(I:Inv X pins Z H s)(g:mV H a y o)(ry:RelV y u)(h:∀w' s',Inv X pins Z H s'->eF o w'->Q w' s'):W8 5#0 A (dictGet a u) Q E s:=by obtain⟨m,ep,ao,k,e,hk,ky,rfl⟩:=g;obtain⟨z,hS,xs,ob,es,rx,d⟩:=mU I.aB e;exact S_ hu (ky.key I.aB ry) d.get d.data d.ents (xG I.aB rx hk) d.jF (h _ _ (I.tok _) (rx.val k).1)
theorem Tc(I:Inv X pins Z H s)(g:mV H a y o):s.TypeIs (.ref a) "dict"/\(∀b,Value.ref a=.ref b->∃ob,s.heap.get? b=some ob/\ob.dict=none)/\(a==QC)=false:=by obtain⟨m,ep,ao,k,e,hk,ky,rfl⟩:=g;obtain⟨z,hS,xs,ob,es,rx,d⟩:=mU I.aB e;exact⟨d.typeIs,d.noDict,hS⟩
theorem Ez(hu:A.units+8<WK)(I:Inv X pins Z H s)(g:mV H a y o)(ry:RelV y u)(h:∀s',Inv X pins Z H s'->Q o.isSome s'):W8 5#0 A (contains (.ref a) u) Q E s:=by
 obtain⟨hT,_,hS⟩:=Tc I g;unfold contains;try with_reducible refine WP ?_
 refine W0 (wpAny_specialOf hT slot_dict_contains.lookup ?_);show W8 _ _ (if(some (Value.builtin "dict.__contains__")==some Value.none)=true then _ else _) _ E s;rw[if_neg %[beq_builtin_none|WW]];refine W0 (wpAny_callSpecialUnlessNone?_slot (name:=Str.ofString "__contains__") hT slot_dict_contains (Qm slot_dict_contains hT entry_dict_contains ?_ (args_dict_contains _ _)));show W8 _ _ (dictGet a u>>=_) _ _ s;refine W0 (Tb (show A.units+1+6<WK by lia) I g ry λw' s' I' rr=>?_);cases o with|some x=>obtain⟨w2,rfl,r2⟩:=eF.some_of rr;show W8 _ _ (ret (.bool true)) _ _ _;exact W3 ⟨_,rfl,Qq (h s' I')⟩|none=>obtain rfl:=eF.none_of rr;show W8 _ _ (Builtin.Dict.pendingKey? a u>>=_) _ _ _;exact W0 (wpAny_pendingKey_other hS (W3 ⟨_,rfl,Qq (h s' I')⟩))
theorem Td(hu:A.units+8<WK)(I:Inv X pins Z H s)(g:mV H a y o)(ry:RelV y u)(h:∀s',Inv X pins Z H s'->Q (.bool o.isSome) s'):W8 5#0 A (WC .In u (.ref a)) Q E s:=by show W8 _ _ (do return .bool (<-contains (.ref a) u)) Q E s;exact W0 (Ez hu I g ry λs' I'=>W3 (h s' I'))
theorem Te(hu:A.units+8<WK)(I:Inv X pins Z H s)(g:mV H a y o)(ry:RelV y u)(h:∀s',Inv X pins Z H s'->Q (.bool !o.isSome) s'):W8 5#0 A (WC .NotIn u (.ref a)) Q E s:=by show W8 _ _ (do return .bool !(<-contains (.ref a) u)) Q E s;exact W0 (Ez hu I g ry λs' I'=>W3 (h s' I'))
def xH(H:Hp)(a:Addr)(y v:V)(R:Hp->Prop):Prop:=∃m ep ao k,H a=some (.dN ep ao)/\(∀p∈ao,fW H m p.1 p.2.1)/\fW H m k y/\ao.length<W7/\∀fQ,R (upd H a (.dN fQ (putN ao k y v)))
theorem xI(ao:List NE)(k:NK)(y v:V):(putN ao k y v).length<=ao.length+1:=by
 unfold putN;split;.simp
 .simp
theorem Tf(hu:A.units+6<WK)(I:Inv X pins Z H s)(g:xH H a y v R)(ry:RelV y u)(rv:RelV v r)(h:∀H' s',Inv X pins Z H' s'->R H'->Q () s'):W8 5#0 A (dictSet a u r) Q E s:=by
 obtain⟨m,ep,ao,k,e,hk,ky,hz,hR⟩:=g;obtain⟨z,hS,xs,ob,es,rx,d⟩:=mU I.aB e;have hl:xs.length<=W7:=by rw[<-Paired.length rx];exact z
 refine Ew hu (ky.key I.aB ry) d.get d.ex d.data d.ents (xG I.aB rx hk) d.jF hl λh' o' jR fQ q1 q2 q3 q4 hs=>h _ _ ?_ (hR fQ);have gO:(putN ao k y v).length<=W7:=by have:=xI ao k y v;lia
 exact vF I %[e|True.intro] hs ⟨o',q1⟩ (Ey gO hS (rx.put ry rv) ⟨q1,q2,q3,q4,Es d.jF⟩)
theorem Tg{R:Hp->Prop}{Q:Unit->W1->Prop}(hu:A.units+8<WK)(I:Inv X pins Z H s)(g:xH H a y v R)(ry:RelV y u)(rv:RelV v r)(h:∀H' s',Inv X pins Z H' s'->R H'->Q () s'):W8 5#0 A (setItem (.ref a) u r) Q E s:=by
 have hT:s.TypeIs (.ref a) "dict":=by obtain⟨m,ep,ao,k,e,_⟩:=g;obtain⟨z,hS,xs,ob,es,rx,d⟩:=mU I.aB e;exact d.typeIs
 unfold setItem;try with_reducible refine WP ?_
 refine W0 (Ue hT Z' ?_);refine W0 (Qu (name:=Str.ofString "__setitem__") hT slot_dict_setitem (Qm slot_dict_setitem hT entry_dict_setitem ?_ (args_dict_setitem _ _ _)));show W8 _ _ (Builtin.Dict.notOrdered "__setitem__" ⟨[.ref a,u,r],[]⟩>>=_) _ _ s;refine W0 (JM hT ?_);show W8 _ _ (dictSet a u r>>=_) _ _ s;exact W0 (Tf (show A.units+1+6<WK by lia) I g ry rv λH' s' I' hR=>W3 ⟨.none,rfl,W3 (h H' s' I' hR)⟩)
end
end
variable{acc:List NE}
theorem Ti(n:Nat)(i:Int):cn n (.int i)=some (.i i):=by cases n<;>rfl
theorem Tj(n:Nat)(b:Bool):cn n (.bl b)=some (.i (if b then 1 else 0)):=by cases n<;>rfl
theorem Tn(n:Nat)(x:Tx):cn n (.str x)=some (.s (toS x)):=by cases n<;>rfl
theorem EA(n:Nat)(xs:List D):cn (n+1) (.tup xs)=(gy n xs).map .t:=rfl
theorem ue(h:cn n d=some x):(∃i,d=.int i/\x=.i i)\/(∃b,d=.bl b/\x=.i (if b then 1 else 0))\/(∃s,d=.str s/\x=.s (toS s))\/∃m xs ks,n=m+1/\d=.tup xs/\gy m xs=some ks/\x=.t ks:=by cases d with
 |int i=>rw[Ti]at h;exact .inl ⟨i,rfl,(WS h).symm⟩|bl b=>rw[Tj]at h;exact .inr (.inl ⟨b,rfl,(WS h).symm⟩)|str s=>rw[Tn]at h;exact .inr (.inr (.inl ⟨s,rfl,(WS h).symm⟩))|tup xs=>cases n with|zero=>cases h|succ m=>rw[EA,Qz]at h;obtain⟨ks,hk,e⟩:=h;exact .inr (.inr (.inr ⟨m,xs,ks,rfl,rfl,hk,e.symm⟩))
 |_=>cases n<;>cases h
theorem EB(ih:∀(d e:D)(x y:NK),cn n d=some x->cn n e=some y->aW d e=decide (x=y)):∀(xs ys:List D)(ks ls:List NK),gy n xs=some ks->gy n ys=some ls->dF xs ys=decide (ks=ls)|[],[],ks,ls,h1,h2=>by grind[dF]|[],y::ys,ks,ls,h1,h2=>by simp only[gy,Wb,JC,Qz]at h1 h2;subst h1;obtain⟨k,_,l,_,rfl⟩:=h2;simp[dF]|x::xs,[],ks,ls,h1,h2=>by simp only[gy,Wb,JC,Qz]at h1 h2;subst h2;obtain⟨k,_,l,_,rfl⟩:=h1;simp[dF]|x::xs,y::ys,ks,ls,h1,h2=>by simp only[gy,JC,Qz]at h1 h2;obtain⟨k,hk,k',iZ,rfl⟩:=h1;obtain⟨l,hl,l',gO,rfl⟩:=h2;simp only[dF];rw[ih x y k l hk hl,EB ih xs ys k' l' iZ gO];grind
theorem EC:∀(n:Nat)(d e:D)(x y:NK),cn n d=some x->cn n e=some y->aW d e=decide (x=y):=by intro n;induction n with
 |zero=>intro d e x y h1 h2;rcases ue h1 with⟨i,rfl,rfl⟩|⟨b,rfl,rfl⟩|⟨s,rfl,rfl⟩|⟨m,xs,ks,e,_⟩<;>rcases ue h2 with⟨i,rfl,rfl⟩|⟨b,rfl,rfl⟩|⟨s,rfl,rfl⟩|⟨m,xs,ks,e,_⟩<;>first|(cases e;done)|(simp only[aW];first|(rw[decide_eq_false λq=>nomatch q];done)|(rw[lI,<-xE];done)|(rw[lI];done)|(rw[xD,pk];done))
 |succ n ih=>
 intro d e x y h1 h2;rcases ue h1 with⟨i,rfl,rfl⟩|⟨b,rfl,rfl⟩|⟨s,rfl,rfl⟩|⟨m,xs,ks,e1,rfl,hk,rfl⟩<;>rcases ue h2 with⟨i,rfl,rfl⟩|⟨b,rfl,rfl⟩|⟨s,rfl,rfl⟩|⟨m,ys,ls,e2,rfl,hl,rfl⟩<;>first|(simp only[aW];first|(rw[decide_eq_false λq=>nomatch q];done)|(rw[lI,<-xE];done)|(rw[lI];done)|(rw[xD,pk];done))|skip
 cases e1;cases e2;simp only[aW];rw[EB ih xs ys ks ls hk hl];grind
theorem ED:∀{xs:List D}{ks:List NK},gy n xs=some ks->ks.length=xs.length/\∀(i:Nat)d k,xs[i]?=some d->ks[i]?=some k->cn n d=some k|[],ks,h=>by simp[gy]at h;subst h;exact⟨rfl,λi d k e=>by simp at e⟩|x::xs,ks,h=>by simp only[gy,JC,Qz]at h;obtain⟨k,hk,k',iZ,rfl⟩:=h;obtain⟨h1,h2⟩:=ED iZ;refine⟨#v[h1],λi d kk e1 e2=>?_⟩;cases i with|zero=>simp at e1 e2;subst e1;subst e2;exact hk|succ i=>exact h2 i d kk (~~~e1) (~~~e2)
theorem To(r:Rep H O v d):∀{n:Nat}{k:NK},cn n d=some k->iI H n k v:=by
 induction r with|int i=>intro n k h;cases n<;>(simp[cn]at h;subst h;exact .int i)|bl b=>intro n k h;cases n<;>(simp only[cn,Wb]at h;subst h;exact .bl b)|str x=>intro n k h;cases n<;>(simp[cn]at h;subst h;exact .str _)|@tup a vs ds h1 h2 h3 h4 ih=>intro n k h;cases n with|zero=>simp[cn]at h|succ n=>
 simp only[cn,Qz]at h;obtain⟨ks,hk,rfl⟩:=h;obtain⟨l,g⟩:=ED hk;refine .tup h2 Y' λi k v e1 e2=>?_;have hi:i<ds.length:=by have:=(Wd.mp e1).1;lia
 exact ih i v ds[i] e2 (W4 hi) (g i ds[i] k (W4 hi) e1)|_=>intro n k h;cases n<;>simp[cn]at h
def hZ(m:Bool)(d:D):Bool:=match d with|.tup _=>m|.int _=>!m|.str _=>!m|_=>false
theorem uf(hm:hZ m d=true)(hk:cn 6 d=some k)(r:Rep H O v d):fW H m k v:=by cases m with|true=>have r':=To r hk;cases r<;>simp[hZ]at hm;exact⟨⟨_,rfl⟩,r'⟩|false=>
 cases r<;>simp[hZ]at hm;.simp[cn]at hk;subst hk;exact⟨.inl _,rfl,rfl⟩
 .simp[cn]at hk;subst hk;exact⟨.inr _,rfl,rfl⟩
def mW(m:Bool)(ds:List (D×D))(k:D):Bool:=hZ m k&&(cn 6 k).isSome&&ds.all λq=>hZ m q.1
def qf(k:D):Bool:=hZ true k
def jG(ds:List (D×D))(k:D):Option D:=(ds.find? λq=>aW q.1 k).map (·.2)
def km(ds:List (D×D))(k d:D):List (D×D):=if(ds.any λq=>aW q.1 k)=true then ds.map λq=>if aW q.1 k=true then(q.1,d)else q else ds++[(k,d)]
section
variable{ws:List NE}{ds:List (D×D)}{p:NE}{q:D×D}
theorem DN.nil:DN H O [] []:=⟨rfl,λi p q e=>by simp at e,λi p q e=>by simp at e,λi p q e=>by simp at e⟩
theorem DN.cons{H O ws ds p q}(h1:Rep H O p.2.1 q.1)(h2:Rep H O p.2.2 q.2)(h3:cn 6 q.1=some p.1)(r:DN H O ws ds):DN H O (p::ws) (q::ds):=by
 refine⟨#v[r.len],λi a b e1 e2=>?_,λi a b e1 e2=>?_,λi a b e1 e2=>?_⟩<;>cases i<;>simp at e1 e2;.subst e1;subst e2;exact h1
 .exact r.key _ a b e1 e2
 .subst e1;subst e2;exact h2
 .exact r.val _ a b e1 e2
 .subst e1;subst e2;exact h3
 .exact r.mn _ a b e1 e2
theorem DN.un(r:DN H O (p::ws) (q::ds)):Rep H O p.2.1 q.1/\Rep H O p.2.2 q.2/\cn 6 q.1=some p.1/\DN H O ws ds:=⟨r.key 0 p q rfl rfl,r.val 0 p q rfl rfl,r.mn 0 p q rfl rfl,~~~r.len,λi a b e1 e2=>r.key (i+1) a b (~~~e1) (~~~e2),λi a b e1 e2=>r.val (i+1) a b (~~~e1) (~~~e2),λi a b e1 e2=>r.mn (i+1) a b (~~~e1) (~~~e2)⟩
theorem DN.get(hk:cn 6 k=some kk):∀{ws:List NE}{ds:List (D×D)},DN H O ws ds->((jG ds k=none/\valN ws kk=none)\/∃v d,jG ds k=some d/\valN ws kk=some v/\Rep H O v d)/\(ds.any λq=>aW q.1 k)=ws.any λp=>decide (p.1=kk)
 |[],[],_=>⟨.inl ⟨rfl,rfl⟩,rfl⟩|[],_::_,r=>by have:=r.len;simp at this|_::_,[],r=>by have:=r.len;simp at this|p::ws,q::ds,r=>by
  obtain⟨r1,r2,r3,r4⟩:=r.un;obtain⟨i1,i2⟩:=DN.get hk r4;have e:=EC 6 q.1 k p.1 kk r3 hk;refine⟨?_,by rw[QJ,QJ,i2,e]⟩;unfold jG valN at i1⊢;rw[Qa,Qa,e];by_cases z:p.1=kk;.rw[decide_eq_true z];exact .inr ⟨_,_,rfl,rfl,r2⟩
  .rw[decide_eq_false z];exact i1
theorem DN.app(hk:cn 6 k=some kk)(ry:Rep H O y k)(rv:Rep H O v d):∀{ws:List NE}{ds:List (D×D)},DN H O ws ds->DN H O (ws++[(kk,y,v)]) (ds++[(k,d)])|[],[],_=>.cons ry rv hk .nil|[],_::_,r=>by have:=r.len;simp at this|_::_,[],r=>by have:=r.len;simp at this|p::ws,q::ds,r=>by obtain⟨r1,r2,r3,r4⟩:=r.un;exact .cons r1 r2 r3 (DN.app hk ry rv r4)
theorem DN.st(hk:cn 6 k=some kk)(rv:Rep H O v d):∀{ws:List NE}{ds:List (D×D)},DN H O ws ds->DN H O (ws.map λp=>if p.1=kk then(p.1,p.2.1,v)else p) (ds.map λq=>if aW q.1 k=true then(q.1,d)else q)
 |[],[],_=>.nil|[],_::_,r=>by have:=r.len;simp at this|_::_,[],r=>by have:=r.len;simp at this|p::ws,q::ds,r=>by
  obtain⟨r1,r2,r3,r4⟩:=r.un;have e:=EC 6 q.1 k p.1 kk r3 hk;rw[Wj,Wj,e];by_cases z:p.1=kk;.rw[decide_eq_true z,if_pos z,if_pos rfl];exact .cons r1 rv r3 (DN.st hk rv r4)
  .rw[decide_eq_false z,if_neg z,if_neg Zw];exact .cons r1 r2 r3 (DN.st hk rv r4)
theorem DN.put(hk:cn 6 k=some kk)(ry:Rep H O y k)(rv:Rep H O v d)(r:DN H O ws ds):DN H O (putN ws kk y v) (km ds k d):=by
 unfold putN km;rw[(DN.get hk r).2];split;.exact r.st hk rv
 .exact r.app hk ry rv
theorem DN.EE(hm:(ds.all λq=>hZ m q.1)=true)(r:DN H O ws ds):∀p∈ws,fW H m p.1 p.2.1:=λp hp=>by
 obtain⟨i,e⟩:=List.mem_iff_getElem?.mp hp;have hi:i<ds.length:=by have:=(Wd.mp e).1;have:=r.len;lia
 exact uf (WV.mp hm ds[i] (WU hi)) (r.mn i p ds[i] e (W4 hi)) (r.key i p ds[i] e (W4 hi))
end
theorem xJ{ds}(r:cw c Z Y H v (.dic ds)):∃a ep ws,v=.ref a/\H a=some (.dN ep ws)/\DN H (Av c Z Y) ws ds:=by
 rcases r with r|⟨a,rfl,ep,ws,h1,h2⟩;.cases r with|dic h1 h2 h3 h4 h5 h6=>exact⟨_,_,_,rfl,h2,h3,h4,h5,h6⟩
 .exact⟨a,ep,ws,rfl,h1,h2⟩
theorem Tp(h:hZ m d=true)(r:cw c Z Y H v d):Rep H (Av c Z Y) v d:=by
 rcases r with r|⟨a,rfl,r⟩;.exact r
 .cases d<;>first|exact r.elim|simp[hZ]at h
theorem EF{ds}(h:mW m ds k=true):hZ m k=true/\(∃kk,cn 6 k=some kk)/\(ds.all λq=>hZ m q.1)=true:=by unfold mW at h;simp only[Wn]at h;exact⟨h.1.1,Qr.mp h.1.2,h.2⟩
theorem Tq{ds}(rx:cw c Z Y H x (.dic ds))(ry:cw c Z Y H y k)(h:mW m ds k=true):∃a o,x=.ref a/\mV H a y o/\((jG ds k=none/\o=none)\/∃v d,jG ds k=some d/\o=some v/\Rep H (Av c Z Y) v d):=by obtain⟨a,ep,ws,e,ha,dn⟩:=xJ rx;obtain⟨h1,⟨kk,hk⟩,h2⟩:=EF h;exact⟨a,valN ws kk,e,⟨m,ep,ws,kk,ha,dn.EE h2,uf h1 hk (Tp h1 ry),rfl⟩,(dn.get hk).1⟩
def xK(neg:Bool):R2:=λx y H Q=>∃a o,y=.ref a/\mV H a x o/\Q (.bl (if neg then !o.isSome else o.isSome)) H
theorem Tr(hu:X.A.units+64<WK):a_ X (WC .In) (xK false):=by intro pins s Z H x y v u Q I rx ry h;obtain⟨a,o,rfl,g,q⟩:=h;cases ry;exact Td Y' I g rx λs' I'=>⟨.bl _,H,I',rfl,q⟩
theorem Ts(hu:X.A.units+64<WK):a_ X (WC .NotIn) (xK true):=by intro pins s Z H x y v u Q I rx ry h;obtain⟨a,o,rfl,g,q⟩:=h;cases ry;exact Te Y' I g rx λs' I'=>⟨.bl _,H,I',rfl,q⟩
noncomputable def d_(neg:Bool)(x y:D):Option S:=match y with|.dic ds=>if mW (qf x) ds x then 0#(.bl (if neg then !(jG ds x).isSome else(jG ds x).isSome)) else none|_=>none
universe H in theorem EG(neg:Bool):bV (xK neg) (d_ neg):=by
 intro c Z Y H x y d e s Q k rx ry hp q;cases e<;>first|(simp[d_]at hp;done)|skip
 rename_i ds;simp only[d_]at hp;split at hp
 .rename_i hg;cases hp;obtain⟨a,o,ea,g,r⟩:=Tq ry rx hg;refine⟨a,o,ea,g,?_⟩;have:o.isSome=(jG ds d).isSome:=by rcases r with⟨r1,rfl⟩|⟨_,_,r1,rfl,_⟩<;>rw[r1]<;>rfl
  rw[this];exact q _ H (.refl k) (.bl _)
 .cases hp
section
variable{c:Fc}
theorem Ok.Tt{d'}(k:Ok c Z Y H)(e:Y[i]?=some (some (.own d0)))(ea:Z[i]?=some (some (.ref a)))(r:fF (upd H a o) (Av c Z Y) a d'):aK c Z Y H Z (Y.set i (some (.own d'))) (upd H a o):=by
 have hi:i<Y.length:=(Wd.mp e).1;obtain⟨a',ea',oa,ia,nb⟩:=k.own i _ e;rw[ea]at ea';cases ea';have wy:Own Z Y a:=⟨i,_,e,ea⟩;have wz:Av c Z Y a:=.inr wy;have pI:∀b,Own Z (Y.set i (some (.own d'))) b↔Own Z Y b:=λb=>by
  constructor
  .rintro⟨j,d,e1,e2⟩;by_cases hj:i=j;.subst hj;exact⟨i,_,e,e2⟩
   .rw[Wc hj]at e1;exact⟨j,d,e1,e2⟩
  .rintro⟨j,d,e1,e2⟩;by_cases hj:i=j;.subst hj;exact⟨i,_,by rw[WB hi],e2⟩
   .exact⟨j,d,%[Wc hj|e1],e2⟩
 have mC:∀b,Av c Z (Y.set i (some (.own d'))) b->Av c Z Y b:=λb z=>z.elim .inl λz=>.inr ((pI b).mp z);have kp:∀b w,H b=some w->¬Av c Z Y b->upd H a o b=some w:=λb w h n=>%[ba λz=>n (by rw[z];exact wz)|h];have gY:∀b w,H b=some w->∃o',upd H a o b=some o':=λb w h=>by
  by_cases hb:b=a;.exact⟨_,%[hb|cz]⟩
  .exact⟨w,%[ba hb|h]⟩
 refine⟨⟨λb w h n=>?_,λb z=>?_,λb z=>?_,%[QY|k.len],λj d h=>?_,λj d h=>?_,λj l b d d2 h1 h2 h3 h4=>?_,k.pinned⟩,λb w h n=>?_,λb z=>.inl ((pI b).mp z),gY⟩
 .have hb:b≠a:=λz=>by grind
  rw[ba hb];exact k.keep b w h n
 .obtain⟨w,h⟩:=k.bd b z;exact gY b w h
 .obtain⟨w,h⟩:=k.dj b z;exact gY b w h
 .have hj:i≠j:=λz=>by subst z;rw[WB hi]at h;cases h
  rw[Wc hj]at h;obtain⟨v,h1,h2⟩:=k.slot j d h;exact⟨v,h1,(h2.keep kp).aS λb z=>.inl (mC b z)⟩
 .by_cases hj:i=j;.subst hj;rw[WB hi]at h;cases h;exact⟨a,ea,r.aS λb z=>.inl (mC b z),ia,nb⟩
  .rw[Wc hj]at h;obtain⟨b,h1,h2,h3,h4⟩:=k.own j d h;have hb:b≠a:=λz=>by subst z;exact hj (k.inj i j b _ d e h ea h1)
   exact⟨b,h1,(h2.keep kp λw q=>%[ba hb|q]).aS λb z=>.inl (mC b z),h3,h4⟩
 .have f1:∃d,Y[j]?=some (some (.own d)):=by grind
  have f2:∃d,Y[l]?=some (some (.own d)):=by grind
  obtain⟨_,f1⟩:=f1;obtain⟨_,f2⟩:=f2;exact k.inj j l b _ _ f1 f2 h3 h4
 grind[ba]
theorem Ok.Tu{ds}(k:Ok c Z Y H)(e:Y[i]?=some (some (.own (.dic ds))))(ea:Z[i]?=some (some (.ref a)))(r:DN H (Av c Z Y) ws dO):aK c Z Y H Z (Y.set i (some (.own (.dic dO)))) (upd H a (.dN ep ws)):=Ok.Tt k e ea ⟨ep,ws,cz,r.keep λb w h n=>%[ba λz=>n (by rw[z];exact .inr ⟨i,_,e,ea⟩)|h]⟩
def qg(Y:Dl)(i:Nat):Bool:=match Y[i]? with|some (some (.own (.dic _)))=>true|_=>false
universe H in theorem Tv(h:qg Y i=true):∃ds,Y[i]?=some (some (.own (.dic ds))):=by
 unfold qg at h;split at h;.rename_i ds e;exact⟨ds,e⟩
 .cases h
def fX(i:Nat)(fi fe:DE):DS:=λY=>(fe Y).bind λr SL=>if qg SL i then(fi SL).bind λk PP=>match PP[i]? with|some (some (.own (.dic ds)))=>if mW (qf k.d) ds k.d&&decide (ds.length<W7)then .ok .next (PP.set i (some (.own (.dic (km ds k.d r.d)))))else .stuck|_=>.stuck else .stuck
end
def Tw(td ty tv:TE):TS:=λD Z H=>tv Z H λv H1=>td Z H1 λx H2=>ty Z H2 λy H3=>∃a,x=.ref a/\xH H3 a y v λH4=>D.nx Z H4
theorem Tz{i}(hu:X.A.units+8<WK)(ho:PE X o td)(hi:PE X i ty)(hv:PE X value tv)(hs:Jg value (some (.Subscript o i pos')) pos.line X.env=pure false):PS X (.Assign [.Subscript o i pos'] value pos) (Tw td ty tv):=by intro pins s Z H D I h;refine wpAny_Assign_Subscript (aN (hv pins s Z H _ I h) λr s1⟨v,H1,I1,rv,q1⟩=>aN (ho pins s1 Z H1 _ I1 q1) λu s2⟨x,H2,I2,rx,q2⟩=>aN (hi pins s2 Z H2 _ I2 q2) λiv s3 hh=>?_) hs;obtain⟨y,H3,I3,ry,a,ex,g⟩:=hh;subst ex;obtain rfl:u=Value.ref a:=rx;exact Tg hu I3 g ry rv λH4 s4 I4 q4=>⟨Z,H4,I4,q4⟩
section
variable{c:Fc}
universe H in theorem TB{sp}(hu:X.A.units+64<WK)(ho:PE X o (dz i))(hi:SE X c ix fi)(he:SE X c e fe)(hs:Jg e (some (.Subscript o ix sp)) pos.line X.env=pure false:=by rfl):SS X c (.Assign [.Subscript o ix sp] e pos) (fX i fi fe):=PS.weak (Tz Y' ho hi he hs) λD Z H⟨Y,k,q⟩=>by
  unfold fX dq at q;rw[bo]at q;refine⟨Y,k,aM q λr SL q1 v H1 a1 r1=>?_⟩;split at q1;case isFalse=>exact q1.elim
  rename_i hown1;obtain⟨ds1,e1⟩:=Tv hown1;obtain⟨a,ea,_,_⟩:=a1.ok.own i _ e1;refine⟨.ref a,ea,SL,a1.ok,?_⟩;rw[bo]at q1;refine aM q1 λkx PP q2 u H2 a2 r2=>?_;split at q2
  .rename_i ds e2;split at q2;.rename_i hz;simp only[Wn,decide_eq_true_eq]at hz;obtain⟨hg,hz⟩:=hz;obtain⟨a',ea',oa,_⟩:=a2.ok.own i _ e2;rw[ea]at ea';cases ea';obtain⟨ep,ws,ha,dn⟩:=id oa;obtain⟨h1,⟨kk,hk⟩,h2⟩:=EF hg;have ry:Rep H2 (Av c Z PP) u kx.d:=r2.rep;have rv:Rep H2 (Av c Z PP) v r.d:=Rep.da r1.rep a2;refine⟨a,rfl,qf kx.d,ep,ws,kk,ha,dn.EE h2,uf h1 hk ry,%[dn.len|hz],λfQ=>?_⟩;exact q2 Z _ (a1.trans (a2.trans (Ok.Tu a2.ok e2 ea (dn.put hk ry rv))))
   .exact q2.elim
  .exact q2.elim
end
theorem TC{Q:Option Value->W1->Prop}{R:PySem.Fin->W1->Prop}{o:Obj}{fs:Array Value}{j:Nat}{v:Value}(hh:A.handled=none)(ho:s.heap.get? it=some o)(hd:o.data=.fields fs)(hj:j<fs.size)(h:∀h',Heap.ExtBut it s.heap h'->Q none 9#h'):W8 4#0 A.in1 (do
 setField (.ref it) j v
 raiseNew (<-newExc (.type "StopIteration") [])) R (λe s'=>W8 4#0 A (do if<-isInstance e (.type "StopIteration")then pure none else throw e) Q E s') s:=by refine W0 (Ud ho hd hj ?_);refine W0 ?_;simp only[newExc,newTuple];refine W0 (Q5 ?_ (by size_fits));refine W0 (m:=firstArgMember _ _) (wpAny_of_eq (a:=Value.none) (by first|rfl|(simp only[firstArgMember];rfl)) ?_);refine Q5 ?_ (by size_fits);simp only[raiseNew];refine W0 (wpAny_handled ?_);rw[show A.in1.handled=none from hh];refine W0 (W3 (wpAny_throw ?_));refine W0 (wpAny_isInstance (T:="StopIteration") (b:=true) ⟨_,Wv _ rfl,rfl⟩ isSubtype_stop ?_);exact W3 (h _ (((JZ ..).extBut.push _).push _))
theorem EH(h:Heap)(hb:QC<h.objs.size):aZ P w H (h.push {cls:=.type "dict",data:=.dict #[]}) h.objs.size (.dN 0 []):=⟨Q2 _,beq_eq_false_iff_ne.mpr (Ne.symm (Qd hb)),_,#[],Wv _ rfl,⟨rfl,rfl,rfl⟩,rfl,.nil,List.nodup_nil⟩
def TF:TE:=λj H Q=>∀p,H p=none->Q (.ref p) (upd H p (.dN 0 []))
theorem TH:PE X (.Dict [] [] pos) TF:=by intro pins s Z H Q I h;exact wpAny_Dict_empty ⟨.ref s.heap.objs.size,_,I.laid (a:=s.heap.objs.size) (o:=.dN 0 []) (t':=s.toks) (λj j q=>W6 _ q) (W5 _) (EH s.heap I.big),rfl,h _ (I.aB.fresh (W5 _))⟩
theorem aL.xM{ds}(k:Ok c Z Y H)(hp:H p=none)(r:DN H (Av c Z Y) ws ds):aL c Z Y H (upd H p (.dN ep ws)) (.ref p) (.own (.dic ds)):=by
 refine⟨p,rfl,⟨ep,ws,cz,?_⟩,λz=>k.i5 hp (.inl z),k.j5 hp,k.plus hp _,hp⟩;exact(r.aS λb z=>by
 rcases z with(z|z)|z;.exact .inl (.inl z)
 .exact .inr %[z|hp]
 .exact .inl (.inr z)).keep λb w e j=>%[ba (fj e hp)|e]
def ug:DE:=λY=>.ok (.own (.dic [])) Y
theorem TJ:SE X c (.Dict [] [] pos) ug:=PE.weak TH λZ H Q⟨Y,k,q⟩=>λp hp=>q _ _ (.alloc k hp _) (aL.xM k hp .nil)
section
variable{a:Addr}{ao:List NE}
theorem TK(I:Inv X pins Z H s)(e:H a=some (.dN ep ao))(h:∀t s',Inv X pins Z H s'->Q (.int ao.length t) s'):W8 5#0 A (call (.builtin "len") [.ref a]) Q E s:=by
 obtain⟨z,hS,xs,o,es,r,d⟩:=mU I.aB e;have hz:es.size=ao.length:=by rw[<-WY,d.ents,Wq];exact(Paired.length r).symm
 refine Calls.call_function_entry kind_len plain_len entry_len (args_len1 _) ?_;unfold Builtin.«len»;refine W0 (m:=oneArg "len" _) (W3 ?_);refine W0 (m:=callSpecial? (.ref a) (Str.ofString "__len__")) (Qu (name:=Str.ofString "__len__") d.typeIs F.slot_dict_len (Qm F.slot_dict_len d.typeIs F.entry_dict_len ?_ (F.args_dict_len_1 _)));show W8 _ _ (dictSize a>>=_) _ _ s;unfold dictSize;refine W0 (W0 (JJ d.get d.data (W3 ?_)));show W8 _ _ (Builtin.Dict.pendingCount a>>=_) _ _ s;refine W0 (wpAny_pendingCount_other hS ?_);refine wpAny_ret_mkInt ?_;show W8 _ _ _ _ _ {s with toks:=s.toks+1};rw[hz];refine W0 (WP (W3 ?_));refine W0 (wpAny_letGo ?_);rw[Qi]at z;show W8 _ _ (if((ao.length:Nat):Int)<0 then _ else _) _ _ _;rw[if_neg Y'];show W8 _ _ (if((ao.length:Nat):Int)≥2^63 then _ else _) _ _ _;rw[if_neg Y'];exact W0 (wpAny_mkInt (W3 ⟨_,rfl,h _ _ (I.tok _)⟩))
theorem TL:cN X (.builtin "len") λxs H Q=>∃a ep ao,xs=[V.ref a]/\H a=some (.dN ep ao)/\Q (.int ao.length) H:=by intro pins s Z H xs us Q I r h;obtain⟨a,ep,ao,rfl,ha,q⟩:=h;obtain⟨u,rfl,ru⟩:=eN r;cases ru;exact TK I ha λt s' I'=>⟨.int ao.length,H,I',⟨t,rfl⟩,q⟩
end
section
variable{c:Fc}{o f:Expr}{ff:DE}
noncomputable def nY:D->Option S|.dic ds=>0#(.int ds.length)|_=>none
universe H in theorem TM:i7 (λv H Q=>∃a ep ao,v=V.ref a/\H a=some (.dN ep ao)/\Q (.int ao.length) H) nY:=by
 intro c Z Y H x d s Q k rx hp q;cases d<;>first|(simp[nY]at hp;done)|skip
 rename_i ds;cases hp;obtain⟨a,ep,ws,e,ha,dn⟩:=xJ rx;exact⟨a,ep,ws,e,ha,%[dn.len|q _ H (.refl k) (.int _)]⟩
theorem TN(hg:Gl X "len")(hm:X.mg "len"=none)(he:SB X c e fb)(hs:Wa [e] X.env=(false,eval e X.env)::Wa [] X.env:=by rfl):SE X c (.Call (.Name "len" pp) [e] [] pos) (ay nY fb):=nJ TL (λv H Q h=>by obtain⟨a,ep,ao,e,h⟩:=h;exact⟨a,ep,ao,by rw[e],h⟩) TM hg hm PySem.boot_len he Z' Z' hs
end
theorem TQ{es}(hd:(d==QC)=false)(hT:s.TypeIs (.ref d) "dict")(ho:s.heap.get? d=some o)(lz:o.data=.dict es ep)(hQ:Q (.ref s.heap.objs.size) 9#(s.heap.push {cls:=.type "dict_keyiterator",data:=.fields #[.ref d,.int 0 0,.int es.size 0,.int ep 0]})):W8 4#0 A (pyIter (.ref d)) Q E s:=by refine wpAny_pyIter_slot hT F.slot_dict_iter (Qm F.slot_dict_iter hT F.entry_dict_iter ?_ (F.args_dict_iter_1 _));unfold Builtin.«dict.__iter__»;refine W0 ?_;unfold Builtin.Dict.dictSlotNone;refine W0 (JM hT ?_);show W8 _ _ (pure (Value.ref d)) _ _ s;refine W3 ?_;show W8 _ _ (Builtin.Dict.showsAll d>>=_) _ _ s;unfold Builtin.Dict.showsAll;rw[if_neg %[hd|WW]];refine W0 (W3 (W0 (JJ ho lz (W0 (wpAny_dictEpoch ho lz ?_)))));refine W0 (Q5 (W3 ⟨_,rfl,"dict_keyiterator",_,⟨_,Wv _ rfl,rfl⟩,F.slot_dict_keyiterator_next.lookup,?_⟩));simpa[QU]using hQ
theorem nextK{es e}(hit:s.heap.IsKeyIter it d i es.size ep)(qj:s.heap.get? d=some od)(iy:od.data=.dict es ep)(hx:es[i]?=some e)(hQ:∀h',h'.IsKeyIter it d (i+1) es.size ep->U3 it s.heap h'->Q (some e.key) 9#h'):W8 4#0 A (JE (.ref it)) Q E s:=by
 obtain⟨o,ho,hc,hd⟩:=id hit;unfold JE;refine W0 (wpAny_attempt (Qu (name:=Str.ofString "__next__") hit.typeIs Je (Qm Je hit.typeIs F.entry_dict_keyiterator_next ?_ (F.args_dict_keyiterator_next_1 _))));refine W0 (W3 (W0 (W0 ?_)));refine W0 (Jb hit.typeIs (W3 ?_));refine W0 (wpAny_fieldsOf ho hd ?_);have j9:Builtin.Dict_items.ownsTuple "dict_keyiterator"=false:=by decide
 simp only[j9,WZ,if_false];show W8 _ _ (if(Value.ref d==Value.none)=true then _ else _) _ _ s;rw[if_neg (show¬(Value.ref d==Value.none)=true from WW)];refine W0 (W3 (W0 (JJ qj iy ?_)));rw[if_neg Zw];refine W0 (W3 (W0 (wpAny_dictEpoch qj iy ?_)));rw[if_neg Zw];refine W3 ?_;simp only[show¬(i:Int)<0from Y',if_false,Uh,hx];refine W0 ?_;refine W0 (Jb hit.typeIs (W3 ?_));refine W0 (wpAny_isOneOf_keyiter hit.typeIs ?_);show W8 _ _ (setField (.ref it) 1 (QU ((i:Int)+1))>>=_) _ _ s;refine W0 (Ud ho hd Zw ?_);have uh:(s.heap.update it (Obj.mapFields (·.setIfInBounds 1 (QU ((i:Int)+1))))).IsKeyIter it d (i+1) es.size ep:=⟨_,Qs _ ho (Obj.isFreed_of_fields (Obj.data_mapFields hd _)),(Obj.cls_mapFields ..).trans hc,by rw[Obj.data_mapFields hd];simp[QU]⟩;refine W0 (WP ?_);refine W0 (wpAny_isOneOf_keyiter (s:=9#(s.heap.update it (Obj.mapFields (·.setIfInBounds 1 (QU ((i:Int)+1)))))) uh.typeIs ?_);show W8 _ _ (pure e.key) _ _ _;exact W3 (W3 ⟨_,rfl,W3 (hQ _ uh (JZ ..))⟩)
theorem TR{es}(hh:A.handled=none)(hit:s.heap.IsKeyIter it d i es.size ep)(qj:s.heap.get? d=some od)(iy:od.data=.dict es ep)(hx:es.size<=i)(hQ:∀h',Heap.ExtBut it s.heap h'->Q none 9#h'):W8 4#0 A (JE (.ref it)) Q E s:=by
 obtain⟨o,ho,hc,hd⟩:=id hit;unfold JE;refine W0 (wpAny_attempt (Qu (name:=Str.ofString "__next__") hit.typeIs Je (Qm Je hit.typeIs F.entry_dict_keyiterator_next ?_ (F.args_dict_keyiterator_next_1 _))));refine W0 (W3 (W0 (W0 ?_)));refine W0 (Jb hit.typeIs (W3 ?_));refine W0 (wpAny_fieldsOf ho hd ?_);have j9:Builtin.Dict_items.ownsTuple "dict_keyiterator"=false:=by decide
 simp only[j9,WZ,if_false];show W8 _ _ (if(Value.ref d==Value.none)=true then _ else _) _ _ s;rw[if_neg (show¬(Value.ref d==Value.none)=true from WW)];refine W0 (W3 (W0 (JJ qj iy ?_)));rw[if_neg Zw];refine W0 (W3 (W0 (wpAny_dictEpoch qj iy ?_)));rw[if_neg Zw];refine W3 ?_;simp only[show¬(i:Int)<0from Y',if_false,Uh,Array.getElem?_eq_none hx];refine W0 ?_;refine W0 (Jb hit.typeIs (W3 ?_));exact TC (j:=0) hh ho hd Zw hQ
theorem TU{es}(lo:(d==QC)=false):PySem.W.KdlSrc prog w "dict" d d es.size (λi v=>∃e,es[i]?=some e/\e.key=v) λh=>∃o,lJ w h d ep xs o es where
 type:=λ_⟨_,hm⟩=>hm.typeIs
 there:=λ_⟨_,hm⟩=>⟨Wm hm.get,Wm hm.get⟩
 keep:=λ_ _⟨o,hm⟩hk=>⟨o,hk d (.inl rfl) o hm.get,hm.ex,hm.data,hm.ents,hm.jF⟩
 notList:=by decide
 notTuple:=by decide
 hint:=λ_ _ _ _⟨_,hm⟩hq=>PySem.W.kdl_hint_dict hm.typeIs hq
 iter:=λA s hh⟨o,hm⟩=>⟨_,λi h=>h.IsKeyIter s.heap.objs.size d i es.size ep/\∃o,lJ w h d ep xs o es,λj j hq=>TQ lo hm.typeIs hm.get hm.data hq,{
 sub:=λb hb=>by simp at hb;simp[hb]
 frame:=λj j j st hk=>⟨st.1.at λo e=>hk _ Zw o e,let⟨o,m⟩:=st.2;⟨o,hk d Zw o m.get,m.ex,m.data,m.ents,m.jF⟩⟩
 item:=λi s1 Q E hi st hQ=>by obtain⟨st1,o1,m1⟩:=st;have hx:es[i]?=some es[i]:=#v[hi];have bO:d≠s.heap.objs.size:=Qd (Wm hm.get);exact nextK st1 m1.get m1.data hx λh' uh nG=>hQ _ h' s1.toks ⟨_,hx,rfl⟩ ⟨uh,o1,nG.extBut d o1 bO m1.get,m1.ex,m1.data,m1.ents,m1.jF⟩ λb o hb e=>nG.extBut b o (λh=>hb #v[h]) e
 done:=λs1 Q E st hQ=>by obtain⟨st1,o1,m1⟩:=st;exact TR hh st1 m1.get m1.data (W5 _) λh' si=>hQ h' s1.toks λb o hb e=>si b o (λh=>hb #v[h]) e
 self:=λj j j j st hQ=>wpAny_pyIter_keyiter st.1 hQ},⟨⟨_,Wv _ rfl,rfl,rfl⟩,o,W6 _ hm.get,hm.ex,hm.data,hm.ents,hm.jF⟩⟩
theorem EI{w:Wx}:∀{ao:List NE}{xs:List (NK×Value×Value)}{us:List Value},du ao xs->us.length=xs.length->(∀(j:Nat)v,us[j]?=some v->∃x,xs[j]?=some x/\x.2.1=v)->Vals (ao.map (·.2.1)) us|[],_,[],.nil,_,_=>.nil|[],_,_::_,.nil,h,_=>by simp at h|p::r,_,[],.cons _ _,h,_=>by simp at h|p::r,q::vs,u::us,.cons h1 h2,hl,hk=>by refine .cons ?_ (EI (w:=w) h2 (~~~hl) λj v e=>by simpa using hk (j+1) v (~~~e));obtain⟨x,e,z⟩:=hk 0 u rfl;simp at e;subst e;rw[<-z];exact h1.2.1
theorem TV(hc:X.calm=true):cN X (.type "list") (λxs H Q=>∃a ep ao,xs=[V.ref a]/\H a=some (.dN ep ao)/\∀l,H l=none->Q (.ref l) (upd H l (.lst (ao.map (·.2.1))))):=by
 intro pins s Z H xs us Q I r h;obtain⟨a,ep,ao,rfl,ha,q⟩:=h;obtain⟨u,rfl,ru⟩:=eN r;cases ru;obtain⟨z,lo,ys,o,es,rx,d⟩:=mU I.aB ha;have hl:ao.length=ys.length:=Paired.length rx;have hz:es.size=ys.length:=by rw[<-WY,d.ents,Wq]
 refine PySem.W.kdl_call (TU (prog:=X.prog) (w:=X.w) (d:=a) (ep:=ep) (xs:=ys) (es:=es) lo) (I.ok.hd hc) ⟨o,d⟩ Y' λh' tk acc c' kp e pV=>?_;have hv:Vals (ao.map (·.2.1)) acc.toList:=EI (w:=X.w) rx (by rw[WY,pV.1,hz]) λj v ej=>by obtain⟨en,e1,e2⟩:=pV.2 j v (~~~ej);rw[<-Qh,d.ents,WD]at e1;cases hy:ys[j]? with|none=>rw[hy]at e1;cases e1|some x=>rw[hy]at e1;cases e1;exact⟨x,rfl,e2⟩
 exact⟨.ref s.heap.objs.size,_,I.laid (t':=tk) kp (W5 _) (show aZ X.prog X.w _ h' _ (.lst _)from⟨~~~z,acc.toList,c',hv,~~~e⟩),rfl,q _ (I.aB.fresh (W5 _))⟩
noncomputable def nZ:D->Option S|.dic ds=>some (.own (.lst (ds.map (·.1))))|_=>none
theorem DN.EJ:∀{ws:List NE}{ds:List (D×D)},DN H O ws ds->aG H O (ws.map (·.2.1)) (ds.map (·.1))|[],[],_=>.nil|[],_::_,r=>by have:=r.len;simp at this|_::_,[],r=>by have:=r.len;simp at this|p::ws,q::ds,r=>by obtain⟨r1,_,_,r4⟩:=r.un;exact .cons r1 (DN.EJ r4)
section
variable{c:Fc}{p:Pos}
theorem TX(hc:X.calm=true)(hg:Gl X "list")(hm:X.mg "list"=none)(he:SB X c e fb)(hs:kh e=true:=by rfl):SE X c (.Call (.Name "list" pp) [e] [] pos) (ay nZ fb):=nK (r:=λv H Q=>∃a ep ao,v=V.ref a/\H a=some (.dN ep ao)/\∀l,H l=none->Q (.ref l) (upd H l (.lst (ao.map (·.2.1))))) (TV hc) (λv H Q⟨a,ep,ao,e,h⟩=>⟨a,ep,ao,by rw[e],h⟩) (λc Z Y H x d s Q k rx hp q=>by cases d with|dic ds=>cases hp;obtain⟨a,ep,ws,e,ha,dn⟩:=xJ rx;exact⟨a,ep,ws,e,ha,λl hl=>q _ _ (.alloc k hl _) (aL.i6 k dn.EJ hl)⟩|_=>simp[nZ]at hp) hg hm PyProof.Rows.boot_list he Z' Z' (lj hs)
end
def mX(i:Nat):DE:=λY=>match Y[i]? with
 |some (some (.own (.lst ds)))=>match ds[ds.length-1]? with|some d=>.ok (.pure d) (Y.set i (some (.own (.lst ds.dropLast))))|none=>.stuck
 |_=>.stuck
theorem aG.dropLast(h:aG H O vs ds):aG H O vs.dropLast ds.dropLast:=by rw[List.dropLast_eq_take,List.dropLast_eq_take,h.1];exact h.take _
universe H in theorem TY(ho:PE X o (dz i))(fD:Ja o "pop" X.env (eval o X.env)=eval o X.env:=by rfl)(cY:(apos.endLine==bu.line)=true:=by rfl):SE X c (.Call (.Attribute o "pop" apos) [] [] bu) (mX i):=PE.weak (Bp Jc PySem.F.slot_list_pop PySem.F.type_list_pop LP ho fD cY) λZ H Q⟨Y,k,q⟩=>by
  unfold mX at q;split at q
  .rename_i ds e0;split at q;.rename_i d e1;obtain⟨a,ea,oa,_⟩:=k.own i _ e0;obtain⟨vs,ha,ra⟩:=id oa;have hl:vs.length=ds.length:=ra.1;obtain⟨y,hy,ry⟩:=ra.get e1;have A2:=Ok.sU k e0 ea ra.dropLast;refine⟨.ref a,ea,.inl ⟨rfl,vs,.of ha⟩,a,vs,y,rfl,rfl,ha,%[hl|hy],q y _ A2 (Rep.da ry A2)⟩
   .exact q.elim
  .exact q.elim
namespace Lake.SM
open PySem.W
def kr(rk:Keyed->Nat)(xs:Array Keyed)(i:Nat):Nat:=(xs[i]?.map rk).getD 0
theorem gG{rk:Keyed->Nat}{xs ys:Array Keyed}{i j:Nat}(h:xs[i]?=ys[j]?):kr rk xs i=kr rk ys j:=by unfold kr;rw[h]
def Up(rk:Keyed->Nat)(xs:Array Keyed)(lo hi:Nat):Prop:=∀i j,lo<=i->i<=j->j<hi->kr rk xs i<=kr rk xs j
def Dn(rk:Keyed->Nat)(xs:Array Keyed)(lo hi:Nat):Prop:=∀i j,lo<=i->i<=j->j<hi->kr rk xs j<=kr rk xs i
theorem qk{rk:Keyed->Nat}{xs:Array Keyed}{i j:Nat}(hj:j<=xs.size)(k:Nat):kr rk (mirror xs i j ((j-i)/2)) k=if i<=k/\k<j then kr rk xs (i+j-1-k)else kr rk xs k:=by
 have e:=getElem?_mirror_all (i:=i) hj k;by_cases h:i<=k/\k<j;.rw[if_pos h]at e⊢;exact gG e
 .rw[if_neg h]at e⊢;exact gG e
theorem EK{rk:Keyed->Nat}{xs:Array Keyed}{src d:Nat}(hs:src<xs.size)(hd:d<=src)(k:Nat):kr rk (bubble xs src d) k=if k=src-d then kr rk xs src else if src-d<k/\k<=src then kr rk xs (k-1)else kr rk xs k:=by
 have e:=getElem?_bubble hs d hd k;by_cases h1:k=src-d;.rw[if_pos h1]at e⊢;exact gG e
 .rw[if_neg h1]at e⊢;by_cases h2:src-d<k/\k<=src;.rw[if_pos h2]at e⊢;exact gG e
  .rw[if_neg h2]at e⊢;exact gG e
def h8(prog:Wk)(w:Wx)(A:Wp)(E:Value->W1->Prop)(s:W1)(a₀:Array Keyed)(κ:SortKind)(rk:Keyed->Nat):Prop:=∀(x y:Keyed)(st:SortSt)(Q:Option Bool->SortSt->Prop),x∈a₀->y∈a₀->kindOf st=κ->Q (some (decide (rk x<rk y))) st->wpS 4#0 A E s (lt' x y) Q st
structure XL(a₀:Array Keyed)(κ:SortKind)(st:SortSt):Prop where
 perm:(Wf st).Perm a₀
 kind:kindOf st=κ
 good:failedOf st=none
structure dU(a₀:Array Keyed)(κ:SortKind)(lo:Nat)(st ar:SortSt):Prop where
 sb:XL a₀ κ ar
 pd:Wz ar=Wz st
 at':∀i,i<lo->(Wf ar)[i]?=(Wf st)[i]?
theorem XL.size{a₀:Array Keyed}{κ:SortKind}{st:SortSt}(h:XL a₀ κ st):(Wf st).size=a₀.size:=h.perm.size_eq
theorem XL.mem{a₀:Array Keyed}{κ:SortKind}{st:SortSt}(h:XL a₀ κ st){x:Keyed}(hx:x∈Wf st):x∈a₀:=by have:=(Array.perm_iff_toList_perm.mp h.perm).mem_iff (a:=x);simpa using this.mp (~~~hx)
theorem dU.refl{a₀:Array Keyed}{κ:SortKind}{lo:Nat}{st:SortSt}(h:XL a₀ κ st):dU a₀ κ lo st st:=⟨h,rfl,λj j=>rfl⟩
theorem dU.ui{a₀:Array Keyed}{κ:SortKind}{lo:Nat}{st ar:SortSt}(h:dU a₀ κ lo st ar){i j d:Nat}(hi:lo<=i)(hj:j<=a₀.size)(hd:2*d<=j-i):dU a₀ κ lo st (setArr ar (mirror (Wf ar) i j d)):=⟨⟨(mirror_perm _ _ _ _).trans h.sb.perm,h.sb.kind,h.sb.good⟩,h.pd,λk hk=>by show(mirror (Wf ar) i j d)[k]?=_;rw[getElem?_mirror %[h.sb.size|hj] d hd,if_neg Y'];exact h.at' k hk⟩
theorem dU.TZ{a₀:Array Keyed}{κ:SortKind}{lo:Nat}{st ar:SortSt}(h:dU a₀ κ lo st ar){src d:Nat}(hi:lo+d<=src)(hj:src<a₀.size):dU a₀ κ lo st (setArr ar (bubble (Wf ar) src d)):=⟨⟨(bubble_perm _ _ _).trans h.sb.perm,h.sb.kind,h.sb.good⟩,h.pd,λk hk=>by show(bubble (Wf ar) src d)[k]?=_;rw[getElem?_bubble %[h.sb.size|hj] d Y',if_neg Y',if_neg Y'];exact h.at' k hk⟩
section
variable{a₀:Array Keyed}{κ:SortKind}{rk:Keyed->Nat}
theorem uj{arr:Array Keyed}{i:Nat}{Q:Keyed->SortSt->Prop}{st:SortSt}(hi:i<arr.size)(h:Q arr[i] st):wpS 4#0 A E s (elem' arr i) Q st:=by rw[elem'_eq,getElem?_pos arr i hi];exact Wg h
theorem fY{arr:Array Keyed}{i:Nat}(hi:i<arr.size):rk arr[i]=kr rk arr i:=by unfold kr;rw[getElem?_pos arr i hi];rfl
theorem n5{st:SortSt}{i j:Nat}{Q:Option Bool->SortSt->Prop}(hA:h8 prog w A E s a₀ κ rk)(hB:XL a₀ κ st)(hi:i<a₀.size)(hj:j<a₀.size)(h:Q (some (decide (kr rk (Wf st) i<kr rk (Wf st) j))) st):wpS 4#0 A E s (ltAt' i j) Q st:=by rw[ltAt'_eq];have zi:i<(Wf st).size:=%[hB.size|hi];have zj:j<(Wf st).size:=%[hB.size|hj];refine Wt (wpS_get ?_);refine Wt (uj zi (Wt (uj zj ?_)));refine hA _ _ _ _ (hB.mem (J9 zi)) (hB.mem (J9 zj)) hB.kind ?_;rw[fY (rk:=rk) zi,fY (rk:=rk) zj];exact h
theorem T5{st:SortSt}{lo ef:Nat}{Q:Option Nat->SortSt->Prop}(hA:h8 prog w A E s a₀ κ rk)(hn:lo+ef<=a₀.size)(h1:1<=ef)(hB:XL a₀ κ st)(h:∀m ar,dU a₀ κ lo st ar->1<=m->m<=ef->Up rk (Wf ar) lo (lo+m)->Q (some m) ar):wpS 4#0 A E s (countRun' lo ef) Q st:=by
 rw[countRun'_eq];refine Wt (J1 (QI (I:=λx c ar=>ar=st/\c=(none,x)/\Up rk (Wf st) lo (lo+x)) (Q:=λc ar=>ar=st/\∃n,c=(none,n)/\1<=n/\n<=ef/\Up rk (Wf st) lo (lo+n)/\(n=ef\/kr rk (Wf st) (lo+n)<kr rk (Wf st) (lo+n-1))) ?step ?fin ?ql) ?post);case ql=>exact⟨rfl,rfl,λi j h1 h2 h3=>%[show i=j by lia|W5 _]⟩
 case fin=>rintro c ar⟨rfl,rfl,u⟩;rw[show max 1 ef=ef by lia]at u⊢;exact⟨rfl,ef,rfl,h1,W5 _,u,.inl rfl⟩
 case step=>
  rintro x c ar hx hxn⟨rfl,rfl,u⟩;dsimp only;refine Wt (n5 hA hB Y' Y' ?_);by_cases hl:kr rk (Wf ar) (lo+x)<kr rk (Wf ar) (lo+x-1);.simp only[hl,decide_true,if_true];exact Wg ⟨rfl,x,rfl,Y',Y',u,.inr hl⟩
  .simp only[hl,decide_false,WZ,if_false];refine Wg ⟨rfl,rfl,λi j a b c=>?_⟩;by_cases hj:j<lo+x;.exact u i j a b hj
   .by_cases hi:i=j;.rw[hi];exact W5 _
    .have:=u i (lo+x-1) a Y' Y';rw[show j=lo+x by lia];lia
 case post=>
  rintro c ar⟨rfl,n,rfl,n1,n2,u,o⟩;show wpS _ _ _ _ (if(n==ef)=true then _ else _) Q ar;by_cases hnn:n=ef;.rw[if_pos (~~~hnn)];exact Wg (h n ar (dU.refl hB) n1 n2 u)
  .rw[if_neg (~~~hnn)];have lt:=o.resolve_left hnn;extract_lets k z jp;have HD:∀bH,dU a₀ κ lo ar bH->Dn rk (Wf bH) lo (lo+(n+1))->wpS 4#0 A E s (jp ()) Q bH:=by
    intro bH K2 d2;refine Wt (wpS_lift (QF ⟨rfl,?_⟩));show wpS _ _ _ _ (forIn [n+1:ef] (none,n+1,0) _>>=_) Q bH;refine Wt (J1 (QI (I:=λx c bq=>∃q,c=(none,x,q)/\dU a₀ κ lo ar bq/\Dn rk (Wf bq) lo (lo+x)/\q+1<=x/\∀i,lo+x-(q+1)<=i->i<lo+x->kr rk (Wf bq) i=kr rk (Wf bq) (lo+x-1)) (Q:=λc bq=>∃x q,c=(none,x,q)/\1<=x/\x<=ef/\dU a₀ κ lo ar bq/\Dn rk (Wf bq) lo (lo+x)/\q+1<=x/\∀i,lo+x-(q+1)<=i->i<lo+x->kr rk (Wf bq) i=kr rk (Wf bq) (lo+x-1)) ?dstep ?dfin ?dini) ?dpost);case dini=>exact⟨0,rfl,K2,d2,Y',λi a b=>by congr 1;lia⟩
    case dfin=>rintro c bq⟨q,rfl,K3,d3,q1,e3⟩;rw[show max (n+1) ef=ef by lia]at*;exact⟨ef,q,rfl,h1,W5 _,K3,d3,q1,e3⟩
    case dstep=>
     rintro x c bq hx hxn⟨q,rfl,K3,d3,q1,e3⟩;have hz:=K3.sb.size;dsimp only;refine Wt (n5 hA K3.sb Y' Y' ?_);have grow:∀ys:Array Keyed,(∀k,k<lo+x+1->kr rk ys k=kr rk (Wf bq) k)->kr rk (Wf bq) (lo+x)<=kr rk (Wf bq) (lo+x-1)->Dn rk ys lo (lo+(x+1)):=λys e l i j a b c=>by
      rw[e i Y',e j Y'];by_cases hj:j<lo+x;.exact d3 i j a b hj
      .by_cases hi:i=j;.rw[hi];exact W5 _
       .have:=d3 i (lo+x-1) a Y' Y';rw[show j=lo+x by lia];lia
     by_cases hl:kr rk (Wf bq) (lo+x)<kr rk (Wf bq) (lo+x-1)
     .simp only[hl,decide_true,if_true];by_cases hq:q>0
      .rw[if_pos hq];refine Wt (wpS_reverse (Wg ⟨0,rfl,K3.ui Y' Y' Y',?_,Y',λi a b=>by congr 1;lia⟩));refine grow _ (λk hk=>?_) Y';show kr rk (mirror (Wf bq) _ _ _) k=_;rw[qk Y'];by_cases hc:lo+x-(q+1)<=k/\k<lo+x;.rw[if_pos hc,e3 _ Y' Y',e3 k hc.1 hc.2]
       .rw[if_neg hc]
      .rw[if_neg hq];exact Wg ⟨0,rfl,K3,grow _ (λv v=>rfl) Y',Y',λi a b=>by congr 1;lia⟩
     .simp only[hl,decide_false,WZ,if_false];refine Wt (n5 hA K3.sb Y' Y' ?_);by_cases hm:kr rk (Wf bq) (lo+x-1)<kr rk (Wf bq) (lo+x);.simp only[hm,decide_true,if_true];exact Wg ⟨x,q,rfl,Y',Y',K3,d3,q1,e3⟩
      .simp only[hm,decide_false,WZ,if_false];refine Wg ⟨q+1,rfl,K3,grow _ (λv v=>rfl) Y',Y',λi a b=>?_⟩;rw[show lo+(x+1)-1=lo+x by lia];by_cases hi:i=lo+x;.rw[hi]
       .rw[e3 i Y' Y'];lia
    case dpost=>
     rintro c bq⟨x,q,rfl,x1,x2,K3,d3,q1,e3⟩;have hz:=K3.sb.size;show wpS _ _ _ _ (have lL:=_;if q>0 then _ else _) Q bq;extract_lets lL;have HT:∀bL,dU a₀ κ lo ar bL->Dn rk (Wf bL) lo (lo+x)->wpS 4#0 A E s (lL ()) Q bL:=by
      intro bL K4 d4;have hz4:=K4.sb.size;show wpS _ _ _ _ (_>>=_) Q bL;have K5:=K4.ui (i:=lo) (j:=lo+x) (d:=(lo+x-lo)/2) (W5 _) Y' Y';have u5:Up rk (Wf (setArr bL (mirror (Wf bL) lo (lo+x) ((lo+x-lo)/2)))) lo (lo+x):=λi j a b c=>by show kr rk (mirror (Wf bL) lo (lo+x) ((lo+x-lo)/2)) i<=kr rk (mirror (Wf bL) lo (lo+x) ((lo+x-lo)/2)) j;rw[qk Y',qk Y',if_pos Y',if_pos Y'];exact d4 _ _ Y' Y' Y'
      refine Wt (wpS_reverse ?_);revert K5 u5;generalize setArr bL (mirror (Wf bL) lo (lo+x) ((lo+x-lo)/2))=gu;intro K5 u5;show wpS _ _ _ _ (forIn [x:ef] (none,x) _>>=_) Q gu;refine Wt (J1 (QI (I:=λy c ar=>ar=gu/\c=(none,y)/\Up rk (Wf gu) lo (lo+y)) (Q:=λc ar=>ar=gu/\∃y,c=(none,y)/\1<=y/\y<=ef/\Up rk (Wf gu) lo (lo+y)) ?tstep ?tfin ⟨rfl,rfl,u5⟩) ?tpost);case tfin=>rintro c ar⟨rfl,rfl,u⟩;rw[show max x ef=ef by lia]at u⊢;exact⟨rfl,ef,rfl,h1,W5 _,u⟩
      case tstep=>
       rintro y c qo hx hxn⟨rfl,rfl,u⟩;dsimp only;refine Wt (n5 hA K5.sb Y' Y' ?_);by_cases hl:kr rk (Wf qo) (lo+y)<kr rk (Wf qo) (lo+y-1);.simp only[hl,decide_true,if_true];exact Wg ⟨rfl,y,rfl,Y',Y',u⟩
       .simp only[hl,decide_false,WZ,if_false];refine Wg ⟨rfl,rfl,λi j a b c=>?_⟩;by_cases hj:j<lo+y;.exact u i j a b hj
        .by_cases hi:i=j;.rw[hi];exact W5 _
         .have:=u i (lo+y-1) a Y' Y';rw[show j=lo+y by lia];lia
      case tpost=>rintro c qo⟨rfl,y,rfl,y1,y2,u⟩;exact Wg (h y _ K5 y1 y2 u)
     by_cases hq:q>0
     .rw[if_pos hq];refine Wt (wpS_reverse (HT _ (K3.ui (i:=lo+x-(q+1)) (j:=lo+x) (d:=(lo+x-(lo+x-(q+1)))/2) Y' Y' Y') ?_));intro i j a b c;have e:∀k,k<lo+x->kr rk (Wf (setArr bq (mirror (Wf bq) (lo+x-(q+1)) (lo+x) ((lo+x-(lo+x-(q+1)))/2)))) k=kr rk (Wf bq) k:=λk hk=>by
       show kr rk (mirror (Wf bq) _ _ _) k=_;rw[qk Y'];by_cases hc:lo+x-(q+1)<=k/\k<lo+x;.rw[if_pos hc,e3 _ Y' Y',e3 k hc.1 hc.2]
       .rw[if_neg hc]
      rw[e i Y',e j c];exact d3 i j a b c
     .rw[if_neg hq];exact HT _ K3 d3
   show wpS _ _ _ _ (if n>1 then _ else _) Q ar;by_cases hgt:n>1
   .rw[if_pos hgt];refine Wt (n5 hA hB Y' Y' ?_);by_cases hr:kr rk (Wf ar) lo<kr rk (Wf ar) (lo+n-1);.simp only[hr,decide_true,if_true];exact Wg (h n ar (dU.refl hB) n1 n2 u)
    .simp only[hr,decide_false,WZ,if_false];have hz:=hB.size;refine Wt (wpS_reverse (HD _ ((dU.refl hB).ui (i:=lo) (j:=lo+n) (W5 _) Y' Y') ?_));intro i j a b c;have all:∀k,lo<=k->k<lo+n->kr rk (Wf ar) k=kr rk (Wf ar) lo:=λk a b=>by have a1:=u lo k (W5 _) a b;have a2:=u k (lo+n-1) a Y' Y';lia
     have e:∀k,lo<=k->kr rk (Wf (setArr ar (mirror (Wf ar) lo (lo+n) ((lo+n-lo)/2)))) k=kr rk (Wf ar) k:=λk hk=>by
      show kr rk (mirror (Wf ar) _ _ _) k=_;rw[qk Y'];by_cases hc:lo<=k/\k<lo+n;.rw[if_pos hc,all _ Y' Y',all k hc.1 hc.2]
      .rw[if_neg hc]
     rw[e i a,e j Y'];by_cases hj:j<lo+n;.rw[all i a Y',all j Y' hj];exact W5 _
     .have ej:j=lo+n:=by lia
      by_cases hi:i=j;.rw[hi];exact W5 _
      .have:=all (lo+n-1) Y' Y';rw[all i a Y',ej];lia
   .rw[if_neg hgt];refine HD _ (dU.refl hB) λi j a b c=>?_;by_cases hi:i=j;.rw[hi];exact W5 _
    .rw[show i=lo+n-1 by lia,show j=lo+n by lia];lia
end
end Lake.SM
namespace Lake.SM
open PySem.W
section
variable{a₀:Array Keyed}{κ:SortKind}{rk:Keyed->Nat}
theorem T6{st:SortSt}{lo n ok:Nat}{Q:Bool->SortSt->Prop}(hA:h8 prog w A E s a₀ κ rk)(hn:lo+n<=a₀.size)(h1:1<=ok)(aB:ok<=n)(hB:XL a₀ κ st)(hs:Up rk (Wf st) lo (lo+ok))(h:∀ar,dU a₀ κ lo st ar->Up rk (Wf ar) lo (lo+n)->Q true ar):wpS 4#0 A E s (binarySort' lo n ok) Q st:=by
 rw[binarySort'_eq];refine Wt (J1 (QI (I:=λk c ar=>c=(none,())/\dU a₀ κ lo st ar/\Up rk (Wf ar) lo (lo+min k n)) (Q:=λc ar=>c=(none,())/\dU a₀ κ lo st ar/\Up rk (Wf ar) lo (lo+n)) ?step ?fin ?init) ?post);case post=>rintro c ar⟨rfl,K,u⟩;exact Wg (h ar K u)
 case init=>exact⟨rfl,dU.refl hB,λi j a b c=>hs i j a b Y'⟩
 case fin=>rintro c ar⟨hc,K,u⟩;exact⟨hc,K,by rwa[show min (max (max ok 1) n) n=n by lia]at u⟩
 case step=>
  rintro k c ar hak hkn⟨rfl,K,u⟩;rw[show min k n=k by lia]at u;have hz:=K.sb.size;refine Wt (J1 (QI (I:=λx c jj=>jj=ar/\∃l r,c=(none,l,r)/\l<=r/\r<=k/\r+x<=k+l/\(∀i,lo<=i->i<lo+l->kr rk (Wf ar) i<=kr rk (Wf ar) (lo+k))/\∀i,lo+r<=i->i<lo+k->kr rk (Wf ar) (lo+k)<kr rk (Wf ar) i) (Q:=λc jj=>jj=ar/\∃l r,c=(none,l,r)/\l<=k/\(∀i,lo<=i->i<lo+l->kr rk (Wf ar) i<=kr rk (Wf ar) (lo+k))/\∀i,lo+l<=i->i<lo+k->kr rk (Wf ar) (lo+k)<kr rk (Wf ar) i) ?istep ?ifin ?iinit) ?ipost);case iinit=>exact⟨rfl,0,k,rfl,Y',Y',Y',λi a b=>by lia,λi a b=>by lia⟩
  case ifin=>
   rintro c jj⟨rfl,l,r,rfl,hlr,hrk,hm,a,b⟩;have:l=r:=by lia
   subst this;exact⟨rfl,l,l,rfl,hrk,a,b⟩
  case istep=>
   rintro x c jj _ hxk⟨rfl,l,r,rfl,hlr,hrk,hm,a,b⟩;dsimp only;by_cases hge:l≥r
   .rw[if_pos hge];have:l=r:=by lia
    subst this;exact Wg ⟨rfl,l,l,rfl,hrk,a,b⟩
   .rw[if_neg hge];refine Wt (n5 hA K.sb Y' Y' ?_);by_cases hl:kr rk (Wf jj) (lo+k)<kr rk (Wf jj) (lo+(l+r)/2);.simp only[hl,decide_true,if_true];refine Wg ⟨rfl,l,(l+r)/2,rfl,Y',Y',Y',a,λi x y=>?_⟩;have:=u (lo+(l+r)/2) i Y' x y;lia
    .simp only[hl,decide_false,WZ,if_false];refine Wg ⟨rfl,(l+r)/2+1,r,rfl,Y',Y',Y',λi x y=>?_,b⟩;have:=u i (lo+(l+r)/2) x Y' Y';lia
  case ipost=>
   rintro c jj⟨rfl,l,r,rfl,hl,a,b⟩;show wpS _ _ _ _ (moveDown' (lo+k) (lo+l)>>=_) _ jj;rw[moveDown'_eq];refine Wt (wpS_modify ?_);have e0:lo+k-(lo+l)=k-l:=by lia
   refine Wg ⟨rfl,K.TZ Y' Y',λi j x y z=>?_⟩;show kr rk (bubble (Wf jj) (lo+k) (lo+k-(lo+l))) i<=kr rk (bubble (Wf jj) (lo+k) (lo+k-(lo+l))) j;rw[e0,EK Y' Y',EK Y' Y'];have z':j<lo+k+1:=by lia
   have e1:lo+k-(k-l)=lo+l:=by lia
   rw[e1];by_cases i1:i=lo+l
   .rw[if_pos i1];by_cases j1:j=lo+l;.rw[if_pos j1];exact W5 _
    .rw[if_neg j1,if_pos Y'];exact JL (b (j-1) Y' Y')
   .rw[if_neg i1];by_cases i2:lo+l<i/\i<=lo+k;.rw[if_pos i2,if_neg Y',if_pos Y'];exact u _ _ Y' Y' Y'
    .rw[if_neg i2];by_cases j1:j=lo+l;.rw[if_pos j1];exact a i x Y'
     .rw[if_neg j1];by_cases j2:lo+l<j/\j<=lo+k;.rw[if_pos j2];exact u _ _ x Y' Y'
      .rw[if_neg j2];exact u _ _ x y Y'
end
end Lake.SM
namespace Lake.SM
open PySem.W
def EL:Bool->Keyed->Array Keyed->Nat->Nat->Nat->StateT SortSt Sem (Option Nat):=sortPriv%PySem.Builtin.gallop
def mY(left:Bool)(key:Keyed)(arr:Array Keyed)(base i:Nat):StateT SortSt Sem (Option Bool):=elem' arr (base+i)>>=λx=>if left=true then lt' x key else lt' key x>>=λr=>pure (r.map (!.))
def h9(rk:Keyed->Nat)(left:Bool)(key:Keyed)(arr:Array Keyed)(base i:Nat):Bool:=if left then decide (kr rk arr (base+i)<rk key)else decide (kr rk arr (base+i)<=rk key)
theorem T7{rk:Keyed->Nat}{left:Bool}{key:Keyed}{arr:Array Keyed}{base n:Nat}(u:Up rk arr base (base+n)){i j:Nat}(n8:i<=j)(hj:j<n)(h:h9 rk left key arr base j=true):h9 rk left key arr base i=true:=by
 have:=u (base+i) (base+j) Y' Y' Y';unfold h9 at h⊢;cases left;.simp at h⊢;lia
 .simp at h⊢;lia
section
variable{a₀:Array Keyed}{κ:SortKind}{rk:Keyed->Nat}
theorem EM{left:Bool}{key:Keyed}{arr:Array Keyed}{base n i:Nat}{st:SortSt}{Q:Option Bool->SortSt->Prop}(hA:h8 prog w A E s a₀ κ rk)(hk:key∈a₀)(hm:∀x∈arr,x∈a₀)(hn:base+n<=arr.size)(hK:kindOf st=κ)(hi:i<n)(hq:Q (some (h9 rk left key arr base i)) st):wpS 4#0 A E s (mY left key arr base i) Q st:=by
 have hz:base+i<arr.size:=by lia
 unfold mY;refine Wt (uj hz ?_);have e:=fY (rk:=rk) hz;have m1:=hm _ (J9 hz);cases left with|true=>show wpS _ _ _ _ (lt' arr[base+i] key) Q st;refine hA _ _ _ _ m1 hk hK ?_;rw[e];exact hq|false=>
  show wpS _ _ _ _ (lt' key arr[base+i]>>=λr=>pure (r.map (!.))) Q st;refine Wt (hA _ _ _ _ hk m1 hK (Wg ?_));rw[e];have:(some (decide (rk key<kr rk arr (base+i)))).map (!.)=some (h9 rk false key arr base i):=by
   show some (!decide (rk key<kr rk arr (base+i)))=some (decide (kr rk arr (base+i)<=rk key));by_cases c:rk key<kr rk arr (base+i);.rw[decide_eq_true c,decide_eq_false Y'];rfl
   .rw[decide_eq_false c,decide_eq_true Y'];rfl
  rw[this];exact hq
theorem T8{left:Bool}{key:Keyed}{arr:Array Keyed}{base n hint:Nat}{st:SortSt}{Q:Option Nat->SortSt->Prop}(hA:h8 prog w A E s a₀ κ rk)(hk:key∈a₀)(hm:∀x∈arr,x∈a₀)(hn:base+n<=arr.size)(hh:hint<n)(hK:kindOf st=κ)(u:Up rk arr base (base+n))(h:∀m,m<=n->(∀i,i<m->h9 rk left key arr base i=true)->(∀i,m<=i->i<n->h9 rk left key arr base i=false)->Q (some m) st):wpS 4#0 A E s (EL left key arr base n hint) Q st:=by
 refine Wt (m:=mY left key arr base hint) (EM hA hk hm hn hK hh ?_);have mono:∀{i j},i<=j->j<n->h9 rk left key arr base j=true->h9 rk left key arr base i=true:=λa b c=>T7 u a b c;have HB:∀i,i<n->∀Q:Option Bool->SortSt->Prop,Q (some (h9 rk left key arr base i)) st->wpS 4#0 A E s (mY left key arr base i) Q st:=λi hi Q hq=>EM hA hk hm hn hK hi hq;revert mono HB h;generalize h9 rk left key arr base=g;intro h mono HB;dsimp-zeta only;extract_lets jp;have HJ:∀lastofs ofs lo hi,lo<=hi->hi<=n->(∀i,i<lo->g i=true)->(∀i,hi<=i->i<n->g i=false)->wpS 4#0 A E s (jp () lastofs ofs lo hi) Q st:=by
  intro lastofs ofs lo hi h1 h2 h3 h4;refine Wt (J1 (QI (I:=λx c ar=>ar=st/\∃l r,c=(none,l,r)/\l<=r/\r<=n/\r+x<=n+l/\(∀i,i<l->g i=true)/\∀i,r<=i->i<n->g i=false) (Q:=λc ar=>ar=st/\∃l,c=(none,l,l)/\l<=n/\(∀i,i<l->g i=true)/\∀i,l<=i->i<n->g i=false) ?bstep ?bfin ⟨rfl,lo,hi,rfl,h1,h2,Y',h3,h4⟩) ?bpost);case bfin=>
   rintro c ar⟨rfl,l,r,rfl,a,b,c,d,e⟩;have:l=r:=by lia
   subst this;exact⟨rfl,l,rfl,b,d,e⟩
  case bstep=>
   rintro x c ar _ hx⟨rfl,l,r,rfl,a,b,c,d,e⟩;show wpS _ _ _ _ (if l≥r then _ else _) _ ar;by_cases hge:l≥r
   .rw[if_pos hge];have:l=r:=by lia
    subst this;exact Wg ⟨rfl,l,rfl,b,d,e⟩
   .rw[if_neg hge];refine Wt (m:=mY left key arr base (l+(r-l)/2)) (HB _ Y' _ ?_);cases hg:g (l+(r-l)/2)with|true=>refine Wg ⟨rfl,l+(r-l)/2+1,r,rfl,Y',b,Y',λi hi=>mono (j:=l+(r-l)/2) Y' Y' hg,e⟩|false=>refine Wg ⟨rfl,l,l+(r-l)/2,rfl,Y',Y',Y',d,λi x y=>?_⟩;cases hi:g i with|false=>rfl|true=>rw[mono x y hi]at hg;exact hg
  case bpost=>rintro c ar⟨rfl,l,rfl,a,b,c⟩;exact Wg (h l a b c)
 clear_value jp;cases hg:g hint with
 |true=>
  show wpS _ _ _ _ (forIn [:n] (none,0,1) _>>=_) Q st;refine Wt (J1 (QI (I:=λx c ar=>ar=st/\∃l o,c=(none,l,o)/\l<o/\x+1<=o/\hint+l<n/\g (hint+l)=true) (Q:=λc ar=>ar=st/\∃l o,c=(none,l,o)/\l<o/\hint+l<n/\g (hint+l)=true/\(n-hint<=o\/g (hint+o)=false)) ?rstep ?rfin ⟨rfl,0,1,rfl,Y',Y',hh,hg⟩) ?rpost);case rfin=>rintro c ar⟨rfl,l,o,rfl,a,b,c,d⟩;exact⟨rfl,l,o,rfl,a,c,d,.inl Y'⟩
  case rstep=>
   rintro x c ar _ hx⟨rfl,l,o,rfl,a,b,c,d⟩;show wpS _ _ _ _ (if o≥n-hint then _ else _) _ ar;by_cases hge:o≥n-hint;.rw[if_pos hge];exact Wg ⟨rfl,l,o,rfl,a,c,d,.inl hge⟩
   .rw[if_neg hge];refine Wt (m:=mY left key arr base (hint+o)) (HB _ Y' _ ?_);cases hg:g (hint+o)with|true=>exact Wg ⟨rfl,o,2*o+1,rfl,Y',Y',Y',hg⟩|false=>exact Wg ⟨rfl,l,o,rfl,a,c,d,.inr hg⟩
  case rpost=>rintro c ar⟨rfl,l,o,rfl,a,b,c,d⟩;refine HJ l o (hint+l+1) (hint+min o (n-hint)) Y' Y' (λi hi=>mono (j:=hint+l) Y' b c) λi x y=>?_;have hd:=d.resolve_left Y';cases hi:g i with|false=>rfl|true=>rw[mono (i:=hint+o) Y' y hi]at hd;exact hd
 |false=>
  show wpS _ _ _ _ (forIn [:n] (none,0,1) _>>=_) Q st;refine Wt (J1 (QI (I:=λx c ar=>ar=st/\∃l o,c=(none,l,o)/\l<o/\x+1<=o/\l<=hint/\g (hint-l)=false) (Q:=λc ar=>ar=st/\∃l o,c=(none,l,o)/\l<o/\l<=hint/\g (hint-l)=false/\(hint+1<=o\/g (hint-o)=true)) ?lstep ?lfin ⟨rfl,0,1,rfl,Y',Y',Y',hg⟩) ?lpost);case lfin=>rintro c ar⟨rfl,l,o,rfl,a,b,c,d⟩;exact⟨rfl,l,o,rfl,a,c,d,.inl Y'⟩
  case lstep=>
   rintro x c ar _ hx⟨rfl,l,o,rfl,a,b,c,d⟩;show wpS _ _ _ _ (if o≥hint+1 then _ else _) _ ar;by_cases hge:o≥hint+1;.rw[if_pos hge];exact Wg ⟨rfl,l,o,rfl,a,c,d,.inl hge⟩
   .rw[if_neg hge];refine Wt (m:=mY left key arr base (hint-o)) (HB _ Y' _ ?_);cases hg:g (hint-o)with|true=>exact Wg ⟨rfl,l,o,rfl,a,c,d,.inr hg⟩|false=>exact Wg ⟨rfl,o,2*o+1,rfl,Y',Y',Y',hg⟩
  case lpost=>
 rintro c ar⟨rfl,l,o,rfl,a,b,c,d⟩;refine HJ l o (hint+1-min o (hint+1)) (hint-l) Y' Y' (λi hi=>?_) λi x y=>?_;.have hd:=d.resolve_left Y';exact mono (j:=hint-o) Y' Y' hd
 .cases hi:g i with|false=>rfl|true=>rw[mono (i:=hint-l) Y' y hi]at c;exact c
end
end Lake.SM
namespace Lake.SM
open PySem.W
def EN:Array Keyed->Array Keyed->StateT SortSt Sem (Array Keyed):=sortPriv%PySem.Builtin.mergeLo
def EO:Array Keyed->Array Keyed->StateT SortSt Sem (Array Keyed):=sortPriv%PySem.Builtin.mergeHi
structure ML(rk:Keyed->Nat)(a b:Array Keyed)(o:List Keyed)(ia ib:Nat):Prop where
 pa:(o++a.toList.drop ia).Pairwise λx y=>rk x<=rk y
 pb:(o++b.toList.drop ib).Pairwise λx y=>rk x<=rk y
 pm:(o++(a.toList.drop ia++b.toList.drop ib)).Perm (a.toList++b.toList)
structure MR(rk:Keyed->Nat)(a b:Array Keyed)(r:Array Keyed):Prop where
 up:r.toList.Pairwise λx y=>rk x<=rk y
 pm:r.toList.Perm (a.toList++b.toList)
theorem T9{rk:Keyed->Nat}{b:Array Keyed}{n i:Nat}{y:Keyed}(u:Up rk b 0 b.size)(hy:y∈b.toList.drop i):kr rk b i<=rk y:=by
 obtain⟨k,hk,rfl⟩:=Jt.mp hy;have iZ:i+k<b.size:=by simp at hk;lia
 have e:(b.toList.drop i)[k]=b[i+k]:=by simp
 rw[e,fY (rk:=rk) iZ];exact u i (i+k) Y' Y' iZ
theorem qp{rk:Keyed->Nat}{a:Array Keyed}{i k:Nat}{x:Keyed}(hx:x∈(a.toList.drop i).take k):∃j,j<k/\i+j<a.size/\rk x=kr rk a (i+j):=by
 obtain⟨j,hj,rfl⟩:=Jt.mp hx;have gH:j<k/\i+j<a.size:=by simp at hj;lia
 have e:((a.toList.drop i).take k)[j]=a[i+j]'gH.2:=by simp
 exact⟨j,gH.1,gH.2,by rw[e,fY (rk:=rk) gH.2]⟩
theorem xO{α:Type}(l:List α)(i k:Nat):l.drop i=(l.drop i).take k++l.drop (i+k):=by rw[<-List.drop_drop,List.take_append_drop]
theorem ML.a{rk:Keyed->Nat}{a b:Array Keyed}{o:List Keyed}{ia ib:Nat}(J:ML rk a b o ia ib)(k:Nat)(h:∀x∈(a.toList.drop ia).take k,∀y∈b.toList.drop ib,rk x<=rk y):ML rk a b (o++(a.toList.drop ia).take k) (ia+k) ib:=by
 have e:=xO a.toList ia k;have pa:=J.pa;rw[e]at pa;refine⟨%[WL|pa],?_,?_⟩
 .rw[WR];refine⟨?_,(WR.mp J.pb).2.1,λx hx y hy=>?_⟩;.rw[<-WL]at pa;exact(WR.mp pa).1
  .rcases Wu.mp hx with hx|hx;.exact(WR.mp J.pb).2.2 x hx y hy
   .exact h x hx y hy
 .refine List.Perm.trans ?_ J.pm;conv=>rhs;rw[e]
  simp only[WL];exact List.Perm.refl _
theorem ML.sym{rk:Keyed->Nat}{a b:Array Keyed}{o:List Keyed}{ia ib:Nat}(J:ML rk a b o ia ib):ML rk b a o ib ia:=⟨J.pb,J.pa,((List.perm_append_comm.append_left o).trans J.pm).trans List.perm_append_comm⟩
theorem take_one{a:Array Keyed}{i:Nat}(h:i<a.size):(a.toList.drop i).take 1=[a[i]]:=by rw[List.take_one,List.head?_drop];simp[h]
theorem jk(a:Array Keyed)(i j:Nat):(a.extract i j).toList=(a.toList.drop i).take (j-i):=by simp[List.extract_eq_take_drop]
theorem uk(a:Array Keyed)(i:Nat):(a.extract i).toList=a.toList.drop i:=by rw[jk,QN Zw]
theorem um(a:Array Keyed)(j:Nat):(a.extract 0 j).toList=a.toList.take j:=by rw[jk];simp
theorem ML.done{rk:Keyed->Nat}{a b out:Array Keyed}{ia ib:Nat}(J:ML rk a b out.toList ia ib)(h:ia=a.size\/ib=b.size):MR rk a b (out++a.extract ia++b.extract ib):=by
 have e:(out++a.extract ia++b.extract ib).toList=out.toList++(a.toList.drop ia++b.toList.drop ib):=by rw[Q4,Q4,uk,uk,WL]
 refine⟨?_,%[e|J.pm]⟩;rw[e];rcases h with h|h;.rw[List.drop_of_length_le (l:=a.toList) #v[h],Qt];exact J.pb
 .rw[List.drop_of_length_le (l:=b.toList) #v[h],WT];exact J.pa
theorem ML.last{rk:Keyed->Nat}{a b out:Array Keyed}{ia ib:Nat}(J:ML rk a b out.toList ia ib)(h:ia+1=a.size)(hl:∀j,j<b.size->kr rk b j<=kr rk a (a.size-1)):MR rk a b (out++b.extract ib++a.extract ia):=by
 have e:(out++b.extract ib++a.extract ia).toList=out.toList++b.toList.drop ib++a.toList.drop ia:=by rw[Q4,Q4,uk,uk]
 have el:a.toList.drop ia=[a[ia]' Y']:=by rw[<-take_one Y',QN Zx]
 refine⟨?_,by rw[e,WL];exact(List.perm_append_comm.append_left _).trans J.pm⟩;rw[e,WR];refine⟨J.pb,(WR.mp J.pa).2.1,λx hx y hy=>?_⟩;rcases Wu.mp hx with hx|hx;.exact(WR.mp J.pa).2.2 x hx y hy
 .rw[el,List.mem_singleton]at hy;rw[hy,fY (rk:=rk) (show ia<a.size by lia)];obtain⟨k,hk,rfl⟩:=Jt.mp hx;have iZ:ib+k<b.size:=by simp at hk;lia
  have e:(b.toList.drop ib)[k]=b[ib+k]:=by simp
  rw[e,fY (rk:=rk) iZ,show ia=a.size-1 by lia];exact hl _ iZ
structure Sm(st ar:SortSt):Prop where
 k:kindOf ar=kindOf st
 a:Wf ar=Wf st
 p:Wz ar=Wz st
 f:failedOf ar=failedOf st
theorem Sm.refl(st:SortSt):Sm st st:=⟨rfl,rfl,rfl,rfl⟩
theorem Sm.uo{st ar:SortSt}(h:Sm st ar)(g:Nat):Sm st (SortSt.mk' (kindOf ar) (Wf ar) (Wz ar) g (failedOf ar)):=⟨h.k,h.a,h.p,h.f⟩
theorem qq{rk:Keyed->Nat}{a:Array Keyed}(u:Up rk a 0 a.size):a.toList.Pairwise λx y=>rk x<=rk y:=by rw[List.pairwise_iff_getElem];intro i j hi hj n8;have dD:i<a.size:= ~~~hi;have gH:j<a.size:= ~~~hj;have e:=u i j Y' Y' gH;rw[<-fY (rk:=rk) dD,<-fY (rk:=rk) gH]at e;simpa using e
theorem ML.ql{rk:Keyed->Nat}{a b:Array Keyed}(ua:Up rk a 0 a.size)(ub:Up rk b 0 b.size):ML rk a b [] 0 0:=⟨by simpa using qq ua,by simpa using qq ub,Zw⟩
theorem ML.ak{rk:Keyed->Nat}{a b out:Array Keyed}{ia ib:Nat}(J:ML rk a b out.toList ia ib)(ub:Up rk b 0 b.size)(k:Nat)(h:∀i,i<k->kr rk a (ia+i)<=kr rk b ib):ML rk a b (out++a.extract ia (ia+k)).toList (ia+k) ib:=by rw[Q4,jk,show ia+k-ia=k by lia];refine J.a k λx hx y hy=>?_;obtain⟨j,j1,_,e⟩:=qp (rk:=rk) hx;have:=T9 (rk:=rk) (n:=0) ub hy;have:=h j j1;lia
theorem ML.bk{rk:Keyed->Nat}{a b out:Array Keyed}{ia ib:Nat}(J:ML rk a b out.toList ia ib)(ua:Up rk a 0 a.size)(k:Nat)(h:∀i,i<k->kr rk b (ib+i)<=kr rk a ia):ML rk a b (out++b.extract ib (ib+k)).toList ia (ib+k):=(J.sym.ak ua k h).sym
theorem ML.a1{rk:Keyed->Nat}{a b out:Array Keyed}{ia ib:Nat}(J:ML rk a b out.toList ia ib)(ub:Up rk b 0 b.size)(hi:ia<a.size)(h:kr rk a ia<=kr rk b ib):ML rk a b (out.push a[ia]).toList (ia+1) ib:=by have:=J.ak ub 1 λi hi=>%[show i=0 by lia|h];rw[Q4,jk,show ia+1-ia=1 by lia,take_one hi]at this;simpa using this
theorem ML.b1{rk:Keyed->Nat}{a b out:Array Keyed}{ia ib:Nat}(J:ML rk a b out.toList ia ib)(ua:Up rk a 0 a.size)(hi:ib<b.size)(h:kr rk b ib<=kr rk a ia):ML rk a b (out.push b[ib]).toList ia (ib+1):=(J.sym.a1 ua hi h).sym
structure gI(rk:Keyed->Nat)(a b:Array Keyed)(n:Nat)(out:Array Keyed)(ia ib:Nat):Prop where
 J:ML rk a b out.toList ia ib
 h1:ia+1<a.size
 h2:ib<b.size
 h3:n<=ia+ib
inductive LQ{α β γ τ:Type}(S:SortSt->Prop)(P P':α->β->γ->Prop)(R:Array Keyed->Prop):ForInStep (Option (Array Keyed)×α×β×γ×τ)->SortSt->Prop|yi{x y z t st}(s:S st)(h:P x y z):LQ S P P' R (.yield (none,x,y,z,t)) st|no{x y z t st}(s:S st)(h:P' x y z):LQ S P P' R (.done (none,x,y,z,t)) st|dn{r c st}(s:S st)(h:R r):LQ S P P' R (.done (some r,c)) st
section
variable{a₀:Array Keyed}{κ:SortKind}{rk:Keyed->Nat}{α β γ τ Y:Type}{st:SortSt}{Q:Y->SortSt->Prop}
theorem eM{m n:Nat}{t e:StateT SortSt Sem Y}(h1:m=n->wpS 4#0 A E s t Q st)(h2:m≠n->wpS 4#0 A E s e Q st):wpS 4#0 A E s (if(m==n)=true then t else e) Q st:=by
 by_cases h:m=n;.rw[if_pos (~~~h)];exact h1 h
 .rw[if_neg (~~~h)];exact h2 h
theorem h_{c:Prop}[Decidable c]{t e:StateT SortSt Sem Y}(h1:c->wpS 4#0 A E s t Q st)(h2:¬c->wpS 4#0 A E s e Q st):wpS 4#0 A E s (if c then t else e) Q st:=by
 by_cases h:c;.rw[if_pos h];exact h1 h
 .rw[if_neg h];exact h2 h
theorem ic{arr:Array Keyed}{i:Nat}{f:Keyed->StateT SortSt Sem Y}(hi:i<arr.size)(h:wpS 4#0 A E s (f arr[i]) Q st):wpS 4#0 A E s (elem' arr i>>=f) Q st:=Wt (uj hi h)
theorem ER{b a:Array Keyed}{i j:Nat}{f:Keyed->Keyed->Option Bool->StateT SortSt Sem Y}(hA:h8 prog w A E s a₀ κ rk)(hK:kindOf st=κ)(mb:∀x∈b,x∈a₀)(ma:∀x∈a,x∈a₀)(hi:i<b.size)(hj:j<a.size)(h1:kr rk b i<kr rk a j->wpS 4#0 A E s (f b[i] a[j] (some true)) Q st)(h2:kr rk a j<=kr rk b i->wpS 4#0 A E s (f b[i] a[j] (some false)) Q st):wpS 4#0 A E s (elem' b i>>=λx=>elem' a j>>=λy=>lt' x y>>=f x y) Q st:=by
 refine ic hi (ic hj (Wt (hA _ _ _ _ (mb _ (J9 hi)) (ma _ (J9 _)) hK ?_)));rw[fY (rk:=rk) hi,fY (rk:=rk) hj];by_cases c:kr rk b i<kr rk a j;.rw[decide_eq_true c];exact h1 c
 .rw[decide_eq_false c];exact h2 (Nat.le_of_not_lt c)
theorem uq{ES:SortSt}{g:SortSt->SortSt}{f:PUnit->StateT SortSt Sem Y}(S:Sm ES (g st))(h:∀ar,Sm ES ar->wpS 4#0 A E s (f ⟨⟩) Q ar):wpS 4#0 A E s (modify g>>=f) Q st:=Wt (wpS_modify (h _ S))
theorem n9{n:Nat}{f:Nat->Option (Array Keyed)×α×β×γ×τ->StateT SortSt Sem (ForInStep (Option (Array Keyed)×α×β×γ×τ))}{k:Option (Array Keyed)×α×β×γ×τ->StateT SortSt Sem Y}(S:SortSt->Prop)(P:Nat->α->β->γ->Prop)(P':α->β->γ->Prop)(R:Array Keyed->Prop)(T_:∀x y z,P n x y z->P' x y z){x:α}{y:β}{z:γ}{t:τ}(hS:S st)(h:P 0 x y z)(Ut:∀i x y z t st,S st->P i x y z->wpS 4#0 A E s (f i (none,x,y,z,t)) (LQ S (P (i+1)) P' R) st)(hd:∀r c st,S st->R r->wpS 4#0 A E s (k (some r,c)) Q st)(hn:∀x y z t st,S st->P' x y z->wpS 4#0 A E s (k (none,x,y,z,t)) Q st):wpS 4#0 A E s (forIn [:n] (none,x,y,z,t) f>>=k) Q st:=by
 refine Wt (J1 (QI (I:=λi c st=>LQ (τ:=τ) S (P i) (P i) R (.yield c) st) (Q:=λc st=>LQ S P' P' R (.done c) st) (λi c st j j h=>?_) (λc st h=>?_) (.yi hS h)) λc st h=>?_);.cases h with|yi s h=>refine J1 (Ut i _ _ _ _ st s h) λr st h=>?_;cases h with|yi s h=>exact .yi s h|no s h=>exact .no s h|dn s h=>exact .dn s h
 .cases h with|yi s h=>exact .no s (T_ _ _ _ (by rwa[Nat.max_eq_right (Q2 n)]at h))
 .cases h with|no s h=>exact hn _ _ _ _ _ s h|dn s h=>exact hd _ _ _ s h
theorem Up.sub{rk:Keyed->Nat}{a:Array Keyed}{lo hi ET dD:Nat}(u:Up rk a lo hi)(h1:lo<=ET)(h2:dD<=hi):Up rk a ET dD:=λi j x y z=>u i j (WF h1 x) y (WG z h2)
theorem n_{left:Bool}{b a:Array Keyed}{i base n hint:Nat}{f:Keyed->Option Nat->StateT SortSt Sem Y}(hA:h8 prog w A E s a₀ κ rk)(hK:kindOf st=κ)(mb:∀x∈b,x∈a₀)(ma:∀x∈a,x∈a₀)(hi:i<b.size)(hn:base+n<=a.size)(hh:hint<n)(ua:Up rk a base (base+n))(h:∀k,k<=n->(∀j,j<k->kr rk a (base+j)<=kr rk b i)->(∀j,k<=j->j<n->kr rk b i<=kr rk a (base+j))->wpS 4#0 A E s (f b[i] (some k)) Q st):wpS 4#0 A E s (elem' b i>>=λx=>EL left x a base n hint>>=f x) Q st:=by
 refine ic hi (Wt (T8 hA (mb _ (J9 hi)) ma hn hh hK ua λk k1 k2 k3=>h k k1 (λj hj=>?_) λj h1 h2=>?_));.have:=k2 j hj;unfold h9 at this;rw[fY (rk:=rk) hi]at this;cases left<;>simp at this<;>lia
 .have:=k3 j h1 h2;unfold h9 at this;rw[fY (rk:=rk) hi]at this;cases left<;>simp at this<;>lia
theorem Uu{a b:Array Keyed}{st:SortSt}{Q:Array Keyed->SortSt->Prop}(hA:h8 prog w A E s a₀ κ rk)(hK:kindOf st=κ)(ma:∀x∈a,x∈a₀)(mb:∀x∈b,x∈a₀)(za:0<a.size)(zb:0<b.size)(ua:Up rk a 0 a.size)(ub:Up rk b 0 b.size)(h0:kr rk b 0<=kr rk a 0)(hl:∀j,j<b.size->kr rk b j<=kr rk a (a.size-1))(h:∀r ar,Sm st ar->MR rk a b r->Q r ar):wpS 4#0 A E s (EN a b) Q st:=by
 have J0:ML rk a b (#[b[0]]:Array Keyed).toList 0 1:=ML.b1 (out:=#[]) (ML.ql ua ub) ua zb h0;refine Wt (wpS_lift (QF ⟨rfl,?_⟩));refine ic (arr:=b) zb ?_;refine eM (λb1=>Wg (h _ _ (Sm.refl st) (J0.done (.inr b1)))) λb1=>?_;refine eM (λa1=>Wg (h _ _ (Sm.refl st) (J0.last a1 hl))) λa1=>?_;refine Wt (wpS_get ?_);refine n9 (Sm st) (gI rk a b) (λu u u=>False) (MR rk a b) λu u u h=>by have:=h.h1;have:=h.h2;have:=h.h3;lia (Sm.refl st) ⟨J0,Y',Y',Y'⟩ (λx out ia ib g ar S H=>?_) (λr c ar S hr=>Wg (h _ ar S hr)) λu u u u u u h=>h.elim;refine n9 (.=ar) (λy=>gI rk a b (x+y)) (gI rk a b (x+1)) (MR rk a b) (λu u u h=>⟨h.J,h.h1,h.h2,by have:=h.h1;have:=h.h3;lia⟩) rfl H (λy out ia ib t bH e⟨J,h1,h2,h3⟩=>?_) (λr c bH e hr=>?_) λout ia ib p bH e⟨J,h1,h2,h3⟩=>?_
 .cases e;have h4:ia<a.size:=by lia
  refine ER (i:=ib) (j:=ia) hA (S.k.trans hK) mb ma h2 h4 (λc=>ic (arr:=b) (i:=ib) h2 ?_) λc=>ic (arr:=a) (i:=ia) h4 ?_;.have J':=J.b1 ua h2 (JL c);refine eM (m:=ib+1) (λe=>Wg (.dn rfl (J'.done (.inr e)))) λe=>?_;have q:gI rk a b (x+1) (out.push b[ib]) ia (ib+1)/\x+(y+1)<=ia+(ib+1):=⟨⟨J',h1,Y',Y'⟩,Y'⟩;exact h_ (λu=>Wg (.no rfl q.1)) λu=>Wg (.yi rfl {q.1 with h3:=q.2})
  .have J':=J.a1 ub h4 c;refine eM (m:=ia+1+1) (λe=>Wg (.dn rfl (J'.last e hl))) λe=>?_;have q:gI rk a b (x+1) (out.push a[ia]) (ia+1) ib/\x+(y+1)<=ia+1+ib:=⟨⟨J',Y',h2,Y'⟩,Y'⟩;exact h_ (λu=>Wg (.no rfl q.1)) λu=>Wg (.yi rfl {q.1 with h3:=q.2})
 .cases e;exact Wg (.dn S hr)
 .cases e;refine Wt (wpS_lift (QF ⟨rfl,?_⟩));refine n9 (Sm st) (λu=>gI rk a b (x+1)) (gI rk a b (x+1)) (MR rk a b) (λu u u h=>h) S ⟨J,h1,h2,h3⟩ (λy out ia ib t bq S3 hh=>?_) (λr c bq S hr=>Wg (.dn S hr)) λout ia ib t bq S3 H=>uq (S3.uo _) λbL S4=>Wg (.yi S4 H);obtain⟨J,h1,h2,h3⟩:=hh;dsimp-zeta only;extract_lets-underBinder c1 out1 c2 ia1 c3 ib1 c4 g1 c5 p1 q1 jp;have HJ:∀g':Nat,wpS 4#0 A E s (jp () g') (LQ (Sm st) (gI rk a b (x+1)) (gI rk a b (x+1)) (MR rk a b)) bq:=by
   refineλg'=>uq (S3.uo g') λbL S4=>n_ (i:=ib) (base:=ia) (n:=a.size-ia) hA (S4.k.trans hK) mb ma h2 Y' Y' (ua.sub Y' Y') λk k1 e2 e3=>?_;dsimp-zeta only;extract_lets-underBinder ac lL;have qr:∀(out:Array Keyed)(ia:Nat),ML rk a b out.toList ia ib->ia+1<a.size->kr rk b ib<=kr rk a ia->x+1<=ia+ib->wpS 4#0 A E s (lL () out ia) (LQ (Sm st) (gI rk a b (x+1)) (gI rk a b (x+1)) (MR rk a b)) bL:=by
    intro out ia J h1 hc h3;have J':=J.b1 ua h2 hc;have hi:ia<a.size:=by lia
    refine ic (arr:=b) h2 (eM (m:=ib+1) (λe=>Wg (.dn S4 (J'.done (.inr e)))) λe=>n_ (i:=ia) (base:=ib+1) (n:=b.size-(ib+1)) hA (S4.k.trans hK) ma mb hi Y' Y' (ub.sub Y' Y') λk k1 e2 e3=>?_);dsimp-zeta only;extract_lets-underBinder bc jp3;have qt:∀(out:Array Keyed)(ib:Nat),ML rk a b out.toList ia ib->ib<b.size->kr rk a ia<=kr rk b ib->x+1<=ia+ib->wpS 4#0 A E s (jp3 () out ib) (LQ (Sm st) (gI rk a b (x+1)) (gI rk a b (x+1)) (MR rk a b)) bL:=by intro out ib J h2 hc h3;have J':=J.a1 ub hi hc;refine ic (arr:=a) hi (eM (m:=ia+1+1) (λe=>Wg (.dn S4 (J'.last e hl))) λe=>?_);have q:gI rk a b (x+1) (out.push a[ia]) (ia+1) ib:=⟨J',Y',h2,Y'⟩;exact h_ (λu=>Wg (.no S4 q)) λu=>Wg (.yi S4 q)
    clear_value jp3;refine h_ (λk0=>?_) λk0=>?_;.have J2:=J'.bk ua k e2;exact eM (m:=ib+1+k) (λe=>Wg (.dn S4 (J2.done (.inr e)))) λe=>qt _ (ib+1+k) J2 Y' (e3 k (W5 _) Y') Y'
    .have:k=0:=by lia
     exact qt _ (ib+1) J' Y' (e3 0 Y' Y') Y'
   clear_value lL;refine h_ (λk0=>?_) λk0=>?_;.have J2:=J.ak ub k e2;exact eM (m:=ia+k+1) (λe=>Wg (.dn S4 (J2.last e hl))) λe=>eM (m:=ia+k) (λe=>Wg (.dn S4 (J2.done (.inl e)))) λe=>qr _ (ia+k) J2 Y' (e3 k (W5 _) Y') Y'
   .have:k=0:=by lia
    exact qr _ ia J Y' (e3 0 Y' Y') Y'
  clear_value jp;exact h_ (λu=>HJ _) λu=>HJ _
end
end Lake.SM
namespace Lake.SM
open PySem.W
structure MH(rk:Keyed->Nat)(a b:Array Keyed)(o:List Keyed)(na nb:Nat):Prop where
 pa:(a.toList.take na++o).Pairwise λx y=>rk x<=rk y
 pb:(b.toList.take nb++o).Pairwise λx y=>rk x<=rk y
 pm:((a.toList.take na++b.toList.take nb)++o).Perm (a.toList++b.toList)
theorem Uv{α:Type}(l:List α){m n:Nat}(h:m<=n):l.take n=l.take m++(l.drop m).take (n-m):=by
 have:n=m+(n-m):=by lia
 conv=>lhs;rw[this,List.take_add]
theorem xP{rk:Keyed->Nat}{a:Array Keyed}{n:Nat}{x:Keyed}(hx:x∈a.toList.take n):∃j,j<n/\j<a.size/\rk x=kr rk a j:=by obtain⟨j,h1,h2,h3⟩:=qp (rk:=rk) (i:=0) (k:=n) (~~~hx);exact⟨j,h1,Y',by rw[h3];congr 1;lia⟩
theorem MH.a{rk:Keyed->Nat}{a b:Array Keyed}{o:List Keyed}{na nb:Nat}(J:MH rk a b o na nb){m:Nat}(hm:m<=na)(h:∀x∈(a.toList.drop m).take (na-m),∀y∈b.toList.take nb,rk y<=rk x):MH rk a b ((a.toList.drop m).take (na-m)++o) m nb:=by
 have e:=Uv a.toList hm;have pa:=J.pa;rw[e]at pa;refine⟨by rw[<-WL];exact pa,?_,?_⟩
 .rw[WR];refine⟨(WR.mp J.pb).1,?_,λx hx y hy=>?_⟩;.rw[WL]at pa;exact(WR.mp pa).2.1
  .rcases Wu.mp hy with hy|hy;.exact h y hy x hx
   .exact(WR.mp J.pb).2.2 x hx y hy
 .refine List.Perm.trans ?_ J.pm;conv=>rhs;rw[e]
  simp only[WL];refine List.Perm.append_left _ ?_;rw[<-WL,<-WL];exact List.perm_append_comm.append_right _
theorem MH.sym{rk:Keyed->Nat}{a b:Array Keyed}{o:List Keyed}{na nb:Nat}(J:MH rk a b o na nb):MH rk b a o nb na:=⟨J.pb,J.pa,((List.perm_append_comm.append_right o).trans J.pm).trans List.perm_append_comm⟩
theorem MH.ak{rk:Keyed->Nat}{a b out:Array Keyed}{na nb:Nat}(J:MH rk a b out.toList.reverse na nb)(ub:Up rk b 0 b.size)(hn:nb<=b.size){m:Nat}(hm:m<=na)(h:∀i,m<=i->i<na->kr rk b (nb-1)<=kr rk a i):MH rk a b (out++(a.extract m na).reverse).toList.reverse m nb:=by
 have e:(out++(a.extract m na).reverse).toList.reverse=(a.toList.drop m).take (na-m)++out.toList.reverse:=by rw[Q4,JR,jk,List.reverse_append,List.reverse_reverse]
 rw[e];refine J.a hm λx hx y hy=>?_;obtain⟨j,j1,_,e1⟩:=qp (rk:=rk) hx;obtain⟨k,k1,k2,e2⟩:=xP (rk:=rk) hy;have:=h (m+j) Y' Y';have:=ub k (nb-1) Y' Y' Y';lia
theorem MH.a1{rk:Keyed->Nat}{a b out:Array Keyed}{na nb:Nat}(J:MH rk a b out.toList.reverse na nb)(ub:Up rk b 0 b.size)(hn:nb<=b.size)(h0:0<na)(ha:na<=a.size)(h:kr rk b (nb-1)<=kr rk a (na-1)):MH rk a b (out.push (a[na-1]' Y')).toList.reverse (na-1) nb:=by have:=J.ak ub hn (m:=na-1) Y' λi h1 h2=>%[show i=na-1 by lia|h];rw[Q4,JR,jk,show na-(na-1)=1 by lia,take_one Y']at this;simpa using this
theorem MH.bk{rk:Keyed->Nat}{a b out:Array Keyed}{na nb:Nat}(J:MH rk a b out.toList.reverse na nb)(ua:Up rk a 0 a.size)(hn:na<=a.size){m:Nat}(hm:m<=nb)(h:∀i,m<=i->i<nb->kr rk a (na-1)<=kr rk b i):MH rk a b (out++(b.extract m nb).reverse).toList.reverse na m:=(J.sym.ak ua hn hm h).sym
theorem MH.b1{rk:Keyed->Nat}{a b out:Array Keyed}{na nb:Nat}(J:MH rk a b out.toList.reverse na nb)(ua:Up rk a 0 a.size)(hn:na<=a.size)(h0:0<nb)(hb:nb<=b.size)(h:kr rk a (na-1)<=kr rk b (nb-1)):MH rk a b (out.push (b[nb-1]' Y')).toList.reverse na (nb-1):=(J.sym.a1 ua hn h0 hb h).sym
theorem MH.ql{rk:Keyed->Nat}{a b:Array Keyed}(ua:Up rk a 0 a.size)(ub:Up rk b 0 b.size):MH rk a b (#[]:Array Keyed).toList.reverse a.size b.size:=by
 have e1:a.toList.take a.size=a.toList:=QN Zw;have e2:b.toList.take b.size=b.toList:=QN Zw;refine⟨?_,?_,?_⟩;.rw[e1];simpa using qq ua
 .rw[e2];simpa using qq ub
 .rw[e1,e2];simp
theorem MH.done{rk:Keyed->Nat}{a b out:Array Keyed}{na nb:Nat}(J:MH rk a b out.toList.reverse na nb)(h:na=0\/nb=0):MR rk a b (a.extract 0 na++b.extract 0 nb++out.reverse):=by
 have e:(a.extract 0 na++b.extract 0 nb++out.reverse).toList=a.toList.take na++b.toList.take nb++out.toList.reverse:=by rw[Q4,Q4,um,um,JR]
 refine⟨?_,%[e|J.pm]⟩;rw[e];rcases h with h|h;.rw[h,List.take_zero,Qt];exact J.pb
 .rw[h,List.take_zero,WT];exact J.pa
theorem MH.first{rk:Keyed->Nat}{a b out:Array Keyed}{na nb:Nat}(J:MH rk a b out.toList.reverse na nb)(h:nb=1)(h0:∀j,j<a.size->kr rk b 0<=kr rk a j):MR rk a b (b.extract 0 nb++a.extract 0 na++out.reverse):=by
 have e:(b.extract 0 nb++a.extract 0 na++out.reverse).toList=b.toList.take nb++(a.toList.take na++out.toList.reverse):=by rw[Q4,Q4,um,um,JR,WL]
 refine⟨?_,by rw[e,<-WL];exact(List.perm_append_comm.append_right _).trans J.pm⟩;rw[e,WR];refine⟨(WR.mp J.pb).1,J.pa,λx hx y hy=>?_⟩;rcases Wu.mp hy with hy|hy;.obtain⟨j,j1,_,e1⟩:=xP (rk:=rk) hx;obtain⟨k,k1,k2,e2⟩:=xP (rk:=rk) hy;have:=h0 k k2;rw[show j=0 by lia]at e1;lia
 .exact(WR.mp J.pb).2.2 x hx y hy
structure fZ(rk:Keyed->Nat)(a b:Array Keyed)(n na nb:Nat)(out:Array Keyed):Prop where
 J:MH rk a b out.toList.reverse na nb
 h1:0<na
 h2:na<=a.size
 h3:1<nb
 h4:nb<=b.size
 h5:n+(na+nb)<=a.size+b.size
section
variable{a₀:Array Keyed}{κ:SortKind}{rk:Keyed->Nat}
theorem Uw{a b:Array Keyed}{st:SortSt}{Q:Array Keyed->SortSt->Prop}(hA:h8 prog w A E s a₀ κ rk)(hK:kindOf st=κ)(ma:∀x∈a,x∈a₀)(mb:∀x∈b,x∈a₀)(za:0<a.size)(zb:0<b.size)(ua:Up rk a 0 a.size)(ub:Up rk b 0 b.size)(h0:kr rk b 0<=kr rk a 0)(hl:∀j,j<b.size->kr rk b j<=kr rk a (a.size-1))(h:∀r ar,Sm st ar->MR rk a b r->Q r ar):wpS 4#0 A E s (EO a b) Q st:=by
 have hf:∀j,j<a.size->kr rk b 0<=kr rk a j:=λj hj=>WF h0 (ua 0 j Y' Y' hj);have zz:a.size-1<a.size:=by lia
 have J0:MH rk a b (#[a[a.size-1]]:Array Keyed).toList.reverse (a.size-1) b.size:=MH.a1 (out:=#[]) (MH.ql ua ub) ub (W5 _) za (W5 _) (hl _ Y');refine Wt (wpS_lift (QF ⟨rfl,?_⟩));refine ic (arr:=a) (i:=a.size-1) zz ?_;refine eM (m:=a.size-1) (λa1=>Wg (h _ _ (Sm.refl st) (J0.done (.inl a1)))) λa1=>?_;refine eM (λb1=>Wg (h _ _ (Sm.refl st) (J0.first b1 hf))) λb1=>?_;refine Wt (wpS_get ?_);refine n9 (Sm st) (fZ rk a b) (λu u u=>False) (MR rk a b) λu u u h=>by have:=h.h1;have:=h.h3;have:=h.h5;lia (Sm.refl st) ⟨J0,Y',Y',Y',Y',Y'⟩ (λx na nb out g ar S H=>?_) (λr c ar S hr=>Wg (h _ ar S hr)) λu u u u u u h=>h.elim;refine n9 (.=ar) (λy=>fZ rk a b (x+y)) (fZ rk a b (x+1)) (MR rk a b) (λu u u h=>{h with h5:=by have:=h.h1;have:=h.h5;lia}) rfl H (λy na nb out t bH e⟨J,h1,h2,h3,h4,h5⟩=>?_) (λr c bH e hr=>?_) λna nb out p bH e⟨J,h1,h2,h3,h4,h5⟩=>?_
 .cases e;have ib:nb-1<b.size:=by lia
  have ia:na-1<a.size:=by lia
  refine ER (i:=nb-1) (j:=na-1) hA (S.k.trans hK) mb ma ib ia (λc=>ic (arr:=a) (i:=na-1) ia ?_) λc=>ic (arr:=b) (i:=nb-1) ib ?_;.have J':=J.a1 ub h4 h1 h2 (JL c);refine eM (m:=na-1) (λe=>Wg (.dn rfl (J'.done (.inl e)))) λe=>?_;have q:fZ rk a b (x+1) (na-1) nb (out.push a[na-1])/\x+(y+1)+(na-1+nb)<=a.size+b.size:=⟨⟨J',Y',Y',h3,h4,Y'⟩,Y'⟩;exact h_ (λu=>Wg (.no rfl q.1)) λu=>Wg (.yi rfl {q.1 with h5:=q.2})
  .have J':=J.b1 ua h2 Y' h4 c;refine eM (m:=nb-1) (λe=>Wg (.dn rfl (J'.first e hf))) λe=>?_;have q:fZ rk a b (x+1) na (nb-1) (out.push b[nb-1])/\x+(y+1)+(na+(nb-1))<=a.size+b.size:=⟨⟨J',h1,h2,Y',Y',Y'⟩,Y'⟩;exact h_ (λu=>Wg (.no rfl q.1)) λu=>Wg (.yi rfl {q.1 with h5:=q.2})
 .cases e;exact Wg (.dn S hr)
 .cases e;refine Wt (wpS_lift (QF ⟨rfl,?_⟩));refine n9 (Sm st) (λu=>fZ rk a b (x+1)) (fZ rk a b (x+1)) (MR rk a b) (λu u u h=>h) S ⟨J,h1,h2,h3,h4,h5⟩ (λy na nb out t bq S3 hh=>?_) (λr c bq S hr=>Wg (.dn S hr)) λna nb out t bq S3 H=>uq (S3.uo _) λbL S4=>Wg (.yi S4 H);obtain⟨J,h1,h2,h3,h4,h5⟩:=hh;dsimp-zeta only;extract_lets-underBinder c1 na1 c2 nb1 c3 out1 c4 g1 c5 p1 q1 jp;have HJ:∀g':Nat,wpS 4#0 A E s (jp () g') (LQ (Sm st) (fZ rk a b (x+1)) (fZ rk a b (x+1)) (MR rk a b)) bq:=by
   have ib:nb-1<b.size:=by lia
   refineλg'=>uq (S3.uo g') λbL S4=>n_ (i:=nb-1) (base:=0) (n:=na) (hint:=na-1) hA (S4.k.trans hK) mb ma ib Y' Y' (ua.sub Y' Y') λk k1 e2 e3=>?_;simp only[U7]at e2 e3;dsimp-zeta only;extract_lets-underBinder kk ac lL;have qr:∀(na:Nat)(out:Array Keyed),fZ rk a b (x+1) na nb out->kr rk a (na-1)<=kr rk b (nb-1)->wpS 4#0 A E s (lL () na out) (LQ (Sm st) (fZ rk a b (x+1)) (fZ rk a b (x+1)) (MR rk a b)) bL:=by
    intro na out⟨J,h1,h2,h3,h4,h5⟩hc;have J':=J.b1 ua h2 Y' h4 hc;have hi:na-1<a.size:=by lia
    refine ic (arr:=b) ib (eM (m:=nb-1) (λe=>Wg (.dn S4 (J'.first e hf))) λe=>n_ (i:=na-1) (base:=0) (n:=nb-1) (hint:=nb-1-1) hA (S4.k.trans hK) ma mb hi Y' Y' (ub.sub Y' Y') λk k1 e2 e3=>?_);simp only[U7]at e2 e3;dsimp-zeta only;extract_lets-underBinder kk bc jp3;have qt:∀(nb:Nat)(out:Array Keyed),fZ rk a b (x+1) na nb out->kr rk b (nb-1)<=kr rk a (na-1)->wpS 4#0 A E s (jp3 () nb out) (LQ (Sm st) (fZ rk a b (x+1)) (fZ rk a b (x+1)) (MR rk a b)) bL:=by intro nb out⟨J,h1,h2,h3,h4,h5⟩hc;have J':=J.a1 ub h4 h1 h2 hc;refine ic (arr:=a) hi (eM (m:=na-1) (λe=>Wg (.dn S4 (J'.done (.inl e)))) λe=>?_);have q:fZ rk a b (x+1) (na-1) nb (out.push a[na-1]):=⟨J',Y',Y',h3,h4,Y'⟩;exact h_ (λu=>Wg (.no S4 q)) λu=>Wg (.yi S4 q)
    clear_value jp3;refine h_ (c:=nb-1-k>0) (λk0=>?_) λk0=>?_;.have J2:=J'.bk ua h2 k1 e3;exact eM (m:=k) (λe=>Wg (.dn S4 (J2.first e hf))) λe=>eM (m:=k) (λe=>Wg (.dn S4 (J2.done (.inr e)))) λe=>qt k _ ⟨J2,h1,h2,Y',Y',Y'⟩ (e2 _ Y')
    .have:k=nb-1:=by lia
     cases this;exact qt (nb-1) _ ⟨J',h1,h2,Y',Y',Y'⟩ (e2 _ Y')
   clear_value lL;refine h_ (c:=na-k>0) (λk0=>?_) λk0=>?_;.have J2:=J.ak ub h4 k1 e3;exact eM (m:=k) (λe=>Wg (.dn S4 (J2.done (.inl e)))) λe=>qr k _ ⟨J2,Y',Y',h3,h4,Y'⟩ (e2 _ Y')
   .have:k=na:=by lia
    cases this;exact qr na _ ⟨J,h1,h2,h3,h4,h5⟩ (e2 _ Y')
  clear_value jp;exact h_ (λu=>HJ _) λu=>HJ _
end
end Lake.SM
namespace Lake.SM
open PySem.W
theorem EU(k:Nat):∀(l:List Keyed)(n:Nat)(a:Array Keyed),k+n+l.length<=a.size->((l.zipIdx n).foldl (λa(x:Keyed×Nat)=>a.setIfInBounds (k+x.2) x.1) a).toList=a.toList.take (k+n)++(l++a.toList.drop (k+n+l.length))
 |[],n,a,h=>by simp|x::l,n,a,h=>by
  rw[List.zipIdx_cons,Jl];have hl:k+n<a.size:=by simp at h;lia
  have ih:=EU k l (n+1) (a.setIfInBounds (k+n) x) (by simp at h⊢;lia);rw[ih];have e:(a.setIfInBounds (k+n) x).toList=a.toList.set (k+n) x:=by simp
  rw[e];have gO:k+n<a.toList.length:= ~~~hl;rw[show k+(n+1)=k+n+1 by lia,List.take_succ_eq_append_getElem (~~~hl)];rw[List.take_set_of_le (W5 _)];have e2:(a.toList.set (k+n) x)[k+n]'(~~~hl)=x:=by simp
  rw[e2,WL];congr 1;rw[List.drop_set_of_lt Y',WE,show k+n+(l.length+1)=k+n+1+l.length by lia];rfl
theorem Ux{arr' arr M:Array Keyed}{sa e:Nat}(h:arr'.toList=arr.toList.take sa++(M.toList++arr.toList.drop e))(he:sa+M.size=e)(hz:e<=arr.size)(j:Nat):arr'[j]?=if j<sa then arr[j]? else if j<e then M[j-sa]? else arr[j]?:=by
 rw[<-Qh,h];have hl:(arr.toList.take sa).length=sa:=by simp;lia
 by_cases h1:j<sa;.rw[if_pos h1,Qo Y',QW h1,Qh]
 .rw[if_neg h1,Qy Y',hl];by_cases h2:j<e;.rw[if_pos h2,Qo Zx,Qh]
  .rw[if_neg h2,Qy Zx,Jj,Qh];congr 1;simp;lia
theorem four{α:Type}(l:List α){a b c:Nat}(h1:a<=b)(h2:b<=c):l=l.take a++((l.drop a).take (b-a)++((l.drop b).take (c-b)++l.drop c)):=by have e1:=xO l b (c-b);rw[show b+(c-b)=c by lia]at e1;have e2:=xO l a (b-a);rw[show a+(b-a)=b by lia]at e2;rw[<-e1,<-e2,List.take_append_drop]
theorem Uy{arr arr' M:Array Keyed}{sa0 sa sb n' nb:Nat}(hM:MR rk (arr.extract sa sb) (arr.extract sb (sb+n')) M)(h:arr'.toList=arr.toList.take sa++(M.toList++arr.toList.drop (sb+n')))(hs:sa+M.size=sb+n')(a0:sa0<=sa)(ab:sa<=sb)(hn:n'<=nb)(hz:sb+nb<=arr.size)(ua:Up rk arr sa0 sb)(ub:Up rk arr sb (sb+nb))(F1:∀i t,sa0<=i->i<sa->sa<=t->t<sb+nb->kr rk arr i<=kr rk arr t)(F2:∀t j,sa0<=t->t<sb+n'->sb+n'<=j->j<sb+nb->kr rk arr t<=kr rk arr j):arr'.Perm arr/\Up rk arr' sa0 (sb+nb)/\∀j,j<sa0\/sb+nb<=j->arr'[j]?=arr[j]?:=by
 have at':=Ux h Y' Y';refine⟨?_,?_,λj hj=>?_⟩
 .rw[Array.perm_iff_toList_perm,h];conv=>rhs;rw[four arr.toList ab (show sb<=sb+n' by lia)]
  refine List.Perm.append_left _ ?_;rw[<-WL];refine List.Perm.append_right _ ?_;have:=hM.pm;rw[jk,jk]at this;exact this
 .have EV:∀j,sa<=j->j<sb+n'->∃t,sa<=t/\t<sb+n'/\kr rk arr' j=kr rk arr t:=λj h1 h2=>by
   have hj:j-sa<M.size:=by lia
   have e:kr rk arr' j=kr rk M (j-sa):=by refine gG ?_;rw[at' j,if_neg Y',if_pos h2]
   rw[e,<-fY (rk:=rk) hj];have hm:M[j-sa]∈M.toList:=by simp
   have hm:=hM.pm.mem_iff.mp hm;rcases Wu.mp hm with hm|hm;.rw[jk]at hm;obtain⟨u,u1,u2,e⟩:=qp (rk:=rk) hm;exact⟨sa+u,Y',Y',e⟩
   .rw[jk]at hm;obtain⟨u,u1,u2,e⟩:=qp (rk:=rk) hm;exact⟨sb+u,Y',Y',e⟩
  have out:∀j,j<sa\/sb+n'<=j->kr rk arr' j=kr rk arr j:=λj hj=>by
   refine gG ?_;rw[at' j];by_cases h1:j<sa;.rw[if_pos h1]
   .rw[if_neg h1,if_neg Y']
  intro i j h1 h2 h3;by_cases ia:i<sa
  .rw[out i (.inl ia)];by_cases ja:j<sa;.rw[out j (.inl ja)];exact ua i j h1 h2 Y'
   .by_cases jb:j<sb+n';.obtain⟨t,t1,t2,e⟩:=EV j Y' jb;rw[e];exact F1 i t h1 ia t1 Y'
    .rw[out j (.inr Y')];exact F1 i j h1 ia Y' h3
  .by_cases ib:i<sb+n'
   .by_cases jb:j<sb+n'
    .by_cases ij:i=j;.rw[ij];exact W5 _
     .have hi:i-sa<M.size:=by lia
      have hj:j-sa<M.size:=by lia
      have e1:kr rk arr' i=kr rk M (i-sa):=gG (by rw[at' i,if_neg Y',if_pos ib]);have e2:kr rk arr' j=kr rk M (j-sa):=gG (by rw[at' j,if_neg Y',if_pos jb]);rw[e1,e2,<-fY (rk:=rk) hi,<-fY (rk:=rk) hj];have:=List.pairwise_iff_getElem.mp hM.up (i-sa) (j-sa) (~~~hi) (~~~hj) Y';simpa using this
    .obtain⟨t,t1,t2,e⟩:=EV i Y' ib;rw[e,out j (.inr Y')];exact F2 t j Y' t2 Y' h3
   .rw[out i (.inr Y'),out j (.inr Y')];exact ub i j Y' h2 h3
 .rw[at' j];by_cases h1:j<sa;.rw[if_pos h1]
  .rw[if_neg h1,if_neg Y']
theorem Uz{Z:Type}{M:Model}{A:Wp}{E:Value->W1->Prop}{s:W1}{st ar:Z}{Q:PUnit->Z->Prop}(h:Q ⟨⟩ ar):wpS M A E s (set ar:StateT Z Sem PUnit) Q st:=by unfold wpS;rw[StateT.run_set];exact W3 ⟨rfl,h⟩
theorem EW{rk:Keyed->Nat}{arr:Array Keyed}{a b n:Nat}(e:b=a+n)(h:b<=arr.size)(u:Up rk arr a b):Up rk (arr.extract a b) 0 (arr.extract a b).size/\(arr.extract a b).size=n/\(∀i,i<n->kr rk (arr.extract a b) i=kr rk arr (a+i))/\∀x∈arr.extract a b,x∈arr:=by
 cases e;have hs:(arr.extract a (a+n)).size=n:=by rw[Array.size_extract,U2 h,Nat.add_sub_cancel_left]
 have e:∀i,i<n->kr rk (arr.extract a (a+n)) i=kr rk arr (a+i):=λi hi=>gG (by rw[Array.getElem?_extract,if_pos %[U2 h,Nat.add_sub_cancel_left|hi]]);refine⟨λi j k h2 h3=>?_,hs,e,λx hx=>?_⟩;.rw[hs]at h3;rw[e i (Nat.lt_of_le_of_lt h2 h3),e j h3];exact u _ _ (Uo _ _) (Nat.add_le_add_left h2 _) (Nat.add_lt_add_left h3 _)
 .have:x∈(arr.extract a (a+n)).toList:=Array.mem_toList_iff.mpr hx;rw[jk]at this;have:=Qx (Ql this);simpa using this
section
variable{a₀:Array Keyed}{κ:SortKind}{rk:Keyed->Nat}
theorem UA{st:SortSt}{i sa na pw sb nb xQ:Nat}{Q:Bool->SortSt->Prop}(hA:h8 prog w A E s a₀ κ rk)(hB:XL a₀ κ st)(p1:(Wz st)[i]?=some (sa,na,pw))(p2:(Wz st)[i+1]?=some (sb,nb,xQ))(es:sb=sa+na)(a1:0<na)(b1:0<nb)(hz:sb+nb<=a₀.size)(ua:Up rk (Wf st) sa sb)(ub:Up rk (Wf st) sb (sb+nb))(h:∀ar,XL a₀ κ ar->Wz ar=((Wz st).setIfInBounds i (sa,na+nb,pw)).eraseIdxIfInBounds (i+1)->Up rk (Wf ar) sa (sb+nb)->(∀j,j<sa\/sb+nb<=j->(Wf ar)[j]?=(Wf st)[j]?)->Q true ar):wpS 4#0 A E s (mergeAt' i) Q st:=by
 refine Wt (wpS_get ?_);rw[p1,p2];have zz:=hB.size;have hm:∀x∈Wf st,x∈a₀:=λx hx=>hB.mem hx;refine Wt (Uz ?_);have S1:kindOf (JS st (((Wz st).setIfInBounds i (sa,na+nb,pw)).eraseIdxIfInBounds (i+1)))=κ/\Wf (JS st (((Wz st).setIfInBounds i (sa,na+nb,pw)).eraseIdxIfInBounds (i+1)))=Wf st/\Wz (JS st (((Wz st).setIfInBounds i (sa,na+nb,pw)).eraseIdxIfInBounds (i+1)))=((Wz st).setIfInBounds i (sa,na+nb,pw)).eraseIdxIfInBounds (i+1)/\failedOf (JS st (((Wz st).setIfInBounds i (sa,na+nb,pw)).eraseIdxIfInBounds (i+1)))=none:=⟨hB.kind,rfl,rfl,hB.good⟩;show wpS _ _ _ _ _ _ (JS st (((Wz st).setIfInBounds i (sa,na+nb,pw)).eraseIdxIfInBounds (i+1)));revert S1;generalize JS st (((Wz st).setIfInBounds i (sa,na+nb,pw)).eraseIdxIfInBounds (i+1))=st1;intro⟨k1,ar1,pe1,fa1⟩;have EX:XL a₀ κ st1:=⟨%[ar1|hB.perm],k1,fa1⟩;refine n_ (b:=Wf st) (a:=Wf st) (i:=sb) (base:=sa) (n:=na) hA k1 hm hm Y' Y' a1 (by rw[<-es];exact ua) λk c1 e2 e3=>?_;have ek:k+(na-k)=na:=Nat.add_sub_cancel' c1;refine eM (m:=na-k) (λn0=>Wg (h st1 EX pe1 ?_ λj v=>by rw[ar1])) λn0=>?_
 .rw[ar1];intro x y h1 h2 h3;by_cases hy:y<sb;.exact ua x y h1 h2 hy
  .by_cases hx:x<sb;.obtain⟨j,rfl⟩:=Nat.exists_eq_add_of_le h1;exact WF (e2 j Y') (ub sb y (W5 _) Y' h3)
   .exact ub x y Y' h2 h3
 obtain⟨p,ep⟩:∃p,sb=p+1:=⟨sb-1,Y'⟩;have el:sa+k+(na-k)-1=p:=by lia
 refine n_ (b:=Wf st) (a:=Wf st) (i:=sa+k+(na-k)-1) (base:=sb) (n:=nb) (hint:=nb-1) hA k1 hm hm Y' Y' Y' ub λn' d1 f2 f3=>?_;rw[el]at f2 f3;clear el;generalize na-k=d at*;have F1:∀i t,sa<=i->i<sa+k->sa+k<=t->t<sb+nb->kr rk (Wf st) i<=kr rk (Wf st) t:=λi t h1 h2 h3 h4=>by
  by_cases ht:t<sb;.exact ua i t h1 Y' ht
  .obtain⟨j,rfl⟩:=Nat.exists_eq_add_of_le h1;exact WF (e2 j Y') (ub sb t (W5 _) Y' h4)
 have F2:∀t j,sa<=t->t<sb+n'->sb+n'<=j->j<sb+nb->kr rk (Wf st) t<=kr rk (Wf st) j:=λt j h1 h2 h3 h4=>by
  by_cases ht:t<sb;.obtain⟨u,rfl⟩:=Nat.exists_eq_add_of_le (WF (Uo _ _) h3);exact WF (ua t p h1 Y' Y') (f3 u Y' Y')
  .exact ub t j Y' Y' h4
 refine eM (m:=n') (λm0=>Wg (h st1 EX pe1 ?_ λj v=>by rw[ar1])) λm0=>?_
 .rw[ar1];intro x y h1 h2 h3;by_cases hy:y<sb;.exact ua x y h1 h2 hy
  .by_cases hx:x<sb;.exact F2 x y h1 Y' Y' h3
   .exact ub x y Y' h2 h3
 obtain⟨xu,xs,xk,xm⟩:=EW (rk:=rk) (arr:=Wf st) (a:=sa+k) (b:=sb) (n:=d) Y' Y' (ua.sub Y' (W5 _));obtain⟨yu,ys,yk,ym⟩:=EW (rk:=rk) (arr:=Wf st) (a:=sb) (b:=sb+n') rfl Y' (ub.sub (W5 _) Y');have g0:kr rk ((Wf st).extract sb (sb+n')) 0<=kr rk ((Wf st).extract (sa+k) sb) 0:=by rw[xk 0 Y',yk 0 Y'];exact e3 k (W5 _) Y'
 have gl:∀j,j<((Wf st).extract sb (sb+n')).size->kr rk ((Wf st).extract sb (sb+n')) j<=kr rk ((Wf st).extract (sa+k) sb) (((Wf st).extract (sa+k) sb).size-1):=λj hj=>by rw[ys]at hj;rw[xs,xk _ Y',yk j hj,show sa+k+(d-1)=p by lia];exact f2 j hj
 dsimp-zeta only;extract_lets-underBinder x y jp;have HJ:∀(M:Array Keyed)bH,Sm st1 bH->MR rk ((Wf st).extract (sa+k) sb) ((Wf st).extract sb (sb+n')) M->wpS 4#0 A E s (jp M) Q bH:=by
  intro M bH S2 hM;have hs:sa+k+M.size=sb+n':=by have:=hM.pm.length_eq;simp only[Wy,WY,xs,ys]at this;lia
  have e2:Wf bH=Wf st:=S2.a.trans ar1;refine Wt (wpS_modify (Wt (wpS_get ?_)));have W:=EU (sa+k) M.toList 0 (Wf st) Zx;obtain⟨r1,r2,r3⟩:=Uy (rk:=rk) (arr':=(M.toList.zipIdx 0).foldl (λa(x:Keyed×Nat)=>a.setIfInBounds (sa+k+x.2) x.1) (Wf st)) (sa0:=sa) (nb:=nb) hM (by rw[W,Nat.add_zero,WY,hs]) hs (Uo _ _) Y' d1 Y' ua ub F1 F2;have go:=h (setArr bH ((M.toList.zipIdx 0).foldl (λa(x:Keyed×Nat)=>a.setIfInBounds (sa+k+x.2) x.1) (Wf bH))) (by rw[e2];exact⟨r1.trans hB.perm,S2.k.trans k1,S2.f.trans fa1⟩) (S2.p.trans pe1) %[e2|r2] %[e2|r3];have ft:(failedOf bH).isNone=true:=by rw[S2.f,fa1];rfl
  have:=Wg (M:=4#0) (A:=A) (E:=E) (s:=s) (a:=true) (Q:=Q) go;show wpS _ _ _ _ (pure (failedOf bH).isNone) Q _;rw[ft];exact this
 clear_value jp;refine h_ (λhle=>?_) λhle=>?_;.exact Wt (m:=EN ((Wf st).extract (sa+k) sb) ((Wf st).extract sb (sb+n'))) (Uu hA k1 (λx hx=>hm x (xm x hx)) (λx hx=>hm x (ym x hx)) Y' Y' xu yu g0 gl λr bH S2 hr=>HJ r bH S2 hr)
 .exact Wt (m:=EO ((Wf st).extract (sa+k) sb) ((Wf st).extract sb (sb+n'))) (Uw hA k1 (λx hx=>hm x (xm x hx)) (λx hx=>hm x (ym x hx)) Y' Y' xu yu g0 gl λr bH S2 hr=>HJ r bH S2 hr)
end
end Lake.SM
namespace Lake.SM
open PySem.W
def gm(rk:Keyed->Nat)(xs:Array Keyed):List (Nat×Nat×Nat)->Nat->Nat->Prop|[],a,b=>a=b|t::r,a,b=>t.1=a/\0<t.2.1/\Up rk xs a (a+t.2.1)/\gm rk xs r (a+t.2.1) b
theorem ur{rk:Keyed->Nat}{xs:Array Keyed}:∀(l1 l2:List (Nat×Nat×Nat))(a b:Nat),gm rk xs (l1++l2) a b↔∃c,gm rk xs l1 a c/\gm rk xs l2 c b|[],l2,a,b=>⟨λh=>⟨a,rfl,h⟩,λ⟨c,h1,h2⟩=>by cases h1;exact h2⟩|t::r,l2,a,b=>by show t.1=a/\0<t.2.1/\Up rk xs a (a+t.2.1)/\gm rk xs (r++l2) (a+t.2.1) b↔_;rw[ur r l2];exact⟨λ⟨h1,h2,h3,c,h4,h5⟩=>⟨c,⟨h1,h2,h3,h4⟩,h5⟩,λ⟨c,⟨h1,h2,h3,h4⟩,h5⟩=>⟨h1,h2,h3,c,h4,h5⟩⟩
theorem qu{rk:Keyed->Nat}{xs:Array Keyed}:∀(l:List (Nat×Nat×Nat))(a b:Nat),gm rk xs l a b->a+l.length<=b|[],a,b,h=>by cases h;simp|t::r,a,b,⟨_,h2,_,h4⟩=>by have:=qu r _ _ h4;simp;lia
theorem uu{rk:Keyed->Nat}{xs ys:Array Keyed}:∀(l:List (Nat×Nat×Nat))(a b:Nat),(∀j,a<=j->j<b->ys[j]?=xs[j]?)->gm rk xs l a b->gm rk ys l a b|[],a,b,_,h=>h|t::r,a,b,e,⟨h1,h2,h3,h4⟩=>by have:=qu r _ _ h4;refine⟨h1,h2,λi j x y z=>?_,uu r _ _ (λj h5 h6=>e j Y' h6) h4⟩;rw[gG (rk:=rk) (e i Y' Y'),gG (rk:=rk) (e j Y' Y')];exact h3 i j x y z
theorem EY{rk:Keyed->Nat}{xs:Array Keyed}:∀(l m:List (Nat×Nat×Nat))(a b:Nat),l.map (λt=>(t.1,t.2.1))=m.map (λt=>(t.1,t.2.1))->gm rk xs l a b->gm rk xs m a b|[],[],a,b,_,h=>h|[],_::_,_,_,e,_=>by simp at e|_::_,[],_,_,e,_=>by simp at e|t::l,u::m,a,b,e,⟨h1,h2,h3,h4⟩=>by simp only[Wj,JF,Prod.mk.injEq]at e;obtain⟨⟨e1,e2⟩,e3⟩:=e;rw[e2]at h2 h3 h4;exact⟨e1▸h1,h2,h3,EY l m _ _ e3 h4⟩
theorem UB{α:Type}{l:List α}{i:Nat}(h:i+1<l.length):∃l1 x y l2,l=l1++x::y::l2/\l1.length=i/\l[i]?=some x/\l[i+1]?=some y:=by refine⟨l.take i,l[i],l[i+1],l.drop (i+2),?_,by simp;lia,#v[show i<l.length by lia],#v[h]⟩;rw[<-QG h,<-QG Y',List.take_append_drop]
section
variable{a₀:Array Keyed}{κ:SortKind}{rk:Keyed->Nat}
theorem EZ{st:SortSt}{i lo:Nat}{Q:Bool->SortSt->Prop}(hA:h8 prog w A E s a₀ κ rk)(hB:XL a₀ κ st)(hs:gm rk (Wf st) (Wz st).toList 0 lo)(hz:lo<=a₀.size)(hi:i+1<(Wz st).size)(h:∀ar,XL a₀ κ ar->gm rk (Wf ar) (Wz ar).toList 0 lo->(Wz ar).size+1=(Wz st).size->(∀j,lo<=j->(Wf ar)[j]?=(Wf st)[j]?)->Q true ar):wpS 4#0 A E s (mergeAt' i) Q st:=by
 obtain⟨l1,⟨sa,na,pw⟩,⟨sb,nb,xQ⟩,l2,el,hl,e1,e2⟩:=UB (l:=(Wz st).toList) (i:=i) (~~~hi);rw[el,ur]at hs;obtain⟨c,s1,s2⟩:=hs;obtain⟨x1,x2,x3,x4⟩:=s2;obtain⟨y1,y2,y3,y4⟩:=x4;have z1:=qu _ _ _ s1;have z2:=qu _ _ _ y4;simp only at x1 x2 x3 y1 y2 y3 y4 z2;subst x1;subst y1;rw[Qh]at e1 e2;refine UA hA hB e1 e2 rfl x2 y2 Y' x3 y3 λar B' P' U' K'=>?_;have ep:(Wz ar).toList=l1++(sa,na+nb,pw)::l2:=by
  rw[P'];have q:((Wz st).setIfInBounds i (sa,na+nb,pw)).toList=l1++(sa,na+nb,pw)::(sa+na,nb,xQ)::l2:=by rw[Array.toList_setIfInBounds,el,List.set_append_right _ _ Y',hl];simp
  have hlen:i+1<((Wz st).setIfInBounds i (sa,na+nb,pw)).size:= ~~~hi;rw[Array.eraseIdxIfInBounds,dif_pos hlen,Array.toList_eraseIdx,q,List.eraseIdx_append_of_length_le Y',hl,show i+1-i=1 by lia];rfl
 refine h ar B' ?_ ?_ λj hj=>K' j (.inr Y')
 .rw[ep,ur];refine⟨sa,uu _ _ _ (λj k h2=>K' j (.inl h2)) s1,rfl,by simp only;lia,?_,?_⟩;.simp only;rw[<-Jp];exact U'
  .simp only;rw[<-Jp];exact uu _ _ _ (λj h1 k=>K' j (.inr Y')) y4
 .rw[<-WY,<-WY,ep,el];simp;lia
theorem UC(c:Prop)[Decidable c]{a b n:Nat}(h1:a+1<n)(h2:b+1<n):(if c then a else b)+1<n:=by split<;>assumption
theorem E1{α β:Type}(g:α->β)(f:α->α)(h:∀t,g (f t)=g t):∀(l:List α)(k:Nat),(l.modify k f).map g=l.map g|[],k=>by simp|t::l,0=>#v[h]|t::l,k+1=>#v[E1 g f h l k]
structure At(a₀:Array Keyed)(κ:SortKind)(rk:Keyed->Nat)(lo:Nat)(st:SortSt):Prop where
 b:XL a₀ κ st
 g:gm rk (Wf st) (Wz st).toList 0 lo
theorem At.keep{lo:Nat}{st ar:SortSt}(a:At a₀ κ rk lo st)(k:dU a₀ κ lo st ar):At a₀ κ rk lo ar:=⟨k.sb,%[k.pd|uu _ _ _ (λj y h=>k.at' j h) a.g]⟩
theorem At.push{lo n pw:Nat}{st:SortSt}(a:At a₀ κ rk lo st)(n0:0<n)(u:Up rk (Wf st) lo (lo+n)):At a₀ κ rk (lo+n) (JS st ((Wz st).push (lo,n,pw))):=⟨⟨a.b.perm,a.b.kind,a.b.good⟩,by show gm rk (Wf st) ((Wz st).push (lo,n,pw)).toList 0 (lo+n);rw[Array.toList_push,ur];exact⟨lo,a.g,rfl,n0,u,rfl⟩⟩
theorem UD{st:SortSt}{Q:Unit->SortSt->Prop}(hA:h8 prog w A E s a₀ κ rk)(hB:XL a₀ κ st)(hp:Wz st=#[])(h2:2<=a₀.size)(h:∀ar,XL a₀ κ ar->Up rk (Wf ar) 0 a₀.size->Q () ar):wpS 4#0 A E s sortRuns' Q st:=by
 rw[sortRuns'_eq];refine Wt (wpS_get ?_);rw[hB.size];refine Wt (J1 (QI (I:=λx c ar=>∃lo,c=(none,lo)/\x<=lo/\lo<=a₀.size/\At a₀ κ rk lo ar) (Q:=λc ar=>c=(none,a₀.size)/\At a₀ κ rk a₀.size ar) ?step ?fin ⟨0,rfl,W5 _,Q2 _,hB,by rw[hp];rfl⟩) ?post);case fin=>
  rintro c ar⟨lo,rfl,l1,l2,a⟩;have:lo=a₀.size:=by lia
  subst this;exact⟨rfl,a⟩
 case step=>
  rintro x c ar _ hx⟨lo,rfl,l1,l2,a⟩;show wpS _ _ _ _ (if lo≥a₀.size then _ else _) _ ar;by_cases pe:lo≥a₀.size
  .rw[if_pos pe];have:lo=a₀.size:=by lia
   subst this;exact Wg ⟨rfl,a⟩
  rw[if_neg pe];refine Wt (T5 hA Y' Y' a.b λm bH K2 m1 m2 u2=>?_);have a2:=a.keep K2;dsimp-zeta only;extract_lets-underBinder n jp;have HJ:∀(n:Nat)bq,At a₀ κ rk lo bq->1<=n->lo+n<=a₀.size->Up rk (Wf bq) lo (lo+n)->wpS 4#0 A E s (jp () n) (λr ar=>match r with|.done c'=>c'=(none,a₀.size)/\At a₀ κ rk a₀.size ar|.yield c'=>∃lo,c'=(none,lo)/\x+1<=lo/\lo<=a₀.size/\At a₀ κ rk lo ar) bq:=by intro n bq a3 n1 n2 u3;refine Wt (wpS_get ?_);cases hb:(Wz bq).back? with|none=>show wpS _ _ _ _ (modify _>>=_) _ bq;exact Wt (wpS_modify (Wg ⟨lo+n,rfl,Y',n2,a3.push n1 u3⟩))|some t=>
    obtain⟨s1,n1',z⟩:=t;have np:0<(Wz bq).size:=by
     rcases Nat.eq_zero_or_pos (Wz bq).size with e|e;.rw[Array.eq_empty_of_size_eq_zero e]at hb;simp at hb
     .exact e
    show wpS _ _ _ _ (forIn [:a₀.size] (none,()) _>>=_) _ bq;refine Wt (J1 (QI (I:=λy c bL=>c=(none,())/\At a₀ κ rk lo bL/\Up rk (Wf bL) lo (lo+n)/\0<(Wz bL).size) (Q:=λc bL=>c=(none,())/\At a₀ κ rk lo bL/\Up rk (Wf bL) lo (lo+n)/\0<(Wz bL).size) ?mstep (λk k hh=>hh) ⟨rfl,a3,u3,np⟩) ?mpost);case mstep=>
     rintro y c bL _ hy⟨rfl,a4,u4,p4⟩;refine Wt (wpS_get ?_);dsimp only;by_cases hp:(Wz bL).size>1
     .rw[if_pos hp];have bz:(Wz bL).size-2<(Wz bL).size:=by lia
      rw[getElem?_pos (Wz bL) ((Wz bL).size-2) bz];generalize(Wz bL)[(Wz bL).size-2]=t;obtain⟨t1,t2,t3⟩:=t;dsimp only;split;.exact Wg ⟨rfl,a4,u4,p4⟩
      .refine Wt (EZ hA a4.b a4.g l2 Y' λgu b5 g5 z5 k5=>?_);refine Wg ⟨rfl,⟨b5,g5⟩,λi j h1 h2 h3=>?_,Y'⟩;rw[gG (rk:=rk) (k5 i h1),gG (rk:=rk) (k5 j Y')];exact u4 i j h1 h2 h3
     .rw[if_neg hp];exact Wg ⟨rfl,a4,u4,p4⟩
    case mpost=>rintro c bL⟨rfl,a4,u4,p4⟩;refine Wt (wpS_modify ?_);have a5:At a₀ κ rk lo (JS bL ((Wz bL).modify ((Wz bL).size-1) λx=>(x.1,x.2.1,power' a₀.size (2*s1+n1') (2*s1+n1'+n1'+n) a₀.size))):=⟨⟨a4.b.perm,a4.b.kind,a4.b.good⟩,by show gm rk (Wf bL) ((Wz bL).modify _ _).toList 0 lo;refine EY _ _ _ _ ?_ a4.g;rw[Array.toList_modify];exact(E1 (λt:Nat×Nat×Nat=>(t.1,t.2.1)) (λx=>(x.1,x.2.1,power' a₀.size (2*s1+n1') (2*s1+n1'+n1'+n) a₀.size)) (λt=>rfl) _ _).symm⟩;exact Wt (wpS_modify (Wg ⟨lo+n,rfl,Y',n2,a5.push n1 u4⟩))
  clear_value jp;show wpS _ _ _ _ (if m<minRun' a₀.size a₀.size 0 then _ else _) _ bH;by_cases hm:m<minRun' a₀.size a₀.size 0;.rw[if_pos hm];refine Wt (wpS_lift (QF ⟨rfl,?_⟩));refine Wt (T6 hA Y' m1 Y' K2.sb u2 λbq K3 u3=>?_);exact J1 (HJ _ bq (a2.keep K3) Y' Y' u3) λr ar hr=>by cases r<;>exact hr
  .rw[if_neg hm];exact J1 (HJ _ bH a2 m1 Y' u2) λr ar hr=>by cases r<;>exact hr
 case post=>
  rintro c ar⟨rfl,a⟩;show wpS _ _ _ _ (forIn [:a₀.size] (none,()) _>>=_) Q ar;refine Wt (J1 (QI (I:=λx c bH=>c=(none,())/\At a₀ κ rk a₀.size bH/\((Wz bH).size+x<=a₀.size\/(Wz bH).size<=1)) (Q:=λc bH=>c=(none,())/\At a₀ κ rk a₀.size bH/\(Wz bH).size<=1) ?lstep ?lfin ⟨rfl,a,.inl (by have:=qu _ _ _ a.g;simpa using this)⟩) ?lpost);case lfin=>rintro c bH⟨rfl,a2,o⟩;exact⟨rfl,a2,Y'⟩
  case lstep=>
   rintro x c bH _ hx⟨rfl,a2,o⟩;refine Wt (wpS_get ?_);show wpS _ _ _ _ (if(Wz bH).size<=1 then _ else _) _ bH;by_cases hp:(Wz bH).size<=1;.rw[if_pos hp];exact Wg ⟨rfl,a2,hp⟩
   .rw[if_neg hp];refine Wt (EZ hA a2.b a2.g (W5 _) ?_ λgu b5 g5 z5 k5=>?_);.exact UC _ Y' Y'
    .exact Wg ⟨rfl,⟨b5,g5⟩,Y'⟩
  case lpost=>rintro c bH⟨rfl,a2,o⟩;refine Wg (h bH a2.b ?_);have g:=a2.g;rw[<-WY]at o;match hl:(Wz bH).toList,g,o with|[],g,_=>have:0=a₀.size:=g;lia|[t],g,_=>obtain⟨g1,g2,g3,g4⟩:=g;have g4:0+t.2.1=a₀.size:=g4;rw[g4]at g3;exact g3|_::_::_,_,o=>simp at o
end
end Lake.SM
namespace Lake.SM
open PySem.W
theorem UE{α β:Type}(f:α->β){l' m:List β}(h:l'.Perm m):∀l:List α,m=l.map f->∃l'':List α,l''.Perm l/\l'=l''.map f:=by induction h with
 |nil=>intro l e;cases l with|nil=>exact⟨[],.refl _,rfl⟩|cons a l=>simp at e
 |cons x p ih=>intro l e;cases l with|nil=>simp at e|cons a l=>simp only[Wj,JF]at e;obtain⟨l'',p',e'⟩:=ih l e.2;exact⟨a::l'',p'.cons a,by rw[Wj,<-e',e.1]⟩
 |swap x y t=>intro l e;match l,e with|[],e=>simp at e|[_],e=>simp at e|a::b::r,e=>simp only[Wj,JF]at e;exact⟨b::a::r,.swap a b r,#v[e.1,e.2.1,e.2.2]⟩
 |trans p q ih1 ih2=>intro l e;obtain⟨l2,p2,e2⟩:=ih2 l e;obtain⟨l3,p3,e3⟩:=ih1 l2 e2;exact⟨l3,p3.trans p2,e3⟩
theorem E2{α:Type}(l:List α)(d:α):(Wl l.length).map (λi=>l.getD i d)=l:=by
 apply J5;intro i;by_cases hi:i<l.length;.simp[hi]
 .simp[hi]
theorem E3{α:Type}:∀l:List α,l.zip l=l.map λv=>(v,v)|[]=>rfl|a::l=>by rw[List.zip_cons_cons,E3 l];rfl
noncomputable def rkV(vs:List Value)(r:Nat->Nat)(x:Keyed):Nat:=by classical exact if h:∃i,i<vs.length/\vs.getD i Value.none=x.1 then r h.choose else 0
section
variable{κ:SortKind}
theorem UG{vs:List Value}{r:Nat->Nat}(h2:2<=vs.length)(hf:∀i j,i<vs.length->j<vs.length->vs.getD i Value.none=vs.getD j Value.none->r i=r j)(ha:∀i j,i<vs.length->j<vs.length->∀C:Bool->W1->Prop,C (decide (r i<r j)) s->kas_ask prog w A κ vs i j C s):W8 4#0 A (sortRuns'.run (SortSt.mk' κ (vs.toArray.zip vs.toArray) #[] 7 none)) (λq s'=>s'=s/\failedOf q.2=none/\∃ord:List Nat,ord.Perm (Wl vs.length)/\(Wf q.2).map (·.2)=Ua (ord.map λi=>vs.getD i Value.none)/\ord.Pairwise λi j=>r i<=r j) E s:=by
 have hr:∀i,i<vs.length->rkV vs r (vs.getD i Value.none,vs.getD i Value.none)=r i:=λi hi=>by unfold rkV;have h:∃j,j<vs.length/\vs.getD j Value.none=vs.getD i Value.none:=⟨i,hi,rfl⟩;rw[dif_pos h];exact hf _ _ h.choose_spec.1 hi h.choose_spec.2
 have el:(vs.toArray.zip vs.toArray).toList=(Wl vs.length).map λi=>((vs.getD i Value.none,vs.getD i Value.none):Keyed):=by
  have:(vs.toArray.zip vs.toArray).toList=vs.map λv=>((v,v):Keyed):=by rw[Array.toList_zip];exact E3 vs
  rw[this];conv=>lhs;rw[<-E2 vs Value.none]
  rw[Q9];rfl
 have mem:∀x,x∈vs.toArray.zip vs.toArray->∃i,i<vs.length/\x=(vs.getD i Value.none,vs.getD i Value.none):=λx hx=>by have hx:x∈(vs.toArray.zip vs.toArray).toList:=Array.mem_toList_iff.mpr hx;rw[el]at hx;obtain⟨i,hi,e⟩:=WH.mp hx;exact⟨i,~~~hi,e.symm⟩
 have hz:(vs.toArray.zip vs.toArray).size=vs.length:=by simp
 have hA:h8 prog w A E s (vs.toArray.zip vs.toArray) κ (rkV vs r):=by intro x y st Q hx hy hk hq;obtain⟨i,hi,rfl⟩:=mem x hx;obtain⟨j,hj,rfl⟩:=mem y hy;rw[lt'_eq];refine Wt (wpS_get ?_);rw[hk];refine Wt (wpS_lift (wpAny_attempt (Q7 (ha i j hi hj (λc s'=>c=decide (r i<r j)/\s'=s) ⟨rfl,rfl⟩) (λc s' hc=>?_) λk k hF=>hF.elim)));obtain⟨rfl,rfl⟩:=hc;refine⟨rfl,Wg ?_⟩;rw[hr i hi,hr j hj]at hq;exact hq
 refine Q7 (UD (E:=E) hA (st:=SortSt.mk' κ (vs.toArray.zip vs.toArray) #[] 7 none) (Q:=λk ar=>failedOf ar=none/\∃ord:List Nat,ord.Perm (Wl vs.length)/\(Wf ar).map (·.2)=Ua (ord.map λi=>vs.getD i Value.none)/\ord.Pairwise λi j=>r i<=r j) ⟨.refl _,rfl,rfl⟩ rfl %[hz|h2] λar hB u=>⟨hB.good,?_⟩) (λq s' hq=>hq) λk k e=>e;obtain⟨ord,p,e⟩:=UE (λi=>((vs.getD i Value.none,vs.getD i Value.none):Keyed)) (Array.perm_iff_toList_perm.mp hB.perm) _ el;refine⟨ord,p,?_,?_⟩;.apply Array.toList_inj.mp;rw[Array.toList_map,e,Q9];rfl
 .have hs:(Wf ar).size=(vs.toArray.zip vs.toArray).size:=hB.size;have u':=qq (rk:=rkV vs r) (a:=Wf ar) %[hs|u];rw[e,JK]at u';refine u'.imp_of_mem λ{i j}hi hj n8=>?_;have hi:i<vs.length:=by simpa using p.mem_iff.mp hi
  have hj:j<vs.length:=by simpa using p.mem_iff.mp hj
  rw[hr i hi,hr j hj]at n8;exact n8
end
theorem E4{α:Type}{p q:α->Bool}:∀(l:List α),(∀x∈l,p x=true->q x=true)->l.countP p<=l.countP q|l,h=>List.countP_mono_left λx hx=>h x hx
theorem E5{α:Type}{p q:α->Bool}:∀(l:List α),(∀x∈l,p x=true->q x=true)->(∃x∈l,q x=true/\p x=false)->l.countP p<l.countP q
 |[],_,h=>by obtain⟨_,h,_⟩:=h;simp at h|a::l,h,⟨x,hx,h1,h2⟩=>by
  rw[List.countP_cons,List.countP_cons];rcases Wi.mp hx with rfl|hx;.have:=E4 l λy hy=>h y (Wh _ hy);rw[h1,h2];simp;lia
  .have:=E5 l (λy hy=>h y (Wh _ hy)) ⟨x,hx,h1,h2⟩;have h3:=h a WA;cases hp:p a with|true=>rw[h3 hp];simp;lia|false=>cases q a<;>simp<;>lia
theorem E6{α:Type}{lt:α->α->Bool}(as:∀a b,lt a b=true->lt b a=false)(tr:∀a b c,lt a b=false->lt b c=false->lt a c=false){l:List α}{a b:α}(ha:a∈l):lt a b=decide (l.countP (λz=>lt z a)<l.countP λz=>lt z b):=by cases h:lt a b with
 |true=>
 symm;rw[decide_eq_true_eq];refine E5 l (λz j hz=>?_) ⟨a,ha,h,?_⟩;.cases e:lt z b with|true=>rfl|false=>rw[tr z b a e (as a b h)]at hz;exact hz
 .cases e:lt a a with|false=>rfl|true=>exact absurd (as a a e) (by rw[e];decide)
 |false=>symm;rw[decide_eq_false_iff_not,Nat.not_lt];refine E4 l λz j hz=>?_;cases e:lt z a with|true=>rfl|false=>rw[tr z a b e h]at hz;exact hz
end Lake.SM
namespace Lake.SO
open Lake.SM PySem.W
def ltL:List Tx->List Tx->Bool|[],[]=>false|[],_::_=>true|_::_,[]=>false|a::x,b::y=>if a=b then ltL x y else decide (a<b)
def z1N:List Value->List Tx->Prop|[],[]=>True|v::vs,x::xs=>(∃t,v=Value.str (toS x) t)/\z1N vs xs|_,_=>False
structure lM(h:Heap)(vs:List Value)(ks:List (List Tx)):Prop where
 len:ks.length=vs.length
 at':∀i v,vs[i]?=some v->ks.getD i []≠[]/\∃b o xs m,v=.ref b/\h.get? b=some o/\o.cls=.type "tuple"/\o.data=.seq xs m/\z1N xs.toList (ks.getD i [])
theorem lM.keeps{h h':Heap}{vs:List Value}{ks:List (List Tx)}(t:lM h vs ks)(k:∀b o,h.get? b=some o->o.cls=.type "tuple"->h'.get? b=some o):lM h' vs ks:=⟨t.len,λi v e=>by obtain⟨e0,b,o,xs,m,e1,e2,e3,r⟩:=t.at' i v e;exact⟨e0,b,o,xs,m,e1,k b o e2 e3,e3,r⟩⟩
theorem E7{h:Heap}:∀{vs:List Value}{ks:List (List Tx)},lM h vs ks->∃fs,KatTups h vs fs/\fs.length=vs.length/\∀v∈fs,∃x t,v=Value.str x t
 |[],ks,t=>⟨[],trivial,rfl,λv h=>by simp at h⟩|v::vs,[],t=>by have:=t.len;simp at this|v::vs,k::ks,t=>by
  obtain⟨fs,a,b,c⟩:=E7 (vs:=vs) (ks:=ks) ⟨by have:=t.len;simpa using this,λi v e=>by have:=t.at' (i+1) v (~~~e);simpa using this⟩;obtain⟨e0,x,o,xs,m,rfl,e2,e3,e4,e5⟩:=t.at' 0 v rfl;have e5:z1N xs.toList k:=e5;have e0:k≠[]:=e0;obtain⟨z,tk,h0⟩:∃z tk,xs[0]?=some (Value.str z tk):=by cases k with|nil=>exact absurd rfl e0|cons y k=>cases hx:xs.toList with|nil=>rw[hx]at e5;exact e5.elim|cons u r=>
     rw[hx]at e5;obtain⟨tk,eu⟩:=e5.1;refine⟨toS y,tk,?_⟩;rw[<-eu];have:xs.toList[0]?=some u:=by rw[hx];rfl
     simpa using this
  exact⟨_::fs,⟨⟨x,o,xs,m,rfl,e2,e3,e4,h0⟩,a⟩,#v[b],λv hv=>by
 rcases Wi.mp hv with rfl|hv;.exact⟨_,_,rfl⟩
 .exact c v hv⟩
theorem xR{a b:Tx}(h:¬a<b)(e:a≠b):b<a:=by
 have h1:=List.not_lt.mp h;by_cases z:b<a;.exact z
 .exact absurd (List.le_antisymm (List.not_lt.mp z) h1) e
theorem ko:∀x y:List Tx,ltL x y=true->ltL y x=false
 |[],[],h=>by cases h|[],_::_,_=>rfl|_::_,[],h=>by cases h|a::x,b::y,h=>by
  have h:(if a=b then ltL x y else decide (a<b))=true:=h;show(if b=a then ltL y x else decide (b<a))=false;by_cases e:a=b;.rw[if_pos e]at h;rw[if_pos e.symm];exact ko x y h
  .rw[if_neg e,decide_eq_true_eq]at h;rw[if_neg (Ne.symm e),decide_eq_false_iff_not];exact List.lt_asymm h
theorem qv:∀x y z:List Tx,ltL x y=false->ltL y z=false->ltL x z=false
 |[],[],z,_,h=>h|[],_::_,_,h,_=>by cases h|_::_,_,[],_,_=>rfl|_::_,[],_::_,_,h=>by cases h|a::x,b::y,c::z,h1,h2=>by
  have h1:(if a=b then ltL x y else decide (a<b))=false:=h1;have h2:(if b=c then ltL y z else decide (b<c))=false:=h2;show(if a=c then ltL x z else decide (a<c))=false;by_cases e1:a=b
  .subst e1;rw[if_pos rfl]at h1;by_cases e2:a=c;.rw[if_pos e2]at h2⊢;exact qv x y z h1 h2
   .rw[if_neg e2]at h2⊢;exact h2
  .rw[if_neg e1,decide_eq_false_iff_not]at h1;by_cases e2:b=c;.subst e2;rw[if_neg e1,decide_eq_false_iff_not];exact h1
   .rw[if_neg e2,decide_eq_false_iff_not]at h2;have l1:=xR h1 e1;have l2:=xR h2 e2;have l3:c<a:=List.lt_trans l2 l1;have e3:a≠c:=λe=>by rw[e]at l3;exact List.lt_irrefl _ l3
    rw[if_neg e3,decide_eq_false_iff_not];exact List.lt_asymm l3
theorem uv:∀x y:List Tx,ltL x y=false->ltL y x=false->x=y
 |[],[],_,_=>rfl|[],_::_,h,_=>by cases h|_::_,[],_,h=>by cases h|a::x,b::y,h1,h2=>by
  have h1:(if a=b then ltL x y else decide (a<b))=false:=h1;have h2:(if b=a then ltL y x else decide (b<a))=false:=h2;by_cases e:a=b;.rw[if_pos e]at h1;rw[if_pos e.symm]at h2;rw[e,uv x y h1 h2]
  .rw[if_neg e,decide_eq_false_iff_not]at h1;rw[if_neg (Ne.symm e),decide_eq_false_iff_not]at h2;exact absurd (xR h1 e) h2
def eC(ks:List (List Tx)):List (List Tx):=ks.mergeSort λa b=>!ltL b a
theorem mZ(ks:List (List Tx)):(eC ks).Perm ks:=List.mergeSort_perm _ _
theorem xS(ks:List (List Tx)):(eC ks).Pairwise λa b=>ltL b a=false:=by have:=List.pairwise_mergeSort (le:=λa b:List Tx=>!ltL b a) (λa b c h1 h2=>by simp only[JI]at*;exact qv c b a h2 h1) λa b=>by cases h:ltL b a with|false=>rfl|true=>rw[ko b a h];rfl ks;refine this.imp λh=>?_;simpa using h
theorem uw{l ks:List (List Tx)}(p:l.Perm ks)(u:l.Pairwise λa b=>ltL b a=false):l=eC ks:=List.Perm.eq_of_pairwise (λa b j j h1 h2=>uv a b h2 h1) u (xS ks) (p.trans (mZ ks).symm)
theorem UH{α:Type}{R:α->α->Prop}:∀{l:List α},l.length<2->l.Pairwise R|[],_=>.nil|[_],_=>List.pairwise_singleton _ _|_::_::_,h=>by simp at h;lia
theorem UI{ks:List (List Tx)}(h:ks.length<2):eC ks=ks:=(uw (.refl _) (UH h)).symm
theorem E8:∀{vs:List Value}{x y:List Tx},z1N vs x->z1N vs y->x=y
 |[],[],[],_,_=>rfl|v::vs,a::x,b::y,⟨⟨t,e⟩,h1⟩,⟨⟨u,f⟩,h2⟩=>by
  rw[e]at f;have:toS a=toS b:=by cases f;rfl
  rw[nH this,E8 h1 h2]|[],_::_,_,h,_=>h.elim|[],_,_::_,_,h=>h.elim|_::_,[],_,h,_=>h.elim|_::_,_,[],_,h=>h.elim
section
variable{vs:List Value}{κ:SortKind}{T:Heap->Prop}{r:Nat->Nat}
structure xT(prog:Wk)(w:Wx)(A:Wp)(vs:List Value)(κ:SortKind)(T:Heap->Prop)(r:Nat->Nat):Prop where
 keep:∀{h h':Heap},T h->(∀b o,h.get? b=some o->o.cls=.type "tuple"->h'.get? b=some o)->T h'
 kind:∀(E:Value->W1->Prop)(s:W1)(Q:SortKind->W1->Prop),T s.heap->Q κ s->W8 4#0 A (keyKind' vs.toArray) Q E s
 ask:∀s:W1,T s.heap->∀i j,i<vs.length->j<vs.length->∀C:Bool->W1->Prop,C (decide (r i<r j)) s->kas_ask prog w A κ vs i j C s
 one:∀i j,i<vs.length->j<vs.length->vs.getD i Value.none=vs.getD j Value.none->r i=r j
theorem UJ{a:Addr}{n:Nat}{P:PySem.Fin->W1->Prop}(G:xT prog w A vs κ T r)(ho:s.heap.get? a=some (Q3 "list" vs.toArray n))(t:T s.heap)(h2:2<=vs.length)(hb:vs.length<=1000000)(h:∀ord:List Nat,ord.Perm (Wl vs.length)->(ord.Pairwise λi j=>r i<=r j)->P (.done (.ret .none)) 9#(sortedHeap s.heap a vs (Ua (ord.map λi=>vs.getD i Value.none)))):W8 4#0 A (Builtin.«list.sort» ⟨[.ref a],[]⟩) P E s:=by
 have bz:a<s.heap.objs.size:=Wm ho;obtain⟨e1,ho1⟩:∃e1,(s.heap.update a (Obj.mapSeq λk=>(#[]:Array Value))).get? a=some (Q3 "list" #[] e1):=⟨_,get?_update_seq ho λk=>#[]⟩;rw[list_sort_plain];refine W0 (listItems_at ho rfl (W0 (listUpdate_at ho rfl (W0 (seqEpoch_at ho1 rfl (W0 (wpAny_newTuple (W0 (wpAny_newList (WP ?_) (Q2 _))) (by show vs.length<=_;rw[Qi];lia))))) (by rw[We,Qi];lia) (Q2 _))));show W8 4#0 A _ P E 9#(((s.heap.update a (Obj.mapSeq λk=>(#[]:Array Value))).push (Q3 "tuple" vs.toArray 0)).push (Q3 "list" #[] 0));have h6:(((s.heap.update a (Obj.mapSeq λk=>(#[]:Array Value))).push (Q3 "tuple" vs.toArray 0)).push (Q3 "list" #[] 0)).get? a=some (Q3 "list" #[] e1):=W6 _ (W6 _ ho1);have t6:T (((s.heap.update a (Obj.mapSeq λk=>(#[]:Array Value))).push (Q3 "tuple" vs.toArray 0)).push (Q3 "list" #[] 0)):=G.keep t λb o e c=>by
  have nb:b≠a:=λz=>by rw[z,ho]at e;cases e;exact absurd (Value.type.inj c) Z'
  refine W6 _ (W6 _ ?_);rw[Qf _ _ (Ne.symm nb)];exact e
 dsimp only;have mh:¬vs.toArray.size<2:=by rw[We];lia
 rw[if_neg mh,if_neg mh];refine W0 (G.kind E 9#(((s.heap.update a (Obj.mapSeq λk=>(#[]:Array Value))).push (Q3 "tuple" vs.toArray 0)).push (Q3 "list" #[] 0)) _ t6 ?_);refine W0 (Q7 (UG (s:=9#(((s.heap.update a (Obj.mapSeq λk=>(#[]:Array Value))).push (Q3 "tuple" vs.toArray 0)).push (Q3 "list" #[] 0))) (E:=E) h2 G.one (G.ask _ t6)) ?_ λk k e=>e);rintro⟨⟨⟩,ar⟩s'⟨rfl,q2,ord,q3,q1,q4⟩;dsimp only at q1 q2⊢;have hz:(ord.map λi=>vs.getD i Value.none).length=vs.length:=by rw[Wq,q3.length_eq,List.length_range]
 rw[q1];refine W0 (seqEpoch_at h6 rfl (W0 (listUpdate_at h6 rfl ?_ (Q2 _) (by rw[We,hz,Qi];lia))));rw[q2];simp only[bne_self_eq_false,WZ,if_false];exact W3 (h ord q3 q4)
theorem UK{l:Addr}{Q:Value->W1->Prop}(G:xT prog w A.in1.in1 vs κ T r)(hl:s.heap.IsList l vs.toArray)(t:T s.heap)(h2:2<=vs.length)(hb:vs.length<=1000000)(h:∀ord:List Nat,ord.Perm (Wl vs.length)->(ord.Pairwise λi j=>r i<=r j)->Q (.ref (s.heap.objs.size+1)) 9#(sortedAll s.heap vs (Ua (ord.map λi=>vs.getD i Value.none)))):W8 4#0 A (call (.builtin "sorted") [.ref l]) Q E s:=by
 refine Calls.call_function_entry kind_sorted plain_sorted entry_sorted (args_sorted1 _) ?_;unfold Builtin.«sorted»;refine W0 (m:=checkCount "sorted" 1 1 _) (W3 (W0 (collect_list hl (W0 (wpAny_newList ?_ (by rw[Qi];lia))) (by rw[Qi];lia))));have hz:((s.heap.push (Q3 "list" #[] 0)).update s.heap.objs.size (Obj.mapSeq (.++vs.toArray))).objs.size=s.heap.objs.size+1:=by rw[Heap.size_update,size_push']
 have kL:(((s.heap.push (Q3 "list" #[] 0)).update s.heap.objs.size (Obj.mapSeq (.++vs.toArray))).push (Q3 "list" vs.toArray 0)).get? (s.heap.objs.size+1)=some (Q3 "list" vs.toArray 0):=by rw[<-hz];exact Wv _ rfl
 have t2:T (((s.heap.push (Q3 "list" #[] 0)).update s.heap.objs.size (Obj.mapSeq (.++vs.toArray))).push (Q3 "list" vs.toArray 0)):=G.keep t λb o e k=>by have hb:b<s.heap.objs.size:=Wm e;refine W6 _ ?_;rw[Qf _ _ (Nat.ne_of_gt hb)];exact W6 _ e
 show W8 _ _ _ _ _ 9#(((s.heap.push (Q3 "list" #[] 0)).update s.heap.objs.size (Obj.mapSeq (.++vs.toArray))).push (Q3 "list" vs.toArray 0));rw[hz];refine W0 (WP (Qm slot_list_sort ⟨_,kL,rfl⟩ entry_list_sort (UJ (s:=9#(((s.heap.push (Q3 "list" #[] 0)).update s.heap.objs.size (Obj.mapSeq (.++vs.toArray))).push (Q3 "list" vs.toArray 0))) G kL t2 h2 hb λord p1 p2=>⟨_,rfl,?_⟩) (args_list_sort _)));exact W3 ⟨_,rfl,h ord p1 p2⟩
end
section
variable{vs:List Value}
theorem E9{C:Bool->W1->Prop}:∀(us vs:List Value)(x y:List Tx)(i:Nat),z1N us x->z1N vs y->C (ltL x y) s->KatLex prog w A true (decide (us.length<vs.length)) C (us.zip vs) i s
 |[],[],[],[],i,_,_,h=>h|[],v::vs,[],y::ys,i,_,_,h=>kat_nil (by simpa[ltL]using h)|u::us,[],x::xs,[],i,_,_,h=>kat_nil (by simpa[ltL]using h)|u::us,v::vs,x::xs,y::ys,i,hu,hv,h=>by
  obtain⟨⟨t1,rfl⟩,hu⟩:=hu;obtain⟨⟨t2,rfl⟩,hv⟩:=hv;rw[List.zip_cons_cons];refine kat_cons (eqBool_str ?_);by_cases e:x=y
  .have eb:(toS x==toS y)=true:=by rw[e];simp
   rw[eb];refine kat_yes ?_;have hl:decide ((Value.str (toS x) t1::us).length<(Value.str (toS y) t2::vs).length)=decide (us.length<vs.length):=by simp
   rw[hl];refine E9 us vs xs ys (i+1) hu hv ?_;have:ltL (x::xs) (y::ys)=ltL xs ys:=by show(if x=y then _ else _)=_;rw[if_pos e]
   rw[this]at h;exact h
  .have eb:(toS x==toS y)=false:=by rw[beq_eq_false_iff_ne];intro z;exact e (nH z)
   rw[eb];have hl:ltL (x::xs) (y::ys)=decide (x<y):=by show(if x=y then _ else _)=_;rw[if_neg e]
   rw[hl]at h;refine kat_no ?_;cases hb:true&&i==0with|true=>refine oneLt_str ?_;rw[j0,j0];exact h|false=>refine kat_one _ _ (lt_str ?_);rw[j0,j0];exact h
 |[],_,_::_,_,_,hu,_,_=>hu.elim|_::_,_,[],_,_,hu,_,_=>hu.elim|_,[],_,_::_,_,_,hv,_=>hv.elim|_,_::_,_,[],_,_,hv,_=>hv.elim
theorem UL(t:lM s.heap vs ks){i j:Nat}(hi:i<vs.length)(hj:j<vs.length){C:Bool->W1->Prop}(h:C (ltL (ks.getD i []) (ks.getD j [])) s):kas_ask prog w A (tuples' true) vs i j C s:=by obtain⟨_,a,o,xs,m,e1,e2,e3,e4,e5⟩:=t.at' i vs[i] #v[hi];obtain⟨_,b,p,ys,n,f1,f2,f3,f4,f5⟩:=t.at' j vs[j] #v[hj];unfold kas_ask;rw[Wo,Wo,W4 hi,W4 hj];simp only[Jv];rw[e1,f1];refine kat_lt e2 e4 f2 f4 ?_;have:=E9 (prog:=prog) (w:=w) (A:=A) (s:=s) (C:=C) xs.toList ys.toList _ _ 0 e5 f5 h;simpa using this
def ux(ks:List (List Tx))(i:Nat):Nat:=ks.countP λz=>ltL z (ks.getD i [])
theorem UM(h:Heap)(t:lM h vs ks)(h2:2<=vs.length):xT prog w A vs (tuples' true) (λh=>lM h vs ks) (ux ks)where
 keep:=λt k=>t.keeps k
 kind:=λE s Q t h=>by obtain⟨fs,kt,fl,ft⟩:=E7 t;exact kat_kind (T:=.type "str") kt Y' (λv hv=>by obtain⟨x,tk,rfl⟩:=ft v hv;exact .now) rfl h
 ask:=λs t i j hi hj C h=>by
  refine UL t hi hj ?_;have hm:ks.getD i []∈ks:=by have dD:i<ks.length:=%[t.len|hi];rw[Wo,W4 dD];exact WU dD
  rw[E6 ko qv hm];exact h
 one:=λi j hi hj e=>by obtain⟨_,b,o,xs,m,e1,e2,e3,e4,e5⟩:=t.at' i vs[i] #v[hi];obtain⟨_,c,p,ys,n,f1,f2,f3,f4,f5⟩:=t.at' j vs[j] #v[hj];simp only[Wo,W4 hi,W4 hj,Jv]at e;rw[e1,f1]at e;cases e;rw[e2]at f2;cases f2;rw[e4]at f4;cases f4;unfold ux;rw[E8 e5 f5]
theorem UO{n:Nat}(hn:ks.length=n){ord:List Nat}(p:ord.Perm (Wl n))(u:ord.Pairwise λi j=>ux ks i<=ux ks j):(ord.map λi=>ks.getD i [])=eC ks:=by
 refine uw ?_ ?_;.have:=p.map λi=>ks.getD i [];rw[<-hn,E2]at this;exact this
 .rw[JK];refine u.imp_of_mem λ{i j}hi hj n8=>?_;have gH:j<ks.length:=by rw[hn];simpa using p.mem_iff.mp hj
  have hm:ks.getD j []∈ks:=by rw[Wo,W4 gH];exact WU gH
  rw[E6 ko qv hm,decide_eq_false_iff_not,Nat.not_lt];exact n8
end
end Lake.SO
namespace Lake.SO
open Lake.SM PySem.W
theorem xU{H:Hp}{us:List Value}:∀{ws:List V}{x:List Tx},Vals ws us->ws=x.map (λt=>V.str (toS t))->z1N us x:=by intro ws x r e;subst e;induction x generalizing us with
 |nil=>have:=r.length;match us,this with|[],_=>trivial
 |cons t x ih=>cases r with|cons a b=>obtain⟨tk,e⟩:=show∃tk,_=Value.str (toS t) tk from a;exact⟨⟨tk,e⟩,ih b⟩
abbrev xV(K:W2):V->Hp->VK->Prop:=λv H Q=>∃(a:Addr)(vs:List V)(ks:List (List Tx)),v=.ref a/\bN K H a vs/\ks.length=vs.length/\(∀(i:Nat)v,vs[i]?=some v->ks.getD i []≠[]/\∃b ws,v=.ref b/\H b=some (.tup ws)/\ws=(ks.getD i []).map λt=>V.str (toS t))/\2<=vs.length/\vs.length<=1000000/\∀p(ord:List Nat),H p=none->ord.Perm (Wl vs.length)->(ord.map λi=>ks.getD i [])=eC ks->Q (.ref p) (upd H p (.lst (ord.map λi=>vs.getD i .aI)))
theorem UP:cN X (.builtin "sorted") λxs H Q=>∃v,xs=[v]/\xV X.K v H Q:=by
 intro pins s Z H xs us Q I r h;obtain⟨_,rfl,a,vs,ks,rfl,hq,hlen,ht,h2,h64,q⟩:=h;obtain⟨u,rfl,ru⟩:=eN r;cases ru;obtain⟨af,r',p,_⟩:=I.list hq;have hl:=r'.length;have t:lM s.heap af ks:=⟨Y',λi v e=>by have hi:i<af.length:=(Wd.mp e).1;have hv:vs[i]?=some (vs[i]' Y'):=#v[show i<vs.length by lia];have rv:=Vals.at2 r' hv e;obtain⟨bO,b,ws,eb,hb,h0⟩:=ht i _ hv;rw[eb]at rv;obtain rfl:v=Value.ref b:=rv;obtain⟨_,its',r2,n,eo⟩:=show aZ X.prog X.w H s.heap b (.tup ws)from I.aB b _ hb;exact⟨bO,b,_,its'.toArray,n,rfl,eo,rfl,rfl,xU (H:=H) r2 h0⟩⟩;refine UK (UM _ t Y') p.isList t Y' Y' λord hp hu=>?_;rw[<-hl]at hp;have pe:(ord.map λi=>vs.getD i V.aI).length=vs.length:=by rw[Wq,hp.length_eq,List.length_range]
 obtain⟨e,he⟩:=sortedAll_at s.heap af (Ua (ord.map λi=>af.getD i Value.none));have I1:Inv X pins Z (upd H (s.heap.objs.size+1) (.lst (ord.map λi=>vs.getD i .aI))) 9#(sortedAll s.heap af (Ua (ord.map λi=>af.getD i Value.none))):=I.laid (t':=s.toks) (λb o z=>sortedAll_old z) (Nat.le_succ _) (show aZ X.prog X.w _ _ _ (.lst (ord.map λi=>vs.getD i .aI))from⟨by rw[pe,Qi];lia,ord.map λi=>af.getD i Value.none,e,r'.pick _ λi hi=>by have:=hp.mem_iff.mp hi;simp at this;lia,he⟩);exact⟨.ref _,_,I1,rfl,q _ ord (I.aB.fresh (Nat.le_succ _)) hp (UO hlen hp hu)⟩
end Lake.SO
section
open Lake.SO
noncomputable def lN:List D->Option (List (List Tx))|[]=>some []|.tup (x::xs)::r=>(cO (x::xs)).bind λk=>(lN r).map (k::.)|_::_=>none
theorem uy:∀{ds:List D}{ks:List Tx},cO ds=some ks->ds=ks.map D.str|[],ks,h=>by cases h;rfl|d::r,ks,h=>by cases d with
 |str x=>have h:(cO r).map (x::.)=some ks:=h;cases e:cO r with|none=>rw[e]at h;cases h|some k'=>rw[e]at h;cases h;rw[uy e];rfl
 |_=>cases h
universe H in theorem E_:∀{ds:List D}{ks:List (List Tx)},lN ds=some ks->ks.length=ds.length/\∀(i:Nat)d,ds[i]?=some d->ks.getD i []≠[]/\d=.tup ((ks.getD i []).map D.str)
 |[],ks,h=>by cases h;exact⟨rfl,λi d e=>by simp at e⟩|d::r,ks,h=>by
  unfold lN at h;split at h;.rename_i e;cases e
  .rename_i x xs r' e;cases e;cases e1:cO (x::xs)with|none=>rw[e1]at h;cases h|some k=>rw[e1]at h;cases e:lN r with|none=>rw[e]at h;cases h|some ks'=>rw[e]at h;cases h;obtain⟨h1,h2⟩:=E_ e;have et:=uy e1;refine⟨#v[h1],λi d' e'=>?_⟩;cases i with|zero=>simp at e';subst e';refine⟨λz=>?_,by rw[et];rfl⟩;have z:k=[]:=z;rw[z]at et;cases et|succ i=>simpa using h2 i d' (~~~e')
  .cases h
abbrev m5(k:List Tx):D:=.tup (k.map D.str)
noncomputable def iJ:D->Option S
 |.lst ds=>if ds.length<2 then some (.own (.lst ds))else match lN ds with|some ks=>if ks.length<=1000000 then some (.own (.lst ((eC ks).map m5)))else none|none=>none
 |_=>none
section
variable{c:Fc}
universe H in theorem UQ(hg:Gl X "sorted")(hm:X.mg "sorted"=none)(he:SB X c e fb)(hs:Wa [e] X.env=(false,eval e X.env)::Wa [] X.env:=by rfl):SE X c (.Call (.Name "sorted" pp) [e] [] pos) (ay iJ fb):=nJ (r:=λv H Q=>Eg X.K v H Q\/xV X.K v H Q) (rl:=λxs H Q=>∃v,xs=[v]/\(Eg X.K v H Q\/xV X.K v H Q)) (λpins s Z H xs us Q I r⟨v,ex,h⟩=>h.elim (λ⟨a,vs,e,h⟩=>Sw pins s Z H xs us Q I r ⟨a,vs,by rw[ex,e],h⟩) λh=>UP pins s Z H xs us Q I r ⟨v,ex,h⟩) (λv H Q h=>⟨v,rfl,h⟩) (λc Z Y H x d s Q k rx hp q=>by
 cases d with|lst ds=>
 simp only[iJ]at hp;split at hp;.rename_i hl;cases hp;obtain⟨a,vs,ea,ha,ra⟩:=rx.lst;exact .inl ⟨a,vs,ea,.inl ha,%[ra.1|hl],λp hp=>q _ _ (.alloc k hp _) (aL.i6 k ra hp)⟩
 .rename_i hl;refine .inr ?_;cases e:lN ds with|none=>rw[e]at hp;cases hp|some ks=>
      rw[e]at hp;simp only at hp;split at hp
      .rename_i hh;cases hp;obtain⟨h1,h2⟩:=E_ e;obtain⟨a,vs,ea,ha,ra⟩:=rx.lst;have kT:=ra.1;refine⟨a,vs,ks,ea,.inl ha,Y',λi v ev=>?_,Y',Y',λp ord hp ho hs=>?_⟩;.have hi:i<vs.length:=(Wd.mp ev).1;have hd:ds[i]?=some (ds[i]' Y'):=#v[show i<ds.length by lia];obtain⟨bO,er⟩:=h2 i _ hd;refine⟨bO,?_⟩;have rv:=ra.2 i v _ ev hd;rw[er]at rv;cases rv with|@tup b ws _ _ hb hlen hat=>
         refine⟨b,ws,rfl,hb,?_⟩;apply J5;intro j;rw[WD];have hlen:ws.length=(ks.getD i []).length:=by rw[hlen];simp
         by_cases hj:j<ws.length
         .have m7:j<(ks.getD i []).length:=by lia
          have r0:=hat j (ws[j]'hj) (.str ((ks.getD i [])[j]'m7)) #v[hj] (by rw[WD,W4 m7];rfl);rw[W4 hj,W4 m7];generalize ws[j]'hj=z at r0;cases r0;rfl
         .rw[WJ Y',WJ Y'];rfl
       .have ed:(eC ks).map m5=ord.map λi=>ds.getD i .aI:=by
         rw[<-hs,Q9];apply JX;intro i hi;have hi:i<ds.length:=by have:=ho.mem_iff.mp hi;simp at this;lia
         obtain⟨_,er⟩:=h2 i ds[i] #v[hi];show m5 (ks.getD i [])=ds.getD i .aI;simp only[Wo,W4 hi,Jv]at er⊢;exact er.symm
        have R:=aL.i6 k (aG.pick ra ord λi hi=>by have:=ho.mem_iff.mp hi;simp at this;lia) hp;rw[<-ed]at R;exact q _ _ (.alloc k hp _) R
      .cases hp|_=>cases hp) hg hm PyProof.Rows.boot_sorted he Z' Z' hs
theorem Fb:∀{ks:List (List Tx)},(∀k∈ks,k≠[])->lN (ks.map m5)=some ks
 |[],_=>rfl|[]::r,h=>absurd rfl (h [] WA)|(x::xs)::r,h=>by
  have ih:=Fb (ks:=r) λk hk=>h k (Wh _ hk);have et:∀l:List Tx,cO (l.map D.str)=some l:=λl=>by induction l with|nil=>rfl|cons a l ih=>show(cO (l.map D.str)).map (a::.)=_;rw[ih];rfl
  show((cO ((x::xs).map D.str)).bind λk=>(lN (r.map m5)).map (k::.))=_;rw[et,ih];rfl
theorem UR(h:∀k∈ks,k≠[])(hb:ks.length<=1000000):iJ (.lst (ks.map m5))=some (.own (.lst ((eC ks).map m5))):=by
 simp only[iJ];rw[Wq];by_cases h2:ks.length<2;.rw[if_pos h2];rw[UI h2]
 .rw[if_neg h2,Fb h];simp only;rw[if_pos hb]
end
end
theorem iI.mono{k:NK}{v:V}(r:iI H n k v)(up:∀b o,H b=some o->H' b=some o):iI H' n k v:=by induction r with|int z=>exact .int z|bl b=>exact .bl b|str x=>exact .str x|tup h1 h2 _ ih=>exact .tup (up _ _ h1) h2 ih
theorem fW.mono{k:NK}{v:V}(r:fW H m k v)(up:∀b o,H b=some o->H' b=some o):fW H' m k v:=by cases m with|true=>exact⟨r.1,r.2.mono up⟩|false=>exact r
def uz(H:Hp)(m:Bool)(ys:List V)(kps:List NE):Prop:=ys.length=kps.length/\∀(i:Nat)y kv,ys[i]?=some y->kps[i]?=some kv->(∃q,y=.ref q/\H q=some (.tup [kv.2.1,kv.2.2]))/\fW H m kv.1 kv.2.1
noncomputable def putAllN(kps acc:List NE):List NE:=kps.foldl (λa p=>putN a p.1 p.2.1 p.2.2) acc
theorem Fd:∀(kps acc:List NE),(putAllN kps acc).length<=acc.length+kps.length|[],acc=>W5 _|kv::r,acc=>by have h1:=Fd r (putN acc kv.1 kv.2.1 kv.2.2);have h2:=xI acc kv.1 kv.2.1 kv.2.2;show(putAllN r (putN acc kv.1 kv.2.1 kv.2.2)).length<=_;simp only[WE];lia
theorem US(kps:List NE)(kv:NE)(acc:List NE):putAllN (kps++[kv]) acc=putN (putAllN kps acc) kv.1 kv.2.1 kv.2.2:=by unfold putAllN;rw[List.foldl_append];rfl
theorem UT{k:NK}{y v:V}{p:NE}(h:p∈putN acc k y v):(∃p'∈acc,p.1=p'.1/\p.2.1=p'.2.1)\/p.1=k/\p.2.1=y:=by
 unfold putN at h;split at h;.obtain⟨p',cm,rfl⟩:=WH.mp h;refine .inl ⟨p',cm,?_⟩;split<;>exact⟨rfl,rfl⟩
 .rcases Wu.mp h with h|h;.exact .inl ⟨p,h,rfl,rfl⟩
  .have:p=(k,y,v):= ~~~h;rw[this];exact .inr ⟨rfl,rfl⟩
theorem Fe:∀(kps acc:List NE)(p:NE),p∈putAllN kps acc->p∈([]:List NE)\/∃p'∈acc++kps,p.1=p'.1/\p.2.1=p'.2.1
 |[],acc,p,h=>.inr ⟨p,%[WT|h],rfl,rfl⟩|kv::r,acc,p,h=>by
  rcases Fe r (putN acc kv.1 kv.2.1 kv.2.2) p h with z|⟨p',cm,e1,e2⟩;.cases z
  .refine .inr ?_;rcases Wu.mp cm with cm|cm
   .rcases UT cm with⟨p2,h2,f1,f2⟩|⟨f1,f2⟩;.exact⟨p2,#v[h2],e1.trans f1,e2.trans f2⟩
    .exact⟨kv,Zw,e1.trans f1,e2.trans f2⟩
   .exact⟨p',#v[cm],e1,e2⟩
theorem UU{a:Addr}{y v:V}{r:Value}{Q:Unit->W1->Prop}{ao:List NE}{k:NK}(hu:A.units+6<WK)(I:Inv X pins Z H s)(e:H a=some (.dN ep ao))(hk:∀p∈ao,fW H m p.1 p.2.1)(ky:fW H m k y)(hz:ao.length<W7)(ry:RelV y u)(rv:RelV v r)(h:∀s' fQ,Inv X pins Z (upd H a (.dN fQ (putN ao k y v))) s'->(∀b,b≠a->s'.heap.get? b=s.heap.get? b)->Q () s'):W8 5#0 A (dictSet a u r) Q E s:=by
 obtain⟨z,hS,xs,ob,es,rx,d⟩:=mU I.aB e;have hl:xs.length<=W7:=by rw[<-Paired.length rx];exact z
 refine Ew hu (ky.key I.aB ry) d.get d.ex d.data d.ents (xG I.aB rx hk) d.jF hl λh' o' jR fQ q1 q2 q3 q4 hs=>h _ fQ ?_ λb hb=>hs.2 b hb;have gO:(putN ao k y v).length<=W7:=by have:=xI ao k y v;lia
 exact vF I %[e|True.intro] hs ⟨o',q1⟩ (Ey gO hS (rx.put ry rv) ⟨q1,q2,q3,q4,Es d.jF⟩)
theorem Ff{R:Result->W1->Prop}{ys:List V}{kps:List NE}(hu:A.in1.units+6<WK)(hP:uz H m ys kps)(gf:H dl=none)(hz:kps.length<W7)(item:∀(i:Nat)(y:V)(H':Hp)(s:W1)(Q:Option Value->W1->Prop),(∀b o,H b=some o->H' b=some o)->H' it=none->Inv X pins Z H' s->tn i s.heap->ys[i]?=some y->(∀u s',RelV y u->Inv X pins Z H' s'->tn (i+1) s'.heap->Q (some u) s')->W8 5#0 A.in1 (JE (.ref it)) Q (λc c=>False) s)(done:∀(H':Hp)(s:W1)(Q:Option Value->W1->Prop),(∀b o,H b=some o->H' b=some o)->H' it=none->Inv X pins Z H' s->tn ys.length s.heap->(∀s',Inv X pins Z H' s'->Q none s')->W8 5#0 A.in1 (JE (.ref it)) Q (λc c=>False) s)(keep:∀(i:Nat)(h h':Heap),tn i h->(∀o,h.get? it=some o->h'.get? it=some o)->tn i h')(hit:H it=none)(bO:it≠dl)(hR:∀ep s',Inv X pins Z (upd H dl (.dN ep (putAllN kps []))) s'->R (.ok (.ret .none)) s'):∀(k i:Nat)(s:W1)(j:Int)(t0:Tok),ys.length-i=k->i<=ys.length->(∃ep,Inv X pins Z (upd H dl (.dN ep (putAllN (kps.take i) []))) s)->tn i s.heap->J4 5#0 A (.builtin "dict.update.loop" ⟨[.ref dl,.ref it,.int j t0,.none],[]⟩) R s:=by
 have up:∀(ep:Nat)(acc:List NE)b o,H b=some o->upd H dl (.dN ep acc) b=some o:=λep acc b o e=>%[ba (fj e gf)|e];have kK:∀(ep:Nat)(acc:List NE),upd H dl (.dN ep acc) it=none:=λep acc=>%[ba bO|hit]
 intro k;induction k with|zero=>
 intro i s j t0 hk hi⟨ep,I⟩st;have e:i=ys.length:=by lia
 subst e;rw[hP.1,QN (W5 _)]at I;refine Dk (done _ s _ (up _ _) (kK _ _) I st λs' I'=>⟨rfl,hR ep s' I'⟩)|succ k ih=>
  intro i s j t0 hk hi⟨ep,I⟩st;have bz:i<ys.length:=by lia
  have je:i<kps.length:=by rw[<-hP.1];exact bz
  obtain⟨⟨q,ey,hq⟩,hkey⟩:=hP.2 i ys[i] kps[i] #v[bz] #v[je];have main:∀s1,Inv X pins Z (upd H dl (.dN ep (putAllN (kps.take i) []))) s1->∃(kk vv:Value)(n:Nat),s1.heap.get? q=some {cls:=.type "tuple",dict:=none,data:=.seq #[kk,vv] n,slots:=#[]}/\RelV kps[i].2.1 kk/\RelV kps[i].2.2 vv:=λs1 I1=>by obtain⟨_,af,r,n,e⟩:=show aZ X.prog X.w _ s1.heap q (.tup [kps[i].2.1,kps[i].2.2])from I1.aB q _ (up _ _ q _ hq);obtain⟨u,v,rfl,r1,r2⟩:=Vals.two r;exact⟨u,v,n,e,r1,r2⟩
  refine Dj (item i ys[i] _ s _ (up _ _) (kK _ _) I st #v[bz] λu s' ru I' ar=>?_);rw[ey]at ru;cases ru;obtain⟨kk,vv,n,e,r1,r2⟩:=main s' I';refine⟨q,kk,vv,n,rfl,e,?_⟩;have hl:(putAllN (kps.take i) []).length<W7:=by have h2:=Fd (kps.take i) [];simp at h2;lia
  have UW:∀p∈putAllN (kps.take i) [],fW (upd H dl (.dN ep (putAllN (kps.take i) []))) m p.1 p.2.1:=λp hp=>by
   rcases Fe _ _ p hp with z|⟨p',cm,e1,e2⟩;.cases z
   .rw[Qt]at cm;obtain⟨i',dD,e'⟩:=Jt.mp (Ql cm);have:=(hP.2 i' (ys[i']'%[hP.1|dD]) kps[i'] #v[show i'<ys.length by rw[hP.1];exact dD] #v[dD]).2;rw[e']at this;rw[e1,e2];exact this.mono (up _ _)
  refine UU hu I' cz UW (hkey.mono (up _ _)) hl r1 r2 λs2 fQ I2 hs=>?_;rw[Aj]at I2;have et:kps.take (i+1)=kps.take i++[kps[i]]:=by rw[List.take_add_one];simp[je]
  rw[show putN (putAllN (kps.take i) []) kps[i].1 kps[i].2.1 kps[i].2.2=putAllN (kps.take (i+1)) []by rw[et,US]]at I2;exact ih (i+1) _ (j+1) _ Y' bz ⟨fQ,I2⟩ (keep (i+1) _ _ ar λo eo=>(hs it bO).trans eo)
theorem UX(hu:X.A.units+64<WK)(hc:X.calm=true):cN X (.type "dict") λxs H Q=>∃p ys kps m,xs=[.ref p]/\(H p=some (.tup ys)\/Rd H p (.lst ys))/\uz H m ys kps/\kps.length<W7/\∀l ep,H l=none->Q (.ref l) (upd H l (.dN ep (putAllN kps []))):=by
 intro pins s Z H xs us Q I r h;obtain⟨p,ys,kps,m,rfl,hp,hP,hz,q⟩:=h;obtain⟨u,rfl,rx⟩:=eN r;cases rx;have hA:X.A.handled=none:=I.ok.hd hc;have Fg:X.A.in1.in1.units+6<WK:=by show X.A.units+1+1+6<WK;lia
 refine callType_codes (Q₁:=λobj s₁=>obj=.ref s.heap.objs.size/\s₁=9#(s.heap.push {cls:=.type "dict",data:=.dict #[]})) F.kt_called_dict (F.kt_typeCall_dict_1 _) F.entry_dict_init (kt_code_dict_new _ ⟨rfl,rfl⟩) ?_;rintro obj s₁⟨rfl,rfl⟩;have gf:H s.heap.objs.size=none:=I.aB.fresh (W5 _);have I1:Inv X pins Z (upd H s.heap.objs.size (.dN 0 [])) 9#(s.heap.push {cls:=.type "dict",data:=.dict #[]}):=I.laid (t':=s.toks) (λj j q=>W6 _ q) (W5 _) (EH s.heap I.big);generalize iy:s.heap.objs.size=dl at gf I1;have up:∀(acc:List NE)b o,H b=some o->upd H dl (.dN 0 acc) b=some o:=λacc b o e=>%[ba (fj e gf)|e];have pY:(9#(s.heap.push {cls:=.type "dict",data:=.dict #[]}):W1).TypeIs (.ref dl) "dict":=⟨_,by rw[<-iy];exact Wv _ rfl,rfl⟩;refine⟨pY,F.args_dict_init_2 _ _,?_⟩;unfold Builtin.«dict.__init__»;refine W0 ?_;unfold Builtin.Dict.selfAndRest;refine W0 (JM pY ?_);show W8 _ _ (pure (dl,[Value.ref p])) _ _ _;refine W3 ?_;show W8 _ _ (JB "dict.__init__" dl (.ref p) [] .none) _ _ _;unfold JB;have fin:∀ep s',Inv X pins Z (upd H dl (.dN ep (putAllN kps []))) s'->EP X pins Z Q (.ref dl) s':=λep s' I'=>⟨.ref dl,_,I',rfl,q dl ep gf⟩;rcases hp with hp|hp
 .obtain⟨_,af,r,n,e⟩:=show aZ X.prog X.w _ (s.heap.push {cls:=.type "dict",data:=.dict #[]}) p (.tup ys)from I1.aB p _ (up _ p _ hp);refine W0 (QX ⟨_,e,rfl⟩ ?_);rw[if_pos Z'];refine W0 (Dh e rfl rfl rfl hA λh' tk kp=>?_);rw[if_pos (show(none:Option Value).isNone=true from rfl)];refine W0 (QF ?_);have I2:Inv X pins Z (upd H dl (.dN 0 [])) {s with heap:=h',toks:=tk}:=I1.kept kp;have fV:h'.IsTuple p af.toArray:=⟨_,kp _ _ e,rfl,n,rfl⟩;refine W0 (wpAny_pyIter_tuple (s:={s with heap:=h',toks:=tk}) fV ?_);refine W3 ⟨plainId_quiet mF _,?_⟩;have cZ:upd H dl (.dN 0 []) h'.objs.size=none:=I2.aB.fresh (W5 _);have bO:h'.objs.size≠dl:=λz=>by rw[z,cz]at cZ;cases cZ
  have hit:H h'.objs.size=none:=by rw[ba bO]at cZ;exact cZ
  have fp:∀H':Hp,H' h'.objs.size=none->f9 X pins H' h'.objs.size:=λH' hn=>I2.jT (W5 _) hn;refine Ff (X:=X) (m:=m) (show X.A.in1.in1.units+6<WK from Fg) (pins:=pins) (Z:=Z) (H:=H) (dl:=dl) (it:=h'.objs.size) (ys:=ys) (kps:=kps) (tn:=λi h=>h.IsTupleIter h'.objs.size p i) hP gf hz ?_ ?_ (λi h h2 st k=>st.at k) hit bO (λep s' I'=>⟨rfl,fin ep s' I'⟩) ys.length 0 _ 0 _ (Us _) (Q2 _) ⟨0,?_⟩ ?_;.intro i y H' s' Q' sub hn I' st hy k;obtain⟨_,its2,r2,n2,e2⟩:=show aZ X.prog X.w _ s'.heap p (.tup ys)from I'.aB p _ (sub p _ hp);obtain⟨v,hv,rv⟩:=r2.get hy;obtain⟨f0,f1,f2,f3,f4,f5⟩:=fp H' hn;refine wpAny_pyNext_tuple_item st (items:=its2.toArray) ⟨_,e2,rfl,n2,rfl⟩ (x:=v) (~~~hv) λh3 bq sb=>?_;exact k v {s' with heap:=h3} rv (I'.turned (t':=s'.toks) (λb o hb e=>(sb.2 b hb).trans e) f0 f1 f3 f4 f5) bq
  .intro H' s' Q' sub hn I' st k;obtain⟨_,its2,r2,n2,e2⟩:=show aZ X.prog X.w _ s'.heap p (.tup ys)from I'.aB p _ (sub p _ hp);obtain⟨f0,f1,f2,f3,f4,f5⟩:=fp H' hn;have kT:=r2.length;exact wpAny_pyNext_tuple_end (show X.A.in1.in1.handled=none from hA) st (items:=its2.toArray) ⟨_,e2,rfl,n2,rfl⟩ Zx λh3 eb=>k {s' with heap:=h3} (I'.turned (t':=s'.toks) (λb o hb e=>eb b o hb e) f0 f1 f3 f4 f5)
  .exact I2.kept (t':=tk) λb o e=>W6 _ e
  .exact⟨_,Wv _ rfl,rfl,rfl⟩
 .obtain⟨_,af,n,r,e⟩:=show aZ X.prog X.w _ (s.heap.push {cls:=.type "dict",data:=.dict #[]}) p (.lst ys)from(Rd.sub hp (up _)).ok I1.aB;refine W0 (QX ⟨_,e,rfl⟩ ?_);rw[if_pos Z'];refine W0 (Di e rfl rfl rfl hA λh' tk kp=>?_);rw[if_pos (show(none:Option Value).isNone=true from rfl)];refine W0 (QF ?_);have I2:Inv X pins Z (upd H dl (.dN 0 [])) {s with heap:=h',toks:=tk}:=I1.kept kp;have fV:h'.IsList p af.toArray:=⟨_,kp _ _ e,rfl,n,rfl⟩;refine W0 (Ug (s:={s with heap:=h',toks:=tk}) fV ?_);refine W3 ⟨plainId_quiet mF _,?_⟩;have cZ:upd H dl (.dN 0 []) h'.objs.size=none:=I2.aB.fresh (W5 _);have bO:h'.objs.size≠dl:=λz=>by rw[z,cz]at cZ;cases cZ
  have hit:H h'.objs.size=none:=by rw[ba bO]at cZ;exact cZ
  have fp:∀H':Hp,H' h'.objs.size=none->f9 X pins H' h'.objs.size:=λH' hn=>I2.jT (W5 _) hn;refine Ff (X:=X) (m:=m) (show X.A.in1.in1.units+6<WK from Fg) (pins:=pins) (Z:=Z) (H:=H) (dl:=dl) (it:=h'.objs.size) (ys:=ys) (kps:=kps) (tn:=λi h=>h.IsListIter h'.objs.size p i) hP gf hz ?_ ?_ (λi h h2 st k=>st.at k) hit bO (λep s' I'=>⟨rfl,fin ep s' I'⟩) ys.length 0 _ 0 _ (Us _) (Q2 _) ⟨0,?_⟩ ?_;.intro i y H' s' Q' sub hn I' st hy k;obtain⟨_,its2,n2,r2,e2⟩:=show aZ X.prog X.w _ s'.heap p (.lst ys)from(Rd.sub hp sub).ok I'.aB;obtain⟨v,hv,rv⟩:=r2.get hy;obtain⟨f0,f1,f2,f3,f4,f5⟩:=fp H' hn;refine wpAny_pyNext_list_item st (items:=its2.toArray) ⟨_,e2,rfl,n2,rfl⟩ (x:=v) (~~~hv) λh3 bq sb=>?_;exact k v {s' with heap:=h3} rv (I'.turned (t':=s'.toks) (λb o hb e=>(sb.2 b hb).trans e) f0 f1 f3 f4 f5) bq
  .intro H' s' Q' sub hn I' st k;obtain⟨_,its2,n2,r2,e2⟩:=show aZ X.prog X.w _ s'.heap p (.lst ys)from(Rd.sub hp sub).ok I'.aB;obtain⟨f0,f1,f2,f3,f4,f5⟩:=fp H' hn;have kT:=r2.length;exact wpAny_pyNext_list_end (show X.A.in1.in1.handled=none from hA) st (items:=its2.toArray) ⟨_,e2,rfl,n2,rfl⟩ Zx λh3 eb=>k {s' with heap:=h3} (I'.turned (t':=s'.toks) (λb o hb e=>eb b o hb e) f0 f1 f3 f4 f5)
  .exact I2.kept (t':=tk) λb o e=>W6 _ e
  .exact⟨_,Wv _ rfl,rfl,rfl⟩
noncomputable def jH:List D->Option (List (D×D))|[]=>some []|.tup [k,v]::r=>if(hZ true k&&(cn 6 k).isSome)=true then(jH r).map ((k,v)::.)else none|_::_=>none
def og(ps acc:List (D×D)):List (D×D):=ps.foldl (λa q=>km a q.1 q.2) acc
noncomputable def iK:D->Option S|.lst ds=>(jH ds).bind λps=>if ps.length<W7 then some (.own (.dic (og ps [])))else none|.tup ds=>(jH ds).bind λps=>if ps.length<W7 then some (.own (.dic (og ps [])))else none|_=>none
universe H in theorem xW{H:Hp}{O:Addr->Prop}:∀{ds:List D}{vs:List V}{ps:List (D×D)},jH ds=some ps->aG H O vs ds->∃kps,uz H true vs kps/\DN H O kps ps/\kps.length=ps.length
 |[],[],ps,h,_=>by cases h;exact⟨[],⟨rfl,λi y kv e=>by simp at e⟩,.nil,rfl⟩|[],_::_,_,_,r=>by have:=r.1;simp at this|_::_,[],_,_,r=>by have:=r.1;simp at this|d::ds,v::vs,ps,h,r=>by
  unfold jH at h;split at h;.rename_i heq;cases heq
  .rename_i k w r' heq;cases heq;split at h;.rename_i hk;rw[Wn]at hk;obtain⟨hm,hc⟩:=hk;obtain⟨kk,hc⟩:=Qr.mp hc;cases hr:jH ds with|none=>rw[hr]at h;cases h|some ps'=>rw[hr]at h;cases h;obtain⟨kps,hP,hD,hL⟩:=xW hr r.tail;have rp:=r.head;cases rp with|tup h1 h2 h3 h4=>rename_i a us;rcases us with _|⟨x,_|⟨y,_|_⟩⟩<;>cases h3;have rk:=h4 0 x k rfl rfl;have rv:=h4 1 y w rfl rfl;refine⟨(kk,x,y)::kps,⟨#v[hP.1],λi z kv e1 e2=>?_⟩,.cons rk rv hc hD,#v[hL]⟩;cases i with|zero=>simp at e1 e2;subst e1 e2;exact⟨⟨a,rfl,h2⟩,uf hm hc rk⟩|succ i=>exact hP.2 i z kv (~~~e1) (~~~e2)
   .cases h
  .cases h
theorem DN.mI:∀{kps:List NE}{ps:List (D×D)}{ws:List NE}{ds:List (D×D)},DN H O kps ps->DN H O ws ds->DN H O (putAllN kps ws) (og ps ds)|[],[],_,_,_,h=>h|[],_::_,_,_,h,_=>by have:=h.1;simp at this|_::_,[],_,_,h,_=>by have:=h.1;simp at this|p::kps,q::ps,ws,ds,h,h'=>by obtain⟨h1,h2,h3,h4⟩:=h.un;show DN H O (putAllN kps (putN ws p.1 p.2.1 p.2.2)) (og ps (km ds q.1 q.2));exact DN.mI h4 (DN.put h3 h1 h2 h')
section
variable{c:Fc}
universe H in theorem UY(hu:X.A.units+64<WK)(hc:X.calm=true)(hg:Gl X "dict")(hm:X.mg "dict"=none)(he:SB X c e fb)(hs:kh e=true:=by rfl):SE X c (.Call (.Name "dict" pp) [e] [] pos) (ay iK fb):=nK (r:=λv H Q=>∃p ys kps m,v=.ref p/\(H p=some (.tup ys)\/Rd H p (.lst ys))/\uz H m ys kps/\kps.length<W7/\∀l ep,H l=none->Q (.ref l) (upd H l (.dN ep (putAllN kps [])))) (UX hu hc) (λv H Q⟨p,ys,kps,m,e,h⟩=>⟨p,ys,kps,m,by rw[e],h⟩) (λc Z Y H x d s Q k rx hp q=>by cases d with
 |lst ds=>simp only[iK]at hp;cases fJ:jH ds with|none=>rw[fJ]at hp;cases hp|some ps=>
 rw[fJ]at hp;simp only[WO]at hp;split at hp;.rename_i hz;cases hp;obtain⟨a,vs,ex,ha,r⟩:=rx.lst;obtain⟨kps,hP,hD,hL⟩:=xW fJ r;exact⟨a,vs,kps,true,ex,.inr ha,hP,%[hL|hz],λl ep hl=>q _ _ (.alloc k hl _) (aL.xM k hl (DN.mI hD .nil))⟩
 .cases hp|tup ds=>simp only[iK]at hp;cases fJ:jH ds with|none=>rw[fJ]at hp;cases hp|some ps=>
 rw[fJ]at hp;simp only[WO]at hp;split at hp;.rename_i hz;cases hp;obtain⟨a,vs,ex,ha,r⟩:=rx.tup;obtain⟨kps,hP,hD,hL⟩:=xW fJ r;exact⟨a,vs,kps,true,ex,.inl ha,hP,%[hL|hz],λl ep hl=>q _ _ (.alloc k hl _) (aL.xM k hl (DN.mI hD .nil))⟩
 .cases hp|_=>simp[iK]at hp) hg hm Dw he Z' Z' (lj hs)
end
namespace PySem.SeqAt
open AutoSeq1(wpAny_loadPart')
open MeetsSeq
open Lake.SO(z1N ltL)
theorem UZ(l b:Addr)(xs ys:Array Value)(x y:List Tx)(hx:z1N xs.toList x)(hy:z1N ys.toList y)(n n2:Nat)(dd mf:Option Addr)(sl kQ:Array (Option Value)):Meets (Builtin.«tuple.__le__» ⟨[.ref l,.ref b],[]⟩) λj R s=>s.heap.get? l=some {cls:=.type "tuple",dict:=dd,data:=.seq xs n,slots:=sl}/\s.heap.get? b=some {cls:=.type "tuple",dict:=mf,data:=.seq ys n2,slots:=kQ}/\R (.ok (.ret (.bool !ltL y x))) s:=.of_wp λprog w A R s h=>by
  obtain⟨hp,g,d,tk,os⟩:=s;obtain⟨hl,hb,h⟩:=h;have f2:=AutoSeq1.sub_tuple_tuple;wp_walk using U1 hl,U1 hb,wpAny_forIn_list _ (λrest c s'=>c.1=none/\s'=⟨hp,g,d,tk,os⟩/\∃us vs x' y',rest=List.zip us vs/\z1N us x'/\z1N vs y'/\ltL y' x'=ltL y x/\us.length+ys.size=vs.length+xs.size) _;case turn=>rintro⟨u,v⟩rest c s'⟨hc,rfl,us,vs,x',y',hz,hu,hv,bz,hlen⟩;cases us with|nil=>cases hz|cons u0 us=>cases vs with|nil=>cases hz|cons v0 vs=>rw[List.zip_cons_cons]at hz;injection hz with xg hrest;cases xg;cases x' with|nil=>exact hu.elim|cons a x'=>cases y' with|nil=>exact hv.elim|cons e y'=>
       obtain⟨⟨t1,rfl⟩,hu⟩:=hu;obtain⟨⟨t2,rfl⟩,hv⟩:=hv;refine W0 (eqBool_str ?_);by_cases q:a=e
       .rw[show(toS a==toS e)=true by rw[q];simp];wp_walk;have:ltL (e::y') (a::x')=ltL y' x':=by show(if e=a then _ else _)=_;rw[if_pos q.symm]
        rw[this]at bz;exact⟨rfl,rfl,us,vs,x',y',hrest,hu,hv,bz,by simp only[WE]at hlen;lia⟩
       .rw[show(toS a==toS e)=false by rw[beq_eq_false_iff_ne];intro z;exact q (nH z)];have:ltL (e::y') (a::x')=decide (e<a):=by show(if e=a then _ else _)=_;rw[if_neg (Ne.symm q)]
        rw[<-bz,this]at h;simp only[Jd,if_true];refine W0 (QF ?_);refine W0 (show W8 _ _ (richCompare .LtE (.str (toS a) t1) (.str (toS e) t2)) _ _ _ from PySem.P.le_str ?_);refine W0 (W3 ?_);rw[j0,j0];exact W3 (W3 ⟨_,rfl,h⟩)
  case fin=>
   rintro⟨c1,c2⟩s'⟨hc,rfl,us,vs,x',y',hz,hu,hv,bz,hlen⟩;simp only at hc;subst hc;have:(!ltL y x)=decide (xs.size<=ys.size):=by rw[<-bz];cases us with
 |nil=>cases x' with|cons a x'=>exact hu.elim|nil=>
      have e:ltL y' []=false:=by cases y'<;>rfl
      rw[e];simp only[QZ]at hlen;exact(decide_eq_true Y').symm
 |cons u0 us=>cases vs with|cons v0 vs=>cases hz|nil=>cases x' with|nil=>exact hu.elim|cons a x'=>cases y' with|cons b y'=>exact hv.elim|nil=>simp only[QZ,WE]at hlen;show false=_;exact(decide_eq_false Y').symm
   rw[this]at h;wp_walk;exact⟨_,rfl,h⟩
  case h=>exact⟨rfl,rfl,xs.toList,ys.toList,x,y,rfl,hx,hy,rfl,by simp;lia⟩
end PySem.SeqAt
section
open Lake.SO
def Fh:R2:=λx y H Q=>∃(a b:Addr)(ks ls:List Tx),x=.ref a/\y=.ref b/\H a=some (.tup (ks.map λt=>V.str (toS t)))/\H b=some (.tup (ls.map λt=>V.str (toS t)))/\Q (.bl !ltL ls ks) H
theorem U_(hu:X.A.units+64<WK):a_ X (WC .LtE) Fh:=by intro pins s Z H x y v u Q I rx ry h;obtain⟨a,b,ks,ls,rfl,rfl,ha,hb,q⟩:=h;cases rx;cases ry;obtain⟨_,af,r1,n,e1⟩:=show aZ X.prog X.w H s.heap a (.tup (ks.map λt=>V.str (toS t)))from I.aB a _ ha;obtain⟨_,fS,r2,m,e2⟩:=show aZ X.prog X.w H s.heap b (.tup (ls.map λt=>V.str (toS t)))from I.aB b _ hb;show W8 _ _ (richCompare .LtE (.ref a) (.ref b)) _ _ _;exact richCompare_meets_room (op:=.LtE) ⟨_,e1,rfl⟩ ⟨_,e2,rfl⟩ F.slot_tuple_le F.entry_tuple_le (F.args_tuple_le_2 _ _) (PySem.SeqAt.UZ a b af.toArray fS.toArray ks ls (xU (H:=H) r1 rfl) (xU (H:=H) r2 rfl) n m none none #[] #[]) ⟨e1,e2,(λx=>nomatch x),⟨.bl _,H,I,rfl,q⟩⟩ (show X.A.units<WK by lia)
noncomputable def kq(x y:D):Option S:=match x,y with|.tup xs,.tup ys=>(cO xs).bind λks=>(cO ys).map λls=>.pure (.bl !ltL ls ks)|_,_=>none
theorem Fi{ws:List V}{ks:List Tx}(r:aG H O ws (ks.map D.str)):ws=ks.map λt=>V.str (toS t):=by
 apply J5;intro j;rw[WD];have hlen:ws.length=ks.length:=by have:=r.1;simpa using this
 by_cases hj:j<ws.length
 .have m7:j<ks.length:=by lia
  have r0:=r.2 j (ws[j]'hj) (.str (ks[j]'m7)) #v[hj] (by rw[WD,W4 m7];rfl);rw[W4 hj,W4 m7];generalize ws[j]'hj=z at r0;cases r0;rfl
 .rw[WJ Y',WJ Y'];rfl
universe H in theorem Va:bV Fh kq:=by
 intro c Z Y H x y d e s Q k rx ry hp q;unfold kq at hp;split at hp;.rename_i xs ys;cases e1:cO xs with|none=>rw[e1]at hp;cases hp|some ks=>cases e2:cO ys with|none=>rw[e1,e2]at hp;cases hp|some ls=>rw[e1,e2]at hp;cases hp;rw[uy e1]at rx;rw[uy e2]at ry;obtain⟨a,vs,ea,ha,ra⟩:=rx.tup;obtain⟨b,ws,eb,hb,rb⟩:=ry.tup;have ta:vs=ks.map λt=>V.str (toS t):=Fi ra;have tb:ws=ls.map λt=>V.str (toS t):=Fi rb;rw[ta]at ha;rw[tb]at hb;exact⟨a,b,ks,ls,ea,eb,ha,hb,q _ H (.refl k) (.bl _)⟩
 .cases hp
def xX(K:W2)(neg:Bool):R2:=λx y H Q=>uc K neg x y H Q\/∃p vs ds d,y=.ref p/\H p=some (.tup vs)/\aG H cx vs ds/\Rep H cx x d/\flat 49 d=true/\(∀e∈ds,flat 49 e=true)/\Q (.bl (if neg then !ds.any λe=>aW e d else ds.any λe=>aW e d)) H
theorem Vb(hu:X.A.units+64<WK):a_ X (WC .In) (xX X.K false):=by
 intro pins s Z H x y v u Q I rx ry h;rcases h with h|⟨p,vs,ds,d,rfl,hq,rs,r1,f1,fs,q⟩;.exact SR hu pins s Z H x y v u Q I rx ry h
 .cases ry;obtain⟨_,af,r,n,eo⟩:=show aZ X.prog X.w H s.heap p (.tup vs)from I.aB p _ hq;obtain⟨e,h1,h2⟩:=ud hu I rx r1 f1 r rs fs;refine SeqAt.in_tupleAt e ⟨_,eo,rfl,n,rfl⟩ h1 ⟨.bl _,H,I,rfl,?_⟩;rw[h2];exact q
theorem Fj(hu:X.A.units+64<WK):a_ X (WC .NotIn) (xX X.K true):=by
 intro pins s Z H x y v u Q I rx ry h;rcases h with h|⟨p,vs,ds,d,rfl,hq,rs,r1,f1,fs,q⟩;.exact SU hu pins s Z H x y v u Q I rx ry h
 .cases ry;obtain⟨_,af,r,n,eo⟩:=show aZ X.prog X.w H s.heap p (.tup vs)from I.aB p _ hq;obtain⟨e,h1,h2⟩:=ud hu I rx r1 f1 r rs fs;refine SeqAt.notIn_tupleAt e ⟨_,eo,rfl,n,rfl⟩ h1 ⟨.bl _,H,I,rfl,?_⟩;rw[h2];exact q
noncomputable def eY(neg:Bool)(x y:D):Option S:=match y with|.tup ds=>if flat 49 x&&ds.all (flat 49)then 0#(.bl (if neg then !ds.any λe=>aW e x else ds.any λe=>aW e x)) else none|y=>mT neg x y
universe H in theorem xY(neg:Bool):bV (xX K neg) (eY neg):=by
 intro c Z Y H x y d e s Q k rx ry hp q;unfold eY at hp;split at hp
 .rename_i ds;split at hp;.rename_i hf;cases hp;simp only[Wn,WV]at hf;obtain⟨a,vs,ea,ha,r⟩:=ry.tup;exact .inr ⟨a,vs,ds,d,ea,ha,aG.aS r λ_ z=>z.elim,rx.un,hf.1,hf.2,q _ H (.refl k) (.bl _)⟩
  .cases hp
 .exact .inl (SV neg c Z Y H x y d e s Q k rx ry hp q)
theorem gR(e:b (bW n ss)=.ok (.ret v) SL)(h1:cP np 0 ss=true)(h2:bZ 0 ss SL=some aH):bF np n b ss=some (v,aH):=by unfold bF gE;rw[if_pos h1,e];simp[dS,h2]
theorem qw{b:DS}{v:S}(e:b (bW n ss)=.ok (.ret v) SL)(h1:cP np 0 ss=true)(h2:bZ 0 ss SL=some aH):jh np n b ss=some (.inl (v,aH)):=by unfold jh lE;rw[if_pos h1,e];simp[dS,h2]
theorem fM(h:b SL=x)(e:a Y=.ok .next SL):aA a b Y=x:=by unfold aA;rw[e];exact h
theorem Vc(h:aA a r SL=x)(e:t Y=.ok true SL):aA (bA t a b) r Y=x:=by rw[<-h];unfold aA bA;rw[e];rfl
theorem Fm(h:aA b r SL=x)(e:t Y=.ok false SL):aA (bA t a b) r Y=x:=by rw[<-h];unfold aA bA;rw[e];rfl
theorem Vd(h:r Y=x):aA bI r Y=x:=h
theorem Ve(h:aA a (aA b r) Y=x):aA (aA a b) r Y=x:=by rw[<-h];unfold aA;rcases a Y with⟨v,SL⟩|_|_<;>first|rfl|(cases v<;>rfl)
theorem fN(e:a Y=.ok (.ret v) SL):aA a b Y=.ok (.ret v) SL:=by unfold aA;rw[e];rfl
theorem ai(i j:Int):aF (.int i) (.int j)=0#(.int (i+j)):=rfl
theorem xZ(i j:Int):fk (.int i) (.int j)=0#(.int (i-j)):=rfl
theorem Vf(xs:List D):dk (.lst xs)=0#(.tup xs):=rfl
theorem Fn(a b:D):aC (.tup [a,b]) (.int 0)=0#a/\aC (.tup [a,b]) (.int 1)=0#b:=⟨rfl,rfl⟩
theorem Vg(a b c:D):aC (.tup [a,b,c]) (.int 0)=0#a/\aC (.tup [a,b,c]) (.int 1)=0#b/\aC (.tup [a,b,c]) (.int 2)=0#c:=⟨rfl,rfl,rfl⟩
theorem Vh(f:DE)(Y:Dl):aR f Y=(f Y).bind λr SL=>match r.d with|.lst ds=>.ok ds SL|.tup ds=>.ok ds SL|.str x=>.ok (x.map λn=>.str [n]) SL|_=>.stuck:=id rfl
@[simp high]theorem zzg{α:Type}(a:α)(l:List α):(a::l)[0]?=some a:=rfl
@[simp high]theorem zzh{α:Type}(a:α)(l:List α)(n:Nat):(a::l)[n+1]?=l[n]?:=rfl
theorem Fo{α β:Type}(a:α)(Y:Dl)(f:α->Dl->Rs β):(Rs.ok a Y).bind f=f a Y:=rfl
theorem m8{p:Prop}(h:p:=by exists "g_ Q9 Uk Ul;Fo bW aD aE ax au dY pF bj bE aV ae aq iC fo jy S.d az bJ cK cG cC b7 bp ay bD Cb cu ai xZ Vf dt jc putL k_ bt dg mE Vh gz Fn Vg",_,_,_<;>first|rfl|(refine⟨?_,?_⟩<;>rfl)|(refine⟨⟨?_,?_⟩,?_⟩<;>rfl)):p:=h
theorem gF(h:bF np n b ss=x)(io:cP np 0 ss=true):∃y,b (bW n ss)=y/\∀{v SL aH},.ok (.ret v) SL=y->bZ 0 ss SL=some aH->x=some (v,aH):=⟨_,rfl,λe o=>by rw[<-h];exact gR e.symm io o⟩
theorem cM{A:Type}(f F:A->D){as:List A}{it:DI}{g:DG}{t:DT}(e:it Y=.ok (as.map f) SL)(hl:as.length<=1000)(hs:∀a∈as,∃Y1' PP x Pi,g (.pure (f a)) (bt cs SL)=some Y1'/\t Y1'=.ok true PP/\el PP=.ok x Pi/\bt cs Pi=bt cs SL/\x.d=F a)(no:cs.any (cG SL)=false:=by rfl):bb cs it g t el Y=.ok (.own (.lst (as.map F))) (dg cs SL (bt cs SL)):=by have c:=t_ (cs:=cs) (g:=g) (t:=t) (el:=el) f F (bt cs SL) as [] (by have:PySem.sizeLine=16777216:=rfl;simp;lia) hs;unfold bb;rw[e];show(if _ then _ else _)=_;rw[if_neg (by rw[no];decide),c];rfl
theorem cI{it:DI}{g:DG}{t:DT}(e:it Y=.ok ds SL)(hl:ds.length<=1000)(I:Dl->Prop)(R:D->D->Prop)(h0:I (bt cs SL))(hs:∀d∈ds,∀Y,I Y->∃SL PP x Pi,g (.pure d) Y=some SL/\t SL=.ok true PP/\el PP=.ok x Pi/\I (bt cs Pi)/\R d x.d)(no:cs.any (cG SL)=false:=by rfl):∃xs P3,bb cs it g t el Y=.ok (.own (.lst xs)) (dg cs SL P3)/\I P3/\xs.length=ds.length/\∀(i:Nat)d x,ds[i]?=some d->xs[i]?=some x->R d x:=by obtain⟨xs,P3,c,h1,h2,h3⟩:=Eh (cs:=cs) (g:=g) (t:=t) (el:=el) I R ds (bt cs SL) [] h0 (by have:PySem.sizeLine=16777216:=rfl;simp;lia) hs;refine⟨xs,P3,?_,h1,h2,h3⟩;unfold bb;rw[e];show(if _ then _ else _)=_;rw[if_neg (by rw[no];decide),c];rfl
end
end Lake
namespace Lake.K28
open _root_.PySem.W(nsIn keepIn codeIn findIn mroIn kitOne mg_of)
open _root_.PySem _root_.PySem.Spec PyProof.Rows
abbrev qU:Tx:=[97,98,99,100,101,102,103,104,105,106,107,108,109,110,111,112,113,114,115,116,117,118,119,120,121,122]
variable{K:W2}{P:Wk}{base:Heap}{c pd:D}{ds:List D}{f1 f2 f3:DE}{i w:Nat}{mg:Str->Option Value}{np:List Nat}{p:D->D->Option S}{q:D->Option S}{v:S}{z:Bool}{Y SL PP:Dl}
theorem oRR{a b:Prop}(h:a\/b:=by first|exact Or.inl rfl|exact Or.inr rfl):a\/b:=h
def top(i:Nat):Stmt:=PySem.Challenge.pw_tilegrow_k28_closed_by_anybody.main.body.getD i (.Pass ⟨0,0,0,0⟩)
abbrev Fp:Stmt:=top 39
abbrev Fq:Stmt:=top 44
abbrev Fs:Stmt:=top 41
abbrev Ft:Stmt:=top 42
abbrev Fu:Stmt:=top 38
abbrev Fv:Stmt:=top 45
abbrev x6:Stmt:=top 19
abbrev Fw:Stmt:=top 20
abbrev Fx:Stmt:=top 12
abbrev Fy:Stmt:=top 15
abbrev Fz:Stmt:=top 16
abbrev FA:Stmt:=top 21
abbrev FC:Stmt:=top 17
abbrev FD:Stmt:=top 26
abbrev FE:Stmt:=top 28
abbrev FF:Stmt:=top 22
abbrev FG:Stmt:=top 27
abbrev x8:Stmt:=top 29
abbrev FH:Stmt:=top 48
abbrev FI:Stmt:=top 31
abbrev FJ:Stmt:=top 33
abbrev FK:Stmt:=top 32
abbrev FL:Stmt:=top 34
abbrev FN:Stmt:=top 36
abbrev FO:Stmt:=top 37
abbrev FP:Stmt:=top 43
abbrev FQ:Stmt:=top 46
abbrev FR:Stmt:=top 47
abbrev FT:Stmt:=top 35
abbrev FU:Stmt:=top 49
abbrev FV:Stmt:=top 40
abbrev ku:Stmt:=top 50
abbrev qx:Stmt:=(Sn (top 7)).getD 0 (.Pass ⟨0,0,0,0⟩)
theorem Vi:fA ["self","tile"] ["self","tile"] (bG qx):=scc
abbrev ys:List Tx:=[[78,111,84,105,108,101]]
section
variable(ce:Tx->Nat)
structure Txt(K:W2)(mg:Str->Option Value):Prop where
 qy:mg "ValueError"=none
 qz:mg "all"=none
 qA:mg "bool"=none
 qC:mg "dict"=none
 qD:mg "int"=none
 qE:mg "isinstance"=none
 qF:mg "len"=none
 qG:mg "list"=none
 qH:mg "max"=none
 qI:mg "min"=none
 qJ:mg "range"=none
 qK:mg "sorted"=none
 qL:mg "str"=none
 qM:mg "tuple"=none
 ty_bool:i8 K "bool"ty_list:i8 K "list"ty_str:i8 K "str"ty_tuple:i8 K "tuple"qN:∃t,mg "MOST_CROSSED"=some (.int 2 t)qO:∃t,mg "MOST_SIDE"=some (.int 3 t)qP:∃t,mg "MOST_TILES"=some (.int 64 t)Vj:mg "FloorError"=some (.ref (ce [70,108,111,111,114,69,114,114,111,114]))Vk:mg "NoFloor"=some (.ref (ce [78,111,70,108,111,111,114]))Vl:mg "NoPlace"=some (.ref (ce [78,111,80,108,97,99,101]))Vm:mg "NoNumber"=some (.ref (ce [78,111,78,117,109,98,101,114]))Vn:mg "NoRow"=some (.ref (ce [78,111,82,111,119]))Vo:mg "Unlike"=some (.ref (ce [85,110,108,105,107,101]))FW:mg "NoTile"=some (.ref (ce [78,111,84,105,108,101]))Vp:mg "NoRule"=some (.ref (ce [78,111,82,117,108,101]))Vq:mg "NoText"=some (.ref (ce [78,111,84,101,120,116]))Vr:mg "TooGreat"=some (.ref (ce [84,111,111,71,114,101,97,116]))Vs:mJ K (ce [70,108,111,111,114,69,114,114,111,114])Vt:IsT K ce ys (.ref (ce [78,111,70,108,111,111,114])) λz=>z==[78,111,70,108,111,111,114]Vu:IsT K ce ys (.ref (ce [78,111,80,108,97,99,101])) λz=>z==[78,111,80,108,97,99,101]Vv:IsT K ce ys (.ref (ce [78,111,78,117,109,98,101,114])) λz=>z==[78,111,78,117,109,98,101,114]Vw:IsT K ce ys (.ref (ce [78,111,82,111,119])) λz=>z==[78,111,82,111,119]Vx:IsT K ce ys (.ref (ce [85,110,108,105,107,101])) λz=>z==[85,110,108,105,107,101]Vy:IsT K ce ys (.ref (ce [78,111,84,105,108,101])) λz=>z==[78,111,84,105,108,101]Vz:IsT K ce ys (.ref (ce [78,111,82,117,108,101])) λz=>z==[78,111,82,117,108,101]VA:IsT K ce ys (.ref (ce [78,111,84,101,120,116])) λz=>z==[78,111,84,101,120,116]VB:IsT K ce ys (.ref (ce [84,111,111,71,114,101,97,116])) λz=>z==[84,111,111,71,114,101,97,116]VC:IsT K ce ys (.type "ValueError") λj=>true
 VD:∀y∈ys,mg (toS y)=some (.ref (ce y))/\mroIn K (ce y) (.ref (ce [70,108,111,111,114,69,114,114,111,114]))=some true
end
abbrev FX:DS:=aU (bb [1,2] (aR (au aC 0 1#2)) (iC 2 (fo (ah [] 1) (fo (ah [] 2) jy))) bw (ae 1))
def f7:DF:=bF [] 3 FX
abbrev VE:DS:=aA (bA (cu (bD (aD (eL "tuple" (aq 1)))) (cu (aD (ax (eY true) (ay aP (aq 1)) (ag (eD (.tup [.int 1,.int 2,.int 3]))))) (bD (aD (ay eJ (ag (bb [3] (aR (ae 1)) (ah [] 3) bw (eL "str" (aq 3))))))))) (aU (eD (.bl false))) bI) (aA (aE (bb [3] (aR (ae 1)) (ah [] 3) bw (ay aP (aq 3))) (ah [] 2)) (aA (bA (cu (aD (ax dP (ay nV (aq 2)) (ag (ay nU (aq 2))))) (aD (ax (eY true) (au aC 2 1#0) (ag (eD (.tup [.int 1,.int 2,.int 3])))))) (aU (eD (.bl false))) bI) (aU (ay eJ (ag (bb [4] (aR (ay (dQ []) (aq 1))) (ah [] 4) bw (ax (eY false) (ae 4) (ag (az f7 [.val (ae 0)])))))))))
def lP:DF:=bF [] 5 VE
abbrev VF:DS:=aA (aE ug (ah [] 3)) (aA (bX (cb (ax aF (ax fk (ay aP (aq 0)) (aq 1)) 1#1)) (ah [] 4) (bX (cb (ax aF (ax fk (ay aP (ag (au aC 0 1#0))) (aq 2)) 1#1)) (ah [] 5) (fX 3 (ay dk (ag (bb [6] (aR (bj 0 (aV (ae 4)) (aV (au aF 4 (aq 1))))) (ah [] 6) bw (bj 6 (aV (ae 5)) (aV (au aF 5 (aq 2))))))) (eD (.bl true))))) (aU (ay iJ (ag (ay nZ (aq 3))))))
def uA:DF:=bF [] 7 VF
abbrev VG:DS:=aU (az uA [.val (ae 0),.val (iE 3#3 (ay aP (aq 0))),.val (iE 3#3 (ay aP (ag (au aC 0 1#0))))])
def jl:DF:=bF [] 1 VG
abbrev FY:DS:=aA (aE (ay jA (ag (au aC 0 1#2))) (ah [] 2)) (aA (aE (aX aJ) (ah [] 3)) (aA (bX (aR (ae 1)) (ah [] 4) (bX (cb (au aC 0 1#0)) (ah [] 5) (aA (aE (eD (.str [])) (ah [] 6)) (aA (bX (aR (ae 4)) (ah [] 7) (aE (au aF 6 (ag (ax aC (au jB 2 (aq 7)) (aq 5)))) (ah [] 6))) (dt 3 (ae 6)))))) (aU (ay dk (aq 3)))))
def gJ:DF:=bF [] 8 FY
abbrev VH:DS:=aA (bA (cu (bD (aD (eL "list" (aq 2)))) (bD (aD (ay eJ (ag (bb [4] (aR (ae 2)) (ah [] 4) bw (az lP [.val (ae 0),.val (ae 4)]))))))) (aU (eD (.bl false))) bI) (aA (bA (cu (aD (au dP 2 (ag (ay iJ (aq 2))))) (cu (aD (ax dP (ay nY (ag (ay iK (ag (bb [4] (aR (ae 2)) (ah [] 4) bw (cp (aw (ae 4) (aw 3#1 aJ)))))))) (ag (ay aP (aq 2))))) (aD (ax (eY true) (cp (aw (ae 1) aJ)) (aq 2))))) (aU (eD (.bl false))) bI) (aA (aE (ay iK (ag (bb [4] (aR (ae 2)) (ah [] 4) bw (cp (aw (ae 4) (aw 3#1 aJ)))))) (ah [] 3)) (aA (bX (aR (ae 2)) (ah [] 4) (bA (bD (aD (ay eJ (ag (bb [5] (aR (az jl [.val (az gJ [.val (ae 0),.val (ae 4)])])) (ah [] 5) bw (ax (d_ false) (ae 5) (aq 3))))))) (aU (eD (.bl false))) bI)) (aU (eD (.bl true))))))
def qQ:DF:=bF [] 6 VH
abbrev uB:DS:=bA (cu (bD (aD (eL "str" (aq 1)))) (aD (ax (eW true) (ae 1) (ag (ay jA (ag (au aC 0 1#2))))))) (mR [78,111,84,105,108,101] [[116,105,108,101]] (aw (ae 1) aJ)) bI
def kz:DX:=jh [] 2 uB
theorem FZ:fA ["rule","thing"] ["rule","thing"] (bG x6):=scc
abbrev VI:DS:=aU (ay eJ (ag (bb [2] (aR (ay (dQ []) (aq 1))) (ah [] 2) bw (ax (eW false) (ae 2) (aq 0)))))
def m9:DF:=bF [] 3 VI
abbrev VJ:DS:=aA (bA (cu (bD (aD (eL "str" (aq 0)))) (bD (aD (iz df df 3#1 (ay aP (aq 0)) (aq 1))))) (aU (eD (.bl false))) bI) (aU (ay eJ (ag (bb [2] (aR (ae 0)) (ah [] 2) bw (iz df df (eD (.str [97])) (ae 2) (ag (eD (.str [122]))))))))
def oh:DF:=bF [] 3 VJ
abbrev VL:DS:=aA (bA (cu (bD (aD (eL "tuple" (aq 0)))) (bD (aD (iz df df 3#1 (ay aP (aq 0)) 1#64)))) (aU (eD (.bl false))) bI) (aA (bX (aR (ae 0)) (ah [] 1) (bA (cu (bD (aD (az oh [.val (ae 1),.val 3#64]))) (aD (ax dP (ay aP (aq 1)) (ag (ay aP (ag (au aC 0 1#0))))))) (aU (eD (.bl false))) bI)) (aU (eD (.bl true))))
def qR:DF:=bF [] 2 VL
abbrev VM:DS:=aU (gz (az qR [.val (ae 0)]) (gz (ax df (ay aP (aq 0)) (aq 1)) (ax df (ay aP (ag (au aC 0 1#0))) (aq 1))))
def jI:DF:=bF [] 2 VM
abbrev VN:DS:=aA (aE (cp aJ) (ah [] 3)) (aA (bX (aR (ae 1)) (ah [] 4) (aA (bA (cu (bD (aD (az jI [.val (ae 4),.val (ae 2)]))) (cu (bD (aD (az m9 [.val (ae 0),.val (ae 4)]))) (aD (au kq 4 (aq 3))))) (aU (eD (.bl false))) bI) (aE (ae 4) (ah [] 3)))) (aU (eD (.bl true))))
def qS:DF:=bF [] 5 VN
abbrev VO:DS:=aU (ay dk (ag (bb [5] (aR (bj 0 (aV (ae 1)) (aV (au aF 1 (aq 3))))) (ah [] 5) bw (bj 5 (aV (ae 2)) (aV (au aF 2 (aq 4)))))))
def lQ:DF:=bF [] 6 VO
abbrev VP:DS:=aA (aE (aX aJ) (ah [] 3)) (aA (bX (cb (ax aF (ax fk (ay aP (aq 0)) (aq 1)) 1#1)) (ah [] 4) (bX (cb (ax aF (ax fk (ay aP (ag (au aC 0 1#0))) (aq 2)) 1#1)) (ah [] 5) (dt 3 (az lQ [.val (ae 0),.val (ae 4),.val (ae 5),.val (ae 1),.val (ae 2)])))) (w8 [] 3))
def oi:DF:=bF [] 6 VP
abbrev VQ:DS:=aA (aE (j7 (aD (ax de (au aC 0 1#0) 1#1)) (ay aP (aq 1)) (iE (ay aP (aq 1)) 3#2)) (ah [] 2)) (aA (aE (j7 (aD (ax de (au aC 0 1#1) 1#1)) (ay aP (ag (au aC 1 1#0))) (iE (ay aP (ag (au aC 1 1#0))) 3#2)) (ah [] 3)) (aU (az oi [.val (ae 1),.val (ae 2),.val (ae 3)])))
def jm:DF:=bF [] 4 VQ
abbrev F0:DS:=aA (aE (aX aJ) (ah [] 3)) (aA (bX (aR (ae 2)) (ah [] 4) (bX (cb (ae 1)) (ah [] 5) (dt 3 (ay (dQ []) (ag (bb [6] (aR (ae 4)) (ah [] 6) bw (ax aC (au jB 0 (aq 6)) (aq 5)))))))) (aU (ay dk (aq 3))))
def lR:DF:=bF [] 7 F0
abbrev VR:DS:=aU (az oi [.val (ae 0),.val (iE (ay aP (aq 0)) 3#3),.val (iE (ay aP (ag (au aC 0 1#0))) 3#3)])
def qT:DF:=bF [] 1 VR
abbrev F3:DS:=aA (gD (g9 kz [.val (ae 0),.val (ae 1)])) (aA (aE (ay jA (ag (au aC 0 1#2))) (ah [] 3)) (aA (bA (cu (bD (aD (eL "list" (aq 2)))) (bD (aD (az qS [.val (ae 3),.val (ae 2),.val 3#3])))) (aU (eD (.bl false))) bI) (aA (aE (ay iK (ag (bb [6] (aR (ae 2)) (ah [] 6) bw (cp (aw (ae 6) (aw (eD (.bl true)) aJ)))))) (ah [] 4)) (aA (bA (aD (ax (d_ true) (cp (aw (ae 1) aJ)) (aq 4))) (aU (eD (.bl false))) bI) (aA (aE ug (ah [] 5)) (aA (bX (aR (ae 2)) (ah [] 6) (bX (aR (az jm [.val (ae 0),.val (ae 6)])) (ah [] 7) (bA (aD (ax (d_ true) (ae 7) (aq 5))) (aA (fX 5 (ae 7) (eD (.bl true))) (aA (aE (az lR [.val (ae 3),.val (au aC 0 1#0),.val (ae 7)]) (ah [] 8)) (bA (bD (aD (ay eJ (ag (bb [9] (aR (az qT [.val (ae 8)])) (ah [] 9) bw (ax (d_ false) (ae 9) (aq 4))))))) (aU (eD (.bl false))) bI))) bI))) (aU (eD (.bl true)))))))))
def gK:DX:=jh [] 10 F3
theorem F4:fA ["rule","tile","thing","block_of","listed","looked","floor","part","grown","piece"] ["rule","tile","thing"] (bG x8):=scc
abbrev VS:DS:=aA (aE (az qQ [.val (ae 0),.val (ae 1),.val (ae 2)]) (ah [] 3)) (aA (aE (gj gK [.val (ae 0),.val (ae 1),.val (ae 2)]) (ah [] 4)) (aU (gz (eL "bool" (aq 4)) (gz (au de 4 (aq 3)) (ax de (gj gK [.val (ae 0),.val (ae 1),.val (ae 2)]) (aq 3))))))
def gL:DF:=bF [] 5 VS
abbrev F5:DS:=aA (bA (aD (au fH 1 (ag (ay aP (aq 0))))) (aU (au aC 0 (aq 1))) bI) (aU 3#0)
def oj:DF:=bF [] 2 F5
abbrev F7:DS:=aA (aE (sS (ae 0) (ax fk 3#0 (aq 0))) (ah [] 1)) (aU (aX (aw (ae 1) (aw (ay nL (ag (au we 1 (ag (ax sM 3#10 1#18))))) (aw (au eT 1 1#1000003) aJ)))))
def m_:DF:=bF [] 2 F7
abbrev F8:DS:=aA (aE (ax eT (au aF 0 1#7919) 1#2147483647) (ah [] 0)) (aU (ax eT (ax aF (ax aF (au iA 0 (aq 0)) (ag (ax iA 3#48271 (aq 0)))) 1#12345) 1#2147483629))
def om:DF:=bF [] 1 F8
abbrev F9:DS:=aA (bA (aD (ax de (au aC 0 1#1) 1#1)) (aA (aE (ax eT (au aC 0 1#0) (aq 1)) (ah [0] 2)) (aA (k_ 0 3#0 (ax j8 (au aC 0 1#0) (aq 1))) (aU (ae 2)))) bI) (aA (k_ 0 3#2 (az om [.val (ax aF (az om [.val (au aC 0 1#2)]) 1#7)])) (aU (ax eT (ax j8 (au aC 0 1#2) 1#64) (aq 1))))
def cQ:DF:=bF [0] 3 F9
abbrev F_:DS:=aA (aE (eD (.str qU)) (ah [0] 2)) (aA (aE (ax aC (pU [.tup [.int 2,.int 2],.tup [.int 1,.int 2],.tup [.int 2,.int 1],.tup [.int 2,.int 2],.tup [.int 1,.int 3],.tup [.int 2,.int 3],.tup [.int 3,.int 1],.tup [.int 3,.int 2],.tup [.int 4,.int 4],.tup [.int 2,.int 2]]) (ag (az cQ [.io 0,.val 3#10]))) (iC 2 (fo (ah [0] 3) (fo (ah [0] 4) jy)))) (aA (aE (az cQ [.io 0,.val (ax fk 3#27 (aq 1))]) (ah [0] 5)) (aA (aE (bj 2 (aV (ae 5)) (aV (ax aF (au aF 5 1#1) (ag (az cQ [.io 0,.val (ae 1)]))))) (ah [0] 6)) (aA (aE (ax aF 3#1 (ag (az cQ [.io 0,.val 3#3]))) (ah [0] 7)) (aA (aE (aX aJ) (ah [0] 8)) (aA (bX (aR (ae 6)) (ah [0] 9) (aA (aE (aX aJ) (ah [0] 10)) (aA (bX (cb (ae 3)) (ah [0] 11) (aA (aE (bb [14] (cb (ae 4)) (ah [0] 14) bw (au aC 6 (ag (ax j8 (az cQ [.io 0,.val (ay aP (aq 6))]) (aq 7))))) (ah [0] 12)) (dt 10 (ay (dQ []) (aq 12))))) (dt 8 (cp (aw (ae 9) (aw (ay dk (aq 10)) aJ))))))) (aA (bA (aD (ax de (az cQ [.io 0,.val 3#2]) 1#0)) (aA (aE (au aC 8 1#0) (iC 2 (fo (ah [0] 9) (fo (ah [0] 13) jy)))) (k_ 8 3#0 (cp (aw (ae 9) (aw (ax aF (cp (aw (au aF 9 (ag (pF (au aC 13 1#0) (aV 3#1) bE))) aJ)) (ag (bj 13 (aV 3#1) bE))) aJ))))) bI) (aU (cp (aw (ae 3) (aw (ae 4) (aw (ay dk (aq 8)) aJ))))))))))))
def oq:DF:=bF [0] 15 F_
abbrev VT:DS:=aA (aE (az oq [.io 0,.val 3#3]) (ah [0] 1)) (aA (bA (aD (ax fH (ax iA (au aC 1 1#0) (ag (au aC 1 1#1))) 1#7)) (aU (ae 1)) bI) (aA (aE (bb [3,4] (aR (au aC 1 1#2)) (iC 2 (fo (ah [0] 3) (fo (ah [0] 4) jy))) bw (cp (aw (ae 3) (aw (ay dk (ag (bb [5] (aR (bj 4 bE (aV 3#2))) (ah [0] 5) bw (bj 5 bE (aV 3#2))))) aJ)))) (ah [0] 2)) (aU (cp (aw 3#2 (aw 3#2 (aw (ay dk (aq 2)) aJ)))))))
def ot:DF:=bF [0] 6 VT
abbrev VU:DS:=aA (aE ug (ah [] 2)) (aA (aE (ay nR (aq 1)) (ah [] 3)) (aA (fU (aD (au dP 3 (ag (aX aJ)))) (aA (aE (mX 3) (ah [] 4)) (bA (aD (ax (d_ true) (ae 4) (aq 2))) (aA (fX 2 (ae 4) (eD (.bl true))) (mS 3 (az jl [.val (az gJ [.val (ae 0),.val (ae 4)])]))) bI)) 1000000) (aU (ay iJ (ag (ay nZ (aq 2)))))))
def kA:DF:=bF [] 5 VU
abbrev VV:DS:=aA (aE (az f7 [.val (ae 1)]) (ah [0] 2)) (aA (aE (ax aF 3#1 (ag (az cQ [.io 0,.val 3#3]))) (ah [0] 3)) (aA (aE (aX aJ) (ah [0] 4)) (aA (bX (cb (ax aF 3#1 (ag (az cQ [.io 0,.val 3#3])))) (ah [0] 5) (dt 4 (ay (dQ []) (ag (bb [6] (cb (ae 3)) (ah [0] 6) bw (au aC 2 (ag (az cQ [.io 0,.val (ay aP (aq 2))])))))))) (aU (ay dk (aq 4))))))
def lT:DF:=bF [0] 7 VV
abbrev Ga:DS:=aA (aE (az cQ [.io 0,.val (ay aP (aq 2))]) (ah [0] 3)) (aA (aE (au aC 2 (aq 3)) (ah [0] 4)) (aA (aE (az lT [.io 0,.val (ae 1)]) (ah [0] 5)) (aA (aE (aX (aw (ax aF (bj 2 bE (aV (ae 3))) (ag (bj 2 (aV (au aF 3 1#1)) bE))) (aw (ax aF (bj 2 bE (aV (au aF 3 1#1))) (ag (bj 2 (aV (ae 3)) bE))) aJ))) (ah [0] 6)) (aA (aE (au aF 6 (ag (aX (aw (ay jf (aq 2)) (aw (ay dk (aq 2)) aJ))))) (ah [0] 6)) (aA (aE (au aF 6 (ag (aX (aw (ay iJ (ag (au aF 2 (ag (aX (aw (ae 5) aJ)))))) (aw (au aF 2 (ag (aX (aw (ae 5) aJ)))) (aw (ax aF (ax aF (bj 2 bE (aV (ae 3))) (ag (aX (aw (ae 5) aJ)))) (ag (bj 2 (aV (au aF 3 1#1)) bE))) aJ)))))) (ah [0] 6)) (aA (aE (au aF 6 (ag (aX (aw (eD .aI) (aw (aX aJ) (aw mE aJ)))))) (ah [0] 6)) (aA (aE (aX (aw (ay nR (aq 4)) (aw (eD (.str [97])) (aw (eD .aI) (aw (cp aJ) (aw (eD (.tup [.str []])) (aw (eD (.tup [.str [49]])) aJ))))))) (ah [0] 7)) (aA (aE (au aF 7 (ag (aX (aw (eD (.tup [.str [65]])) (aw (ax aF (ax aF (au aF 4 (aq 4)) (aq 4)) (aq 4)) (aw (eD (.tup [.str [97,98],.str [97]])) (aw (eD (.tup [.int 0])) (aw 3#7 aJ)))))))) (ah [0] 7)) (aA (aE (au aF 6 (ag (bb [8] (aR (ae 7)) (ah [0] 8) bw (ax aF (ax aF (bj 2 bE (aV (ae 3))) (ag (aX (aw (ae 8) aJ)))) (ag (bj 2 (aV (au aF 3 1#1)) bE)))))) (ah [0] 6)) (aU (au aC 6 (ag (az cQ [.io 0,.val (ay aP (aq 6))])))))))))))))
def lU:DF:=bF [0] 9 Ga
abbrev Gb(ce:Tx->Nat):DS:=aA (aE (aX (aw (fL ce ys (λz=>z==[78,111,70,108,111,111,114]) (aq 0)) (aw (fL ce ys (λz=>z==[78,111,80,108,97,99,101]) (aq 0)) aJ))) (ah [] 1)) (aA (aE (au aF 1 (ag (aX (aw (fL ce ys (λz=>z==[78,111,78,117,109,98,101,114]) (aq 0)) (aw (fL ce ys (λz=>z==[78,111,82,111,119]) (aq 0)) aJ))))) (ah [] 1)) (aA (aE (au aF 1 (ag (aX (aw (fL ce ys (λz=>z==[85,110,108,105,107,101]) (aq 0)) (aw (fL ce ys (λz=>z==[78,111,84,105,108,101]) (aq 0)) aJ))))) (ah [] 1)) (aA (aE (au aF 1 (ag (aX (aw (fL ce ys (λz=>z==[78,111,82,117,108,101]) (aq 0)) (aw (fL ce ys (λz=>z==[78,111,84,101,120,116]) (aq 0)) aJ))))) (ah [] 1)) (aA (dt 1 (fL ce ys (λz=>z==[84,111,111,71,114,101,97,116]) (aq 0))) (aA (bA (cu (bD (aD (fL ce ys (λj=>true) (aq 0)))) (aD (ax dP (ay qd (aq 1)) 1#1))) (aU (eD (.str [111,116,104,101,114]))) bI) (aA (aE (pU [.str [102,108,111,111,114],.str [112,108,97,99,101],.str [110,117,109,98,101,114],.str [114,111,119],.str [117,110,108,105,107,101],.str [116,105,108,101],.str [114,117,108,101],.str [116,101,120,116],.str [103,114,101,97,116]]) (ah [] 2)) (aU (au aC 2 (ag (ay qe (aq 1)))))))))))
def ou(ce:Tx->Nat):DF:=bF [] 3 (Gb ce)
abbrev Ge(ce:Tx->Nat):DS:=aA (mL ce ys 2 (gD (g9 gK [.val (ae 0),.val (ae 1),.val (eD .aI)])) (aU (ax de (az (ou ce) [.val (ae 2)]) (ag (eD (.str [116,105,108,101])))))) (aU (eD (.bl false)))
def kB(ce:Tx->Nat):DF:=bF [] 3 (Ge ce)
abbrev Gf:DS:=aA (aE (az f7 [.val (ae 1)]) (ah [0] 2)) (aA (aE (bb [5] (aR (eD (.str qU))) (ah [0] 5) (aD (ax (eW true) (ae 5) (aq 2))) (ae 5)) (ah [0] 3)) (aA (aE (aX (aw (eD .aI) (aw 3#0 (aw (eD (.bl true)) (aw (eD (.str [])) (aw (ax ly (au aC 2 1#0) 1#2) (aw (ay nW (ag (au aC 2 1#0))) aJ))))))) (ah [0] 4)) (aA (aE (au aF 4 (ag (aX (aw (aX (aw (au aC 2 1#0) aJ)) (aw (cp (aw (au aC 2 1#0) aJ)) (aw mE (aw (au aC 3 1#0) (aw (au aC 3 (ag (ay nS 1#1))) (aw (eD (.str [49])) aJ))))))))) (ah [0] 4)) (aU (au aC 4 (ag (az cQ [.io 0,.val 3#12])))))))
def kC:DF:=bF [0] 6 Gf
abbrev Gg(ce:Tx->Nat):DS:=aA (aE (pU [.tup [.str [97]],.tup [.str [97,97]],.tup [.str [97,97,97]]]) (ah [] 1)) (aA (bX (aR (aX (aw (ae 1) (aw (bj 1 bE (aV 3#2)) (aw (bj 1 bE (aV 3#1)) (aw (bj 1 (aV 3#1) bE) (aw (au mQ 1 1#2) (aw (ay jf (aq 1)) (aw (aX aJ) aJ))))))))) (ah [] 2) (bA (bD (aD (az gL [.val (eD (.tup [.int 1,.int 2,.tup [.tup [.str [97],.tup [.str [97,97]]]]])),.val (eD (.str [97])),.val (ae 2)]))) (aU (eD (.bl false))) bI)) (aA (bX (aR (ax aF (aX (aw (az oj [.val (ae 0),.val 3#0]) aJ)) (ag (bj 0 (aV 3#1) (aV 3#3))))) (ah [] 3) (aA (aE (az m_ [.val (ae 3)]) (ah [] 4)) (aA (aE (az ot [.io 4]) (ah [] 5)) (aA (aE (az f7 [.val (ae 5)]) (ah [] 6)) (aA (aE (au aC 6 (ag (az cQ [.io 4,.val (ay aP (aq 6))]))) (ah [] 7)) (aA (aE (az kA [.val (ae 5),.val (aX (aw (cp (aw (ae 7) aJ)) aJ))]) (ah [] 8)) (aA (bA (aD (ax (mK true) (gj gK [.val (ae 5),.val (ae 7),.val (ae 8)]) (ag (eD (.bl true))))) (aU (eD (.bl false))) bI) (aA (bA (aD (ax fH (ay aP (aq 8)) 1#80)) (aA (aE (az kA [.val (ae 5),.val (aX (aw (cp (aw (ae 7) aJ)) (aw (az lT [.io 4,.val (ae 5)]) aJ)))]) (ah [] 9)) (aA (aE (ax aF (aX (aw (ae 9) aJ)) (ag (bb [11] (cb 3#4) (ah [] 11) bw (az lU [.io 4,.val (ae 5),.val (ax aC (aX (aw (ae 8) (aw (ae 9) aJ))) (ag (au eT 11 1#2)))])))) (ah [] 10)) (bA (bD (aD (ay eJ (ag (bb [2] (aR (ae 10)) (ah [] 2) bw (az gL [.val (ae 5),.val (ae 7),.val (ae 2)])))))) (aU (eD (.bl false))) bI))) bI) (bA (cu (bD (aD (az (kB ce) [.val (ae 5),.val (az kC [.io 4,.val (ae 5)])]))) (bD (aD (az gL [.val (ae 5),.val (au aC 6 1#0),.val (ae 8)])))) (aU (eD (.bl false))) bI))))))))) (aU (eD (.bl true)))))
def uC(ce:Tx->Nat):DF:=bF [] 12 (Gg ce)
theorem Gh:fA ["script","good","thing","cell","pen","rule","tiles","tile","floors","wider","things","turn"] ["script"] (bG ku):=scc
section
variable{w:Wx}{h:Heap}{x:Str}{st:Stmt}{N:List Str}{n k:Nat}{fb:DS}{G:DF}
theorem cR(W':K.In h)(M':h.Ns Wr mg)(d:bf K x st)(hG:G=bF np N.length fb:=by rfl)(hn:(N.take n).length=n:=by rfl)(S:fA N (N.take n) (bG st):=by exact⟨rfl,rfl,rfl,V',rfl,V',V'⟩)(hb:∀{f fd},dM K x x st f fd->Binds K fd (N.take n) []:=by intro f fd F;first|exact Ee F λj j j j j j j=>rfl|exact t5 F λj j j j j j j j=>rfl|exact xx F λj j j j j j j j j=>rfl|exact bd4 F λj j j j j j j j j j=>rfl|exact Ef F λj j j j j j j j j j j=>rfl|exact bd6 F λj j j j j j j j j j j j=>rfl)(dC:∀(f:Addr)(c:Fc)(aQ:Value)(A:Wp)(outer:List Env)(s:W1)(H:Hp)(E:XK),cj k (A.deeper (Ji x (bG st) s.heap.objs.size f aQ))->Np c np->N.Nodup->fm (eQ di P w K mg base N x (bG st) f aQ A outer s H E).iV c (eR st) fb:=by intro f c aQ A outer s H E hr eU ow;have hq:=tG hr;infer_instance):7#0 (k+1) x n G:=by obtain⟨f,fd,F,m⟩:=tZ W' M' d;subst hG;have:=OI F m (hb F) S (λc aQ A outer s H E hr eU=>dC f c aQ A outer s H E hr eU S.nd) λss y h=>tF h;rwa[hn]at this
theorem VW(W':K.In h)(M':h.Ns Wr mg)(d:bf K x st)(hG:G=bF np N.length fb:=by rfl)(hn:(N.take n).length=n:=by rfl)(S:fA N (N.take n) (bG st):=by exact⟨rfl,rfl,rfl,V',rfl,V',V'⟩)(hb:∀{f fd},dM K x x st f fd->Binds K fd (N.take n) []:=by intro f fd F;first|exact Ee F λj j j j j j j=>rfl|exact t5 F λj j j j j j j j=>rfl|exact xx F λj j j j j j j j j=>rfl|exact bd4 F λj j j j j j j j j j=>rfl|exact Ef F λj j j j j j j j j j j=>rfl|exact bd6 F λj j j j j j j j j j j j=>rfl)(dC:∀(f:Addr)(c:Fc)(aQ:Value)(A:Wp)(outer:List Env)(s:W1)(H:Hp)(E:XK),fK k (A.deeper (Ji x (bG st) s.heap.objs.size f aQ))->Np c np->N.Nodup->fm (eQ di P w K mg base N x (bG st) f aQ A outer s H E).tW c (eR st) fb:=by intro f c aQ A outer s H E hr eU ow;have hq:=R4 hr;infer_instance):qb P w K mg base (k+1) x n G:=by obtain⟨f,fd,F,m⟩:=tZ W' M' d;subst hG;have:=R5 F m (hb F) S (λc aQ A outer s H E hr eU=>dC f c aQ A outer s H E hr eU S.nd) λss y h=>tF h;rwa[hn]at this
end
section
theorem cv{p:Prop}(x:p):p:=x
local macro_rules|`(tactic|exists$e:ident)=>`(tactic|with_reducible refine'@$e ..)
local macro_rules|`(tactic|exists$p,$e:ident,$a,$b,$_)=>`(tactic|(with_reducible show SE _ _ _ $p;refine'@$e ..);rotate_left;exact$a;exact$b)
local macro_rules|`(tactic|exists$p,$e:ident,$a,$b,$_,$_)=>`(tactic|(with_reducible show ST _ _ _ $p;refine'@$e ..);rotate_left;exact$a;exact$b)
local macro_rules|`(tactic|exists$s:str)=>do let ts<-(s.getString.splitOn " ").toArray.mapM λh=>`(tacticSeq|with_reducible refine'@$(Lean.mkIdent h.toName) ..);`(tactic|first$[|$ts]*)
local macro_rules|`(tactic|exists$s:str,$_)=>do let ts<-(s.getString.splitOn " ").toArray.mapM λh=>`(tacticSeq|exact$(Lean.mkIdent h.toName));`(tactic|first$[|$ts]*)
local macro_rules|`(tactic|exists$s:str,$_,$_)=>do let i(x:String):=Lean.mkIdent x.toName;let ts<-(s.getString.splitOn ";").toArray.mapM λl=>match l.splitOn " " with|[x,o,r,a,b]=>`(tacticSeq|exists $(i x) $(i o) _ _,$(i r):ident,$(i a),$(i b),_)|[_,x,o,r,a,b]=>`(tacticSeq|exists aD ($(i x) $(i o) _ _),$(i r):ident,$(i a),$(i b),_,_)|_=>`(tacticSeq|fail);`(tactic|first$[|$ts]*)
set_option hygiene false in 
local macro_rules|`(tactic|infer_instance)=>`(tactic|(repeat' first|((with_reducible show SS _ _ _ _);first|((with_reducible show SS _ _ _ (bX _ _ _));first|(refine CF PassesOwn.never rfl ?_ ?_ ?_)|(refine SS.iV ?_;refine CF PassesOwn.never rfl ?_ ?_ ?_))|((with_reducible show SS _ _ _ (mR _ _ _));refine Sl [78,111,84,105,108,101] [[116,105,108,101]] x9 (hr.mono Z') rfl rfl T.FW ?_ x_ Z' V' Z')|((with_reducible show SS _ _ _ (mL _ _ _ _ _));refine Rx (ce:=ce) (ys:=ys) (i:=2) rfl eU rfl rfl ow rfl rfl rfl T.Vj T.Vs (λy hy=>T.VD y hy) (λc pn xe eU x_=>?_) λea=>?_)|((with_reducible show SS _ _ _ (aE (bb _ _ _ _ _) (ah _ _)));refine OH eU rfl (@C5 _ _ _ rfl rfl) ow rfl rfl ?_ (λl s0 H0 ex=>?_) (λl s0 H0 ex=>?_) (λl s0 H0 ex=>?_) (C2 eU rfl))|((with_reducible show SS _ _ _ (fU _ _ _));refine Oh 1000000 (λh1 h2=>Kj PassesOwn.never h1 h2) ?_ ?_)|exists "Ss TB PV N0 N1 N9 N8 O7 Ob O6")|((with_reducible show SE _ _ _ _);first|((with_reducible show SE _ _ _ (az _ _));first|(exists OR;rotate_left 2;assumption)|(exists R6;rotate_left 2;assumption))|((with_reducible show SE _ _ _ (fL _ _ _ _));first|((with_reducible show SE _ _ (.Call _ [_,.Name "ValueError" _] _ _) _);exists R3)|exists R0)|exists ax (eY false) _ _,j6,Vb hq,xY false,_|exists ax (eY true) _ _,j6,Fj hq,xY true,_|((with_reducible show SE _ _ _ 3#_);exists "BU O5")|exists ax (eW false) _ _,j6,@PC _ hq,@wZ _ false,_|exists ax (eW true) _ _,j6,@Dy _ hq,@wZ _ true,_|exists au jB _ _,Ca,PX hq,PF,_|exists ax de _ _,j6,v3 hq,wb,_|exists au de _ _,sI,v3 hq,wb,_|exists ax (d_ false) _ _,j6,Tr hq,EG false,_|exists ax dP _ _,j6,sA hq,sN,_|exists au dP _ _,sI,sA hq,sN,_|((with_reducible show SE _ _ _ (iz _ _ _ _ _));refine Nq pA pA mz mz ?_ ?_ ?_)|((with_reducible show SE _ _ _ (ay jf _));refine PR ?_ (@M5 _ _ _ _))|((with_reducible show SE _ _ _ (bb _ _ _ _ _));refine OG rfl (@C5 _ _ _ rfl rfl) ?_ (λl s0 H0 ex=>?_) (λl s0 H0 ex=>?_) (λl s0 H0 ex=>?_) (C2 eU rfl))|((with_reducible show SE _ _ _ (gj _ _));refine Sg (by assumption) (by first|exact C1|exact D0) (hr.mono Z') rfl rfl ?_ rfl)|exists "au mQ sH Sd Se;au iA sH C6 v_;ax iA mx C6 v_;ax df j6 pA mz;ax aC Nf vw wc;au aC Ca vw wc;ax aF mx Ci Cj;au aF sH Ci Cj;ax fk mx Kv Nv;ax ly mx Pn Po;ax eT mx AN Ck;au eT sH AN Ck;ax j8 mx Kw Nw;ax sM mx Kx Nx;au we sI Ny mz;ax fH j6 sO sP;au fH sI sO sP",_,_|exists "Rv Nn TY Sr NO PY Rc Rf BX TX TN PU TJ MM BV BW O3 O4 Cs Ct Pp NC NG Pq NJ Py UY NH NZ Sa Sb UQ NL NS NV Nm Nl")|((with_reducible show ST _ _ _ _);first|exists aD (ax (mK true) _ _),my,P_,Q_ true,_,_|exists aD (ax (eY true) _ _),my,Fj hq,xY true,_,_|exists aD (ax (d_ true) _ _),my,Ts hq,EG true,_,_|exists aD (ax de _ _),my,v3 hq,wb,_,_|exists aD (ax dP _ _),my,sA hq,sN,_,_|exists aD (au dP _ _),v9,sA hq,sN,_,_|exists aD (au kq _ _),v9,U_ hq,Va,_,_|exists aD (ax (eW true) _ _),my,@Dy _ hq,@wZ _ true,_,_|((with_reducible show ST _ _ _ (aD (iz _ _ _ _ _)));refine Nr pA pA mz mz ?_ ?_ ?_)|exists "T ax fH my sO sP;T au fH v9 sO sP",_,_|exists "Ng Nk Nj")|((with_reducible show fm _ _ _ _);first|exists "CA CB CC"|exact CA|refine CB ?_ ?_|refine CC ?_)|exists "MK MJ Co OX OJ OZ OY NQ NR N3 N7 N5 N6 Ot Ox Ov Ow Pe Of Ni Nh sw_and1 Oo Oq"|(refine cv ?_;first|assumption|rfl|exactλ_ _=>rfl|exactλ_=>rfl|decide|decide+kernel|exact hr.mono Z'|exact hr.mono (Uo _ _)|exact(hr.h.mono Z').mark _|exact Or.inl rfl|exact Or.inr rfl|exists "D0 C1 T.Vt T.qE T.Vk T.Vu T.Vl T.Vv T.Vm T.Vw T.Vn T.Vx T.Vo T.Vy T.FW T.Vz T.Vp T.VA T.Vq T.VB T.Vr T.VC T.qy boot_ValueError T.ty_list T.qG boot_list T.qI T.qH T.qN T.qO T.qP T.qF T.qM T.qz T.qC T.qD T.qK T.ty_bool T.qA boot_bool T.ty_str T.qL boot_str T.ty_tuple boot_tuple T.qJ",_|exact pv _|exact nomark _)))
section
variable{w:Wx}{h:Heap}{ce:Tx->Nat}(T:Txt ce K mg)(W':K.In h)(M':h.Ns Wr mg)
include T W' M'
theorem VX(d:bf K "_law_tiles_of" Fp):7#0 1 "_law_tiles_of" 1 f7:=cR (N:=["rule","tile","block"]) W' M' d
theorem VY(d:bf K "_law_floor_good" Fq)(lV:7#0 1 "_law_tiles_of" 1 f7):7#0 2 "_law_floor_good" 2 lP:=cR (N:=["rule","thing","sizes","row","sign"]) W' M' d
theorem VZ(d:bf K "_law_parts" Fs):7#0 1 "_law_parts" 3 uA:=cR (N:=["floor","high","wide","found","row","column","line"]) W' M' d
theorem V0(d:bf K "_law_greats" Ft)(Gi:7#0 1 "_law_parts" 3 uA):7#0 2 "_law_greats" 1 jl:=cR (N:=["floor"]) W' M' d
theorem V1(d:bf K "_law_grown" Fu):7#0 1 "_law_grown" 2 gJ:=cR (N:=["rule","floor","blocks","found","row","line","signs","tile"]) W' M' d
theorem V2(d:bf K "_law_due_of" Fv)(Gj:7#0 2 "_law_floor_good" 2 lP)(uD:7#0 2 "_law_greats" 1 jl)(uE:7#0 1 "_law_grown" 2 gJ):7#0 3 "_law_due_of" 3 qQ:=cR (N:=["rule","tile","thing","there","floor","part"]) W' M' d
end
theorem V3{w:Wx}{K:W2}(F:dM K "refuse_no_tile" "refuse_no_tile" x6 f fd)(hm:mg "refuse_no_tile"=some (.ref f))(hb:Binds K fd ["rule","thing"] [])(T:Txt ce K mg)(x9:xw P w K mg base (ce [78,111,84,105,108,101]) ["tile"]):kl P w K mg base 3 "refuse_no_tile" 2 kz:=DZ (np:=[]) (fb:=uB) F hm hb FZ λc aQ A outer s H E hr eU x_=>by have hq:=tG hr;have ow:=FZ.nd;infer_instance λss y h=>xn h
section
variable{w:Wx}{h:Heap}{ce:Tx->Nat}(T:Txt ce K mg)(W':K.In h)(M':h.Ns Wr mg)
include T W' M'
theorem V4(d:bf K "tiles_known" Fw):7#0 1 "tiles_known" 2 m9:=cR (N:=["block_of","floor","tile"]) W' M' d
theorem V5(d:bf K "letters_good" Fx):7#0 1 "letters_good" 2 oh:=cR (N:=["thing","most","sign"]) W' M' d
theorem V6(d:bf K "floor_good" Fy)(Gk:7#0 1 "letters_good" 2 oh):7#0 2 "floor_good" 1 qR:=cR (N:=["thing","row"]) W' M' d
theorem V7(d:bf K "floor_within" Fz)(Gm:7#0 2 "floor_good" 1 qR):7#0 3 "floor_within" 2 jI:=cR (N:=["thing","most"]) W' M' d
theorem V8(d:bf K "floors_rising" FA)(Gn:7#0 1 "tiles_known" 2 m9)(Gp:7#0 3 "floor_within" 2 jI):7#0 4 "floors_rising" 3 qS:=cR (N:=["block_of","things","most","ahead","thing"]) W' M' d
theorem V9(d:bf K "cut_floor" FC):7#0 1 "cut_floor" 5 lQ:=cR (N:=["floor","row","column","rows","columns","tiles"]) W' M' d
theorem V_(d:bf K "windows" FD)(Gq:7#0 1 "cut_floor" 5 lQ):7#0 2 "windows" 3 oi:=cR (N:=["floor","rows","columns","found","row","column"]) W' M' d
theorem W_(d:bf K "grown_parts" FE)(uF:7#0 2 "windows" 3 oi):7#0 3 "grown_parts" 2 jm:=cR (N:=["rule","floor","rows","columns"]) W' M' d
theorem Xa(d:bf K "laid_floor" FF):7#0 1 "laid_floor" 3 lR:=cR (N:=["block_of","high","floor","rows","row","line","tile"]) W' M' d
theorem Xb(d:bf K "great_pieces" FG)(uF:7#0 2 "windows" 3 oi):7#0 3 "great_pieces" 1 qT:=cR (N:=["floor"]) W' M' d
end
theorem Xd{w:Wx}{K:W2}(F:dM K "closed_holds" "closed_holds" x8 f fd)(hm:mg "closed_holds"=some (.ref f))(hb:Binds K fd ["rule","tile","thing"] [])(T:Txt ce K mg)(Gr:kl P w K mg base 3 "refuse_no_tile" 2 kz)(Gs:7#0 4 "floors_rising" 3 qS)(Gu:7#0 3 "grown_parts" 2 jm)(Gv:7#0 1 "laid_floor" 3 lR)(Gw:7#0 3 "great_pieces" 1 qT):kl P w K mg base 5 "closed_holds" 3 gK:=DZ (np:=[]) (fb:=F3) F hm hb F4 λc aQ A outer s H E hr eU x_=>by have hq:=tG hr;have ow:=F4.nd;infer_instance λss y h=>xn h
section
variable{w:Wx}{h:Heap}{ce:Tx->Nat}(T:Txt ce K mg)(W':K.In h)(M':h.Ns Wr mg)
include T W' M'
theorem Xe(d:bf K "_law_right" FH)(Gx:7#0 3 "_law_due_of" 3 qQ)(oy:kl P w K mg base 5 "closed_holds" 3 gK):7#0 6 "_law_right" 3 gL:=cR (N:=["rule","tile","thing","due","found"]) W' M' d
theorem Xf(d:bf K "_law_cell_at" FI):7#0 1 "_law_cell_at" 2 oj:=cR (N:=["script","k"]) W' M' d
theorem Xg(d:bf K "_law_pen_of" FJ):7#0 1 "_law_pen_of" 1 m_:=cR (N:=["cell","left"]) W' M' d
theorem Xh(d:bf K "_law_next" FK):7#0 1 "_law_next" 1 om:=cR (N:=["seed"]) W' M' d
theorem Xi(d:bf K "_law_draw" FL)(Gy:7#0 1 "_law_next" 1 om):7#0 2 "_law_draw" 2 cQ:=cR (N:=["pen","many","found"]) W' M' d
theorem Xj(d:bf K "_law_rule_by" FN)(jJ:7#0 2 "_law_draw" 2 cQ):7#0 3 "_law_rule_by" 2 oq:=cR (N:=["pen","most","letters","high","wide","start","tiles","alike","blocks","tile","rows","row","signs","block","column"]) W' M' d
theorem Xk(d:bf K "_law_small_rule" FO)(Gz:7#0 3 "_law_rule_by" 2 oq):7#0 4 "_law_small_rule" 1 ot:=cR (N:=["pen","rule","blocks","tile","block","row"]) W' M' d
theorem Xl(d:bf K "_law_closed_from" FP)(uD:7#0 2 "_law_greats" 1 jl)(uE:7#0 1 "_law_grown" 2 gJ):7#0 3 "_law_closed_from" 2 kA:=cR (N:=["rule","starts","there","fresh","floor"]) W' M' d
theorem Xm(d:bf K "_law_some_floor" FQ)(lV:7#0 1 "_law_tiles_of" 1 f7)(jJ:7#0 2 "_law_draw" 2 cQ):7#0 3 "_law_some_floor" 2 lT:=cR (N:=["pen","rule","tiles","wide","found","row","column"]) W' M' d
theorem Xn(d:bf K "_law_odd_of" FR)(jJ:7#0 2 "_law_draw" 2 cQ)(uG:7#0 3 "_law_some_floor" 2 lT):7#0 4 "_law_odd_of" 3 lU:=cR (N:=["pen","rule","floors","spot","floor","other","some","odd","one"]) W' M' d
theorem Xo(d:bf K "_law_kind_of" FT):qb P w K mg base 1 "_law_kind_of" 1 (ou ce):=VW (N:=["e","marks","words"]) W' M' d
theorem Xp(d:bf K "_law_refused" FU)(oy:kl P w K mg base 5 "closed_holds" 3 gK)(GB:qb P w K mg base 1 "_law_kind_of" 1 (ou ce)):7#0 6 "_law_refused" 2 (kB ce):=cR (N:=["rule","thing","e"]) W' M' d
theorem Xq(d:bf K "_law_odd_tile" FV)(lV:7#0 1 "_law_tiles_of" 1 f7)(jJ:7#0 2 "_law_draw" 2 cQ):7#0 3 "_law_odd_tile" 2 kC:=cR (N:=["pen","rule","tiles","some","odd","sign"]) W' M' d
end
theorem Xr{w:Wx}{K:W2}(F:dM K "law" "law" ku f fd)(T:Txt ce K mg)(lV:7#0 1 "_law_tiles_of" 1 f7)(oy:kl P w K mg base 5 "closed_holds" 3 gK)(GC:7#0 6 "_law_right" 3 gL)(GF:7#0 1 "_law_cell_at" 2 oj)(GG:7#0 1 "_law_pen_of" 1 m_)(jJ:7#0 2 "_law_draw" 2 cQ)(GH:7#0 4 "_law_small_rule" 1 ot)(GI:7#0 3 "_law_closed_from" 2 kA)(uG:7#0 3 "_law_some_floor" 2 lT)(GJ:7#0 4 "_law_odd_of" 3 lU)(GL:7#0 6 "_law_refused" 2 (kB ce))(GN:7#0 3 "_law_odd_tile" 2 kC){Gt:DF}(ya:∀ss y,Gt ss=some y->uC ce ss=some y):eO P w K mg base di 7 f fd ["script"] (ka 1 Gt):=CS (np:=[]) (fb:=Gg ce) F Gh λc aQ A outer s H E hr eU=>by have hq:=tG hr;have ow:=Gh.nd;infer_instance λss y h=>tF (ya ss y h)
end
theorem all_mk{l:PySem.W.OpenLaw}{w:Wx}{K:W2}{h:Heap}{mg:Str->Option Value}{fa:Addr}{Gt:DF}(ya:∀ce ss y,Gt ss=some y->uC ce ss=some y)(X:K.In h)(G:h.Ns Wr mg)(Xs:mg "law"=some (.ref fa))(d0:bf K "_law_tiles_of" Fp)(d1:bf K "_law_floor_good" Fq)(d2:bf K "_law_parts" Fs)(d3:bf K "_law_greats" Ft)(d4:bf K "_law_grown" Fu)(d5:bf K "_law_due_of" Fv)(d6:bf K "refuse_no_tile" x6)(d7:bf K "tiles_known" Fw)(d8:bf K "letters_good" Fx)(d9:bf K "floor_good" Fy)(yb:bf K "floor_within" Fz)(yc:bf K "floors_rising" FA)(yd:bf K "cut_floor" FC)(ye:bf K "windows" FD)(yf:bf K "grown_parts" FE)(yg:bf K "laid_floor" FF)(yh:bf K "great_pieces" FG)(yj:bf K "closed_holds" x8)(yl:bf K "_law_right" FH)(yn:bf K "_law_cell_at" FI)(yo:bf K "_law_pen_of" FJ)(yp:bf K "_law_next" FK)(yq:bf K "_law_draw" FL)(yr:bf K "_law_rule_by" FN)(yt:bf K "_law_small_rule" FO)(yv:bf K "_law_closed_from" FP)(yw:bf K "_law_some_floor" FQ)(yx:bf K "_law_odd_of" FR)(yy:bf K "_law_kind_of" FT)(yz:bf K "_law_refused" FU)(yB:bf K "_law_odd_tile" FV)(yC:nsIn K Wr "law"=some (some (.ref f31)))(yD:K.lookup f31=some ⟨oc31,od31,.func (QL "law" "law" (jY ku) (eR ku) (bG ku) .none kV31 dc31 pm31 an31 cd31 ct31),sl31⟩)(yE:codeIn K cd31 "law"=true)(yF:keepIn K (.ref f31)=true)(qy:nsIn K Wr "ValueError"=some none)(qz:nsIn K Wr "all"=some none)(qA:nsIn K Wr "bool"=some none)(qC:nsIn K Wr "dict"=some none)(qD:nsIn K Wr "int"=some none)(qE:nsIn K Wr "isinstance"=some none)(qF:nsIn K Wr "len"=some none)(qG:nsIn K Wr "list"=some none)(qH:nsIn K Wr "max"=some none)(qI:nsIn K Wr "min"=some none)(qJ:nsIn K Wr "range"=some none)(qK:nsIn K Wr "sorted"=some none)(qL:nsIn K Wr "str"=some none)(qM:nsIn K Wr "tuple"=some none)(qN:nsIn K Wr "MOST_CROSSED"=some (some (.int 2 t_MOST_CROSSED)))(qO:nsIn K Wr "MOST_SIDE"=some (some (.int 3 t_MOST_SIDE)))(qP:nsIn K Wr "MOST_TILES"=some (some (.int 64 t_MOST_TILES)))(yG:nsIn K Wr "FloorError"=some (some (.ref C_j)))(yH:nsIn K Wr "NoFloor"=some (some (.ref C_a)))(yI:nsIn K Wr "NoPlace"=some (some (.ref C_b)))(yJ:nsIn K Wr "NoNumber"=some (some (.ref C_c)))(yK:nsIn K Wr "NoRow"=some (some (.ref C_d)))(yL:nsIn K Wr "Unlike"=some (some (.ref C_e)))(uH:nsIn K Wr "NoTile"=some (some (.ref C_f)))(yM:nsIn K Wr "NoRule"=some (some (.ref C_g)))(yN:nsIn K Wr "NoText"=some (some (.ref C_h)))(yO:nsIn K Wr "TooGreat"=some (some (.ref C_i)))(GO:findIn K (.ref C_f) "__init__"=some (some (.ref fi_f)))(yP:K.lookup fi_f=some ⟨oci_f,odi_f,.func (QL "__init__" "NoTile.__init__" (jY qx) (eR qx) (bG qx) .none kVi_f dci_f pmi_f ani_f cdi_f cti_f),sli_f⟩)(yQ:codeIn K cdi_f "NoTile.__init__"=true)(yR:keepIn K (.ref fi_f)=true)(yS:lG K C_f fi_f=true)(yU:PySem.W.isFn K (.ref fi_f)=true)(yV:keepIn K (.ref C_f)=true)(yX:findIn K (.ref C_f) "__setattr__"=some (some (.builtin "object.__setattr__")))(yY:tU K C_f=true)(yZ:PySem.W.hasDictIn K C_f=true)(y6:PySem.W.takerIn K C_f "tile"=some none)(y8:xa K C_j=true)(y9:PySem.W.specialIn K (.builtin "object.__class__") "__get__"=some (some (.builtin "getset_descriptor.__get__")))(y_:PySem.W.takesIn K (.builtin "object.__class__")=some true)(zc:findIn K (.ref C_f) "__getattribute__"=some (some (.builtin "BaseException.__getattribute__")))(zd:findIn K (.ref C_f) "__getattr__"=some none)(ze:findIn K (.ref C_f) "__class__"=some (some (.builtin "object.__class__")))(zf:mroIn K C_f (.type "object")=some true)(zg:mroIn K C_f (.type "BaseException")=some true)(iL:PySem.W.isClsIn K C_f=true)(zh:kitOne K (.ref C_f) (.type "ValueError")=some true)(zk:kitOne K (.ref C_f) (.ref C_a)=some false)(zl:kitOne K (.ref C_f) (.ref C_b)=some false)(zm:kitOne K (.ref C_f) (.ref C_c)=some false)(zo:kitOne K (.ref C_f) (.ref C_d)=some false)(zp:kitOne K (.ref C_f) (.ref C_e)=some false)(zq:kitOne K (.ref C_f) (.ref C_f)=some true)(zr:kitOne K (.ref C_f) (.ref C_g)=some false)(zt:kitOne K (.ref C_f) (.ref C_h)=some false)(zu:kitOne K (.ref C_f) (.ref C_i)=some false)(zv:mroIn K C_f (.ref C_j)=some true):∃fd:Q0,(∀(s:W1)(v:Value),BindsTo s fd ⟨[v],[]⟩ [("script",v)])/\∀base:Heap,K.In base->base.Ns Wr mg->eO l.prog w K mg base di 7 fa fd ["script"] (ka 1 Gt):=by have e:=Xs.symm.trans (mg_of X G yC);cases e;have jK:mP K C_f:=⟨zc,zd,ze,y9,y_,zf,zg⟩;have T:Txt (Ec [([70,108,111,111,114,69,114,114,111,114],C_j),([78,111,70,108,111,111,114],C_a),([78,111,80,108,97,99,101],C_b),([78,111,78,117,109,98,101,114],C_c),([78,111,82,111,119],C_d),([85,110,108,105,107,101],C_e),([78,111,84,105,108,101],C_f),([78,111,82,117,108,101],C_g),([78,111,84,101,120,116],C_h),([84,111,111,71,114,101,97,116],C_i)]) K mg:=⟨WX X G qy,WX X G qz,WX X G qA,WX X G qC,WX X G qD,WX X G qE,WX X G qF,WX X G qG,WX X G qH,WX X G qI,WX X G qJ,WX X G qK,WX X G qL,WX X G qM,OT,OW,OU,OV,⟨_,mg_of X G qN⟩,⟨_,mg_of X G qO⟩,⟨_,mg_of X G qP⟩,mg_of X G yG,mg_of X G yH,mg_of X G yI,mg_of X G yJ,mg_of X G yK,mg_of X G yL,mg_of X G uH,mg_of X G yM,mg_of X G yN,mg_of X G yO,y8,⟨cD jK,cD iL,cD zk⟩,⟨cD jK,cD iL,cD zl⟩,⟨cD jK,cD iL,cD zm⟩,⟨cD jK,cD iL,cD zo⟩,⟨cD jK,cD iL,cD zp⟩,⟨cD jK,cD iL,cD zq⟩,⟨cD jK,cD iL,cD zr⟩,⟨cD jK,cD iL,cD zt⟩,⟨cD jK,cD iL,cD zu⟩,⟨cD jK,cD iL,cD zh⟩,cD ⟨%[show toS [78,111,84,105,108,101]=("NoTile":Str)from by decide+kernel|mg_of X G uH],zv⟩⟩;obtain⟨f6,fd6,F6,m6⟩:=tZ X G d6;obtain⟨f17,fd17,F17,m17⟩:=tZ X G yj;have Xt:=vM (st:=ku) yD yE yF;have GP:=vM (st:=qx) yP yQ yR;have Xu:Binds K _ ["self","tile"] []:=t5 GP λj j j j j j j j=>rfl;refine⟨QL "law" "law" (jY ku) (eR ku) (bG ku) .none kV31 dc31 pm31 an31 cd31 ct31,λs v=>.of_eq rfl,λbase j j=>?_⟩;have x9:xw l.prog w K mg base C_f ["tile"]:=⟨fi_f,_,["self","tile"],yS,yU,yV,List.forall_mem_cons.mpr ⟨⟨yX,yY,yZ,y6⟩,λj h=>nomatch h⟩,Xu,RS GP Vi rfl λvs h=>by unfold Lake.start;simp[h] λaQ A outer s H E hr=>As (RM rfl (pv 0) (pv 1) rfl)⟩;have lV:=VX (P:=l.prog) (w:=w) (base:=base) T X G d0;have Gj:=VY T X G d1 lV;have Gi:=VZ (P:=l.prog) (w:=w) (base:=base) T X G d2;have uD:=V0 T X G d3 Gi;have uE:=V1 (P:=l.prog) (w:=w) (base:=base) T X G d4;have Gx:=V2 T X G d5 Gj uD uE;have Gr:=V3 F6 m6 (t5 F6 λj j j j j j j j=>rfl) T x9;have Gn:=V4 (P:=l.prog) (w:=w) (base:=base) T X G d7;have Gk:=V5 (P:=l.prog) (w:=w) (base:=base) T X G d8;have Gm:=V6 T X G d9 Gk;have Gp:=V7 T X G yb Gm;have Gs:=V8 T X G yc Gn Gp;have Gq:=V9 (P:=l.prog) (w:=w) (base:=base) T X G yd;have uF:=V_ T X G ye Gq;have Gu:=W_ T X G yf uF;have Gv:=Xa (P:=l.prog) (w:=w) (base:=base) T X G yg;have Gw:=Xb T X G yh uF;have oy:=Xd F17 m17 (xx F17 λj j j j j j j j j=>rfl) T Gr Gs Gu Gv Gw;have GC:=Xe T X G yl Gx oy;have GF:=Xf (P:=l.prog) (w:=w) (base:=base) T X G yn;have GG:=Xg (P:=l.prog) (w:=w) (base:=base) T X G yo;have Gy:=Xh (P:=l.prog) (w:=w) (base:=base) T X G yp;have jJ:=Xi T X G yq Gy;have Gz:=Xj T X G yr jJ;have GH:=Xk T X G yt Gz;have GI:=Xl T X G yv uD uE;have uG:=Xm T X G yw lV jJ;have GJ:=Xn T X G yx jJ uG;have GB:=Xo (P:=l.prog) (w:=w) (base:=base) T X G yy;have GL:=Xp T X G yz oy GB;have GN:=Xq T X G yB lV jJ;exact Xr Xt T lV oy GC GF GG jJ GH GI uG GJ GL GN (ya _)
section
variable{α:Type}[DecidableEq α]
def cT(t:List α)(q:α):List α:=if q∈t then t else t++[q]
def bM(t qs:List α):List α:=qs.foldl cT t
theorem GQ(t:List α)(q x:α):x∈cT t q↔x∈t\/x=q:=by
 unfold cT;by_cases h:q∈t;.rw[if_pos h];exact⟨.inl,λz=>z.elim id λe=>e▸h⟩
 .rw[if_neg h,Wu,List.mem_singleton]
theorem uI(qs:List α):∀(t:List α)(x:α),x∈bM t qs↔x∈t\/x∈qs:=by induction qs with|nil=>intro t x;simp[bM]|cons q r ih=>intro t x;show x∈bM (cT t q) r↔_;rw[ih,GQ,Wi,or_assoc]
theorem Xv{ps:List α}:∀t:List α,(t++ps).Nodup->bM t ps=t++ps:=by induction ps with|nil=>intro t _;simp[bM]|cons p r ih=>
 intro t h;have hp:p∉t:=λz=>by rw[List.nodup_append]at h;exact h.2.2 p z p WA rfl
 show bM (cT t p) r=_;have:cT t p=t++[p]:=by unfold cT;rw[if_neg hp]
 rw[this,ih (t++[p]) (~~~h)];simp
end
noncomputable abbrev pS(d:D):Option S:=0#d
noncomputable abbrev pO(d:D):Option S:=some (.own d)
abbrev sD(t:Nat):D:=.str [t]
theorem oz(f:DE)(Y:Dl):aR f Y=(f Y).bind λr SL=>match r.d with|.lst ds=>.ok ds SL|.tup ds=>.ok ds SL|.str x=>.ok (x.map λn=>.str [n]) SL|_=>.stuck:=id rfl
theorem zw(p p':D->D->Option S)(fa fb:DE)(fc:BE)(Y:Dl):iz p p' fa fb fc Y=(fa Y).bind λx SL=>(fb SL).bind λy PP=>(p2 p x.d y.d PP).bind λz Pi=>match z with|.pure (.bl true)=>(fc Pi).bind λw Os=>p2 p' y.d w Os|.pure (.bl false)=>.ok (.pure (.bl false)) Pi|_=>.stuck:=id rfl
theorem zx{A:Type}{cs:List Nat}{g:DG}{t:DT}{el:DE}(f F:A->D)(p:A->Bool)(Y:Dl):∀(as:List A)(acc:List D),acc.length+as.length<=W7->(∀a∈as,∃SL PP x Pi,g (.pure (f a)) Y=some SL/\t SL=.ok (p a) PP/\bt cs PP=Y/\el PP=.ok x Pi/\bt cs Pi=Y/\x.d=F a)->dR cs g t el (as.map f) Y acc=.ok (acc++(as.filter p).map F) Y
 |[],acc,_,_=>#v[dR]|a::r,acc,hl,hs=>by
  obtain⟨SL,PP,x,Pi,e1,e2,e2',e3,e4,e5⟩:=hs a WA;have gO:acc.length<W7:=by simp at hl;lia
  rw[Wj];unfold dR;rw[e1];cases hp:p a with|true=>have ih:=zx (cs:=cs) (g:=g) (t:=t) (el:=el) f F p Y r (acc++[x.d]) Re λa ha=>hs a (Wh _ ha);rw[e5]at ih;rw[hp]at e2;simp only[e2,g_,if_true,e3,if_pos gO,e4,e5,ih,List.filter_cons,hp];simp|false=>have ih:=zx (cs:=cs) (g:=g) (t:=t) (el:=el) f F p Y r acc Re λa ha=>hs a (Wh _ ha);rw[hp]at e2;simp only[e2,g_,e2',ih,List.filter_cons,hp];simp
theorem dH{it:DI}{g:DG}{b:DS}{Y SL:Dl}{ds:List D}(h:it Y=.ok ds SL):bX it g b Y=forL g b ds SL:=by unfold bX;rw[h];rfl
theorem uJ{g:DG}{b:DS}{d:D}{r:List D}{Y SL PP:Dl}(h1:g (.pure d) Y=some SL)(h2:b SL=.ok .next PP):forL g b (d::r) Y=forL g b r PP:=by
 conv=>lhs;unfold forL
 rw[h1];simp only[h2,g_]
theorem forA{A:Type}(f:A->D){g:DG}{b:DS}(I:List A->Dl->Prop)(hs:∀a as Y,I (a::as) Y->∃SL,g (.pure (f a)) Y=some SL/\∀y,b SL=y->∃PP,y=.ok .next PP/\I as PP):∀as Y,I as Y->∃P3,forL g b (as.map f) Y=.ok .next P3/\I [] P3|[],Y,h=>⟨Y,rfl,h⟩|a::as,Y,h=>by obtain⟨SL,e1,h1⟩:=hs a as Y h;obtain⟨PP,e2,h2⟩:=h1 _ rfl;obtain⟨P3,e,h'⟩:=forA f I hs as PP h2;exact⟨P3,(uJ e1 e2).trans e,h'⟩
theorem cS{A:Type}(f F:A->D){as:List A}{j:Nat}{np:List Nat}{it:DI}{el:DE}{Y G':Dl}(e:it G'=.ok (as.map f) Y)(hl:as.length<=1000)(hs:∀a∈as,el (Y.set j (pS (f a)))=.ok (.pure (F a)) (Y.set j (pS (f a))))(hj:Y[j]?=some none:=by rfl)(hn:np.contains j=false:=by rfl):bb [j] it (ah np j) bw el G'=.ok (.own (.lst (as.map F))) Y:=by
 obtain⟨h,gH⟩:=Wd.mp hj;have c:bt [j] Y=Y:=by show Y.set j none=Y;rw[<-gH];exact List.set_getElem_self h
 have:=cM (cs:=[j]) (g:=ah np j) (t:=bw) (el:=el) f F e hl (λa ha=>⟨_,_,_,_,by rw[c];unfold ah;rw[if_neg (by rw[hn];nofun)],rfl,hs a ha,by rw[c];show(Y.set j (pS (f a))).set j none=Y;rw[List.set_set];exact c,rfl⟩) #v[cG,hj];rw[this,c];show Rs.ok _ (match Y[j]? with|some o=>Y.set j o|none=>Y)=_;rw[hj];exact congrArg _ c
theorem cE{p:D->Option S}{f:DE}{Y SL:Dl}{v r:S}(e:f Y=.ok v SL)(h:p v.d=some r):ay p (ag f) Y=.ok r SL:=#v[ay,e,h]
theorem uK{i:Nat}{f:DE}{Y SL:Dl}{v:S}{xs:List D}(e:f Y=.ok v SL)(h:jc Y i=true)(h1:SL[i]?=some (pO (.lst xs)))(hz:xs.length<=1000):dt i f Y=.ok .next (SL.set i (pO (.lst (xs++[v.d])))):=by
 have:xs.length<W7:=by rw[hU];lia
 simp[dt,h,e,putL,h1,this]
theorem uL{i:Nat}{f:DE}{Y PP:Dl}{v:S}{xs:List D}(e:f Y=.ok v Y)(h:jc Y i=true)(h1:Y[i]?=some (pO (.lst xs)))(hz:xs.length<=1000)(h2:Y.set i (pO (.lst (xs++[v.d])))=PP):dt i f Y=.ok .next PP:=h2▸uK e h h1 hz
theorem cf{f:DE}{g:DG}{Y SL PP:Dl}{v:S}(e:f Y=.ok v SL)(h:g v SL=some PP):aE f g Y=.ok .next PP:=#v[aE,e,h]
theorem Xw(n:Nat):gZ 0 n=(Wl n).map λi:Nat=>D.int i:=#v[gZ]
theorem lW{f:DE}{Y SL:Dl}{w:Nat}{z:Int}(e:f Y=.ok (.pure (.int z)) SL)(hz:z=w)(hw:w<=1000):cb f Y=.ok ((Wl w).map λi:Nat=>D.int i) SL:=by subst hz;rw[SJ,e,<-Xw,g_];exact SQ w Y' SL
def nx(s:Int):Int:=(((s+7919)%2147483647)*((s+7919)%2147483647)+48271*((s+7919)%2147483647)+12345)%2147483629
theorem Xx(s:Int):om [.pure (.int s)]=some (.pure (.int (nx s)),[.pure (.int s)]):=by
 unfold om bF F8 gE;have h1:=Int.emod_nonneg (s+7919) (b:=2147483647) Z';have h2:=Int.emod_lt_of_pos (s+7919) (b:=2147483647) Z';have c1:k6 ((s+7919)%2147483647) ((s+7919)%2147483647)=true:=by unfold k6;simp;lia
 have c2:k6 48271 ((s+7919)%2147483647)=true:=by unfold k6;simp
 simp[cP,bW,aE,au,dY,aq,aF,eT,fG,iA,c1,c2,dS,bZ];rfl
def cq(d:D):Prop:=∃l f s:Int,d=.lst [.int l,.int f,.int s]/\0<=l
theorem lX{d:D}(hp:cq d)(m:Nat)(h0:0<m)(h1:m<1073741824):∃(r:Nat)(d':D),cQ [.own d,.pure (.int m)]=some (.pure (.int r),[.own d',.pure (.int m)])/\r<m/\cq d':=by
 obtain⟨l,f,s,rfl,hl⟩:=hp;have hm:(0:Int)<(m:Int):=by lia
 have hd:k7 l m=true:=by unfold k7;simp;lia
 unfold cQ bF F9 gE;by_cases hf:f=1;.subst hf;have e1:=Int.emod_nonneg l (b:=(m:Int)) Y';have e2:=Int.emod_lt_of_pos l hm;refine⟨(l%(m:Int)).toNat,.lst [.int (l/m),.int 1,.int s],?_,Y',⟨_,_,_,rfl,Int.ediv_nonneg hl Y'⟩⟩;simp[cP,bW,aE,au,dY,aq,ae,aC,de,aW,flat,lH,xA,xy,aD,eT,j8,fG,h0,hd,k_,jc,putL,dS,bZ,gx];lia
 .have e1:=Int.emod_nonneg (nx (nx s+7)/64) (b:=(m:Int)) Y';have e2:=Int.emod_lt_of_pos (nx (nx s+7)/64) hm;refine⟨(nx (nx s+7)/64%(m:Int)).toNat,.lst [.int l,.int f,.int (nx (nx s+7))],?_,Y',⟨_,_,_,rfl,hl⟩⟩;simp[cP,bW,aE,au,dY,aq,ae,aC,de,aW,flat,lH,xA,xy,aD,eT,j8,fG,h0,hd,k_,jc,putL,dS,bZ,gx,hf,az,bJ,cG,cK,cC,b7,Xx,aF,bp,k7];lia
theorem Xy(c:Int):∃d,m_ [.pure (.int c)]=some (.own d,[.pure (.int c)])/\cq d:=by unfold m_ bF F7 gE;refine⟨.lst [.int (if 0-c>c then 0-c else c),.int (if decide (1000000000000000000<=if 0-c>c then 0-c else c)then 1 else 0),.int ((if 0-c>c then 0-c else c)%1000003)],?_,⟨_,_,_,rfl,by split<;>lia⟩⟩;simp[cP,bW,aE,au,dY,aq,ae,wj,fk,fG,nL,we,jx,sM,wa,eT,dS,bZ]
theorem Xz(ns:List Int):∃c:Int,oj [.pure (.lst (ns.map .int)),.pure (.int 0)]=some (.pure (.int c),[.pure (.lst (ns.map .int)),.pure (.int 0)]):=by unfold oj bF F5 gE;cases ns with|nil=>exact⟨0,#v[cP,bW,au,dY,aq,fH,jx,aD,aP,dS,bZ]⟩|cons n r=>exact⟨n,by
 have:(0:Int)<(r.length:Int)+1:=by lia
 simp[cP,bW,au,dY,aq,fH,jx,aD,aP,dS,bZ,aC,lH,this]⟩
theorem oA{d:D}(hp:cq d)(m:Nat)(i:Int)(hi:i=m)(h0:0<m)(h1:m<1073741824):∃(r:Nat)(d':D),cQ [.own d,.pure (.int i)]=some (.pure (.int r),[.own d',.pure (.int i)])/\r<m/\cq d':=by subst hi;exact lX hp m h0 h1
def jn(s n:Nat):Tx:=(Wl n).map λk=>97+s+k
theorem XA:∀s,s<26->∀r,r<26->s+1+r<=26->(qU.drop s).take (1+r)=jn s (1+r):=by decide
theorem XB{s r:Nat}(h:s+1+r<=26):br qU (some (s:Int)) (some ((s:Int)+1+(r:Int)))=jn s (1+r):=by
 rw[<-XA s Y' r Y' h];have h1:¬(s:Int)<0:=by lia
 have h2:¬(s:Int)+1+(r:Int)<0:=by lia
 have h3:((s:Int)+1+(r:Int)).toNat=s+1+r:=by lia
 have hl:qU.length=26:=rfl;unfold br Lake.aO;simp only[h1,h2,if_false,h3,hl];have e1:min (s:Int).toNat 26=s:=by lia
 have e2:min (s+1+r) 26-min (s:Int).toNat 26=1+r:=by lia
 rw[e1]at e2⊢;rw[e2]
theorem XD(s n:Nat):(jn s n).length=n:=#v[jn]
theorem XE(s n:Nat):(jn s n).Pairwise (.<.):=by unfold jn;rw[JK];exact List.pairwise_lt_range (n:=n).imp λh=>by lia
theorem XF{s n t:Nat}(h:s+n<=26)(ht:t∈jn s n):97<=t/\t<=122:=by simp[jn]at ht;obtain⟨k,hk,rfl⟩:=ht;lia
theorem XG(r h:Nat)(h0:0<h)(h1:h<=1000):j8 (.int r) (.int h)=pS (.int ((r/h:Nat):Int)):=by
 have hc:k7 (r:Int) (h:Int)=true:=by unfold k7;simp;lia
 show(if k7 (r:Int) (h:Int)then _ else _)=_;rw[if_pos hc];simp
abbrev rb(M S1:D)(h w al:Nat)(ts:Tx)(pd:D)(bl:List D)(a b c d e:Option S):Dl:=[pO pd,pS M,pS (.str qU),pS (.int h),pS (.int w),pS S1,pS (.str ts),pS (.int al),pO (.lst bl),a,b,c,d,e,none]
abbrev GR:DE:=au aC 6 (ag (ax j8 (az cQ [.io 0,.val (ay aP (aq 6))]) (aq 7)))
abbrev zy:DS:=aA (aE (bb [14] (cb (ae 4)) (ah [0] 14) bw GR) (ah [0] 12)) (dt 10 (ay (dQ []) (aq 12)))
abbrev GS:DS:=aA (aE (aX aJ) (ah [0] 10)) (aA (bX (cb (ae 3)) (ah [0] 11) zy) (dt 8 (cp (aw (ae 9) (aw (ay dk (aq 10)) aJ)))))
section
variable{M S1:D}{h al:Nat}{ts:Tx}{bl:List D}{a c d e:Option S}(nc:0<ts.length)(jC:ts.length<=26)(zA:0<al)(nP:al<=3)(hw:w<=4)
include nc jC zA nP hw
theorem XH{fl:List Tx}(hf:fl.length<=1000)(hp:cq pd):∃(x:Tx)(bh:D)(d':Option S),zy (rb M S1 h w al ts pd bl a (pO (.lst (fl.map .str))) c d e)=.ok .next (rb M S1 h w al ts bh bl a (pO (.lst ((fl++[x]).map .str))) c d' e)/\(x.length=w/\∀n∈x,n∈ts)/\cq bh:=by
 obtain⟨xs,P3,e1,⟨bh,cm,rfl⟩,hn,hx⟩:=cI (cs:=[14]) (it:=cb (ae 4)) (g:=ah [0] 14) (t:=bw) (el:=GR) (Y:=rb M S1 h w al ts pd bl a (pO (.lst (fl.map .str))) c d e) (lW rfl rfl Y') Zx (λY=>∃pd,cq pd/\Y=rb M S1 h w al ts pd bl a (pO (.lst (fl.map .str))) c d e) (λj x=>∃n,n∈ts/\x=sD n) ⟨pd,hp,rfl⟩ λi _ Y⟨pd,hp,e1⟩=>by subst e1;obtain⟨r,d',g,l,p⟩:=lX hp ts.length nc Y';have hd:=XG r al zA Y';have bz:r/al<ts.length:=Nat.lt_of_le_of_lt (Nat.div_le_self _ _) l;have hx:=SD ts (r/al) bz Y';have ln:=SH ts Y';refine⟨_,_,.pure (sD (ts.getD (r/al) 0)),(rb M S1 h w al ts d' bl a (pO (.lst (fl.map .str))) c d e).set 14 (pS i),rfl,rfl,?_,⟨d',p,rfl⟩,_,#v[bz],rfl⟩;generalize((r/al:Nat):Int)=q at*;simp[au,dY,ax,az,bJ,cK,cG,cC,ay,aq,ln,b7,g,bp,hd,hx,S.d]
 obtain⟨x,rfl,hxt⟩:=xB (xC hn hx λj j j h=>h);simp at hn;refine⟨x,bh,pO (.lst (x.map sD)),fM ?_ (cf e1 rfl),⟨hn,hxt⟩,cm⟩;rw[Qb];exact uL (v:=.pure (.str x)) #v[ay,aq,Ei x Y',dg,S.d] rfl rfl (~~~hf) rfl
theorem XI(hh:h<=4)(hb:bl.length<=1000)(hp:cq pd)(n:Nat){b:Option S}:∃(fl:List Tx)(bh:D)(b' c' d':Option S),GS (rb M S1 h w al ts pd bl (pS (sD n)) b c d e)=.ok .next (rb M S1 h w al ts bh (bl++[dG (n,fl)]) (pS (sD n)) b' c' d' e)/\(fl.length=h/\∀r∈fl,r.length=w/\∀n∈r,n∈ts)/\cq bh:=by obtain⟨P3,e1,bh,fl,c',d',cm,h1,h2,rfl⟩:=forA (λi:Nat=>D.int i) (g:=ah [0] 11) (b:=zy) (λas Y=>∃(pd:D)(fl:List Tx)(c d:Option S),cq pd/\fl.length+as.length=h/\(∀r∈fl,r.length=w/\∀n∈r,n∈ts)/\Y=rb M S1 h w al ts pd bl (pS (sD n)) (pO (.lst (fl.map .str))) c d e) (λi as Y hh=>by obtain⟨pd,fl,c,d,hp,h1,h2,e1⟩:=hh;subst e1;simp at h1;obtain⟨x,bh,d',e1,hx,cm⟩:=XH (M:=M) (S1:=S1) (h:=h) (bl:=bl) (a:=pS (sD n)) (c:=pS (.int i)) (d:=d) (e:=e) nc jC zA nP hw (fl:=fl) Y' hp;exact⟨_,rfl,λy hy=>⟨_,hy.symm.trans e1,bh,_,_,_,cm,by simp;lia,λr hr=>(Wu.mp hr).elim (h2 r) λhr=>Ws.mp hr▸hx,rfl⟩⟩) (Wl h) (rb M S1 h w al ts pd bl (pS (sD n)) (pO (.lst [])) c d e) ⟨pd,[],c,d,hp,Zw,nofun,rfl⟩;refine⟨fl,bh,pO (.lst (fl.map .str)),c',d',fM (fM ?_ ((dH (it:=cb (ae 3)) (lW rfl rfl Y')).trans e1)) rfl,⟨~~~h1,h2⟩,cm⟩;exact uL (v:=.pure (dG (n,fl))) #v[ay,aq,ae,dk,S.d,dG] rfl rfl hb rfl
end
def Hid(p:Prop):Prop:=p
theorem XJ(i j:Int):∃b,de (.int i) (.int j)=pS (.bl b)/\Hid (b=true↔i=j):=⟨decide (i=j),by by_cases h:i=j<;>simp[de,flat,aW,h],decide_eq_true_iff⟩
abbrev qV:List (Nat×Nat):=[(2,2),(1,2),(2,1),(2,2),(1,3),(2,3),(3,1),(3,2),(4,4),(2,2)]
theorem XM(r:Nat)(hr:r<10):∃h w:Nat,aC (.lst (qV.map λp=>.tup [.int p.1,.int p.2])) (.int r)=pS (.tup [.int h,.int w])/\0<h/\h<=4/\0<w/\w<=4/\2<h+w/\(h*w<7->h<=3/\w<=3):=by have hl:r<qV.length:=hr;exact⟨qV[r].1,qV[r].2,by simp only[aC,ji,WD,W4 hl];rfl,(by decide:∀p∈qV,0<p.1/\p.1<=4/\0<p.2/\p.2<=4/\2<p.1+p.2/\(p.1*p.2<7->p.1<=3/\p.2<=3)) _ (WU hl)⟩
theorem GU{α:Type}(x:List α):br x (some 1) none=x.tail:=by unfold br Lake.aO;cases x<;>simp
theorem XN(x:Tx)(h:x.length<=1000):cJ (some 1) none (.str x)=pS (.str x.tail):=by unfold cJ;simp only[GU];rw[if_pos (by rw[hU];lia)]
theorem XO(ds:List D):cJ (some 1) none (.tup ds)=pS (.tup ds.tail):=by show some (S.pure (.tup (br ds (some 1) none)))=_;rw[GU]
theorem add_str(x y:Tx)(h:x.length+y.length<=100000):aF (.str x) (.str y)=pS (.str (x++y)):=by simp only[aF];rw[if_pos (by rw[hU];lia)]
theorem GV(x y:List D)(h:x.length+y.length<=1000):aF (.tup x) (.tup y)=pS (.tup (x++y)):=by simp only[aF];rw[if_pos (by rw[hU];lia)]
theorem GW(x:D)(xs:List D):aC (.tup (x::xs)) (.int 0)=pS x/\aC (.lst (x::xs)) (.int 0)=pS x:=#v[aC,lH]
theorem fixed{h w:Nat}{bs:8#0}(R:bS h w bs):∃n r q l,bs=(n,r::q)::l/\l.length<26/\bS h w ((n,(n::r.tail)::q)::l)/\aC (aa (r::q)) (.int 0)=pS (.str r)/\cJ (some 1) none (.str r)=pS (.str r.tail)/\aF (sD n) (.str r.tail)=pS (.str (n::r.tail))/\cJ (some 1) none (aa (r::q))=pS (.tup (q.map .str))/\aF (.tup [.str (n::r.tail)]) (.tup (q.map .str))=pS (aa ((n::r.tail)::q)):=by have hh:=R.h0;have n0:=R.n0;match bs,R with
 |[],_=>simp at n0|(n,[])::l,R=>have:=(R.cW _ (.head _)).1;simp at this;lia|(n,r::q)::l,R=>
  have h1:=R.h1;have w1:=R.w1;have w0:=R.w0;have n1:=R.n1;have rb:=R.cW _ (.head _);have lr:=rb.2 r (.head _);have lq:q.length+1=h:= ~~~rb.1;have fx:∀b∈(n,(n::r.tail)::q)::l,∃b'∈(n,r::q)::l,b'.1=b.1/\(b.2.length=h/\∀r∈b.2,r.length=w/\∀m∈r,m∈n::l.map (·.1)):=λb hb=>by
   rcases Wi.mp hb with rfl|hb
   .refine⟨_,.head _,rfl,rb.1,λx hx=>?_⟩;rcases Wi.mp hx with rfl|hx;.exact⟨by simp;lia,λm hm=>(Wi.mp hm).elim (λe=>e▸.head _) λhm=>lr.2 m (List.mem_of_mem_tail hm)⟩
    .exact rb.2 x (.tail _ hx)
   .exact⟨b,.tail _ hb,rfl,R.cW b (.tail _ hb)⟩
  exact⟨n,r,q,l,rfl,n1,⟨hh,h1,w0,w1,R.hw,n0,n1,R.up,λb hb=>by obtain⟨b',h',e,_⟩:=fx b hb;exact e▸R.t9 b' h',λb hb=>(fx b hb).elim λj z=>z.2.2⟩,(GW _ _).1,XN r Y',add_str [n] _ Zx,XO _,GV [.str (n::r.tail)] _ Zx⟩
theorem XQ{d:D}(hp:cq d)(m:Nat)(XR:0<m)(hm1:m<=26):∃(h w:Nat)(bs:8#0)(d':D),oq [.own d,.pure (.int m)]=some (.pure (aj h w bs),[.own d',.pure (.int m)])/\bS h w bs/\bs.length<=m/\cq d'/\(h*w<7->h<=3/\w<=3):=by
 obtain⟨r1,d1,e1,l1,p1⟩:=oA hp 10 10 rfl Z' Z';obtain⟨h,w,hx,h0,h1,w0,w1,hw,h7⟩:=XM r1 l1;obtain⟨s,d2,e2,l2,p2⟩:=oA p1 (27-m) (27-(m:Int)) Y' Y' Y';obtain⟨r3,d3,e3,l3,p3⟩:=lX p2 m XR Y';obtain⟨al,d4,e4,l4,p4⟩:=oA p3 3 3 rfl Z' Z';have hc:=XB (s:=s) (r:=r3) Y';have hlen:=XD s (1+r3);have gY:=XE s (1+r3);have ng:∀t∈jn s (1+r3),97<=t/\t<=122:=λt ht=>XF Y' ht;have wJ:cJ (some (s:Int)) (some ((s:Int)+1+(r3:Int))) (.str qU)=pS (.str (jn s (1+r3))):=by rw[<-hc];rfl
 generalize jn s (1+r3)=ts at wJ hlen gY ng;obtain⟨P3,e5,d5,bs,a,b,c,e,p5,h3,h4,rfl⟩:=forA sD (g:=ah [0] 9) (b:=GS) (λas Y=>∃(pd:D)(bs:8#0)(a b c d:Option S),cq pd/\bs.map (·.1)++as=ts/\(∀b∈bs,b.2.length=h/\∀r∈b.2,r.length=w/\∀n∈r,n∈ts)/\Y=rb (.int m) (.int s) h w (1+al) ts pd (bs.map dG) a b c d none) (λn as Y hh=>by obtain⟨pd,bs,a,b,c,d,hp,h3,h4,e⟩:=hh;subst e;have hl:=congrArg QS h3;simp at hl;obtain⟨fl,bh,b',c',d',e,hf,cm⟩:=XI (M:=.int m) (S1:=.int s) (h:=h) (w:=w) (al:=1+al) (ts:=ts) (bl:=bs.map dG) (b:=b) (c:=c) (d:=d) (e:=none) Y' Y' Y' Y' w1 h1 Zx hp n;exact⟨_,rfl,λy hy=>⟨_,hy.symm.trans e,bh,bs++[(n,fl)],_,_,_,_,cm,~~~h3,λb hb=>(Wu.mp hb).elim (h4 b) λhb=>Ws.mp hb▸hf,by rw[Qb];rfl⟩⟩) ts (rb (.int m) (.int s) h w (1+al) ts d4 [] none none none none none) ⟨d4,[],none,none,none,none,p4,rfl,nofun,rfl⟩;rw[WT]at h3;have GX:=congrArg QS h3;simp at GX;have R:bS h w bs:=⟨h0,h1,w0,w1,hw,Y',Y',%[h3|gY],λb hb=>ng _ (by rw[<-h3];exact QB hb),λb hb=>%[h3|h4 b hb]⟩;obtain⟨r6,d6,e6,l6,p6⟩:=oA p5 2 2 rfl Z' Z';obtain⟨b6,c6,-⟩:=XJ r6 0;unfold oq F_;simp at hx;have e6:=(dH (it:=aR (ae 6)) (Y:=rb (.int m) (.int s) h w (1+al) ts d4 [] none none none none none) rfl).trans e5
 cases b6 with|true=>
 obtain⟨n,r,q,l,rfl,hl,R',z0,z1,z2,z3,z4⟩:=fixed R;refine⟨h,w,_,d6,gR (SL:=rb (.int m) (.int s) h w (1+al) ts d6 (((n,(n::r.tail)::q)::l).map dG) (pS (sD n)) b c e (pS (aa (r::q)))) ?_ rfl rfl,R',by simp at GX⊢;lia,p6,h7⟩;iterate 6 refine fM ?_ m8
 refine fM ?_ e6;refine Vc ?_ m8;have i0:aC (.lst (dG (n,r::q)::l.map dG)) (.int 0)=pS (.tup [sD n,aa (r::q)]):=(GW _ _).2;refine Ve (fM ?_ m8);have i1:∀k:Nat,gx (k+1) 0=some 0:=λk=>#v[gx];exact fM rfl m8|false=>
 refine⟨h,w,bs,d6,gR (SL:=rb (.int m) (.int s) h w (1+al) ts d6 (bs.map dG) a b c e none) ?_ rfl rfl,R,Y',p6,h7⟩;iterate 6 refine fM ?_ m8
 refine fM ?_ e6;refine Fm (Vd rfl) m8
theorem mul_int(i j:Int)(h0:0<=j)(h1:j<=1000):iA (.int i) (.int j)=0#(.int (i*j)):=by
 unfold iA fG;have:k6 i j=true:=by unfold k6;simp;lia
 simp only[this,if_true]
theorem XS(r h:Nat)(h0:0<h)(h1:h<=1000):eT (.int r) (.int h)=0#(.int ((r%h:Nat):Int)):=by simp only[eT,fG];rw[if_pos Zx];simp
theorem le_int(i j:Int):df (.int i) (.int j)=0#(.bl (decide (i<=j))):=rfl
theorem XT(i j:Int):de (.int i) (.int j)=0#(.bl (i==j)):=rfl
theorem zB(i j:Int):dP (.int i) (.int j)=0#(.bl !i==j):=rfl
theorem add_int(i j:Int):aF (.int i) (.int j)=0#(.int (i+j)):=rfl
theorem oB(np:List Nat)(n:Nat)(b:DS)(ss:List S):bF np n b ss=if cP np 0 ss then match b (bW n ss)with|.ok fl Y=>(dS fl).bind λr=>(bZ 0 ss Y).map λaH=>(r,aH)|_=>none else none:=rfl
def aT(bs:8#0):D:=.bP (bs.map λb=>(Sum.inr [b.1],aa b.2))
theorem GY:∀bs:8#0,jz (bs.map dG)=some (bs.map λb=>(Sum.inr [b.1],aa b.2))|[]=>rfl|b::r=>by have:=GY r;simp only[Wj];simp[jz,fu,this]
theorem GZ:∀(kps acc:List (b_×D)),((acc++kps).map (·.1)).Nodup->mG kps acc=acc++kps
 |[],acc,_=>#v[mG]|p::r,acc,h=>by
  have hn:(acc.any λkv=>decide (kv.1=p.1))=false:=by rw[List.any_eq_false];intro kv hkv;simp only[decide_eq_true_eq];intro e;rw[Qb,List.nodup_append]at h;exact h.2.2 kv.1 (QB hkv) p.1 (QB WA) e
  have hp:putD acc p.1 p.2=acc++[p]:=by unfold putD;rw[hn];simp
  show mG r (putD acc p.1 p.2)=_;rw[hp,GZ r (acc++[p]) (~~~h)];simp
theorem qW{h w:Nat}{bs:8#0}(R:bS h w bs):jA (.tup (bs.map dG))=some (.own (aT bs)):=by
 unfold jA;simp only[GY,WO,Wq];have hz:W7=16777216:=rfl;rw[if_pos (by have:=R.n1;lia),GZ];.rfl
 .simp only[Qt,Q9];rw[List.nodup_iff_pairwise_ne,JK];have:=R.up;rw[JK]at this;exact this.imp λ{a b}pq=>by simp;lia
def cW(bs:8#0)(n:Nat):List Tx:=((bs.find? λb=>decide (b.1=n)).map (·.2)).getD []
theorem zC{bs:8#0}{n:Nat}(h:n∈bs.map (·.1)):∃b∈bs,b.1=n/\(bs.find? λb=>decide (b.1=n))=some b/\cW bs n=b.2:=by cases e:bs.find? λb=>decide (b.1=n)with|none=>obtain⟨b,hb,rfl⟩:=WH.mp h;have:=List.find?_eq_none.mp e b hb;simp at this|some b=>have h1:=List.mem_of_find?_eq_some e;have h2:=List.find?_some e;refine⟨b,h1,~~~h2,rfl,?_⟩;unfold cW;rw[e];rfl
theorem zD(bs:8#0)(n:Nat):dZ (bs.map λb=>((Sum.inr [b.1]:b_),aa b.2)) (.inr [n])=(bs.find? λb=>decide (b.1=n)).map λb=>aa b.2:=by unfold dZ;rw[List.find?_map];simp[Function.comp_def]
theorem G0{bs:8#0}{n:Nat}(h:n∈bs.map (·.1)):jB (aT bs) (.str [n])=0#(aa (cW bs n)):=by obtain⟨b,hb,_,e,e2⟩:=zC h;show((fu (.str [n])).bind λk=>(dZ (bs.map λb=>((Sum.inr [b.1]:b_),aa b.2)) k).map S.pure)=_;simp only[fu,WO,zD,e,WM,e2]
theorem XU{bs:8#0}{n:Nat}(h:n∈bs.map (·.1)):eW true (.str [n]) (aT bs)=0#(.bl false):=by obtain⟨b,hb,_,e,e2⟩:=zC h;show((fu (.str [n])).map λk=>S.pure (.bl (if true then !(dZ (bs.map λb=>((Sum.inr [b.1]:b_),aa b.2)) k).isSome else(dZ (bs.map λb=>((Sum.inr [b.1]:b_),aa b.2)) k).isSome)))=_;simp only[fu,WM,zD,e,WM];rfl
theorem XW(bs:8#0)(n:Nat):eW false (.str [n]) (aT bs)=0#(.bl ((bs.map (·.1)).contains n)):=by
 show((fu (.str [n])).map λk=>S.pure (.bl (if false then !(dZ (bs.map λb=>((Sum.inr [b.1]:b_),aa b.2)) k).isSome else(dZ (bs.map λb=>((Sum.inr [b.1]:b_),aa b.2)) k).isSome)))=_;simp only[fu,WM,zD];have:((bs.find? λb=>decide (b.1=n)).map λb=>aa b.2).isSome=(bs.map (·.1)).contains n:=by induction bs with|nil=>rfl|cons b r ih=>
   by_cases hb:b.1=n;.simp[Qa,hb]
   .have XX:¬n=b.1:=λe=>hb e.symm;have vK:(n==b.1)=false:= ~~~XX;simp[Qa,hb,vK]at ih⊢;exact ih
 simp only[this];rfl
theorem iM(h w:Nat)(bs:8#0):aC (aj h w bs) (.int 0)=0#(.int h)/\aC (aj h w bs) (.int 1)=0#(.int w)/\aC (aj h w bs) (.int 2)=0#(.tup (bs.map dG)):=by
 refine⟨?_,?_,?_⟩;.simp[aC,lH]
 .simp[aC,xA]
 .simp[aC,xy]
abbrev cg(n:Nat):D:=.str [n]
def G1(GD:DF):Prop:=∀(d:D)(m:Nat),cq d->0<m->m<1073741824->∃(r:Nat)(d':D),GD [.own d,.pure (.int m)]=some (.pure (.int r),[.own d',.pure (.int m)])/\r<m/\cq d'
theorem XY:G1 cQ:=λd m hp h0 h1=>lX hp m h0 h1
theorem qX{h w:Nat}{bs:8#0}(R:bS h w bs):f7 [.pure (aj h w bs)]=some (.own (.lst ((bs.map (·.1)).map cg)),[.pure (aj h w bs)]):=by have x2:=(iM h w bs).2.2;have hn:=R.n1;generalize aj h w bs=ru at*;have e:=t_ (cs:=[1,2]) (g:=iC 2 (fo (ah [] 1) (fo (ah [] 2) jy))) (t:=bw) (el:=ae 1) dG (λb:Nat×List Tx=>cg b.1) [0#ru,none,none] bs [] (by rw[hU];simp;lia) λb hb=>⟨_,_,.pure (cg b.1),[0#ru,0#(cg b.1),0#(aa b.2)],rfl,rfl,rfl,rfl,rfl⟩;rw[f7,oB,FX];simp[cP,bW,au,dY,aq,x2,oz,cG,bt];rw[e];simp[dg,dS,bZ,Function.comp_def]
def eZ(bs:8#0)(l:Nat)(row:Tx):Tx:=(row.map λn=>(cW bs n).getD l []).flatten
def layR(h:Nat)(bs:8#0)(row:Tx):List Tx:=(Wl h).map λl=>eZ bs l row
def lay(h:Nat)(bs:8#0)(fl:List Tx):List Tx:=fl.flatMap (layR h bs)
structure fO(bs:8#0)(R C:Nat)(fl:List Tx):Prop where
 rows:fl.length=R
 cols:∀r∈fl,r.length=C
 tl:∀r∈fl,∀n∈r,n∈bs.map (·.1)
theorem qY{h w l n:Nat}{bs:8#0}(R:bS h w bs)(hn:n∈bs.map (·.1))(hl:l<h):((cW bs n).getD l []).length=w/\(∀k∈(cW bs n).getD l [],k∈bs.map (·.1))/\aC (aa (cW bs n)) (.int l)=0#(.str ((cW bs n).getD l [])):=by
 obtain⟨b,hb,_,_,e2⟩:=zC hn;have hB:=R.cW b hb;have dD:l<b.2.length:=by lia
 have hm:b.2.getD l []∈b.2:=by rw[Wo,W4 dD];exact WU dD
 have hr:=hB.2 _ hm;rw[e2];exact⟨hr.1,hr.2,#v[aC,ji,dD]⟩
theorem uM{h w l:Nat}{bs:8#0}(R:bS h w bs)(hl:l<h):∀row:Tx,(∀n∈row,n∈bs.map (·.1))->(eZ bs l row).length=row.length*w/\∀k∈eZ bs l row,k∈bs.map (·.1)
 |[],_=>#v[eZ]|n::r,h'=>by
  have ih:=uM R hl r λk hk=>h' k (Wh _ hk);have h1:=qY R (h' n WA) hl;have e:eZ bs l (n::r)=(cW bs n).getD l []++eZ bs l r:=rfl;rw[e];refine⟨by rw[Wy,h1.1,ih.1,WE,Jx,J3],λk hk=>?_⟩;rcases Wu.mp hk with hk|hk;.exact h1.2.1 k hk
  .exact ih.2 k hk
theorem jL{h w:Nat}{bs:8#0}(R:bS h w bs){A C:Nat}{fl:List Tx}(F:fO bs A C fl):fO bs (A*h) (C*w) (lay h bs fl):=by
 refine⟨?_,λr hr=>?_,λr hr=>?_⟩;.rw[<-F.rows];clear F;induction fl with|nil=>simp[lay]|cons x q ih=>have e:lay h bs (x::q)=layR h bs x++lay h bs q:=rfl;rw[e,Wy,ih,WE,Jx];simp[layR,J3]
 .simp only[lay,List.mem_flatMap,layR,List.mem_map,List.mem_range]at hr;obtain⟨x,hx,l,hl,rfl⟩:=hr;rw[(uM R hl x (F.tl x hx)).1,F.cols x hx]
 .simp only[lay,List.mem_flatMap,layR,List.mem_map,List.mem_range]at hr;obtain⟨x,hx,l,hl,rfl⟩:=hr;exact(uM R hl x (F.tl x hx)).2
theorem G2(xs:List Tx)(m:Nat)(h:∀x∈xs,x.length<=m):i_ xs<=xs.length*m:=by induction xs with|nil=>simp[i_]|cons x r ih=>have h1:=h x WA;have h2:=ih λy hy=>h y (Wh _ hy);have e:i_ (x::r)=x.length+i_ r:=#v[i_];rw[e,WE,Jx];lia
theorem XZ(xs:List Tx)(h:i_ xs<=16777216):dQ [] (.lst (xs.map .str))=0#(.str xs.flatten):=by unfold dQ;simp only[t7,t8];rw[if_pos (~~~h)]
theorem X0{A:Type}(g:A->Tx)(xs:List A)(m:Nat)(h:∀x∈xs,(g x).length<=m)(hm:xs.length*m<=16777216):dQ [] (.lst (xs.map λx=>.str (g x)))=pS (.str (xs.map g).flatten):=by have:=G2 (xs.map g) m λy hy=>(WH.mp hy).elim λx hx=>hx.2▸h x hx.1;rw[Wq]at this;have e:=XZ (xs.map g) (WF this hm);rw[Q9]at e;exact e
abbrev lC:DE:=bb [6] (aR (ae 4)) (ah [] 6) bw (ax aC (au jB 0 (aq 6)) (aq 5))
abbrev lS(M' X:D)(h:Nat)(acc:List Tx)(a b:Option S):Dl:=[pS M',pS (.int h),pS X,pO (.lst (acc.map .str)),a,b,none]
abbrev lB:DS:=bX (cb (ae 1)) (ah [] 5) (dt 3 (ay (dQ []) (ag lC)))
theorem G3{h w:Nat}{bs:8#0}(R:bS h w bs){A C:Nat}{fl:List Tx}(F:fO bs A C fl)(hA:A<=100):(lay h bs fl).length<=400:=by rw[(jL R F).rows];exact WN hA R.h1
theorem X1{h w:Nat}{bs:8#0}(R:bS h w bs){A C:Nat}{fl:List Tx}(F:fO bs A C fl)(hA:A<=100)(hC:C<=1000):lR [.pure (aT bs),.pure (.int h),.pure (aa fl)]=some (.pure (aa (lay h bs fl)),[.pure (aT bs),.pure (.int h),.pure (aa fl)]):=by
 have h1:=R.h1;have w1:=R.w1;have hl:=G3 R F hA;obtain⟨P3,e,acc,a,b,h2,-,rfl⟩:=forA D.str (g:=ah [] 4) (b:=lB) (λas Y=>∃acc a b,acc++lay h bs as=lay h bs fl/\(∀r∈as,r∈fl)/\Y=lS (aT bs) (aa fl) h acc a b) λrow as Y hh=>by obtain⟨acc,a,b,h2,h3,e⟩:=hh;subst e;have hr:=h3 row (.head _);have e0:lay h bs (row::as)=layR h bs row++lay h bs as:=rfl;rw[e0,<-WL]at h2;obtain⟨P3,e,acc',b',h4,-,rfl⟩:=forA (λl:Nat=>D.int l) (g:=ah [] 5) (b:=dt 3 (ay (dQ []) (ag lC))) (λls Y=>∃acc' b,acc'++(ls.map λl=>eZ bs l row)=acc++layR h bs row/\(∀l∈ls,l<h)/\Y=lS (aT bs) (aa fl) h acc' (pS (.str row)) b) (λl ls Y hh=>by
 obtain⟨acc',b,h4,h5,e⟩:=hh
 subst e;have hh:=h5 l (.head _);have ec:=cS (j:=6) (np:=[]) (it:=aR (ae 4)) (el:=ax aC (au jB 0 (aq 6)) (aq 5)) sD (λn=>.str ((cW bs n).getD l [])) (G':=lS (aT bs) (aa fl) h acc' (pS (.str row)) (pS (.int l))) (as:=row) rfl %[F.cols row hr|hC] λn hn=>by have y1:=G0 (F.tl row hr n hn);have y2:=(qY R (F.tl row hr n hn) hh).2.2;generalize D.str ((cW bs n).getD l [])=X,aa (cW bs n)=W',aT bs=M' at*;simp[ax,au,dY,aq,y1,y2,S.d]
 have hj:=X0 (λn=>(cW bs n).getD l []) row w (λn hn=>Nat.le_of_eq (qY R (F.tl row hr n hn) hh).1) %[F.cols row hr|WF (WN hC w1) Z'];have hz:=congrArg QS h4;have hy:=congrArg QS h2;simp at hz hy;refine⟨_,rfl,λy jX=>⟨_,jX.symm.trans (uL (cE ec hj) rfl rfl Zx rfl),acc'++[eZ bs l row],pS (.int l),~~~h4,λx hx=>h5 x (.tail _ hx),by simp only[lS,Qb];rfl⟩⟩) (Wl h) (lS (aT bs) (aa fl) h acc (pS (.str row)) b) ⟨acc,b,rfl,λl hl=>List.mem_range.mp hl,rfl⟩;refine⟨_,rfl,λy hy=>⟨_,hy.symm.trans ((dH (it:=cb (ae 1)) (lW rfl rfl Y')).trans e),acc',_,b',?_,λr hr=>h3 r (.tail _ hr),rfl⟩⟩;rw[<-h2,<-h4];simp fl (lS (aT bs) (aa fl) h [] none none) ⟨[],none,none,rfl,λk z=>z,rfl⟩;have h5:acc=lay h bs fl:=by simpa[lay]using h2
 subst h5;unfold lR F0;exact gR (SL:=lS (aT bs) (aa fl) h (lay h bs fl) a b) (fM (fM rfl ((dH (it:=aR (ae 2)) (Y:=lS (aT bs) (aa fl) h [] none none) rfl).trans e)) rfl) rfl rfl
theorem oC{b:DS}{n:Nat}{x:D}{v:S}{SL:Dl}(e:b (bW n [.pure x])=.ok (.ret v) SL):bF [] n b [.pure x]=some (v,[.pure x]):=by rw[oB,e];rfl
theorem iO{b:DS}{n:Nat}{x y:D}{v:S}{SL:Dl}(e:b (bW n [.pure x,.pure y])=.ok (.ret v) SL):bF [] n b [.pure x,.pure y]=some (v,[.pure x,.pure y]):=by rw[oB,e];rfl
theorem iP{b:DS}{n:Nat}{x y z:D}{v:S}{SL:Dl}(e:b (bW n [.pure x,.pure y,.pure z])=.ok (.ret v) SL):bF [] n b [.pure x,.pure y,.pure z]=some (v,[.pure x,.pure y,.pure z]):=by rw[oB,e];rfl
theorem G4{g:DG}{b:DS}{d:D}{r:List D}{Y SL PP:Dl}{v:S}(h1:g (.pure d) Y=some SL)(h2:b SL=.ok (.ret v) PP):forL g b (d::r) Y=.ok (.ret v) PP:=by unfold forL;rw[h1];simp only[h2,g_]
section
variable{f:DE}{g:BE}{d x:D}{w r:S}{G:DF}{F:DA}{t u:DT}{a b c:DS}{R:Rs Fl}
theorem nh{pd bh:D}(hf:f Y=.ok (.pure d) Y)(h0:Y[0]?=some (pO pd))(g:G [.own pd,.pure d]=some (v,[.own bh,.pure d])):az G [.io 0,.val f] Y=.ok v (Y.set 0 (pO bh)):=by simp[az,bJ,cK,cG,h0,cC,hf,b7,g,bp,S.d]
theorem jo(hf:f Y=.ok (.pure d) Y)(g:G [.pure d]=some (v,[.pure d])):az G [.val f] Y=.ok v Y:=by simp[az,bJ,cK,cC,hf,b7,g,bp,S.d]
theorem c7(h:f Y=.ok v SL):ag f Y=.ok v.d SL:=#v[h]
theorem bK{x:S}{y:D}(e1:f Y=.ok x SL)(e2:g SL=.ok y PP)(h:p x.d y=some r):ax p f g Y=.ok r PP:=#v[ax,e1,e2,h]
theorem b8(e1:Y[i]?=some (some v))(e2:g Y=.ok d Y)(h:p v.d d=some r):au p i g Y=.ok r Y:=#v[au,dY,e1,e2,h,aq]
theorem cF(e:Y[i]?=some (some v))(h:q v.d=some r):ay q (aq i) Y=.ok r Y:=#v[ay,aq,e,h]
theorem dI(h:f Y=.ok v SL)(k:F SL=.ok ds PP):aw f F Y=.ok (v.d::ds) PP:=#v[aw,h,k]
theorem G5(h:f Y=.ok v SL)(e:v.d=d)(k:F SL=.ok ds PP):aw f F Y=.ok (d::ds) PP:=by subst e;simp[aw,h,k]
theorem kD(k:F Y=.ok ds SL):aX F Y=.ok (.own (.lst ds)) SL:=#v[aX,k]
theorem G6(k:F Y=.ok ds SL):cp F Y=.ok (.pure (.tup ds)) SL:=#v[cp,k]
theorem zE{k:Int}(hi:Y[i]?=some (some v)){fh:DE}(h:fh Y=.ok (.pure (.int k)) Y)(e:cJ none (some k) v.d=some r):bj i bE (aV fh) Y=.ok r Y:=#v[bj,bE,aV,hi,h,aq,e]
theorem zF{k:Int}(hi:Y[i]?=some (some v)){fh:DE}(h:fh Y=.ok (.pure (.int k)) Y)(e:cJ (some k) none v.d=some r):bj i (aV fh) bE Y=.ok r Y:=#v[bj,bE,aV,hi,h,aq,e]
theorem lY{f1 f2 f3:DE}{x y z:D}(h1:f1 Y=.ok (.pure x) Y)(h2:f2 Y=.ok (.pure y) Y)(h3:f3 Y=.ok (.pure z) Y)(g:G [.pure x,.pure y,.pure z]=some (v,[.pure x,.pure y,.pure z])):az G [.val f1,.val f2,.val f3] Y=.ok v Y:=#v[az,bJ,cK,cC,h1,h2,h3,b7,g,bp,S.d]
theorem G7{G:DX}{f1 f2 f3:DE}{x y z:D}(h1:f1 Y=.ok (.pure x) Y)(h2:f2 Y=.ok (.pure y) Y)(h3:f3 Y=.ok (.pure z) Y)(g:G [.pure x,.pure y,.pure z]=some (.inl (v,[.pure x,.pure y,.pure z]))):gj G [.val f1,.val f2,.val f3] Y=.ok v Y:=#v[gj,bJ,cK,cC,h1,h2,h3,b7,g,bp,S.d]
theorem qZ{h:DE}{R:Rs S}(e:f Y=.ok (.pure (.bl true)) SL)(k:h SL=R):gz f h Y=R:=by unfold gz;rw[e];exact k
theorem e8(h:f Y=.ok (.pure (.bl z)) SL):aD f Y=.ok z SL:=#v[aD,h]
theorem dw(h:t Y=.ok z SL):bA t a b Y=if z then a SL else b SL:=by unfold bA;rw[h];rfl
theorem rt(e:f Y=.ok v SL):aU f Y=.ok (.ret v) SL:=by unfold aU;rw[e];rfl
theorem nz(e:a Y=.ok .next SL)(h:b SL=R):aA a b Y=R:=fM h e
theorem iN(e:t Y=.ok false SL)(h:c SL=R):aA (bA t a bI) c Y=R:=Fm h e
end
theorem X2{t:DT}{b:DS}{n:Nat}{Y SL PP:Dl}(h1:t Y=.ok true SL)(h2:b SL=.ok .next PP):fU t b (n+1) Y=fU t b n PP:=by simp only[fU,h1,g_,if_true,h2]
theorem X3{t:DT}{b:DS}{n:Nat}{Y SL:Dl}(h1:t Y=.ok false SL):fU t b (n+1) Y=.ok .next SL:=by simp[fU,h1]
theorem fV{T:String}{d:D}{b:Bool}{Y:Dl}{i:Nat}(h:Y[i]?=some 0#d)(e:gC T d=some b):eL T (aq i) Y=.ok (.pure (.bl b)) Y:=by simp[eL,aq,h,S.d,e]
theorem G8{α:Type}(xs:List α)(p:α->Bool):eJ (.lst (xs.map λn=>.bl (p n)))=0#(.bl (xs.all p)):=by
 have e:(xs.map λn=>D.bl (p n))=(xs.map p).map D.bl:=by simp
 unfold eJ;simp only[e,Sz,WM];simp[Ur,Function.comp_def]
theorem eE{f:DE}{Y SL:Dl}{x:Bool}(h:f Y=.ok (.pure (.bl x)) SL):bD (aD f) Y=.ok (!x) SL:=#v[aD,h]
theorem fv{t u:DT}{Y SL PP:Dl}{x:Bool}(h:t Y=.ok false SL)(k:u SL=.ok x PP):cu t u Y=.ok x PP:=#v[h,k]
theorem ni{t u:DT}{Y SL:Dl}(h:t Y=.ok true SL):cu t u Y=.ok true SL:=#v[h]
theorem G9{p:Prop}(h:p:=by exists "g_;Fo bW aD aE ax au dY ae aq eL zw iC fo jy S.d az bJ cK cC b7 bp ay gz Fn",_,_,_<;>rfl):p:=h
theorem zG{g:DG}{b:DS}(P:Prop)(I:List D->Dl->Prop)(hs:∀d rs Y,I (d::rs) Y->∃SL,g (.pure d) Y=some SL/\((¬P/\∃PP,b SL=.ok (.ret (.pure (.bl false))) PP)\/∃PP,b SL=.ok .next PP/\I rs PP)):∀ds Y,I ds Y->(¬P/\∃P3,forL g b ds Y=.ok (.ret (.pure (.bl false))) P3)\/∃P3,forL g b ds Y=.ok .next P3/\I [] P3
 |[],Y,h=>.inr ⟨Y,rfl,h⟩|d::rs,Y,h=>by
  obtain⟨SL,e1,⟨np,PP,e2⟩|⟨PP,e2,h2⟩⟩:=hs d rs Y h;.exact .inl ⟨np,PP,G4 e1 e2⟩
  .rw[uJ e1 e2];exact zG P I hs rs PP h2
abbrev uN(G:DF)(as:List S)(P:Prop):Prop:=∃b,G as=some (.pure (.bl b),as)/\(b=true↔P)
theorem uN.no{G:DF}{as:List S}{P:Prop}(h:G as=some (.pure (.bl false),as))(n:¬P):uN G as P:=⟨false,h,nofun,λp=>(n p).elim⟩
theorem zH(np:List Nat)(n:Nat)(b:DS)(ss:List S):jh np n b ss=if cP np 0 ss then match b (bW n ss)with|.ok fl Y=>(dS fl).bind λr=>(bZ 0 ss Y).map λaH=>.inl (r,aH)|.exc x Y=>(bZ 0 ss Y).map λaH=>.inr (x,aH)|.stuck=>none else none:=rfl
abbrev xN(d:D):Xc:=⟨[78,111,84,105,108,101],.xd [([116,105,108,101],d)]⟩
theorem X4{b:DS}{n:Nat}{x y:D}{SL:Dl}(e:b (bW n [.pure x,.pure y])=.ok .next SL):jh [] n b [.pure x,.pure y]=some (.inl (.pure .aI,[.pure x,.pure y])):=by rw[zH,e];rfl
theorem G_{b:DS}{n:Nat}{x y:D}{v:Xc}{SL:Dl}(e:b (bW n [.pure x,.pure y])=.exc v SL):jh [] n b [.pure x,.pure y]=some (.inr (v,[.pure x,.pure y])):=by rw[zH,e];rfl
theorem X5{b:DS}{n:Nat}{x y z:D}{v:Xc}{SL:Dl}(e:b (bW n [.pure x,.pure y,.pure z])=.exc v SL):jh [] n b [.pure x,.pure y,.pure z]=some (.inr (v,[.pure x,.pure y,.pure z])):=by rw[zH,e];rfl
def lZ(bs:8#0)(d:D):Prop:=gC "str" d=some false\/∃z,d=.str z/\∀n∈bs.map (·.1),z≠[n]
theorem X6{bs:8#0}{z:Tx}(h:∀n∈bs.map (·.1),z≠[n]):eW true (.str z) (aT bs)=0#(.bl true):=by
 have hv:dZ (bs.map λb=>((Sum.inr [b.1]:b_),aa b.2)) (.inr z)=none:=by
  unfold dZ;have:(bs.map λb=>((Sum.inr [b.1]:b_),aa b.2)).find? (λkv=>decide (kv.1=.inr z))=none:=List.find?_eq_none.mpr λkv hk e=>by obtain⟨b,hb,rfl⟩:=WH.mp hk;simp at e;exact h b.1 (QB hb) e.symm
  rw[this];rfl
 show((fu (.str z)).map λk=>S.pure (.bl (if true then !(dZ (bs.map λb=>((Sum.inr [b.1]:b_),aa b.2)) k).isSome else(dZ (bs.map λb=>((Sum.inr [b.1]:b_),aa b.2)) k).isSome)))=_;simp[fu,hv]
theorem Ha{h w t0:Nat}{bs:8#0}(R:bS h w bs)(ht:t0∈bs.map (·.1)):kz [.pure (aj h w bs),.pure (.str [t0])]=some (.inl (.pure .aI,[.pure (aj h w bs),.pure (.str [t0])])):=by have x2:=(iM h w bs).2.2;have hd:=qW R;have hi:=XU ht;rw[kz,uB];generalize aj h w bs=ru at*;generalize D.tup (bs.map dG)=bd at*;generalize aT bs=dd at*;refine X4 (SL:=[0#ru,0#(.str [t0])]) ?_;simp[bW,aD,eL,gC,aq,ae,au,dY,x2,hd,hi]
theorem X7{h w:Nat}{bs:8#0}(R:bS h w bs){d:D}(hb:lZ bs d):kz [.pure (aj h w bs),.pure d]=some (.inr (xN d,[.pure (aj h w bs),.pure d])):=by
 have x2:=(iM h w bs).2.2;have hd:=qW R;rw[kz,uB];rcases hb with hb|⟨z,rfl,hz⟩;.generalize aj h w bs=ru at*;refine G_ (SL:=[0#ru,0#d]) ?_;simp[bW,aD,eL,hb,aq,ae,mR]
 .have hi:=X6 hz;generalize aj h w bs=ru at*;generalize D.tup (bs.map dG)=bd at*;generalize aT bs=dd at*;refine G_ (SL:=[0#ru,0#(.str z)]) ?_;simp[bW,aD,eL,gC,aq,ae,au,dY,x2,hd,hi,mR]
theorem Hb(L:List D)(r:Nat)(h:r<L.length):∃e∈L,aC (.lst L) (.int r)=0#e:=⟨L[r],WU h,#v[aC,ji,h]⟩
theorem gM(xs ys:List D)(h:xs.length+ys.length<=100000):aF (.lst xs) (.lst ys)=some (.own (.lst (xs++ys))):=by have hz:W7=16777216:=rfl;show(if xs.length+ys.length<=W7 then some (S.own (.lst (xs++ys)))else none)=_;rw[if_pos Y']
theorem X8:nS (.int 1)=0#(.int (-1)):=rfl
theorem Hc:∀(xs l:List Nat),xs.Nodup->(∀x∈xs,x∈l)->xs.length<=l.length|[],l,_,_=>Q2 _|x::xs,l,hn,hs=>by have hx:=hs x Zw;have iT:=QV.mp hn;have:=Hc xs (l.erase x) iT.2 λy hy=>(List.mem_erase_of_ne λe:y=x=>iT.1 (e▸hy)).mpr (hs y #v[hy]);rw[List.length_erase_of_mem hx]at this;have:0<l.length:=JH hx;simp;lia
theorem X9(ts:List Nat)(n:Nat):eW true (.str [n]) (.lst (ts.map cg))=0#(.bl !ts.contains n):=by
 have e:cO (ts.map cg)=some (ts.map λn=>[n]):=by induction ts with|nil=>rfl|cons a r ih=>simp[cO]at ih⊢;exact ih
 have c:(ts.map λn=>[n]).contains [n]=ts.contains n:=by induction ts with|nil=>rfl|cons a r ih=>simp at ih⊢
 unfold eW;simp only[e];rw[<-c];rfl
theorem X_(ds:List D)(d:D):aC (.lst (ds++[d])) (.int (-1))=0#d:=by
 have:dJ (ds++[d]) (-1)=some d:=by
  unfold dJ gx;rw[if_neg Y',if_pos Zx];have e:(-1+((ds++[d]).length:Int)).toNat=ds.length:=by simp;lia
  simp only[WO,e];simp
 simp[aC,this]
theorem Ya(GT GD:DF)(hd:G1 GD){h w:Nat}{bs:8#0}(R:bS h w bs)(h6:bs.length<=25)(ru:D)(gt:GT [.pure ru]=some (.own (.lst ((bs.map (·.1)).map cg)),[.pure ru])){pd:D}(zI:cq pd):∃(d bh:D),lZ bs d/\cq bh/\bF [0] 6 (aA (aE (az GT [.val (ae 1)]) (ah [0] 2)) (aA (aE (bb [5] (aR (eD (.str qU))) (ah [0] 5) (aD (ax (eW true) (ae 5) (aq 2))) (ae 5)) (ah [0] 3)) (aA (aE (aX (aw (eD .aI) (aw 3#0 (aw (eD (.bl true)) (aw (eD (.str [])) (aw (ax ly (au aC 2 1#0) 1#2) (aw (ay nW (ag (au aC 2 1#0))) aJ))))))) (ah [0] 4)) (aA (aE (au aF 4 (ag (aX (aw (aX (aw (au aC 2 1#0) aJ)) (aw (cp (aw (au aC 2 1#0) aJ)) (aw mE (aw (au aC 3 1#0) (aw (au aC 3 (ag (ay nS 1#1))) (aw (eD (.str [49])) aJ))))))))) (ah [0] 4)) (aU (au aC 4 (ag (az GD [.io 0,.val 3#12])))))))) [.own pd,.pure ru]=some (.pure d,[.own bh,.pure ru]):=by
 have ng:∀n∈bs.map (·.1),97<=n/\n<=122:=λn hn=>by obtain⟨b,hb,rfl⟩:=WH.mp hn;exact R.t9 b hb
 have dh:∀x:Tx,(∀n∈bs.map (·.1),[n]≠x)->lZ bs (.str x):=λx hx=>.inr ⟨x,rfl,λn hn e=>hx n hn e.symm⟩;have n0:=R.n0;have p_:(bs.map (·.1)).length<=25:= ~~~h6;obtain⟨n,rest,jC⟩:∃n rest,bs.map (·.1)=n::rest:=by cases e:bs.map (·.1)with|nil=>have:=congrArg QS e;simp at this;subst this;simp at n0|cons n rest=>exact⟨n,rest,rfl⟩
 have hn:=ng n (by rw[jC];simp);have nX:(qU:List Nat).filter (λm=>!(bs.map (·.1)).contains m)≠[]:=λe=>by
  have vH:∀m∈(qU:List Nat),m∈bs.map (·.1):=λm hm=>by have:=List.filter_eq_nil_iff.mp e m hm;simpa using this
  have:=Hc qU (bs.map (·.1)) Z' vH;have e26:(qU:List Nat).length=26:=rfl;lia
 obtain⟨d3,pd3,e3,l3,p3⟩:=hd pd 12 zI Y' Y';have Yb:GD [.own pd,.pure (.int 12)]=some (.pure (.int (d3:Int)),[.own pd3,.pure (.int 12)]):=e3;have kg:=X9 (bs.map (·.1));have ec:=zx (cs:=[5]) (g:=ah [0] 5) (t:=aD (ax (eW true) (ae 5) (aq 2))) (el:=ae 5) (λm:Nat=>D.str [m]) cg (λm=>!(bs.map (·.1)).contains m) [some (.own pd),0#ru,some (.own (.lst ((bs.map (·.1)).map cg))),none,none,none] qU [] (by rw[hU];simp) (λm hm=>by have i:=kg m;refine⟨_,[some (.own pd),0#ru,some (.own (.lst ((bs.map (·.1)).map cg))),none,none,0#(.str [m])],.pure (cg m),[some (.own pd),0#ru,some (.own (.lst ((bs.map (·.1)).map cg))),none,none,0#(.str [m])],rfl,?_,rfl,rfl,rfl,rfl⟩;generalize(!(bs.map (·.1)).contains m)=z at*;generalize D.lst ((bs.map (·.1)).map cg)=LT at*;generalize D.str [m]=dm at*;simp[aD,ae,aq,i]);have zJ:∀m∈(qU:List Nat).filter (λm=>!(bs.map (·.1)).contains m),lZ bs (.str [m]):=λm hm=>by have:=(List.mem_filter.mp hm).2;refine dh [m] λk hk e=>?_;cases e;rw[List.contains_iff_mem.mpr hk]at this;cases this
 rw[Qt]at ec;generalize(qU:List Nat).filter (λm=>!(bs.map (·.1)).contains m)=S' at*;obtain⟨m0,r0,q0⟩:∃m0 r0,S'=m0::r0:=by cases S' with|nil=>exact absurd rfl nX|cons a b=>exact⟨a,b,rfl⟩
 obtain⟨s1,m1,q1⟩:∃s1 m1,S'=s1++[m1]:=⟨S'.dropLast,S'.getLast nX,(List.dropLast_concat_getLast nX).symm⟩;have t0:=zJ m0 (by rw[q0];simp);have t1:=zJ m1 (by rw[q1];simp);have i0:aC (.lst (S'.map cg)) (.int 0)=0#(.str [m0]):=by rw[q0];simp[aC,lH]
 have i1:aC (.lst (S'.map cg)) (.int (-1))=0#(.str [m1]):=by rw[q1,Qb];exact X_ (s1.map cg) (cg m1)
 have it:aC (.lst ((bs.map (·.1)).map cg)) (.int 0)=0#(.str [n]):=by rw[jC];simp[aC,lH]
 have mu:ly (.str [n]) (.int 2)=0#(.str [n,n]):=rfl;have up:nW (.str [n])=0#(.str [n-32]):=if_pos hn;obtain⟨d,hm,ix⟩:=Hb ([.aI,.int 0,.bl true,.str [],.str [n,n],.str [n-32]]++[.lst [.str [n]],.tup [.str [n]],.bP [],.str [m0],.str [m1],.str [49]]) d3 (~~~l3);have ad:=gM [.aI,.int 0,.bl true,.str [],.str [n,n],.str [n-32]] [.lst [.str [n]],.tup [.str [n]],.bP [],.str [m0],.str [m1],.str [49]] Zw;have hz:lZ bs d:=by
  simp only[Wu,Wi,Jy,or_false]at hm;rcases hm with(rfl|rfl|rfl|rfl|rfl|rfl)|(rfl|rfl|rfl|rfl|rfl|rfl);.exact .inl rfl
  .exact .inl rfl
  .exact .inl rfl
  .exact dh _ λk hk e=>by cases e
  .exact dh _ λk hk e=>by cases e
  .exact dh _ λk hk e=>by have:=ng k hk;injection e;lia
  .exact .inl rfl
  .exact .inl rfl
  .exact .inl rfl
  .exact t0
  .exact t1
  .exact dh _ λk hk e=>by have:=ng k hk;injection e;lia
 refine⟨d,pd3,hz,p3,?_⟩;rw[oB];clear hz hm t0 t1 zJ dh ng nX;generalize([.aI,.int 0,.bl true,.str [],.str [n,n],.str [n-32]]:List D)++[.lst [.str [n]],.tup [.str [n]],.bP [],.str [m0],.str [m1],.str [49]]=LL at*;generalize D.str [n,n]=x1 at*;generalize D.str [n-32]=x2 at*;generalize D.str [m0]=x3 at*;generalize D.str [m1]=x4 at*;generalize hx5:D.str [n]=x5 at*;generalize D.lst ((bs.map (·.1)).map cg)=LT at*;generalize hS:S'.map cg=SS at*;generalize(qU:List Nat)=LE at*;simp[cP,bW,aE,az,bJ,cK,cG,cC,b7,bp,ae,aq,gt,oz,bt];rw[ec];simp[dg,aE,mE,az,bJ,cK,cG,cC,b7,bp,ae,aq,au,dY,it,mu,up,i0,i1,X8,ad,Yb,ix,dS,bZ]
theorem Yc{h w:Nat}{bs:8#0}(R:bS h w bs)(h6:bs.length<=25){pd:D}(zI:cq pd):∃(d bh:D),lZ bs d/\cq bh/\kC [.own pd,.pure (aj h w bs)]=some (.pure d,[.own bh,.pure (aj h w bs)]):=by rw[kC,Gf];exact Ya f7 cQ XY R h6 _ (qX R) zI
structure Dm(R C:Nat)(F:List Tx):Prop where
 rows:F.length=R
 cols:∀r∈F,r.length=C
def cell(F:List Tx)(a b:Nat):Nat:=(F.getD a []).getD b 0
theorem Dm.row{R C:Nat}{F:List Tx}(d:Dm R C F){a:Nat}(h:a<R):F[a]?=some (F.getD a [])/\(F.getD a []).length=C:=by have ha:a<F.length:=d.rows▸h;rw[Wo,W4 ha];exact⟨rfl,d.cols _ (WU ha)⟩
theorem Dm.ext{R C:Nat}{F G:List Tx}(d:Dm R C F)(e:Dm R C G)(h:∀a b,a<R->b<C->cell F a b=cell G a b):F=G:=by
 apply J5;intro a;by_cases ha:a<R
 .rw[(d.row ha).1,(e.row ha).1];congr 1;apply J5;intro b;have l1:=(d.row ha).2;have l2:=(e.row ha).2;by_cases hb:b<C;.have:=h a b ha hb;unfold cell at this;rw[Wo,Wo (l:=G.getD a [])]at this;rw[W4 Y',W4 Y']at*;exact congrArg _ this
  .rw[WJ Y',WJ Y']
 .rw[WJ (by have:=d.rows;lia),WJ (by have:=e.rows;lia)]
def cut(F:List Tx)(i j r c:Nat):List Tx:=((F.drop i).take r).map λrow=>(row.drop j).take c
theorem uO{R C:Nat}{F:List Tx}(d:Dm R C F){i j r c:Nat}(h1:i+r<=R)(h2:j+c<=C):Dm r c (cut F i j r c):=by refine⟨by simp[cut,d.rows];lia,λx hx=>?_⟩;obtain⟨y,hy,rfl⟩:=WH.mp hx;have:=d.cols y (Qx (Ql hy));simp;lia
theorem zK{R C:Nat}{F:List Tx}(d:Dm R C F){i j r c a b:Nat}(h1:i+r<=R)(h2:j+c<=C)(ha:a<r)(hb:b<c):cell (cut F i j r c) a b=cell F (i+a) (j+b):=by
 have hi:i+a<R:=by lia
 obtain⟨e1,e2⟩:=d.row hi;unfold cell cut;rw[Wo (l:=List.map _ _),WD,QW ha,Jj,e1];show(((F.getD (i+a) []).drop j).take c).getD b 0=_;rw[Wo,QW hb,Jj,<-Wo]
abbrev fO.dm{bs:8#0}{R C:Nat}{F:List Tx}(f:fO bs R C F):Dm R C F:=⟨f.rows,f.cols⟩
theorem q_{bs:8#0}{R C:Nat}{F:List Tx}(f:fO bs R C F){i j r c:Nat}(h1:i+r<=R)(h2:j+c<=C):fO bs r c (cut F i j r c):=by have d:=uO f.dm h1 h2;refine⟨d.rows,d.cols,λx hx n hn=>?_⟩;obtain⟨y,hy,rfl⟩:=WH.mp hx;exact f.tl y (Qx (Ql hy)) n (Qx (Ql hn))
theorem Hd{w:Nat}{g:Nat->Tx}(hw:0<w):∀(row:Tx)(b:Nat),(∀n∈row,(g n).length=w)->b<row.length*w->(row.map g).flatten.getD b 0=(g (row.getD (b/w) 0)).getD (b%w) 0
 |[],b,_,h=>by simp at h|n::r,b,hg,h=>by
  have l:=hg n (.head _);rw[Wj,Jr,Wo];by_cases hb:b<w;.rw[Qo Y',Nat.div_eq_of_lt hb,Nat.mod_eq_of_lt hb,<-Wo];rfl
  .obtain⟨k,rfl⟩:∃k,b=k+w:=⟨b-w,Y'⟩;rw[Qy Y',<-Wo,show k+w-(g n).length=k by lia,Hd hw r k (λx hx=>hg x (.tail _ hx)) (by rw[WE,Jx]at h;lia),Nat.add_div_right _ hw,Nat.add_mod_right];rfl
theorem He{h:Nat}{g:Tx->List Tx}(hh:0<h):∀(F:List Tx)(a:Nat),(∀x,(g x).length=h)->a<F.length*h->(F.flatMap g).getD a []=(g (F.getD (a/h) [])).getD (a%h) []
 |[],a,_,h=>by simp at h|n::r,a,hg,h'=>by
  have l:=hg n;rw[Js,Wo];by_cases hb:a<h;.rw[Qo Y',Nat.div_eq_of_lt hb,Nat.mod_eq_of_lt hb,<-Wo];rfl
  .obtain⟨k,rfl⟩:∃k,a=k+h:=⟨a-h,Y'⟩;rw[Qy Y',<-Wo,show k+h-(g n).length=k by lia,He hh r k hg (by rw[WE,Jx]at h';lia),Nat.add_div_right _ hh,Nat.add_mod_right];rfl
theorem Hf{h w R C a b:Nat}{bs:8#0}{F:List Tx}(Ru:bS h w bs)(f:fO bs R C F)(ha:a<R*h)(hb:b<C*w):cell (lay h bs F) a b=cell (cW bs (cell F (a/h) (b/w))) (a%h) (b%w):=by
 have h0:=Ru.h0;have w0:=Ru.w0;have hr:a/h<R:=Nat.div_lt_of_lt_mul (by rwa[Jw]);obtain⟨e1,e2⟩:=f.dm.row hr;have hm:=WQ e1;unfold cell lay;rw[He h0 F a (λx=>#v[layR]) %[f.rows|ha]];generalize F.getD (a/h) []=row at*;have hl:=Nat.mod_lt a h0;have e3:(layR h bs row).getD (a%h) []=eZ bs (a%h) row:=by unfold layR;rw[Wo,WD,List.getElem?_range hl];rfl
 rw[e3];unfold eZ;rw[Hd w0 row b (λn hn=>(qY Ru (f.tl row hm n hn) hl).1) %[e2|hb]]
theorem Hg{h w R C s u p q:Nat}{bs:8#0}{F:List Tx}(Ru:bS h w bs)(f:fO bs R C F)(h1:s+p<=R)(h2:u+q<=C){i j r c:Nat}(h3:i+r<=p*h)(h4:j+c<=q*w):cut (lay h bs (cut F s u p q)) i j r c=cut (lay h bs F) (s*h+i) (u*w+j) r c:=by
 have g:=q_ f h1 h2;have a1:=(jL Ru f).dm;have a2:=(jL Ru g).dm;have b1:s*h+i+r<=R*h:=by have:=JT h h1;rw[Nat.add_mul]at this;lia
 have b2:u*w+j+c<=C*w:=by have:=JT w h2;rw[Nat.add_mul]at this;lia
 refine(uO a2 h3 h4).ext (uO a1 b1 b2) λa b ha hb=>?_;rw[zK a2 h3 h4 ha hb,zK a1 b1 b2 ha hb,Hf Ru g Y' Y',Hf Ru f Y' Y'];have d1:(i+a)/h<p:=Nat.div_lt_of_lt_mul (by rw[Jw];lia);have d2:(j+b)/w<q:=Nat.div_lt_of_lt_mul (by rw[Jw];lia);have e1:(s*h+i+a)/h=s+(i+a)/h:=by rw[Jp,J3,Nat.add_mul_div_right _ _ Ru.h0,J3]
 have e2:(u*w+j+b)/w=u+(j+b)/w:=by rw[Jp,J3,Nat.add_mul_div_right _ _ Ru.w0,J3]
 have e3:(s*h+i+a)%h=(i+a)%h:=by rw[Jp,J3,Nat.add_mul_mod_self_right]
 have e4:(u*w+j+b)%w=(j+b)%w:=by rw[Jp,J3,Nat.add_mul_mod_self_right]
 rw[zK f.dm h1 h2 d1 d2,e1,e2,e3,e4]
def wd(F:List Tx):Nat:=(F.getD 0 []).length
theorem Dm.wd{R C:Nat}{F:List Tx}(d:Dm R C F)(h:0<R):wd F=C:=(d.row h).2
def gn(F:List Tx)(r c:Nat):List (List Tx):=(Wl (F.length-r+1)).flatMap λi=>(Wl (wd F-c+1)).map λj=>cut F i j r c
def e9(F:List Tx):List (List Tx):=gn F (min F.length 3) (min (wd F) 3)
def ie(h w:Nat)(F:List Tx):List (List Tx):=gn F (if h=1 then F.length else min F.length 2) (if w=1 then wd F else min (wd F) 2)
theorem zL{R C r c:Nat}{F p:List Tx}(d:Dm R C F)(h0:0<R)(hr:r<=R)(hc:c<=C):p∈gn F r c↔∃i j,i+r<=R/\j+c<=C/\p=cut F i j r c:=by
 unfold gn;rw[d.wd h0,d.rows];simp only[List.mem_flatMap,List.mem_map,List.mem_range];constructor;.rintro⟨i,hi,j,hj,rfl⟩;exact⟨i,j,Y',Y',rfl⟩
 .rintro⟨i,j,hi,hj,rfl⟩;exact⟨i,Y',j,Y',rfl⟩
abbrev fw(h R:Nat):Nat:=if h=1 then R else min R 2
theorem Hh{h R I:Nat}(h0:0<h)(r0:0<R)(r3:R<=3)(hI:I+min (R*h) 3<=R*h):∃s i,s+fw h R<=R/\I=s*h+i/\i+min (R*h) 3<=fw h R*h/\min (fw h R*h) 3=min (R*h) 3:=by
 unfold fw;by_cases e:h=1;.rw[if_pos e];exact⟨0,I,Y',Y',hI,rfl⟩
 .rw[if_neg e];by_cases r2:R<=2;.rw[U2 r2];exact⟨0,I,Y',Y',hI,rfl⟩
  .obtain rfl:R=3:=by lia
   rw[show min 3 2=2 from rfl];by_cases l:I<h;.exact⟨0,I,Y',Y',Y',Y'⟩
   .exact⟨1,I-h,Y',Y',Y',Y'⟩
theorem oE{h R:Nat}(r0:0<R)(r3:R<=3)(h0:0<h):0<fw h R/\fw h R<=R/\min (fw h R*h) 3=min (R*h) 3:=by
 unfold fw;by_cases e:h=1;.rw[if_pos e];exact⟨r0,W5 _,rfl⟩
 .rw[if_neg e];refine⟨Y',Y',?_⟩;by_cases r2:R<=2;.rw[U2 r2]
  .obtain rfl:R=3:=by lia
   rw[show min 3 2=2 from rfl];lia
theorem zM{R C:Nat}{F p:List Tx}(d:Dm R C F)(h0:0<R):p∈e9 F↔∃i j,i+min R 3<=R/\j+min C 3<=C/\p=cut F i j (min R 3) (min C 3):=by unfold e9;rw[d.wd h0,d.rows];exact zL d h0 Y' Y'
theorem zN{h w R C:Nat}{F p:List Tx}(d:Dm R C F)(h0:0<R)(hh:0<h)(hw:0<w)(r3:R<=3)(c0:0<C)(c3:C<=3):p∈ie h w F↔∃i j,i+fw h R<=R/\j+fw w C<=C/\p=cut F i j (fw h R) (fw w C):=by unfold ie;rw[d.wd h0,d.rows];exact zL d h0 (oE h0 r3 hh).2.1 (oE c0 c3 hw).2.1
theorem Hi{h w R C:Nat}{bs:8#0}{F p:List Tx}(Ru:bS h w bs)(f:fO bs R C F)(r0:0<R)(r3:R<=3)(c0:0<C)(c3:C<=3):p∈e9 (lay h bs F)↔∃q∈ie h w F,p∈e9 (lay h bs q):=by
 have h0:=Ru.h0;have w0:=Ru.w0;obtain⟨t1,t2,t3⟩:=oE r0 r3 h0;obtain⟨u1,u2,u3⟩:=oE c0 c3 w0;rw[zM (jL Ru f).dm (QT r0 h0)];have part:∀s u,s+fw h R<=R->u+fw w C<=C->(p∈e9 (lay h bs (cut F s u (fw h R) (fw w C)))↔∃i j,i+min (R*h) 3<=fw h R*h/\j+min (C*w) 3<=fw w C*w/\p=cut (lay h bs F) (s*h+i) (u*w+j) (min (R*h) 3) (min (C*w) 3)):=λs u hs hu=>by
  rw[zM (jL Ru (q_ f hs hu)).dm (QT t1 h0),t3,u3];constructor;.rintro⟨i,j,hi,hj,e⟩;exact⟨i,j,hi,hj,e.trans (Hg Ru f hs hu hi hj)⟩
  .rintro⟨i,j,hi,hj,e⟩;exact⟨i,j,hi,hj,e.trans (Hg Ru f hs hu hi hj).symm⟩
 constructor;.rintro⟨I,J,hI,hJ,e⟩;obtain⟨s,i,a1,rfl,a3,_⟩:=Hh h0 r0 r3 hI;obtain⟨u,j,b1,rfl,b3,_⟩:=Hh w0 c0 c3 hJ;exact⟨_,(zN f.dm r0 h0 w0 r3 c0 c3).mpr ⟨s,u,a1,b1,rfl⟩,(part s u a1 b1).mpr ⟨i,j,a3,b3,e⟩⟩
 .rintro⟨q,hq,hp⟩;obtain⟨s,u,a1,b1,rfl⟩:=(zN f.dm r0 h0 w0 r3 c0 c3).mp hq;obtain⟨i,j,a3,b3,e⟩:=(part s u a1 b1).mp hp;refine⟨s*h+i,u*w+j,?_,?_,e⟩;.have:=JT h a1;rw[Nat.add_mul]at this;lia
  .have:=JT w b1;rw[Nat.add_mul]at this;lia
theorem uP{α:Type}(xs:List α)(i r:Nat):br xs (some (i:Int)) (some ((i:Int)+(r:Int)))=(xs.drop i).take r:=by
 have h1:¬(i:Int)<0:=by lia
 have h2:¬(i:Int)+(r:Int)<0:=by lia
 have h3:((i:Int)+(r:Int)).toNat=i+r:=by lia
 unfold br Lake.aO;simp only[h1,h2,if_false,h3,Uh];apply J5;intro k;rw[List.getElem?_take,List.getElem?_take,Jj,Jj];by_cases q:i<=xs.length
 .rw[U2 q];by_cases a:k<r
  .rw[if_pos a];by_cases b:i+k<xs.length;.rw[if_pos Y']
   .rw[WJ Y'];exact ite_self none
  .rw[if_neg a,if_neg Y']
 .rw[if_neg Y'];by_cases a:k<r;.rw[if_pos a,WJ Y']
  .rw[if_neg a]
theorem zO{A J:Type}{M:Nat}{gd:A->D}{F:A->List D}{g:DG}{b:DS}{mk:List D->J->Dl}{st:A->J->J}(hg:∀a acc j,g (.pure (gd a)) (mk acc j)=some (mk acc (st a j))):∀as:List A,(∀a∈as,∀acc j,acc.length+(F a).length<=M->∃j',b (mk acc (st a j))=.ok .next (mk (acc++F a) j'))->∀acc j,acc.length+(as.flatMap F).length<=M->∃j',forL g b (as.map gd) (mk acc j)=.ok .next (mk (acc++as.flatMap F) j')|[],_,acc,j,_=>⟨j,by rw[List.flatMap_nil,WT];rfl⟩|a::as,hb,acc,j,hl=>by rw[Js,Wy]at hl;obtain⟨j1,e1⟩:=hb a (.head _) acc j Y';obtain⟨j2,e2⟩:=zO hg as (λx hx=>hb x (.tail _ hx)) (acc++F a) j1 (by rw[Wy];lia);rw[WL]at e2;exact⟨j2,(uJ (hg a acc j) e1).trans e2⟩
theorem zP{A B:Type}(f:A->B):∀as:List A,as.flatMap (λa=>[f a])=as.map f|[]=>rfl|a::as=>by rw[Js,zP f as];rfl
section
variable{G:DF}{f4 f5:DE}{a b d e:D}
theorem jM(h1:f1 Y=.ok (.pure a) Y)(h2:f2 Y=.ok (.pure b) Y)(g:G [.pure a,.pure b]=some (v,[.pure a,.pure b])):az G [.val f1,.val f2] Y=.ok v Y:=#v[az,bJ,cK,cC,h1,h2,b7,g,bp,S.d]
theorem Yd(h1:f1 Y=.ok (.pure a) Y)(h2:f2 Y=.ok (.pure b) Y)(h3:f3 Y=.ok (.pure c) Y)(h4:f4 Y=.ok (.pure d) Y)(h5:f5 Y=.ok (.pure e) Y)(g:G [.pure a,.pure b,.pure c,.pure d,.pure e]=some (v,[.pure a,.pure b,.pure c,.pure d,.pure e])):az G [.val f1,.val f2,.val f3,.val f4,.val f5] Y=.ok v Y:=#v[az,bJ,cK,cC,h1,h2,h3,h4,h5,b7,g,bp,S.d]
theorem uQ{i:Nat}{l h:Int}{r:S}(hi:Y[i]?=some (some v)){fl fh:DE}(h1:fl Y=.ok (.pure (.int l)) Y)(h2:fh Y=.ok (.pure (.int h)) Y)(e:cJ (some l) (some h) v.d=some r):bj i (aV fl) (aV fh) Y=.ok r Y:=#v[bj,aV,hi,h1,h2,aq,e]
end
theorem e_{f:DE}{Y SL:Dl}{v:S}{ds:List D}(e:f Y=.ok v SL)(h:v.d=.tup ds\/v.d=.lst ds):aR f Y=.ok ds SL:=by rw[oz,e,g_];rcases h with h|h<;>rw[h]
theorem Ye{b:DS}{n:Nat}{x y z u w:D}{v:S}{SL:Dl}(e:b (bW n [.pure x,.pure y,.pure z,.pure u,.pure w])=.ok (.ret v) SL):bF [] n b [.pure x,.pure y,.pure z,.pure u,.pure w]=some (v,[.pure x,.pure y,.pure z,.pure u,.pure w]):=by rw[oB,e];rfl
theorem Yf{R C:Nat}{F:List Tx}(d:Dm R C F)(hR:R<=1000)(hC:C<=1000)(i j r c:Nat):lQ [.pure (aa F),.pure (.int i),.pure (.int j),.pure (.int r),.pure (.int c)]=some (.pure (aa (cut F i j r c)),[.pure (aa F),.pure (.int i),.pure (.int j),.pure (.int r),.pure (.int c)]):=by
 have s1:cJ (some (i:Int)) (some ((i:Int)+(r:Int))) (aa F)=pS (.tup (((F.drop i).take r).map .str)):=by show some (S.pure (.tup (br _ _ _)))=_;rw[uP,Uk,Ul]
 have ad:=λa b:Nat=>add_int (a:Int) (b:Int);refine Ye (SL:=[pS (aa F),pS (.int i),pS (.int j),pS (.int r),pS (.int c),none]) (rt (cE (cS (f:=.str) (λx=>.str ((x.drop j).take c)) (as:=(F.drop i).take r) (Y:=[pS (aa F),pS (.int i),pS (.int j),pS (.int r),pS (.int c),none]) ?_ (by simp[d.rows];lia) λx hx=>?_) ?_));.exact e_ (uQ (v:=.pure (aa F)) rfl rfl (b8 rfl rfl (ad i r)) s1) (.inl rfl)
 .have hl:=d.cols x (Qx (Ql hx));have s2:cJ (some (j:Int)) (some ((j:Int)+(c:Int))) (.str x)=pS (.str ((x.drop j).take c)):=by show(if x.length<=W7 then some (S.pure (.str (br x _ _)))else none)=_;rw[if_pos (by rw[hU];lia),uP]
  exact uQ (v:=.pure (.str x)) rfl rfl (b8 rfl rfl (ad j c)) s2
 .simp[dk,cut,Function.comp_def,S.d]
theorem nj{R C:Nat}{F:List Tx}(d:Dm R C F)(h0:0<R):aC (aa F) (.int 0)=pS (.str (F.getD 0 [])):=by have:=(d.row h0).1;show(dJ (F.map D.str) ((0:Nat):Int)).map _=_;rw[ji,WD,this];rfl
theorem kE(F:List Tx):aP (aa F)=pS (.int (F.length:Nat)):=#v[aP]
theorem jN{x:Tx}(h:x.length<=1000):aP (.str x)=pS (.int (x.length:Nat)):=if_pos (by rw[hU];lia)
abbrev w6(F r c:D)(acc:List D)(j:Option S×Option S):Dl:=[pS F,pS r,pS c,pO (.lst acc),j.1,j.2]
theorem uR{f:DE}{Y:Dl}{a b:Nat}(e:f Y=.ok (.pure (.int ((a:Int)-(b:Int)+1))) Y)(h:b<=a)(ha:a<=900):cb f Y=.ok ((Wl (a-b+1)).map λi:Nat=>D.int i) Y:=lW e Y' Y'
theorem oF{R C r c:Nat}{F:List Tx}(d:Dm R C F)(h0:0<R):(gn F r c).length=(R-r+1)*(C-c+1):=by unfold gn;rw[d.wd h0,d.rows];generalize R-r+1=n,C-c+1=m;induction n with|zero=>simp|succ n ih=>rw[List.range_succ,List.flatMap_append,Wy,ih];simp[Jx]
theorem Hj{R C r c:Nat}{F:List Tx}(d:Dm R C F)(h0:0<R)(hR:R<=30)(hC:C<=30)(hr:r<=R)(hc:c<=C):oi [.pure (aa F),.pure (.int r),.pure (.int c)]=some (.own (.lst ((gn F r c).map aa)),[.pure (aa F),.pure (.int r),.pure (.int c)]):=by
 have x0:=nj d h0;have l0:=kE F;have l1:=jN (x:=F.getD 0 []) (by rw[(d.row h0).2];lia);rw[(d.row h0).2]at l1;rw[d.rows]at l0;have sb:=λa b:Nat=>xZ (a:Int) (b:Int);have one:∀i:Nat,∀acc j,acc.length+((Wl (C-c+1)).flatMap λj:Nat=>[aa (cut F i j r c)]).length<=1000->∃j',bX (cb (ax aF (ax fk (ay aP (ag (au aC 0 1#0))) (aq 2)) 1#1)) (ah [] 5) (dt 3 (az lQ [.val (ae 0),.val (ae 4),.val (ae 5),.val (ae 1),.val (ae 2)])) (w6 (aa F) (.int r) (.int c) acc (pS (.int i),j))=.ok .next (w6 (aa F) (.int r) (.int c) (acc++(Wl (C-c+1)).flatMap λj:Nat=>[aa (cut F i j r c)]) j'):=λi acc j hl=>by have it:cb (ax aF (ax fk (ay aP (ag (au aC 0 1#0))) (aq 2)) 1#1) (w6 (aa F) (.int r) (.int c) acc (pS (.int i),j))=.ok ((Wl (C-c+1)).map λi:Nat=>D.int i) (w6 (aa F) (.int r) (.int c) acc (pS (.int i),j)):=uR (bK (bK (cE (b8 rfl rfl x0) l1) rfl (sb C c)) rfl rfl) hc Y';obtain⟨j',e⟩:=zO (M:=1000) (gd:=λj:Nat=>D.int j) (F:=λj:Nat=>[aa (cut F i j r c)]) (g:=ah [] 5) (b:=dt 3 (az lQ [.val (ae 0),.val (ae 4),.val (ae 5),.val (ae 1),.val (ae 2)])) (mk:=λacc o=>w6 (aa F) (.int r) (.int c) acc (pS (.int i),o)) (st:=λj k=>pS (.int j)) (λk k k=>rfl) (Wl (C-c+1)) (λj k acc o hl=>by have e1:az lQ [.val (ae 0),.val (ae 4),.val (ae 5),.val (ae 1),.val (ae 2)] (w6 (aa F) (.int r) (.int c) acc (pS (.int i),pS (.int j)))=.ok (.pure (aa (cut F i j r c))) (w6 (aa F) (.int r) (.int c) acc (pS (.int i),pS (.int j))):=Yd rfl rfl rfl rfl rfl (Yf d Y' Y' i j r c);exact⟨pS (.int j),uK e1 rfl rfl (by have hl:acc.length+1<=1000:=hl;lia)⟩) acc j hl;exact⟨_,(dH it).trans e⟩
 have len:((Wl (R-r+1)).flatMap λi:Nat=>(Wl (C-c+1)).flatMap λj:Nat=>[aa (cut F i j r c)])=(gn F r c).map aa:=by unfold gn;rw[d.wd h0,d.rows,List.map_flatMap];congr 1;funext i;rw[zP,Q9];rfl
 obtain⟨j',e⟩:=zO (M:=1000) (gd:=λj:Nat=>D.int j) (F:=λi:Nat=>(Wl (C-c+1)).flatMap λj:Nat=>[aa (cut F i j r c)]) (g:=ah [] 4) (b:=bX (cb (ax aF (ax fk (ay aP (ag (au aC 0 1#0))) (aq 2)) 1#1)) (ah [] 5) (dt 3 (az lQ [.val (ae 0),.val (ae 4),.val (ae 5),.val (ae 1),.val (ae 2)]))) (mk:=λacc o=>w6 (aa F) (.int r) (.int c) acc o) (st:=λi o=>(pS (.int i),o.2)) (λk k k=>rfl) (Wl (R-r+1)) (λi k acc o hl=>one i acc o.2 hl) [] (none,none) (by rw[len,Wq,oF d h0];have:=WN (show R-r+1<=31 by lia) (show C-c+1<=31 by lia);simp;lia);rw[len,Qt]at e;have it:cb (ax aF (ax fk (ay aP (aq 0)) (aq 1)) 1#1) (w6 (aa F) (.int r) (.int c) [] (none,none))=.ok ((Wl (R-r+1)).map λi:Nat=>D.int i) (w6 (aa F) (.int r) (.int c) [] (none,none)):=uR (bK (bK (cF rfl l0) rfl (sb R r)) rfl rfl) hr Y';exact iP (nz (SL:=w6 (aa F) (.int r) (.int c) [] (none,none)) rfl (nz ((dH it).trans e) rfl))
theorem oG(a b:Nat):tM (.int (a:Nat)) (.int (b:Nat))=pS (.int ((min a b:Nat):Int)):=by unfold tM;simp;lia
theorem oH{f g:DE}{Y SL PP:Dl}{x y:S}{r:S}(e1:f Y=.ok x SL)(e2:g SL=.ok y PP)(h:tM x.d y.d=some r):iE f g Y=.ok r PP:=by unfold iE;rw[e1,g_,e2,g_];unfold p2;rw[h]
theorem Yg{R C:Nat}{F:List Tx}(d:Dm R C F)(h0:0<R)(hR:R<=30)(hC:C<=30):qT [.pure (aa F)]=some (.own (.lst ((e9 F).map aa)),[.pure (aa F)]):=by have x0:=nj d h0;have l0:=kE F;have l1:=jN (x:=F.getD 0 []) (by rw[(d.row h0).2];lia);have g:=Hj d h0 hR hC (r:=min F.length 3) (c:=min (wd F) 3) (by rw[d.rows];lia) (by rw[d.wd h0];lia);exact oC (rt (lY rfl (oH (cF rfl l0) rfl (oG _ 3)) (oH (cE (b8 rfl rfl x0) l1) rfl (oG _ 3)) g))
theorem Hk{t:DT}{f g:DE}{Y SL:Dl}{z:Bool}(h:t Y=.ok z SL):j7 t f g Y=if z then f SL else g SL:=by unfold j7;rw[h];cases z<;>rfl
theorem eq_1(h:Nat):de (.int (h:Nat)) (.int 1)=pS (.bl (decide (h=1))):=by rw[XT];congr 3;rw[QE];simp;lia
theorem Yh{h w R C:Nat}{bs:8#0}{F:List Tx}(d:Dm R C F)(h0:0<R)(hR:R<=30)(hC:C<=30):jm [.pure (aj h w bs),.pure (aa F)]=some (.own (.lst ((ie h w F).map aa)),[.pure (aj h w bs),.pure (aa F)]):=by
 have x0:=nj d h0;have l0:=kE F;have l1:=jN (x:=F.getD 0 []) (by rw[(d.row h0).2];lia);have y0:=(iM h w bs).1;have y1:=(iM h w bs).2.1;have g:=Hj d h0 hR hC (r:=if h=1 then F.length else min F.length 2) (c:=if w=1 then wd F else min (wd F) 2) (by rw[d.rows];split<;>lia) (by rw[d.wd h0];split<;>lia);have s1:∀o3:Option S,j7 (aD (ax de (au aC 0 1#0) 1#1)) (ay aP (aq 1)) (iE (ay aP (aq 1)) 3#2) [pS (aj h w bs),pS (aa F),none,o3]=.ok (.pure (.int ((if h=1 then F.length else min F.length 2:Nat):Int))) [pS (aj h w bs),pS (aa F),none,o3]:=λo3=>by
  refine(Hk (SL:=[pS (aj h w bs),pS (aa F),none,o3]) (e8 (bK (b8 rfl rfl y0) rfl (eq_1 h)))).trans ?_;by_cases e:h=1;.rw[if_pos (decide_eq_true e),if_pos e];exact cF rfl l0
  .rw[if_neg (~~~e),if_neg e];exact oH (cF rfl l0) rfl (oG _ 2)
 have s2:∀o2:Option S,j7 (aD (ax de (au aC 0 1#1) 1#1)) (ay aP (ag (au aC 1 1#0))) (iE (ay aP (ag (au aC 1 1#0))) 3#2) [pS (aj h w bs),pS (aa F),o2,none]=.ok (.pure (.int ((if w=1 then wd F else min (wd F) 2:Nat):Int))) [pS (aj h w bs),pS (aa F),o2,none]:=λo2=>by
  refine(Hk (SL:=[pS (aj h w bs),pS (aa F),o2,none]) (e8 (bK (b8 rfl rfl y1) rfl (eq_1 w)))).trans ?_;by_cases e:w=1;.rw[if_pos (decide_eq_true e),if_pos e];exact cE (b8 rfl rfl x0) l1
  .rw[if_neg (~~~e),if_neg e];exact oH (cE (b8 rfl rfl x0) l1) rfl (oG _ 2)
 exact iO (nz (cf (s1 none) rfl) (nz (cf (s2 _) rfl) (rt (lY rfl rfl rfl g))))
open Lake.SO
def Gd(bs:8#0)(F:List Tx):Prop:=∃R C,(0<R/\R<=3)/\(0<C/\C<=3)/\fO bs R C F
abbrev jq(G:DF)(as:List S):Prop:=G as=some (.pure (.bl true),as)
abbrev nq(G:DF)(as:List S):Prop:=G as=some (.pure (.bl false),as)
theorem Hl{R C:Nat}{F:List Tx}(d:Dm R C F)(h:R*C<=1000):dQ [] (aa F)=pS (.str F.flatten):=by have l:=G2 F C λx hx=>Nat.le_of_eq (d.cols x hx);rw[d.rows]at l;unfold dQ;simp only[t7,t8];rw[if_pos Zx]
theorem Hm{R C:Nat}{F:List Tx}(d:Dm R C F):F.flatten.length=R*C:=by rw[<-d.rows];have h:=d.cols;clear d;induction F with|nil=>simp|cons x r ih=>rw[Jr,Wy,ih λy hy=>h y (.tail _ hy),h x (.head _),WE,Jx,J3]
theorem rd{A:Type}(as:List A):eJ (.lst (as.map λj=>D.bl true))=pS (.bl true):=by have:=G8 as λj=>true;rw[show(as.all λj=>true)=true from List.all_eq_true.mpr λj j=>rfl]at this;exact this
theorem Yi{bs:8#0}{F:List Tx}(g:Gd bs F):jq m9 [.pure (aT bs),.pure (aa F)]:=by
 obtain⟨R,C,⟨r0,r3⟩,⟨c0,c3⟩,f⟩:=g;have hRC:R*C<=9:=WN r3 c3;have j:=Hl f.dm Y';have l:=Hm f.dm;have hm:∀n∈F.flatten,n∈bs.map (·.1):=λn hn=>by obtain⟨x,hx,h⟩:=List.mem_flatten.mp hn;exact f.tl x hx n h
 have z:eJ (.lst (F.flatten.map λk=>D.bl true))=pS (.bl true):=rd _;generalize F.flatten=T at*;have q:aR (ay (dQ []) (aq 1)) [pS (aT bs),pS (aa F),none]=.ok (T.map λn=>D.str [n]) [pS (aT bs),pS (aa F),none]:=by rw[oz,cF rfl j,g_];rfl
 exact iO (rt (cE (cS (λn=>D.str [n]) (λk=>D.bl true) q Y' λn hn=>bK rfl rfl (by have:=XW bs n;rw[List.contains_iff_mem.mpr (hm n hn)]at this;exact this)) z))
theorem zQ(x y:Tx):df (.str x) (.str y)=pS (.bl !decide (y<x)):=rfl
theorem zR{a b:Nat}:([a]:Tx)<[b]↔a<b:=by rw[List.cons_lt_cons_iff];simp
theorem Yj{x:Tx}{m:Nat}(h0:0<x.length)(h1:x.length<=m)(hm:m<=64)(hx:∀n∈x,97<=n/\n<=122):jq oh [.pure (.str x),.pure (.int m)]:=by
 have t:gC "str" (.str x)=some true:=rfl;have ln:=jN (x:=x) Y';have c1:df (.int 1) (.int (x.length:Nat))=pS (.bl true):=by rw[le_int,decide_eq_true Y']
 have c2:df (.int (x.length:Nat)) (.int (m:Nat))=pS (.bl true):=by rw[le_int,decide_eq_true Y']
 have ec:=cS (j:=2) (np:=[]) (it:=aR (ae 0)) (el:=iz df df (eD (.str [97])) (ae 2) (ag (eD (.str [122])))) (λn=>D.str [n]) (λk=>.bl true) (Y:=[pS (.str x),pS (.int m),none]) (G':=[pS (.str x),pS (.int m),none]) (as:=x) rfl Y' λn hn=>by
  have:=hx n hn;have e1:df (.str [97]) (.str [n])=pS (.bl true):=by rw[zQ,decide_eq_false (by rw[zR];lia)];rfl
  have e2:df (.str [n]) (.str [122])=pS (.bl true):=by rw[zQ,decide_eq_false (by rw[zR];lia)];rfl
  simp[zw,ae,e1,e2]
 have z:=rd x;refine iO (nz (SL:=[pS (.str x),pS (.int m),none]) ?_ (rt (cE ec z)));clear ec z;generalize D.str x=X,D.int m=M at*;exact G9
theorem Hn{bs:8#0}{R C:Nat}{F:List Tx}(hl:∀n∈bs.map (·.1),97<=n/\n<=122)(f:fO bs R C F)(r0:0<R)(r1:R<=64)(c0:0<C)(c1:C<=64):jq qR [.pure (aa F)]:=by
 have t:gC "tuple" (aa F)=some true:=rfl;have ln:=kE F;rw[f.rows]at ln;have x0:=nj f.dm r0;have l0:=jN (x:=F.getD 0 []) (by rw[(f.dm.row r0).2];lia);rw[(f.dm.row r0).2]at l0;have e1:df (.int 1) (.int (R:Nat))=pS (.bl true):=by rw[le_int,decide_eq_true Y']
 have e2:df (.int (R:Nat)) (.int 64)=pS (.bl true):=by rw[le_int,decide_eq_true Y']
 have e3:dP (.int (C:Nat)) (.int (C:Nat))=pS (.bl false):=by rw[zB];simp
 obtain⟨P3,e,⟨o,rfl⟩,_⟩:=forA D.str (g:=ah [] 1) (b:=bA (cu (bD (aD (az oh [.val (ae 1),.val 3#64]))) (aD (ax dP (ay aP (aq 1)) (ag (ay aP (ag (au aC 0 1#0))))))) (aU (eD (.bl false))) bI) (λas Y=>(∃o,Y=[pS (aa F),o])/\∀x∈as,x∈F) (λx as Y⟨⟨o,e⟩,hs⟩=>by subst e;have hx:=hs x (.head _);have lx:=f.cols x hx;have gl:=Yj (x:=x) (m:=64) Y' Y' Y' λn hn=>hl n (f.tl x hx n hn);have l1:=jN (x:=x) Y';rw[lx]at l1;refine⟨_,rfl,λy e=>⟨[pS (aa F),pS (.str x)],e.symm.trans ?_,⟨_,rfl⟩,λz hz=>hs z (.tail _ hz)⟩⟩;exact dw (z:=false) (fv (eE (x:=true) (jM (f1:=ae 1) (f2:=3#64) rfl rfl gl)) (e8 (bK (cF rfl l1) (c7 (cE (b8 rfl rfl x0) l0)) e3)))) F [pS (aa F),none] ⟨⟨none,rfl⟩,λj h=>h⟩;have s1:bA (cu (bD (aD (eL "tuple" (aq 0)))) (bD (aD (iz df df 3#1 (ay aP (aq 0)) 1#64)))) (aU (eD (.bl false))) bI [pS (aa F),none]=.ok .next [pS (aa F),none]:=by clear e x0 l0 e3;generalize aa F=X at*;exact G9
 exact oC (nz s1 (nz ((dH (e_ rfl (.inl rfl))).trans e) rfl))
theorem Ho{bs:8#0}{F:List Tx}(hl:∀n∈bs.map (·.1),97<=n/\n<=122)(g:Gd bs F):jq jI [.pure (aa F),.pure (.int 3)]:=by
 obtain⟨R,C,⟨r0,r3⟩,⟨c0,c3⟩,f⟩:=g;have gg:=Hn hl f r0 Y' c0 Y';have ln:=kE F;rw[f.rows]at ln;have x0:=nj f.dm r0;have l0:=jN (x:=F.getD 0 []) (by rw[(f.dm.row r0).2];lia);rw[(f.dm.row r0).2]at l0;have e1:df (.int (R:Nat)) (.int 3)=pS (.bl true):=by rw[le_int,decide_eq_true Y']
 have e2:df (.int (C:Nat)) (.int 3)=pS (.bl true):=by rw[le_int,decide_eq_true Y']
 exact iO (rt (qZ (jo rfl gg) (qZ (bK (cF rfl ln) rfl e1) (bK (cE (b8 rfl rfl x0) l0) rfl e2))))
def nr(bs:8#0):List Tx->List D->Prop|_,[]=>True|a,d::rs=>∃k,d=aa k/\Gd bs k/\ltL a k=true/\nr bs k rs
abbrev Eo(bs:8#0)(d:D):Prop:=(∃F,Gd bs F/\d=aa F)\/nq jI [.pure d,.pure (.int 3)]
theorem rf{F G:List Tx}(h:aa F=aa G):F=G:=by injection h with h;exact Ub (λj j e=>by injection e)|>.mp h
theorem Yk(a k:List Tx):kq (aa k) (aa a)=pS (.bl !ltL a k):=by simp only[kq,t7];rfl
abbrev Yl:DS:=aA (bA (cu (bD (aD (az jI [.val (ae 4),.val (ae 2)]))) (cu (bD (aD (az m9 [.val (ae 0),.val (ae 4)]))) (aD (au kq 4 (aq 3))))) (aU (eD (.bl false))) bI) (aE (ae 4) (ah [] 3))
theorem Ym{bs:8#0}(hl:∀n∈bs.map (·.1),97<=n/\n<=122){es:List D}(he:∀d∈es,Eo bs d):uN qS [.pure (aT bs),.pure (.lst es),.pure (.int 3)] (nr bs [] es):=by
 have L:=zG (g:=ah [] 4) (b:=Yl) (nr bs [] es) (λrs Y=>∃a o4,Y=[pS (aT bs),pS (.lst es),pS (.int 3),pS (aa a),o4]/\(∀d∈rs,Eo bs d)/\(nr bs [] es↔nr bs a rs)) (λd rs Y hh=>by
 obtain⟨a,o4,e,hr,iff⟩:=hh
 subst e;refine⟨[pS (aT bs),pS (.lst es),pS (.int 3),pS (aa a),pS d],rfl,?_⟩;rcases hr d (.head _)with⟨k,gk,rfl⟩|no;.have w:=Ho hl gk;have kn:=Yi gk;have le:=Yk a k;have s:(cu (bD (aD (az jI [.val (ae 4),.val (ae 2)]))) (cu (bD (aD (az m9 [.val (ae 0),.val (ae 4)]))) (aD (au kq 4 (aq 3))))) [pS (aT bs),pS (.lst es),pS (.int 3),pS (aa a),pS (aa k)]=.ok (!ltL a k) [pS (aT bs),pS (.lst es),pS (.int 3),pS (aa a),pS (aa k)]:=fv (eE (x:=true) (jM rfl rfl w)) (fv (eE (x:=true) (jM rfl rfl kn)) (e8 (b8 rfl rfl le)));cases h:ltL a k with|true=>rw[h]at s;exact .inr ⟨_,iN s rfl,k,_,rfl,λd hd=>hr d (.tail _ hd),iff.trans ⟨λ⟨k',e,_,_,c⟩=>%[rf e|c],λc=>⟨k,rfl,gk,h,c⟩⟩⟩|false=>rw[h]at s;refine .inl ⟨λp=>?_,_,fN ((dw s).trans rfl)⟩;obtain⟨k',e,_,l,_⟩:=iff.mp p;rw[<-rf e,h]at l;cases l
 .have s:(cu (bD (aD (az jI [.val (ae 4),.val (ae 2)]))) (cu (bD (aD (az m9 [.val (ae 0),.val (ae 4)]))) (aD (au kq 4 (aq 3))))) [pS (aT bs),pS (.lst es),pS (.int 3),pS (aa a),pS d]=.ok true [pS (aT bs),pS (.lst es),pS (.int 3),pS (aa a),pS d]:=ni (eE (x:=false) (jM rfl rfl no));refine .inl ⟨λp=>?_,_,fN ((dw s).trans rfl)⟩;obtain⟨k',rfl,g',_,_⟩:=iff.mp p;have q:jq jI [.pure (aa k'),.pure (.int 3)]:=Ho hl g';have:=no.symm.trans q;simp at this) es [pS (aT bs),pS (.lst es),pS (.int 3),pS (aa []),none] ⟨[],none,rfl,he,.rfl⟩;rcases L with⟨n,P3,e⟩|⟨P3,e,a,o4,rfl,_,iff⟩;.exact .no (iP (nz (SL:=[pS (aT bs),pS (.lst es),pS (.int 3),pS (aa []),none]) rfl (fN ((dH (e_ rfl (.inr rfl))).trans e)))) n
 .exact⟨true,iP (nz (SL:=[pS (aT bs),pS (.lst es),pS (.int 3),pS (aa []),none]) rfl (nz ((dH (e_ rfl (.inr rfl))).trans e) rfl)),λj=>iff.mpr trivial,λj=>rfl⟩
abbrev Lt(a b:List Tx):Prop:=ltL a b=true
theorem Yn{a:List Tx}:¬Lt a a:=λh=>by have:=ko a a h;rw[h]at this;cases this
theorem Yo{a b c:List Tx}(h1:Lt a b)(h2:Lt b c):Lt a c:=by cases h:ltL a c with|true=>exact h|false=>have q:=qv c b a (ko b c h2) (ko a b h1);obtain rfl:=uv a c h q;have:=ko a b h1;rw[h2]at this;cases this
theorem Yp{a b:List Tx}(h:ltL b a=false)(n:a≠b):Lt a b:=by cases q:ltL a b with|true=>exact q|false=>exact absurd (uv a b q h) n
theorem uS(bs:8#0):∀(es:List D)(a:List Tx),nr bs a es↔∃ks:List (List Tx),es=ks.map aa/\(∀k∈ks,Gd bs k)/\(a::ks).Pairwise Lt
 |[],a=>⟨λj=>⟨[],rfl,nofun,List.pairwise_singleton _ _⟩,λj=>trivial⟩|d::es,a=>by
  constructor
  .rintro⟨k,rfl,g,l,c⟩;obtain⟨ks,rfl,gs,p⟩:=(uS bs es k).mp c;refine⟨k::ks,rfl,λx hx=>?_,List.pairwise_cons.mpr ⟨λx hx=>?_,p⟩⟩
   .rcases Wi.mp hx with rfl|hx;.exact g
    .exact gs x hx
   .rcases Wi.mp hx with rfl|hx;.exact l
    .exact Yo l ((Uc.mp p).1 x hx)
  .rintro⟨ks,e,gs,p⟩;match ks,e with|k::ks,e=>rw[Wj,JF]at e;obtain⟨p1,p2⟩:=Uc.mp p;exact⟨k,e.1,gs k (.head _),p1 k (.head _),(uS bs es k).mpr ⟨ks,e.2,λx hx=>gs x (.tail _ hx),p2⟩⟩
theorem Gd.ne{bs:8#0}{F:List Tx}(g:Gd bs F):F≠[]:=λe=>by obtain⟨R,C,⟨r0,_⟩,_,f⟩:=g;have:=f.rows;rw[e]at this;simp at this;lia
theorem Yq{k:List Tx}(h:k≠[]):Lt [] k:=by cases k with|nil=>exact absurd rfl h|cons a r=>rfl
theorem Yr{bs:8#0}{ks:List (List Tx)}(g:∀k∈ks,Gd bs k):nr bs [] (ks.map aa)↔ks.Pairwise Lt:=by
 rw[uS];constructor;.rintro⟨ks',e,_,p⟩;have:ks=ks':=Ub (λj j e=>rf e)|>.mp e;rw[this];exact(Uc.mp p).2
 .exactλp=>⟨ks,rfl,g,List.pairwise_cons.mpr ⟨λk hk=>Yq (g k hk).ne,p⟩⟩
theorem uT{ks:List (List Tx)}:ks=eC ks/\ks.Nodup↔ks.Pairwise Lt:=by
 constructor;.rintro⟨e,nd⟩;have u:=xS ks;rw[<-e]at u;exact u.imp₂ (λa b h n=>Yp h n) nd
 .intro p;exact⟨uw (.refl _) (p.imp λh=>ko _ _ h),List.nodup_iff_pairwise_ne.mpr (p.imp λ{a b}(h:Lt a b)(e:a=b)=>by subst e;exact Yn h)⟩
abbrev Fl9:=List Tx
theorem Hq:∀a b:Fl9,dF (a.map .str) (b.map .str)=decide (a=b)|[],[]=>rfl|[],_::_=>rfl|_::_,[]=>rfl|x::a,y::b=>by show((x==y)&&dF (a.map .str) (b.map .str))=_;rw[Hq a b,QE];simp
theorem zS(a b:Fl9):aW (aa a) (aa b)=decide (a=b):=Hq a b
theorem Hr(n:Nat):∀a:Fl9,(gy n (a.map .str)).isSome=true|[]=>rfl|x::a=>by obtain⟨k,e⟩:=Qr.mp (Hr n a);simp only[Wj,gy,e];rfl
theorem Ht(n:Nat)(a:Fl9):(cn (n+1) (aa a)).isSome=true:=by rw[EA,Uf];exact Hr n a
abbrev c8(v:D)(t:List Fl9):D:=.dic (t.map λk=>(aa k,v))
theorem Hu(v:D)(t:List Fl9)(q:Fl9):((t.map λk=>(aa k,v)).any λz=>aW z.1 (aa q))=decide (q∈t):=by rw[List.any_map,QE,JQ,decide_eq_true_eq];simp only[Function.comp,zS,decide_eq_true_eq];exact⟨λ⟨x,hx,e⟩=>e▸hx,λh=>⟨q,h,rfl⟩⟩
theorem zT(v:D)(t:List Fl9)(q:Fl9):mW (qf (aa q)) (t.map λk=>(aa k,v)) (aa q)=true:=by show(true&&(cn 6 (aa q)).isSome&&(t.map λk=>(aa k,v)).all λq=>hZ true q.1)=true;rw[Ht,Bool.and_self,Bool.true_and,Ur,WV];intro p _;rfl
theorem Ys(v:D)(t:List Fl9)(q:Fl9):(jG (t.map λk=>(aa k,v)) (aa q)).isSome=decide (q∈t):=by unfold jG;rw[Uf,QE,List.find?_isSome,<-JQ,Hu]
theorem rh(v:D)(t:List Fl9)(q:Fl9):d_ false (aa q) (c8 v t)=pS (.bl (decide (q∈t)))/\d_ true (aa q) (c8 v t)=pS (.bl !decide (q∈t)):=by simp only[d_];rw[if_pos (zT v t q),if_pos (zT v t q),Ys];exact⟨rfl,rfl⟩
theorem Hv(v:D)(t:List Fl9)(q:Fl9):km (t.map λk=>(aa k,v)) (aa q) v=(cT t q).map λk=>(aa k,v):=by
 unfold km cT;rw[Hu];by_cases h:q∈t;.rw[if_pos (~~~h),if_pos h,Q9];apply JX;intro p _;simp
 .rw[if_neg (~~~h),if_neg h,Qb];rfl
theorem Hw(v:D):∀ps t:List Fl9,og (ps.map λk=>(aa k,v)) (t.map λk=>(aa k,v))=(bM t ps).map λk=>(aa k,v)|[],t=>rfl|p::r,t=>by show og (r.map λk=>(aa k,v)) (km (t.map λk=>(aa k,v)) (aa p) v)=_;rw[Hv,Hw v r];rfl
theorem Hx(v:D):∀ps:List Fl9,jH (ps.map λk=>.tup [aa k,v])=some (ps.map λk=>(aa k,v))|[]=>rfl|p::r=>by rw[Wj];unfold jH;rw[if_pos (by rw[Ht];rfl),Hx v r];rfl
theorem Hy(v:D){ps:List Fl9}(hl:ps.length<=1000000):iK (.lst (ps.map λk=>.tup [aa k,v]))=pO (c8 v (bM [] ps)):=by simp only[iK];rw[Hx,WO,Wq,if_pos (by rw[hU];lia)];have:=Hw v ps [];rw[List.map_nil]at this;rw[this]
theorem zU{fi fe:DE}{v:D}{t:List Fl9}{q:Fl9}{i:Nat}{Y SL:Dl}{r:S}(he:fe Y=.ok r SL)(hr:r.d=v)(hi:SL[i]?=some (pO (c8 v t)))(hk:fi SL=.ok (.pure (aa q)) SL)(hl:t.length<=1000000):fX i fi fe Y=.ok .next (SL.set i (pO (c8 v (cT t q)))):=by
 have g:=zT v t q;have p:=Hv v t q;have l:(t.map λp=>(aa p,v)).length<W7:=by rw[Wq,hU];lia
 unfold fX;rw[he];show(if qg SL i=true then _ else _)=_;rw[if_pos (by unfold qg;rw[hi])];rw[hk];show(match SL[i]? with|some (some (.own (.dic ds)))=>_|_=>_)=_;rw[hi];show(if(mW (qf (aa q)) (t.map λp=>(aa p,v)) (aa q)&&decide ((t.map λp=>(aa p,v)).length<W7))=true then Rs.ok Fl.next (SL.set i (some (.own (.dic (km (t.map λp=>(aa p,v)) (aa q) r.d)))))else .stuck)=_;rw[g,decide_eq_true l,hr,p];rfl
theorem Yt{A:Type}(f F:A->D){as:List A}{cs:List Nat}{it:DI}{g:DG}{t:DT}{el:DE}{Y SL:Dl}(e:it Y=.ok (as.map f) SL)(hl:as.length<=1000000)(hs:∀a∈as,∃Y1' PP x Pi,g (.pure (f a)) (bt cs SL)=some Y1'/\t Y1'=.ok true PP/\el PP=.ok x Pi/\bt cs Pi=bt cs SL/\x.d=F a)(no:cs.any (cG SL)=false:=by rfl):bb cs it g t el Y=.ok (.own (.lst (as.map F))) (dg cs SL (bt cs SL)):=by have c:=t_ (cs:=cs) (g:=g) (t:=t) (el:=el) f F (bt cs SL) as [] (by have:PySem.sizeLine=16777216:=rfl;simp;lia) hs;unfold bb;rw[e];show(if _ then _ else _)=_;rw[if_neg (by rw[no];decide),c];rfl
theorem nt{A:Type}(f F:A->D){as:List A}{j:Nat}{np:List Nat}{it:DI}{el:DE}{Y G':Dl}(e:it G'=.ok (as.map f) Y)(hl:as.length<=1000000)(hs:∀a∈as,∃x,el (Y.set j (pS (f a)))=.ok x (Y.set j (pS (f a)))/\x.d=F a)(hj:∃o:Option S,Y[j]?=some o/\∀d,o≠pO d)(hn:np.contains j=false:=by rfl):bb [j] it (ah np j) bw el G'=.ok (.own (.lst (as.map F))) Y:=by
 obtain⟨o,hj,dh⟩:=hj;obtain⟨h,gH⟩:=Wd.mp hj;have:=Yt (cs:=[j]) (g:=ah np j) (t:=bw) (el:=el) f F e hl λa ha=>by
  obtain⟨x,hx,hd⟩:=hs a ha;have c:(Y.set j none).set j (pS (f a))=Y.set j (pS (f a)):=List.set_set ..;refine⟨Y.set j (pS (f a)),_,x,Y.set j (pS (f a)),?_,rfl,hx,?_,hd⟩;.show ah np j (.pure (f a)) (Y.set j none)=_;unfold ah;rw[if_neg (by rw[hn];nofun),c]
  .show(Y.set j (pS (f a))).set j none=Y.set j none;rw[List.set_set] (by
 rcases o with _|d|d;.simp[cG,hj]
 .simp[cG,hj]
 .exact absurd rfl (dh d));rw[this];show Rs.ok _ (match Y[j]? with|some o=>(Y.set j none).set j o|none=>Y.set j none)=_;rw[hj];show Rs.ok _ ((Y.set j none).set j o)=_;rw[List.set_set,<-gH,List.set_getElem_self]
theorem zV{A:Type}(as:List A)(p:A->Prop)[DecidablePred p]:eJ (.lst (as.map λa=>D.bl (decide (p a))))=pS (.bl (decide (∀a∈as,p a))):=by rw[G8 as λa=>decide (p a)];congr 3;rw[QE];simp
def cy(h:Nat)(bs:8#0)(ks:List Fl9)(q:Fl9):Prop:=∀p∈e9 (lay h bs q),p∈ks
def uU(h:Nat)(bs:8#0)(t:Nat)(es:List D):Prop:=∃ks:List Fl9,es=ks.map aa/\(∀k∈ks,Gd bs k)/\ks.Pairwise Lt/\[[t]]∈ks/\∀F∈ks,cy h bs ks F
theorem zW{h w:Nat}{bs:8#0}(R:bS h w bs):∀n∈bs.map (·.1),97<=n/\n<=122:=λn hn=>by obtain⟨b,hb,rfl⟩:=WH.mp hn;exact R.t9 b hb
theorem Yu{h w:Nat}{bs:8#0}(R:bS h w bs){F q:Fl9}(g:Gd bs F)(hq:q∈ie h w F):Gd bs q:=by obtain⟨A,C,⟨a0,a3⟩,⟨c0,c3⟩,f⟩:=g;obtain⟨i,j,hi,hj,rfl⟩:=(zN f.dm a0 R.h0 R.w0 a3 c0 c3).mp hq;have t:=oE a0 a3 R.h0;have u:=oE c0 c3 R.w0;exact⟨_,_,⟨t.1,Y'⟩,⟨u.1,Y'⟩,q_ f hi hj⟩
theorem Yv{h w:Nat}{bs:8#0}{F:Fl9}(g:Gd bs F):(ie h w F).length<=16:=by obtain⟨A,C,⟨a0,a3⟩,⟨c0,c3⟩,f⟩:=g;unfold ie;rw[oF f.dm a0];have:=WN (show A-(if h=1 then F.length else min F.length 2)+1<=4 by lia) (show C-(if w=1 then wd F else min (wd F) 2)+1<=4 by lia);lia
theorem Yw{h w:Nat}{bs:8#0}(R:bS h w bs){ks:List Fl9}{F:Fl9}(g:Gd bs F):cy h bs ks F↔∀q∈ie h w F,cy h bs ks q:=by
 obtain⟨A,C,⟨a0,a3⟩,⟨c0,c3⟩,f⟩:=g;constructor;.intro o q hq p hp;exact o p ((Hi R f a0 a3 c0 c3).mpr ⟨q,hq,hp⟩)
 .intro o p hp;obtain⟨q,hq,hp⟩:=(Hi R f a0 a3 c0 c3).mp hp;exact o q hq p hp
abbrev c9(A T E BD:D)(L lk:List Fl9)(o6 o7 o8:Option S):Dl:=[pS A,pS T,pS E,pS BD,pO (c8 (.bl true) L),pO (c8 (.bl true) lk),o6,o7,o8,none]
abbrev hC:DE:=bb [9] (aR (az qT [.val (ae 8)])) (ah [] 9) bw (ax (d_ false) (ae 9) (aq 4))
abbrev hI:DS:=bA (aD (ax (d_ true) (ae 7) (aq 5))) (aA (fX 5 (ae 7) (eD (.bl true))) (aA (aE (az lR [.val (ae 3),.val (au aC 0 1#0),.val (ae 7)]) (ah [] 8)) (bA (bD (aD (ay eJ (ag hC)))) (aU (eD (.bl false))) bI))) bI
theorem Hz(t:List Fl9)(q:Fl9):(cT t q).length<=t.length+1:=by
 unfold cT;split;.lia
 .simp
theorem Yx{h w:Nat}{bs:8#0}(R:bS h w bs){ks L lk:List Fl9}(hL:∀q,q∈L↔q∈ks){q:Fl9}(g:Gd bs q)(je:lk.length<=999999)(ok:∀q∈lk,cy h bs ks q){T E:D}{o6 o8:Option S}:(¬cy h bs ks q/\∃P3,hI (c9 (aj h w bs) T E (aT bs) L lk o6 (pS (aa q)) o8)=.ok (.ret (.pure (.bl false))) P3)\/∃lk' o8',hI (c9 (aj h w bs) T E (aT bs) L lk o6 (pS (aa q)) o8)=.ok .next (c9 (aj h w bs) T E (aT bs) L lk' o6 (pS (aa q)) o8')/\cy h bs ks q/\lk'.length<=lk.length+1/\∀q∈lk',cy h bs ks q:=by
 have e1:aD (ax (d_ true) (ae 7) (aq 5)) (c9 (aj h w bs) T E (aT bs) L lk o6 (pS (aa q)) o8)=.ok (!decide (q∈lk)) (c9 (aj h w bs) T E (aT bs) L lk o6 (pS (aa q)) o8):=e8 (bK (x:=.pure (aa q)) rfl rfl (rh _ lk q).2);have z:=dw (a:=aA (fX 5 (ae 7) (eD (.bl true))) (aA (aE (az lR [.val (ae 3),.val (au aC 0 1#0),.val (ae 7)]) (ah [] 8)) (bA (bD (aD (ay eJ (ag hC)))) (aU (eD (.bl false))) bI))) (b:=bI) e1;by_cases hq:q∈lk;.rw[decide_eq_true hq]at z;exact .inr ⟨lk,o8,z,ok q hq,Y',ok⟩
 .rw[decide_eq_false hq]at z;obtain⟨A,C,⟨a0,a3⟩,⟨c0,c3⟩,f⟩:=g;have la:=jL R f;have h1:=R.h1;have w1:=R.w1;have b1:A*h<=12:=WN a3 h1;have b2:C*w<=12:=WN c3 w1;have rl:=X1 R f Y' Y';have rg:=Yg la.dm (QT a0 R.h0) Y' Y';have x0:=(iM h w bs).1;have gl:(e9 (lay h bs q)).length<=1000000:=by unfold e9;rw[oF la.dm (QT a0 R.h0)];have:=WN (show A*h-min (lay h bs q).length 3+1<=13 by lia) (show C*w-min (wd (lay h bs q)) 3+1<=13 by lia);lia
  have s1:fX 5 (ae 7) (eD (.bl true)) (c9 (aj h w bs) T E (aT bs) L lk o6 (pS (aa q)) o8)=.ok .next (c9 (aj h w bs) T E (aT bs) L (cT lk q) o6 (pS (aa q)) o8):=zU (v:=.bl true) (r:=.pure (.bl true)) rfl rfl rfl rfl Y';have s2:aE (az lR [.val (ae 3),.val (au aC 0 1#0),.val (ae 7)]) (ah [] 8) (c9 (aj h w bs) T E (aT bs) L (cT lk q) o6 (pS (aa q)) o8)=.ok .next (c9 (aj h w bs) T E (aT bs) L (cT lk q) o6 (pS (aa q)) (pS (aa (lay h bs q)))):=cf (lY rfl (b8 rfl rfl x0) rfl rl) rfl;have s3:hC (c9 (aj h w bs) T E (aT bs) L (cT lk q) o6 (pS (aa q)) (pS (aa (lay h bs q))))=.ok (.own (.lst ((e9 (lay h bs q)).map λp=>.bl (decide (p∈ks))))) (c9 (aj h w bs) T E (aT bs) L (cT lk q) o6 (pS (aa q)) (pS (aa (lay h bs q)))):=nt aa (λp=>.bl (decide (p∈ks))) (e_ (jo (f:=ae 8) rfl rg) (.inr rfl)) gl (λp hp=>⟨_,bK (x:=.pure (aa p)) rfl rfl (rh _ L p).1,by rw[show decide (p∈L)=decide (p∈ks)from decide_eq_decide.mpr (hL p)];rfl⟩) ⟨none,rfl,nofun⟩;have s4:=eE (cE s3 (zV (e9 (lay h bs q)) λp=>p∈ks));by_cases o:cy h bs ks q
  .rw[show decide (∀p∈e9 (lay h bs q),p∈ks)=true from decide_eq_true o]at s4;refine .inr ⟨cT lk q,_,z.trans (nz s1 (nz s2 (dw s4))),o,Hz lk q,λx hx=>?_⟩;rcases(GQ lk q x).mp hx with hx|rfl;.exact ok x hx
   .exact o
  .rw[show decide (∀p∈e9 (lay h bs q),p∈ks)=false from decide_eq_false o]at s4;exact .inl ⟨o,_,z.trans (nz s1 (nz s2 ((dw s4).trans rfl)))⟩
theorem zX{A:Type}(f:A->D){g:DG}{b:DS}(P:Prop)(I:List A->Dl->Prop)(hs:∀a as Y,I (a::as) Y->∃SL,g (.pure (f a)) Y=some SL/\((¬P/\∃PP,b SL=.ok (.ret (.pure (.bl false))) PP)\/∃PP,b SL=.ok .next PP/\I as PP))(as:List A)(Y:Dl)(h:I as Y):(¬P/\∃P3,forL g b (as.map f) Y=.ok (.ret (.pure (.bl false))) P3)\/∃P3,forL g b (as.map f) Y=.ok .next P3/\I [] P3:=by
 have L:=zG (g:=g) (b:=b) P (λds Y=>∃as,ds=as.map f/\I as Y) (λd rs Y⟨as,e,i⟩=>by match as,e with
 |a::as,e=>
 rw[Wj,JF]at e;obtain⟨rfl,rfl⟩:=e;obtain⟨SL,e1,h⟩:=hs a as Y i;refine⟨SL,e1,?_⟩;rcases h with h|⟨PP,e2,i2⟩;.exact .inl h
 .exact .inr ⟨PP,e2,as,rfl,i2⟩) (as.map f) Y ⟨as,rfl,h⟩;rcases L with L|⟨P3,e,as,e0,i⟩;.exact .inl L
 .have:as=[]:= ~~~e0.symm;subst this;exact .inr ⟨P3,e,i⟩
section
variable{h:Nat}{bs:8#0}(R:bS h w bs){ks L:List Fl9}(hL:∀q,q∈L↔q∈ks){T E:D}
include R hL
theorem Yy{F:Fl9}(g:Gd bs F){lk:List Fl9}(je:lk.length<=999000)(ok:∀q∈lk,cy h bs ks q){o7 o8:Option S}:(¬cy h bs ks F/\∃P3,bX (aR (az jm [.val (ae 0),.val (ae 6)])) (ah [] 7) hI (c9 (aj h w bs) T E (aT bs) L lk (pS (aa F)) o7 o8)=.ok (.ret (.pure (.bl false))) P3)\/∃lk' o7' o8',bX (aR (az jm [.val (ae 0),.val (ae 6)])) (ah [] 7) hI (c9 (aj h w bs) T E (aT bs) L lk (pS (aa F)) o7 o8)=.ok .next (c9 (aj h w bs) T E (aT bs) L lk' (pS (aa F)) o7' o8')/\cy h bs ks F/\lk'.length<=lk.length+16/\∀q∈lk',cy h bs ks q:=by
 have gp:=Yv (h:=h) (w:=w) g;have gr:jm [.pure (aj h w bs),.pure (aa F)]=some (.own (.lst ((ie h w F).map aa)),[.pure (aj h w bs),.pure (aa F)]):=by obtain⟨A,C,⟨a0,a3⟩,⟨c0,c3⟩,f⟩:=g;exact Yh f.dm a0 Y' Y'
 have it:aR (az jm [.val (ae 0),.val (ae 6)]) (c9 (aj h w bs) T E (aT bs) L lk (pS (aa F)) o7 o8)=.ok ((ie h w F).map aa) (c9 (aj h w bs) T E (aT bs) L lk (pS (aa F)) o7 o8):=e_ (jM rfl rfl gr) (.inr rfl);rw[dH it];have W:=zX aa (g:=ah [] 7) (b:=hI) (cy h bs ks F) (λqs Y=>∃lk' o7' o8',Y=c9 (aj h w bs) T E (aT bs) L lk' (pS (aa F)) o7' o8'/\lk'.length+qs.length<=lk.length+(ie h w F).length/\(∀q∈lk',cy h bs ks q)/\(∀q∈qs,q∈ie h w F)/\(cy h bs ks F↔∀q∈qs,cy h bs ks q)) (λq qs Y hh=>by
 obtain⟨lk',o7',o8',e,l,ok',mem,iff⟩:=hh
 subst e;rw[WE]at l;refine⟨c9 (aj h w bs) T E (aT bs) L lk' (pS (aa F)) (pS (aa q)) o8',rfl,?_⟩;rcases Yx R hL (Yu R g (mem q (.head _))) (lk:=lk') Y' ok' (T:=T) (E:=E) (o6:=pS (aa F)) (o8:=o8')with⟨no,PP,e⟩|⟨lk2,o8',e,o,l2,ok2⟩;.exact .inl ⟨λz=>no (iff.mp z q (.head _)),PP,e⟩
 .exact .inr ⟨_,e,lk2,_,_,rfl,Y',ok2,λx hx=>mem x (.tail _ hx),iff.trans ⟨λz x hx=>z x (.tail _ hx),λz x hx=>by
 rcases Wi.mp hx with rfl|hx;.exact o
 .exact z x hx⟩⟩) (ie h w F) _ ⟨lk,o7,o8,rfl,W5 _,ok,λj h=>h,Yw R g⟩;rcases W with W|⟨P3,e,lk',o7',o8',rfl,l,ok',_,iff⟩;.exact .inl W
 .exact .inr ⟨lk',o7',o8',e,iff.mpr nofun,by simp at l;lia,ok'⟩
theorem Yz(g:∀k∈ks,Gd bs k)(hk:ks.length<=50000):(¬(∀F∈ks,cy h bs ks F)/\∃P3,forL (ah [] 6) (bX (aR (az jm [.val (ae 0),.val (ae 6)])) (ah [] 7) hI) (ks.map aa) (c9 (aj h w bs) T E (aT bs) L [] none none none)=.ok (.ret (.pure (.bl false))) P3)\/∃P3,forL (ah [] 6) (bX (aR (az jm [.val (ae 0),.val (ae 6)])) (ah [] 7) hI) (ks.map aa) (c9 (aj h w bs) T E (aT bs) L [] none none none)=.ok .next P3/\∀F∈ks,cy h bs ks F:=by
 have W:=zX aa (g:=ah [] 6) (b:=bX (aR (az jm [.val (ae 0),.val (ae 6)])) (ah [] 7) hI) (∀F∈ks,cy h bs ks F) (λfs Y=>∃lk' o6' o7' o8',Y=c9 (aj h w bs) T E (aT bs) L lk' o6' o7' o8'/\lk'.length+16*fs.length<=16*ks.length/\(∀q∈lk',cy h bs ks q)/\(∀q∈fs,q∈ks)/\((∀F∈ks,cy h bs ks F)↔∀q∈fs,cy h bs ks q)) (λq qs Y hh=>by
 obtain⟨lk',o6',o7',o8',e,l,ok',mem,iff⟩:=hh
 subst e;rw[WE]at l;refine⟨c9 (aj h w bs) T E (aT bs) L lk' (pS (aa q)) o7' o8',rfl,?_⟩;rcases Yy R hL (g q (mem q (.head _))) (lk:=lk') Y' ok' (T:=T) (E:=E) (o7:=o7') (o8:=o8')with⟨no,PP,e⟩|⟨lk2,o7',o8',e,o,l2,ok2⟩;.exact .inl ⟨λz=>no (iff.mp z q (.head _)),PP,e⟩
 .exact .inr ⟨_,e,lk2,_,_,_,rfl,Y',ok2,λx hx=>mem x (.tail _ hx),iff.trans ⟨λz x hx=>z x (.tail _ hx),λz x hx=>by
 rcases Wi.mp hx with rfl|hx;.exact o
 .exact z x hx⟩⟩) ks _ ⟨[],none,none,none,rfl,Zw,nofun,λj h=>h,.rfl⟩;rcases W with W|⟨P3,e,lk',o6',o7',o8',rfl,l,ok',_,iff⟩;.exact .inl W
 .exact .inr ⟨_,e,iff.mpr nofun⟩
end
abbrev zY(G:DX)(as:List S)(P:Prop):Prop:=∃b,G as=some (.inl (.pure (.bl b),as))/\(b=true↔P)
theorem zY.no{G:DX}{as:List S}{P:Prop}(h:G as=some (.inl (.pure (.bl false),as)))(n:¬P):zY G as P:=⟨false,h,nofun,λp=>(n p).elim⟩
theorem HA{G:DX}{f1 f2:DE}{Y:Dl}{a b:D}{v:S}(h1:f1 Y=.ok (.pure a) Y)(h2:f2 Y=.ok (.pure b) Y)(g:G [.pure a,.pure b]=some (.inl (v,[.pure a,.pure b]))):gD (g9 G [.val f1,.val f2]) Y=.ok .next Y:=by simp[gD,g9,bJ,cK,cC,h1,h2,b7,g,bp,S.d]
theorem YA{h w t:Nat}{bs:8#0}(R:bS h w bs)(ht:t∈bs.map (·.1)){d:D}(hd:gC "list" d=some false):gK [.pure (aj h w bs),.pure (.str [t]),.pure d]=some (.inl (.pure (.bl false),[.pure (aj h w bs),.pure (.str [t]),.pure d])):=by have x2:=(iM h w bs).2.2;exact qw (nz (HA (f1:=ae 0) (f2:=ae 1) rfl rfl (Ha R ht)) (nz (cf (cE (b8 rfl rfl x2) (qW R)) rfl) (fN ((dw (z:=true) (ni (eE (x:=false) (fV rfl hd)))).trans rfl)))) rfl rfl
theorem HC{h w t:Nat}{bs:8#0}(R:bS h w bs)(ht:t∈bs.map (·.1)){es:List D}(he:∀d∈es,Eo bs d)(hk:es.length<=50000):zY gK [.pure (aj h w bs),.pure (.str [t]),.pure (.lst es)] (uU h bs t es):=by have x2:=(iM h w bs).2.2;obtain⟨b,gr,hb⟩:=Ym (zW R) he;have s1:gD (g9 kz [.val (ae 0),.val (ae 1)]) [pS (aj h w bs),pS (.str [t]),pS (.lst es),none,none,none,none,none,none,none]=.ok .next [pS (aj h w bs),pS (.str [t]),pS (.lst es),none,none,none,none,none,none,none]:=HA rfl rfl (Ha R ht);have s2:aE (ay jA (ag (au aC 0 1#2))) (ah [] 3) [pS (aj h w bs),pS (.str [t]),pS (.lst es),none,none,none,none,none,none,none]=.ok .next [pS (aj h w bs),pS (.str [t]),pS (.lst es),pO (aT bs),none,none,none,none,none,none]:=cf (cE (b8 rfl rfl x2) (qW R)) rfl;have s3:(cu (bD (aD (eL "list" (aq 2)))) (bD (aD (az qS [.val (ae 3),.val (ae 2),.val 3#3])))) [pS (aj h w bs),pS (.str [t]),pS (.lst es),pO (aT bs),none,none,none,none,none,none]=.ok (!b) [pS (aj h w bs),pS (.str [t]),pS (.lst es),pS (aT bs),none,none,none,none,none,none]:=fv (eE (x:=true) (fV rfl rfl)) (eE #v[az,bJ,cK,cC,ae,b7,gr,bp,S.d]);cases b with|false=>refine .no (qw (nz s1 (nz s2 (fN ((dw s3).trans rfl)))) rfl rfl) λhh=>?_;obtain⟨ks,e,g,p,_⟩:=hh;subst e;exact nomatch hb.mpr ((Yr g).mpr p)|true=>
  obtain⟨ks,rfl,g,p⟩:=(uS bs es []).mp (hb.mp rfl);have p:=(Uc.mp p).2;rw[Wq]at hk;have hL:∀q,q∈bM [] ks↔q∈ks:=λq=>by rw[uI];simp
  have pc:uU h bs t (ks.map aa)↔[[t]]∈ks/\∀F∈ks,cy h bs ks F:=by
   constructor;.rintro⟨ks',e,_,_,a,b⟩;obtain rfl:ks=ks':=Ub (λj j e=>rf e)|>.mp e;exact⟨a,b⟩
   .exactλ⟨a,b⟩=>⟨ks,rfl,g,p,a,b⟩
  have s4:aE (ay iK (ag (bb [6] (aR (ae 2)) (ah [] 6) bw (cp (aw (ae 6) (aw (eD (.bl true)) aJ)))))) (ah [] 4) [pS (aj h w bs),pS (.str [t]),pS (.lst (ks.map aa)),pS (aT bs),none,none,none,none,none,none]=.ok .next [pS (aj h w bs),pS (.str [t]),pS (.lst (ks.map aa)),pS (aT bs),pO (c8 (.bl true) (bM [] ks)),none,none,none,none,none]:=cf (cE (nt aa (λk=>.tup [aa k,.bl true]) (Y:=[pS (aj h w bs),pS (.str [t]),pS (.lst (ks.map aa)),pS (aT bs),none,none,none,none,none,none]) (e_ (v:=.pure (.lst (ks.map aa))) rfl (.inr rfl)) Y' (λk j=>⟨.pure (.tup [aa k,.bl true]),rfl,rfl⟩) ⟨none,rfl,nofun⟩) (Hy (.bl true) Y')) rfl;have e5:=(rh (.bl true) (bM [] ks) [[t]]).2;rw[show decide ([[t]]∈bM [] ks)=decide ([[t]]∈ks)from decide_eq_decide.mpr (hL _)]at e5;have s5:aD (ax (d_ true) (cp (aw (ae 1) aJ)) (aq 4)) [pS (aj h w bs),pS (.str [t]),pS (.lst (ks.map aa)),pS (aT bs),pO (c8 (.bl true) (bM [] ks)),none,none,none,none,none]=.ok (!decide ([[t]]∈ks)) [pS (aj h w bs),pS (.str [t]),pS (.lst (ks.map aa)),pS (aT bs),pO (c8 (.bl true) (bM [] ks)),none,none,none,none,none]:=e8 (bK (x:=.pure (aa [[t]])) rfl rfl e5);by_cases ht1:[[t]]∈ks
  .rw[decide_eq_true ht1]at s5;have it:aR (ae 2) (c9 (aj h w bs) (.str [t]) (.lst (ks.map aa)) (aT bs) (bM [] ks) [] none none none)=.ok (ks.map aa) (c9 (aj h w bs) (.str [t]) (.lst (ks.map aa)) (aT bs) (bM [] ks) [] none none none):=e_ (v:=.pure (.lst (ks.map aa))) rfl (.inr rfl);rcases Yz R hL (T:=.str [t]) (E:=.lst (ks.map aa)) g hk with⟨no,P3,e⟩|⟨P3,e,ok⟩;.exact .no (qw (nz s1 (nz s2 (iN s3 (nz s4 (iN s5 (nz (SL:=c9 (aj h w bs) (.str [t]) (.lst (ks.map aa)) (aT bs) (bM [] ks) [] none none none) rfl (fN ((dH it).trans e)))))))) rfl rfl) λz=>no (pc.mp z).2
   .exact⟨true,qw (nz s1 (nz s2 (iN s3 (nz s4 (iN s5 (nz (SL:=c9 (aj h w bs) (.str [t]) (.lst (ks.map aa)) (aT bs) (bM [] ks) [] none none none) rfl (nz ((dH it).trans e) rfl))))))) rfl rfl,λj=>pc.mpr ⟨ht1,ok⟩,λj=>rfl⟩
  .rw[decide_eq_false ht1]at s5;exact .no (qw (nz s1 (nz s2 (iN s3 (nz s4 (fN ((dw s5).trans rfl)))))) rfl rfl) λz=>ht1 (pc.mp z).1
abbrev gS(ru X M':D)(acc:List Tx)(a b c d:Option S):Dl:=[pS ru,pS X,pO M',pO (.lst (acc.map .str)),a,b,c,d]
abbrev gT:DS:=aA (aE (eD (.str [])) (ah [] 6)) (aA (bX (aR (ae 4)) (ah [] 7) (aE (au aF 6 (ag (ax aC (au jB 2 (aq 7)) (aq 5)))) (ah [] 6))) (dt 3 (ae 6)))
abbrev gB:DS:=bX (cb (au aC 0 1#0)) (ah [] 5) gT
theorem HE{h w:Nat}{bs:8#0}(R:bS h w bs){A C:Nat}{fl:List Tx}(F:fO bs A C fl)(hA:A<=100)(hC:C<=1000):gJ [.pure (aj h w bs),.pure (aa fl)]=some (.pure (aa (lay h bs fl)),[.pure (aj h w bs),.pure (aa fl)]):=by
 have h1:=R.h1;have w1:=R.w1;have hl:=G3 R F hA;have hdc:=qW R;obtain⟨x0,-,x2⟩:=iM h w bs;unfold gJ FY;generalize aj h w bs=ru at*;obtain⟨P3,e,acc,a,b,c,d,h2,-,rfl⟩:=forA D.str (g:=ah [] 4) (b:=gB) (λas Y=>∃acc a b c d,acc++lay h bs as=lay h bs fl/\(∀r∈as,r∈fl)/\Y=gS ru (aa fl) (aT bs) acc a b c d) λrow as Y hh=>by
  obtain⟨acc,a,b,c,d,h2,h3,e⟩:=hh
  subst e;have hr:=h3 row (.head _);have e0:lay h bs (row::as)=layR h bs row++lay h bs as:=rfl;rw[e0,<-WL]at h2;obtain⟨P3,e,acc',b',c',d',h4,-,rfl⟩:=forA (λl:Nat=>D.int l) (g:=ah [] 5) (b:=gT) (λls Y=>∃acc' b c d,acc'++(ls.map λl=>eZ bs l row)=acc++layR h bs row/\(∀l∈ls,l<h)/\Y=gS ru (aa fl) (aT bs) acc' (pS (.str row)) b c d) (λl ls Y hh=>by
   obtain⟨acc',b,c,d,h4,h5,e⟩:=hh
   subst e;have hh:=h5 l (.head _);have hz:=congrArg QS h4;have hy:=congrArg QS h2;simp at hz hy;obtain⟨P3,e,x,d',h6,-,rfl⟩:=forA sD (g:=ah [] 7) (b:=aE (au aF 6 (ag (ax aC (au jB 2 (aq 7)) (aq 5)))) (ah [] 6)) (λns Y=>∃x d,x++eZ bs l ns=eZ bs l row/\(∀n∈ns,n∈row)/\Y=gS ru (aa fl) (aT bs) acc' (pS (.str row)) (pS (.int l)) (pS (.str x)) d) λn ns Y hh=>by obtain⟨x,d,h6,h7,e⟩:=hh;subst e;have hn:=F.tl row hr n (h7 n (.head _));have y1:=G0 hn;have y2:=(qY R hn hh).2.2;have e1:eZ bs l (n::ns)=(cW bs n).getD l []++eZ bs l ns:=rfl;have e2:=congrArg QS h6;rw[(uM R hh row (F.tl row hr)).1,F.cols row hr,e1,Wy,Wy]at e2;have e3:C*w<=1000*4:=WN hC w1;have ha:=add_str x ((cW bs n).getD l []) Y';refine⟨_,rfl,λy hy=>⟨_,hy.symm.trans (cf (SL:=gS ru (aa fl) (aT bs) acc' (pS (.str row)) (pS (.int l)) (pS (.str x)) (pS (sD n))) (v:=.pure (.str (x++(cW bs n).getD l []))) ?_ rfl),_,pS (sD n),by rw[<-h6,e1,WL],λm hm=>h7 m (.tail _ hm),rfl⟩⟩;generalize D.str (x++(cW bs n).getD l [])=X,D.str ((cW bs n).getD l [])=W',aa (cW bs n)=V,aT bs=M' at*;simp[ax,au,dY,aq,y1,y2,ha,S.d] row (gS ru (aa fl) (aT bs) acc' (pS (.str row)) (pS (.int l)) (pS (.str [])) d) ⟨[],d,rfl,λj z=>z,rfl⟩;obtain rfl:x=eZ bs l row:=by simpa[eZ]using h6
   exact⟨_,rfl,λy hy=>⟨_,hy.symm.trans (fM (fM (uL (v:=.pure (.str (eZ bs l row))) rfl rfl rfl Zx rfl) ((dH (it:=aR (ae 4)) (Y:=gS ru (aa fl) (aT bs) acc' (pS (.str row)) (pS (.int l)) (pS (.str [])) d) rfl).trans e)) rfl),acc'++[eZ bs l row],_,_,_,~~~h4,λx hx=>h5 x (.tail _ hx),by simp only[gS,Qb];rfl⟩⟩) (Wl h) (gS ru (aa fl) (aT bs) acc (pS (.str row)) b c d) ⟨acc,b,c,d,rfl,λl hl=>List.mem_range.mp hl,rfl⟩;refine⟨_,rfl,λy hy=>⟨_,hy.symm.trans ((dH (it:=cb (au aC 0 1#0)) (lW (z:=h) ?_ rfl Y')).trans e),acc',_,b',c',d',?_,λr hr=>h3 r (.tail _ hr),rfl⟩⟩;.simp[au,dY,aq,x0]
  .rw[<-h2,<-h4];simp fl (gS ru (aa fl) (aT bs) [] none none none none) ⟨[],none,none,none,none,rfl,λj z=>z,rfl⟩;obtain rfl:acc=lay h bs fl:=by simpa[lay]using h2
 refine gR (SL:=gS ru (aa fl) (aT bs) (lay h bs fl) a b c d) (fM ?_ m8) rfl rfl;exact fM (fM rfl ((dH (it:=aR (ae 1)) (Y:=gS ru (aa fl) (aT bs) [] none none none none) rfl).trans e)) rfl
theorem YB{α:Type}[DecidableEq α](t a b:List α):bM t (a++b)=bM (bM t a) b:=List.foldl_append ..
theorem rj(t:List Fl9):∀a:List Fl9,(bM t a).length<=t.length+a.length:=λa=>by induction a generalizing t with|nil=>exact W5 _|cons x a ih=>have:=ih (cT t x);have h:=Hz t x;show(bM (cT t x) a).length<=_;rw[WE];lia
theorem zZ{A J:Type}{M:Nat}{gd:A->D}{F:A->List Fl9}{g:DG}{b:DS}{mk:List Fl9->J->Dl}{st:A->J->J}(hg:∀a acc j,g (.pure (gd a)) (mk acc j)=some (mk acc (st a j))):∀as:List A,(∀a∈as,∀acc j,acc.length+(F a).length<=M->∃j',b (mk acc (st a j))=.ok .next (mk (bM acc (F a)) j'))->∀acc j,acc.length+(as.flatMap F).length<=M->∃j',forL g b (as.map gd) (mk acc j)=.ok .next (mk (bM acc (as.flatMap F)) j')|[],_,acc,j,_=>⟨j,rfl⟩|a::as,hb,acc,j,hl=>by rw[Js,Wy]at hl;have l:=rj acc (F a);obtain⟨j1,e1⟩:=hb a (.head _) acc j Y';obtain⟨j2,e2⟩:=zZ hg as (λx hx=>hb x (.tail _ hx)) (bM acc (F a)) j1 Y';rw[<-YB]at e2;exact⟨j2,(uJ (hg a acc j) e1).trans e2⟩
abbrev p7(F r c:D)(acc:List Fl9)(j:Option S×Option S):Dl:=[pS F,pS r,pS c,pO (c8 (.bl true) acc),j.1,j.2,none]
abbrev pC:DE:=ay dk (ag (bb [6] (aR (bj 0 (aV (ae 4)) (aV (au aF 4 (aq 1))))) (ah [] 6) bw (bj 6 (aV (ae 5)) (aV (au aF 5 (aq 2))))))
theorem YC{R C:Nat}{F:Fl9}(d:Dm R C F)(hR:R<=1000)(hC:C<=1000)(i j r c:Nat)(acc:List Fl9):pC (p7 (aa F) (.int r) (.int c) acc (pS (.int i),pS (.int j)))=.ok (.pure (aa (cut F i j r c))) (p7 (aa F) (.int r) (.int c) acc (pS (.int i),pS (.int j))):=by
 have s1:cJ (some (i:Int)) (some ((i:Int)+(r:Int))) (aa F)=pS (.tup (((F.drop i).take r).map .str)):=by show some (S.pure (.tup (br _ _ _)))=_;rw[uP,Uk,Ul]
 have ad:=λa b:Nat=>add_int (a:Int) (b:Int);refine cE (cS (f:=.str) (λx=>.str ((x.drop j).take c)) (as:=(F.drop i).take r) (Y:=p7 (aa F) (.int r) (.int c) acc (pS (.int i),pS (.int j))) ?_ (by simp[d.rows];lia) λx hx=>?_) ?_;.exact e_ (uQ (v:=.pure (aa F)) rfl rfl (b8 rfl rfl (ad i r)) s1) (.inl rfl)
 .have hl:=d.cols x (Qx (Ql hx));have s2:cJ (some (j:Int)) (some ((j:Int)+(c:Int))) (.str x)=pS (.str ((x.drop j).take c)):=by show(if x.length<=W7 then some (S.pure (.str (br x _ _)))else none)=_;rw[if_pos (by rw[hU];lia),uP]
  exact uQ (v:=.pure (.str x)) rfl rfl (b8 rfl rfl (ad j c)) s2
 .simp[dk,cut,Function.comp_def,S.d]
theorem uV{ks:List Fl9}(h:∀k∈ks,k≠[])(hl:ks.length<=1000000):iJ (.lst (ks.map aa))=pO (.lst ((eC ks).map aa)):=UR h hl
theorem HF(v:D)(t:List Fl9):nZ (c8 v t)=pO (.lst (t.map aa)):=by simp only[nZ,Q9];rfl
theorem YD{R C r c:Nat}{F:Fl9}(d:Dm R C F)(h0:0<R)(hR:R<=30)(hC:C<=30)(hr0:0<r)(hr:r<=R)(hc:c<=C):uA [.pure (aa F),.pure (.int r),.pure (.int c)]=some (.own (.lst ((eC (bM [] (gn F r c))).map aa)),[.pure (aa F),.pure (.int r),.pure (.int c)]):=by
 have x0:=nj d h0;have l0:=kE F;have l1:=jN (x:=F.getD 0 []) (by rw[(d.row h0).2];lia);rw[(d.row h0).2]at l1;rw[d.rows]at l0;have sb:=λa b:Nat=>xZ (a:Int) (b:Int);have wl:(gn F r c).length<=961:=by rw[oF d h0];exact WN (show R-r+1<=31 by lia) (show C-c+1<=31 by lia)
 have one:∀i:Nat,∀acc j,acc.length+((Wl (C-c+1)).flatMap λj:Nat=>[cut F i j r c]).length<=1000->∃j',bX (cb (ax aF (ax fk (ay aP (ag (au aC 0 1#0))) (aq 2)) 1#1)) (ah [] 5) (fX 3 pC (eD (.bl true))) (p7 (aa F) (.int r) (.int c) acc (pS (.int i),j))=.ok .next (p7 (aa F) (.int r) (.int c) (bM acc ((Wl (C-c+1)).flatMap λj:Nat=>[cut F i j r c])) j'):=λi acc j hl=>by have it:cb (ax aF (ax fk (ay aP (ag (au aC 0 1#0))) (aq 2)) 1#1) (p7 (aa F) (.int r) (.int c) acc (pS (.int i),j))=.ok ((Wl (C-c+1)).map λi:Nat=>D.int i) (p7 (aa F) (.int r) (.int c) acc (pS (.int i),j)):=uR (bK (bK (cE (b8 rfl rfl x0) l1) rfl (sb C c)) rfl rfl) hc Y';obtain⟨j',e⟩:=zZ (M:=1000) (gd:=λj:Nat=>D.int j) (F:=λj:Nat=>[cut F i j r c]) (g:=ah [] 5) (b:=fX 3 pC (eD (.bl true))) (mk:=λacc o=>p7 (aa F) (.int r) (.int c) acc (pS (.int i),o)) (st:=λj y=>pS (.int j)) (λy y y=>rfl) (Wl (C-c+1)) (λj y acc o hl=>⟨pS (.int j),zU (v:=.bl true) (r:=.pure (.bl true)) rfl rfl rfl (YC d Y' Y' i j r c acc) (by have hl:acc.length+1<=1000:=hl;lia)⟩) acc j hl;exact⟨_,(dH it).trans e⟩
 have len:((Wl (R-r+1)).flatMap λi:Nat=>(Wl (C-c+1)).flatMap λj:Nat=>[cut F i j r c])=gn F r c:=by unfold gn;rw[d.wd h0,d.rows];congr 1;funext i;exact zP _ _
 obtain⟨j',e⟩:=zZ (M:=1000) (gd:=λj:Nat=>D.int j) (F:=λi:Nat=>(Wl (C-c+1)).flatMap λj:Nat=>[cut F i j r c]) (g:=ah [] 4) (b:=bX (cb (ax aF (ax fk (ay aP (ag (au aC 0 1#0))) (aq 2)) 1#1)) (ah [] 5) (fX 3 pC (eD (.bl true)))) (mk:=λacc o=>p7 (aa F) (.int r) (.int c) acc o) (st:=λi o=>(pS (.int i),o.2)) (λy y y=>rfl) (Wl (R-r+1)) (λi y acc o hl=>one i acc o.2 hl) [] (none,none) (by rw[len];simp;lia);rw[len]at e;have it:cb (ax aF (ax fk (ay aP (aq 0)) (aq 1)) 1#1) (p7 (aa F) (.int r) (.int c) [] (none,none))=.ok ((Wl (R-r+1)).map λi:Nat=>D.int i) (p7 (aa F) (.int r) (.int c) [] (none,none)):=uR (bK (bK (cF rfl l0) rfl (sb R r)) rfl rfl) hr Y';have al:=rj [] (gn F r c);rw[QZ]at al;have so:=uV (ks:=bM [] (gn F r c)) λk hk=>by
  rcases(uI _ _ _).mp hk with hk|hk;.cases hk
  .obtain⟨i,j,hi,hj,rfl⟩:=(zL d h0 hr hc).mp hk;have:=(uO d hi hj).rows;intro z;rw[z]at this;simp at this;lia Y';exact iP (nz (SL:=p7 (aa F) (.int r) (.int c) [] (none,none)) rfl (nz ((dH it).trans e) (rt (cE (cF rfl (HF _ _)) so))))
abbrev ig(F:Fl9):List Fl9:=eC (bM [] (e9 F))
theorem uW(F p:Fl9):p∈ig F↔p∈e9 F:=by unfold ig;rw[(mZ _).mem_iff,uI];simp
theorem HG{R C:Nat}{F:Fl9}(d:Dm R C F)(h0:0<R)(hR:R<=30)(hC:C<=30):jl [.pure (aa F)]=some (.own (.lst ((ig F).map aa)),[.pure (aa F)]):=by have x0:=nj d h0;have l0:=kE F;have l1:=jN (x:=F.getD 0 []) (by rw[(d.row h0).2];lia);have g:=YD d h0 hR hC (r:=min F.length 3) (c:=min (wd F) 3) (by rw[d.rows];lia) (by rw[d.rows];lia) (by rw[d.wd h0];lia);have m1:=oG 3 F.length;have m2:=oG 3 (wd F);rw[Nat.min_comm]at m1 m2;exact oC (rt (lY rfl (oH (x:=.pure (.int 3)) rfl (cF rfl l0) m1) (oH (x:=.pure (.int 3)) rfl (cE (b8 rfl rfl x0) l1) m2) g))
theorem YE{R C:Nat}{bs:8#0}{F p:Fl9}(f:fO bs R C F)(r0:0<R)(c0:0<C)(hp:p∈e9 F):Gd bs p:=by obtain⟨i,j,hi,hj,rfl⟩:=(zM f.dm r0).mp hp;exact⟨_,_,⟨Y',Y'⟩,⟨Y',Y'⟩,q_ f hi hj⟩
theorem YF{R C:Nat}{F:Fl9}(d:Dm R C F)(r0:0<R)(hR:R<=12)(hC:C<=12):(ig F).length<=169:=by unfold ig;rw[(mZ _).length_eq];refine WF (rj [] _) ?_;rw[QZ,U7];unfold e9;rw[oF d r0];exact WN (show R-min F.length 3+1<=13 by lia) (show C-min (wd F) 3+1<=13 by lia)
theorem HH{n:Nat}(h0:0<n)(h3:n<=3):eY true (.int (n:Nat)) (.tup [.int 1,.int 2,.int 3])=pS (.bl false):=by
 have:n=1\/n=2\/n=3:=by lia
 rcases this with rfl|rfl|rfl<;>rfl
theorem YG(c:Int):∀n,gi (c::W9 n c)=c/\gh (c::W9 n c)=c:=by
 intro n;constructor;.induction n with|zero=>rfl|succ n ih=>rw[Qc];simp[gi]at*;lia
 .induction n with|zero=>rfl|succ n ih=>rw[Qc];simp[gh]at*;lia
theorem YH(C n:Nat):nV (.lst (W9 (n+1) (.int (C:Nat))))=pS (.int (C:Nat))/\nU (.lst (W9 (n+1) (.int (C:Nat))))=pS (.int (C:Nat)):=by have e:W9 (n+1) (D.int (C:Nat))=((C:Int)::W9 n (C:Int)).map .int:=#v[Qc];have m:=YG (C:Int) n;unfold nV nU;rw[e];simp only[Lake.ints_map];exact⟨congrArg (λz=>some (S.pure (.int z))) m.1,congrArg (λz=>some (S.pure (.int z))) m.2⟩
theorem HI(n:Nat):∀a:Fl9,gX n (a.map .str)=true|[]=>rfl|x::a=>by have:=HI n a;rw[Wj];simp[gX,flat,this]
theorem z6(n:Nat)(a:Fl9):flat (n+1) (aa a)=true:=HI n a
theorem z7(n:Nat):∀ks:List Fl9,gX (n+1) (ks.map aa)=true|[]=>rfl|k::ks=>by have h1:=z6 n k;have h2:=z7 n ks;rw[Wj];show(flat (n+1) (aa k)&&gX (n+1) (ks.map aa))=true;rw[h1,h2];rfl
theorem HK:∀a b:List Fl9,dF (a.map aa) (b.map aa)=decide (a=b)|[],[]=>rfl|[],_::_=>rfl|_::_,[]=>rfl|x::a,y::b=>by show(aW (aa x) (aa y)&&dF (a.map aa) (b.map aa))=_;rw[zS,HK a b,QE];simp
theorem HL(a b:List Fl9):dP (.lst (a.map aa)) (.lst (b.map aa))=pS (.bl !decide (a=b)):=by have f1:flat 50 (.lst (a.map aa))=true:=z7 48 a;have f2:flat 50 (.lst (b.map aa))=true:=z7 48 b;have e:aW (.lst (a.map aa)) (.lst (b.map aa))=decide (a=b):=HK a b;unfold dP;rw[f1,f2,e];rfl
theorem YI(q:Fl9)(ks:List Fl9):eY true (aa q) (.lst (ks.map aa))=pS (.bl !decide (q∈ks)):=by
 have f1:flat 49 (aa q)=true:=z6 48 q;have f2:(ks.map aa).all (flat 49)=true:=by rw[WV];intro d hd;obtain⟨k,_,rfl⟩:=WH.mp hd;exact z6 48 k
 have a:((ks.map aa).any λe=>aW e (aa q))=decide (q∈ks):=by rw[List.any_map,QE,JQ,decide_eq_true_eq];simp only[Function.comp,zS,decide_eq_true_eq];exact⟨λ⟨x,hx,e⟩=>e▸hx,λh=>⟨q,h,rfl⟩⟩
 simp only[eY,mT,f1,f2,a];rfl
theorem YJ{ts:List Nat}{n:Nat}(h:n∈ts):eY false (.str [n]) (.lst (ts.map cg))=pS (.bl true):=by
 have f2:(ts.map cg).all (flat 49)=true:=by rw[WV];intro d hd;obtain⟨k,_,rfl⟩:=WH.mp hd;rfl
 have a:((ts.map cg).any λe=>aW e (.str [n]))=true:=List.any_eq_true.mpr ⟨cg n,QB h,by show([n]==[n])=true;simp⟩;simp only[eY,mT,show flat 49 (D.str [n])=true from rfl,f2,a];rfl
theorem HM:∀(ks t:List Fl9),t.Nodup->(bM t ks).length=t.length+ks.length->(t++ks).Nodup
 |[],t,nd,_=>%[WT|nd]|x::ks,t,nd,h=>by
  have h:(bM (cT t x) ks).length=t.length+(x::ks).length:=h;rw[WE]at h;have l:=rj (cT t x) ks;unfold cT at h l;by_cases hx:x∈t;.rw[if_pos hx]at h l;lia
  .rw[if_neg hx]at h;have:=HM ks (t++[x]) (List.nodup_append.mpr ⟨nd,Zw,λa ha b hb e=>hx (by rw[Ws.mp hb]at e;exact e▸ha)⟩) (by rw[h];simp;lia);simpa using this
theorem YK(v:D)(t:List Fl9):nY (c8 v t)=pS (.int (t.length:Nat)):=by show some (S.pure (.int ((t.map λk=>(aa k,v)).length:Nat)))=_;rw[Wq]
section
variable{h:Nat}{bs:8#0}(R:bS h w bs)
include R
theorem HN{F:Fl9}(g:Gd bs F):jq lP [.pure (aj h w bs),.pure (aa F)]:=by
 obtain⟨A,C,⟨a0,a3⟩,⟨c0,c3⟩,f⟩:=g;have l0:=kE F;rw[f.rows]at l0;have j:=Hl f.dm (WF (WN a3 c3) Z');have fl:=Hm f.dm;have b9:A*C<=9:=WN a3 c3;have rm:=qX R;obtain⟨n,hn⟩:∃n,A=n+1:=⟨A-1,Y'⟩;have mm:=YH C n;have em:(F.map λk=>D.int (C:Nat))=W9 (n+1) (D.int (C:Nat)):=by rw[List.map_const',f.rows,hn]
 have x0:aC (.lst (W9 (n+1) (D.int (C:Nat)))) (.int 0)=pS (.int (C:Nat)):=by rw[Qc];simp[aC,lH]
 have e3:dP (.int (C:Nat)) (.int (C:Nat))=pS (.bl false):=by rw[zB];simp
 have hm:∀n∈F.flatten,n∈bs.map (·.1):=λn hn=>by obtain⟨x,hx,h⟩:=List.mem_flatten.mp hn;exact f.tl x hx n h
 have al:=rd F;have YL:=rd F.flatten;have c1:bb [3] (aR (ae 1)) (ah [] 3) bw (eL "str" (aq 3)) [pS (aj h w bs),pS (aa F),none,none,none]=.ok (.own (.lst (F.map λk=>.bl true))) [pS (aj h w bs),pS (aa F),none,none,none]:=cS .str (λk=>.bl true) (Y:=[pS (aj h w bs),pS (aa F),none,none,none]) (e_ rfl (.inl rfl)) (by rw[f.rows];lia) λx hx=>fV rfl rfl;have c2:bb [3] (aR (ae 1)) (ah [] 3) bw (ay aP (aq 3)) [pS (aj h w bs),pS (aa F),none,none,none]=.ok (.own (.lst (F.map λk=>.int (C:Nat)))) [pS (aj h w bs),pS (aa F),none,none,none]:=cS .str (λk=>.int (C:Nat)) (Y:=[pS (aj h w bs),pS (aa F),none,none,none]) (e_ rfl (.inl rfl)) (by rw[f.rows];lia) λx hx=>cF rfl (by have:=jN (x:=x) (by have:=f.cols x hx;lia);rw[f.cols x hx]at this;exact this);rw[em]at c2;generalize W9 (n+1) (D.int (C:Nat))=SZ at*;have k3:∀o2:Option S,bb [4] (aR (ay (dQ []) (aq 1))) (ah [] 4) bw (ax (eY false) (ae 4) (ag (az f7 [.val (ae 0)]))) [pS (aj h w bs),pS (aa F),o2,none,none]=.ok (.own (.lst (F.flatten.map λk=>.bl true))) [pS (aj h w bs),pS (aa F),o2,none,none]:=λo2=>cS (λn=>D.str [n]) (λk=>.bl true) (Y:=[pS (aj h w bs),pS (aa F),o2,none,none]) (by rw[oz,cF rfl j,g_];rfl) (by rw[fl];lia) λn hn=>bK rfl (c7 (jo rfl rm)) (YJ (hm n hn));exact iO (iN (fv (eE (x:=true) (fV rfl rfl)) (fv (e8 (bK (cF rfl l0) rfl (HH a0 a3))) (eE (x:=true) (cE c1 al)))) (nz (cf c2 rfl) (iN (fv (e8 (bK (cF rfl mm.1) (c7 (cF rfl mm.2)) e3)) (e8 (bK (b8 rfl rfl x0) rfl (HH c0 c3)))) (rt (cE (k3 _) YL)))))
theorem YM{t:Nat}{d:D}(hd:gC "list" d=some false):nq qQ [.pure (aj h w bs),.pure (.str [t]),.pure d]:=iP (fN ((dw (z:=true) (ni (eE (x:=false) (fV rfl hd)))).trans rfl))
abbrev Lo(d:D):Prop:=(∃F,Gd bs F/\d=aa F)\/nq lP [.pure (aj h w bs),.pure d]
omit R in theorem HP:∀{es:List D},(∀d∈es,∃F,Gd bs F/\d=aa F)->∃ks:List Fl9,es=ks.map aa/\∀k∈ks,Gd bs k|[],_=>⟨[],rfl,nofun⟩|d::es,he=>by obtain⟨F,g,rfl⟩:=he d (.head _);obtain⟨ks,rfl,gs⟩:=HP λx hx=>he x (.tail _ hx);exact⟨F::ks,rfl,λk hk=>by
 rcases Wi.mp hk with rfl|hk;.exact g
 .exact gs k hk⟩
abbrev d6(A T E:D)(o3:Option S)(o4 o5:Option S):Dl:=[pS A,pS T,pS E,o3,o4,o5]
abbrev dB:DS:=bA (bD (aD (ay eJ (ag (bb [5] (aR (az jl [.val (az gJ [.val (ae 0),.val (ae 4)])])) (ah [] 5) bw (ax (d_ false) (ae 5) (aq 3))))))) (aU (eD (.bl false))) bI
theorem YN{ks L:List Fl9}(hL:∀q,q∈L↔q∈ks){F:Fl9}(g:Gd bs F){T E:D}{v:D}:(¬cy h bs ks F/\∃P3,dB (d6 (aj h w bs) T E (pO (c8 v L)) (pS (aa F)) none)=.ok (.ret (.pure (.bl false))) P3)\/dB (d6 (aj h w bs) T E (pO (c8 v L)) (pS (aa F)) none)=.ok .next (d6 (aj h w bs) T E (pO (c8 v L)) (pS (aa F)) none)/\cy h bs ks F:=by
 obtain⟨A,C,⟨a0,a3⟩,⟨c0,c3⟩,f⟩:=g;have la:=jL R f;have h1:=R.h1;have w1:=R.w1;have b1:A*h<=12:=WN a3 h1;have b2:C*w<=12:=WN c3 w1;have rl:=HE R f Y' Y';have rg:=HG la.dm (QT a0 R.h0) Y' Y';have gl:=YF la.dm (QT a0 R.h0) b1 b2;have s3:bb [5] (aR (az jl [.val (az gJ [.val (ae 0),.val (ae 4)])])) (ah [] 5) bw (ax (d_ false) (ae 5) (aq 3)) (d6 (aj h w bs) T E (pO (c8 v L)) (pS (aa F)) none)=.ok (.own (.lst ((ig (lay h bs F)).map λp=>.bl (decide (p∈ks))))) (d6 (aj h w bs) T E (pO (c8 v L)) (pS (aa F)) none):=nt aa (λp=>.bl (decide (p∈ks))) (e_ (jo (f:=az gJ [.val (ae 0),.val (ae 4)]) (jM rfl rfl rl) rg) (.inr rfl)) Y' (λp hp=>⟨_,bK (x:=.pure (aa p)) rfl rfl (rh _ L p).1,by rw[show decide (p∈L)=decide (p∈ks)from decide_eq_decide.mpr (hL p)];rfl⟩) ⟨none,rfl,nofun⟩;have s4:=eE (cE s3 (zV (ig (lay h bs F)) λp=>p∈ks));have iff:(∀p∈ig (lay h bs F),p∈ks)↔cy h bs ks F:=⟨λz p hp=>z p ((uW _ _).mpr hp),λz p hp=>z p ((uW _ _).mp hp)⟩;by_cases o:cy h bs ks F;.rw[decide_eq_true (iff.mpr o)]at s4;exact .inr ⟨dw s4,o⟩
 .rw[decide_eq_false λz=>o (iff.mp z)]at s4;exact .inl ⟨o,_,(dw s4).trans rfl⟩
theorem YO{t:Nat}{es:List D}(he:∀d∈es,Lo (h:=h) (w:=w) (bs:=bs) d)(hk:es.length<=50000):uN qQ [.pure (aj h w bs),.pure (.str [t]),.pure (.lst es)] (uU h bs t es):=by classical
 have c1:bb [4] (aR (ae 2)) (ah [] 4) bw (az lP [.val (ae 0),.val (ae 4)]) (d6 (aj h w bs) (.str [t]) (.lst es) none none none)=.ok (.own (.lst (es.map λd=>.bl (decide (∃F,Gd bs F/\d=aa F))))) (d6 (aj h w bs) (.str [t]) (.lst es) none none none):=nt (λd=>d) (λd=>.bl (decide (∃F,Gd bs F/\d=aa F))) (Y:=d6 (aj h w bs) (.str [t]) (.lst es) none none none) (e_ (v:=.pure (.lst es)) rfl (.inr (by rw[List.map_id'];rfl))) Y' (λd hd=>by
   rcases he d hd with⟨F,g,rfl⟩|no;.exact⟨_,jM (f1:=ae 0) (f2:=ae 4) rfl rfl (HN R g),by rw[decide_eq_true ⟨F,g,rfl⟩];rfl⟩
   .have nf:¬∃F,Gd bs F/\d=aa F:=λ⟨F,g,e⟩=>by subst e;have y:jq lP [.pure (aj h w bs),.pure (aa F)]:=HN R g;have:=no.symm.trans y;simp at this
    exact⟨_,jM (f1:=ae 0) (f2:=ae 4) rfl rfl no,by rw[decide_eq_false nf];rfl⟩) ⟨none,rfl,nofun⟩;have s1:=fv (eE (x:=true) (fV (Y:=d6 (aj h w bs) (.str [t]) (.lst es) none none none) (i:=2) (T:="list") rfl rfl)) (eE (cE c1 (zV es λd=>∃F,Gd bs F/\d=aa F)));by_cases ga:∀d∈es,∃F,Gd bs F/\d=aa F
 .rw[decide_eq_true ga]at s1;obtain⟨ks,rfl,g⟩:=HP ga;clear c1 he ga;rw[Wq]at hk;have pc:uU h bs t (ks.map aa)↔ks.Pairwise Lt/\[[t]]∈ks/\∀F∈ks,cy h bs ks F:=by
   constructor;.rintro⟨ks',e,_,a,b,c⟩;obtain rfl:ks=ks':=Ub (λj j e=>rf e)|>.mp e;exact⟨a,b,c⟩
   .exactλ⟨a,b,c⟩=>⟨ks,rfl,g,a,b,c⟩
  have so:=uV (λk hk=>(g k hk).ne) (show ks.length<=1000000 by lia);have n1:=HL ks (eC ks);have cd:∀o3:Option S,ay iK (ag (bb [4] (aR (ae 2)) (ah [] 4) bw (cp (aw (ae 4) (aw 3#1 aJ))))) (d6 (aj h w bs) (.str [t]) (.lst (ks.map aa)) o3 none none)=.ok (.own (c8 (.int 1) (bM [] ks))) (d6 (aj h w bs) (.str [t]) (.lst (ks.map aa)) o3 none none):=λo3=>cE (nt aa (λk=>.tup [aa k,.int 1]) (Y:=d6 (aj h w bs) (.str [t]) (.lst (ks.map aa)) o3 none none) (e_ (v:=.pure (.lst (ks.map aa))) rfl (.inr rfl)) Y' (λk j=>⟨.pure (.tup [aa k,.int 1]),rfl,rfl⟩) ⟨none,rfl,nofun⟩) (Hy (.int 1) Y');have ll:aP (.lst (ks.map aa))=pS (.int (ks.length:Nat)):=#v[aP];have n2:dP (.int ((bM [] ks).length:Nat)) (.int (ks.length:Nat))=pS (.bl !decide ((bM [] ks).length=ks.length)):=by rw[zB];congr 3;rw[QE];simp;lia
  have t1:aD (au dP 2 (ag (ay iJ (aq 2)))) (d6 (aj h w bs) (.str [t]) (.lst (ks.map aa)) none none none)=.ok (!decide (ks=eC ks)) (d6 (aj h w bs) (.str [t]) (.lst (ks.map aa)) none none none):=e8 (b8 rfl (c7 (cF rfl so)) n1);have t2:aD (ax dP (ay nY (ag (ay iK (ag (bb [4] (aR (ae 2)) (ah [] 4) bw (cp (aw (ae 4) (aw 3#1 aJ)))))))) (ag (ay aP (aq 2)))) (d6 (aj h w bs) (.str [t]) (.lst (ks.map aa)) none none none)=.ok (!decide ((bM [] ks).length=ks.length)) (d6 (aj h w bs) (.str [t]) (.lst (ks.map aa)) none none none):=e8 (bK (cE (cd none) (YK _ _)) (c7 (cF rfl ll)) n2);have t3:aD (ax (eY true) (cp (aw (ae 1) aJ)) (aq 2)) (d6 (aj h w bs) (.str [t]) (.lst (ks.map aa)) none none none)=.ok (!decide ([[t]]∈ks)) (d6 (aj h w bs) (.str [t]) (.lst (ks.map aa)) none none none):=e8 (bK (x:=.pure (aa [[t]])) rfl rfl (YI [[t]] ks));by_cases q1:ks=eC ks
  .rw[decide_eq_true q1]at t1;by_cases q2:(bM [] ks).length=ks.length
   .rw[decide_eq_true q2]at t2;have nd:ks.Nodup:=by simpa using HM ks [] .nil (~~~q2)
    have p:=uT.mp ⟨q1,nd⟩;by_cases q3:[[t]]∈ks
    .rw[decide_eq_true q3]at t3;have hL:∀q,q∈bM [] ks↔q∈ks:=λq=>by rw[uI];simp
     have W:=zX aa (g:=ah [] 4) (b:=dB) (∀F∈ks,cy h bs ks F) (λfs Y=>∃o4,Y=d6 (aj h w bs) (.str [t]) (.lst (ks.map aa)) (pO (c8 (.int 1) (bM [] ks))) o4 none/\(∀q∈fs,q∈ks)/\((∀F∈ks,cy h bs ks F)↔∀q∈fs,cy h bs ks q)) (λq qs Y⟨o4,e,mem,iff⟩=>by
      subst e;refine⟨d6 (aj h w bs) (.str [t]) (.lst (ks.map aa)) (pO (c8 (.int 1) (bM [] ks))) (pS (aa q)) none,rfl,?_⟩;rcases YN R hL (g q (mem q (.head _))) (T:=.str [t]) (E:=.lst (ks.map aa)) (v:=.int 1)with⟨no,PP,e⟩|⟨e,o⟩;.exact .inl ⟨λz=>no (iff.mp z q (.head _)),PP,e⟩
      .exact .inr ⟨_,e,_,rfl,λx hx=>mem x (.tail _ hx),iff.trans ⟨λz x hx=>z x (.tail _ hx),λz x hx=>by
        rcases Wi.mp hx with rfl|hx;.exact o
        .exact z x hx⟩⟩) ks (d6 (aj h w bs) (.str [t]) (.lst (ks.map aa)) (pO (c8 (.int 1) (bM [] ks))) none none) ⟨none,rfl,λj h=>h,.rfl⟩;have it:aR (ae 2) (d6 (aj h w bs) (.str [t]) (.lst (ks.map aa)) (pO (c8 (.int 1) (bM [] ks))) none none)=.ok (ks.map aa) (d6 (aj h w bs) (.str [t]) (.lst (ks.map aa)) (pO (c8 (.int 1) (bM [] ks))) none none):=e_ (v:=.pure (.lst (ks.map aa))) rfl (.inr rfl);rcases W with⟨no,P3,e⟩|⟨P3,e,o4,rfl,_,iff⟩;.exact .no (iP (iN s1 (iN (fv t1 (fv t2 t3)) (nz (cf (cd none) rfl) (fN ((dH it).trans e)))))) λz=>no (pc.mp z).2.2
     .exact⟨true,iP (iN s1 (iN (fv t1 (fv t2 t3)) (nz (cf (cd none) rfl) (nz ((dH it).trans e) rfl)))),λj=>pc.mpr ⟨p,q3,iff.mpr nofun⟩,λj=>rfl⟩
    .rw[decide_eq_false q3]at t3;exact .no (iP (iN s1 (fN ((dw (z:=true) (fv t1 (fv t2 t3))).trans rfl)))) λz=>q3 (pc.mp z).2.1
   .rw[decide_eq_false q2]at t2;exact .no (iP (iN s1 (fN ((dw (z:=true) (fv t1 (ni t2))).trans rfl)))) λz=>q2 (by rw[Xv [] (by simpa using(uT.mpr (pc.mp z).1).2)];rfl)
  .rw[decide_eq_false q1]at t1;exact .no (iP (iN s1 (fN ((dw (z:=true) (ni t1)).trans rfl)))) λz=>q1 (uT.mpr (pc.mp z).1).1
 .rw[decide_eq_false ga]at s1;refine .no (iP (fN ((dw s1).trans rfl))) λ⟨ks,e,g,_⟩=>ga λd hd=>?_;subst e;obtain⟨k,hk,rfl⟩:=WH.mp hd;exact⟨k,g k hk,rfl⟩
end
section
variable{h:Nat}{bs:8#0}
abbrev jr(h w:Nat)(bs:8#0)(d:D):Prop:=nq jI [.pure d,.pure (.int 3)]/\nq lP [.pure (aj h w bs),.pure d]
abbrev Et(h w:Nat)(bs:8#0)(d:D):Prop:=(∃F,Gd bs F/\d=aa F)\/jr h w bs d
def Th(h w:Nat)(bs:8#0)(d:D):Prop:=gC "list" d=some false\/∃es,d=.lst es/\es.length<=50000/\∀d∈es,Et h w bs d
theorem HQ{f g:DE}{Y SL:Dl}(e:f Y=.ok (.pure (.bl false)) SL):gz f g Y=.ok (.pure (.bl false)) SL:=by unfold gz;rw[e];rfl
theorem YQ(xs:List D):jr h w bs (.lst xs):=⟨rfl,rfl⟩
theorem YR(x:Tx):jr h w bs (.str x):=⟨rfl,rfl⟩
theorem YS:jr h w bs .aI:=⟨rfl,rfl⟩
theorem YT(i:Int):jr h w bs (.int i):=⟨rfl,rfl⟩
theorem YU:jr h w bs (.tup []):=⟨rfl,rfl⟩
theorem YV:jr h w bs (.tup [.str []]):=⟨rfl,rfl⟩
theorem YW:jr h w bs (.tup [.str [97,98],.str [97]]):=⟨rfl,rfl⟩
theorem YX:jr h w bs (.tup [.int 0]):=⟨rfl,rfl⟩
theorem HR{n:Nat}(R:bS h w bs)(hn:n<97):jr h w bs (.tup [.str [n]]):=by
 have hm:n∉bs.map (·.1):=λhm=>by have:=zW R n hm;lia
 have lo:df (.str [97]) (.str [n])=pS (.bl false):=by rw[zQ,decide_eq_true (by rw[zR];lia)];rfl
 have rm:=qX R;have i2:eY false (.str [n]) (.lst ((bs.map (·.1)).map cg))=pS (.bl false):=by
  have f2:((bs.map (·.1)).map cg).all (flat 49)=true:=by rw[WV];intro d hd;obtain⟨k,_,rfl⟩:=WH.mp hd;rfl
  have a:(((bs.map (·.1)).map cg).any λe=>aW e (.str [n]))=false:=by rw[List.any_eq_false];intro d hd;obtain⟨k,hk,rfl⟩:=WH.mp hd;show¬([k]==[n])=true;intro e;have:k=n:= ~~~e;exact hm (this▸hk)
  simp only[eY,mT,show flat 49 (D.str [n])=true from rfl,f2,a];rfl
 have l0:nq oh [.pure (.str [n]),.pure (.int 64)]:=by refine iO (nz (SL:=[pS (.str [n]),pS (.int 64),none]) rfl (rt (cE (v:=.own (.lst [.bl false])) (SL:=[pS (.str [n]),pS (.int 64),none]) ?_ rfl)));exact cS (λn=>D.str [n]) (λj=>.bl false) (as:=[n]) rfl Zw λk hk=>by have:k=n:= ~~~hk;subst this;simp[zw,ae,lo]
 have g0:nq qR [.pure (.tup [.str [n]])]:=by refine oC (nz (SL:=[pS (.tup [.str [n]]),none]) rfl (fN (SL:=[pS (.tup [.str [n]]),pS (.str [n])]) ?_));refine(dH (it:=aR (ae 0)) (ds:=[.str [n]]) (Y:=[pS (.tup [.str [n]]),none]) (SL:=[pS (.tup [.str [n]]),none]) rfl).trans ?_;exact G4 rfl ((dw (z:=true) (ni (eE (x:=false) (jM (f1:=ae 1) (f2:=3#64) rfl rfl l0)))).trans rfl)
 constructor;.exact iO (rt (HQ (jo rfl g0)))
 .refine iO (nz (SL:=[pS (aj h w bs),pS (.tup [.str [n]]),none,none,none]) rfl (nz (SL:=[pS (aj h w bs),pS (.tup [.str [n]]),pO (.lst [.int 1]),none,none]) rfl (iN (SL:=[pS (aj h w bs),pS (.tup [.str [n]]),pO (.lst [.int 1]),none,none]) rfl (rt (cE (v:=.own (.lst [.bl false])) (SL:=[pS (aj h w bs),pS (.tup [.str [n]]),pO (.lst [.int 1]),none,none]) ?_ rfl)))));exact cS (λn=>D.str [n]) (λj=>.bl false) (as:=[n]) rfl Zw λk hk=>by have:k=n:= ~~~hk;subst this;exact bK rfl (c7 (jo rfl rm)) i2
theorem YY(R:bS h w bs){F:Fl9}(g:Gd bs F):jr h w bs (aa (F++F++F++F)):=by
 obtain⟨A,C,⟨a0,a3⟩,⟨c0,c3⟩,f⟩:=g;have mem:∀x,x∈F++F++F++F->x∈F:=λx hx=>~~~hx;have f4:fO bs (4*A) C (F++F++F++F):=⟨by simp[f.rows];lia,λr hr=>f.cols r (mem r hr),λr hr=>f.tl r (mem r hr)⟩;have gg:=Hn (zW R) f4 Y' Y' c0 Y';have ln:=kE (F++F++F++F);rw[f4.rows]at ln;generalize F++F++F++F=G at*;constructor
 .have e1:df (.int ((4*A:Nat):Int)) (.int 3)=pS (.bl false):=by rw[le_int,decide_eq_false Y']
  exact iO (rt (qZ (jo rfl gg) (HQ (bK (cF rfl ln) rfl e1))))
 .have i1:eY true (.int ((4*A:Nat):Int)) (.tup [.int 1,.int 2,.int 3])=pS (.bl true):=by
   have:A=1\/A=2\/A=3:=by lia
   rcases this with rfl|rfl|rfl<;>rfl
  exact iO (fN (SL:=[pS (aj h w bs),pS (aa G),none,none,none]) ((dw (z:=true) (fv (eE (x:=true) (fV rfl rfl)) (ni (e8 (bK (cF rfl ln) rfl i1))))).trans rfl))
theorem HS{GA:DX}{GD:DF}{A T d:D}{b:Bool}(g:GA [.pure A,.pure T,.pure d]=some (.inl (.pure (.bl b),[.pure A,.pure T,.pure d])))(k:GD [.pure A,.pure T,.pure d]=some (.pure (.bl b),[.pure A,.pure T,.pure d])):jq (bF [] 5 (aA (aE (az GD [.val (ae 0),.val (ae 1),.val (ae 2)]) (ah [] 3)) (aA (aE (gj GA [.val (ae 0),.val (ae 1),.val (ae 2)]) (ah [] 4)) (aU (gz (eL "bool" (aq 4)) (gz (au de 4 (aq 3)) (ax de (gj GA [.val (ae 0),.val (ae 1),.val (ae 2)]) (aq 3)))))))) [.pure A,.pure T,.pure d]:=by
 have e3:de (.bl b) (.bl b)=pS (.bl true):=by cases b<;>rfl
 have e4:gC "bool" (.bl b)=some true:=rfl;generalize D.bl b=B at*;exact iP (nz (SL:=[pS A,pS T,pS d,pS B,none]) (cf (lY (f1:=ae 0) (f2:=ae 1) (f3:=ae 2) rfl rfl rfl k) rfl) (nz (SL:=[pS A,pS T,pS d,pS B,pS B]) (cf (G7 (f1:=ae 0) (f2:=ae 1) (f3:=ae 2) rfl rfl rfl g) rfl) (rt (qZ (fV rfl e4) (qZ (b8 (g:=aq 3) rfl rfl e3) (bK (g:=aq 3) (G7 (f1:=ae 0) (f2:=ae 1) (f3:=ae 2) rfl rfl rfl g) rfl e3))))))
theorem z8(R:bS h w bs){t:Nat}(ht:t∈bs.map (·.1)){d:D}(th:Th h w bs d):jq gL [.pure (aj h w bs),.pure (.str [t]),.pure d]:=by
 rcases th with no|⟨es,rfl,hl,he⟩;.exact HS (YA R ht no) (YM R no)
 .obtain⟨b1,g1,i1⟩:=HC R ht (λd hd=>(he d hd).imp id And.left) hl;obtain⟨b2,g2,i2⟩:=YO R (t:=t) (λd hd=>(he d hd).imp id And.right) hl;obtain rfl:b1=b2:=Bool.eq_iff_iff.mpr (i1.trans i2.symm);exact HS g1 g2
end
def jO{α:Type}(l:List α):Nat->List (List α)|0=>[[]]|k+1=>l.flatMap λa=>(jO l k).map (a::.)
theorem z9{α:Type}(l:List α):∀k,(jO l k).length=l.length^k
 |0=>rfl|k+1=>by
  have e:∀m:List α,(m.flatMap λa=>(jO l k).map (a::.)).length=m.length*l.length^k:=λm=>by induction m with|nil=>simp|cons a m ih=>rw[Js,Wy,ih,Wq,z9 l k,WE,Jx,J3]
  show(l.flatMap _).length=_;rw[e,Nat.pow_succ,Jw]
theorem z_{α:Type}{l:List α}:∀{xs:List α},(∀x∈xs,x∈l)->xs∈jO l xs.length|[],_=>.head _|x::xs,h=>List.mem_flatMap.mpr ⟨x,h x (.head _),QB (z_ λy hy=>h y (.tail _ hy))⟩
def U(ts:List Nat):List Fl9:=[1,2,3].flatMap λr=>[1,2,3].flatMap λc=>jO (jO ts c) r
theorem Aa{bs:8#0}{F:Fl9}(g:Gd bs F):F∈U (bs.map (·.1)):=by
 obtain⟨A,C,⟨a0,a3⟩,⟨c0,c3⟩,f⟩:=g;have m:F∈jO (jO (bs.map (·.1)) C) A:=by rw[<-f.rows];exact z_ λx hx=>by rw[<-f.cols x hx];exact z_ (f.tl x hx)
 have i3:∀n,0<n->n<=3->n∈[1,2,3]:=λn h0 h3=>by
  have:n=1\/n=2\/n=3:=by lia
  rcases this with rfl|rfl|rfl<;>simp
 exact List.mem_flatMap.mpr ⟨A,i3 A a0 a3,List.mem_flatMap.mpr ⟨C,i3 C c0 c3,m⟩⟩
theorem Ab{ts:List Nat}(h:ts.length<=3):(U ts).length<=21300:=by
 have p:∀r c,(jO (jO ts c) r).length<=(3^c)^r:=λr c=>by rw[z9,z9];exact Nat.pow_le_pow_left (Nat.pow_le_pow_left h c) r
 have a:=p 1 1;have b:=p 1 2;have c:=p 1 3;have d:=p 2 1;have e:=p 2 2;have f:=p 2 3;have g:=p 3 1;have i:=p 3 2;have j:=p 3 3;unfold U;simp only[Js,List.flatMap_nil,Wy,QZ];simp only[Nat.reducePow]at a b c d e f g i j;lia
theorem uX{α:Type}[DecidableEq α]:∀{l ts:List α},l.Nodup->(∀x∈l,x∈ts)->l.length<=ts.length
 |[],_,_,_=>Q2 _|a::r,ts,nd,h=>by
  obtain⟨n1,n2⟩:=QV.mp nd;have ha:=h a WA;have:=uX (l:=r) (ts:=ts.erase a) n2 λx hx=>by have:x≠a:=λe=>n1 (by rw[<-e];exact hx);exact(List.mem_erase_of_ne this).mpr (h x (Wh _ hx))
  rw[List.length_erase_of_mem ha]at this;have:=JH ha;simp;lia
structure Sm9(h w:Nat):Prop where h3:h<=3w3:w<=3hw:h*w<7
def wf(h:Nat):Nat:=if h=1 then 1 else if h=2 then 4 else 7
theorem HU{h A:Nat}(h0:0<h)(h3:h<=3)(a0:0<A)(a3:A<=3):A*h-min (A*h) 3+1<=wf h:=by
 have c1:h=1\/h=2\/h=3:=by lia
 have c2:A=1\/A=2\/A=3:=by lia
 rcases c1 with rfl|rfl|rfl<;>rcases c2 with rfl|rfl|rfl<;>decide
theorem YZ{h w:Nat}(s:Sm9 h w)(h0:0<h)(w0:0<w):wf h*wf w<=28:=by
 have h3:=s.h3;have w3:=s.w3;have hw:=s.hw;have c1:h=1\/h=2\/h=3:=by lia
 have c2:w=1\/w=2\/w=3:=by lia
 rcases c1 with rfl|rfl|rfl<;>rcases c2 with rfl|rfl|rfl<;>first|decide|lia
section
variable{h:Nat}{bs:8#0}(R:bS h w bs)(s:Sm9 h w)
include R s
theorem Y0{F:Fl9}(g:Gd bs F):(ig (lay h bs F)).length<=28:=by obtain⟨A,C,⟨a0,a3⟩,⟨c0,c3⟩,f⟩:=g;have la:=jL R f;unfold ig;rw[(mZ _).length_eq];refine WF (rj [] _) ?_;rw[QZ,U7];unfold e9;rw[oF la.dm (QT a0 R.h0),la.rows,la.dm.wd (QT a0 R.h0)];exact WF (WN (HU R.h0 s.h3 a0 a3) (HU R.w0 s.w3 c0 c3)) (YZ s R.h0 R.w0)
structure Cf(h:Nat)(bs:8#0)(ss there fresh:List Fl9):Prop where
 nd:there.Nodup
 g1:∀F∈there,Gd bs F
 g2:∀F∈fresh,Gd bs F
 st:∀F∈ss,F∈there\/F∈fresh
 cl:∀F∈there,∀p∈e9 (lay h bs F),p∈there\/p∈fresh
end
abbrev f5(A B:D)(there fresh:List Fl9)(o4:Option S):Dl:=[pS A,pS B,pO (c8 (.bl true) there),pO (.lst (fresh.map aa)),o4]
abbrev fT:DT:=aD (au dP 3 (ag (aX aJ)))
abbrev fB:DS:=aA (aE (mX 3) (ah [] 4)) (bA (aD (ax (d_ true) (ae 4) (aq 2))) (aA (fX 2 (ae 4) (eD (.bl true))) (mS 3 (az jl [.val (az gJ [.val (ae 0),.val (ae 4)])]))) bI)
theorem Y1{L:List D}{d:D}{i:Nat}{Y:Dl}(h:Y[i]?=some (pO (.lst (L++[d])))):mX i Y=.ok (.pure d) (Y.set i (pO (.lst L))):=by unfold mX;rw[h];simp
theorem Y2{i:Nat}{f:DE}{Y SL:Dl}{es xs:List D}(e:f Y=.ok (.own (.lst es)) SL)(h:jc Y i=true)(h1:SL[i]?=some (pO (.lst xs)))(hz:xs.length+es.length<=10000000):mS i f Y=.ok .next (SL.set i (pO (.lst (xs++es)))):=by
 have:xs.length+es.length<=W7:=by rw[hU];lia
 simp[mS,h,e,putL,h1,this]
theorem Y3(A B:D)(there fresh:List Fl9)(o4:Option S):fT (f5 A B there fresh o4)=.ok (!decide (fresh=[])) (f5 A B there fresh o4):=e8 (b8 rfl rfl (HL fresh []))
section
variable{h:Nat}{bs:8#0}(R:bS h w bs)(s:Sm9 h w)
include R s
theorem Y4{ss there fresh:List Fl9}{F:Fl9}(c:Cf h bs ss there (fresh++[F]))(l1:there.length<=30000)(l2:fresh.length<=1000000)(B:D)(o4:Option S):∃there' fresh' o4',fB (f5 (aj h w bs) B there (fresh++[F]) o4)=.ok .next (f5 (aj h w bs) B there' fresh' o4')/\Cf h bs ss there' fresh'/\((there'=there/\fresh'=fresh)\/there'.length=there.length+1/\fresh'.length<=fresh.length+28):=by
 have g:=c.g2 F Zw;have e1:aE (mX 3) (ah [] 4) (f5 (aj h w bs) B there (fresh++[F]) o4)=.ok .next (f5 (aj h w bs) B there fresh (pS (aa F))):=cf (Y1 (L:=fresh.map aa) (d:=aa F) (by rw[<-List.map_singleton,<-Qb];rfl)) rfl;have e2:=dw (a:=aA (fX 2 (ae 4) (eD (.bl true))) (mS 3 (az jl [.val (az gJ [.val (ae 0),.val (ae 4)])]))) (b:=bI) (show aD (ax (d_ true) (ae 4) (aq 2)) (f5 (aj h w bs) B there fresh (pS (aa F)))=.ok (!decide (F∈there)) (f5 (aj h w bs) B there fresh (pS (aa F)))from e8 (bK (x:=.pure (aa F)) rfl rfl (rh _ there F).2));by_cases hF:F∈there
 .rw[decide_eq_true hF]at e2;refine⟨there,fresh,_,nz e1 e2,⟨c.nd,c.g1,λx hx=>c.g2 x #v[hx],λx hx=>?_,λx hx p hp=>?_⟩,.inl ⟨rfl,rfl⟩⟩
  .rcases c.st x hx with q|q;.exact .inl q
   .rcases Wu.mp q with q|q;.exact .inr q
    .rw[Ws.mp q];exact .inl hF
  .rcases c.cl x hx p hp with q|q;.exact .inl q
   .rcases Wu.mp q with q|q;.exact .inr q
    .rw[Ws.mp q];exact .inl hF
 .rw[decide_eq_false hF]at e2;have g28:=Y0 R s g;have gd:∀p∈ig (lay h bs F),Gd bs p:=by obtain⟨A,C,⟨a0,a3⟩,⟨c0,c3⟩,f⟩:=g;exactλp hp=>YE (jL R f) (QT a0 R.h0) (QT c0 R.w0) ((uW _ _).mp hp)
  have rg:az jl [.val (az gJ [.val (ae 0),.val (ae 4)])] (f5 (aj h w bs) B (cT there F) fresh (pS (aa F)))=.ok (.own (.lst ((ig (lay h bs F)).map aa))) (f5 (aj h w bs) B (cT there F) fresh (pS (aa F))):=by obtain⟨A,C,⟨a0,a3⟩,⟨c0,c3⟩,f⟩:=g;have la:=jL R f;have h1:=R.h1;have w1:=R.w1;have b1:A*h<=12:=WN a3 h1;have b2:C*w<=12:=WN c3 w1;exact jo (f:=az gJ [.val (ae 0),.val (ae 4)]) (jM rfl rfl (HE R f Y' Y')) (HG la.dm (QT a0 R.h0) Y' Y')
  have e3:fX 2 (ae 4) (eD (.bl true)) (f5 (aj h w bs) B there fresh (pS (aa F)))=.ok .next (f5 (aj h w bs) B (cT there F) fresh (pS (aa F))):=zU (v:=.bl true) (r:=.pure (.bl true)) rfl rfl rfl rfl Y';have e4:=Y2 (i:=3) (xs:=fresh.map aa) rg rfl rfl (by rw[Wq,Wq];lia);rw[<-Qb]at e4;have ad:cT there F=there++[F]:=by unfold cT;rw[if_neg hF]
  refine⟨there++[F],fresh++ig (lay h bs F),_,nz e1 (e2.trans (nz e3 (by rw[ad]at e4⊢;exact e4))),⟨?_,λx hx=>?_,λx hx=>?_,λx hx=>?_,λx hx p hp=>?_⟩,.inr ⟨Zw,by rw[Wy];lia⟩⟩;.exact List.nodup_append.mpr ⟨c.nd,Zw,λa ha b hb e=>hF (by rw[Ws.mp hb]at e;exact e▸ha)⟩
  .rcases Wu.mp hx with q|q;.exact c.g1 x q
   .rw[Ws.mp q];exact g
  .rcases Wu.mp hx with q|q;.exact c.g2 x #v[q]
   .exact gd x q
  .rcases c.st x hx with q|q;.exact .inl #v[q]
   .rcases Wu.mp q with q|q;.exact .inr #v[q]
    .rw[Ws.mp q];exact .inl Zw
  .rcases Wu.mp hx with q|q
   .rcases c.cl x q p hp with q|q;.exact .inl #v[q]
    .rcases Wu.mp q with q|q;.exact .inr #v[q]
     .rw[Ws.mp q];exact .inl Zw
   .rw[Ws.mp q]at hp;exact .inr (Q1 _ ((uW _ _).mpr hp))
theorem HV(h3:bs.length<=3)(ss:List Fl9)(B:D):∀(n:Nat)(there fresh:List Fl9)(o4:Option S),Cf h bs ss there fresh->fresh.length+28*(21300-there.length)<n->n<=1000000->∃there' o4',fU fT fB n (f5 (aj h w bs) B there fresh o4)=.ok .next (f5 (aj h w bs) B there' [] o4')/\Cf h bs ss there' []
 |0,_,_,_,_,h,_=>by lia|n+1,there,fresh,o4,c,hm,hn=>by
  have t:=Y3 (aj h w bs) B there fresh o4;have lt:there.length<=21300:=WF (uX c.nd λx hx=>Aa (c.g1 x hx)) (Ab (~~~h3));rcases List.eq_nil_or_concat fresh with rfl|⟨fr,F,rfl⟩;.exact⟨there,o4,X3 t,c⟩
  .rw[List.concat_eq_append]at*;rw[Wy,QR]at hm;rw[show decide (fr++[F]=[])=false from decide_eq_false Zw]at t;obtain⟨there',fresh',o4',e,c',q⟩:=Y4 R s c Y' Y' B o4;have lt':there'.length<=21300:=WF (uX c'.nd λx hx=>Aa (c'.g1 x hx)) (Ab (~~~h3));rw[X2 t e];refine HV h3 ss B n there' fresh' o4' c' ?_ Y';rcases q with⟨rfl,rfl⟩|⟨q1,q2⟩<;>lia
theorem HW(h3:bs.length<=3){ss:List Fl9}(g:∀F∈ss,Gd bs F)(hs:ss.length<=10):∃ks:List Fl9,kA [.pure (aj h w bs),.pure (.lst (ss.map aa))]=some (.own (.lst (ks.map aa)),[.pure (aj h w bs),.pure (.lst (ss.map aa))])/\(∀k∈ks,Gd bs k)/\ks.Pairwise Lt/\(∀k∈ss,k∈ks)/\(∀F∈ks,cy h bs ks F)/\ks.length<=21300:=by
 obtain⟨there,o4,e,c⟩:=HV R s h3 ss (.lst (ss.map aa)) 1000000 [] ss none ⟨.nil,nofun,g,λF hF=>.inr hF,nofun⟩ Zx (W5 _);have lt:there.length<=21300:=WF (uX c.nd λx hx=>Aa (c.g1 x hx)) (Ab (~~~h3));have so:=uV (λk hk=>(c.g1 k hk).ne) (show there.length<=1000000 by lia);have pm:=mZ there;have mem:∀x,x∈eC there↔x∈there:=λx=>pm.mem_iff;refine⟨eC there,iO (nz (SL:=[pS (aj h w bs),pS (.lst (ss.map aa)),pO (c8 (.bl true) []),none,none]) rfl (nz (SL:=f5 (aj h w bs) (.lst (ss.map aa)) [] ss none) rfl (nz e (rt (cE (cF rfl (HF _ _)) so))))),λk hk=>c.g1 k ((mem k).mp hk),?_,λk hk=>?_,λF hF p hp=>?_,%[pm.length_eq|lt]⟩;.exact uT.mp ⟨uw (.refl _) (xS there),pm.nodup_iff.mpr c.nd⟩
 .rcases c.st k hk with q|q;.exact(mem k).mpr q
  .cases q
 .rcases c.cl F ((mem F).mp hF) p hp with q|q;.exact(mem p).mpr q
  .cases q
end
theorem HX{α:Type}(xs:List α):br xs none (some 2)=(xs.drop 0).take 2:=by unfold br Lake.aO;simp only[List.drop_zero,Us];rw[if_neg Y'];match xs with|[]=>rfl|[_]=>rfl|_::_::_=>simp
theorem Y5{h w:Nat}{bs:8#0}(R:bS h w bs)(h2:2<=h)(w2:2<=w):bS 2 2 (bs.map λb=>(b.1,cut b.2 0 0 2 2)):=by
 have e:(bs.map λb=>(b.1,cut b.2 0 0 2 2)).map (·.1)=bs.map (·.1):=by rw[Q9];rfl
 refine⟨Z',Z',Z',Z',Z',~~~R.n0,~~~R.n1,%[e|R.up],λb hb=>?_,λb hb=>?_⟩;.obtain⟨c,hc,rfl⟩:=WH.mp hb;exact R.t9 c hc
 .obtain⟨c,hc,rfl⟩:=WH.mp hb;have k:=R.cW c hc;have f:fO bs h w c.2:=⟨k.1,λr hr=>(k.2 r hr).1,λr hr=>(k.2 r hr).2⟩;have g:=q_ f (i:=0) (j:=0) (r:=2) (c:=2) Y' Y';rw[e];exact⟨g.rows,λr hr=>⟨g.cols r hr,g.tl r hr⟩⟩
theorem HY{i:Nat}{r:S}(hi:Y[i]?=some (some v))(e:cJ none (some 2) v.d=some r):bj i bE (aV 3#2) Y=.ok r Y:=#v[bj,bE,aV,hi,aq,e]
abbrev s6(pd ru:D)(o2 o3 o4:Option S):Dl:=[pO pd,pS ru,o2,o3,o4,none]
theorem Y6{pd:D}(hp:cq pd):∃(h w:Nat)(bs:8#0)(bh:D),ot [.own pd]=some (.pure (aj h w bs),[.own bh])/\bS h w bs/\Sm9 h w/\bs.length<=3/\cq bh:=by
 obtain⟨h,w,bs,pd1,e1,R,l3,p1,h7⟩:=XQ hp 3 Z' Z';have h1:=R.h1;have w1:=R.w1;have h0:=R.h0;have w0:=R.w0;have x0:=(iM h w bs).1;have x1:=(iM h w bs).2.1;have x2:=(iM h w bs).2.2;have mu:iA (.int (h:Nat)) (.int (w:Nat))=pS (.int ((h*w:Nat):Int)):=by exact mul_int (h:Int) (w:Int) Y' Y'
 have lt:fH (.int ((h*w:Nat):Int)) (.int 7)=pS (.bl (decide (h*w<7))):=by rw[show fH (.int ((h*w:Nat):Int)) (.int 7)=pS (.bl (decide (((h*w:Nat):Int)<7)))from rfl];rw[show decide (((h*w:Nat):Int)<7)=decide (h*w<7)from decide_eq_decide.mpr Y']
 have s1:aE (az oq [.io 0,.val 3#3]) (ah [0] 1) [pO pd,none,none,none,none,none]=.ok .next [pO pd1,pS (aj h w bs),none,none,none,none]:=cf (nh rfl rfl e1) rfl;have s2:aD (ax fH (ax iA (au aC 1 1#0) (ag (au aC 1 1#1))) 1#7) (s6 pd1 (aj h w bs) none none none)=.ok (decide (h*w<7)) (s6 pd1 (aj h w bs) none none none):=e8 (bK (bK (b8 rfl rfl x0) (c7 (b8 rfl rfl x1)) mu) rfl lt);by_cases q:h*w<7;.rw[decide_eq_true q]at s2;exact⟨h,w,bs,pd1,gR (nz s1 (fN ((dw s2).trans rfl))) rfl rfl,R,⟨(h7 q).1,(h7 q).2,q⟩,l3,p1⟩
 .rw[decide_eq_false q]at s2;have h2:2<=h:=by
   rcases Nat.lt_or_ge 1 h with z|z;.exact z
   .have:=WN z w1;lia
  have w2:2<=w:=by
   rcases Nat.lt_or_ge 1 w with z|z;.exact z
   .have:=WN h1 z;lia
  have R2:=Y5 R h2 w2;have c:bb [3,4] (aR (au aC 1 1#2)) (iC 2 (fo (ah [0] 3) (fo (ah [0] 4) jy))) bw (cp (aw (ae 3) (aw (ay dk (ag (bb [5] (aR (bj 4 bE (aV 3#2))) (ah [0] 5) bw (bj 5 bE (aV 3#2))))) aJ))) (s6 pd1 (aj h w bs) none none none)=.ok (.own (.lst (bs.map λb:Nat×List Tx=>dG (b.1,cut b.2 0 0 2 2)))) (s6 pd1 (aj h w bs) none none none):=cM dG (λb=>dG (b.1,cut b.2 0 0 2 2)) (SL:=s6 pd1 (aj h w bs) none none none) (e_ (b8 rfl rfl x2) (.inl rfl)) Y' λb hb=>by
   have k:=R.cW b hb;have i:bb [5] (aR (bj 4 bE (aV 3#2))) (ah [0] 5) bw (bj 5 bE (aV 3#2)) (s6 pd1 (aj h w bs) none (pS (.str [b.1])) (pS (aa b.2)))=.ok (.own (.lst ((cut b.2 0 0 2 2).map .str))) (s6 pd1 (aj h w bs) none (pS (.str [b.1])) (pS (aa b.2))):=by have z:=cS (f:=.str) (λx=>.str ((x.drop 0).take 2)) (as:=(b.2.drop 0).take 2) (it:=aR (bj 4 bE (aV 3#2))) (el:=bj 5 bE (aV 3#2)) (np:=[0]) (j:=5) (Y:=s6 pd1 (aj h w bs) none (pS (.str [b.1])) (pS (aa b.2))) (e_ (HY (v:=.pure (aa b.2)) (r:=.pure (.tup (((b.2.drop 0).take 2).map .str))) rfl (by show some (S.pure (.tup (br _ _ _)))=_;rw[HX,Uk,Ul])) (.inl rfl)) Zx λx hx=>HY (v:=.pure (.str x)) rfl (by have hl:=(k.2 x (Qx (Ql hx))).1;show(if x.length<=W7 then some (S.pure (.str (br x _ _)))else none)=_;rw[if_pos (by rw[hU];lia),HX]);rw[z];unfold cut;rw[Q9];rfl
   exact⟨s6 pd1 (aj h w bs) none (pS (.str [b.1])) (pS (aa b.2)),_,_,_,rfl,rfl,G6 (dI (v:=.pure (.str [b.1])) rfl (G5 (cE i rfl) rfl rfl)),rfl,rfl⟩
  have tp:dk (.lst (bs.map λb:Nat×List Tx=>dG (b.1,cut b.2 0 0 2 2)))=pS (.tup ((bs.map λb=>(b.1,cut b.2 0 0 2 2)).map dG)):=by rw[Q9];rfl
  refine⟨2,2,_,pd1,gR (nz s1 (iN s2 (nz (SL:=s6 pd1 (aj h w bs) (pO (.lst (bs.map λb:Nat×List Tx=>dG (b.1,cut b.2 0 0 2 2)))) none none) (cf c rfl) (rt (G6 (dI (v:=.pure (.int 2)) rfl (dI (v:=.pure (.int 2)) rfl (G5 (cF (v:=.own (.lst (bs.map λb:Nat×List Tx=>dG (b.1,cut b.2 0 0 2 2)))) rfl tp) rfl rfl)))))))) rfl rfl,R2,⟨Z',Z',Z'⟩,~~~l3,p1⟩
abbrev sf(pd ru:D)(ts:List Nat)(w:Nat)(fl:Fl9)(o5:Option S):Dl:=[pO pd,pS ru,pO (.lst (ts.map cg)),pS (.int w),pO (.lst (fl.map .str)),o5,none]
abbrev Ac:DE:=au aC 2 (ag (az cQ [.io 0,.val (ay aP (aq 2))]))
theorem rn{p:D->D->Option S}{i:Nat}{g:BE}{Y SL:Dl}{v r:S}{d:D}(e0:∃u,Y[i]?=some (some u))(e2:g Y=.ok d SL)(e1:SL[i]?=some (some v))(h:p v.d d=some r):au p i g Y=.ok r SL:=by obtain⟨u,e0⟩:=e0;simp[au,dY,e0,e1,e2,h,aq]
theorem Y7{ru:D}{ts:List Nat}(nc:0<ts.length)(jC:ts.length<=26){w:Nat}(hw:w<=3){fl:Fl9}(hf:fl.length<=100){o5:Option S}{pd:D}(hp:cq pd):∃(x:Tx)(bh:D),dt 4 (ay (dQ []) (ag (bb [6] (cb (ae 3)) (ah [0] 6) bw Ac))) (sf pd ru ts w fl o5)=.ok .next (sf bh ru ts w (fl++[x]) o5)/\(x.length=w/\∀n∈x,n∈ts)/\cq bh:=by
 obtain⟨xs,P3,e1,⟨bh,cm,rfl⟩,hn,hx⟩:=cI (cs:=[6]) (it:=cb (ae 3)) (g:=ah [0] 6) (t:=bw) (el:=Ac) (Y:=sf pd ru ts w fl o5) (lW rfl rfl Y') Zx (λY=>∃pd,cq pd/\Y=sf pd ru ts w fl o5) (λj x=>∃n,n∈ts/\x=sD n) ⟨pd,hp,rfl⟩ λi _ Y⟨pd,hp,e1⟩=>by
  subst e1;obtain⟨r,d',g,l,p⟩:=lX hp ts.length nc Y';have ln:aP (.lst (ts.map cg))=pS (.int (ts.length:Nat)):=#v[aP];have hx:aC (.lst (ts.map cg)) (.int (r:Nat))=pS (sD ts[r]):=by simp only[aC];rw[ji,WD,W4 l];rfl
  refine⟨(sf pd ru ts w fl o5).set 6 (pS i),_,.pure (sD ts[r]),(sf d' ru ts w fl o5).set 6 (pS i),rfl,rfl,rn (v:=.own (.lst (ts.map cg))) ⟨_,rfl⟩ (c7 (nh (cF rfl ln) rfl g)) rfl hx,⟨d',p,rfl⟩,ts[r],WU l,rfl⟩
 obtain⟨x,rfl,hxt⟩:=xB (xC hn hx λj j j h=>h);simp at hn;refine⟨x,bh,?_,⟨hn,hxt⟩,cm⟩;rw[show sf bh ru ts w (fl++[x]) o5=(sf bh ru ts w fl o5).set 4 (pO (.lst (fl.map .str++[.str x])))by unfold sf;rw[Qb];rfl];exact uK (v:=.pure (.str x)) (cE e1 (Ei x Y')) rfl rfl (by simpa using by lia)
theorem HZ{h w:Nat}{bs:8#0}(R:bS h w bs):0<(bs.map (·.1)).length/\(bs.map (·.1)).length<=26:=by have:=R.n0;have:=R.n1;rw[Wq];lia
theorem H_{h w:Nat}{bs:8#0}(R:bS h w bs){pd:D}(hp:cq pd):∃(F:Fl9)(bh:D),lT [.own pd,.pure (aj h w bs)]=some (.pure (aa F),[.own bh,.pure (aj h w bs)])/\Gd bs F/\cq bh:=by
 obtain⟨t0,t26⟩:=HZ R;have rm:=qX R;generalize jC:bs.map (·.1)=ts at*;obtain⟨r1,pd1,e1,l1,p1⟩:=oA hp 3 3 rfl Z' Z';obtain⟨r2,pd2,e2,l2,p2⟩:=oA p1 3 3 rfl Z' Z';have a1:aF (.int 1) (.int (r1:Nat))=pS (.int ((1+r1:Nat):Int)):=by rw[add_int];congr 3
 have a2:aF (.int 1) (.int (r2:Nat))=pS (.int ((1+r2:Nat):Int)):=by rw[add_int];congr 3
 obtain⟨P3,e,pd3,fl,o5,p3,hl,hf,rfl⟩:=forA (λi:Nat=>D.int i) (g:=ah [0] 5) (b:=dt 4 (ay (dQ []) (ag (bb [6] (cb (ae 3)) (ah [0] 6) bw Ac)))) (λas Y=>∃(pd:D)(fl:Fl9)(o5:Option S),cq pd/\fl.length+as.length=1+r2/\(∀r∈fl,r.length=1+r1/\∀n∈r,n∈ts)/\Y=sf pd (aj h w bs) ts (1+r1) fl o5) (λi as Y hh=>by obtain⟨pd,fl,o5,hp,hl,hf,e⟩:=hh;subst e;rw[WE]at hl;obtain⟨x,bh,e,hx,cm⟩:=Y7 (ru:=aj h w bs) t0 t26 (w:=1+r1) Y' (fl:=fl) Y' (o5:=pS (.int i)) hp;exact⟨_,rfl,λy hy=>⟨_,hy.symm.trans e,bh,_,_,cm,by rw[Wy,QR];lia,λr hr=>(Wu.mp hr).elim (hf r) λhr=>Ws.mp hr▸hx,rfl⟩⟩) (Wl (1+r2)) (sf pd2 (aj h w bs) ts (1+r1) [] none) ⟨pd2,[],none,p2,Zw,nofun,rfl⟩;have hl:fl.length=1+r2:=hl;refine⟨fl,pd3,gR (nz (SL:=[pO pd,pS (aj h w bs),pO (.lst (ts.map cg)),none,none,none,none]) (cf (jo rfl rm) rfl) (nz (SL:=[pO pd1,pS (aj h w bs),pO (.lst (ts.map cg)),pS (.int ((1+r1:Nat):Int)),none,none,none]) (cf (bK (x:=.pure (.int 1)) rfl (c7 (nh rfl rfl e1)) a1) rfl) (nz (SL:=sf pd1 (aj h w bs) ts (1+r1) [] none) rfl (nz ((dH (lW (w:=1+r2) (bK (x:=.pure (.int 1)) rfl (c7 (nh (Y:=sf pd1 (aj h w bs) ts (1+r1) [] none) rfl rfl e2)) a2) rfl Y')).trans e) (rt (cF rfl rfl)))))) rfl rfl,⟨1+r2,1+r1,⟨Y',Y'⟩,⟨Y',Y'⟩,hl,λr hr=>(hf r hr).1,λr hr n hn=>by rw[jC];exact(hf r hr).2 n hn⟩,p3⟩
theorem Ia{x:D}{K:List D}{lo hi:Option Int}(h:x∈br K lo hi):x∈K:=by unfold br at h;exact Qx (Ql h)
theorem Ib(K:List D)(lo hi:Option Int):(br K lo hi).length<=K.length:=by unfold br;simp;lia
abbrev o9(pd ru K r:D)(F:Fl9)(o5 o6 o7:Option S):Dl:=[pO pd,pS ru,pS K,pS r,pS (aa F),o5,o6,o7,none]
theorem ik{h w:Nat}{bs:8#0}{es:List D}(hl:es.length<=50000)(he:∀d∈es,Et h w bs d):Th h w bs (.lst es):=.inr ⟨es,rfl,hl,he⟩
theorem Y8{h w:Nat}{bs:8#0}(R:bS h w bs){ks:List Fl9}(g:∀k∈ks,Gd bs k)(h0:0<ks.length)(hl:ks.length<=21300){pd:D}(hp:cq pd):∃(d bh:D),lU [.own pd,.pure (aj h w bs),.pure (.lst (ks.map aa))]=some (.pure d,[.own bh,.pure (aj h w bs),.pure (.lst (ks.map aa))])/\Th h w bs d/\cq bh:=by
 obtain⟨r,pd1,e1,l1,p1⟩:=lX hp ks.length h0 Y';obtain⟨o,pd2,e2,go,p2⟩:=H_ R p1;have gF:=g ks[r] (WU l1);have ln:aP (.lst (ks.map aa))=pS (.int (ks.length:Nat)):=#v[aP];have x0:aC (.lst (ks.map aa)) (.int (r:Nat))=pS (aa ks[r]):=by simp only[aC];rw[ji,WD,W4 l1];rfl
 generalize ks[r]=F at*;have Ad:=add_int (r:Int) 1;have so:=uV (ks:=ks++[o]) (λk hk=>by
 rcases Wu.mp hk with q|q;.exact(g k q).ne
 .rw[Ws.mp q];exact go.ne) Zx;rw[Qb]at so;have Ae:∀d∈(eC (ks++[o])).map aa,Et h w bs d:=λd hd=>by
  obtain⟨k,hk,rfl⟩:=WH.mp hd;rcases Wu.mp ((mZ _).mem_iff.mp hk)with q|q;.exact .inl ⟨k,g k q,rfl⟩
  .rw[Ws.mp q];exact .inl ⟨o,go,rfl⟩
 have Af:((eC (ks++[o])).map aa).length<=50000:=by rw[Wq,(mZ _).length_eq,Wy,QR];lia
 have eK:∀d∈ks.map aa,Et h w bs d:=λd hd=>by obtain⟨k,hk,rfl⟩:=WH.mp hd;exact .inl ⟨k,g k hk,rfl⟩
 have eo:Et h w bs (aa o):=.inl ⟨o,go,rfl⟩;have lK:(ks.map aa).length<=21300:= ~~~hl;have a:∀lo hi,(br (ks.map aa) lo hi).length<=21300/\∀d∈br (ks.map aa) lo hi,Et h w bs d:=λlo hi=>⟨WF (Ib _ _ _) lK,λd hd=>eK d (Ia hd)⟩;have t4:aF (aa F) (aa F)=pS (aa (F++F))/\aF (aa (F++F)) (aa F)=pS (aa (F++F++F))/\aF (aa (F++F++F)) (aa F)=pS (aa (F++F++F++F)):=by obtain⟨A,C,⟨a0,a3⟩,_,f⟩:=gF;have:=f.rows;refine⟨?_,?_,?_⟩<;>rw[GV _ _ Zx]<;>rw[<-Qb]
 have n4:=YY R gF;have b1:∀(K:List D),K=ks.map aa->cJ none (some (r:Int)) (.lst K)=pO (.lst (br K none (some (r:Int)))):=λj j=>rfl;obtain⟨A1,hA1⟩:∃A1,A1=br (ks.map aa) none (some (r:Int)):=⟨_,rfl⟩;obtain⟨A2,hA2⟩:∃A2,A2=br (ks.map aa) (some ((r:Int)+1)) none:=⟨_,rfl⟩;obtain⟨A3,hA3⟩:∃A3,A3=br (ks.map aa) none (some ((r:Int)+1)):=⟨_,rfl⟩;obtain⟨A4,hA4⟩:∃A4,A4=br (ks.map aa) (some (r:Int)) none:=⟨_,rfl⟩;have s1:cJ none (some (r:Int)) (.lst (ks.map aa))=pO (.lst A1):=by rw[hA1];rfl
 have s2:cJ (some ((r:Int)+1)) none (.lst (ks.map aa))=pO (.lst A2):=by rw[hA2];rfl
 have s3:cJ none (some ((r:Int)+1)) (.lst (ks.map aa))=pO (.lst A3):=by rw[hA3];rfl
 have s4:cJ (some (r:Int)) none (.lst (ks.map aa))=pO (.lst A4):=by rw[hA4];rfl
 have m1:=a none (some (r:Int));rw[<-hA1]at m1;have m2:=a (some ((r:Int)+1)) none;rw[<-hA2]at m2;have m3:=a none (some ((r:Int)+1));rw[<-hA3]at m3;have m4:=a (some (r:Int)) none;rw[<-hA4]at m4;clear hA1 hA2 hA3 hA4 a b1;obtain⟨SO,hSO⟩:∃SO,SO=(eC (ks++[o])).map aa:=⟨_,rfl⟩;rw[<-hSO]at Ae Af so;clear hSO;obtain⟨O1,hO1⟩:∃O1:List D,O1=[.lst (F.map .str),.str [97],.aI,.tup [],.tup [.str []],.tup [.str [49]]]++[.tup [.str [65]],aa (F++F++F++F),.tup [.str [97,98],.str [97]],.tup [.int 0],.int 7]:=⟨_,rfl⟩;have mO:∀d∈O1,Et h w bs d:=λd hd=>by
  rw[hO1]at hd;simp only[Wu,Wi,Jy,or_false]at hd;rcases hd with(rfl|rfl|rfl|rfl|rfl|rfl)|(rfl|rfl|rfl|rfl|rfl);.exact .inr (YQ _)
  .exact .inr (YR _)
  .exact .inr YS
  .exact .inr YU
  .exact .inr YV
  .exact .inr (HR R Z')
  .exact .inr (HR R Z')
  .exact .inr n4
  .exact .inr YW
  .exact .inr YX
  .exact .inr (YT _)
 have lO:O1.length=11:=by rw[hO1];rfl
 generalize hK:ks.map aa=K at*;obtain⟨S1,hS1⟩:∃S1:List D,S1=[.lst (A1++A2),.lst (A3++A4)]++[.lst K.reverse,.tup K]++[.lst SO,.lst (K++[aa o]),.lst (A1++[aa o]++A2)]++[.aI,.lst [],.bP []]:=⟨_,rfl⟩;have lS:S1.length=10:=by rw[hS1];rfl
 have tS:∀d∈S1,Th h w bs d:=λd hd=>by
  rw[hS1]at hd;simp only[Wu,Wi,Jy,or_false]at hd;have two:∀{x y:List D},(x.length<=21300/\∀d∈x,Et h w bs d)->(y.length<=21300/\∀d∈y,Et h w bs d)->Th h w bs (.lst (x++y)):=λhx hy=>ik (by rw[Wy];lia) λd hd=>(Wu.mp hd).elim (hx.2 d) (hy.2 d);have one:[aa o].length<=21300/\∀d∈[aa o],Et h w bs d:=⟨Zw,λd hd=>%[Ws.mp hd|eo]⟩;rcases hd with((((rfl|rfl)|(rfl|rfl))|(rfl|rfl|rfl))|(rfl|rfl|rfl));.exact two m1 m2
  .exact two m3 m4
  .exact ik (by rw[JY];lia) λd hd=>eK d (List.mem_reverse.mp hd)
  .exact .inl rfl
  .exact ik Af Ae
  .exact two ⟨lK,eK⟩ one
  .exact ik (by simp only[Wy,QR];lia) λd hd=>by
    rcases Wu.mp hd with q|q
    .rcases Wu.mp q with q|q;.exact m1.2 d q
     .exact one.2 d q
    .exact m2.2 d q
  .exact .inl rfl
  .exact ik Zw nofun
  .exact .inl rfl
 obtain⟨S2,hS2⟩:∃S2:List D,S2=S1++O1.map λone=>.lst (A1++[one]++A2):=⟨_,rfl⟩;have Ic:∀d∈S2,Th h w bs d:=λd hd=>by
  rw[hS2]at hd;rcases Wu.mp hd with q|q;.exact tS d q
  .obtain⟨e,he,rfl⟩:=WH.mp q;exact ik (by simp only[Wy,QR];lia) λd hd=>by
    rcases Wu.mp hd with q|q
    .rcases Wu.mp q with q|q;.exact m1.2 d q
     .rw[Ws.mp q];exact mO e he
    .exact m2.2 d q
 have lS2:S2.length=21:=by rw[hS2,Wy,Wq,lS,lO]
 obtain⟨i,pd3,e3,l3,p3⟩:=lX p2 S2.length Y' Y';obtain⟨e,he,x3⟩:=Hb S2 i l3;refine⟨e,pd3,?_,Ic e he,p3⟩;have ln2:aP (.lst S2)=pS (.int (S2.length:Nat)):=#v[aP];have u1:aF (.lst A1) (.lst A2)=pO (.lst (A1++A2)):=gM _ _ Y';have u2:aF (.lst A3) (.lst A4)=pO (.lst (A3++A4)):=gM _ _ Y';have u3:aF (.lst K) (.lst [aa o])=pO (.lst (K++[aa o])):=gM _ _ Zx;have u4:∀d,aF (.lst A1) (.lst [d])=pO (.lst (A1++[d])):=λd=>gM _ _ Zx;have u5:∀d,aF (.lst (A1++[d])) (.lst A2)=pO (.lst (A1++[d]++A2)):=λd=>gM _ _ Zx;have so:iJ (.lst (K++[aa o]))=pO (.lst SO):=so;clear m1 m2 m3 m4 Ae Af eK eo n4 mO tS Ic lK;unfold lU Ga;have T1:∀o5 o6 o7,bj 2 bE (aV (ae 3)) (o9 pd2 (aj h w bs) (.lst K) (.int r) F o5 o6 o7)=.ok (.own (.lst A1)) (o9 pd2 (aj h w bs) (.lst K) (.int r) F o5 o6 o7):=λj j j=>zE (v:=.pure (.lst K)) rfl rfl s1;have T2:∀o5 o6 o7,bj 2 (aV (au aF 3 1#1)) bE (o9 pd2 (aj h w bs) (.lst K) (.int r) F o5 o6 o7)=.ok (.own (.lst A2)) (o9 pd2 (aj h w bs) (.lst K) (.int r) F o5 o6 o7):=λj j j=>zF (v:=.pure (.lst K)) rfl (b8 rfl rfl Ad) s2;have T3:∀o5 o6 o7,bj 2 bE (aV (au aF 3 1#1)) (o9 pd2 (aj h w bs) (.lst K) (.int r) F o5 o6 o7)=.ok (.own (.lst A3)) (o9 pd2 (aj h w bs) (.lst K) (.int r) F o5 o6 o7):=λj j j=>zE (v:=.pure (.lst K)) rfl (b8 rfl rfl Ad) s3;have T4:∀o5 o6 o7,bj 2 (aV (ae 3)) bE (o9 pd2 (aj h w bs) (.lst K) (.int r) F o5 o6 o7)=.ok (.own (.lst A4)) (o9 pd2 (aj h w bs) (.lst K) (.int r) F o5 o6 o7):=λj j j=>zF (v:=.pure (.lst K)) rfl rfl s4;have Ag:∀{x y:List D}{f:DE}{o5 o7:Option S},f (o9 pd2 (aj h w bs) (.lst K) (.int r) F o5 (pO (.lst x)) o7)=.ok (.own (.lst y)) (o9 pd2 (aj h w bs) (.lst K) (.int r) F o5 (pO (.lst x)) o7)->x.length+y.length<=100->aE (au aF 6 (ag f)) (ah [0] 6) (o9 pd2 (aj h w bs) (.lst K) (.int r) F o5 (pO (.lst x)) o7)=.ok .next (o9 pd2 (aj h w bs) (.lst K) (.int r) F o5 (pO (.lst (x++y))) o7):=λe hl=>cf (b8 rfl (c7 e) (gM _ _ Y')) rfl;have sp:∀(d:D)(f:DE)(o5 o6 o7:Option S)(Y:Dl),Y=o9 pd2 (aj h w bs) (.lst K) (.int r) F o5 o6 o7->True:=λj j j j j j j=>trivial;have qo:aE (aX (aw (ax aF (bj 2 bE (aV (ae 3))) (ag (bj 2 (aV (au aF 3 1#1)) bE))) (aw (ax aF (bj 2 bE (aV (au aF 3 1#1))) (ag (bj 2 (aV (ae 3)) bE))) aJ))) (ah [0] 6) (o9 pd2 (aj h w bs) (.lst K) (.int r) F (pS (aa o)) none none)=.ok .next (o9 pd2 (aj h w bs) (.lst K) (.int r) F (pS (aa o)) (pO (.lst [.lst (A1++A2),.lst (A3++A4)])) none):=cf (kD (dI (v:=.own (.lst (A1++A2))) (bK (T1 _ _ _) (c7 (T2 _ _ _)) u1) (dI (v:=.own (.lst (A3++A4))) (bK (T3 _ _ _) (c7 (T4 _ _ _)) u2) rfl))) rfl;have pj:=Ag (x:=[.lst (A1++A2),.lst (A3++A4)]) (y:=[.lst K.reverse,.tup K]) (f:=aX (aw (ay jf (aq 2)) (aw (ay dk (aq 2)) aJ))) (o5:=pS (aa o)) (o7:=none) (kD (dI (v:=.own (.lst K.reverse)) (cF rfl rfl) (dI (v:=.pure (.tup K)) (cF rfl rfl) rfl))) Zw;have Y9:=Ag (x:=[.lst (A1++A2),.lst (A3++A4)]++[.lst K.reverse,.tup K]) (y:=[.lst SO,.lst (K++[aa o]),.lst (A1++[aa o]++A2)]) (f:=aX (aw (ay iJ (ag (au aF 2 (ag (aX (aw (ae 5) aJ)))))) (aw (au aF 2 (ag (aX (aw (ae 5) aJ)))) (aw (ax aF (ax aF (bj 2 bE (aV (ae 3))) (ag (aX (aw (ae 5) aJ)))) (ag (bj 2 (aV (au aF 3 1#1)) bE))) aJ)))) (o5:=pS (aa o)) (o7:=none) (kD (dI (v:=.own (.lst SO)) (cE (b8 (v:=.pure (.lst K)) rfl rfl u3) so) (dI (v:=.own (.lst (K++[aa o]))) (b8 (v:=.pure (.lst K)) rfl rfl u3) (dI (v:=.own (.lst (A1++[aa o]++A2))) (bK (bK (T1 _ _ _) rfl (u4 (aa o))) (c7 (T2 _ _ _)) (u5 (aa o))) rfl)))) Zw;have Ie:=Ag (x:=[.lst (A1++A2),.lst (A3++A4)]++[.lst K.reverse,.tup K]++[.lst SO,.lst (K++[aa o]),.lst (A1++[aa o]++A2)]) (y:=[.aI,.lst [],.bP []]) (f:=aX (aw (eD .aI) (aw (aX aJ) (aw mE aJ)))) (o5:=pS (aa o)) (o7:=none) rfl Zw;rw[<-hS1]at Ie;have Y_:aE (aX (aw (ay nR (aq 4)) (aw (eD (.str [97])) (aw (eD .aI) (aw (cp aJ) (aw (eD (.tup [.str []])) (aw (eD (.tup [.str [49]])) aJ))))))) (ah [0] 7) (o9 pd2 (aj h w bs) (.lst K) (.int r) F (pS (aa o)) (pO (.lst S1)) none)=.ok .next (o9 pd2 (aj h w bs) (.lst K) (.int r) F (pS (aa o)) (pO (.lst S1)) (pO (.lst [.lst (F.map .str),.str [97],.aI,.tup [],.tup [.str []],.tup [.str [49]]]))):=rfl;have Za:aE (au aF 7 (ag (aX (aw (eD (.tup [.str [65]])) (aw (ax aF (ax aF (au aF 4 (aq 4)) (aq 4)) (aq 4)) (aw (eD (.tup [.str [97,98],.str [97]])) (aw (eD (.tup [.int 0])) (aw 3#7 aJ)))))))) (ah [0] 7) (o9 pd2 (aj h w bs) (.lst K) (.int r) F (pS (aa o)) (pO (.lst S1)) (pO (.lst [.lst (F.map .str),.str [97],.aI,.tup [],.tup [.str []],.tup [.str [49]]])))=.ok .next (o9 pd2 (aj h w bs) (.lst K) (.int r) F (pS (aa o)) (pO (.lst S1)) (pO (.lst O1))):=cf (b8 rfl (c7 (kD (dI (v:=.pure (.tup [.str [65]])) rfl (dI (v:=.pure (aa (F++F++F++F))) (bK (bK (b8 (v:=.pure (aa F)) rfl rfl t4.1) rfl t4.2.1) rfl t4.2.2) (dI (v:=.pure (.tup [.str [97,98],.str [97]])) rfl (dI (v:=.pure (.tup [.int 0])) rfl (dI (v:=.pure (.int 7)) rfl rfl))))))) %[hO1|gM _ _ Zw]) rfl;have cc:bb [8] (aR (ae 7)) (ah [0] 8) bw (ax aF (ax aF (bj 2 bE (aV (ae 3))) (ag (aX (aw (ae 8) aJ)))) (ag (bj 2 (aV (au aF 3 1#1)) bE))) (o9 pd2 (aj h w bs) (.lst K) (.int r) F (pS (aa o)) (pO (.lst S1)) (pO (.lst O1)))=.ok (.own (.lst (O1.map λone=>.lst (A1++[one]++A2)))) (o9 pd2 (aj h w bs) (.lst K) (.int r) F (pS (aa o)) (pO (.lst S1)) (pS (.lst O1))):=nt (λd=>d) (λone=>.lst (A1++[one]++A2)) (np:=[0]) (Y:=o9 pd2 (aj h w bs) (.lst K) (.int r) F (pS (aa o)) (pO (.lst S1)) (pS (.lst O1))) %[List.map_id'|e_ (v:=.pure (.lst O1)) rfl (.inr rfl)] Y' (λd hd=>⟨.own (.lst (A1++[d]++A2)),bK (bK (zE (v:=.pure (.lst K)) rfl rfl s1) rfl (u4 d)) (c7 (zF (v:=.pure (.lst K)) rfl (b8 rfl rfl Ad) s2)) (u5 d),rfl⟩) ⟨none,rfl,nofun⟩;have Zb:aE (au aF 6 (ag (bb [8] (aR (ae 7)) (ah [0] 8) bw (ax aF (ax aF (bj 2 bE (aV (ae 3))) (ag (aX (aw (ae 8) aJ)))) (ag (bj 2 (aV (au aF 3 1#1)) bE)))))) (ah [0] 6) (o9 pd2 (aj h w bs) (.lst K) (.int r) F (pS (aa o)) (pO (.lst S1)) (pO (.lst O1)))=.ok .next (o9 pd2 (aj h w bs) (.lst K) (.int r) F (pS (aa o)) (pO (.lst S2)) (pS (.lst O1))):=cf (rn (v:=.own (.lst S1)) ⟨_,rfl⟩ (c7 cc) rfl %[hS2|gM _ _ (by rw[Wq];lia)]) rfl;exact gR (nz (SL:=[pO pd1,pS (aj h w bs),pS (.lst K),pS (.int r),none,none,none,none,none]) (cf (nh (cF rfl ln) rfl e1) rfl) (nz (SL:=o9 pd1 (aj h w bs) (.lst K) (.int r) F none none none) (cf (b8 rfl rfl x0) rfl) (nz (SL:=o9 pd2 (aj h w bs) (.lst K) (.int r) F (pS (aa o)) none none) (cf (nh rfl rfl e2) rfl) (nz qo (nz pj (nz Y9 (nz Ie (nz Y_ (nz Za (nz Zb (rt (rn (v:=.own (.lst S2)) ⟨_,rfl⟩ (c7 (nh (cF rfl ln2) rfl e3)) rfl x3)))))))))))) rfl rfl
section
variable{ce:Tx->Nat}
theorem Zc(fl:D)(tab:Tx->Bool)(rest:Dl):fL ce ys tab (aq 0) (0#(.exc (ce [78,111,84,105,108,101]) fl)::rest)=.ok (.pure (.bl (tab [78,111,84,105,108,101]))) (0#(.exc (ce [78,111,84,105,108,101]) fl)::rest):=by simp[fL,aq,ys]
theorem Zd(fl:D):ou ce [.pure (.exc (ce [78,111,84,105,108,101]) fl)]=some (.pure (.str [116,105,108,101]),[.pure (.exc (ce [78,111,84,105,108,101]) fl)]):=by have I:=λtab rest=>Zc (ce:=ce) fl tab rest;rw[ou,Gb];generalize D.exc (ce [78,111,84,105,108,101]) fl=X at*;have p2:∀{f g:DE}{a b:Bool}{r:Dl},f (pS X::r)=.ok (.pure (.bl a)) (pS X::r)->g (pS X::r)=.ok (.pure (.bl b)) (pS X::r)->aX (aw f (aw g aJ)) (pS X::r)=.ok (.own (.lst [.bl a,.bl b])) (pS X::r):=λh k=>kD (dI h (dI k rfl));exact oC (nz (SL:=[pS X,pO (.lst [.bl false,.bl false]),none]) (cf (p2 (I _ _) (I _ _)) rfl) (nz (SL:=[pS X,pO (.lst [.bl false,.bl false,.bl false,.bl false]),none]) (cf (b8 rfl (c7 (p2 (I _ _) (I _ _))) (gM _ _ Z')) rfl) (nz (SL:=[pS X,pO (.lst [.bl false,.bl false,.bl false,.bl false,.bl false,.bl true]),none]) (cf (b8 rfl (c7 (p2 (I _ _) (I _ _))) (gM _ _ Z')) rfl) (nz (SL:=[pS X,pO (.lst [.bl false,.bl false,.bl false,.bl false,.bl false,.bl true,.bl false,.bl false]),none]) (cf (b8 rfl (c7 (p2 (I _ _) (I _ _))) (gM _ _ Z')) rfl) (nz (SL:=[pS X,pO (.lst [.bl false,.bl false,.bl false,.bl false,.bl false,.bl true,.bl false,.bl false,.bl false]),none]) (uK (xs:=[.bl false,.bl false,.bl false,.bl false,.bl false,.bl true,.bl false,.bl false]) (I _ _) rfl rfl Z') (iN (fv (eE (I _ _)) (e8 (bK (cF rfl rfl) rfl rfl))) (nz (cf rfl rfl) (rt (b8 rfl (c7 (cF rfl rfl)) rfl)))))))))
theorem Ze{h w:Nat}{bs:8#0}(R:bS h w bs){d:D}(hb:lZ bs d):gK [.pure (aj h w bs),.pure d,.pure .aI]=some (.inr (xN d,[.pure (aj h w bs),.pure d,.pure .aI])):=by
 have g:=X7 R hb;refine X5 (SL:=[pS (aj h w bs),pS d,pS .aI,none,none,none,none,none,none,none]) ?_;have e:gD (g9 kz [.val (ae 0),.val (ae 1)]) [pS (aj h w bs),pS d,pS .aI,none,none,none,none,none,none,none]=.exc (xN d) [pS (aj h w bs),pS d,pS .aI,none,none,none,none,none,none,none]:=by generalize aj h w bs=ru at*;simp[gD,g9,bJ,cK,cC,ae,S.d,b7,g,bp];try rfl
 show aA _ _ [pS (aj h w bs),pS d,pS .aI,none,none,none,none,none,none,none]=_;unfold aA;rw[e];rfl
theorem Zf(GA:DX)(GK:DF){P d:D}(g:GA [.pure P,.pure d,.pure .aI]=some (.inr (xN d,[.pure P,.pure d,.pure .aI])))(k:GK [.pure (.exc (ce [78,111,84,105,108,101]) (.xd [([116,105,108,101],d)]))]=some (.pure (.str [116,105,108,101]),[.pure (.exc (ce [78,111,84,105,108,101]) (.xd [([116,105,108,101],d)]))])):jq (bF [] 3 (aA (mL ce ys 2 (gD (g9 GA [.val (ae 0),.val (ae 1),.val (eD .aI)])) (aU (ax de (az GK [.val (ae 2)]) (ag (eD (.str [116,105,108,101])))))) (aU (eD (.bl false))))) [.pure P,.pure d]:=by
 have e3:de (.str [116,105,108,101]) (.str [116,105,108,101])=pS (.bl true):=rfl;refine iO (SL:=[0#P,0#d,none]) (fN ?_);show mL ce ys 2 _ _ [0#P,0#d,none]=_;have eb:gD (g9 GA [.val (ae 0),.val (ae 1),.val (eD .aI)]) [0#P,0#d,none]=.exc (xN d) [0#P,0#d,none]:=by simp[gD,g9,bJ,cK,cC,ae,S.d,b7,g,bp];try rfl
 unfold mL;rw[eb];generalize D.str [116,105,108,101]=UN at*;simp[xo,unset,ys,ax,az,bJ,cK,cC,ae,S.d,b7,k,bp,e3]
theorem Zg{h w:Nat}{bs:8#0}(R:bS h w bs){d:D}(hb:lZ bs d):jq (kB ce) [.pure (aj h w bs),.pure d]:=by unfold kB Ge;exact Zf gK (ou ce) (Ze R hb) (Zd _)
end
def rq:8#0:=[(97,[[97,97]])]
theorem R1:bS 1 2 rq:=by
 refine⟨Z',Z',Z',Z',Z',Z',Z',Z',λb hb=>?_,λb hb=>?_⟩;.rw[Ws.mp hb];decide
 .rw[Ws.mp hb];refine⟨rfl,λr hr=>?_⟩;rw[Ws.mp hr];refine⟨rfl,λn hn=>?_⟩;have:n=97:= ~~~hn;rw[this];decide
abbrev g3:List D:=[.tup [.str [97]],.tup [.str [97,97]],.tup [.str [97,97,97]]]
theorem rz:∀d∈g3,Et 1 2 rq d:=λd hd=>by
 have one:∀c,0<c->c<=3->Gd rq [W9 c 97]:=λc c0 c3=>⟨1,c,⟨Z',Z'⟩,⟨c0,c3⟩,rfl,λr hr=>by rw[Ws.mp hr];simp,λr hr n hn=>by rw[Ws.mp hr]at hn;rw[(List.mem_replicate.mp hn).2];decide⟩;simp only[Wi,Jy,or_false]at hd;rcases hd with rfl|rfl|rfl;.exact .inl ⟨_,one 1 Z' Z',rfl⟩
 .exact .inl ⟨_,one 2 Z' Z',rfl⟩
 .exact .inl ⟨_,one 3 Z' Z',rfl⟩
abbrev L7:List D:=[.lst g3,.lst (br g3 none (some 2)),.lst (br g3 none (some 1)),.lst (br g3 (some 1) none),.lst (g3++g3),.lst g3.reverse,.lst []]
theorem Zh:∀d∈L7,Th 1 2 rq d:=λd hd=>by
 have c:∀lo hi,Th 1 2 rq (.lst (br g3 lo hi)):=λlo hi=>ik (WF (Ib _ _ _) Z') λd hd=>rz d (Ia hd);simp only[Wi,Jy,or_false]at hd;rcases hd with rfl|rfl|rfl|rfl|rfl|rfl|rfl;.exact ik Z' rz
 .exact c _ _
 .exact c _ _
 .exact c _ _
 .exact ik Z' λd hd=>(Wu.mp hd).elim (rz d) (rz d)
 .exact ik Z' λd hd=>rz d (List.mem_reverse.mp hd)
 .exact ik Z' nofun
abbrev bx(scr:D)(o1 o2 o3 o4 o5 o6 o7 o8 o9 o10:Option S):Dl:=[pS scr,o1,o2,o3,o4,o5,o6,o7,o8,o9,o10,none]
abbrev yA:DS:=bX (aR (aX (aw (ae 1) (aw (bj 1 bE (aV 3#2)) (aw (bj 1 bE (aV 3#1)) (aw (bj 1 (aV 3#1) bE) (aw (au mQ 1 1#2) (aw (ay jf (aq 1)) (aw (aX aJ) aJ))))))))) (ah [] 2) (bA (bD (aD (az gL [.val (eD (.tup [.int 1,.int 2,.tup [.tup [.str [97],.tup [.str [97,97]]]]])),.val (eD (.str [97])),.val (ae 2)]))) (aU (eD (.bl false))) bI)
theorem Zi(scr:D):∃o1 z,yA (bx scr (pO (.lst g3)) none none none none none none none none none)=.ok .next (bx scr o1 (pS z) none none none none none none none none):=by have it:aR (aX (aw (ae 1) (aw (bj 1 bE (aV 3#2)) (aw (bj 1 bE (aV 3#1)) (aw (bj 1 (aV 3#1) bE) (aw (au mQ 1 1#2) (aw (ay jf (aq 1)) (aw (aX aJ) aJ)))))))) (bx scr (pO (.lst g3)) none none none none none none none none none)=.ok L7 (bx scr (pS (.lst g3)) none none none none none none none none none):=rfl;obtain⟨P3,e,⟨o2,rfl,hz⟩,_⟩:=forA (λd:D=>d) (g:=ah [] 2) (b:=bA (bD (aD (az gL [.val (eD (.tup [.int 1,.int 2,.tup [.tup [.str [97],.tup [.str [97,97]]]]])),.val (eD (.str [97])),.val (ae 2)]))) (aU (eD (.bl false))) bI) (λas Y=>(∃o2:Option S,Y=bx scr (pS (.lst g3)) o2 none none none none none none none none/\(as=[]->∃z,o2=pS z))/\∀d∈as,d∈L7) (λd as Y⟨⟨o2,e,_⟩,hs⟩=>by subst e;have r:=z8 R1 (t:=97) Z' (Zh d (hs d (.head _)));exact⟨_,rfl,λy e=>⟨_,e.symm.trans (dw (z:=false) (eE (x:=true) (lY (Y:=bx scr (pS (.lst g3)) (pS d) none none none none none none none none) rfl rfl rfl r))),⟨pS d,rfl,λj=>⟨d,rfl⟩⟩,λx hx=>hs x (.tail _ hx)⟩⟩) L7 (bx scr (pS (.lst g3)) none none none none none none none none none) ⟨⟨none,rfl,λz=>by cases z⟩,λj h=>h⟩;obtain⟨z,rfl⟩:=hz rfl;rw[List.map_id']at e;exact⟨_,z,(dH it).trans e⟩
section
variable{Pi:Dl}{u:S}{G:DF}{a b bh:D}
theorem Ah(hf:f1 Y=.ok (.pure a) Y)(h0:Y[i]?=some (pO pd))(g:G [.own pd,.pure a]=some (v,[.own bh,.pure a])):az G [.io i,.val f1] Y=.ok v (Y.set i (pO bh)):=by simp[az,bJ,cK,cG,h0,cC,hf,b7,g,bp,S.d]
theorem Zj(h0:Y[i]?=some (pO pd))(g:G [.own pd]=some (v,[.own bh])):az G [.io i] Y=.ok v (Y.set i (pO bh)):=by simp[az,bJ,cK,cG,h0,cC,b7,g,bp]
theorem Zk(h1:f1 Y=.ok (.pure a) Y)(h2:f2 Y=.ok (.pure b) PP)(h0:PP[i]?=some (pO pd))(hi:Y[i]?=some (pO pd))(g:G [.own pd,.pure a,.pure b]=some (v,[.own bh,.pure a,.pure b])):az G [.io i,.val f1,.val f2] Y=.ok v (PP.set i (pO bh)):=by simp[az,bJ,cK,cG,h0,hi,cC,h1,h2,b7,g,bp,S.d]
theorem Ai(h1:f1 Y=.ok (.pure a) Y)(h2:f2 Y=.ok u PP)(hu:u.d=b)(g:G [.pure a,.pure b]=some (v,[.pure a,.pure b])):az G [.val f1,.val f2] Y=.ok v PP:=by subst hu;cases u<;>(simp only[S.d]at g;simp[az,bJ,cK,cC,h1,h2,b7,g,bp,S.d])
theorem Zl{G:DX}(h1:f1 Y=.ok (.pure a) Y)(h2:f2 Y=.ok (.pure b) Y)(h3:f3 Y=.ok (.pure c) PP)(g:G [.pure a,.pure b,.pure c]=some (.inl (v,[.pure a,.pure b,.pure c]))):gj G [.val f1,.val f2,.val f3] Y=.ok v PP:=by simp[gj,bJ,cK,cC,h1,h2,h3,b7,g,bp,S.d]
end
abbrev yW:DS:=aA (aE (az kA [.val (ae 5),.val (aX (aw (cp (aw (ae 7) aJ)) (aw (az lT [.io 4,.val (ae 5)]) aJ)))]) (ah [] 9)) (aA (aE (ax aF (aX (aw (ae 9) aJ)) (ag (bb [11] (cb 3#4) (ah [] 11) bw (az lU [.io 4,.val (ae 5),.val (ax aC (aX (aw (ae 8) (aw (ae 9) aJ))) (ag (au eT 11 1#2)))])))) (ah [] 10)) (bA (bD (aD (ay eJ (ag (bb [2] (aR (ae 10)) (ah [] 2) bw (az gL [.val (ae 5),.val (ae 7),.val (ae 2)])))))) (aU (eD (.bl false))) bI))
theorem Ig{ts:List Nat}{r:Nat}(h:r<ts.length):aC (.lst (ts.map cg)) (.int (r:Nat))=pS (.str [ts[r]]):=by simp only[aC];rw[ji,WD,W4 h];rfl
section
variable{h:Nat}{bs:8#0}(R:bS h w bs)(s:Sm9 h w)(l3:bs.length<=3){t:Nat}(ht:t∈bs.map (·.1))
include R s l3 ht
theorem Zm{ks:List Fl9}(g:∀k∈ks,Gd bs k)(h0:0<ks.length)(hl:ks.length<=21300){pd:D}(hp:cq pd){scr z:D}{o1 o3 o6 o9 o10:Option S}:∃bh o9' o10',cq bh/\yW (bx scr o1 (pS z) o3 (pO pd) (pS (aj h w bs)) o6 (pS (.str [t])) (pS (.lst (ks.map aa))) o9 o10)=.ok .next (bx scr o1 (pS z) o3 (pO bh) (pS (aj h w bs)) o6 (pS (.str [t])) (pS (.lst (ks.map aa))) o9' o10'):=by
 obtain⟨F,pd1,e1,gF,p1⟩:=H_ R hp;have gt:Gd bs [[t]]:=⟨1,1,⟨Z',Z'⟩,⟨Z',Z'⟩,rfl,λr hr=>by rw[Ws.mp hr];rfl,λr hr n hn=>by rw[Ws.mp hr]at hn;rw[Ws.mp hn];exact ht⟩;obtain⟨ws,e2,gw,_,sw,_,lw⟩:=HW R s l3 (ss:=[[[t]],F]) (λx hx=>by
 simp only[Wi,Jy,or_false]at hx;rcases hx with rfl|rfl;.exact gt
 .exact gF) Zw;have w0:0<ws.length:=JH (sw [[t]] (.head _));have Zn:Th h w bs (.lst (ws.map aa)):=ik (by rw[Wq];lia) λd hd=>by obtain⟨k,hk,rfl⟩:=WH.mp hd;exact .inl ⟨k,gw k hk,rfl⟩
 have s1:aE (az kA [.val (ae 5),.val (aX (aw (cp (aw (ae 7) aJ)) (aw (az lT [.io 4,.val (ae 5)]) aJ)))]) (ah [] 9) (bx scr o1 (pS z) o3 (pO pd) (pS (aj h w bs)) o6 (pS (.str [t])) (pS (.lst (ks.map aa))) o9 o10)=.ok .next (bx scr o1 (pS z) o3 (pO pd1) (pS (aj h w bs)) o6 (pS (.str [t])) (pS (.lst (ks.map aa))) (pO (.lst (ws.map aa))) o10):=cf (Ai (u:=.own (.lst ([[[t]],F].map aa))) (PP:=bx scr o1 (pS z) o3 (pO pd1) (pS (aj h w bs)) o6 (pS (.str [t])) (pS (.lst (ks.map aa))) o9 o10) rfl (kD (dI (v:=.pure (aa [[t]])) rfl (dI (v:=.pure (aa F)) (Ah rfl rfl e1) rfl))) rfl e2) rfl;obtain⟨xs,P3,e3,⟨pd3,hp3,rfl⟩,hn,hx⟩:=cI (cs:=[11]) (it:=cb 3#4) (g:=ah [] 11) (t:=bw) (el:=az lU [.io 4,.val (ae 5),.val (ax aC (aX (aw (ae 8) (aw (ae 9) aJ))) (ag (au eT 11 1#2)))]) (Y:=bx scr o1 (pS z) o3 (pO pd1) (pS (aj h w bs)) o6 (pS (.str [t])) (pS (.lst (ks.map aa))) (pS (.lst (ws.map aa))) o10) (lW (w:=4) rfl rfl Y') Zw (λY=>∃pd,cq pd/\Y=bx scr o1 (pS z) o3 (pO pd) (pS (aj h w bs)) o6 (pS (.str [t])) (pS (.lst (ks.map aa))) (pS (.lst (ws.map aa))) o10) (λj x=>Th h w bs x) ⟨pd1,p1,rfl⟩ λd hd Y⟨pd,hp,e⟩=>by
  subst e;obtain⟨k,hk,rfl⟩:=WH.mp hd;have hk:=List.mem_range.mp hk;have md:eT (.int (k:Nat)) (.int 2)=pS (.int ((k%2:Nat):Int)):=XS k 2 Z' Z';obtain⟨vs,gv,v0,vl,x⟩:∃vs:List Fl9,(∀k∈vs,Gd bs k)/\0<vs.length/\vs.length<=21300/\aC (.lst [.lst (ks.map aa),.lst (ws.map aa)]) (.int ((k%2:Nat):Int))=pS (.lst (vs.map aa)):=by
   rcases Nat.mod_two_eq_zero_or_one k with q|q<;>rw[q];.exact⟨ks,g,h0,hl,rfl⟩
   .exact⟨ws,gw,w0,lw,rfl⟩
  obtain⟨d,bh,e,th,p⟩:=Y8 R gv v0 vl hp;refine⟨(bx scr o1 (pS z) o3 (pO pd) (pS (aj h w bs)) o6 (pS (.str [t])) (pS (.lst (ks.map aa))) (pS (.lst (ws.map aa))) o10).set 11 (pS (.int (k:Nat))),_,.pure d,(bx scr o1 (pS z) o3 (pO bh) (pS (aj h w bs)) o6 (pS (.str [t])) (pS (.lst (ks.map aa))) (pS (.lst (ws.map aa))) o10).set 11 (pS (.int (k:Nat))),rfl,rfl,?_,⟨bh,p,rfl⟩,th⟩;exact Zk (Y:=(bx scr o1 (pS z) o3 (pO pd) (pS (aj h w bs)) o6 (pS (.str [t])) (pS (.lst (ks.map aa))) (pS (.lst (ws.map aa))) o10).set 11 (pS (.int (k:Nat)))) (PP:=(bx scr o1 (pS z) o3 (pO pd) (pS (aj h w bs)) o6 (pS (.str [t])) (pS (.lst (ks.map aa))) (pS (.lst (ws.map aa))) o10).set 11 (pS (.int (k:Nat)))) rfl (bK (kD (dI (v:=.pure (.lst (ks.map aa))) rfl (dI (v:=.pure (.lst (ws.map aa))) rfl rfl))) (c7 (b8 (v:=.pure (.int (k:Nat))) rfl rfl md)) x) rfl rfl e
 have tx:∀d∈xs,Th h w bs d:=xC hn hx λj j j h=>h;have hn:xs.length=4:= ~~~hn;have s2:aE (ax aF (aX (aw (ae 9) aJ)) (ag (bb [11] (cb 3#4) (ah [] 11) bw (az lU [.io 4,.val (ae 5),.val (ax aC (aX (aw (ae 8) (aw (ae 9) aJ))) (ag (au eT 11 1#2)))])))) (ah [] 10) (bx scr o1 (pS z) o3 (pO pd1) (pS (aj h w bs)) o6 (pS (.str [t])) (pS (.lst (ks.map aa))) (pO (.lst (ws.map aa))) o10)=.ok .next (bx scr o1 (pS z) o3 (pO pd3) (pS (aj h w bs)) o6 (pS (.str [t])) (pS (.lst (ks.map aa))) (pS (.lst (ws.map aa))) (pO (.lst (.lst (ws.map aa)::xs)))):=cf (bK (kD (dI (v:=.pure (.lst (ws.map aa))) (SL:=bx scr o1 (pS z) o3 (pO pd1) (pS (aj h w bs)) o6 (pS (.str [t])) (pS (.lst (ks.map aa))) (pS (.lst (ws.map aa))) o10) rfl rfl)) (c7 e3) (gM [.lst (ws.map aa)] xs Zx)) rfl;have al:=rd (.lst (ws.map aa)::xs);have s3:bb [2] (aR (ae 10)) (ah [] 2) bw (az gL [.val (ae 5),.val (ae 7),.val (ae 2)]) (bx scr o1 (pS z) o3 (pO pd3) (pS (aj h w bs)) o6 (pS (.str [t])) (pS (.lst (ks.map aa))) (pS (.lst (ws.map aa))) (pO (.lst (.lst (ws.map aa)::xs))))=.ok (.own (.lst ((.lst (ws.map aa)::xs).map λj=>.bl true))) (bx scr o1 (pS z) o3 (pO pd3) (pS (aj h w bs)) o6 (pS (.str [t])) (pS (.lst (ks.map aa))) (pS (.lst (ws.map aa))) (pS (.lst (.lst (ws.map aa)::xs)))):=nt (λd=>d) (λj=>.bl true) (Y:=bx scr o1 (pS z) o3 (pO pd3) (pS (aj h w bs)) o6 (pS (.str [t])) (pS (.lst (ks.map aa))) (pS (.lst (ws.map aa))) (pS (.lst (.lst (ws.map aa)::xs)))) (by rw[List.map_id'];exact e_ (v:=.pure (.lst (.lst (ws.map aa)::xs))) rfl (.inr rfl)) Zx (λd hd=>⟨.pure (.bl true),lY rfl rfl rfl (z8 R ht (by
 rcases Wi.mp hd with rfl|hd;.exact Zn
 .exact tx d hd)),rfl⟩) ⟨pS z,rfl,nofun⟩;exact⟨pd3,_,_,hp3,nz s1 (nz s2 (dw (z:=false) (eE (x:=true) (cE s3 al))))⟩
end
abbrev yT(ce:Tx->Nat):DS:=aA (aE (az m_ [.val (ae 3)]) (ah [] 4)) (aA (aE (az ot [.io 4]) (ah [] 5)) (aA (aE (az f7 [.val (ae 5)]) (ah [] 6)) (aA (aE (au aC 6 (ag (az cQ [.io 4,.val (ay aP (aq 6))]))) (ah [] 7)) (aA (aE (az kA [.val (ae 5),.val (aX (aw (cp (aw (ae 7) aJ)) aJ))]) (ah [] 8)) (aA (bA (aD (ax (mK true) (gj gK [.val (ae 5),.val (ae 7),.val (ae 8)]) (ag (eD (.bl true))))) (aU (eD (.bl false))) bI) (aA (bA (aD (ax fH (ay aP (aq 8)) 1#80)) yW bI) (bA (cu (bD (aD (az (kB ce) [.val (ae 5),.val (az kC [.io 4,.val (ae 5)])]))) (bD (aD (az gL [.val (ae 5),.val (au aC 6 1#0),.val (ae 8)])))) (aU (eD (.bl false))) bI)))))))
section
variable{ce:Tx->Nat}
theorem Zo{scr z:D}{o1 o4 o5 o6 o7 o8 o9 o10:Option S}(c:Int):∃o4' o5' o6' o7' o8' o9' o10',yT ce (bx scr o1 (pS z) (pS (.int c)) o4 o5 o6 o7 o8 o9 o10)=.ok .next (bx scr o1 (pS z) (pS (.int c)) o4' o5' o6' o7' o8' o9' o10'):=by
 obtain⟨pd1,e1,p1⟩:=Xy c;obtain⟨h,w,bs,pd2,e2,R,s,l3,p2⟩:=Y6 p1;obtain⟨t0,t26⟩:=HZ R;have e3:=qX R;obtain⟨r,pd3,e4,lr,p3⟩:=lX p2 (bs.map (·.1)).length t0 Y';have x4:=Ig lr;have ln:aP (.lst ((bs.map (·.1)).map cg))=pS (.int ((bs.map (·.1)).length:Nat)):=#v[aP];have x0:aC (.lst ((bs.map (·.1)).map cg)) (.int 0)=pS (.str [(bs.map (·.1))[0]]):=Ig (r:=0) t0;obtain⟨TT,hT⟩:∃T,T=D.lst ((bs.map (·.1)).map cg):=⟨_,rfl⟩;have e3:f7 [.pure (aj h w bs)]=some (.own TT,[.pure (aj h w bs)]):=%[hT|e3];rw[<-hT]at x4 ln x0;have nc:(bs.map (·.1))[0]∈bs.map (·.1):=WU t0;have ht:(bs.map (·.1))[r]∈bs.map (·.1):=WU lr;generalize(bs.map (·.1))[0]=t1 at*;generalize(bs.map (·.1))[r]=t at*;have gt:Gd bs [[t]]:=⟨1,1,⟨Z',Z'⟩,⟨Z',Z'⟩,rfl,λr hr=>by rw[Ws.mp hr];rfl,λr hr n hn=>by rw[Ws.mp hr]at hn;rw[Ws.mp hn];exact ht⟩;obtain⟨ks,e5,g,pw,sk,ok,lk⟩:=HW R s l3 (ss:=[[[t]]]) (λx hx=>%[Ws.mp hx|gt]) Zw;have k0:0<ks.length:=JH (sk [[t]] (.head _));obtain⟨b,e6,hb⟩:=HC (w:=w) R ht (es:=ks.map aa) (λd hd=>by obtain⟨k,hk,rfl⟩:=WH.mp hd;exact .inl ⟨k,g k hk,rfl⟩) (by rw[Wq];lia);obtain rfl:b=true:=hb.mpr ⟨ks,rfl,g,pw,sk _ (.head _),ok⟩;have Zp:Th h w bs (.lst (ks.map aa)):=ik (by rw[Wq];lia) λd hd=>by obtain⟨k,hk,rfl⟩:=WH.mp hd;exact .inl ⟨k,g k hk,rfl⟩
 have Zq:aP (.lst (ks.map aa))=pS (.int (ks.length:Nat)):=#v[aP];have Zr:fH (.int (ks.length:Nat)) (.int 80)=pS (.bl (decide (((ks.length:Nat):Int)<80))):=rfl;generalize decide (((ks.length:Nat):Int)<80)=q at*;have last:∀{pd o9 o10},cq pd->∃bh,bA (cu (bD (aD (az (kB ce) [.val (ae 5),.val (az kC [.io 4,.val (ae 5)])]))) (bD (aD (az gL [.val (ae 5),.val (au aC 6 1#0),.val (ae 8)])))) (aU (eD (.bl false))) bI (bx scr o1 (pS z) (pS (.int c)) (pO pd) (pS (aj h w bs)) (pO TT) (pS (.str [t])) (pS (.lst (ks.map aa))) o9 o10)=.ok .next (bx scr o1 (pS z) (pS (.int c)) (pO bh) (pS (aj h w bs)) (pO TT) (pS (.str [t])) (pS (.lst (ks.map aa))) o9 o10):=λ{pd o9 o10}hp=>by obtain⟨d,bh,bad,cm,e⟩:=Yc R Y' hp;have l1:bD (aD (az (kB ce) [.val (ae 5),.val (az kC [.io 4,.val (ae 5)])])) (bx scr o1 (pS z) (pS (.int c)) (pO pd) (pS (aj h w bs)) (pO TT) (pS (.str [t])) (pS (.lst (ks.map aa))) o9 o10)=.ok false (bx scr o1 (pS z) (pS (.int c)) (pO bh) (pS (aj h w bs)) (pO TT) (pS (.str [t])) (pS (.lst (ks.map aa))) o9 o10):=eE (x:=true) (Ai (u:=.pure d) rfl (Ah rfl rfl e) rfl (Zg (ce:=ce) R bad));have l2:bD (aD (az gL [.val (ae 5),.val (au aC 6 1#0),.val (ae 8)])) (bx scr o1 (pS z) (pS (.int c)) (pO bh) (pS (aj h w bs)) (pO TT) (pS (.str [t])) (pS (.lst (ks.map aa))) o9 o10)=.ok false (bx scr o1 (pS z) (pS (.int c)) (pO bh) (pS (aj h w bs)) (pO TT) (pS (.str [t])) (pS (.lst (ks.map aa))) o9 o10):=eE (x:=true) (lY rfl (rn (v:=.own TT) ⟨_,rfl⟩ rfl rfl x0) rfl (z8 R nc Zp));exact⟨bh,(dw (fv l1 l2)).trans rfl⟩
 have a1:aE (az m_ [.val (ae 3)]) (ah [] 4) (bx scr o1 (pS z) (pS (.int c)) o4 o5 o6 o7 o8 o9 o10)=.ok .next (bx scr o1 (pS z) (pS (.int c)) (pO pd1) o5 o6 o7 o8 o9 o10):=cf (jo rfl e1) rfl;have a2:aE (az ot [.io 4]) (ah [] 5) (bx scr o1 (pS z) (pS (.int c)) (pO pd1) o5 o6 o7 o8 o9 o10)=.ok .next (bx scr o1 (pS z) (pS (.int c)) (pO pd2) (pS (aj h w bs)) o6 o7 o8 o9 o10):=cf (Zj rfl e2) rfl;have a3:aE (az f7 [.val (ae 5)]) (ah [] 6) (bx scr o1 (pS z) (pS (.int c)) (pO pd2) (pS (aj h w bs)) o6 o7 o8 o9 o10)=.ok .next (bx scr o1 (pS z) (pS (.int c)) (pO pd2) (pS (aj h w bs)) (pO TT) o7 o8 o9 o10):=cf (jo rfl e3) rfl;have a4:aE (au aC 6 (ag (az cQ [.io 4,.val (ay aP (aq 6))]))) (ah [] 7) (bx scr o1 (pS z) (pS (.int c)) (pO pd2) (pS (aj h w bs)) (pO TT) o7 o8 o9 o10)=.ok .next (bx scr o1 (pS z) (pS (.int c)) (pO pd3) (pS (aj h w bs)) (pO TT) (pS (.str [t])) o8 o9 o10):=cf (rn (v:=.own TT) ⟨_,rfl⟩ (c7 (Ah (cF rfl ln) rfl e4)) rfl x4) rfl;have a5:aE (az kA [.val (ae 5),.val (aX (aw (cp (aw (ae 7) aJ)) aJ))]) (ah [] 8) (bx scr o1 (pS z) (pS (.int c)) (pO pd3) (pS (aj h w bs)) (pO TT) (pS (.str [t])) o8 o9 o10)=.ok .next (bx scr o1 (pS z) (pS (.int c)) (pO pd3) (pS (aj h w bs)) (pO TT) (pS (.str [t])) (pO (.lst (ks.map aa))) o9 o10):=cf (Ai (u:=.own (.lst ([[[t]]].map aa))) rfl (kD (dI (v:=.pure (aa [[t]])) rfl rfl)) rfl e5) rfl;have a6:aD (ax (mK true) (gj gK [.val (ae 5),.val (ae 7),.val (ae 8)]) (ag (eD (.bl true)))) (bx scr o1 (pS z) (pS (.int c)) (pO pd3) (pS (aj h w bs)) (pO TT) (pS (.str [t])) (pO (.lst (ks.map aa))) o9 o10)=.ok false (bx scr o1 (pS z) (pS (.int c)) (pO pd3) (pS (aj h w bs)) (pO TT) (pS (.str [t])) (pS (.lst (ks.map aa))) o9 o10):=e8 (bK (Zl rfl rfl rfl e6) (c7 (f:=eD (.bl true)) rfl) rfl);have a7:aD (ax fH (ay aP (aq 8)) 1#80) (bx scr o1 (pS z) (pS (.int c)) (pO pd3) (pS (aj h w bs)) (pO TT) (pS (.str [t])) (pS (.lst (ks.map aa))) o9 o10)=.ok q (bx scr o1 (pS z) (pS (.int c)) (pO pd3) (pS (aj h w bs)) (pO TT) (pS (.str [t])) (pS (.lst (ks.map aa))) o9 o10):=e8 (bK (cF rfl Zq) rfl Zr);have hd:∀{R},aA (bA (aD (ax fH (ay aP (aq 8)) 1#80)) yW bI) (bA (cu (bD (aD (az (kB ce) [.val (ae 5),.val (az kC [.io 4,.val (ae 5)])]))) (bD (aD (az gL [.val (ae 5),.val (au aC 6 1#0),.val (ae 8)])))) (aU (eD (.bl false))) bI) (bx scr o1 (pS z) (pS (.int c)) (pO pd3) (pS (aj h w bs)) (pO TT) (pS (.str [t])) (pS (.lst (ks.map aa))) o9 o10)=R->yT ce (bx scr o1 (pS z) (pS (.int c)) o4 o5 o6 o7 o8 o9 o10)=R:=λk=>nz a1 (nz a2 (nz a3 (nz a4 (nz a5 (iN a6 k)))));cases q with|false=>obtain⟨bh,e⟩:=last (o9:=o9) (o10:=o10) p3;exact⟨_,_,_,_,_,_,_,hd (iN a7 e)⟩|true=>obtain⟨pd4,o9',o10',p4,e7⟩:=Zm R s l3 ht g k0 lk p3 (scr:=scr) (z:=z) (o1:=o1) (o3:=pS (.int c)) (o6:=pO TT) (o9:=o9) (o10:=o10);obtain⟨bh,e⟩:=last (o9:=o9') (o10:=o10') p4;exact⟨_,_,_,_,_,_,_,hd (nz ((dw a7).trans e7) e)⟩
theorem Zs(ns:List Int)(hn:ns.length<=63):uC ce [.pure (.lst (ns.map .int))]=some (.pure (.bl true),[.pure (.lst (ns.map .int))]):=by
 obtain⟨c0,e0⟩:=Xz ns;have ha:aF (.lst [.int c0]) (.lst (br (ns.map .int) (some 1) (some 3)))=some (.own (.lst ((c0::br ns (some 1) (some 3)).map .int))):=by
  have hc:br (ns.map D.int) (some 1) (some 3)=(br ns (some 1) (some 3)).map D.int:=by unfold br;simp[Uk,Ul]
  have hl:(br ns (some 1) (some 3)).length<=63:=by unfold br;simp;lia
  rw[hc,gM _ _ Zx];rfl
 have hs:cJ (some 1) (some 3) (.lst (ns.map .int))=some (.own (.lst (br (ns.map .int) (some 1) (some 3)))):=rfl;generalize D.lst (ns.map .int)=scr at*;obtain⟨o1,z,e1⟩:=Zi scr;obtain⟨P3,e,o1',z',o3,o4,o5,o6,o7,o8,o9,o10,rfl⟩:=forA (λc:Int=>D.int c) (g:=ah [] 3) (b:=yT ce) (λj Y=>∃(o1:Option S)(z:D)(o3 o4 o5 o6 o7 o8 o9 o10:Option S),Y=bx scr o1 (pS z) o3 o4 o5 o6 o7 o8 o9 o10) (λc as Y hh=>by obtain⟨o1,z,o3,o4,o5,o6,o7,o8,o9,o10,e⟩:=hh;subst e;obtain⟨o4',o5',o6',o7',o8',o9',o10',e⟩:=Zo (ce:=ce) (scr:=scr) (z:=z) (o1:=o1) (o4:=o4) (o5:=o5) (o6:=o6) (o7:=o7) (o8:=o8) (o9:=o9) (o10:=o10) c;exact⟨bx scr o1 (pS z) (pS (.int c)) o4 o5 o6 o7 o8 o9 o10,rfl,λy hy=>⟨_,hy.symm.trans e,_,_,_,_,_,_,_,_,_,_,rfl⟩⟩) (c0::br ns (some 1) (some 3)) (bx scr o1 (pS z) none none none none none none none none) ⟨_,_,_,_,_,_,_,_,_,_,rfl⟩;generalize(c0::br ns (some 1) (some 3)).map D.int=cs at*;generalize D.lst (br (ns.map .int) (some 1) (some 3))=cl at*;have qi:aR (ax aF (aX (aw (az oj [.val (ae 0),.val 3#0]) aJ)) (ag (bj 0 (aV 3#1) (aV 3#3)))) (bx scr o1 (pS z) none none none none none none none none)=.ok cs (bx scr o1 (pS z) none none none none none none none none):=by simp[oz,az,bJ,cK,cC,ae,b7,e0,bp,ax,bj,aV,aq,S.d,hs,ha]
 exact oC (nz (SL:=bx scr (pO (.lst g3)) none none none none none none none none none) rfl (nz e1 (nz ((dH qi).trans e) rfl)))
end
def Gt:DF:=λss=>match ss with
 |[.pure (.lst ds)]=>match eX ds with|some ns=>if ns.length<=63 then some (.pure (.bl true),ss)else none|none=>none
 |_=>none
theorem Zt(ns:List Int)(h:ns.length<=63):∃aH,Gt [.pure (.lst (ns.map .int))]=some (.pure (.bl true),aH):=by unfold Gt;simp only[Lake.ints_map,h,if_true];exact⟨_,rfl⟩
theorem Ih:∀{ds:List D}{ns:List Int},eX ds=some ns->ds=ns.map .int|[],ns,h=>by simp[eX]at h;subst h;rfl|d::r,ns,h=>by cases d with
 |int i=>simp only[eX]at h;cases e:eX r with|none=>rw[e]at h;cases h|some m=>rw[e]at h;cases h;rw[Ih e];rfl
 |_=>simp[eX]at h
universe H in theorem Zu:∀ce ss y,Gt ss=some y->uC ce ss=some y:=by
 intro ce ss y h;unfold Gt at h;split at h;.rename_i ds;cases hi:eX ds with|none=>rw[hi]at h;cases h|some ns=>
   rw[hi]at h;by_cases hn:ns.length<=63;.simp only[hn,if_true]at h;cases h;have e:=Ih hi;subst e;exact Zs ns hn
   .simp only[hn,if_false]at h;cases h
 .cases h
end Lake.K28
open PySem PySem.W PyProof.Rows
namespace PySem.W.Fast
def tw14326512665748149514:=0
def tw5173775803379296712:=0
def tw11057878876053503015:=0
def tw11167337336717400335:=0
def tw2489145512183216053:=0
def tw6256697445221245446:=0
def tw9747470074743965723:=0
def tw5392093515782254984:=0
def tw10911548216245535823:=0
def tw11457887547808543921:=0
def tw17381459391598219565:=0
def tw14894591117547603637:=0
def tw7411108353485494492:=0
def tw2595350967111674335:=0
def tw14327716842350103602:=0
def tw5274144526475871700:=0
def tw9122243482938561360:=0
def tw4228569694639778110:=0
def tw4506252968565378185:=0
def tw13228981564387736398:=0
def tw15719808970702428981:=0
def tw10961078122131928067:=0
def tw7465009233018091428:=0
def tw3667589860332936650:=0
def tw10646759447591322282:=0
def tw12992654870286378933:=0
def tw15496637999522950321:=0
def tw17216454593243287780:=0
def tw13928661885634602900:=0
def tw14414066325265853646:=0
def tw18190779402416504603:=0
def tw9582593248191773391:=0
def tw7558936184441032519:=0
def tw907187129102632863:=0
def tw16835444006284313786:=0
def tw8988433802263818174:=0
end PySem.W.Fast
set_option maxRecDepth 100000 in
set_option maxHeartbeats 0 in
theorem PySem.Challenge.cw_tilegrow_k28_closed_by_anybody_holds : PySem.Challenge.rw_tilegrow_k28_closed_by_anybody.Holds := by
 w_on; o_law; k_head; (case hw=>w_witness2)
 k_fill
 refine Lake.O_ (l:=PySem.Challenge.rw_tilegrow_k28_closed_by_anybody) (k:=7) (G:=Lake.K28.Gt) rfl rfl ⟨rfl,Z',Z'⟩ (λw h W'=>PySem.W.kIn_of W') ?L Lake.K28.Zt ?F
 case L=>intro p; exact Eq.refl true
 case F =>
  intro w mg fa h KX G o_;refine' Lake.K28.all_mk Lake.K28.Zu KX G o_ ?d0 ?d1 ?d2 ?d3 ?d4 ?d5 ?d6 ?d7 ?d8 ?d9 ?yb ?yc ?yd ?ye ?yf ?yg ?yh ?yj ?yl ?yn ?yo ?yp ?yq ?yr ?yt ?yv ?yw ?yx ?yy ?yz ?yB ?yC ?yD ?yE ?yF ?qy ?qz ?qA ?qC ?qD ?qE ?qF ?qG ?qH ?qI ?qJ ?qK ?qL ?qM ?qN ?qO ?qP ?yG ?yH ?yI ?yJ ?yK ?yL ?uH ?yM ?yN ?yO ?GO ?yP ?yQ ?yR ?yS ?yU ?yV ?yX ?yY ?yZ ?y6 ?y8 ?y9 ?y_ ?zc ?zd ?ze ?zf ?zg ?iL ?zh ?zk ?zl ?zm ?zo ?zp ?zq ?zr ?zt ?zu ?zv
  (case d0|d1|d2|d3|d4|d5|d6|d7|d8|d9|yb|yc|yd|ye|yf|yg|yh|yj|yl|yn|yo|yp|yq|yr|yt|yv|yw|yx|yy|yz|yB=>exact⟨_,_,_,_,_,_,_,_,_,_,by k_is,by k_is,by k_is,by k_is⟩)
  (case yC|yD|yE|yF|qy|qz|qA|qC|qD|qE|qF|qG|qH|qI|qJ|qK|qL|qM|qN|qO|qP|yG|yH|yI|yJ|yK|yL|uH|yM|yN|yO|GO|yP|yQ|yR|yU|yV|yX|yZ|y6|y9|y_|zc|zd|ze|zf|zg|iL|zv=>k_is)
  (case yS|yY|y8=>kernel_rfl)
  (case zh|zk|zl|zm|zo|zp|zq|zr|zt|zu=>kit_is)
