import PyProof.Rows.All
import Wide.All
import OpenK.AllK
import Lean
import PySem.Challenge.RW_tilegrow_k23_whole_tiles_come_together
noncomputable section
set_option compiler.extract_closed false
open PySem renaming wpAny_bind→W0,wpAny_pure→W3,Shared→W6,wpAny→Wb,sizeLine→Wd,starEach→Wl,Program→Wt,World→Ww,Spec→Wy,Around→WA,mainGlobals→WE,mem_of_lookup→WH,wpAny_call_entry→WJ,wpAny_callSpecial?_slot→WP,cLine→WR,compareOp→WX,wpAny_holding→WZ,wpAny_newObj_type→Q1,wpAny_mono→Q2,wpAny_setField_rec→Qd,pyNext→Qk,binaryOp→Qo,wpAny_field→Qp,rawInt→Qv,sysModules→Qw,assignEach→Qx,attributeBase→QA,wpAny_seqItems→QE,wpAny_truthy_bool→QF,backTo→QH,codeAny_builtin→QI,codeAny→QR,bootBuiltins→QU,wpAny_rule→QW,FuncData→QX,cellsFrom→QY,sizeLine_eq→J5,wpAny_typeNameOfWhole_itemiter→Ja,swapsWith→Je,plainId_quiet→Jf,wpAny_setField→Jj,wpAny_pyIter_tuple→Jn,wpAny_passesOwn→Jo,wpAny_attempt→Js,foldedSetIterable→Ju,wpAny_pyIter_enum→Jv,wpAny_setState_of→Jw,keywordEach→Jy,wpAny_askSetting→JD,wpAny_setEntries_of→JE,wpAny_loadPart'→JI,builtinLookup_eq_fast→JP,firstArgMember→JQ,wpAny_fieldsOf→JS,wpAny_isInstance→JV,behindInMarks→JW,sliceBounds→JX,wpAny_ite_split→U4,wpAny_updateSeq→U6,codeAny_mono→U9,backToKw→Ua,tupleKind_room_in1→Uc,pushCells→Ud,getattributeRaised→Uf,scanBound→Ug,wpAny_Call_method→Uk,wpAny_pyIter_list→Ul,wpAny_dictEntries→Uq,strIterType→Us
open List renaming getElem?_eq_getElem→W2,getElem?_set_ne→W4,range→W7,mem_cons_of_mem→W8,getElem?_eq_some_iff→W9,mem_cons_self→Wc,map_cons→We,getElem?_set_self→Wh,mem_map→Wj,getD_eq_getElem?_getD→Wk,map_map→Wn,getElem?_map→Wo,replicate→Wp,mem_range→Ws,mem_cons→Wv,size_toArray→Wx,length_map→WB,getElem?_eq_none→WD,length_cons→WF,mem_append→WI,nodup_cons→WL,mem_append_right→WQ,map_append→WS,map_congr_left→WT,getElem_mem→WV,mem_of_getElem?→Q0,length_set→Qe,find?_cons→Qf,mem_map_of_mem→Qh,getElem?_set→Qi,length_append→Qn,getElem?_range→Qq,mem_filter→Qs,nil_append→Qu,lookup_cons→Qy,any_cons→Qz,zipWith→QB,getElem_of_mem→QG,flatten_cons→QO,replicate_succ→QT,drop_eq_getElem_cons→J0,length→J7,ext_getElem?→Jc,find?_map→Jl,range_succ_eq_map→Jm,foldl_cons→Jp,nodup_iff_pairwise_ne→Jt,mem_append_left→Jx,all_eq_true→JC,append_nil→JH,length_nil→JJ,take_of_length_le→JM,nodup_append→JN,pairwise_map→JO,getElem?_toArray→JR,of_mem_zip→U2,forIn_cons→U3,range_succ→U5,pairwise_cons→Ue,any_eq_false→Uj,length_range→Uo,all_cons→Uu,range'_succ→Uw,ext_getElem→Uy,map_nil→UA,all_map→UB,count_cons→UD
open PySem.Heap renaming get?_push_of_some→W5,get?_push_size→Wi,lt_size→Wm,get?_update_self→WN,size_push→Q7,get?_update_other→Qb,SameBut→Ql,ExtBut→Ut
open PySem.W renaming Frag→Wa,mg_none_of→WO,kia_one→Qt,fnOf→J8,kitOne→Ji,keepIn→Ui
open Nat renaming le_refl→Wf,le_trans→Wq,ne_of_lt→Wr,lt_of_lt_of_le→Wz,lt_of_le_of_lt→WC,pow_le_pow_right→WU,zero_add→Q4,zero_le→Qc,ne_of_gt→Qm,pow_succ→QD,mul_comm→QK,mul_le_mul_right→QN,lt_succ_of_lt→QP,le_of_lt→QV,mul_le_mul→QZ,pow_lt_pow_right→Jb,lt_irrefl→Jd,mul_assoc→Jg,le_succ→Jz,add_mul→JA,div_le_self→JL,gcd→JU,lcm→JZ,lt_trans→Ub,add_assoc→Uv,le_add_right→Ux,two_pow_pos→UE,zero_mul→UF
open Option.some renaming injEq→Wg,inj→WK
open Bool renaming and_eq_true→Wu,false_ne_true→WW,eq_iff_iff→J9,not_false→JB,not_true→JG,false_eq_true→JK,or_eq_true→UC
open Option renaming map_eq_some_iff→WG,map_some→WM,bind_some→Qg,bind_eq_some_iff→JF,map_map→JT
open Int renaming gcd→WY,mul_comm→Q3,natAbs_natCast→Q5,natCast_mul→Q8,toNat_natCast→Qj,mul_assoc→QC,natAbs_mul→Jk,neg_mul→JY,mul_eq_zero→U7,emod_nonneg→U8,emod_lt_of_pos→Uh,gcd_dvd_right→Ur,gcd_dvd_left→Uz
open Array renaming length_toList→Q9,getElem?_toList→QJ,toList_push→Um
open PySem.Builtin.SmallTypes renaming nextOf→Qa,ownedTupleIsFree→QM
open PySem.Heap.SameBut renaming update→Qr
open PyProof.Rows renaming callWith_type1→QQ
open PySem.F renaming plain_extend_loop→J4,slot_dict_itemiterator_next→Jh,slot_dict_get→Jq,slot_tuple_iterator_next→Jr,slot_dict_items→Up
open PySem.Builtin.Int renaming intBits→U1
set_option Elab.async false
set_option linter.all false
set_option tactic.hygienic false
set_option maxRecDepth 100000
set_option maxHeartbeats 4000000
theorem Z'{p:Prop}(h:p:=by lia):p:=h
theorem U'{p:Prop}(h:p:=by decide):p:=h
theorem V'{p:Prop}(h:p:=by simp):p:=h
theorem Re{p:Prop}(h:p:=by simp;lia):p:=h
theorem P3{p:Prop}(h:p:=by decide+kernel):p:=h
theorem Pi{p:Prop}(h:p:=by simp at hl⊢;lia):p:=h
local macro_rules|`(~~~$x)=>`(by simpa using$x)
local macro_rules|`(#v[$xs,*])=>`(by simp[$[$xs:term],*])
local macro_rules|`(%[$xs,*|$k])=>`(by rw[$[$xs:term],*];exact$k)
set_option hygiene false
local macro_rules|`(tactic|obtain $p:rcasesPatMed:=$e)=>`(tactic|first|(refine Classical.byContradiction fun v6=>?_;rcases $e:term with $p<;>(try refine v6 ?_)<;>(try clear v6))|rcases $e:term with $p)
set_option hygiene true
set_option backward.eqns.nonrecursive false
set_option genSizeOf false
set_option bootstrap.genMatcherCode false
set_option hygiene false
local macro_rules|`(8#$_)=>`(List (Nat×List Tx))|`(9#$x)=>`({s with heap:=$x})|`($n:num#$x)=>do let a:=(("some Lake.S.pure;aj eD Lake.D.int;;eD Lake.D.int;model prog w;model X.prog X.w;;aJ P w K mg base".splitOn ";")[n.getNat]!.splitOn " ").map λx=>(Lean.mkIdent x.toName).1;return if 3<n.getNat then Lean.Syntax.mkApp ⟨a.head!⟩ (a.tail.map (⟨·⟩)).toArray else a.foldr (λf y=>(Lean.Syntax.mkApp ⟨f⟩ #[⟨y⟩]).1) x.1
local macro_rules|`(tactic|intros $x $[$xs]*)=>do let a:=(#[x]++xs).map λx=>(⟨x.raw⟩:Lean.TSyntax `term);`(tactic|intro pins s Y H $a*)
local macro_rules|`(command|universe H in $c)=>`(command|set_option tactic.hygienic true in $c)
set_option hygiene true
namespace Lake
open PySem PySem.Spec PyProof.Rows
variable{A:WA}{B O O':Addr->Prop}{C a dl dx i1 i2 it:Addr}{D8 body:List Stmt}{E:Value->W6->Prop}{K:Wa}{P prog:Wt}{P1 P2:Nat->Value->Prop}{Q:Option Value->W6->Prop}{RR:Value->Addr->Result->W6->Prop}{S1 S2 tn:Nat->Heap->Prop}{XP:(Str->Option Value)->Heap->Prop}{YP:Ww->Heap->Prop}{ak its' us:List Value}{an od:Option Addr}{apos bh p0 pos pos' pp py tp:Pos}{b9 cd ct doc oc pm u:Value}{base h h':Heap}{ch f1 f2 fp:List Addr}{cs np:List Nat}{ctx ep i n n' n1 n2 nT sl t':Nat}{d':Drawn}{e elt iter ix tg:Expr}{elts es ifs:List Expr}{f:Value->Value->Sem Value}{fd:QX}{g':Array GenState}{hi lo:Option Expr}{items:Array Value}{kindOf:Str->Option NameKind}{ks loose:List Str}{m:Bool}{mA mb mg:Str->Option Value}{mx:Array (Option Value)}{name qual x:Str}{ns:List Int}{oT:Obj}{op:CmpOp}{outer:List Env}{params:Arguments}{pins:List (Addr×Obj)}{s:W6}{sc scope:Scope}{t0:Tok}{w:Ww}
abbrev Key:=Sum Int Str
def i9:Key->Value->Bool|.inl k,v=>Value.isInt k v|.inr x,v=>Value.isStrOf x v
def t6(w:Ww):Key->Int|.inl k=>hashInt k|.inr x=>hashStr w x
theorem kZ:∀{k:Key}{v:Value},i9 k v=true->(∃i t,k=Sum.inl i/\v=Value.int i t)\/∃x t,k=Sum.inr x/\v=Value.str x t|.inl i,v,h=>by obtain⟨t,e⟩:=Value.isInt_shape (k:=i) (v:=v) h;exact .inl ⟨i,t,rfl,e⟩|.inr x,v,h=>by obtain⟨t,e⟩:=Value.isStrOf_shape (x:=x) (v:=v) h;exact .inr ⟨x,t,rfl,e⟩
theorem Ms(i:Int)(t:Tok):i9 (.inl i) (.int i t)=true:=#v[i9,Value.isInt]
theorem Mt(x:Str)(t:Tok):i9 (.inr x) (.str x t)=true:=#v[i9,Value.isStrOf]
theorem Mu(a b:Int):decide ((Sum.inl a:Key)=Sum.inl b)=(a==b):=by grind
theorem Mv(a b:Str):decide ((Sum.inr a:Key)=Sum.inr b)=decide (a=b):=by grind
theorem Mw(a:Int)(b:Str):decide ((Sum.inl a:Key)=Sum.inr b)=false:=by grind
theorem Mx(a:Str)(b:Int):decide ((Sum.inr a:Key)=Sum.inl b)=false:=by grind
def cL(prog:Wt)(w:Ww):PySem.KeyKind prog w Key where
 is:=i9
 hash:=t6 w
 inj:=λv a b ha hb=>by grind[kZ]
 byValue:=λk v h=>by rcases kZ h with⟨i,t,rfl,rfl⟩|⟨x,t,rfl,rfl⟩<;>rfl
 pyHash:=λhv h=>by
  rcases kZ hv with⟨i,t,rfl,rfl⟩|⟨x,t,rfl,rfl⟩;.exact wpAny_pyHash_int h
  .exact wpAny_pyHash_str h
 eqBool:=λhu hv h=>by
  rcases kZ hu with⟨i,t,rfl,rfl⟩|⟨x,t,rfl,rfl⟩
  .rcases kZ hv with⟨j,u,rfl,rfl⟩|⟨y,u,rfl,rfl⟩;.rw[Mu]at h;exact wpAny_eqBool_int h
   .rw[Mw]at h;exact SeqAt.EqAt.int_str i t y u _ _ _ _ h
  .rcases kZ hv with⟨j,u,rfl,rfl⟩|⟨y,u,rfl,rfl⟩;.rw[Mx]at h;exact SeqAt.EqAt.str_int x t j u _ _ _ _ h
   .rw[Mv]at h;exact wpAny_eqBool_str h
 «strs»:=λk x t v h=>by
  rcases kZ h with⟨i,u,rfl,e⟩|⟨y,u,rfl,e⟩;.exact nomatch e
  .injection e with e1 _;subst e1;cases v<;>rfl
theorem Bz(prog:Wt)(w:Ww)(k:Key)(v:Value):(cL prog w).is k v=i9 k v:=rfl
theorem My(prog:Wt)(w:Ww)(i:Int)(t:Tok):(cL prog w).is (.inl i) (.int i t)=true:=Ms i t
theorem Mz(prog:Wt)(w:Ww)(x:Str)(t:Tok):(cL prog w).is (.inr x) (.str x t)=true:=Mt x t
inductive V where|aX|bl(b:Bool)|int(i:Int)|str(x:Str)|byt(b:Array UInt8)|flt(b:UInt64)|ref(a:Addr)|ty(n:String)deriving DecidableEq
variable{ME:List (Str×V)}{kps kvs:List (Key×V)}{mr vs ys:List V}
def RelV:V->Value->Prop|.aX,u=>u=Value.none|.bl b,u=>u=Value.bool b|.int i,u=>∃t,u=Value.int i t|.str x,u=>∃t,u=Value.str x t|.byt b,u=>∃t,u=Value.bytes b t|.flt b,u=>∃t,u=Value.float b t|.ref a,u=>u=Value.ref a|.ty n,u=>u=Value.type n
abbrev Vals:List V->List Value->Prop:=Paired RelV
theorem Vals.length(r:Vals xs us):xs.length=us.length:=Paired.length r
theorem Vals.get:∀{xs:List V}{us:List Value}{i:Nat}{x:V},Vals xs us->xs[i]?=some x->∃u,us[i]?=some u/\RelV x u|_,_,_,_,.nil,e=>by simp at e|_,_,0,_,.cons r _,e=>by simp at e;subst e;exact⟨_,rfl,r⟩|_,_,i+1,x,.cons _ t,e=>by obtain⟨u,h1,h2⟩:=Vals.get (i:=i) (x:=x) t (~~~e);exact⟨u,~~~h1,h2⟩
theorem Vals.set{x}(r:RelV x u):∀{xs:List V}{us:List Value}(i:Nat),Vals xs us->Vals (xs.set i x) (us.set i u)|_,_,_,.nil=>.nil|_,_,0,.cons _ t=>.cons r t|_,_,i+1,.cons q t=>.cons q (Vals.set r i t)
theorem Vals.append{xs ys:List V}{us ws:List Value}(h:Vals xs us)(s:Vals ys ws):Vals (xs++ys) (us++ws):=by induction h with|nil=>exact s|cons r t ih=>exact .cons r ih
theorem Vals.take:∀{xs:List V}{us:List Value}(n:Nat),Vals xs us->Vals (xs.take n) (us.take n)|_,_,0,_=>.nil|_,_,_+1,.nil=>.nil|_,_,n+1,.cons r t=>.cons r (Vals.take n t)
theorem Vals.drop:∀{xs:List V}{us:List Value}(n:Nat),Vals xs us->Vals (xs.drop n) (us.drop n)|_,_,0,r=>r|_,_,_+1,.nil=>.nil|_,_,n+1,.cons _ t=>Vals.drop n t
def d_:Option V->Option Value->Prop|some v,some u=>RelV v u|none,none=>True|_,_=>False
def KV{κ:Type}:List (κ×V)->List (κ×Value)->Prop:=Paired λ(p:κ×V)(q:κ×Value)=>p.1=q.1/\RelV p.2 q.2
def kV:Key->V|.inl i=>.int i|.inr x=>.str x
inductive NK where|i(z:Int)|s(x:Str)|t(ks:List NK)
noncomputable instance nkDec:DecidableEq NK:=λa b=>Classical.propDecidable (a=b)
mutual def fq(w:Ww):NK->Int|.i z=>t6 w (.inl z)|.s x=>t6 w (.inr x)|.t ks=>reduceHash (Builtin.Tuple.tupleHashOf (t8 w ks))def t8(w:Ww):List NK->List Int|[]=>[]|k::ks=>fq w k::t8 w ks end
inductive HO where|lst(xs:List V)|tup(xs:List V)|dK(kvs:List (Key×V))|dT(kvs:List (List Key×V))|set(S:Int->Bool)(n:Nat)|ins(C dx:Addr)(fs:List (Str×V))|own(x:Addr)|xd(fs:List (Str×V))|met(f x:Addr)|k6(lo hi:Int)|frz(o:Obj)(u:HO)|tbl(ps:Array Value)|ctab(pos:Pos)(q:Str)|dN(ep:Nat)(kvs:List (NK×V×V))|ext(φ:Heap->Prop)
abbrev Hp:=Addr->Option HO
variable{H H':Hp}
def upd(H:Hp)(a:Addr)(o:HO):Hp:=λb=>if b=a then some o else H b
theorem cW:upd H a o a=some o:=by unfold upd;rw[if_pos rfl]
theorem aN(h:b≠a):upd H a o b=H b:=by unfold upd;rw[if_neg h]
theorem MA{u}:upd (upd H a o) a u=upd H a u:=by funext b;unfold upd;split<;>rfl
theorem MB{b:Addr}{o u:HO}(h:H a=some o)(h':H b=some u)(d:o≠u):a≠b:=by grind
theorem gF{b:Addr}{o:HO}(h:H a=some o)(h':H b=none):a≠b:=by grind
def i_(h:Heap)(a:Addr)(ak:Array Value):Prop:=∃n,h.get? a=some {cls:=.type "tuple",dict:=none,data:=.seq ak n,slots:=#[]}
theorem i_.tup{h a ak}(x:i_ h a ak):IsTup h a ak:=let⟨n,e⟩:=x;⟨_,e,rfl,n,rfl⟩
theorem i_.new(h:Heap)(ak:Array Value):i_ (h.push {cls:=.type "tuple",data:=.seq ak}) h.objs.size ak:=⟨_,Wi _ rfl⟩
theorem i_.lt{ak}(x:i_ h a ak):a<h.objs.size:=let⟨_,e⟩:=x;Wm e
section
variable(P:Wt)(w:Ww)
def bP(H:Hp)(h:Heap)(a:Addr):HO->Prop|.lst xs=>xs.length<=Wd/\∃(ak:List Value)(n:Nat),Vals xs ak/\h.get? a=some {cls:=.type "list",data:=.seq ak.toArray n}|.tup xs=>xs.length<=Wd/\∃ak:List Value,Vals xs ak/\i_ h a ak.toArray|.dK kvs=>kvs.length<=Wd/\(a==Qw)=false/\∃vs,KV kvs vs/\h.DictOf (cL P w) a vs|.dT kvs=>kvs.length<=Wd/\(a==Qw)=false/\∃xs:List (List Key×Addr×Value),Paired (λ(p:List Key×V)(q:List Key×Addr×Value)=>p.1=q.1/\H q.2.1=some (.tup (p.1.map kV))/\RelV p.2 q.2.2) kvs xs/\∃o es ep,h.get? a=some o/\o.ExactDict/\o.data=.dict es ep/\es.toList=xs.map (entryOfKey (tupleKind (cL P w)))/\(xs.map (·.1)).Nodup|.set S n=>h.SetOf (intKind P w) a S n|.ins C dx fs=>H dx=some (.own a)/\fs.length<=1000/\dx≠a/\h.get? a=some (PySem.W.instObj C dx)/\∃mA,h.Ns1 dx mA/\(∀f,d_ (fs.lookup f) (mA f))/\PySem.Within mA (fs.map (·.1))|.own _=>∃o,h.get? a=some o|.xd fs=>∃mA,h.Ns1 a mA/\∀f,d_ (fs.lookup f) (mA f)|.k6 lo hi=>∃t u v,h.get? a=some {cls:=.type "range",data:=.fields #[.int lo t,.int hi u,.int 1 v]}|.frz o u=>h.get? a=some o/\bP H h a u|.tbl ps=>h.get? a=some {cls:=.none,data:=.fields ps}|.dN ep kvs=>kvs.length<=Wd/\(a==Qw)=false/\∃o es,h.get? a=some o/\o.ExactDict/\o.data=.dict es ep/\Paired (λ(p:NK×V×V)(e:DictEntry)=>e.hash=fq w p.1/\RelV p.2.1 e.key/\RelV p.2.2 e.val) kvs es.toList/\(kvs.map (·.1)).Nodup|.ctab pos q=>∃ps,h.get? a=some {cls:=.none,data:=.fields ps}/\TriplesOk ps.toList/\∀cv,codeAmong pos ps.toList=some cv->∃c' oc,cv=.ref c'/\H c'=some (.frz oc (.ext λj=>True))/\∃vs tq,oc.data=.fields vs/\vs[1]?=some (.str q tq)|.met f x=>h.get? a=some (PySem.W.methodObj (.ref f) (.ref x))|.ext φ=>φ h/\(∃o,h.get? a=some o)/\∀h1 h2:Heap,φ h1->(∀o,h1.get? a=some o->h2.get? a=some o)->φ h2
def cA(H:Hp)(h:Heap):Prop:=∀a o,H a=some o->bP P w H h a o
end
section
variable{o:HO}
theorem bP.lt(x:bP P w H h a o):a<h.objs.size:=by cases o with|lst xs=>obtain⟨_,_,_,_,e⟩:=x;exact Wm e|tup xs=>obtain⟨_,_,_,p⟩:=x;exact p.lt|dK kvs=>obtain⟨_,_,_,_,o,_,_,e,_⟩:=x;exact Wm e|dT kvs=>obtain⟨_,_,_,_,o,_,_,e,_⟩:=x;exact Wm e|set S n=>obtain⟨o,_,_,_,e,_⟩:=x;exact Wm e|ins C dx fs=>obtain⟨_,_,_,e,_⟩:=x;exact Wm e|own y=>obtain⟨_,e⟩:=x;exact Wm e|xd fs=>obtain⟨_,⟨_,_,_,e,_⟩,_⟩:=x;exact Wm e|k6 lo hi=>obtain⟨_,_,_,e⟩:=x;exact Wm e|frz ob u=>obtain⟨e,_⟩:=x;exact Wm e|tbl ps=>exact Wm (show h.get? a=some _ from x)|ctab pos q=>obtain⟨_,e,_⟩:=x;exact Wm e|dN ep kvs=>obtain⟨_,_,_,_,e,_⟩:=x;exact Wm e|met f y=>exact Wm (show h.get? a=some _ from x)|ext φ=>obtain⟨_,⟨_,e⟩,_⟩:=x;exact Wm e
theorem Paired.xk{l₁:List α}{l₂:List β}(h:Paired F l₁ l₂)(f:∀a b,F a b->G a b):Paired G l₁ l₂:=by induction h with|nil=>exact .nil|cons r t ih=>exact .cons (f _ _ r) ih
theorem bP.oR(x:bP P w H h a o)(k:∀b u,b=a\/H b=some (.own a)->h.get? b=some u->h'.get? b=some u)(ho:∀b,H b=some (.own a)->H' b=some (.own a))(ht:∀b xs,H b=some (.tup xs)->H' b=some (.tup xs))(hf:∀b o u,H b=some (.frz o u)->H' b=some (.frz o u)):bP P w H' h' a o:=by induction o with|lst xs=>obtain⟨z,ak,n,r,e⟩:=x;exact⟨z,ak,n,r,k _ _ (.inl rfl) e⟩|tup xs=>obtain⟨z,ak,r,n,e⟩:=x;exact⟨z,ak,r,n,k _ _ (.inl rfl) e⟩|dK kvs=>obtain⟨z,y,vs,r,ob,es,ep,e,c⟩:=x;exact⟨z,y,vs,r,ob,es,ep,k _ _ (.inl rfl) e,c⟩|dT kvs=>obtain⟨z,y,xs,r,ob,es,ep,e,c⟩:=x;exact⟨z,y,xs,Paired.xk r λp q z=>⟨z.1,ht _ _ z.2.1,z.2.2⟩,ob,es,ep,k _ _ (.inl rfl) e,c⟩|set S n=>obtain⟨ob,es,ep,t,e,c⟩:=x;exact⟨ob,es,ep,t,k _ _ (.inl rfl) e,c⟩|ins C dx fs=>obtain⟨d,z,ne,e,mA,⟨od,es,ep,e2,c⟩,r⟩:=x;exact⟨ho _ d,z,ne,k _ _ (.inl rfl) e,mA,⟨od,es,ep,k _ _ (.inr d) e2,c⟩,r⟩|own y=>obtain⟨ob,e⟩:=x;exact⟨ob,k _ _ (.inl rfl) e⟩|xd fs=>obtain⟨mA,⟨od,es,ep,e,c⟩,r⟩:=x;exact⟨mA,⟨od,es,ep,k _ _ (.inl rfl) e,c⟩,r⟩|k6 lo hi=>obtain⟨t,u,v,e⟩:=x;exact⟨t,u,v,k _ _ (.inl rfl) e⟩|frz ob u ih=>obtain⟨e,q⟩:=x;exact⟨k _ _ (.inl rfl) e,ih q⟩|dN ep kvs=>obtain⟨z,y,ob,es,e,c⟩:=x;exact⟨z,y,ob,es,k _ _ (.inl rfl) e,c⟩|ctab pos q=>obtain⟨ps,e,t,r⟩:=x;exact⟨ps,k _ _ (.inl rfl) e,t,λcv z=>let⟨c',oc,z1,z2,z3⟩:=r cv z;⟨c',oc,z1,hf _ _ _ z2,z3⟩⟩|tbl ps=>have e:h.get? a=some {cls:=.none,data:=.fields ps}:=x;show h'.get? a=some {cls:=.none,data:=.fields ps};exact k a _ (.inl rfl) e|met f y=>have e:h.get? a=some (PySem.W.methodObj (.ref f) (.ref y)):=x;show h'.get? a=some (PySem.W.methodObj (.ref f) (.ref y));exact k a _ (.inl rfl) e|ext φ=>obtain⟨p,⟨o,e⟩,st⟩:=x;exact⟨st _ _ p λo q=>k _ _ (.inl rfl) q,⟨o,k _ _ (.inl rfl) e⟩,st⟩
theorem cA.lt(x:cA P w H h)(e:H a=some o):a<h.objs.size:=(x a o e).lt
theorem cA.fresh(x:cA P w H h)(e:h.objs.size<=a):H a=none:=by cases q:H a with|none=>rfl|some u=>exact absurd (Wz (x.lt q) e) (Jd _)
theorem cA.kept(x:cA P w H h)(k:∀b u,h.get? b=some u->h'.get? b=some u):cA P w H h':=λa o e=>(x a o e).oR (λb u j q=>k b u q) (λj q=>q) (λj j q=>q) λj j j q=>q
theorem cA.laid(x:cA P w H h)(k:∀b u,h.get? b=some u->h'.get? b=some u)(hp:h.objs.size<=a)(new:bP P w (upd H a o) h' a o):cA P w (upd H a o) h':=λb u e=>by
 have hn:=x.fresh hp;by_cases hb:b=a;.grind[cW]
 .rw[aN hb]at e;exact(x b u e).oR (λc v j q=>k c v q) (λc q=>%[aN (gF q hn)|q]) (λc xs q=>%[aN (gF q hn)|q]) λc o u q=>%[aN (gF q hn)|q]
end
def Rd(H:Hp)(a:Addr)(u:HO):Prop:=H a=some u\/∃o,H a=some (.frz o u)
theorem Rd.ok{u}(r:Rd H a u)(x:cA P w H h):bP P w H h a u:=by
 rcases r with r|⟨o,r⟩;.exact x a u r
 .obtain⟨_,q⟩:=x a _ r;exact q
def qt:Option HO->Prop|some (.lst _)=>True|some (.dK _)=>True|some (.dT _)=>True|some (.dN _ _)=>True|some (.set _ _)=>True|some (.ins _ _ _)=>True|some (.ext _)=>True|_=>False
section
variable{x e:Addr}{o':HO}
theorem cA.write(ok:cA P w H h)(mu:qt (H x))(he:e=x\/H e=some (.own x))(k:∀b u,b≠e->h.get? b=some u->h'.get? b=some u)(qu:∃u,h'.get? e=some u)(new:bP P w (upd H x o') h' x o'):cA P w (upd H x o') h':=λb u q=>by
 have t9:∀c y,H c=some (.own y)->c≠x:=λc y r z=>by subst z;rw[r]at mu;exact mu
 have MC:∀c xs,H c=some (.tup xs)->c≠x:=λc xs r z=>by subst z;rw[r]at mu;exact mu
 have MD:∀c o u,H c=some (.frz o u)->c≠x:=λc o u r z=>by subst z;rw[r]at mu;exact mu
 by_cases hb:b=x;.grind[cW]
 .rw[aN hb]at q;by_cases hbe:b=e
  .have q':H b=some (.own x):=by grind
   rw[q]at q';cases q';obtain⟨v,hv⟩:=qu;exact⟨v,%[hbe|hv]⟩
  .refine(ok b u q).oR (λc v hc r=>k c v ?_ r) (λc r=>%[aN (t9 c b r)|r]) (λc xs r=>%[aN (MC c xs r)|r]) λc o u r=>%[aN (MD c o u r)|r];grind
end
structure Un(fs ex:List Addr)(H H':Hp)(h h':Heap):Prop where
 keep:∀b o,h.get? b=some o->H b=none->b∉fs->b∉ex->h'.get? b=some o
 slot:∀b o,h.get? b=some o->H b=none->b∈fs->b∉ex->∃sl,h'.get? b=some {o with slots:=sl}free:∀b o,h.get? b=some o->H b=none->b∉ex->H' b=none
 there:∀b o,h.get? b=some o->b∉ex->∃o',h'.get? b=some o'
 l_:∀b xs,H b=some (.tup xs)->H' b=some (.tup xs)k7:∀b o u,H b=some (.frz o u)->H' b=some (.frz o u)nP:∀b ps,H b=some (.tbl ps)->∃more,H' b=some (.tbl (ps++more))
section
variable{fs ME ex ex':List Addr}{H1 H2:Hp}{h1 h2:Heap}{x e:Addr}{o:HO}
theorem Un.any(u:Un fs ex H H1 h h1)(q:h.get? b=some ob)(n:H b=none)(hx:b∉ex):∃sl,h1.get? b=some {ob with slots:=sl}:=by
 by_cases hb:b∈fs;.exact u.slot b ob q n hb hx
 .exact⟨ob.slots,u.keep b ob q n hb hx⟩
theorem Un.kept(k:∀b u,h.get? b=some u->h'.get? b=some u):Un fs ex H H h h':=⟨λb ob q j j j=>k b ob q,λb ob q j j j=>⟨ob.slots,k b ob q⟩,λj j j n j=>n,λb ob q j=>⟨ob,k b ob q⟩,λj j q=>q,λj j j q=>q,λj ps q=>⟨#[],by rw[q];simp⟩⟩
theorem Un.refl:Un fs ex H H h h:=Un.kept λj j q=>q
theorem Un.laid(k:∀b u,h.get? b=some u->h'.get? b=some u)(hp:h.objs.size<=a)(hn:H a=none):Un fs ex H (upd H a o) h h' where
 keep:=λb u q j j j=>k b u q
 slot:=λb u q j j j=>⟨u.slots,k b u q⟩
 free:=λb u q n j=>%[aN (Wr (Wz (Wm q) hp))|n]
 there:=λb u q j=>⟨u,k b u q⟩
 l_:=λb xs q=>%[aN (gF q hn)|q]
 k7:=λb u xs q=>%[aN (gF q hn)|q]
 nP:=λb ps q=>⟨#[],by rw[aN (gF q hn),q];simp⟩
theorem Un.write(mu:qt (H x))(he:e=x\/H e=some (.own x))(k:∀b u,b≠e->h.get? b=some u->h'.get? b=some u)(qu:∃u,h'.get? e=some u):Un fs ex H (upd H x o) h h':=by
 have hx:∀b,H b=none->b≠x:=λb n z=>by subst z;rw[n]at mu;exact mu
 have hb:∀b,H b=none->b≠e:=λb n z=>by grind
 have hm:∀b u,H b=some u->¬qt (some u)->b≠x:=λb u q nm z=>by grind
 refine⟨λb u q n j j=>k b u (hb b n) q,λb u q n j j=>⟨u.slots,k b u (hb b n) q⟩,λb u q n j=>%[aN (hx b n)|n],λb u q j=>?_,λb xs q=>%[aN (hm b _ q λz=>z)|q],λb u xs q=>%[aN (hm b _ q λz=>z)|q],λb ps q=>⟨#[],by rw[aN (hm b _ q λz=>z),q];simp⟩⟩;grind
end
def xl(h:Heap)(H:Hp):List Addr:=(W7 h.objs.size).filter λa=>(H a).isSome
def k8(h:Heap)(H:Hp):Heap:=PySem.W.hideAll h (xl h H)
theorem MF(h:Heap)(H:Hp):(k8 h H).objs.size=h.objs.size:=PySem.W.hideAll_size _ _
theorem MG(e:h.get? b=some o)(n:H b=none):(k8 h H).get? b=some o:=PySem.W.hideAll_get _ e λhm=>by have q:(H b).isSome=true:=(Qs.mp hm).2;rw[n]at q;simp at q
theorem MH(e:(k8 h H).get? b=some o):h.get? b=some o/\H b=none:=by have e':h.get? b=some o:=PySem.W.of_hideAll (xl h H) e;refine⟨e',?_⟩;cases q:H b with|none=>rfl|some x=>have hm:b∈xl h H:=List.mem_filter.mpr ⟨Ws.mpr (Wm e'),#v[q]⟩;grind[k8,W.hideAll_none]
def MI(g h:Heap)(L:Addr):List (Addr×Obj):=(W7 h.objs.size).filterMap λa=>if a=L\/(g.get? a).isSome=true then none else(h.get? a).map λo=>(a,o)
def rest(g h:Heap)(L d:Addr):List (Addr×Obj):=(MI g h L).filter λp=>decide (p.1≠d)
structure Mod(K:Wa)(mg:Str->Option Value)(base:Heap):Prop where
 xm:K.In base
 glob:base.Ns WE mg
 blt:∃mb,base.Ns builtinsNs mb/\∀x:Str,x≠"__name__"->mb x=QU x
 nolimit:base.NoLimit
structure Cx where
 prog:Wt
 w:Ww
 K:Wa
 mg:Str->Option Value
 base:Heap
 A:WA
 N:List Str
 s₀:W6
 H₀:Hp
 env:Env
 outer:List Env
 stack:List Env
 ex:List Addr
 fn:Str->Bool
 calm:Bool
 pn:List (Addr×Obj)xe:Value->W6->Prop
variable{X:Cx}
def iF(l:List Env):List Addr:=l.filterMap (·.frame)
abbrev Cx.fs(X:Cx):List Addr:=iF X.outer
def t_(sc:Scope)(x:Str):Prop:=sc.names.lookup x=some .local\/sc.names.lookup x=some .cell\/sc.names.lookup x=some .free
def Loc(sc:Scope)(x:Str):Prop:=sc.names.lookup x=some .local\/sc.names.lookup x=some .cell
def Look(env:Env)(h:Heap)(m:Str->Option Value)(x:Str)(u:Value):Prop:=env.kindOf x=some .local/\m x=some u\/(env.kindOf x=some .cell\/env.kindOf x=some .free)/\∃c,env.cells.lookup x=some c/\h.IsCell c (some u)
structure Cx.Ok(X:Cx):Prop where
 mod:Mod X.K X.mg X.base
 kind:X.env.scope.kind=.function
 glob:X.env.globals=WE
 blt:X.env.builtins=builtinsNs
 above:X.s₀.heap.objs.size<=X.env.locals
 inj:∀x y c,X.env.cells.lookup x=some c->X.env.cells.lookup y=some c->x=y
 has:∀x,X.env.kindOf x=some .cell\/X.env.kindOf x=some .free->∃c,X.env.cells.lookup x=some c
 qv:∀x c,X.fn x=true->X.env.cells.lookup x=some c->X.s₀.heap.objs.size<=c
 hd:X.calm=true->X.A.handled=none
 frames:X.A.frames=some X.stack
 ua:X.stack=X.outer\/X.stack=X.env::X.outer/\X.env.frame=some X.env.locals
 ub:∀b∈X.ex,b≠X.env.locals/\∀x c,X.env.cells.lookup x=some c->c≠b
 bs:∀b o,X.base.get? b=some o->X.s₀.heap.get? b=some o/\X.H₀ b=none
 nQ:X.base.objs.size<=X.s₀.heap.objs.size
 qw:∀b o,X.base.get? b=some o->b∉X.ex
 qx:∀b∈X.ex,b∉X.fs
 jG:X.s₀.heap.FunFrames X.base X.outer
 oS:∀b∈X.fs,X.H₀ b=none
structure Inv(X:Cx)(pins:List (Addr×Obj))(J:List (Option V))(H:Hp)(s:W6):Prop where
 ok:X.Ok
 os:s.os=X.s₀.os
 bare:AllBare s.gens
 base:Un X.fs X.ex X.H₀ H X.s₀.heap s.heap
 loc:∃m,s.heap.Ns X.env.locals m/\∀(i:Nat)(x:Str)(v:V),X.N[i]?=some x->J[i]?=some (some v)->t_ X.env.scope x->∃u,RelV v u/\Look X.env s.heap m x u
 cell:∀x c,X.env.cells.lookup x=some c->∃v,s.heap.IsCell c v
 free:H X.env.locals=none
 ja:∀x c,X.env.cells.lookup x=some c->H c=none
 pin:∀p∈X.pn++pins,s.heap.get? p.1=some p.2/\H p.1=none/\p.1≠X.env.locals/\p.1∉X.fs/\∀v,p.2.data≠.cell v
 aD:cA X.prog X.w H s.heap
 len:J.length=X.N.length
section
variable{J:List (Option V)}
theorem Cx.Ok.MJ(ok:X.Ok)(e:X.base.get? b=some o):b∉X.fs:=λhb=>by have:=(ok.jG.mem hb).1;grind
theorem Inv.bs(I:Inv X pins J H s):∀b o,X.base.get? b=some o->s.heap.get? b=some o/\H b=none:=λb o e=>⟨I.base.keep b o (I.ok.bs b o e).1 (I.ok.bs b o e).2 (I.ok.MJ e) (I.ok.qw b o e),I.base.free b o (I.ok.bs b o e).1 (I.ok.bs b o e).2 (I.ok.qw b o e)⟩
theorem Inv.bk(I:Inv X pins J H s):∀b o,X.base.get? b=some o->s.heap.get? b=some o:=λb o e=>(I.bs b o e).1
theorem Inv.mod(I:Inv X pins J H s):Mod X.K X.mg X.base:=I.ok.mod
theorem Inv.gj(I:Inv X pins J H s):X.K.In s.heap:=I.ok.mod.xm.keeps I.bk
theorem Inv.lt(I:Inv X pins J H s):X.env.locals<s.heap.objs.size:=let⟨_,hn,_⟩:=I.loc;hn.lt
theorem Inv.sz(I:Inv X pins J H s):X.s₀.heap.objs.size<=s.heap.objs.size:=Wq I.ok.above (QV I.lt)
theorem Inv.MK{a}(I:Inv X pins J H s)(h:s.heap.objs.size<=a):a∉X.fs:=λhb=>by obtain⟨_,o,ho,_⟩:=I.ok.jG.mem hb;exact absurd (Wz (Wm ho) (Wq I.sz h)) (Jd _)
theorem Inv.nR(I:Inv X pins J H s):∀x c,X.env.cells.lookup x=some c->c≠X.env.locals:=λx c e z=>by obtain⟨v,o,ho,hd⟩:=I.cell x c e;obtain⟨m,⟨o',es,ep,ho',BA,_⟩,_⟩:=I.loc;grind
theorem Inv.jG(I:Inv X pins J H s):s.heap.FunFrames X.base X.outer:=by
 have all:∀(l:List Env),(∀b∈iF l,b∈X.fs)->X.s₀.heap.FunFrames X.base l->s.heap.FunFrames X.base l:=by intro l;induction l with|nil=>intro _ _;trivial|cons env r ih=>intro hs hl;obtain⟨hk,⟨L,o,hf,hn,ho,hd⟩,hr⟩:=hl;have hL:L∈X.fs:=hs L (by unfold iF;rw[List.filterMap_cons,hf];exact Wc);obtain⟨sl,e⟩:=I.base.slot L o ho (I.ok.oS L hL) hL λz=>I.ok.qx L z hL;exact⟨hk,⟨L,_,hf,hn,e,hd⟩,ih (λb hb=>hs b (by unfold iF;rw[List.filterMap_cons,hf];exact W8 _ hb)) hr⟩
 exact all X.outer (λj hb=>hb) I.ok.jG
theorem Inv.stack(I:Inv X pins J H s):s.heap.FunFrames X.base X.stack:=by
 rcases I.ok.ua with e|⟨e,hf⟩;.rw[e];exact I.jG
 .rw[e];obtain⟨m,hn,_⟩:=I.loc;refine .cons (by rw[I.ok.kind];decide) hf hn ?_ I.jG;exact Heap.get?_none_of_le (Wq I.ok.nQ I.ok.above)
theorem Inv.xn(I:Inv X pins J H s):∀b∈iF X.stack,b∈X.env.locals::X.fs:=λb hb=>by
 rcases I.ok.ua with e|⟨e,hf⟩;.rw[e]at hb;exact W8 _ hb
 .rw[e]at hb;unfold iF at hb;rw[List.filterMap_cons,hf]at hb;exact hb
theorem Inv.BC(I:Inv X pins J H s):∀b∈iF X.stack,H b=none:=λb hb=>by
 rcases Wv.mp (I.xn b hb)with e|hb;.rw[e];exact I.free
 .obtain⟨_,o,ho,_⟩:=I.ok.jG.mem hb;exact I.base.free b o ho (I.ok.oS b hb) λz=>I.ok.qx b z hb
theorem Inv.step{g':Array GenState}{t':Nat}{d':Drawn}(I:Inv X pins J H s)(ke:∀b∈ch,(b∈X.ex\/X.s₀.heap.objs.size<=b)/\b≠X.env.locals/\(∀x c,X.env.cells.lookup x=some c->c≠b)/\∀p∈X.pn++pins,p.1≠b)(keep:∀b o,b≠X.env.locals->b∉X.fs->b∉ch->s.heap.get? b=some o->H b=none->h'.get? b=some o)(slot:∀b o,b≠X.env.locals->b∈X.fs->b∉ch->s.heap.get? b=some o->H b=none->∃sl,h'.get? b=some {o with slots:=sl})(free:∀b o,b∉ch->s.heap.get? b=some o->H b=none->H' b=none)(there:∀b o,b∉ch->s.heap.get? b=some o->∃o',h'.get? b=some o')(l_:∀b xs,H b=some (.tup xs)->H' b=some (.tup xs))(k7:∀b o u,H b=some (.frz o u)->H' b=some (.frz o u))(nP:∀b ps,H b=some (.tbl ps)->∃more,H' b=some (.tbl (ps++more)))(ns:∀m,s.heap.Ns X.env.locals m->h'.Ns X.env.locals m)(aD:cA X.prog X.w H' h')(hg:AllBare g'):Inv X pins J H' {s with heap:=h',gens:=g',drawn:=d',toks:=t'}:=by
 have BF:∀b o,X.s₀.heap.get? b=some o->b≠X.env.locals:=λb o e=>Wr (Wz (Wm e) I.ok.above);have uc:∀b o,X.s₀.heap.get? b=some o->b∉X.ex->b∉ch:=λb o e hx hb=>by
  rcases(ke b hb).1 with z|z;.exact hx z
  .exact absurd (Wz (Wm e) z) (Jd _)
 have cellK:∀x c,X.env.cells.lookup x=some c->∀v,s.heap.IsCell c v->h'.IsCell c v:=λx c e v⟨o,ho,hd⟩=>by
  have qy:c∉ch:=λz=>(ke c z).2.2.1 x c e rfl;by_cases hc:c∈X.fs;.obtain⟨sl,q⟩:=slot c o (I.nR x c e) hc qy ho (I.ja x c e);exact⟨_,q,hd⟩
  .exact⟨o,keep c o (I.nR x c e) hc qy ho (I.ja x c e),hd⟩
 refine⟨I.ok,I.os,hg,⟨λb o e n hb hx=>?_,λb o e n hb hx=>?_,λb o e n hx=>?_,λb o e hx=>?_,λb xs e=>l_ b xs (I.base.l_ b xs e),λb o xs e=>k7 b o xs (I.base.k7 b o xs e),λb ps e=>?_⟩,?_,λx c e=>?_,?_,λx c e=>?_,λp hp=>?_,aD,I.len⟩;.exact keep b o (BF b o e) hb (uc b o e hx) (I.base.keep b o e n hb hx) (I.base.free b o e n hx)
 .obtain⟨sl,e1⟩:=I.base.slot b o e n hb hx;obtain⟨sl',e2⟩:=slot b _ (BF b o e) hb (uc b o e hx) e1 (I.base.free b o e n hx);exact⟨sl',e2⟩
 .obtain⟨o',e1⟩:=I.base.there b o e hx;exact free b o' (uc b o e hx) e1 (I.base.free b o e n hx)
 .obtain⟨o',e1⟩:=I.base.there b o e hx;exact there b o' (uc b o e hx) e1
 .obtain⟨m1,e1⟩:=I.base.nP b ps e;grind
 .obtain⟨m,hn,hl⟩:=I.loc;refine⟨m,ns m hn,λi x v e1 e2 e3=>?_⟩;obtain⟨u,r,l⟩:=hl i x v e1 e2 e3;refine⟨u,r,?_⟩;rcases l with l|⟨k,c,e,z⟩;.exact .inl l
  .exact .inr ⟨k,c,e,cellK x c e _ z⟩
 .obtain⟨v,z⟩:=I.cell x c e;exact⟨v,cellK x c e v z⟩
 .obtain⟨m,⟨o,_,_,ho,_⟩,_⟩:=I.loc;exact free _ o (λz=>(ke _ z).2.1 rfl) ho I.free
 .obtain⟨v,o,ho,hd⟩:=I.cell x c e;exact free c o (λz=>(ke c z).2.2.1 x c e rfl) ho (I.ja x c e)
 .obtain⟨e,n,ne,nf,d⟩:=I.pin p hp;have qy:p.1∉ch:=λz=>(ke p.1 z).2.2.2 p hp rfl;exact⟨keep p.1 p.2 ne nf qy e n,free p.1 p.2 qy e n,ne,nf,d⟩
theorem Inv.un{t':Nat}(I:Inv X pins J H s)(u:Un X.fs [] H H' s.heap h')(aD:cA X.prog X.w H' h'):Inv X pins J H' {s with heap:=h',toks:=t'}:=by obtain⟨m,⟨o,es,ep,ho,r⟩,_⟩:=id I.loc;obtain⟨sl,hL⟩:=u.any ho I.free V';exact I.step (g':=s.gens) (d':=s.drawn) (ch:=[]) (λj z=>nomatch z) (λb o j hb j e n=>u.keep b o e n hb V') (λb o j hb j e n=>u.slot b o e n hb V') (λb o j e n=>u.free b o e n V') (λb o j e=>u.there b o e V') u.l_ u.k7 u.nP (λm' hm=>by obtain⟨o',gU,gW,ho',r'⟩:=hm;rw[ho]at ho';cases ho';exact⟨_,gU,gW,hL,r'⟩) aD I.bare
theorem Inv.call{t':Nat}{d':Drawn}(I:Inv X pins J H s)(u:Un (iF X.stack) ch H H' s.heap h')(aD:cA X.prog X.w H' h')(hg:AllBare g')(ke:∀b∈ch,(b∈X.ex\/X.s₀.heap.objs.size<=b)/\b≠X.env.locals/\(∀x c,X.env.cells.lookup x=some c->c≠b)/\∀p∈X.pn++pins,p.1≠b):Inv X pins J H' {s with heap:=h',gens:=g',drawn:=d',toks:=t'}:=by obtain⟨m,⟨o,es,ep,ho,r⟩,_⟩:=id I.loc;obtain⟨sl,hL⟩:=u.any ho I.free λz=>(ke _ z).2.1 rfl;exact I.step (ch:=ch) ke (λb o hL hb hc e n=>u.keep b o e n (λz=>(Wv.mp (I.xn b z)).elim hL hb) hc) (λb o j j hc e n=>u.any e n hc) (λb o hc e n=>u.free b o e n hc) (λb o hc e=>u.there b o e hc) u.l_ u.k7 u.nP (λm' hm=>by obtain⟨o',gU,gW,ho',r'⟩:=hm;rw[ho]at ho';cases ho';exact⟨_,gU,gW,hL,r'⟩) aD hg
theorem Inv.turned{t':Nat}(I:Inv X pins J H s)(k:∀b o,b≠it->s.heap.get? b=some o->h'.get? b=some o)(hn:H it=none)(hL:it≠X.env.locals)(h1:it∈X.ex\/X.s₀.heap.objs.size<=it)(h2:∀x c,X.env.cells.lookup x=some c->c≠it)(h3:∀p∈X.pn++pins,p.1≠it):Inv X pins J H {s with heap:=h',toks:=t'}:=by
 have me:∀b u,H b=some u->b≠it:=λb u e z=>by grind
 refine I.step (g':=s.gens) (d':=s.drawn) (ch:=[it]) (λb hb=>?_) (by grind) (λb o j j hc e j=>⟨o.slots,k b o (λz=>hc #v[z]) e⟩) (λj j j j n=>n) (by grind) (λj j e=>e) (λj j j e=>e) (λb ps e=>⟨#[],by rw[e];simp⟩) (λm hm=>?_) (λb u e=>?_) I.bare;.have e:b=it:= ~~~hb;subst e;exact⟨h1,hL,h2,h3⟩
 .obtain⟨o,es,ep,ho,r⟩:=hm;exact⟨o,es,ep,k _ o (Ne.symm hL) ho,r⟩
 .refine(I.aD b u e).oR (λc v hc q=>k c v ?_ q) (λj q=>q) (λj j q=>q) λj j j q=>q;rcases hc with z|z;.rw[z];exact me b u e
  .exact me c _ z
theorem Inv.tok(I:Inv X pins J H s)(t:Nat):Inv X pins J H {s with toks:=t}:=I.un (h':=s.heap) (t':=t) Un.refl I.aD
theorem Inv.kept(I:Inv X pins J H s)(k:∀b u,s.heap.get? b=some u->h'.get? b=some u):Inv X pins J H {s with heap:=h',toks:=t'}:=I.un (Un.kept k) (I.aD.kept k)
theorem Inv.laid{a}(I:Inv X pins J H s)(k:∀b u,s.heap.get? b=some u->h'.get? b=some u)(hp:s.heap.objs.size<=a)(new:bP X.prog X.w (upd H a o) h' a o):Inv X pins J (upd H a o) {s with heap:=h',toks:=t'}:=I.un (Un.laid k hp (I.aD.fresh hp)) (I.aD.laid k hp new)
theorem Inv.write{x e}(I:Inv X pins J H s)(mu:qt (H x))(he:e=x\/H e=some (.own x))(k:∀b u,b≠e->s.heap.get? b=some u->h'.get? b=some u)(qu:∃u,h'.get? e=some u)(new:bP X.prog X.w (upd H x o) h' x o):Inv X pins J (upd H x o) {s with heap:=h',toks:=t'}:=I.un (Un.write mu he k qu) (I.aD.write mu he k qu new)
theorem Inv.weak(I:Inv X pins J H s)(hl:J'.length=J.length)(w:∀(i:Nat)v,J'[i]?=some (some v)->J[i]?=some (some v)):Inv X pins J' H s:=⟨I.ok,I.os,I.bare,I.base,let⟨m,hn,jb⟩:=I.loc;⟨m,hn,λi x v e1 e2 e3=>jb i x v e1 (w i v e2) e3⟩,I.cell,I.free,I.ja,I.pin,I.aD,hl.trans I.len⟩
theorem Inv.BG(I:Inv X pins J H s)(h:∀p∈pins',s.heap.get? p.1=some p.2/\H p.1=none/\p.1≠X.env.locals/\p.1∉X.fs/\∀v,p.2.data≠.cell v):Inv X pins' J H s:=⟨I.ok,I.os,I.bare,I.base,I.loc,I.cell,I.free,I.ja,λp hp=>(WI.mp hp).elim (λz=>I.pin p (Jx _ z)) (h p),I.aD,I.len⟩
theorem BH{N:List Str}(hN:N.Nodup){j:Nat}(a:N[i]?=some x)(b:N[j]?=some x):i=j:=by obtain⟨h1,e1⟩:=W9.mp a;obtain⟨h2,e2⟩:=W9.mp b;exact(List.getElem_inj hN).mp (e1.trans e2.symm)
theorem BI{M:Model}{A:WA}{E:Value->W6->Prop}{v:V}{Q:Unit->W6->Prop}(I:Inv X pins J H s)(hN:X.N.Nodup)(hi:X.N[i]?=some x)(hx:Loc X.env.scope x)(r:RelV v u)(h:∀s',Inv X pins (J.set i (some v)) H s'->(∃a,Ql a s.heap s'.heap/\(a=X.env.locals\/X.env.cells.lookup x=some a))->Q () s')(hf:X.fn x=true\/X.env.scope.names.lookup x=some .local:=by first|exact .inl rfl|exact .inr rfl|assumption):Wb M A (storeName X.env x u) Q E s:=by
 obtain⟨m,hn,hl⟩:=id I.loc;have ML:(X.env.scope.kind==.class||X.env.scope.kind==.module&&X.env.locals !=X.env.globals)=false:=by rw[I.ok.kind];rfl
 have BJ:i<J.length:=by rw[I.len];exact(W9.mp hi).1
 have nR:=I.nR;have tracked:∀{a:Addr}{h':Heap},(∃o,s.heap.get? a=some o/\H a=none)->Ql a s.heap h'->cA X.prog X.w H h':=λ{a h'}ha hs b ob e=>by obtain⟨_,_,ud⟩:=ha;refine(I.aD b ob e).oR (λc w' hc q=>(hs.2 c ?_).trans q) (λf q=>q) (λf f q=>q) λf f f q=>q;grind
 rcases hx with hk|hk
 .refine wpAny_storeName_local hk hn (λh' xo hs=>?_) ML;obtain⟨oL,_,_,hoL,_⟩:=id hn;refine h _ ⟨I.ok,I.os,I.bare,⟨λb o e n hb hx=>?_,λb o e n hb hx=>?_,I.base.free,λb o e hx=>?_,I.base.l_,I.base.k7,I.base.nP⟩,⟨_,xo,λj y v' e1 e2 e3=>?_⟩,λy c e=>?_,I.free,I.ja,λp hp=>?_,tracked ⟨oL,hoL,I.free⟩ hs,~~~I.len⟩ ⟨_,hs,.inl rfl⟩;.exact(hs.2 b (Wr (Wz (Wm e) I.ok.above))).trans (I.base.keep b o e n hb hx)
  .obtain⟨sl,e1⟩:=I.base.slot b o e n hb hx;exact⟨sl,(hs.2 b (Wr (Wz (Wm e) I.ok.above))).trans e1⟩
  .obtain⟨o',e1⟩:=I.base.there b o e hx;exact⟨o',(hs.2 b (Wr (Wz (Wm e) I.ok.above))).trans e1⟩
  .by_cases hj:j=i;.subst hj;rw[hi]at e1;cases e1;rw[Wh BJ]at e2;cases e2;exact⟨u,r,.inl ⟨hk,V'⟩⟩
   .rw[W4 (Ne.symm hj)]at e2;obtain⟨u',r',q⟩:=hl j y v' e1 e2 e3;refine⟨u',r',?_⟩;rcases q with⟨k,e⟩|⟨k,c,e,z⟩;.refine .inl ⟨k,?_⟩;have:y≠x:=λe=>hj (BH hN e1 (e▸hi));simp[this,e]
    .exact .inr ⟨k,c,e,z.sameBut hs (nR y c e)⟩
  .obtain⟨w',z⟩:=I.cell y c e;exact⟨w',z.sameBut hs (nR y c e)⟩
  .obtain⟨e,n,ne,nf,d⟩:=I.pin p hp;exact⟨(hs.2 p.1 ne).trans e,n,ne,nf,d⟩
 .have qz:X.fn x=true:=by grind
  obtain⟨c,hc⟩:=I.ok.has x (.inl hk);obtain⟨w',z⟩:=I.cell x c hc;refine wpAny_storeName_cell I.ok.kind hk hc z λh' kg hs=>?_;obtain⟨oc,hoc,hocd⟩:=id z;refine h 9#h' ⟨I.ok,I.os,I.bare,⟨λb o e n hb hx=>?_,λb o e n hb hx=>?_,I.base.free,λb o e hx=>?_,I.base.l_,I.base.k7,I.base.nP⟩,⟨m,hn.sameBut hs (Ne.symm (nR x c hc)),λj y v' e1 e2 e3=>?_⟩,λy c' e=>?_,I.free,I.ja,λp hp=>?_,tracked ⟨oc,hoc,I.ja x c hc⟩ hs,~~~I.len⟩ ⟨c,hs,.inr hc⟩;.exact(hs.2 b (Wr (Wz (Wm e) (I.ok.qv x c qz hc)))).trans (I.base.keep b o e n hb hx)
  .obtain⟨sl,e1⟩:=I.base.slot b o e n hb hx;exact⟨sl,(hs.2 b (Wr (Wz (Wm e) (I.ok.qv x c qz hc)))).trans e1⟩
  .obtain⟨o',e1⟩:=I.base.there b o e hx;exact⟨o',(hs.2 b (Wr (Wz (Wm e) (I.ok.qv x c qz hc)))).trans e1⟩
  .by_cases hj:j=i;.subst hj;rw[hi]at e1;cases e1;rw[Wh BJ]at e2;cases e2;exact⟨u,r,.inr ⟨.inl hk,c,hc,kg⟩⟩
   .rw[W4 (Ne.symm hj)]at e2;obtain⟨u',r',q⟩:=hl j y v' e1 e2 e3;refine⟨u',r',?_⟩;rcases q with q|⟨k,c',e,z'⟩;.exact .inl q
    .refine .inr ⟨k,c',e,z'.sameBut hs ?_⟩;rintro rfl;exact hj (BH hN e1 (I.ok.inj _ _ _ e hc▸hi))
  .by_cases hcc:c'=c;.grind
   .obtain⟨w2,z2⟩:=I.cell y c' e;exact⟨w2,z2.sameBut hs hcc⟩
  .obtain⟨e,n,ne,nf,d⟩:=I.pin p hp;refine⟨(hs.2 p.1 ?_).trans e,n,ne,nf,d⟩;grind
theorem ue{Q}(I:Inv X pins J H s)(hN:X.N.Nodup)(hi:X.N[i]?=some x)(hx:Loc X.env.scope x)(r:RelV v u)(h:∀s',Inv X pins (J.set i (some v)) H s'->Q () s')(hf:X.fn x=true\/X.env.scope.names.lookup x=some .local:=by first|exact .inl rfl|exact .inr rfl|assumption):Wb M A (storeName X.env x u) Q E s:=BI I hN hi hx r (λs' I' j=>h s' I') hf
theorem Inv.MN(I:Inv X pins J H s)(ho:s'.os=s.os)(u:Un (iF X.stack) ch H H' s.heap s'.heap)(aD:cA X.prog X.w H' s'.heap)(hg:AllBare s'.gens)(ke:∀b∈ch,(b∈X.ex\/X.s₀.heap.objs.size<=b)/\b≠X.env.locals/\(∀x c,X.env.cells.lookup x=some c->c≠b)/\∀p∈X.pn++pins,p.1≠b):Inv X pins J H' s':=by obtain⟨h',g',d',t',o'⟩:=s';have e:o'=s.os:=ho;subst e;exact I.call (g':=g') (t':=t') (d':=d') u aD hg ke
end
abbrev XK:=Value->Option Addr->Hp->Prop
abbrev St:=List (Option V)
variable{J J':St}
abbrev VK:=V->Hp->Prop
abbrev TE:=St->Hp->VK->Prop
variable{ta td te tv tx ty:TE}
abbrev TT:=St->Hp->(Bool->Hp->Prop)->Prop
abbrev TA:=St->Hp->(List V->Hp->Prop)->Prop
structure Ends where
 nx:St->Hp->Prop
 rt:VK
 bk:St->Hp->Prop:=λj j=>False
 ct:St->Hp->Prop:=λj j=>False
abbrev TS:=Ends->St->Hp->Prop
def EP(X:Cx)(pins:List (Addr×Obj))(J:St)(Q:VK)(u:Value)(s':W6):Prop:=∃v H',Inv X pins J H' s'/\RelV v u/\Q v H'
def TP(X:Cx)(pins:List (Addr×Obj))(J:St)(Q:Bool->Hp->Prop)(b:Bool)(s':W6):Prop:=∃H',Inv X pins J H' s'/\Q b H'
def AP(X:Cx)(pins:List (Addr×Obj))(J:St)(Q:List V->Hp->Prop)(us:List Value)(s':W6):Prop:=∃vs H',Inv X pins J H' s'/\Vals vs us/\Q vs H'
def SP(X:Cx)(pins:List (Addr×Obj))(D:Ends)(f:Flow)(s':W6):Prop:=match f with|.next=>∃J' H',Inv X pins J' H' s'/\D.nx J' H'|.brk=>∃J' H',Inv X pins J' H' s'/\D.bk J' H'|.cont=>∃J' H',Inv X pins J' H' s'/\D.ct J' H'|.ret u=>∃v J' H',Inv X pins J' H' s'/\RelV v u/\D.rt v H'
def PE(X:Cx)(e:Expr)(t:TE):Prop:=∀(pins:List (Addr×Obj))(s:W6)(J:St)(H:Hp)(Q:VK),Inv X pins J H s->t J H Q->Wb 5#0 X.A (eval e X.env) (EP X pins J Q) X.xe s
def PT(X:Cx)(e:Expr)(t:TT):Prop:=∀(pins:List (Addr×Obj))(s:W6)(J:St)(H:Hp)(Q:Bool->Hp->Prop),Inv X pins J H s->t J H Q->Wb 5#0 X.A (isTrue e X.env (eval e X.env)) (TP X pins J Q) X.xe s
def PW(X:Cx)(e:Expr)(t:TT):Prop:=∀(whole:Sem Value)(pins:List (Addr×Obj))(s:W6)(J:St)(H:Hp)(Q:Bool->Hp->Prop),Inv X pins J H s->t J H Q->Wb 5#0 X.A (isTrue e X.env whole) (TP X pins J Q) X.xe s
theorem PW.pt(h:PW X e t):PT X e t:=h _
def PA(X:Cx)(es:List Expr)(t:TA):Prop:=∀(pos:Pos)(pins:List (Addr×Obj))(s:W6)(J:St)(H:Hp)(Q:List V->Hp->Prop),Inv X pins J H s->t J H Q->Wb 5#0 X.A (spliced (QH pos (Wl es X.env))) (AP X pins J Q) X.xe s
def PS(X:Cx)(st:Stmt)(t:TS):Prop:=∀(pins:List (Addr×Obj))(s:W6)(J:St)(H:Hp)(D:Ends),Inv X pins J H s->t D J H->Wb 5#0 X.A (exec st X.env) (SP X pins D) X.xe s
def eW(X:Cx)(st:List Stmt)(t:TS):Prop:=∀(pins:List (Addr×Obj))(s:W6)(J:St)(H:Hp)(D:Ends),Inv X pins J H s->t D J H->Wb 5#0 X.A (execs st X.env) (SP X pins D) X.xe s
theorem aM{Q}(h:Wb M A t Q E s)(hQ:∀a s,Q a s->Q' a s):Wb M A t Q' E s:=Q2 h hQ λj j x=>x
section
def dH(i:Nat):TE:=λJ H Q=>∃v,J[i]?=some (some v)/\Q v H
def tC(v:V):TE:=λj H Q=>Q v H
theorem MO(hN:X.N[i]?=some x)(hv:t_ X.env.scope x)(hd:(x==("__debug__":Str))=false:=by decide)(jH:(x==("__classdict__":Str))=false:=by decide):PE X (.Name x pos) (dH i):=by
 intro pins s J H Q I h;obtain⟨v,e,h⟩:=h;obtain⟨m,hn,hl⟩:=I.loc;obtain⟨u,r,l⟩:=hl i x v hN e hv;have fin:EP X pins J Q u s:=⟨v,H,I,r,h⟩;rcases l with⟨hk,hm⟩|⟨hk,c,hc,hcell⟩;.exact wpAny_Name (wpAny_loadName_local I.ok.kind hk hn hm fin) hd
 .rcases hk with hk|hk;.exact wpAny_Name (wpAny_loadName_cell I.ok.kind hk hc hcell fin) hd
  .exact wpAny_Name (wpAny_loadName_free I.ok.kind hk hc hcell fin jH) hd
theorem BK{i j pos}:PE X (.Constant (.int i) j pos) (tC (.int i)):=λk k k H k I h=>wpAny_Constant_int ⟨.int i,H,I.tok _,⟨_,rfl⟩,h⟩
theorem MP{b j pos}:PE X (.Constant (.bool b) j pos) (tC (.bl b)):=λk k k H k I h=>Constant_bool ⟨.bl b,H,I,rfl,h⟩
theorem MQ{j pos}:PE X (.Constant .none j pos) (tC .aX):=λk k k H k I h=>Constant_none ⟨.aX,H,I,rfl,h⟩
theorem BL{x j pos}:PE X (.Constant (.str x) j pos) (tC (.str x)):=λk k k H k I h=>Calls.Constant_str ⟨.str x,H,I.tok _,⟨_,rfl⟩,h⟩
def Gl(X:Cx)(x:Str):Prop:=X.env.kindOf x=some .globalImplicit
theorem MR{Q}(I:Inv X pins J H s)(hg:Gl X x)(hm:X.mg x=some u)(h:Q u s)(hd:(x==("__debug__":Str))=false:=by decide):Wb 5#0 X.A (eval (.Name x pos) X.env) Q E s:=Calls.Name_function_global I.ok.kind hg (Calls.loadGlobal_global %[I.ok.glob|I.mod.glob.keeps I.bk] hm h) hd
theorem nS{Q}(I:Inv X pins J H s)(hg:Gl X x)(hm:X.mg x=none)(hv:QU x=some u)(h:Q u s)(hn:x≠"__name__":=by decide)(hd:(x==("__debug__":Str))=false:=by decide):Wb 5#0 X.A (eval (.Name x pos) X.env) Q E s:=by obtain⟨mb,h1,h2⟩:=I.mod.blt;exact Calls.Name_function_global I.ok.kind hg (Calls.loadGlobal_builtin %[I.ok.glob|I.mod.glob.keeps I.bk] hm %[I.ok.blt|h1.keeps I.bk] ((h2 x hn).trans hv) h) hd
theorem MS(hg:Gl X x)(hm:X.mg x=none)(hv:QU x=some u)(r:RelV v u)(hn:x≠"__name__":=by decide)(hd:(x==("__debug__":Str))=false:=by decide):PE X (.Name x pos) (tC v):=λj j j H j I h=>nS I hg hm hv ⟨v,H,I,r,h⟩ hn hd
variable{a b:Expr}{tb:TE}
def tB(t:TE):TT:=λJ H Q=>t J H λx H1=>∃c,x=.bl c/\Q c H1
theorem MT(h:PE X e t)(he:∀whole,isTrue e X.env whole=(do let v<-whole;standAt e.pos;holding [v] (truthy v)):=by intro _;rfl):PT X e (tB t):=by intro pins s J H Q I hw;refine isTrue_plain (aM (h pins s J H _ I hw) λv s1 hh=>?_) (he _);obtain⟨x,H1,I1,r1,q1⟩:=hh;obtain⟨d,rfl,q⟩:=q1;cases r1;exact QF ⟨H1,I1,q⟩
variable{tA uf:TT}{rest:List Expr}
def MU(t u:TT):TT:=λJ H Q=>t J H λc H1=>if c=true then u J H1 Q else Q false H1
def MV(t u:TT):TT:=λJ H Q=>t J H λc H1=>if c=true then Q true H1 else u J H1 Q
def MW(t:TT):TT:=λJ H Q=>t J H λc H1=>Q (!c) H1
theorem MX(ha:PT X a tA):PW X (.BoolOp .And [a] pos) tA:=by intro wh pins s J H Q I h;refine isTrue_and (aM (ha pins s J H Q I h) λc s1 e=>?_);cases c with|true=>exact isTrue_and_nil e|false=>exact e
theorem MY(ha:PT X a tA):PW X (.BoolOp .Or [a] pos) tA:=by intro wh pins s J H Q I h;refine isTrue_or (aM (ha pins s J H Q I h) λc s1 e=>?_);cases c with|false=>exact isTrue_or_nil e|true=>exact e
theorem MZ(ha:PT X a tA)(hb:PW X (.BoolOp .And (b::rest) pos) uf):PW X (.BoolOp .And (a::b::rest) pos) (MU tA uf):=by intro wh pins s J H Q I h;refine isTrue_and (aM (ha pins s J H _ I h) λc s1⟨H1,I1,q1⟩=>?_);cases c with|true=>exact hb wh pins s1 J H1 Q I1 q1|false=>exact⟨H1,I1,q1⟩
theorem pw_or(ha:PT X a tA)(hb:PW X (.BoolOp .Or (b::rest) pos) uf):PW X (.BoolOp .Or (a::b::rest) pos) (MV tA uf):=by intro wh pins s J H Q I h;refine isTrue_or (aM (ha pins s J H _ I h) λc s1⟨H1,I1,q1⟩=>?_);cases c with|true=>exact⟨H1,I1,q1⟩|false=>exact hb wh pins s1 J H1 Q I1 q1
theorem M0(ha:PT X a tA):PT X (.UnaryOp .Not a pos) (MW tA):=by intro pins s J H Q I h;exact isTrue_not (ha pins s J H (λc H1=>Q (!c) H1) I h)
def M1(ta tb:TE):TE:=λJ H Q=>ta J H λx H1=>∃c,x=.bl c/\if c=true then tb J H1 Q else Q (.bl false) H1
def M3(ta tb:TE):TE:=λJ H Q=>ta J H λx H1=>∃c,x=.bl c/\if c=true then Q (.bl true) H1 else tb J H1 Q
def M4(ta:TE):TE:=λJ H Q=>ta J H λx H1=>∃c,x=.bl c/\Q (.bl !c) H1
theorem M5{op}(h:PE X a t):PE X (.BoolOp op [a] pos) t:=λpins s J H Q I hw=>BoolOp_one (h pins s J H Q I hw)
theorem M6(ha:PE X a ta)(hb:PE X (.BoolOp .And (b::rest) pos) tb):PE X (.BoolOp .And (a::b::rest) pos) (M1 ta tb):=by intro pins s J H Q I h;refine BoolOp_and (aM (ha pins s J H _ I h) λv s1 hh=>?_);obtain⟨x,H1,I1,r1,q1⟩:=hh;obtain⟨c,rfl,q1⟩:=q1;cases r1;refine QF ?_;cases c with|true=>exact hb pins s1 J H1 Q I1 q1|false=>exact⟨.bl false,H1,I1,rfl,q1⟩
theorem M7(ha:PE X a ta)(hb:PE X (.BoolOp .Or (b::rest) pos) tb):PE X (.BoolOp .Or (a::b::rest) pos) (M3 ta tb):=by intro pins s J H Q I h;refine BoolOp_or (aM (ha pins s J H _ I h) λv s1 hh=>?_);obtain⟨x,H1,I1,r1,q1⟩:=hh;obtain⟨c,rfl,q1⟩:=q1;cases r1;refine QF ?_;cases c with|false=>exact hb pins s1 J H1 Q I1 q1|true=>exact⟨.bl true,H1,I1,rfl,q1⟩
theorem M8(ha:PE X a ta):PE X (.UnaryOp .Not a pos) (M4 ta):=by intro pins s J H Q I h;refine UnaryOp_ (aM (ha pins s J H _ I h) λv s1 hh=>?_);obtain⟨x,H1,I1,r1,q1⟩:=hh;obtain⟨c,rfl,q1⟩:=q1;cases r1;exact not_of (QF ⟨.bl !c,H1,I1,rfl,q1⟩)
def M9(t:TT)(ta tb:TE):TE:=λJ H Q=>t J H λc H1=>if c=true then ta J H1 Q else tb J H1 Q
theorem M_(hc:PT X c tA)(ha:PE X a ta)(hb:PE X b tb):PE X (.IfExp c a b pos) (M9 tA ta tb):=by intro pins s J H Q I h;refine wpAny_IfExp (aM (hc pins s J H _ I h) λd s1⟨H1,I1,q1⟩=>?_);cases d with|true=>exact ha pins s1 J H1 Q I1 q1|false=>exact hb pins s1 J H1 Q I1 q1
end
def cu(K:Wa)(H:Hp)(a:Addr)(xs:List V):Prop:=Rd H a (.lst xs)\/∃(o:Obj)(ak:Array Value)(n:Nat),K.lookup a=some o/\o.cls=.type "list"/\o.dict=none/\o.data=.seq ak n/\ak.size<=Wd/\Vals xs ak.toList
def cN(K:Wa)(H:Hp)(a:Addr)(xs:List V):Prop:=Rd H a (.tup xs)\/∃(o:Obj)(ak:Array Value)(n:Nat),K.lookup a=some o/\o.cls=.type "tuple"/\o.data=.seq ak n/\ak.size<=Wd/\Vals xs ak.toList
def Na:Value->Option V|.none=>some .aX|.bool b=>some (.bl b)|.int i _=>some (.int i)|.str x _=>some (.str x)|.bytes b _=>some (.byt b)|.float b _=>some (.flt b)|.ref a=>some (.ref a)|.type n=>some (.ty n)|_=>none
theorem RelV.abs{x}(r:RelV x u):Na u=some x:=by cases x with|aX=>cases r;rfl|bl _=>cases r;rfl|int _=>obtain⟨t,rfl⟩:=r;rfl|str _=>obtain⟨t,rfl⟩:=r;rfl|byt _=>obtain⟨t,rfl⟩:=r;rfl|flt _=>obtain⟨t,rfl⟩:=r;rfl|ref _=>cases r;rfl|ty _=>cases r;rfl
theorem RelV.inj{x}(r:RelV x u)(q:RelV y u):x=y:=WK (r.abs.symm.trans q.abs)
theorem Vals.inj{xs ys:List V}{us:List Value}(h:Vals xs us)(k:Vals ys us):xs=ys:=by induction h generalizing ys with|nil=>cases k;rfl|cons r t ih=>cases k with|cons r' t'=>rw[r.inj r',ih t']
section
variable{xs:List V}
theorem cu.of(h:H a=some (.lst xs)):cu K H a xs:=.inl (.inl h)
theorem cN.of(h:H a=some (.tup xs)):cN K H a xs:=.inl (.inl h)
theorem Inv.list(I:Inv X pins J H s)(h:cu X.K H a xs):∃ak:List Value,Vals xs ak/\PlainL s.heap a ak.toArray/\xs.length<=Wd:=by
 rcases h with h|⟨o,ak,n,hk,hc,hd,hs,hz,r⟩;.obtain⟨z,ak,n,r,e⟩:=h.ok I.aD;exact⟨ak,r,⟨_,n,e,rfl,rfl,rfl⟩,z⟩
 .refine⟨ak.toList,r,⟨o,n,I.gj a o hk,hc,hd,~~~hs⟩,?_⟩;have e:=r.length;simp only[Q9]at e;lia
theorem Inv.tuple(I:Inv X pins J H s)(h:cN X.K H a xs):∃ak:List Value,Vals xs ak/\IsTup s.heap a ak.toArray/\xs.length<=Wd:=by
 rcases h with h|⟨o,ak,n,hk,hc,hs,hz,r⟩;.obtain⟨z,ak,r,p⟩:=h.ok I.aD;exact⟨ak,r,p.tup,z⟩
 .refine⟨ak.toList,r,⟨o,I.gj a o hk,hc,n,~~~hs⟩,?_⟩;have e:=r.length;simp only[Q9]at e;lia
theorem Inv.xp(I:Inv X pins J H s)(h:cu X.K H a xs)(h':cu X.K H a ys):xs=ys:=by
 obtain⟨ak,r,⟨o,n,e,_,_,d⟩,_⟩:=I.list h;obtain⟨its',r',⟨o',n',e',_,_,d'⟩,_⟩:=I.list h';rw[e]at e';cases e';rw[d]at d';injection d' with d1 _;have:ak=its':=by grind
 subst this;exact r.inj r'
theorem Inv.xq(I:Inv X pins J H s)(h:cN X.K H a xs)(h':cN X.K H a ys):xs=ys:=by
 obtain⟨ak,r,⟨o,e,_,n,d⟩,_⟩:=I.tuple h;obtain⟨its',r',⟨o',e',_,n',d'⟩,_⟩:=I.tuple h';rw[e]at e';cases e';rw[d]at d';injection d' with d1 _;have:ak=its':=by grind
 subst this;exact r.inj r'
end
abbrev Cx.kh(X:Cx)(E:Value->W6->Prop):Cx:={X with xe:=E}
abbrev Cx.nU(X:Cx):Cx:=X.kh λj j=>False
theorem Cx.Ok.kh(ok:X.Ok)(E:Value->W6->Prop):(X.kh E).Ok:=⟨ok.mod,ok.kind,ok.glob,ok.blt,ok.above,ok.inj,ok.has,ok.qv,ok.hd,ok.frames,ok.ua,ok.ub,ok.bs,ok.nQ,ok.qw,ok.qx,ok.jG,ok.oS⟩
theorem Cx.Ok.mf(ok:(X.kh E).Ok):X.Ok:=⟨ok.mod,ok.kind,ok.glob,ok.blt,ok.above,ok.inj,ok.has,ok.qv,ok.hd,ok.frames,ok.ua,ok.ub,ok.bs,ok.nQ,ok.qw,ok.qx,ok.jG,ok.oS⟩
theorem Inv.kh(I:Inv X pins J H s)(E:Value->W6->Prop):Inv (X.kh E) pins J H s:=⟨I.ok.kh E,I.os,I.bare,I.base,I.loc,I.cell,I.free,I.ja,I.pin,I.aD,I.len⟩
theorem Inv.mf(I:Inv (X.kh E) pins J H s):Inv X pins J H s:=⟨I.ok.mf,I.os,I.bare,I.base,I.loc,I.cell,I.free,I.ja,I.pin,I.aD,I.len⟩
theorem SP.mf{f}(h:SP (X.kh E) pins D f s'):SP X pins D f s':=by cases f with|next=>obtain⟨J',H',I,q⟩:=h;exact⟨J',H',I.mf,q⟩|brk=>obtain⟨J',H',I,q⟩:=h;exact⟨J',H',I.mf,q⟩|cont=>obtain⟨J',H',I,q⟩:=h;exact⟨J',H',I.mf,q⟩|ret u=>obtain⟨v,J',H',I,r,q⟩:=h;exact⟨v,J',H',I.mf,r,q⟩
theorem eW.nU{st:List Stmt}{t:TS}(h:eW X.nU st t):eW X st t:=λpins s J H D I hw=>Q2 (h pins s J H D (I.kh _) hw) (λj j q=>q.mf) (by grind)
section
variable{st:Stmt}{rest:List Stmt}{t u:TS}
def Nb:TS:=λD J H=>D.nx J H
def Nc(t u:TS):TS:=λD J H=>t {D with nx:=u D} J H
theorem Nd:eW X [] Nb:=λj j J H j I h=>wpAny_execs_nil ⟨J,H,I,h⟩
theorem Nf(h1:PS X st t)(h2:eW X rest u):eW X (st::rest) (Nc t u):=by intro pins s J H D I h;refine wpAny_execs_cons (aM (h1 pins s J H {D with nx:=u D} I h) λf s1 q=>?_);cases f with|next=>obtain⟨J',H',I',q⟩:=q;exact h2 pins s1 J' H' D I' q|ret v=>exact q|brk=>exact q|cont=>exact q
theorem Ng(h1:PS X st t):eW X [st] t:=by intro pins s J H D I h;refine wpAny_execs_cons (aM (h1 pins s J H D I h) λf s1 q=>?_);cases f with|next=>exact wpAny_execs_nil q|ret v=>exact q|brk=>exact q|cont=>exact q
theorem Inv.quiet(I:Inv X pins J H s):interactive X.env=false:=#v[interactive,I.ok.kind]
def xu(te:TE):TS:=λD J H=>te J H λj H1=>D.nx J H1
theorem BM(he:PE X e te)(hs:Je e none pos.line X.env=pure false:=by rfl):PS X (.Expr e pos) (xu te):=by intro pins s J H D I h;exact wpAny_Expr_any (aM (he pins s J H _ I h) λv s1⟨x,H1,I1,r1,q1⟩=>⟨J,H1,I1,q1⟩) I.quiet hs
def Nh(te:TE):TS:=λD J H=>te J H D.rt
theorem BN(he:PE X e te):PS X (.Return (some e) pos) (Nh te):=by intro pins s J H D I h;exact wpAny_Return_some (aM (he pins s J H _ I h) λv s1⟨x,H1,I1,r1,q1⟩=>⟨x,J,H1,I1,r1,q1⟩)
def Ni(c:TT)(t u:TS):TS:=λD J H=>c J H λb H1=>if b=true then t D J H1 else u D J H1
theorem Nj{a}(hc:PT X c tc)(ha:eW X a t)(hb:eW X b u):PS X (.If c a b pos) (Ni tc t u):=by intro pins s J H D I h;refine wpAny_If (aM (hc pins s J H _ I h) λd s1⟨H1,I1,q1⟩=>?_);cases d with|true=>exact ha pins s1 J H1 D I1 q1|false=>exact hb pins s1 J H1 D I1 q1
def Nk:TS:=λj j j=>False
theorem Nl:PS X st Nk:=λj j j j j j h=>h.elim
end
abbrev TG:=V->St->Hp->(St->Hp->Prop)->Prop
abbrev mh:=List V->St->Hp->(St->Hp->Prop)->Prop
def PG(X:Cx)(target:Expr)(t:TG):Prop:=∀(pins:List (Addr×Obj))(s:W6)(J:St)(H:Hp)(v:V)(u:Value)(Q:St->Hp->Prop),Inv X pins J H s->RelV v u->t v J H Q->Wb 5#0 X.A (assign target X.env u) (λj s'=>∃J' H',Inv X pins J' H' s'/\Q J' H') X.xe s
def iG(X:Cx)(ts:List Expr)(t:mh):Prop:=∀(pins:List (Addr×Obj))(s:W6)(J:St)(H:Hp)(vs:List V)(us:List Value)(Q:St->Hp->Prop),Inv X pins J H s->Vals vs us->t vs J H Q->Wb 5#0 X.A (assignInOrder ((Qx ts X.env).map (·.2)) us) (λj s'=>∃J' H',Inv X pins J' H' s'/\Q J' H') X.xe s
abbrev BO:=V->V->V->Hp->(Hp->Prop)->Prop
def BP(X:Cx)(t:BO):Prop:=∀(pins:List (Addr×Obj))(s:W6)(J:St)(H:Hp)(o i v:V)(ov iv u:Value)(Q:Hp->Prop),Inv X pins J H s->RelV o ov->RelV i iv->RelV v u->t o i v H Q->Wb 5#0 X.A (setItem ov iv u) (λj s'=>∃H',Inv X pins J H' s'/\Q H') X.xe s
def ug(i:Nat):TG:=λv J H Q=>Q (J.set i (some v)) H
theorem BQ(hN:X.N.Nodup)(hi:X.N[i]?=some x)(hx:Loc X.env.scope x)(hf:X.fn x=true\/X.env.scope.names.lookup x=some .local:=by first|exact .inl rfl|exact .inr rfl|assumption):PG X (.Name x pos) (ug i):=by intro pins s J H v u Q I r h;exact wpAny_assign_Name (ue I hN hi hx r (λs' I'=>⟨_,H,I',h⟩) hf)
def Nm:mh:=λvs J H Q=>vs=[]/\Q J H
def Nn(t:TG)(u:mh):mh:=λvs J H Q=>∃v r,vs=v::r/\t v J H λJ' H'=>u r J' H' Q
theorem BR:iG X [] Nm:=by intro pins s J H vs us Q I r h;obtain⟨e,h⟩:=h;subst e;cases r;exact assignInOrder_nil ⟨J,H,I,h⟩
theorem BU{u}(h1:PG X e t)(h2:iG X es u)(hs:(Qx (e::es) X.env).map (·.2)=assign e X.env::(Qx es X.env).map (·.2):=by rfl):iG X (e::es) (Nn t u):=by intro pins s J H vs us Q I r h;obtain⟨v,vr,e1,h⟩:=h;subst e1;cases r with|cons r rr=>rw[hs];refine assignInOrder_cons (aM (h1 pins s J H _ _ _ I r h) λj s1 hh=>?_);obtain⟨KM,H1,I1,q1⟩:=hh;exact h2 pins s1 KM H1 _ _ Q I1 rr q1
def Nq(K:Wa)(n:Nat)(t:mh):TG:=λv J H Q=>∃a xs,v=.ref a/\cN K H a xs/\xs.length=n/\t xs J H Q
theorem BV(hc:X.calm=true)(h:iG X es t)(hn:(Qx es X.env).length=n:=by rfl)(fS:(Qx es X.env).findIdx? (·.1)=none:=by rfl):PG X (.Tuple es k pos) (Nq X.K n t):=by intro pins s J H v u Q I r hw;obtain⟨a,xs,e1,hq,hl,hw⟩:=hw;subst e1;cases r;obtain⟨ak,rv,ht,hz⟩:=I.tuple hq;refine assign_Tuple_tuple (I.ok.hd hc) ht (by simp[hn,<-hl,rv.length]) fS λh' hx=>?_;have I1:Inv X pins J H 9#h':=I.kept (t':=s.toks) λb o e=>hx b o (Wr (Wm e)) e;exact h pins _ J H xs _ Q I1 (~~~rv) hw
def Nr(to ti:TE)(t:BO):TG:=λv J H Q=>to J H λo H1=>ti J H1 λi H2=>t o i v H2 λH3=>Q J H3
theorem Nt{i}(ho:PE X o to)(hi:PE X i ti)(hs:BP X t)(ha:∀v,assign (.Subscript o i pos) X.env v=(do
 let ov<-holding [v] (eval o X.env)let iv<-holding [v,ov] (eval i X.env)standAt pos
 holding [v,ov,iv] (setItem ov iv v)release [v,ov,iv] []):=by intro _;rfl):PG X (.Subscript o i pos) (Nr to ti t):=by intro pins s J H v u Q I r h;rw[ha];refine W0 (WZ (aM (ho pins s J H _ I h) λov s1⟨x,H1,I1,r1,q1⟩=>?_));refine W0 (WZ (aM (hi pins s1 J H1 _ I1 q1) λiv s2⟨y,H2,I2,r2,q2⟩=>?_));refine W0 (wpAny_standAt (W0 (WZ (aM (hs pins s2 J H2 x y v ov iv u _ I2 r1 r2 r q2) λ_ s3⟨H3,I3,q3⟩=>?_))));exact wpAny_release ⟨J,H3,I3,q3⟩
def uh(te:TE)(g:TG):TS:=λD J H=>te J H λx H1=>g x J H1 D.nx
theorem BW(he:PE X e te)(hg:PG X tg g)(hs:swapsWithSole [tg] e pos.line X.env=pure false:=by rfl)(hw:swappedStores [tg] e X.env=pure none:=by rfl)(h1:(Qx [tg] X.env).map (·.2)=[assign tg X.env]:=by rfl):PS X (.Assign [tg] e pos) (uh te g):=by intro pins s J H D I h;refine wpAny_Assign_stores (aM (he pins s J H _ I h) λv s1 hh=>?_) hs hw;obtain⟨x,H1,I1,r1,q1⟩:=hh;rw[h1];exact aM (hg pins s1 J H1 x v _ I1 r1 q1) λj s2 q=>q
theorem BX(hN:X.N.Nodup)(hi:X.N[i]?=some x)(hx:Loc X.env.scope x)(he:PE X e te)(hs:Je e (some (.Name x pos')) pos.line X.env=pure false:=by rfl)(hf:X.fn x=true\/X.env.scope.names.lookup x=some .local:=by first|exact .inl rfl|exact .inr rfl|assumption):PS X (.Assign [.Name x pos'] e pos) (uh te (ug i)):=by intro pins s J H D I h;refine wpAny_Assign_Name (aM (he pins s J H _ I h) λv s1 hh=>?_) hs;obtain⟨y,H1,I1,r1,q1⟩:=hh;exact ue I1 hN hi hx r1 (λs2 I2=>⟨_,H1,I2,q1⟩) hf
def Nu(i j:Nat)(ta:TA):TS:=λD J H=>ta J H λvs H1=>∃v w,vs=[v,w]/\D.nx ((J.set i (some v)).set j (some w)) H1
theorem Nv{a ta}{kt k2 pt2}(hc:X.calm=true)(hN:X.N.Nodup)(hi:X.N[i]?=some x)(hj:X.N[j]?=some y)(qA:i≠j)(hx:X.env.scope.names.lookup x=some .local)(hy:X.env.scope.names.lookup y=some .local)(ha:PA X [a,b] ta)(hw:swappedStores [.Tuple [.Name x px,.Name y py] kt pt] (.Tuple [a,b] k2 pt2) X.env=pure (some [x,y]))(hs:swapsWithSole [.Tuple [.Name x px,.Name y py] kt pt] (.Tuple [a,b] k2 pt2) pos.line X.env=pure false:=by rfl):PS X (.Assign [.Tuple [.Name x px,.Name y py] kt pt] (.Tuple [a,b] k2 pt2) pos) (Nu i j ta):=by
 intro pins s J H D I h;rw[exec_Assign_arm];refine W0 (wpAny_standAt ?_);rw[hs];refine W0 (W3 ?_);rw[if_neg U'];refine W0 (Tuple_ (aM (ha _ pins s J H _ I h) λus s1 hh=>?_));obtain⟨vs,H1,I1,r1,q1⟩:=hh;obtain⟨v,w,e1,q1⟩:=q1;subst e1;obtain⟨u1,u2,rfl,rv,bN⟩:∃u1 u2,us=[u1,u2]/\RelV v u1/\RelV w u2:=by cases r1 with|cons p q=>cases q with|cons p' q'=>cases q';exact⟨_,_,rfl,p,p'⟩
 refine Q1 ?_ (by show 2<=Wd;decide);have I2:Inv X pins J H1 {s1 with heap:=s1.heap.push {cls:=.type "tuple",data:=.seq [u1,u2].toArray}}:=I1.kept (t':=s1.toks) λb o e=>W5 _ e;rw[hw];refine W0 (W3 ?_);show Wb 5#0 X.A (do rule "assign.swapped-stores";let items<-unpackItems (.ref s1.heap.objs.size) 2 none;assignInOrder [λv=>bindName X.env y v,λv=>bindName X.env x v] items.reverse;pure Flow.next) _ _ _;refine W0 (QW (W0 (unpackItems_tuple (items:=#[u1,u2]) (I.ok.hd hc) (IsTup.new s1.heap _) λh' jI=>?_)));have I3:=I2.kept (h':=h') (t':=s1.toks) λb o e=>jI b o (Wr (Wm e)) e;show Wb _ _ (assignInOrder [λv=>bindName X.env y v,λv=>bindName X.env x v] [u2,u1]>>=λk=>pure Flow.next) _ _ _;refine W0 (assignInOrder_cons (wpAny_bindName (ue I3 hN hj (.inl hy) bN (λs2 I4=>?_) (.inr hy))));refine assignInOrder_cons (wpAny_bindName (ue I4 hN hi (.inl hx) rv (λs3 I5=>assignInOrder_nil (W3 ?_)) (.inr hx)));rw[List.set_comm _ _ (Ne.symm qA)]at I5;exact⟨_,H1,I5,q1⟩
def BY(c:TT)(tb:TS):TS:=λD J H=>∃W:Nat->St->Hp->Prop,(∃m,W m J H)/\∀m J H,W m J H->c J H λb H1=>if b=true then∃N:St->Hp->Prop,(∀J' H',N J' H'->∃m',m'<m/\W m' J' H')/\tb {D with nx:=N,ct:=N,bk:=D.nx} J H1 else D.nx J H1
theorem Nw(hp:PassesOwn 5#0 X.A X.env X.xe)(hc:PT X c tc)(hb:eW X body tb):PS X (.While c body [] pos) (BY tc tb):=by intro pins s J H D I h;obtain⟨W,⟨m0,w0⟩,turn⟩:=h;refine wpAny_While (codeAny_whileLoop (λn s'=>∃J' H',Inv X pins J' H' s'/\W n J' H') ?_ m0 ⟨J,H,I,w0⟩);rintro n s1⟨KM,H1,I1,w1⟩;refine Jo hp (aM (hc pins s1 KM H1 _ I1 (turn n KM H1 w1)) λb s2⟨H2,I2,q2⟩=>?_);cases b with
 |true=>obtain⟨N,hN,q2⟩:=q2;rw[if_pos rfl];refine Jo hp (aM (hb pins s2 KM H2 _ I2 q2) λf s3 q3=>?_);cases f with|next=>obtain⟨On,H3,I3,n3⟩:=q3;obtain⟨m',hm,w3⟩:=hN On H3 n3;exact⟨m',hm,On,H3,I3,w3⟩|cont=>obtain⟨On,H3,I3,n3⟩:=q3;obtain⟨m',hm,w3⟩:=hN On H3 n3;exact⟨m',hm,On,H3,I3,w3⟩|brk=>exact q3|ret v=>exact q3
 |false=>rw[if_neg WW];exact wpAny_execs_nil ⟨KM,H2,I2,q2⟩
structure It where
 go:Nat->Hp->Prop
 qB:Nat->Hp->V->Hp->Prop
 stop:Nat->Hp->Prop
def gG(X:Cx)(pins:List (Addr×Obj))(H:Hp)(b:Addr):Prop:=H b=none/\b≠X.env.locals/\b∉X.fs/\(b∈X.ex\/X.s₀.heap.objs.size<=b)/\(∀x c,X.env.cells.lookup x=some c->c≠b)/\∀p∈X.pn++pins,p.1≠b
theorem Inv.iH(I:Inv X pins J H s)(hb:s.heap.objs.size<=b)(hn:H' b=none):gG X pins H' b:=by
 refine⟨hn,Qm (Wz I.lt hb),I.MK hb,.inr (Wq I.sz hb),λx c e z=>?_,λp hp z=>?_⟩;.obtain⟨v,q⟩:=I.cell x c e;exact absurd (Wz q.lt %[z|hb]) (Jd _)
 .exact absurd (Wz (Wm (I.pin p hp).1) %[z|hb]) (Jd _)
structure Turn(P:Wt)(w:Ww)(K:Wa)(tg:Expr)(M':It)(fp:List Addr)(it:Addr)(tn:Nat->Heap->Prop):Prop where
 mem:it∈fp
 obj:∀i h,tn i h->∀b∈fp,∃o,h.get? b=some o/\∀v,o.data≠.cell v
 keep:∀i h h',tn i h->(∀b∈fp,∀o,h.get? b=some o->h'.get? b=some o)->tn i h'
 item:∀(X:Cx),X.prog=P->X.w=w->X.K=K->X.calm=true->∀(i:Nat)(pins:List (Addr×Obj))(s:W6)(J:St)(H:Hp)(E:Value->W6->Prop),Inv X pins J H s->(∀b∈fp,gG X pins H b)->tn i s.heap->M'.go i H->Wb (model P w) X.A (Qk (.ref it)) (λr s1=>∃u,r=some u/\Wb (model P w) X.A (letOwnedTupleGo tg (.ref it) u) (λj s2=>∃x H',Inv X pins J H' s2/\RelV x u/\M'.qB i H x H'/\tn (i+1) s2.heap/\∀b∈fp,H' b=none) E s1) E s
 done:∀(X:Cx),X.prog=P->X.w=w->X.K=K->X.calm=true->∀(i:Nat)(pins:List (Addr×Obj))(s:W6)(J:St)(H:Hp)(E:Value->W6->Prop),Inv X pins J H s->(∀b∈fp,gG X pins H b)->tn i s.heap->M'.stop i H->Wb (model P w) X.A (Qk (.ref it)) (λr s1=>r=none/\Inv X pins J H s1) E s
 self:∀(A:WA)(i:Nat)(s:W6)(Q:Value->W6->Prop)(E:Value->W6->Prop),tn i s.heap->Q (.ref it) s->Wb (model P w) A (pyIter (.ref it)) Q E s
abbrev TI:=St->Hp->(It->Hp->Prop)->Prop
def BZ(X:Cx)(pins:List (Addr×Obj))(J:St)(tg:Expr)(R:It->Hp->Prop)(ui:Value)(s2:W6):Prop:=∃(it:Addr)(fp:List Addr)(tn:Nat->Heap->Prop)(M':It)(H':Hp),ui=.ref it/\Inv X pins J H' s2/\Turn X.prog X.w X.K tg M' fp it tn/\tn 0 s2.heap/\(∀b∈fp,gG X pins H' b)/\R M' H'
def PI(X:Cx)(tg iter:Expr)(wi:TI):Prop:=∀(pins:List (Addr×Obj))(s:W6)(J:St)(H:Hp)(R:It->Hp->Prop),Inv X pins J H s->wi J H R->Wb 5#0 X.A (eval iter X.env) (λv s1=>Wb 5#0 X.A (pyIter v) (BZ X pins J tg R) X.xe s1) X.xe s
theorem uj{n Q vs}(ho:s.heap.get? it=some o)(hc:o.cls=.type n)(hd:o.data=.fields vs)(hn:["enumerate","zip","dict_itemiterator","dict_reverseitemiterator","odict_iterator","itertools.zip_longest","itertools.pairwise"].contains n=false)(hQ:Q () s):Wb M A (letOwnedTupleGo tg (.ref it) u) Q E s:=by unfold letOwnedTupleGo;cases tg<;>first|exact W3 hQ|(cases u<;>first|exact W3 hQ|(refine W0 (wpAny_load ho ?_);rw[hc,hd];show Wb M A (if(["enumerate","zip","dict_itemiterator","dict_reverseitemiterator","odict_iterator","itertools.zip_longest","itertools.pairwise"].contains n&&vs[0]?==some (Qv _))=true then _ else _) Q E s;rw[if_neg (by intro h;rw[hn,Bool.false_and]at h;cases h)];exact W3 hQ))
def xw(K:Wa)(a:Addr):It:=⟨λi H=>∃xs x,cu K H a xs/\xs[i]?=some x,λi H x H'=>H'=H/\∀xs,cu K H a xs->xs[i]?=some x,λi H=>∃xs,cu K H a xs/\xs.length<=i⟩
def uk(K:Wa)(a:Addr):It:=⟨λi H=>∃xs x,cN K H a xs/\xs[i]?=some x,λi H x H'=>H'=H/\∀xs,cN K H a xs->xs[i]?=some x,λi H=>∃xs,cN K H a xs/\xs.length<=i⟩
def um(lo:Int)(n:Nat):It:=⟨λi j=>i<n,λi H x H'=>H'=H/\x=.int (lo+i),λi j=>n<=i⟩
theorem Nx(a it:Addr):Turn P w K tg (xw K a) [it] it λi h=>h.IsListIter it a i where
 mem:=by simp
 obj:=λi h st b hb=>by have e:b=it:= ~~~hb;subst e;obtain⟨o,e,c,d⟩:=st;exact⟨o,e,λv z=>by rw[d]at z;cases z⟩
 keep:=λi h h' st k=>st.at λo e=>k it V' o e
 item:=by intro X hP hw hK hc i pins s J H E I hf st hg;subst hP hw hK;obtain⟨xs,x,hq,hx⟩:=hg;obtain⟨ak,rv,p,hz⟩:=I.list hq;obtain⟨u,hu,ru⟩:=rv.get hx;obtain⟨f0,f1,f2,f3,f4,f5⟩:=hf it V';refine wpAny_pyNext_list_item st p.isList (x:=u) (~~~hu) λh' ft sb=>?_;have I1:Inv X pins J H 9#h':=I.turned (t':=s.toks) (λb o hb e=>(sb.2 b hb).trans e) f0 f1 f3 f4 f5;obtain⟨o,e,c,d⟩:=id ft;exact⟨u,rfl,uj (s:=9#h') e c d U' ⟨x,H,I1,ru,⟨rfl,λys hy=>%[I.xp hy hq|hx]⟩,ft,λb hb=>(hf b hb).1⟩⟩
 done:=by intro X hP hw hK hc i pins s J H E I hf st hg;subst hP hw hK;obtain⟨xs,hq,hx⟩:=hg;obtain⟨ak,rv,p,hz⟩:=I.list hq;obtain⟨f0,f1,f2,f3,f4,f5⟩:=hf it V';have hl:=rv.length;exact wpAny_pyNext_list_end (I.ok.hd hc) st p.isList Re λh' eb=>⟨rfl,I.turned (t':=s.toks) (λb o hb e=>eb b o hb e) f0 f1 f3 f4 f5⟩
 self:=λj j j j j st h=>wpAny_pyIter_listiter st h
theorem Ny(a it:Addr):Turn P w K tg (uk K a) [it] it λi h=>h.IsTupleIter it a i where
 mem:=by simp
 obj:=λi h st b hb=>by have e:b=it:= ~~~hb;subst e;obtain⟨o,e,c,d⟩:=st;exact⟨o,e,λv z=>by rw[d]at z;cases z⟩
 keep:=λi h h' st k=>st.at λo e=>k it V' o e
 item:=by intro X hP hw hK hc i pins s J H E I hf st hg;subst hP hw hK;obtain⟨xs,x,hq,hx⟩:=hg;obtain⟨ak,rv,p,hz⟩:=I.tuple hq;obtain⟨u,hu,ru⟩:=rv.get hx;obtain⟨f0,f1,f2,f3,f4,f5⟩:=hf it V';refine wpAny_pyNext_tuple_item st (show s.heap.IsTuple a ak.toArray from p) (x:=u) (~~~hu) λh' ft sb=>?_;have I1:Inv X pins J H 9#h':=I.turned (t':=s.toks) (λb o hb e=>(sb.2 b hb).trans e) f0 f1 f3 f4 f5;obtain⟨o,e,c,d⟩:=id ft;exact⟨u,rfl,uj (s:=9#h') e c d U' ⟨x,H,I1,ru,⟨rfl,λys hy=>%[I.xq hy hq|hx]⟩,ft,λb hb=>(hf b hb).1⟩⟩
 done:=by intro X hP hw hK hc i pins s J H E I hf st hg;subst hP hw hK;obtain⟨xs,hq,hx⟩:=hg;obtain⟨ak,rv,p,hz⟩:=I.tuple hq;obtain⟨f0,f1,f2,f3,f4,f5⟩:=hf it V';have hl:=rv.length;exact wpAny_pyNext_tuple_end (I.ok.hd hc) st (show s.heap.IsTuple a ak.toArray from p) Re λh' eb=>⟨rfl,I.turned (t':=s.toks) (λb o hb e=>eb b o hb e) f0 f1 f3 f4 f5⟩
 self:=λj j j j j st h=>wpAny_pyIter_tupleiter st h
theorem Nz(it:Addr)(lo:Int)(n:Nat):Turn P w K tg (um lo n) [it] it λi h=>IsRangeIter h it (lo+(i:Nat)*1) ((n:Int)-(i:Nat)) 1where
 mem:=by simp
 obj:=λi h st b hb=>by have e:b=it:= ~~~hb;subst e;exact⟨_,st,λv z=>by have z':Data.fields _=Data.cell v:=z;cases z'⟩
 keep:=λi h h' st k=>k it V' _ st
 item:=by intro X hP hw hK hc i pins s J H E I hf st hg;subst hP hw hK;obtain⟨f0,f1,f2,f3,f4,f5⟩:=hf it V';have W:=Walks.range (prog:=X.prog) (w:=X.w) (I.ok.hd hc) it lo 1 n;refine W.item i s _ _ hg st λv h' tk hv ft kk=>?_;obtain⟨t,rfl⟩:=hv;have I1:Inv X pins J H {s with heap:=h',toks:=tk}:=I.turned (λb o hb e=>kk b o (~~~hb) e) f0 f1 f3 f4 f5;refine⟨_,rfl,uj (s:={s with heap:=h',toks:=tk}) (n:="range_iterator") ft rfl rfl U' ⟨.int (lo+i),H,I1,⟨t,?_⟩,⟨rfl,rfl⟩,ft,λb hb=>(hf b hb).1⟩⟩;rw[Int.mul_one]
 done:=by intro X hP hw hK hc i pins s J H E I hf st hg;subst hP hw hK;obtain⟨f0,f1,f2,f3,f4,f5⟩:=hf it V';exact wpAny_pyNext_range_end (I.ok.hd hc) st (by have:n<=i:=hg;lia) λh' eb=>⟨rfl,I.turned (t':=s.toks) (λb o hb e=>eb b o hb e) f0 f1 f3 f4 f5⟩
 self:=λj j j j j st h=>wpAny_pyIter_rangeiter st h
theorem NA{R:It->Hp->Prop}{lo hi:Int}{t u v:Tok}{tk:Nat}(I:Inv X pins J H s)(h1:-2^62<=lo)(h2:lo<2^62)(h3:-2^62<=hi)(h4:hi<2^62)(q:R (um lo (hi-lo).toNat) H):Wb 5#0 X.A (pyIter (.ref s.heap.objs.size)) (BZ X pins J tg R) E {s with heap:=s.heap.push {cls:=.type "range",data:=.fields #[.int lo t,.int hi u,.int 1 v]},toks:=tk}:=by
 refine wpAny_pyIter_range (IsRange.new ..) (small_one h1 h2 h3 h4) ?_;have I1:Inv X pins J H {s with heap:=s.heap.push {cls:=.type "range",data:=.fields #[.int lo t,.int hi u,.int 1 v]},toks:=tk}:=I.kept λb o e=>W5 _ e;refine⟨(s.heap.push {cls:=.type "range",data:=.fields #[.int lo t,.int hi u,.int 1 v]}).objs.size,[(s.heap.push {cls:=.type "range",data:=.fields #[.int lo t,.int hi u,.int 1 v]}).objs.size],_,_,H,rfl,I1.kept (t':=tk) λb o e=>W5 _ e,Nz _ lo (hi-lo).toNat,?_,λb hb=>?_,q⟩
 .have e1:lo+((0:Nat):Int)*1=lo:=by simp
  have e2:(((hi-lo).toNat:Nat):Int)-((0:Nat):Int)=Builtin.Range.rangeSize lo hi 1:=by rw[rangeSize_one];split<;>lia
  show IsRangeIter _ _ (lo+((0:Nat):Int)*1) ((((hi-lo).toNat:Nat):Int)-((0:Nat):Int)) 1;rw[e1,e2];exact Wi _ rfl
 .have e:b=(s.heap.push {cls:=.type "range",data:=.fields #[.int lo t,.int hi u,.int 1 v]}).objs.size:=by grind
  subst e;exact I1.iH (Wf _) (I1.aD.fresh (Wf _))
def NB(ta:TA):TI:=λJ H R=>ta J H λvs H1=>∃j:Int,vs=[.int j]/\-2^62<=j/\j<2^62/\R (um 0 j.toNat) H1
theorem NC{a:Expr}{ta:TA}{p pos:Pos}(hg:Gl X "range")(hm:X.mg "range"=none)(ha:PA X [a] ta)(hs:Wl [a] X.env=[(false,eval a X.env)]:=by rfl):PI X tg (.Call (.Name "range" p) [a] [] pos) (NB ta):=by intro pins s J H R I h;refine Call_ (nS I hg hm boot_range (QQ (aM (ha pos pins s J H _ I h) λus s1 hh=>?_) hs rfl));obtain⟨vs,H1,I1,r1,q1⟩:=hh;obtain⟨j,e,q1,q2,q⟩:=q1;subst e;cases r1 with|cons r rr=>cases rr;obtain⟨t,rfl⟩:=r;exact call_range_1 (NA I1 Z' Z' q1 q2 (~~~q))
def ND(wi:TI)(g:TG)(tb:TS):TS:=λD J H=>wi J H λM' H1=>∃W:Nat->Nat->St->Hp->Prop,(∃m,W 0 m J H1)/\∀i m J H,W i m J H->M'.stop i H/\D.nx J H\/M'.go i H/\∃N:St->Hp->Prop,(∀J' H',N J' H'->∃m',m'<m/\W (i+1) m' J' H')/\∀x H',M'.qB i H x H'->g x J H' λPv H2=>tb {D with nx:=N,ct:=N,bk:=D.nx} Pv H2
def qC(fp:List Addr)(h:Heap):List (Addr×Obj):=fp.filterMap λb=>(h.get? b).map λo=>(b,o)
theorem uo(hb:b∈fp)(e:h.get? b=some o):(b,o)∈qC fp h:=List.mem_filterMap.mpr ⟨b,hb,by rw[e];rfl⟩
theorem NF(hp:p∈qC fp h):p.1∈fp/\h.get? p.1=some p.2:=by obtain⟨b,hb,e⟩:=List.mem_filterMap.mp hp;cases q:h.get? b<;>grind
theorem Inv.pinned(I:Inv X pins J H s)(hf:∀b∈fp,gG X pins H b)(ho:∀b∈fp,∃o,s.heap.get? b=some o/\∀v,o.data≠.cell v):Inv X (pins++qC fp s.heap) J H s:=I.BG λp hp=>(WI.mp hp).elim (λz=>I.pin p (WQ _ z)) λz=>by obtain⟨hb,e⟩:=NF z;obtain⟨f0,f1,f2,_⟩:=hf p.1 hb;obtain⟨o,e',d⟩:=ho p.1 hb;rw[e]at e';cases e';exact⟨e,f0,f1,f2,d⟩
theorem Inv.uq(I:Inv X (pins++pl) J H s):Inv X pins J H s:=I.BG λp hp=>I.pin p (WQ _ (Jx _ hp))
theorem NG(hp:PassesOwn 5#0 X.A X.env X.xe)(hc:X.calm=true)(hi:PI X tg iter wi)(hg:PG X tg g)(hb:eW X body tb)(hs:∀x,Ju iter X.env x=pure x:=by intro _;rfl):PS X (.For tg iter body [] pos) (ND wi g tb):=by
 intro pins s J H D I h;refine wpAny_For (aM (hi pins s J H _ I h) λv s1 h1=>aM h1 λui s2 h2=>?_) hs;obtain⟨it,fp,tn,M',H2,e,I2,T,st2,f2,W,⟨m0,w0⟩,turn⟩:=h2;subst e;have xx:∀{H':Hp},(∀b∈fp,H' b=none)->∀b∈fp,gG X pins H' b:=λhn b hb=>⟨hn b hb,(f2 b hb).2⟩;refine codeAny_forLoop_any (λn s'=>∃i J' H',Inv X pins J' H' s'/\tn i s'.heap/\(∀b∈fp,H' b=none)/\W i n J' H') ?_ m0 ⟨0,J,H2,I2,st2,λb hb=>(f2 b hb).1,w0⟩;rintro n s3⟨i,On,H3,I3,mj,fr3,w3⟩;rcases turn i n On H3 w3 with⟨stop,qn⟩|⟨go,N,hN,step⟩;.refine Jo hp (aM (T.done X rfl rfl rfl hc i pins s3 On H3 X.xe I3 (xx fr3) mj stop) λr s4⟨hr,I4⟩=>?_);subst hr;exact wpAny_execs_nil ⟨On,H3,I4,qn⟩
 .refine Jo hp (aM (T.item X rfl rfl rfl hc i pins s3 On H3 X.xe I3 (xx fr3) mj go) λr s4⟨u,hr,h4⟩=>?_);subst hr;refine Jo hp (aM h4 λj s5 hh=>?_);obtain⟨x,H5,I5,r5,y5,st5,fr5⟩:=hh;have NH:=I5.pinned (xx fr5) (T.obj _ _ st5);refine Jo hp (aM (hg _ s5 On H5 x u _ NH r5 (step x H5 y5)) λj s6 hh=>?_);obtain⟨F',H6,I6,q6⟩:=hh;refine Jo hp (aM (hb _ s6 F' H6 _ I6 q6) λf s7 q7=>?_);have again:∀{KF:St}{H7:Hp},Inv X (pins++qC fp s5.heap) KF H7 s7->N KF H7->∃m,m<n/\∃i J' H',Inv X pins J' H' s7/\tn i s7.heap/\(∀b∈fp,H' b=none)/\W i m J' H':=λ{KF H7}I7 n7=>by obtain⟨m',hm,w7⟩:=hN KF H7 n7;refine⟨m',hm,i+1,KF,H7,I7.uq,T.keep _ _ _ st5 λb hb o e=>(I7.pin (b,o) (WQ _ (WQ _ (uo hb e)))).1,λb hb=>?_,w7⟩;obtain⟨o,e,d⟩:=T.obj _ _ st5 b hb;exact(I7.pin (b,o) (WQ _ (WQ _ (uo hb e)))).2.1
  cases f with|next=>obtain⟨KF,H7,I7,n7⟩:=q7;exact again I7 n7|cont=>obtain⟨KF,H7,I7,n7⟩:=q7;exact again I7 n7|brk=>obtain⟨KF,H7,I7,q7⟩:=q7;exact⟨KF,H7,I7.uq,q7⟩|ret v=>obtain⟨x7,KF,H7,I7,r7,q7⟩:=q7;exact⟨x7,KF,H7,I7.uq,r7,q7⟩
abbrev R2:=V->V->Hp->VK->Prop
def bJ(X:Cx)(f:Value->Value->Sem Value)(r:R2):Prop:=∀(pins:List (Addr×Obj))(s:W6)(J:St)(H:Hp)(x y:V)(v u:Value)(Q:VK),Inv X pins J H s->RelV x v->RelV y u->r x y H Q->Wb 5#0 X.A (f v u) (EP X pins J Q) X.xe s
def xy(X:Cx)(f:Value->Sem Value)(r:V->Hp->VK->Prop):Prop:=∀(pins:List (Addr×Obj))(s:W6)(J:St)(H:Hp)(x:V)(v:Value)(Q:VK),Inv X pins J H s->RelV x v->r x H Q->Wb 5#0 X.A (f v) (EP X pins J Q) X.xe s
def eG(X:Cx)(f:Value)(r:List V->Hp->VK->Prop):Prop:=∀(pins:List (Addr×Obj))(s:W6)(J:St)(H:Hp)(xs:List V)(us:List Value)(Q:VK),Inv X pins J H s->Vals xs us->r xs H Q->Wb 5#0 X.A (call f us) (EP X pins J Q) X.xe s
def nV(r:R2)(ta tb:TE):TE:=λJ H Q=>ta J H λx H1=>tb J H1 λy H2=>r x y H2 Q
def xA(r:V->Hp->VK->Prop)(ta:TE):TE:=λJ H Q=>ta J H λx H1=>r x H1 Q
def rI(C:Int->Int->Prop)(g:Int->Int->V):R2:=λx y H Q=>∃i j,x=.int i/\y=.int j/\C i j/\Q (g i j) H
def jc(g:Int->Int->V):R2:=λx y H Q=>∃i j,x=.int i/\y=.int j/\Q (g i j) H
def rU(g:Int->V):V->Hp->VK->Prop:=λx H Q=>∃i,x=.int i/\Q (g i) H
section
variable{a b c:Expr}{tb tc:TE}
theorem xB(ha:PE X a ta)(hb:PE X b tb){R:V->V->Hp->Prop}(I:Inv X pins J H s)(h:ta J H λx H1=>tb J H1 λy H2=>R x y H2){Q:Value->W6->Prop}(hf:∀v u s2 x y H2,Inv X pins J H2 s2->RelV x v->RelV y u->R x y H2->Wb 5#0 X.A (f v u) Q X.xe s2):Wb 5#0 X.A (eval a X.env) (λv s₁=>Wb 5#0 X.A (eval b X.env) (λu s₂=>Wb 5#0 X.A (f v u) Q X.xe s₂) X.xe s₁) X.xe s:=by refine aM (ha pins s J H _ I h) λv s1⟨x,H1,I1,r1,q1⟩=>?_;refine aM (hb pins s1 J H1 _ I1 q1) λu s2 hh=>?_;obtain⟨y,H2,I2,r2,q2⟩:=hh;exact hf v u s2 x y H2 I2 r1 r2 q2
theorem B0{op:Operator}{r:R2}(ho:bJ X (Qo op) r)(ha:PE X a ta)(hb:PE X b tb):PE X (.BinOp a op b pos) (nV r ta tb):=by intro pins s J H Q I h;exact wpAny_BinOp (xB ha hb I h λv u s2 x y H2 I2 rx ry q=>ho pins s2 J H2 x y v u Q I2 rx ry q)
theorem B3{op}(ho:xy X (unaryOp op) r)(ha:PE X a ta):PE X (.UnaryOp op a pos) (xA r ta):=by intro pins s J H Q I h;exact UnaryOp_ (aM (ha pins s J H _ I h) λv s1⟨x,H1,I1,r1,q1⟩=>ho pins s1 J H1 x v Q I1 r1 q1)
theorem mn{f:Value->Value->Sem Value}{C:Int->Int->Prop}{g:Int->Int->Int}(rule:∀(i j:Int)(t u:Tok)(s:W6)(Q:Value->W6->Prop)(E:Value->W6->Prop),C i j->Q (.int (g i j) s.toks) {s with toks:=s.toks+1}->Wb 5#0 X.A (f (.int i t) (.int j u)) Q E s):bJ X f (rI C λi j=>.int (g i j)):=by intro pins s J H x y v u Q I rx ry h;obtain⟨i,j,rfl,rfl,hc,q⟩:=h;obtain⟨t,rfl⟩:=rx;obtain⟨t',rfl⟩:=ry;exact rule i j t t' s _ _ hc ⟨.int (g i j),H,I.tok _,⟨_,rfl⟩,q⟩
theorem B4{f:Value->Value->Sem Value}{g:Int->Int->Int}(rule:∀(i j:Int)(t u:Tok)(s:W6)(Q:Value->W6->Prop)(E:Value->W6->Prop),Q (.int (g i j) s.toks) {s with toks:=s.toks+1}->Wb 5#0 X.A (f (.int i t) (.int j u)) Q E s):bJ X f (jc λi j=>.int (g i j)):=by intro pins s J H x y v u Q I rx ry h;obtain⟨i,j,rfl,rfl,q⟩:=h;obtain⟨t,rfl⟩:=rx;obtain⟨t',rfl⟩:=ry;exact rule i j t t' s _ _ ⟨.int (g i j),H,I.tok _,⟨_,rfl⟩,q⟩
theorem ur{g:Int->Int->Bool}(rule:∀(i j:Int)(t u:Tok)(s:W6)(Q:Value->W6->Prop)(E:Value->W6->Prop),Q (.bool (g i j)) s->Wb 5#0 X.A (f (.int i t) (.int j u)) Q E s):bJ X f (jc λi j=>.bl (g i j)):=by intro pins s J H x y v u Q I rx ry h;obtain⟨i,j,rfl,rfl,q⟩:=h;obtain⟨t,rfl⟩:=rx;obtain⟨t',rfl⟩:=ry;exact rule i j t t' s _ _ ⟨.bl (g i j),H,I,rfl,q⟩
def B5(i j:Int):Prop:=0<j/\j<1073741824
def B6(i j:Int):Prop:=0<=j/\j<=1000000/\i.natAbs<2^64
def qD(i j:Int):Prop:=-2^64<i/\i<2^64\/-2^64<j/\j<2^64
theorem qD.ok{i}(h:qD i j):IntMulOk i j:=by
 rcases h with⟨h1,h2⟩|⟨h1,h2⟩;.exact .of_left (intBits_le_64 h1 h2)
 .exact .of_right (intBits_le_64 h1 h2)
theorem NI:bJ X (Qo .Add) (jc λi j=>.int (i+j)):=B4 λk k k k k k k q=>add_int q
theorem NJ:bJ X (Qo .Sub) (jc λi j=>.int (i-j)):=B4 λk k k k k k k q=>sub_int q
theorem NL:bJ X (Qo .Mult) (rI qD λi j=>.int (i*j)):=mn λk k k k k k k hc q=>mul_int q hc.ok
theorem B7:bJ X (Qo .FloorDiv) (rI B5 λi j=>.int (i/j)):=mn λi j k k k k k hc q=>by have h1:(0:Int)<j:=hc.1;have h2:j<1073741824:=hc.2;exact floordiv_int Z' %[Int.fdiv_eq_ediv_of_nonneg i Z'|q] (.inl (PyProof.noPylong_small Z'))
theorem B8:bJ X (Qo .Mod) (rI (λk j=>0<j) λi j=>.int (i%j)):=mn λi j k k k k k hc q=>by have h1:(0:Int)<j:=hc;exact mod_int' Z' %[Int.fmod_eq_emod_of_nonneg i Z'|q]
theorem NM:bJ X (Qo .Mod) (rI (λk j=>j≠0) λi j=>.int (i.fmod j)):=mn λk k k k k k k hc q=>mod_int' hc q
theorem NN:bJ X (Qo .Pow) (rI B6 λi j=>.int (i^j.toNat)):=mn λk k k k k k k hc q=>pow_int_small hc.1 hc.2.1 hc.2.2 q
theorem NO{f:Value->Sem Value}{g:Int->Int}(rule:∀(i:Int)(t:Tok)(s:W6)(Q:Value->W6->Prop)(E:Value->W6->Prop),Q (.int (g i) s.toks) {s with toks:=s.toks+1}->Wb 5#0 X.A (f (.int i t)) Q E s):xy X f (rU λi=>.int (g i)):=by intro pins s J H x v Q I rx h;obtain⟨i,rfl,q⟩:=h;obtain⟨t,rfl⟩:=rx;exact rule i t s _ _ ⟨.int (g i),H,I.tok _,⟨_,rfl⟩,q⟩
theorem B9:xy X (unaryOp .USub) (rU λi=>.int (-i)):=NO λj j j j j q=>neg_int q
theorem uu{Q}(I:Inv X pins J H s)(q:Q (.bl k) H)(e:k=k'):EP X pins J Q (.bool k') s:=by subst e;exact⟨.bl k,H,I,rfl,q⟩
theorem NP:bJ X (WX .Lt) (jc λi j=>.bl (decide (i<j))):=ur λk k k k k k k q=>lt_int q
theorem NQ:bJ X (WX .LtE) (jc λi j=>.bl (decide (i<=j))):=ur λk k k k k k k q=>le_int q
theorem NR:bJ X (WX .Gt) (jc λi j=>.bl (decide (j<i))):=ur λk k k k k k k q=>gt_int q
theorem NT:bJ X (WX .GtE) (jc λi j=>.bl (decide (j<=i))):=ur λk k k k k k k q=>ge_int q
theorem NU:bJ X (WX .Lt) λx y H Q=>∃i j,x=.str i/\y=.str j/\Q (.bl (decide (i.cps.toList<j.cps.toList))) H:=by intro pins s J H x y v u Q I rx ry h;obtain⟨i,j,rfl,rfl,q⟩:=h;obtain⟨t,rfl⟩:=rx;obtain⟨t',rfl⟩:=ry;exact lt_str (uu I q rfl)
theorem NV:bJ X (WX .IsNot) λx y H Q=>y=.aX/\Q (.bl !decide (x=.aX)) H:=by intro pins s J H x y v u Q I rx ry h;obtain⟨rfl,q⟩:=h;cases ry;refine isnot_none_gen (uu I q ?_);cases x<;>first|(cases rx;rfl)|(obtain⟨t,rfl⟩:=rx;rfl)
theorem NW:bJ X (WX .NotIn) λx y H Q=>∃i j,x=.str i/\y=.str j/\Q (.bl !!(Builtin.Str.occurrences j i 0 j.length 1).isEmpty) H:=by intro pins s J H x y v u Q I rx ry h;obtain⟨i,j,rfl,rfl,q⟩:=h;obtain⟨t,rfl⟩:=rx;obtain⟨t',rfl⟩:=ry;exact notIn_str (uu I q rfl)
theorem bJ.or(h:bJ X f r)(h':bJ X f r'):bJ X f λx y H Q=>r x y H Q\/r' x y H Q:=by
 intro pins s J H x y v u Q I rx ry q;rcases q with q|q;.exact h pins s J H x y v u Q I rx ry q
 .exact h' pins s J H x y v u Q I rx ry q
theorem B_{r:R2}(ho:bJ X (WX op) r)(ha:PE X a ta)(hb:PE X b tb)(hm:JW op b=false):PE X (.Compare a [op] [b] pos) (nV r ta tb):=by intro pins s J H Q I h;exact wpAny_Compare1 (xB ha hb I h λv u s2 x y H2 I2 rx ry q=>ho pins s2 J H2 x y v u Q I2 rx ry q) hm
def NX(t:TE):TT:=λJ H Q=>t J H λx H'=>∃k,x=.bl k/\Q k H'
theorem Ca(ho:bJ X (WX op) r)(ha:PE X a ta)(hb:PE X b tb)(hm:JW op b=false):PT X (.Compare a [op] [b] pos) (NX (nV r ta tb)):=by intro pins s J H Q I h;refine wpAny_isTrue_Compare1 (aM (ha pins s J H _ I h) λv s1⟨x,H1,I1,r1,q1⟩=>aM (hb pins s1 J H1 _ I1 q1) λu s2⟨y,H2,I2,r2,q2⟩=>aM (ho pins s2 J H2 x y v u _ I2 r1 r2 q2) λc s3 hh=>?_) hm;obtain⟨z,H3,I3,r3,k,e,q3⟩:=hh;subst e;cases r3;exact QF ⟨H3,I3,q3⟩
theorem oU:(Wd:Nat)<2^63:=by rw[J5];decide
theorem NY:bJ X (Qo .Add) λx y H Q=>∃i j,x=.str i/\y=.str j/\i.length+j.length<=Wd/\Q (.str (i++j)) H:=by intro pins s J H x y v u Q I rx ry h;obtain⟨i,j,rfl,rfl,hz,q⟩:=h;obtain⟨t,rfl⟩:=rx;obtain⟨t',rfl⟩:=ry;exact add_str (λt' tk=>⟨.str (i++j),H,I.tok _,⟨_,rfl⟩,q⟩) hz
theorem ie{x}(r:Vals [x] us):∃u,us=[u]/\RelV x u:=by cases r with|cons r1 r2=>cases r2;exact⟨_,rfl,r1⟩
theorem Cb{x}(r:Vals [x,y] us):∃u w',us=[u,w']/\RelV x u/\RelV y w':=by cases r with|cons r1 r2=>cases r2 with|cons r3 r4=>cases r4;exact⟨_,_,rfl,r1,r3⟩
theorem NZ:eG X (.builtin "abs") λxs H Q=>∃i,xs=[.int i]/\Q (.int (if i<0 then-i else i)) H:=by intro pins s J H xs us Q I r h;obtain⟨i,rfl,q⟩:=h;obtain⟨u,rfl,t,rfl⟩:=ie r;exact call_abs_int λu tk=>⟨.int (if i<0 then-i else i),H,I.tok _,⟨_,rfl⟩,q⟩
theorem N0(hc:X.calm=true):eG X (.builtin "max") λxs H Q=>∃i j,xs=[.int i,.int j]/\Q (.int (if j>i then j else i)) H:=by
 intro pins s J H xs us Q I r h;obtain⟨i,j,rfl,q⟩:=h;obtain⟨u,w',rfl,⟨t,rfl⟩,⟨t',rfl⟩⟩:=Cb r;refine max_two_ints (I.ok.hd hc) λh' tk k=>⟨_,H,I.kept k,?_,q⟩;by_cases hj:j>i;.rw[if_pos hj,if_pos hj];exact⟨_,rfl⟩
 .rw[if_neg hj,if_neg hj];exact⟨_,rfl⟩
theorem N1:eG X (.type "int") λxs H Q=>(∃i,xs=[.int i]/\Q (.int i) H)\/∃k,xs=[.bl k]/\Q (.int (if k then 1 else 0)) H:=by
 intro pins s J H xs us Q I r h;rcases h with⟨i,rfl,q⟩|⟨k,rfl,q⟩;.obtain⟨u,rfl,t,rfl⟩:=ie r;exact call_int_int ⟨.int i,H,I,⟨_,rfl⟩,q⟩
 .obtain⟨u,rfl,r1⟩:=ie r;cases r1;exact call_int_bool ⟨.int (if k then 1 else 0),H,I.tok _,⟨_,rfl⟩,q⟩
end
structure xC(h:Heap)(x dx C:Addr)(mA:Str->Option Value):Prop where
 obj:h.get? x=some (PySem.W.instObj C dx)ns:h.Ns1 dx mA
 ne:dx≠x
universe H in theorem N2(n:h.Ns1 dx mA):∃od,h.get? dx=some od/\∀name,PySem.W.lookIn name od=some (mA name):=by
 obtain⟨o,es,ep,ho,hd,hk,_,hm⟩:=n;refine⟨o,ho,λname=>?_⟩;have e:=hm name;unfold nsFind findBy at e;rw[<-Array.find?_toList]at e;unfold PySem.W.lookIn;rw[hd];dsimp only;split;.rename_i y q;rw[q]at e;exact congrArg some e
 .rename_i q;rw[q]at e;have a:es.toList.any (·.refKey)=false:=by rw[Uj];intro y hy;obtain⟨z,t,xD⟩:=hk y (Array.mem_toList_iff.mp hy);simp[DictEntry.refKey,xD]
  grind
theorem xC.look{x}(I:xC h x dx C mA):∃od,PySem.W.InstAt h x (PySem.W.instObj C dx) C (some od)/\∀name,PySem.W.lookIn name od=some (mA name):=let⟨od,ho,hl⟩:=N2 I.ns
 ⟨od,⟨I.obj,rfl,rfl,ho⟩,hl⟩
theorem d_.some_of(r:d_ (some v) o):∃u,o=some u/\RelV v u:=by cases o with|none=>exact(show False from r).elim|some u=>exact⟨u,rfl,r⟩
theorem d_.none_of(r:d_ none o):o=none:=by cases o with|none=>rfl|some u=>exact(show False from r).elim
section
variable{fs:List (Str×V)}
theorem N3(aD:cA P w H h)(e:H a=some (.ins C dx fs)):∃mA,xC h a dx C mA/\(∀f,d_ (fs.lookup f) (mA f))/\PySem.Within mA (fs.map (·.1))/\fs.length<=1000/\H dx=some (.own a):=by obtain⟨d,z,ne,ob,mA,n,r,q⟩:=show bP P w H h a (.ins C dx fs)from aD a _ e;exact⟨mA,⟨ob,n,ne⟩,r,q,z,d⟩
end
structure xE(K:Wa)(C:Addr):Prop where
 pg:PySem.W.plainGet K C Str.empty=true
 hd:PySem.W.hasDictIn K C=true
 po:PySem.W.plainOver K C=true
 sa:PySem.W.findIn K (.ref C) "__setattr__"=some (some (.builtin "object.__setattr__"))
theorem xE.get(c:xE K C)(f:Str):PySem.W.plainGet K C f=true:=c.pg
section
variable{Q:Value->W6->Prop}{c:Value}{b:Bool}
inductive jd(K:Wa)(H:Hp):V->Value->Prop where|aX:jd K H .aX (.type "NoneType")|bl(x:Bool):jd K H (.bl x) (.type "bool")|int(i:Int):jd K H (.int i) (.type "int")|str(x:Str):jd K H (.str x) (.type "str")|flt(x:UInt64):jd K H (.flt x) (.type "float")|lst{a:Addr}{xs:List V}(e:H a=some (.lst xs)):jd K H (.ref a) (.type "list")|frz{a:Addr}{o:Obj}{xs:List V}(e:H a=some (.frz o (.lst xs))):jd K H (.ref a) (.type "list")|tup{a:Addr}{xs:List V}(e:H a=some (.tup xs)):jd K H (.ref a) (.type "tuple")|dK{a:Addr}{kvs:List (Key×V)}(e:H a=some (.dK kvs)):jd K H (.ref a) (.type "dict")|dT{a:Addr}{kvs:List (List Key×V)}(e:H a=some (.dT kvs)):jd K H (.ref a) (.type "dict")|ins{a C dx:Addr}{fs:List (Str×V)}(e:H a=some (.ins C dx fs))(cl:xE K C)(ha:PySem.W.findIn K (.ref C) "__class__"=some (some (.builtin "object.__class__")))(hn:PySem.W.specialIn K (.builtin "object.__class__") "__get__"=some (some (.builtin "getset_descriptor.__get__")))(Cc:PySem.W.takesIn K (.builtin "object.__class__")=some true)(hm:PySem.W.mroIn K C (.type "object")=some true):jd K H (.ref a) (.ref C)
theorem mq{x}(I:Inv X pins J H s)(rx:RelV x u)(ty:jd X.K H x t)(e:Ji X.K t c=some b)(h:∀tk,Q (.bool b) {s with toks:=tk}):Wb 5#0 A (call (.builtin "isinstance") [u,c]) Q E s:=by cases ty with|aX=>cases show u=Value.none from rx;exact Qt PySem.W.kitx_none I.gj True.intro e (by grind) h|bl y=>cases show u=Value.bool y from rx;exact Qt PySem.W.kitx_bool I.gj True.intro e (by grind) h|int i=>obtain⟨t,q⟩:=show∃t,u=Value.int i t from rx;cases q;exact Qt PySem.W.kitx_int I.gj True.intro e (by grind) h|str y=>obtain⟨t,q⟩:=show∃t,u=Value.str y t from rx;cases q;exact Qt PySem.W.kitx_str I.gj True.intro e (by grind) h|flt y=>obtain⟨t,q⟩:=show∃t,u=Value.float y t from rx;cases q;exact Qt PySem.W.kitx_float I.gj True.intro e (by grind) h|@lst a xs ea=>cases show u=Value.ref a from rx;obtain⟨_,_,n,_,h1⟩:=show bP X.prog X.w H s.heap a (.lst xs)from I.aD a _ ea;exact Qt PySem.W.kitx_list I.gj ⟨_,h1,rfl⟩ e (by grind) h|@frz a ob xs ea=>cases show u=Value.ref a from rx;obtain⟨_,_,_,n,_,h1⟩:=show bP X.prog X.w H s.heap a (.frz ob (.lst xs))from I.aD a _ ea;exact Qt PySem.W.kitx_list I.gj ⟨_,h1,rfl⟩ e (by grind) h|@tup a xs ea=>cases show u=Value.ref a from rx;obtain⟨_,_,_,p⟩:=show bP X.prog X.w H s.heap a (.tup xs)from I.aD a _ ea;obtain⟨o,h1,h2,_⟩:=p.tup;exact Qt PySem.W.kitx_tuple I.gj ⟨o,h1,h2⟩ e (by grind) h|@dK a kvs ea=>cases show u=Value.ref a from rx;obtain⟨_,_,vs,_,p⟩:=show bP X.prog X.w H s.heap a (.dK kvs)from I.aD a _ ea;obtain⟨o,es,ep,h1,h2,_⟩:=p;exact Qt PySem.W.kitx_dict I.gj ⟨o,h1,h2.1⟩ e (by grind) h|@dT a kvs ea=>cases show u=Value.ref a from rx;obtain⟨_,_,xs,_,o,es,ep,h1,h2,_⟩:=show bP X.prog X.w H s.heap a (.dT kvs)from I.aD a _ ea;exact Qt PySem.W.kitx_dict I.gj ⟨o,h1,h2.1⟩ e (by grind) h|@ins a C dx fs ea cl ha hn Cc hm=>cases show u=Value.ref a from rx;obtain⟨mA,O,_⟩:=N3 I.aD ea;obtain⟨od,M',_⟩:=O.look;exact Qt (PySem.W.kitx_own (cl.get _) cl.hd ha hn Cc hm) I.gj M' e (by grind) h
end
structure eX(k:Nat)(A:WA):Prop where
 hd:A.handled=none
 dp:A.depth+3*k+5<recursionLimit
 un:A.units+16*k+200<WR
theorem eX.mono(r:eX k A)(h:j<=k):eX j A:=⟨r.hd,by have:=r.dp;lia,by have:=r.un;lia⟩
theorem eX.deeper(r:eX (k+1) A)(env:Env):eX k (A.deeper env):=⟨r.hd,by have:=r.dp;show A.depth+1+3*k+5<_;lia,by have:=r.un;show A.units+3+16*k+200<_;lia⟩
theorem eX.depth(r:eX k A):A.depth<recursionLimit:=by have:=r.dp;lia
def Cd:TA:=λj H Q=>Q [] H
def Ce(ta:TE)(tr:TA):TA:=λJ H Q=>ta J H λx H1=>tr J H1 λxs H2=>Q (x::xs) H2
section
variable{t:TA}
theorem gH:PA X [] Cd:=λj j j j H Q I h=>Calls.spliced_nil ⟨[],H,I,.nil,h⟩
theorem fu(ha:PE X e te)(hr:PA X es t)(hs:Wl (e::es) X.env=(false,eval e X.env)::Wl es X.env:=by rfl):PA X (e::es) (Ce te t):=by intro pos pins s J H Q I h;rw[hs];show Wb _ _ (spliced ((false,eval e X.env)::QH pos (Wl es X.env))) _ _ s;refine Calls.spliced_cons (aM (ha pins s J H _ I h) λu s1 hh=>?_);obtain⟨x,H1,I1,r1,q1⟩:=hh;exact aM (hr pos pins s1 J H1 _ I1 q1) λus s2⟨xs,H2,I2,r2,q2⟩=>⟨x::xs,H2,I2,.cons r1 r2,q2⟩
def N5(t:TA):TE:=λJ H Q=>t J H λxs H1=>xs.length<=Wd/\∀p,H1 p=none->Q (.ref p) (upd H1 p (.tup xs))
def N6(t:TA):TE:=λJ H Q=>t J H λxs H1=>xs.length<=Wd/\∀p,H1 p=none->Q (.ref p) (upd H1 p (.lst xs))
theorem N7{x1}(h:PA X es t):PE X (.Tuple es x1 pos) (N5 t):=by intro pins s J H Q I hq;refine wpAny_Tuple_spliced (aM (h pos pins s J H _ I hq) λus s1⟨xs,H1,I1,r,z,q⟩=>⟨by rw[<-r.length];exact z,?_⟩);have hf:H1 s1.heap.objs.size=none:=I1.aD.fresh (Wf _);refine⟨.ref s1.heap.objs.size,upd H1 s1.heap.objs.size (.tup xs),I1.laid (t':=s1.toks) (λb u e=>W5 _ e) (Wf _) ?_,rfl,q _ hf⟩;exact⟨z,us,r,⟨_,Wi _ rfl⟩⟩
theorem N8(h:PA X es t):PE X (.List es pos) (N6 t):=by intro pins s J H Q I hq;refine wpAny_List_spliced (aM (h pos pins s J H _ I hq) λus s1⟨xs,H1,I1,r,z,q⟩=>⟨by rw[<-r.length];exact z,?_⟩);have hf:H1 s1.heap.objs.size=none:=I1.aD.fresh (Wf _);refine⟨.ref s1.heap.objs.size,upd H1 s1.heap.objs.size (.lst xs),I1.laid (t':=s1.toks) (λb u e=>W5 _ e) (Wf _) ?_,rfl,q _ hf⟩;exact⟨z,us,0,r,Wi _ rfl⟩
end
abbrev Sp:=List V->Hp->VK->XK->Prop
variable{sp:Sp}
abbrev jJ:=List Env->Hp->W6->XK->Value->W6->Prop
variable{CX:jJ}
structure uv(P:Wt)(w:Ww)(K:Wa)(mg:Str->Option Value)(base:Heap)(A:WA)(outer:List Env)(s:W6)(H:Hp):Prop where
 frames:A.frames=some outer
 mod:Mod K mg base
 bs:∀b o,base.get? b=some o->s.heap.get? b=some o/\H b=none
 nQ:base.objs.size<=s.heap.objs.size
 jG:s.heap.FunFrames base outer
 oS:∀b∈iF outer,H b=none
 aD:cA P w H s.heap
 bare:AllBare s.gens
def CE(outer:List Env)(P:Wt)(w:Ww)(H:Hp)(s:W6)(Q:VK)(u:Value)(s':W6):Prop:=∃v H',s'.os=s.os/\AllBare s'.gens/\Un (iF outer) [] H H' s.heap s'.heap/\cA P w H' s'.heap/\RelV v u/\Q v H'
def CR(CX:jJ)(outer:List Env)(P:Wt)(w:Ww)(H:Hp)(s:W6)(Q:VK)(E:XK)(r:Result)(s':W6):Prop:=match r with|.ok (.ret u)=>CE outer P w H s Q u s'|.ok _=>False|.error e=>CX outer H s E e s'
structure jK(P:Wt)(w:Ww)(K:Wa)(mg:Str->Option Value)(base:Heap)(CX:jJ)(k:Nat)(f:Addr)(fd:QX)(ps:List Str)(sp:Sp):Prop where
 len:∀vs H Q E,sp vs H Q E->vs.length=ps.length
 run:∀(A:WA)(outer:List Env)(s:W6)(H:Hp)(args:Args)(us:List Value)(vs:List V)(Q:VK)(E:XK),eX k A->uv P w K mg base A outer s H->BindsTo s fd args (ps.zip us)->Vals vs us->sp vs H Q E->QR (model P w) A (.call (.ref f) args) (CR CX outer P w H s Q E) s
section
variable{s':W6}
theorem Inv.N9(I:Inv X pins J H s):uv X.prog X.w X.K X.mg X.base X.A X.stack s H:=⟨I.ok.frames,I.ok.mod,I.bs,Wq I.ok.nQ I.sz,I.stack,I.BC,I.aD,I.bare⟩
theorem Inv.after{Q}(I:Inv X pins J H s)(h:CE X.stack X.prog X.w H s Q u s'):EP X pins J Q u s':=by obtain⟨v,H',os,bare,un,aD,r,q⟩:=h;obtain⟨hh,g,d,t,os'⟩:=s';obtain rfl:os'=s.os:=os;exact⟨v,H',I.call (h':=hh) (g':=g) (d':=d) (t':=t) (ch:=[]) un aD bare λb z=>absurd z V',r,q⟩
end
def Cf(sp:Sp)(mr:List V)(E:XK)(t:TA):TE:=λJ H Q=>t J H λvs H1=>sp (vs++mr) H1 Q E
def Binds(K:Wa)(fd:QX)(ps:List Str)(ds:List Value):Prop:=∀(s:W6)(us:List Value),K.In s.heap->(us++ds).length=ps.length->BindsTo s fd ⟨us,[]⟩ (ps.zip (us++ds))
theorem Binds.all{ps:List Str}(h:∀us:List Value,us.length=ps.length->bindArgs fd ⟨us,[]⟩=pure (ps.zip us)):Binds K fd ps []:=λs us j hl=>by rw[JH]at hl⊢;exact .of_eq (h us hl)
def xF(CX:jJ)(X:Cx)(E:XK):Prop:=∀(pins:List (Addr×Obj))(J:St)(H:Hp)(s:W6)(e:Value)(s':W6),Inv X pins J H s->CX X.stack H s E e s'->X.xe e s'
section
variable{k:Nat}{f:Addr}{ps:List Str}{ds:List Value}{E:XK}{m:Str}{p:Pos}{o:Expr}{t:TA}
theorem N_{Q}(F:jK X.prog X.w X.K X.mg X.base CX k f fd ps sp)(hr:eX k X.A)(hb:Binds X.K fd ps ds)(hd:Vals mr ds)(hx:xF CX X E)(I:Inv X pins J H s)(r:Vals vs us)(h:sp (vs++mr) H Q E):Wb 5#0 X.A (call (.ref f) us) (EP X pins J Q) X.xe s:=by
 have r2:Vals (vs++mr) (us++ds):=r.append hd;have hl:(us++ds).length=ps.length:=by rw[<-r2.length];exact F.len _ _ _ _ h
 refine wpAny_call (U9 (F.run X.A X.stack s H ⟨us,[]⟩ (us++ds) (vs++mr) Q E hr I.N9 (hb s us I.gj hl) r2 h) λr s' hq=>?_);cases r with|error e=>exact hx pins J H s e s' I hq|ok fl=>cases fl with|ret u=>exact I.after hq|next=>exact False.elim hq|brk=>exact False.elim hq|cont=>exact False.elim hq
theorem Oa(F:jK X.prog X.w X.K X.mg X.base CX k f fd ps sp)(hr:eX k X.A)(hg:Gl X x)(hm:X.mg x=some (.ref f))(hk:Ui X.K (.ref f)=true)(hb:Binds X.K fd ps ds)(hd:Vals mr ds)(hx:xF CX X E)(ha:PA X (e::es) t)(jL:(x==("__debug__":Str))=false:=by decide)(he:Wl (e::es) X.env=(false,eval e X.env)::Wl es X.env:=by rfl)(dq:(QH pos (Wl es X.env)).any (·.1)=false:=by rfl):PE X (.Call (.Name x p) (e::es) [] pos) (Cf sp mr E t):=by intro pins s J H Q I h;refine wpAny_Call_Name_kw (MR I hg hm ?_ jL);refine PySem.W.callWith_K (h₀:=X.base) I.ok.mod.xm hk (aM (ha pos pins s J H _ I h) λus s1⟨vs,H1,I1,r,q⟩=>⟨I1.gj,?_⟩) he dq;exact N_ F hr hb hd hx I1 r q
end
def PK(X:Cx)(Cg:List Keyword)(t:TA):Prop:=∀(pos:Pos)(pins:List (Addr×Obj))(s:W6)(J:St)(H:Hp)(Q:List V->Hp->Prop),Inv X pins J H s->t J H Q->Wb 5#0 X.A (evalAll ((Ua pos (Jy Cg X.env)).map (·.2))) (AP X pins J Q) X.xe s
structure mw(N P:List Str)(sc:Scope):Prop where
 kind:sc.kind=.function
 co:sc.isCoroutine=false
 gen:sc.isGenerator=false
 nd:N.Nodup
 pre:N.take P.length=P
 par:∀x∈P,sc.names.lookup x=some .local\/sc.names.lookup x=some .cell
 xG:∀y∈sc.names,y.2≠.free
theorem scc{N P:List Str}(kind:sc.kind=.function:=by rfl)(co:sc.isCoroutine=false:=by rfl)(gen:sc.isGenerator=false:=by rfl)(nd:N.Nodup:=by decide+kernel)(pre:N.take P.length=P:=by rfl)(par:∀x∈P,sc.names.lookup x=some .local\/sc.names.lookup x=some .cell:=by decide+kernel)(xG:∀y∈sc.names,y.2≠.free:=by decide+kernel):mw N P sc:=⟨kind,co,gen,nd,pre,par,xG⟩
theorem Ci:∀{binds:List (Str×Value)}{m:Str->Option Value},(∀v,(x,v)∉binds)->bindL kindOf binds m x=m x|[],_,_=>rfl|(n,v)::r,m,h=>by unfold bindL;rw[Ci λw hw=>h w (W8 _ hw)];split;all_goals grind
theorem Cj:∀{binds:List (Str×Value)}{m:Str->Option Value},(∀v,(x,v)∉binds)->bindC kindOf binds m x=m x|[],_,_=>rfl|(n,v)::r,m,h=>by unfold bindC;rw[Cj λw hw=>h w (W8 _ hw)];split;all_goals grind
theorem Ck{kindOf:Str->Option NameKind}{x:Str}{v:Value}:∀{P:List Str}{vs:List Value}{i:Nat}{m:Str->Option Value},P.Nodup->P[i]?=some x->vs[i]?=some v->kindOf x=some .local->bindL kindOf (P.zip vs) m x=some v|[],_,_,_,_,h,_,_=>by simp at h|_::_,[],_,_,_,_,h,_=>by simp at h|p::P,w::vs,0,m,nd,h1,h2,hk=>by simp at h1 h2;subst h1;subst h2;show bindL kindOf ((p,w)::P.zip vs) m p=_;unfold bindL;rw[Ci λv hv=>(WL.mp nd).1 (U2 hv).1,if_pos hk];simp|p::P,w::vs,i+1,m,nd,h1,h2,hk=>by show bindL kindOf ((p,w)::P.zip vs) m x=_;unfold bindL;exact Ck (i:=i) (WL.mp nd).2 (~~~h1) (~~~h2) hk
theorem Cm{kindOf:Str->Option NameKind}{x:Str}{v:Value}:∀{P:List Str}{vs:List Value}{i:Nat}{m:Str->Option Value},P.Nodup->P[i]?=some x->vs[i]?=some v->kindOf x≠some .local->bindC kindOf (P.zip vs) m x=some v|[],_,_,_,_,h,_,_=>by simp at h|_::_,[],_,_,_,_,h,_=>by simp at h|p::P,w::vs,0,m,nd,h1,h2,hk=>by simp at h1 h2;subst h1;subst h2;show bindC kindOf ((p,w)::P.zip vs) m p=_;unfold bindC;rw[Cj λv hv=>(WL.mp nd).1 (U2 hv).1,if_neg hk];simp|p::P,w::vs,i+1,m,nd,h1,h2,hk=>by show bindC kindOf ((p,w)::P.zip vs) m x=_;unfold bindC;exact Cm (i:=i) (WL.mp nd).2 (~~~h1) (~~~h2) hk
def er(N:List Str)(vs:List V):St:=vs.map some++Wp (N.length-vs.length) none
def k9(CX:jJ)(P:Wt)(w:Ww)(K:Wa)(mg:Str->Option Value)(base:Heap)(N:List Str)(qual:Str)(scope:Scope)(f:Addr)(cd:Value)(A:WA)(outer:List Env)(s:W6)(H:Hp)(E:XK):Cx where
 prog:=P
 w:=w
 K:=K
 mg:=mg
 base:=base
 A:=A.deeper (envOfC qual scope s.heap.objs.size f cd)
 N:=N
 s₀:=s
 H₀:=H
 env:=envOfC qual scope s.heap.objs.size f cd
 outer:=outer
 stack:=envOfC qual scope s.heap.objs.size f cd::outer
 ex:=[]
 calm:=true
 fn:=λj=>true
 pn:=[]
 xe:=λe s'=>Wb (model P w) (A.deeper (envOfC qual scope s.heap.objs.size f cd)) (leaving (envOfC qual scope s.heap.objs.size f cd) e) (λj nW=>CX outer H s E e nW) (λe' nW=>CX outer H s E e' nW) s'
theorem Cn(h:sc.names.lookup x=some .cell):∃c,(QY n sc.names []).lookup x=some c:=by have q:=PySem.W.cellsFrom_some sc.names n [] (.inl h);exact Option.isSome_iff_exists.mp q
theorem Ob{N ps:List Str}{f:Addr}{s1:W6}{E:XK}(S:mw N ps scope)(hd:A.handled=none)(e0:uv P w K mg base A outer s H)(hl:vs.length=ps.length)(r:Vals vs us)(x:InCallC s s.heap.objs.size (bindL (envOfC qual scope s.heap.objs.size f cd).kindOf (ps.zip us) λj=>none) (QY (s.heap.objs.size+1) scope.names []) (bindC (envOfC qual scope s.heap.objs.size f cd).kindOf (ps.zip us) λj=>none) s1):Inv (k9 CX P w K mg base N qual scope f cd A outer s H E) [] (er N vs) H s1:=by
 have dq:ps.length<=N.length:=by have:=congrArg J7 S.pre;rw[List.length_take]at this;lia
 obtain⟨h1,tk,rfl,hk⟩:=x.done;have qE:∀b:Addr,b∉(k9 CX P w K mg base N qual scope f cd A outer s H E).ex:=λb z=>absurd (show b∈([]:List Addr)from z) V';refine⟨⟨e0.mod,S.kind,rfl,rfl,Wf _,λy z c h1 h2=>?_,λy hy=>?_,λy c j h=>?_,λj=>hd,Around.frames_deeper e0.frames,.inr ⟨rfl,rfl⟩,λb z=>absurd z (qE b),e0.bs,e0.nQ,λb j j=>qE b,λb z=>absurd z (qE b),e0.jG,e0.oS⟩,rfl,e0.bare,Un.kept hk,⟨_,x.toInCall.ns,λi y v h1 h2 h3=>?_⟩,λy c h=>⟨_,x.cell y c h⟩,e0.aD.fresh (Wf _),λy c h=>?_,λp hp=>absurd (show p∈([]:List (Addr×Obj))from hp) V',e0.aD.kept hk,?_⟩;.exact name_of_addr x.apart (WH h1) (WH h2)
 .have hy:scope.names.lookup y=some .cell\/scope.names.lookup y=some .free:=hy;rcases hy with hy|hy;.exact Cn hy
  .exact absurd rfl (S.xG _ (WH hy))
 .exact QV (x.above y c (WH h))
 .have hi:i<vs.length:=by
   unfold er at h2;by_cases hi:i<vs.length;.exact hi
   .rw[List.getElem?_append_right (~~~hi)]at h2;rw[List.getElem?_replicate]at h2;split at h2<;>cases h2
  have ha:vs[i]?=some v:=by unfold er at h2;rw[List.getElem?_append_left (~~~hi),Wo]at h2;cases e:vs[i]? with|none=>rw[e]at h2;cases h2|some a=>rw[e]at h2;cases h2;rfl
  obtain⟨u,hu,rv⟩:=r.get ha;have hp:ps[i]?=some y:=by rw[<-S.pre,List.getElem?_take_of_lt Z'];exact h1
  have Co:ps.Nodup:=by rw[<-S.pre];exact S.nd.sublist (List.take_sublist _ _)
  refine⟨u,rv,?_⟩;rcases S.par y (Q0 hp)with k|k;.exact .inl ⟨k,Ck Co hp hu k⟩
  .obtain⟨c,e⟩:=Cn (n:=s.heap.objs.size+1) k;refine .inr ⟨.inl k,c,e,?_⟩;have q:=x.cell y c e;rw[Cm Co hp hu (by show scope.names.lookup y≠_;rw[k];decide)]at q;exact q
 .exact e0.aD.fresh (QV (x.above y c (WH h)))
 .unfold er;show _=N.length;rw[Qn,WB,List.length_replicate];lia
theorem Oc{k:Nat}{f:Addr}{dV kV:Value}{N ps:List Str}(lk:K.lookup f=some ⟨oc,od,.func (J8 name qual params body scope dV kV doc pm an b9 ct),mx⟩)(jH:PySem.W.codeIn K b9 qual=true)(S:mw N ps scope)(len:∀vs H Q E,sp vs H Q E->vs.length=ps.length)(k_:∀(A:WA)(outer:List Env)(s:W6)(H:Hp)(vs:List V)(Q:VK)(E:XK),eX k (A.deeper (envOfC qual scope s.heap.objs.size f b9))->sp vs H Q E->∃t,eW (k9 CX P w K mg base N qual scope f b9 A outer s H E) body t/\t {nx:=λj H'=>Q .aX H',rt:=Q} (er N vs) H):jK P w K mg base CX (k+1) f (J8 name qual params body scope dV kV doc pm an b9 ct) ps sp:=by
 refine⟨len,λA outer s H args us vs Q E hr e0 hb r my=>?_⟩;have hl:=len _ _ _ _ my;have KX:K.In s.heap:=e0.mod.xm.keeps λb o e=>(e0.bs b o e).1;have lim:s.heap.NoLimit:=e0.mod.nolimit.keeps λb o e=>(e0.bs b o e).1;have Od:∀y∈ps.zip us,scope.names.lookup y.1=some .local\/scope.names.lookup y.1=some .cell/\((QY (s.heap.objs.size+1) scope.names []).lookup y.1).isSome=true:=λ⟨n,v⟩hy=>by
  rcases S.par n (U2 hy).1 with q|q;.exact .inl q
  .exact .inr ⟨q,PySem.W.cellsFrom_some _ _ _ (.inl q)⟩
 refine codeAny_call_function hr.depth (KX _ _ lk) rfl S.co S.gen rfl (PySem.W.codeRec_of KX jH) (hb _ _ _ _ ?_);refine wpAny_newFunctionEnv_cells S.kind Od λenv he s1 x=>?_;subst he;refine⟨lim.keeps x.toInCall.keep,codeAny_func ?_⟩;obtain⟨t,ht,hq⟩:=k_ A outer s H vs Q E (hr.deeper _) my;have I:Inv (k9 CX P w K mg base N qual scope f b9 A outer s H E) [] (er N vs) H s1:=Ob S hr.hd e0 hl r x;refine Q2 (ht [] s1 (er N vs) H _ I hq) (λfl s' hs=>?_) λe s' hs=>hs;have fin:∀{J':St}{H':Hp}{v:V}{u:Value},Inv (k9 CX P w K mg base N qual scope f b9 A outer s H E) [] J' H' s'->RelV v u->Q v H'->CE outer P w H s Q u s':=λ{J' H' v u}M' rv q=>⟨v,H',M'.os,M'.bare,M'.base,M'.aD,rv,q⟩;cases fl with|ret u=>obtain⟨v,J',H',M',rv,q⟩:=hs;exact fin M' rv q|next=>obtain⟨J',H',M',q⟩:=hs;exact fin (v:=V.aX) (u:=Value.none) M' rfl q|brk=>obtain⟨_,_,_,q⟩:=hs;exact False.elim q|cont=>obtain⟨_,_,_,q⟩:=hs;exact False.elim q
section
variable{p:Pos}{t:TA}{id T:String}{r:List V->Hp->VK->Prop}
def Cp(r:List V->Hp->VK->Prop)(t:TA):TE:=λJ H Q=>t J H λvs H1=>r vs H1 Q
theorem uw(hc:eG X (.builtin id) r)(hg:Gl X x)(hm:X.mg x=none)(hv:QU x=some (.builtin id))(ha:PA X (e::es) t)(hn:x≠"__name__":=by decide)(jL:(x==("__debug__":Str))=false:=by decide)(he:Wl (e::es) X.env=(false,eval e X.env)::Wl es X.env:=by rfl)(dq:(QH pos (Wl es X.env)).any (·.1)=false:=by rfl):PE X (.Call (.Name x p) (e::es) [] pos) (Cp r t):=by intro pins s J H Q I h;refine wpAny_Call_Name_kw (nS I hg hm hv ?_ hn jL);exact PyProof.Rows.callWith_builtin1 (aM (ha pos pins s J H _ I h) λus s1⟨vs,H1,I1,r1,q1⟩=>hc pins s1 J H1 vs us Q I1 r1 q1) he dq
theorem Cq(hc:eG X (.type T) r)(hg:Gl X x)(hm:X.mg x=none)(hv:QU x=some (.type T))(ha:PA X (e::es) t)(hn:x≠"__name__":=by decide)(jL:(x==("__debug__":Str))=false:=by decide)(he:Wl (e::es) X.env=(false,eval e X.env)::Wl es X.env:=by rfl)(dq:(QH pos (Wl es X.env)).any (·.1)=false:=by rfl):PE X (.Call (.Name x p) (e::es) [] pos) (Cp r t):=by intro pins s J H Q I h;refine wpAny_Call_Name_kw (nS I hg hm hv ?_ hn jL);exact QQ (aM (ha pos pins s J H _ I h) λus s1⟨vs,H1,I1,r1,q1⟩=>hc pins s1 J H1 vs us Q I1 r1 q1) he dq
end
theorem Oe{vs Q}(ht:IsTup s.heap t vs.toArray)(hb:IsTup s.heap b ws.toArray)(hv:vs≠[])(h1:ws=[]->Q (.ref t) s)(h2:ws≠[]->Q (.ref s.heap.objs.size) 9#(s.heap.push {cls:=.type "tuple",data:=.seq (vs++ws).toArray}))(hsz:vs.length+ws.length<=Wd):Wb 4#0 A (Qo .Add (.ref t) (.ref b)) Q E s:=by
 obtain⟨⟨cls,dd,data,sl⟩,ho,hc,n,hd⟩:=id ht;obtain⟨⟨cls2,dd2,data2,sl2⟩,ho2,hc2,n2,hd2⟩:=id hb;simp only at hc hd hc2 hd2;subst hc hd hc2 hd2;have e:vs.toArray++ws.toArray=(vs++ws).toArray:=by simp
 by_cases hw:ws=[]
 .exact concat_meets ⟨_,ho,rfl⟩ ⟨_,ho2,rfl⟩ noFill_tuple_add seq_tuple_add PySem.F.slot_tuple_add PySem.F.entry_tuple_add (PySem.F.args_tuple_add_2 _ _) (tuple_addW1 t b vs.toArray ws.toArray n n2 dd dd2 sl sl2 (~~~hv) #v[hw]) ⟨ho,ho2,h1 hw⟩
 .refine concat_meets ⟨_,ho,rfl⟩ ⟨_,ho2,rfl⟩ noFill_tuple_add seq_tuple_add PySem.F.slot_tuple_add PySem.F.entry_tuple_add (PySem.F.args_tuple_add_2 _ _) (tuple_addW2 t b vs.toArray ws.toArray n n2 dd dd2 sl sl2 (~~~hv) (~~~hw) %[Wx,Wx|hsz]) ⟨ho,ho2,?_⟩;rw[e];exact h2 hw
def fI(n d:Nat):Option Int->Nat|none=>d|some v=>if v<0 then(v+(n:Int)).toNat else min v.toNat n
abbrev TO:=St->Hp->(Option Int->Hp->Prop)->Prop
def PO(X:Cx)(e:Option Expr)(t:TO):Prop:=∀(pins:List (Addr×Obj))(s:W6)(J:St)(H:Hp)(Q:Option Int->Hp->Prop),Inv X pins J H s->t J H Q->Wb 5#0 X.A (evalPart e X.env) (λu s'=>∃o H',Inv X pins J H' s'/\IsPart u o/\Q o H') X.xe s
def Of:TO:=λj H Q=>Q none H
def Og(t:TE):TO:=λJ H Q=>t J H λx H1=>∃i,x=.int i/\Q (some i) H1
section
variable{tl th:TO}{p2:Pos}
theorem Oh:PO X none Of:=by intro pins s J H Q I h;rw[evalPart_none];exact W3 ⟨none,H,I,.none,h⟩
theorem Oi(h:PE X e te):PO X (some e) (Og te):=by intro pins s J H Q I hw;rw[evalPart_some];refine aM (h pins s J H _ I hw) λu s1 hh=>?_;obtain⟨x,H1,I1,r1,q1⟩:=hh;obtain⟨i,rfl,q⟩:=q1;obtain⟨t,rfl⟩:=r1;exact⟨some i,H1,I1,.int i t,q⟩
def Cr(X:Cx)(r:V->Option Int->Option Int->Hp->VK->Prop):Prop:=∀(pins:List (Addr×Obj))(s:W6)(J:St)(H:Hp)(x:V)(v vl vu:Value)(lo hi:Option Int)(sl:Addr)(Q:VK),Inv X pins J H s->RelV x v->s.heap.IsSliceOf sl vl vu .none->IsPart vl lo->IsPart vu hi->r x lo hi H Q->∃T id,typeLookup (.type T) "__getitem__"=pure (some (.builtin id))/\s.TypeIs v T/\Wb 5#0 X.A (getItem v (.ref sl)) (EP X pins J Q) X.xe s
def Oj(r:V->Option Int->Option Int->Hp->VK->Prop)(te:TE)(tl th:TO):TE:=λJ H Q=>te J H λx H1=>tl J H1 λl H2=>th J H2 λu H3=>r x l u H3 Q
theorem Ol(hr:Cr X r)(he:PE X e te)(hl:PO X lo tl)(hu:PO X hi th):PE X (.Subscript e (.Slice lo hi none p2) pos) (Oj r te tl th):=by intro pins s J H Q I h;refine Subscript_ (aM (he pins s J H _ I h) λv s1 hh=>?_);obtain⟨x,H1,I1,r1,q1⟩:=hh;refine wpAny_Slice (aM (hl pins s1 J H1 _ I1 q1) λvl s2⟨l,H2,I2,pl,q2⟩=>aM (hu pins s2 J H2 _ I2 q2) λvu s3 hh=>?_);obtain⟨u,H3,I3,pu,q3⟩:=hh;rw[evalPart_none];refine W3 ?_;have I4:Inv X pins J H3 {s3 with heap:=s3.heap.push {cls:=.type "slice",data:=.fields #[vl,vu,.none]}}:=I3.kept (t':=s3.toks) λb ob q=>W5 _ q;obtain⟨T,id,hT,ht,hg⟩:=hr pins {s3 with heap:=s3.heap.push {cls:=.type "slice",data:=.fields #[vl,vu,.none]}} J H3 x v vl vu l u s3.heap.objs.size Q I4 r1 (Heap.IsSliceOf.new ..) pl pu q3;show Wb 5#0 X.A (subscriptTail e (.Slice lo hi none p2) v (.ref s3.heap.objs.size)) (EP X pins J Q) X.xe {s3 with heap:=s3.heap.push {cls:=.type "slice",data:=.fields #[vl,vu,.none]}};exact tail_any (ops:=[.ref s3.heap.objs.size,v]) ht hT hg (by with_unfolding_all rfl)
def qF(xs:List V)(lo hi:Option Int):List V:=(xs.drop (fI xs.length 0 lo)).take (fI xs.length xs.length hi-fI xs.length 0 lo)
theorem Om(xs:List V)(lo hi:Option Int):(qF xs lo hi).length<=xs.length:=by unfold qF;rw[List.length_take,List.length_drop];lia
def Cs(K:Wa):R2:=λx y H Q=>∃a b xs ys,x=.ref a/\y=.ref b/\cN K H a xs/\cN K H b ys/\xs≠[]/\xs.length+ys.length<=Wd/\(ys=[]->Q (.ref a) H)/\(ys≠[]->∀p,H p=none->Q (.ref p) (upd H p (.tup (xs++ys))))
theorem Vals.ux(r:Vals xs us):us=[]↔xs=[]:=by cases r with|nil=>simp|cons _ _=>simp
theorem Oo:bJ X (Qo .Add) (Cs X.K):=by intro pins s J H x y v u Q I rx ry h;obtain⟨a,b,xs,ys,rfl,rfl,ha,hb,hx,hz,q1,q2⟩:=h;cases rx;cases ry;obtain⟨ak,r1,p1,_⟩:=I.tuple ha;obtain⟨its2,r2,p2,_⟩:=I.tuple hb;refine Oe p1 p2 (λz=>hx (r1.ux.mp z)) (λz=>⟨.ref a,H,I,rfl,q1 (r2.ux.mp z)⟩) (λz=>?_) (by rw[<-r1.length,<-r2.length];exact hz);refine⟨.ref s.heap.objs.size,_,I.laid (t':=s.toks) (o:=.tup (xs++ys)) (λb ob q=>W5 _ q) (Wf _) ?_,rfl,q2 (λw=>z (r2.ux.mpr w)) _ (I.aD.fresh (Wf _))⟩;exact⟨%[Qn|hz],_,r1.append r2,i_.new _ _⟩
end
def fJ(n:Nat)(i:Int):Option Nat:=if 0<=i then if i<n then some i.toNat else none else if-(n:Int)<=i then some (i+n).toNat else none
def dO{α:Type}(xs:List α)(i:Int):Option α:=(fJ xs.length i).bind λj=>xs[j]?
theorem Ct{i}(h:fJ n i=some j):seqIndex? i n=some j/\j<n/\-(n:Int)<=i/\i<n:=by
 unfold fJ at h;by_cases h0:0<=i
 .rw[if_pos h0]at h;by_cases h1:i<n;.rw[if_pos h1]at h;have e:i.toNat=j:=WK h;exact⟨by rw[seqIndex_of h0 h1,e],Z',Z',h1⟩
  .rw[if_neg h1]at h;cases h
 .rw[if_neg h0]at h;by_cases h1:-(n:Int)<=i;.rw[if_pos h1]at h;have e:(i+n).toNat=j:=WK h;exact⟨by rw[seqIndex_neg Z' h1,e],Z',h1,Z'⟩
  .rw[if_neg h1]at h;cases h
theorem xH{i}(h:dO xs i=some v):∃j,seqIndex? i xs.length=some j/\xs[j]?=some v/\j<xs.length/\-(xs.length:Int)<=i/\i<xs.length:=by unfold dO at h;cases e:fJ xs.length i with|none=>rw[e]at h;cases h|some j=>rw[e]at h;obtain⟨h1,h2,h3,h4⟩:=Ct e;exact⟨j,h1,h,h2,h3,h4⟩
def xI(b:Expr):Prop:=∀o i,subscripted b false o i=operate [o,i] (getItem o i)
def ig(X:Cx)(r:R2):Prop:=∀(value slice:Expr)(pins:List (Addr×Obj))(s:W6)(J:St)(H:Hp)(x y:V)(v u:Value)(Q:VK),Inv X pins J H s->RelV x v->RelV y u->r x y H Q->subscripted slice false v u=operate [v,u] (getItem v u)->Wb 5#0 X.A (subscriptTail value slice v u) (EP X pins J Q) X.xe s
def uy(X:Cx)(id:String)(r:V->List V->Hp->VK->Prop):Prop:=∀(pins:List (Addr×Obj))(s:W6)(J:St)(H:Hp)(x:V)(xs:List V)(v:Value)(us:List Value)(Q:VK),Inv X pins J H s->RelV x v->Vals xs us->r x xs H Q->Wb 5#0 X.A (call (.builtin id) (v::us)) (EP X pins J Q) X.xe s
section
variable{a b:Expr}{tb:TE}
theorem ig.or(h:ig X r)(h':ig X r'):ig X λx y H Q=>r x y H Q\/r' x y H Q:=by
 intro value slice pins s J H x y v u Q I rx ry q hs;rcases q with q|q;.exact h value slice pins s J H x y v u Q I rx ry q hs
 .exact h' value slice pins s J H x y v u Q I rx ry q hs
theorem Cu(hr:ig X r)(ha:PE X a ta)(hb:PE X b tb)(hs:xI b):PE X (.Subscript a b pos) (nV r ta tb):=by intro pins s J H Q I h;exact Subscript_ (xB ha hb I h λv u s2 x y H2 I2 rx ry q=>hr a b pins s2 J H2 x y v u Q I2 rx ry q (hs _ _))
def Cv(K:Wa):R2:=λx y H Q=>∃p xs i v,x=.ref p/\y=.int i/\cu K H p xs/\dO xs i=some v/\Q v H
def Cw(K:Wa):R2:=λx y H Q=>∃p xs i v,x=.ref p/\y=.int i/\cN K H p xs/\dO xs i=some v/\Q v H
def Cy:R2:=λx y H Q=>∃z i c,x=.str z/\y=.int i/\z.length<=Wd/\dO z.cps.toList i=some c/\Q (.str ⟨#[c]⟩) H
theorem Oq:ig X (Cv X.K):=by
 intro value slice pins s J H x y v u Q I rx ry h hs;obtain⟨p,xs,i,z,rfl,rfl,hq,he,q⟩:=h;cases rx;obtain⟨t,rfl⟩:=ry;obtain⟨ak,r,pl,hz⟩:=I.list hq;obtain⟨j,h1,h2,h3,h4,h5⟩:=xH he;obtain⟨w,ew,bN⟩:=r.get h2;have hl:=r.length;have hn:=oU;have fin:EP X pins J Q w s:=⟨z,H,I,bN,q⟩;by_cases h0:0<=i
 .have hj:i.toNat=j:=by rw[seqIndex_of h0 h5]at h1;exact WK h1
  exact item_listR pl.isList h0 Z' (by rw[hj];simpa using ew) fin hs
 .have hj:(i+(ak.toArray.size:Int)).toNat=j:=by rw[seqIndex_neg Z' h4]at h1;rw[Wx,<-hl];exact WK h1
  exact subscriptTail_builtinR (x:=w) pl.isList.typeIs slot_list_getitem.lookup (wpAny_getItem_list_neg (Q:=λr s'=>r=w/\EP X pins J Q r s') pl.isList Z' (by rw[Wx]<;>lia) Z' (by rw[hj];simpa using ew) ⟨rfl,fin⟩) hs
theorem Ot:ig X (Cw X.K):=by intro value slice pins s J H x y v u Q I rx ry h hs;obtain⟨p,xs,i,z,rfl,rfl,hq,he,q⟩:=h;cases rx;obtain⟨t,rfl⟩:=ry;obtain⟨ak,r,pl,hz⟩:=I.tuple hq;obtain⟨j,h1,h2,h3,h4,h5⟩:=xH he;obtain⟨w,ew,bN⟩:=r.get h2;have hl:=r.length;have hn:=oU;have fin:EP X pins J Q w s:=⟨z,H,I,bN,q⟩;exact subscriptTail_builtinR (x:=w) pl.typeIs slot_tuple_getitem.lookup (getItem_tuple (j:=j) (Q:=λr s'=>r=w/\EP X pins J Q r s') pl Z' Z' (by rw[Wx,<-hl];exact h1) (~~~ew) ⟨rfl,fin⟩) hs
theorem Ou:ig X Cy:=by intro value slice pins s J H x y v u Q I rx ry h hs;obtain⟨z,i,c,rfl,rfl,hz,he,q⟩:=h;obtain⟨t,rfl⟩:=rx;obtain⟨t',rfl⟩:=ry;obtain⟨j,h1,h2,h3,h4,h5⟩:=xH he;have hl:z.cps.toList.length=z.length:=#v[Str.length];rw[hl]at h1 h4 h5;have hn:=oU;exact tail_any (typeIs_str s z t) slot_str_getitem.lookup (getItem_str (c:=c) (by have e1:decide (i< -(2^63:Int))=false:=decide_eq_false Z';have e2:decide (i≥2^63)=false:=decide_eq_false Z';rw[e1,e2,Bool.or_false]) (by rw[h1];simpa using h2) ⟨.str ⟨#[c]⟩,H,I.tok _,⟨_,rfl⟩,q⟩) hs
def uz(K:Wa):R2:=λx y H Q=>Cv K x y H Q\/Cw K x y H Q\/Cy x y H Q
theorem xJ:ig X (uz X.K):=Oq.or (Ot.or Ou)
theorem Ov(ak:List Value)(n j:Nat)(u:Value):Obj.mapSeq (·.setIfInBounds j u) {cls:=.type "list",data:=.seq ak.toArray n}={cls:=.type "list",data:=.seq (ak.set j u).toArray n}:=by simp[Obj.mapSeq]
theorem Inv.lst{X pins J H s p xs}(I:Inv X pins J H s)(h:H p=some (.lst xs)):∃(ak:List Value)(n:Nat),Vals xs ak/\s.heap.get? p=some {cls:=.type "list",data:=.seq ak.toArray n}/\xs.length<=Wd:=by obtain⟨z,ak,n,r,e⟩:=I.aD p _ h;exact⟨ak,n,r,e,z⟩
theorem Inv.Ow{p:Addr}{xs ys:List V}{ak its':List Value}{n n':Nat}{f:Obj->Obj}(I:Inv X pins J H s)(h:H p=some (.lst xs))(ho:s.heap.get? p=some {cls:=.type "list",data:=.seq ak.toArray n})(hf:f {cls:=.type "list",data:=.seq ak.toArray n}={cls:=.type "list",data:=.seq its'.toArray n'})(r:Vals ys its')(hz:ys.length<=Wd)(t:Nat):Inv X pins J (upd H p (.lst ys)) {s with heap:=s.heap.update p f,toks:=t}:=by
 have e:(s.heap.update p f).get? p=some {cls:=.type "list",data:=.seq its'.toArray n'}:=by rw[WN f ho (by rw[hf]<;>rfl),hf]
 refine I.write (x:=p) (e:=p) (by rw[h];trivial) (.inl rfl) (λb u hb q=>(Qb _ _ (Ne.symm hb)).trans q) ⟨_,e⟩ ?_;exact⟨hz,its',n',r,e⟩
def Ox:V->V->V->Hp->(Hp->Prop)->Prop:=λo i v H Q=>∃p xs k j,o=.ref p/\i=.int k/\H p=some (.lst xs)/\fJ xs.length k=some j/\Q (upd H p (.lst (xs.set j v)))
theorem Oy:BP X Ox:=by
 intro pins s J H o i v ov iv u Q I ro ri rv h;obtain⟨p,xs,k,j,rfl,rfl,hp,hj,q⟩:=h;cases ro;obtain⟨t,rfl⟩:=ri;obtain⟨ak,n,r,ho,hz⟩:=I.lst hp;obtain⟨h1,h2,h3,h4⟩:=Ct hj;have hl:=r.length;have hn:=oU;have I':Inv X pins J (upd H p (.lst (xs.set j v))) 9#(s.heap.update p (Obj.mapSeq (·.setIfInBounds j u))):=I.Ow hp ho (Ov ak n j u) (r.set rv j) %[Qe|hz] s.toks;by_cases h0:0<=k
 .have hk:k.toNat=j:=by rw[seqIndex_of h0 h4]at h1;exact WK h1
  exact PySem.W.ki_setAt ho h0 Z' (by rw[Wx,<-hl];exact h4) (by rw[hk];exact⟨_,I',q⟩)
 .have hk:(k+(ak.toArray.size:Int)).toNat=j:=by rw[seqIndex_neg Z' h3]at h1;rw[Wx,<-hl];exact WK h1
  exact PySem.W.ki_setBack ho Z' (by rw[Wx,<-hl];exact h3) Z' (by rw[hk];exact⟨_,I',q⟩)
theorem Oz(lo hi:Option Int)(n:Nat):(JX lo hi none n).1=((fI n 0 lo:Nat):Int)/\(JX lo hi none n).2.1=((fI n n hi:Nat):Int)/\(JX lo hi none n).2.2=1:=by
 refine⟨?_,?_,rfl⟩;.cases lo with|none=>simp[JX,fI]|some i=>
   simp only[JX,fI,Option.getD_none,show(1:Int)>0 by decide,if_true];by_cases h:i<0;.simp only[h,if_true]<;>lia
   .simp only[h,if_false]<;>lia
 .cases hi with|none=>simp[JX,fI]|some i=>
 simp only[JX,fI,Option.getD_none,show(1:Int)>0 by decide,if_true];by_cases h:i<0;.simp only[h,if_true]<;>lia
 .simp only[h,if_false]<;>lia
theorem OA(ak:List Value)(lo hi:Option Int):slicePick ak.toArray lo hi none=((ak.drop (fI ak.length 0 lo)).take (fI ak.length ak.length hi-fI ak.length 0 lo)).toArray:=by obtain⟨h1,h2,h3⟩:=Oz lo hi ak.toArray.size;unfold slicePick;rw[h1,h2,h3];simp only[sliceRange_one,pick_run,Wx]<;>rfl
def Cz(K:Wa):V->Option Int->Option Int->Hp->VK->Prop:=λx lo hi H Q=>∃a xs,x=.ref a/\cu K H a xs/\∀p,H p=none->Q (.ref p) (upd H p (.lst (qF xs lo hi)))
theorem OB:Cr X (Cz X.K):=by intro pins s J H x v vl vu lo hi sl Q I rx hs pl pu h;obtain⟨a,xs,rfl,hx,q⟩:=h;cases rx;obtain⟨ak,r,ht,hz⟩:=I.list hx;have hlen:=r.length;refine⟨"list",_,slot_list_getitem.lookup,ht.isList.typeIs,?_⟩;refine wpAny_getItem_list_slice ht.isList hs pl pu .none V' ?_ (by rw[Wx]<;>lia);rw[OA,<-hlen];refine⟨.ref s.heap.objs.size,_,I.laid (t':=s.toks) (o:=.lst (qF xs lo hi)) (λb ob q=>W5 _ q) (Wf _) ?_,rfl,q _ (I.aD.fresh (Wf _))⟩;exact⟨Wq (Om xs lo hi) hz,_,0,(r.drop (fI xs.length 0 lo)).take (fI xs.length xs.length hi-fI xs.length 0 lo),Wi _ rfl⟩
def la:V->Bool|.aX=>true|.bl _=>true|.int _=>true|.str _=>true|_=>false
def mz:V->V->Bool|.aX,.aX=>true|.bl a,.bl b=>a==b|.bl a,.int b=>(if a then 1 else 0)==b|.int a,.bl b=>a==if b then 1 else 0|.int a,.int b=>a==b|.str a,.str b=>a==b|_,_=>false
theorem OC{x}(ry:RelV y u)(rx:RelV x v)(fy:la y=true)(fx:la x=true):SeqAt.EqAt A s u v (mz y x):=by cases y with
 |aX=>cases ry;cases x with|aX=>cases rx;exact SeqAt.EqAt.same _|bl b=>cases rx;exact SeqAt.EqAt.none_bool b|int b=>obtain⟨t,rfl⟩:=rx;exact SeqAt.EqAt.none_int b t|str b=>obtain⟨t,rfl⟩:=rx;exact SeqAt.EqAt.none_str b t|_=>exact absurd (show false=true from fx) WW
 |bl a=>cases ry;cases x with|aX=>cases rx;exact SeqAt.EqAt.bool_none a|bl b=>cases rx;exact SeqAt.EqAt.bool_bool a b|int b=>obtain⟨t,rfl⟩:=rx;exact SeqAt.EqAt.bool_int a b t|str b=>obtain⟨t,rfl⟩:=rx;exact SeqAt.EqAt.bool_str a b t|_=>exact absurd (show false=true from fx) WW
 |int a=>obtain⟨t',rfl⟩:=ry;cases x with|aX=>cases rx;exact SeqAt.EqAt.int_none a t'|bl b=>cases rx;exact SeqAt.EqAt.int_bool a t' b|int b=>obtain⟨t,rfl⟩:=rx;exact SeqAt.EqAt.int_int a t' b t|str b=>obtain⟨t,rfl⟩:=rx;exact SeqAt.EqAt.int_str a t' b t|_=>exact absurd (show false=true from fx) WW
 |str a=>obtain⟨t',rfl⟩:=ry;cases x with|aX=>cases rx;exact SeqAt.EqAt.str_none a t'|bl b=>cases rx;exact SeqAt.EqAt.str_bool a t' b|int b=>obtain⟨t,rfl⟩:=rx;exact SeqAt.EqAt.str_int a t' b t|str b=>obtain⟨t,rfl⟩:=rx;exact SeqAt.EqAt.str_str a t' b t|_=>exact absurd (show false=true from fx) WW
 |_=>exact absurd (show false=true from fy) WW
def lg(x:V)(u:Value):Bool:=match u with|.none=>mz .aX x|.bool b=>mz (.bl b) x|.int i _=>mz (.int i) x|.str z _=>mz (.str z) x|_=>false
theorem CA{x}(r:RelV y u)(f:la y=true):lg x u=mz y x:=by cases y with|aX=>cases r;rfl|bl b=>cases r;rfl|int i=>obtain⟨t,rfl⟩:=r;rfl|str z=>obtain⟨t,rfl⟩:=r;rfl|_=>exact absurd (show false=true from f) WW
theorem xK{x}{xs:List V}{us:List Value}(h:Vals xs us):xs.all la=true->us.any (lg x)=xs.any λy=>mz y x:=by induction h with|nil=>exactλj=>rfl|cons r t ih=>intro f;rw[Uu,Wu]at f;rw[Qz,Qz,CA r f.1,ih f.2]
theorem xM{x}(rx:RelV x v)(fx:la x=true){xs:List V}{us:List Value}(h:Vals xs us):xs.all la=true->∀u∈us,SeqAt.EqAt A s u v (lg x u):=by induction h with|nil=>exactλj j h=>nomatch h|cons r t ih=>
  intro f u' hu;rw[Uu,Wu]at f;rcases Wv.mp hu with rfl|hu;.rw[CA r f.1];exact OC r rx f.1 fx
  .exact ih f.2 u' hu
def uA(x:V)(xs:List V):Bool:=xs.any λy=>mz y x
def CB(K:Wa)(neg:Bool):R2:=λx y H Q=>∃p xs,y=.ref p/\(cu K H p xs\/cN K H p xs)/\la x=true/\xs.all la=true/\Q (.bl (if neg then !uA x xs else uA x xs)) H
theorem OD:bJ X (WX .NotIn) (CB X.K true):=by
 intro pins s J H x y v u Q I rx ry h;obtain⟨p,xs,rfl,hq,fx,fs,q⟩:=h;cases ry;rcases hq with hq|hq;.obtain⟨ak,r,pl,hz⟩:=I.list hq;refine SeqAt.notIn_listAt (lg x) pl.isList (λw hw=>xM rx fx r fs w (~~~hw)) ⟨.bl _,H,I,rfl,?_⟩;rw[show ak.toArray.any (lg x)=ak.any (lg x)by simp,xK r fs];exact q
 .obtain⟨ak,r,pl,hz⟩:=I.tuple hq;refine SeqAt.notIn_tupleAt (lg x) pl (λw hw=>xM rx fx r fs w (~~~hw)) ⟨.bl _,H,I,rfl,?_⟩;rw[show ak.toArray.any (lg x)=ak.any (lg x)by simp,xK r fs];exact q
theorem OE:eG X (.builtin "len") λxs H Q=>∃p ys,xs=[.ref p]/\(cu X.K H p ys\/cN X.K H p ys)/\Q (.int ys.length) H:=by
 intro pins s J H xs us Q I r h;obtain⟨p,ys,rfl,hq,q⟩:=h;obtain⟨u,rfl,rx⟩:=ie r;cases rx;have hn:=oU;rcases hq with hq|hq;.obtain⟨ak,r',pl,hz⟩:=I.list hq;have hlen:=r'.length;exact Calls.call_len_list pl.isList (by simp only[Wx]<;>lia) ⟨.int ys.length,H,I.tok _,⟨s.toks+1,by rw[Wx,hlen]⟩,q⟩
 .obtain⟨ak,r',pl,hz⟩:=I.tuple hq;have hlen:=r'.length;exact len_tuple pl (by simp only[Wx]<;>lia) ⟨.int ys.length,H,I.tok _,⟨s.toks+1,by rw[Wx,hlen]⟩,q⟩
theorem OF:eG X (.builtin "len") λxs H Q=>∃z,xs=[.str z]/\z.length<=Wd/\Q (.int z.length) H:=by intro pins s J H xs us Q I r h;obtain⟨z,rfl,hz,q⟩:=h;obtain⟨u,rfl,t,rfl⟩:=ie r;have hn:=oU;exact len_str Z' ⟨.int z.length,H,I.tok _,⟨_,rfl⟩,q⟩
theorem eG.or{f}(h:eG X f r)(h':eG X f r'):eG X f λxs H Q=>r xs H Q\/r' xs H Q:=by
 intro pins s J H xs us Q I rs q;rcases q with q|q;.exact h pins s J H xs us Q I rs q
 .exact h' pins s J H xs us Q I rs q
theorem OG:eG X (.type "tuple") λxs H Q=>∃p ys,xs=[.ref p]/\((cu X.K H p ys/\∀l,H l=none->Q (.ref l) (upd H l (.tup ys)))\/cN X.K H p ys/\Q (.ref p) H):=by
 intro pins s J H xs us Q I r h;obtain⟨p,ys,rfl,h⟩:=h;obtain⟨u,rfl,rx⟩:=ie r;cases rx;rcases h with⟨hq,q⟩|⟨hq,q⟩;.obtain⟨ak,r',pl,hz⟩:=I.list hq;have hlen:=r'.length;refine call_tuple_list pl.isList (λh' kp=>?_) (by simp only[Wx]<;>lia);have I1:Inv X pins J H 9#h':=I.kept (t':=s.toks) kp;have I2:Inv X pins J (upd H h'.objs.size (.tup ys)) 9#(h'.push {cls:=.type "tuple",data:=.seq ak.toArray}):=I1.laid (t':=s.toks) (λb o e=>W5 _ e) (Wf _) (show bP X.prog X.w _ _ _ (.tup ys)from⟨hz,ak,r',i_.new _ _⟩);exact⟨.ref h'.objs.size,_,I2,rfl,q _ (I1.aD.fresh (Wf _))⟩
 .obtain⟨ak,r',pl,hz⟩:=I.tuple hq;exact call_tuple_same pl ⟨.ref p,H,I,rfl,q⟩
def xN(K:Wa)(T:String)(x:V)(H:Hp):Prop:=match x with|.str _=>T="str"|.int _=>T="int"|.ref p=>(T="list"/\∃xs,cu K H p xs)\/(T="tuple"/\∃o,K.lookup p=some o/\o.cls=.type "tuple"/\o.dict=none)\/T="dict"/\((∃kvs,H p=some (.dK kvs))\/∃kvs,H p=some (.dT kvs))\/T="set"/\∃S n,H p=some (.set S n)|_=>False
theorem OH{x}(I:Inv X pins J H s)(r:RelV x v)(ty:xN X.K T x H):s.TypeIs v T/\∀a,v=.ref a->∃ob,s.heap.get? a=some ob/\ob.dict=none:=by
 cases x with|str z=>obtain⟨t,rfl⟩:=r;cases show T="str"from ty;exact⟨typeIs_str s z t,λj e=>nomatch e⟩|int i=>obtain⟨t,rfl⟩:=r;cases show T="int"from ty;exact⟨typeIs_int s i t,λj e=>nomatch e⟩|ref p=>
  cases r;rcases ty with⟨rfl,xs,hq⟩|⟨rfl,o,hk,hc,hd⟩|⟨rfl,hk⟩|⟨rfl,S,n,hk⟩;.obtain⟨ak,_,pl,_⟩:=I.list hq;refine⟨pl.isList.typeIs,λa e=>?_⟩;cases e;obtain⟨o,n,e,c,hd,_⟩:=pl;exact⟨o,e,hd⟩
  .refine⟨⟨o,I.gj p o hk,hc⟩,λa e=>?_⟩;cases e;exact⟨o,I.gj _ o hk,hd⟩
  .have z:∃o,s.heap.get? p=some o/\o.ExactDict:=by
    rcases hk with⟨kvs,hk⟩|⟨kvs,hk⟩;.obtain⟨_,_,_,_,o,_,_,e,ex,_⟩:=I.aD p _ hk;exact⟨o,e,ex⟩
    .obtain⟨_,_,_,_,o,_,_,e,ex,_⟩:=I.aD p _ hk;exact⟨o,e,ex⟩
   obtain⟨o,e,ex⟩:=z;refine⟨⟨o,e,ex.1⟩,λa e2=>?_⟩;cases e2;exact⟨o,e,ex.2.1⟩
  .obtain⟨o,_,_,_,e,ex,_⟩:=I.aD p _ hk;refine⟨⟨o,e,ex.1⟩,λa e2=>?_⟩;cases e2;exact⟨o,e,ex.2.1⟩|_=>exact False.elim ty
def CF(K:Wa)(T:String)(r:V->List V->Hp->VK->Prop)(to:TE)(t:TA):TE:=λJ H Q=>to J H λx H1=>xN K T x H1/\t J H1 λxs H2=>r x xs H2 Q
variable{o:Expr}{to:TE}{t:TA}{T id:String}{r:V->List V->Hp->VK->Prop}
theorem uB(pa:PlainAttrs T)(slot:Slot T name id)(OI:typeOf (.builtin id)=pure (.type "method_descriptor"))(hm:uy X id r)(ho:PE X o to)(ha:PA X (e::es) t)(lj:QA o name X.env (eval o X.env)=eval o X.env:=by rfl)(ll:((QH bh (Wl (e::es) X.env)).all (λx=>!x.1)&&(Ua bh (Jy [] X.env)).all (λx=>x.1.isSome)&&decide ((e::es).length+([]:List Keyword).length+(if([]:List Keyword).isEmpty then 0 else 1)<30))=true:=by rfl)(gI:(apos.endLine==bh.line)=true:=by rfl)(hs:Wl (e::es) X.env=(false,eval e X.env)::Wl es X.env:=by rfl)(OJ:(QH bh (Wl es X.env)).any (·.1)=false:=by rfl):PE X (.Call (.Attribute o name apos) (e::es) [] bh) (CF X.K T r to t):=by intro pins s J H Q I h;refine wpAny_Call_method_late lj ll gI rfl (aM (ho pins s J H _ I h) λv s1 hh=>?_);obtain⟨x,H1,I1,r1,ty,q1⟩:=hh;obtain⟨h1,h2⟩:=OH I1 r1 ty;refine⟨T,id,pa,slot,OI,h1,h2,?_⟩;have hA:=ha bh pins s1 J H1 _ I1 q1;rw[hs]at hA⊢;refine Calls.callWith_builtin (by show(false||(QH bh (Wl es X.env)).any (·.1))=false;rw[OJ]<;>rfl) (Calls.evalArgs_plain ?_);exact aM hA λus s2⟨vs,H2,I2,r2,q2⟩=>hm pins s2 J H2 x vs v us Q I2 r1 r2 q2
end
def OK(X:Cx)(id:String)(r:V->List V->Hp->VK->Prop):Prop:=∀(pins:List (Addr×Obj))(s:W6)(J:St)(H:Hp)(x:V)(xs:List V)(v:Value)(us:List Value)(Q:VK),Inv X pins J H s->RelV x v->Vals xs us->r x xs H Q->Wb 5#0 X.A (call (.builtin id) (v::us)) (EP X pins J Q) X.xe s
theorem Vals.one{x:V}{us:List Value}(h:Vals [x] us):∃u,us=[u]/\RelV x u:=by cases h with|cons r t=>cases t;exact⟨_,rfl,r⟩
theorem Vals.two{x y:V}{us:List Value}(h:Vals [x,y] us):∃u v,us=[u,v]/\RelV x u/\RelV y v:=by cases h with|cons r t=>obtain⟨u,rfl,q⟩:=Vals.one t;exact⟨_,_,rfl,r,q⟩
theorem Vals.rep(h:Vals xs us):∀k:Nat,Vals (Wp k xs).flatten (Wp k us).flatten|0=>.nil|k+1=>by rw[QT,QT,QO,QO];exact Vals.append h (Vals.rep h k)
theorem CG(ak:List Value):∀(k:Nat)(acc:List Value),List.foldl (λx1 x2=>x1++x2) acc.toArray (Wp k ak.toArray)=(acc++(Wp k ak).flatten).toArray
 |0,acc=>by simp|k+1,acc=>by
  have e:acc.toArray++ak.toArray=(acc++ak).toArray:=by simp
  have e2:acc++ak++(Wp k ak).flatten=acc++(Wp (k+1) ak).flatten:=by grind
  rw[<-e2,<-CG ak k (acc++ak),<-e,QT,Jp]
section
variable{l b:Addr}{xs zs:List V}
theorem Inv.OL{ak its':List Value}{n:Nat}{f:Array Value->Array Value}{t':Nat}(I:Inv X pins J H s)(hH:H l=some (.lst xs))(e:s.heap.get? l=some {cls:=.type "list",data:=.seq ak.toArray n})(hf:f ak.toArray=its'.toArray)(hv:Vals ys its')(hz:ys.length<=Wd):Inv X pins J (upd H l (.lst ys)) {s with heap:=s.heap.update l (Obj.mapSeq f),toks:=t'}:=by have q:=PySem.IsL.update e f;rw[hf]at q;refine I.write (x:=l) (e:=l) %[hH|trivial] (.inl rfl) (λb' u hb hu=>(Qb s.heap (Obj.mapSeq f) (Ne.symm hb)).trans hu) ⟨_,q⟩ ?_;exact⟨hz,its',_,hv,q⟩
theorem Inv.OM(I:Inv X pins J H s)(hv:Vals ys ak)(hz:ys.length<=Wd):Inv X pins J (upd H s.heap.objs.size (.lst ys)) {s with heap:=s.heap.push {cls:=.type "list",data:=.seq ak.toArray},toks:=t'}:=I.laid (λj j q=>W5 _ q) (Wf _) ⟨hz,ak,0,hv,Wi _ rfl⟩
theorem Inv.fresh(I:Inv X pins J H s):H s.heap.objs.size=none:=I.aD.fresh (Wf _)
theorem Inv.ON(I:Inv X pins J H s)(hH:H l=some (.lst xs)):xs.length<=Wd/\∃(ak:List Value)(n:Nat),Vals xs ak/\xs.length=ak.length/\s.heap.get? l=some {cls:=.type "list",data:=.seq ak.toArray n}:=by obtain⟨z,ak,n,r,e⟩:=I.aD l _ hH;exact⟨z,ak,n,r,r.length,e⟩
end
def CH:V->List V->Hp->VK->Prop:=λx vs H Q=>∃l xs y,x=.ref l/\vs=[y]/\H l=some (.lst xs)/\xs.length<Wd/\Q .aX (upd H l (.lst (xs++[y])))
theorem CI:OK X "list.append" CH:=by intro pins s J H x vs v us Q I rx rv h;obtain⟨l,xs,y,rfl,rfl,hH,hz,q⟩:=h;cases rx;obtain⟨u,rfl,ru⟩:=(Vals.one rv);obtain⟨z,ak,n,r,hl,e⟩:=I.ON hH;refine call_meets F.slot_list_append ⟨_,e,rfl⟩ F.entry_list_append (F.args_list_append_2 _ _) (PySem.list_append l ak.toArray n u (by rw[Wx];lia)) ⟨e,?_⟩;refine⟨.aX,_,I.OL (its':=ak++[u]) hH e V' (r.append (.cons ru .nil)) ?_,rfl,q⟩;rw[Qn,List.length_singleton];lia
theorem xO(xs:List α)(k:Nat):(Wp k xs).flatten.length=k*xs.length:=by simp_all
section
variable{κ:Type}[DecidableEq κ]
def gk(kvs:List (κ×V))(k:κ):Option V:=(kvs.find? λkv=>decide (kv.1=k)).map (·.2)
def putK(kvs:List (κ×V))(k:κ)(v:V):List (κ×V):=if(kvs.any λkv=>decide (kv.1=k))=true then kvs.map λkv=>if kv.1=k then(kv.1,v)else kv else kvs++[(k,v)]
theorem uC{p:κ×V}{r:List (κ×V)}{k:κ}(e:p.1=k):gk (p::r) k=some p.2:=#v[gk,Qf,e]
theorem uD{p:κ×V}{r:List (κ×V)}{k:κ}(e:¬p.1=k):gk (p::r) k=gk r k:=#v[gk,Qf,e]
theorem CJ(k:κ):∀kvs:List (κ×V),(kvs.any λkv=>decide (kv.1=k))=(gk kvs k).isSome
 |[]=>rfl|p::r=>by
  rw[Qz];by_cases e:p.1=k;.simp only[uC e,decide_eq_true e,Bool.true_or,Option.isSome_some]
  .rw[uD e,decide_eq_false e,Bool.false_or];exact CJ k r
theorem qG(kvs:List (κ×V))(k:κ)(v:V):(putK kvs k v).length<=kvs.length+1:=by
 unfold putK;split;.rw[WB];lia
 .rw[Qn,WF,JJ];lia
theorem d_.xP{u}(r:d_ o u):o.isSome=u.isSome:=by cases o with
 |none=>cases u with|none=>rfl|some _=>exact(show False from r).elim
 |some _=>cases u with|none=>exact(show False from r).elim|some _=>rfl
theorem d_.getD{u d'}(r:d_ o u)(rd:RelV d d'):RelV (o.getD d) (u.getD d'):=by cases o with
 |none=>cases u with|none=>exact rd|some _=>exact(show False from r).elim
 |some _=>cases u with|none=>exact(show False from r).elim|some _=>exact r
theorem KV.val{kvs:List (κ×V)}{vs:List (κ×Value)}(r:KV kvs vs)(k:κ):d_ (gk kvs k) (valueAt vs k):=by unfold KV at r;induction r with|nil=>exact True.intro|@cons p q ps qs h t ih=>
 obtain⟨h1,h2⟩:=h;by_cases e:p.1=k;.have e':q.1=k:=h1.symm.trans e;have b:valueAt (q::qs) k=some q.2:=#v[valueAt,Qf,e'];rw[uC e,b];exact h2
 .have e':¬q.1=k:=λz=>e (h1.trans z);have b:valueAt (q::qs) k=valueAt qs k:=#v[valueAt,Qf,e'];rw[uD e,b];exact ih
theorem KV.any{kvs vs}(r:KV kvs vs)(k:κ):(kvs.any λkv=>decide (kv.1=k))=vs.any λkv=>decide (kv.1=k):=by unfold KV at r;induction r with|nil=>rfl|cons h t ih=>rw[Qz,Qz,ih,h.1]
theorem KV.xQ{kvs vs}(r:KV kvs vs)(k:κ)(ry:RelV y u):KV (kvs.map λkv=>if kv.1=k then(kv.1,y)else kv) (vs.map λkv=>if kv.1=k then(kv.1,u)else kv):=by unfold KV at r⊢;induction r with|nil=>exact .nil|@cons p q ps qs h t ih=>rw[We,We];refine .cons ?_ ih;grind
theorem KV.put{kvs vs}(r:KV kvs vs)(k:κ)(ry:RelV y u):KV (putK kvs k y) (stored vs k u):=by
 unfold putK stored;rw[r.any k];by_cases e:(vs.any λkv=>decide (kv.1=k))=true;.rw[if_pos e,if_pos e];exact r.xQ k ry
 .rw[if_neg e,if_neg e];exact Paired.snoc r ⟨rfl,ry⟩
theorem KV.length{κ:Type}{kvs:List (κ×V)}{vs:List (κ×Value)}(r:KV kvs vs):kvs.length=vs.length:=Paired.length r
end
theorem mC(r:RelV (kV k) u):(cL P w).is k u=true:=by cases k with|inl i=>obtain⟨t,e⟩:=show∃t,u=Value.int i t from r;subst e;exact My P w i t|inr x=>obtain⟨t,e⟩:=show∃t,u=Value.str x t from r;subst e;exact Mz P w x t
theorem CK:∀{ks:List Key}{us:List Value},Vals (ks.map kV) us->ItemsAre (cL P w) ks us|[],_,r=>by rw[UA]at r;cases r;exact .nil|k::ks,_,r=>by rw[We]at r;cases r with|cons h t=>exact .cons (mC h) (CK t)
abbrev KT(H:Hp):List (List Key×V)->List (List Key×Addr×Value)->Prop:=Paired λp q=>p.1=q.1/\H q.2.1=some (.tup (p.1.map kV))/\RelV p.2 q.2.2
theorem KT.val{H:Hp}{kvs:List (List Key×V)}{xs:List (List Key×Addr×Value)}(r:KT H kvs xs)(k:List Key):d_ (gk kvs k) ((atKey xs k).map (·.2)):=by induction r with|nil=>exact True.intro|@cons p q ps qs h t ih=>
 obtain⟨h1,_,h2⟩:=h;by_cases e:p.1=k;.have e':q.1=k:=h1.symm.trans e;have b:atKey (q::qs) k=some q.2:=#v[atKey,Qf,e'];rw[uC e,b];exact h2
 .have e':¬q.1=k:=λz=>e (h1.trans z);have b:atKey (q::qs) k=atKey qs k:=#v[atKey,Qf,e'];rw[uD e,b];exact ih
theorem KT.xQ{kvs}(r:KT H kvs xs)(k:List Key)(ry:RelV y u):KT H (kvs.map λkv=>if kv.1=k then(kv.1,y)else kv) (xs.map (putAt k u)):=by induction r with|nil=>exact .nil|@cons p q ps qs h t ih=>
 rw[We,We];refine .cons ?_ ih;obtain⟨h1,h2,h3⟩:=h;unfold putAt;by_cases e:p.1=k;.rw[if_pos e,if_pos (h1.symm.trans e)];exact⟨h1,h2,ry⟩
 .rw[if_neg e,if_neg λz=>e (h1.trans z)];exact⟨h1,h2,h3⟩
theorem KT.put{kvs}(r:KT H kvs xs)(k:List Key)(hb:H b=some (.tup (k.map kV)))(ry:RelV y u):KT H (putK kvs k y) (storedH xs k b u):=by
 have e:(kvs.any λkv=>decide (kv.1=k))=(atKey xs k).isSome:=by rw[CJ,(r.val k).xP,Option.isSome_map]
 unfold putK storedH;rw[e];by_cases q:(atKey xs k).isSome=true;.rw[if_pos q,if_pos q];exact r.xQ k ry
 .rw[if_neg q,if_neg q];exact Paired.snoc r ⟨rfl,hb,ry⟩
theorem KT.keeps{kvs}(r:KT H kvs xs)(ht:∀b ys,H b=some (.tup ys)->H' b=some (.tup ys)):KT H' kvs xs:=Paired.xk r λj j z=>⟨z.1,ht _ _ z.2.1,z.2.2⟩
theorem CM{u}(ok:cA P w H h)(e:Rd H a u):bP P w H h a u:=e.ok ok
theorem oV(ok:cA P w H h)(e:Rd H a (.dK kvs)):kvs.length<=Wd/\(a==Qw)=false/\∃vs,KV kvs vs/\h.DictOf (cL P w) a vs:=show bP P w H h a (.dK kvs)from CM ok e
theorem qH(ok:cA P w H h)(e:H a=some (.dK kvs)):kvs.length<=Wd/\(a==Qw)=false/\∃vs,KV kvs vs/\h.DictOf (cL P w) a vs:=oV ok (.inl e)
theorem qI{ks}(ok:cA P w H h)(e:H a=some (.tup (ks.map kV))):(tupleKind (cL P w)).is h ks a:=by obtain⟨_,ak,r,p⟩:=show bP P w H h a (.tup (ks.map kV))from ok a _ e;obtain⟨o,h1,h2,n,h3⟩:=p.tup;exact⟨o,ak.toArray,n,h1,h2,h3,by simpa using CK r⟩
theorem qJ{kvs}(ok:cA P w H h)(e:Rd H a (.dT kvs)):kvs.length<=Wd/\(a==Qw)=false/\∃xs,KT H kvs xs/\h.DictOfH (tupleKind (cL P w)) a xs:=by
 obtain⟨z,y,xs,r,o,es,ep,h1,h2,h3,h4,h5⟩:=show bP P w H h a (.dT kvs)from CM ok e;refine⟨z,y,xs,r,o,es,ep,h1,h2,h3,h4,λx hx=>?_,h5⟩;have all:∀{l:List (List Key×V)}{m:List (List Key×Addr×Value)},KT H l m->∀x∈m,(tupleKind (cL P w)).is h x.1 x.2.1:=by intro l m q;induction q with|nil=>intro x hx;exact nomatch hx|@cons p q ps qs hq t ih=>
   intro x hx;rcases Wv.mp hx with e|hx;.subst e;exact qI ok (by rw[<-hq.1];exact hq.2.1)
   .exact ih x hx
 exact all r x hx
theorem OO{kvs}(ok:cA P w H h)(e:H a=some (.dT kvs)):kvs.length<=Wd/\(a==Qw)=false/\∃xs,KT H kvs xs/\h.DictOfH (tupleKind (cL P w)) a xs:=qJ ok (.inl e)
def mE(H:Hp)(a:Addr)(y:V)(r:Option V):Prop:=(∃kvs k,Rd H a (.dK kvs)/\y=kV k/\r=gk kvs k)\/∃kvs k b,Rd H a (.dT kvs)/\y=.ref b/\H b=some (.tup (k.map kV))/\r=gk kvs k
def qK(H:Hp)(a:Addr)(y v:V)(H':Hp):Prop:=(∃kvs k,H a=some (.dK kvs)/\y=kV k/\kvs.length<Wd/\H'=upd H a (.dK (putK kvs k v)))\/∃kvs k b,H a=some (.dT kvs)/\y=.ref b/\H b=some (.tup (k.map kV))/\kvs.length<Wd/\H'=upd H a (.dT (putK kvs k v))
theorem mE.k{k:Key}(e:H a=some (.dK kvs)):mE H a (kV k) (gk kvs k):=.inl ⟨kvs,k,.inl e,rfl,rfl⟩
theorem qK.k{k:Key}{v:V}(e:H a=some (.dK kvs))(hl:kvs.length<Wd):qK H a (kV k) v (upd H a (.dK (putK kvs k v))):=.inl ⟨kvs,k,e,rfl,hl,rfl⟩
section
variable{y v:V}{r:Value}{o:Option V}
theorem Inv.big(I:Inv X pins J H s):Qw<s.heap.objs.size:=by have h:WE<s.heap.objs.size:=(I.mod.glob.keeps I.bk).lt;exact Ub U' h
theorem OP{Q}(hu:A.units+1<WR)(I:Inv X pins J H s)(g:mE H a y (some v))(ry:RelV y u)(h:∀w' s',Inv X pins J H s'->RelV v w'->Q w' s'):Wb 5#0 A (getItem (.ref a) u) Q E s:=by
 rcases g with⟨kvs,k,e,ey,l⟩|⟨kvs,k,b,e,ey,eb,l⟩;.subst ey;obtain⟨z,hd,vs,rel,dd⟩:=oV I.aD e;obtain⟨w',hw,bN⟩:=d_.some_of (v:=v) (o:=valueAt vs k) %[l|rel.val k];exact wpAny_getItem_of (mC ry) dd.mapOf hw (h w' _ (I.tok _) bN)
 .subst ey;cases show u=Value.ref b from ry;obtain⟨z,hd,xs,rel,dd⟩:=qJ I.aD e;obtain⟨w',hw,bN⟩:=d_.some_of (v:=v) (o:=(atKey xs k).map (·.2)) %[l|rel.val k];obtain⟨p,hp,xR⟩:=WG.mp hw;refine wpAny_getItem_heap (Uc hu) (qI I.aD eb) dd hp ?_;rw[xR];exact h w' _ (I.tok _) bN
theorem OQ{Q}(hu:A.units+1<WR)(I:Inv X pins J H s)(g:mE H a y o)(ry:RelV y u)(h:∀s',Inv X pins J H s'->Q (.bool !o.isSome) s'):Wb 5#0 A (WX .NotIn u (.ref a)) Q E s:=by
 rcases g with⟨kvs,k,e,ey,l⟩|⟨kvs,k,b,e,ey,eb,l⟩;.subst ey;obtain⟨z,hd,vs,rel,dd⟩:=oV I.aD e;refine wpAny_notIn_of (mC ry) hd dd.mapOf ?_;rw[<-(rel.val k).xP,<-l];exact h _ (I.tok _)
 .subst ey;cases show u=Value.ref b from ry;obtain⟨z,hd,xs,rel,dd⟩:=qJ I.aD e;refine wpAny_notIn_heap (Uc hu) (qI I.aD eb) hd dd ?_;have q:=(rel.val k).xP;rw[Option.isSome_map]at q;rw[<-q,<-l];exact h _ (I.tok _)
theorem qL(I:Inv X pins J H s)(mu:qt (H a))(hs:Ql a s.heap h')(he:∃q,h'.get? a=some q)(new:bP X.prog X.w (upd H a ob) h' a ob):Inv X pins J (upd H a ob) {s with heap:=h',toks:=t'}:=I.write (x:=a) (e:=a) mu (.inl rfl) (λb q hb z=>(hs.2 b hb).trans z) he new
theorem xS{vs}(z:kvs.length<=Wd)(hd:(a==Qw)=false)(rel:KV kvs vs)(dd:h'.DictOf (cL P w) a vs):bP P w H' h' a (.dK kvs):=⟨z,hd,vs,rel,dd⟩
theorem OR{Q}(hu:A.units+1<WR)(I:Inv X pins J H s)(g:qK H a y v H')(ry:RelV y u)(rv:RelV v r)(h:∀s',Inv X pins J H' s'->Q () s'):Wb 5#0 A (setItem (.ref a) u r) Q E s:=by
 rcases g with⟨kvs,k,e,ey,l,eH⟩|⟨kvs,k,b,e,ey,eb,l,eH⟩
 .subst ey eH;obtain⟨z,hd,vs,rel,dd⟩:=qH I.aD e;have hz:vs.length<=Wd:=by rw[<-rel.length];exact z
  have hl:(putK kvs k v).length<=Wd:=by have:=qG kvs k v;lia
  refine wpAny_setItem_pairs (hsz:=hz) (mC ry) dd λh' ki hs=>h _ ?_;have he:∃q,h'.get? a=some q:=let⟨q,_,_,hq,_⟩:=ki;⟨q,hq⟩;exact qL I %[e|True.intro] hs he (xS hl hd (rel.put k rv) ki)
 .subst ey eH;cases show u=Value.ref b from ry;obtain⟨z,hd,xs,rel,dd⟩:=OO I.aD e;have hz:xs.length<=Wd:=by rw[<-Paired.length rel];exact z
  have hl:(putK kvs k v).length<=Wd:=by have:=qG kvs k v;lia
  refine wpAny_setItem_heap (hsz:=hz) (Uc hu) (qI I.aD eb) dd λh' ki hs=>h _ ?_;obtain⟨q,es,ep,hq,h2,h3,h4,_,h5⟩:=ki;refine qL I %[e|True.intro] hs ⟨q,hq⟩ ⟨hl,hd,_,(rel.put k eb rv).keeps λc ys ec=>?_,q,es,ep,hq,h2,h3,h4,h5⟩;rw[aN (MB ec e λz=>nomatch z)];exact ec
end
section
variable{k:Key}
theorem OS{Q}(I:Inv X pins J H s)(e:Rd H a (.dK kvs))(h:∀t s',Inv X pins J H s'->Q (.int kvs.length t) s'):Wb 5#0 A (call (.builtin "len") [.ref a]) Q E s:=by obtain⟨z,hd,vs,rel,dd⟩:=oV I.aD e;refine call_len_dict hd dd (by rw[<-rel.length];rw[J5]at z;lia) ?_;rw[<-rel.length];exact h _ _ (I.tok _)
end
def OT(td ty tv:TE):TS:=λD J H=>tv J H λv H1=>td J H1 λx H2=>ty J H2 λy H3=>∃a H4,x=.ref a/\qK H3 a y v H4/\D.nx J H4
section
variable{o i value:Expr}{N4:Pos}
theorem OU(hu:X.A.units+1<WR)(ho:PE X o td)(hi:PE X i ty)(hv:PE X value tv)(hs:Je value (some (.Subscript o i pos')) pos.line X.env=pure false):PS X (.Assign [.Subscript o i pos'] value pos) (OT td ty tv):=by intro pins s J H D I h;refine wpAny_Assign_Subscript (aM (hv pins s J H _ I h) λr s1⟨v,H1,I1,rv,q1⟩=>aM (ho pins s1 J H1 _ I1 q1) λu s2⟨x,H2,I2,rx,q2⟩=>aM (hi pins s2 J H2 _ I2 q2) λiv s3 hh=>?_) hs;obtain⟨y,H3,I3,ry,a,H4,ex,g,q3⟩:=hh;subst ex;obtain rfl:u=Value.ref a:=rx;exact OR hu I3 g ry rv λs4 I4=>⟨J,H4,I4,q3⟩
end
theorem xT(h:Heap)(hb:Qw<h.objs.size):bP P w H (h.push {cls:=.type "dict",data:=.dict #[]}) h.objs.size (.dK []):=⟨Qc _,beq_eq_false_iff_ne.mpr (Ne.symm (Wr hb)),[],.nil,Heap.DictOf.new h⟩
def OV:TE:=λj H Q=>∀p,H p=none->Q (.ref p) (upd H p (.dK []))
theorem OW:PE X (.Dict [] [] pos) OV:=λpins s J H Q I h=>wpAny_Dict_empty ⟨.ref s.heap.objs.size,_,I.laid (a:=s.heap.objs.size) (o:=.dK []) (t':=s.toks) (λj j q=>W5 _ q) (Wf _) (xT s.heap I.big),rfl,h _ (I.aD.fresh (Wf _))⟩
def xU:List (TE×TE)->St->Hp->(List (V×V)->Hp->Prop)->Prop|[],_,H,Q=>Q [] H|(tk,tv)::r,J,H,Q=>tk J H λx H1=>tv J H1 λy H2=>xU r J H2 λps H3=>Q ((x,y)::ps) H3
abbrev VV:List (V×V)->List (Value×Value)->Prop:=Paired λp q=>RelV p.1 q.1/\RelV p.2 q.2
def uE(X:Cx)(pos:Pos)(keys:List (Option Expr))(values:List Expr)(nX:List (TE×TE)):Prop:=∀(pins:List (Addr×Obj))(s:W6)(J:St)(H:Hp)(Q:List (V×V)->Hp->Prop),Inv X pins J H s->xU nX J H Q->Wb 5#0 X.A (evalPairs (pairTrees keys values X.env pos)) (λvs s'=>∃ps H',Inv X pins J H' s'/\VV ps vs/\Q ps H') X.xe s
theorem OX:uE X pos [] [] []:=λpins s J H Q I h=>pairTrees_nil_walk ⟨[],H,I,.nil,h⟩
theorem OY{ks vs}(hk:PE X k tk)(hv:PE X v tv)(hr:uE X pos ks vs nX):uE X pos (some k::ks) (v::vs) ((tk,tv)::nX):=λpins s J H Q I h=>pairTrees_cons_walk (aM (hk pins s J H _ I h) λu s1⟨x,H1,I1,rx,q1⟩=>aM (hv pins s1 J H1 _ I1 q1) λw2 s2⟨y,H2,I2,ry,q2⟩=>aM (hr pins s2 J H2 _ I2 q2) λws s3⟨ps,H3,I3,rel,q3⟩=>⟨(x,y)::ps,H3,I3,.cons ⟨rx,ry⟩ rel,q3⟩)
def nY(kvs more:List (Key×V)):List (Key×V):=more.foldl (λacc kv=>putK acc kv.1 kv.2) kvs
theorem KV.merge:∀{more:List (Key×V)}{rs:List (Key×Value)}{kvs:List (Key×V)}{vs:List (Key×Value)},KV more rs->KV kvs vs->KV (nY kvs more) (merged vs rs):=by intro more rs kvs vs r;unfold KV at r;induction r generalizing kvs vs with|nil=>intro q;exact q|@cons p q ps qs h t ih=>
 intro r0;have e:KV (putK kvs p.1 p.2) (stored vs q.1 q.2):=by have:=r0.put p.1 h.2;rw[<-h.1];exact this
 exact ih e
theorem CN:∀(more kvs:List (Key×V)),(nY kvs more).length<=kvs.length+more.length|[],kvs=>by show kvs.length<=kvs.length+0;lia|p::r,kvs=>by have h1:=CN r (putK kvs p.1 p.2);have h2:=qG kvs p.1 p.2;show(nY (putK kvs p.1 p.2) r).length<=_;rw[WF];lia
theorem CO{P w}:∀{kvs:List (Key×V)}{ws:List (Value×Value)},VV (kvs.map λkv=>(kV kv.1,kv.2)) ws->∃rs,Carries (cL P w) ws rs/\KV kvs rs|[],_,r=>by rw[UA]at r;cases r;exact⟨[],True.intro,.nil⟩|p::kvs,_,r=>by rw[We]at r;cases r with|@cons a b as bs h t=>obtain⟨rs,c,q⟩:=CO (P:=P) (w:=w) t;obtain⟨b1,b2⟩:=b;exact⟨(p.1,b2)::rs,⟨mC h.1,rfl,c⟩,.cons ⟨rfl,h.2⟩ q⟩
def OZ(nX:List (TE×TE)):TE:=λJ H Q=>∀p,H p=none->xU nX J (upd H p (.dK [])) λps H2=>H2 p=some (.dK [])/\∃kvs:List (Key×V),ps=kvs.map (λkv=>(kV kv.1,kv.2))/\kvs.length<=15/\Q (.ref p) (upd H2 p (.dK (nY [] kvs)))
theorem O0(h:uE X pos keys values nX)(jM:keys.all (·.isSome)=true)(hl:keys.length=values.length)(h0:keys≠[])(O1:keys.length<=15):PE X (.Dict keys values pos) (OZ nX):=by
 intro pins s J H Q I q;have hn:=I.aD.fresh (Wf s.heap.objs.size);have I1:=I.laid (a:=s.heap.objs.size) (o:=.dK []) (h':=s.heap.push {cls:=.type "dict",data:=.dict #[]}) (t':=s.toks) (λj j q=>W5 _ q) (Wf _) (xT s.heap I.big);refine wpAny_Dict_walk (knd:=cL X.prog X.w) jM hl h0 O1 (aM (h pins _ J _ _ I1 (q _ hn)) λws s2 hh=>?_);obtain⟨ps,H2,I2,rel,e,kvs,ep,lk,q2⟩:=hh;subst ep;obtain⟨rs,c,rk⟩:=CO (P:=X.prog) (w:=X.w) rel;obtain⟨z,hd,vs0,r0,dd⟩:=qH I2.aD e;cases r0;refine⟨rs,c,dd,λh' ki hs=>⟨.ref s.heap.objs.size,_,?_,rfl,q2⟩⟩;have hz:(nY [] kvs).length<=Wd:=by have h1:=CN kvs [];rw[JJ]at h1;rw[J5];lia
 have he:∃q,h'.get? s.heap.objs.size=some q:=let⟨q,_,_,hq,_⟩:=ki;⟨q,hq⟩;exact qL I2 %[e|True.intro] hs he (xS hz hd (rk.merge .nil) ki)
structure M2(X:Cx)(o:Expr)(m:Str)(apos:Pos)(e f:Expr)(bh:Pos):Prop where
 base:QA o m X.env (eval o X.env)=eval o X.env
 CP:((QH bh (Wl [e,f] X.env)).all (λx=>!x.1)&&(Ua bh (Jy [] X.env)).all (λx=>x.1.isSome)&&decide (([e,f]:List Expr).length+([]:List Keyword).length+(if([]:List Keyword).isEmpty then 0 else 1)<30))=true
 line:(apos.endLine==bh.line)=true
 trees:QH bh (Wl [e,f] X.env)=[(false,eval e X.env),(false,eval f X.env)]
def CQ(H:Hp)(a:Addr):Prop:=(∃kvs,Rd H a (.dK kvs))\/∃kvs,Rd H a (.dT kvs)
theorem O2(I:Inv X pins J H s)(d:CQ H a):s.TypeIs (.ref a) "dict"/\(∀b,Value.ref a=.ref b->∃ob,s.heap.get? b=some ob/\ob.dict=none)/\(a==Qw)=false:=by
 rcases d with⟨kvs,e⟩|⟨kvs,e⟩;.obtain⟨_,hd,vs,_,dd⟩:=oV I.aD e;refine⟨dd.typeIs,λb q=>?_,hd⟩;cases q;obtain⟨ob,_,_,h1,h2,_⟩:=dd;exact⟨ob,h1,h2.2.1⟩
 .obtain⟨_,hd,xs,_,dd⟩:=qJ I.aD e;refine⟨dd.typeIs,λb q=>?_,hd⟩;cases q;obtain⟨ob,_,_,h1,h2,_⟩:=dd;exact⟨ob,h1,h2.2.1⟩
section
variable{y d:V}{r:Value}{o:Option V}
theorem O3{Q}(hu:A.units+1<WR)(I:Inv X pins J H s)(g:mE H a y o)(ry:RelV y u)(rd:RelV d r)(h:∀w' s',Inv X pins J H s'->RelV (o.getD d) w'->Q w' s'):Wb 5#0 A (call (.builtin "dict.get") [.ref a,u,r]) Q E s:=by
 rcases g with⟨kvs,k,e,ey,l⟩|⟨kvs,k,b,e,ey,eb,l⟩;.subst ey;obtain⟨z,hd,vs,rel,dd⟩:=oV I.aD e;refine call_meetsIn Jq dd.typeIs PySem.F.entry_dict_get (PySem.F.args_dict_get_3 _ _ _) (meets_dict_get_default (cL X.prog X.w) a (mC ry) hd r) ⟨_,dd.mapOf,h _ _ (I.tok _) ?_⟩;rw[l];exact(rel.val k).getD rd
 .subst ey;cases show u=Value.ref b from ry;obtain⟨z,hd,xs,rel,dd⟩:=qJ I.aD e;refine call_meetsIn Jq dd.typeIs PySem.F.entry_dict_get (PySem.F.args_dict_get_3 _ _ _) (meetsH_dict_get_default (tupleKind (cL X.prog X.w)) a b hd r) ⟨Uc hu,k,xs,qI I.aD eb,dd,h _ _ (I.tok _) ?_⟩;rw[l];exact(rel.val k).getD rd
end
def O4(td ty tx:TE):TE:=λJ H Q=>td J H λx H1=>∃a,x=.ref a/\CQ H1 a/\ty J H1 λy H2=>tx J H2 λz H3=>∃o,mE H3 a y o/\Q (o.getD z) H3
section
variable{o f:Expr}
theorem O5(hu:X.A.units+1<WR)(ho:PE X o td)(he:PE X e ty)(hf:PE X f tx)(m:M2 X o "get" apos e f bh):PE X (.Call (.Attribute o "get" apos) [e,f] [] bh) (O4 td ty tx):=by intro pins s J H Q I h;refine Uk m.base m.CP m.line PySem.F.plainAttrs_dict Jq PySem.F.type_dict_get (aM (ho pins s J H _ I h) λu s1 hh=>?_);obtain⟨x,H1,I1,rx,a,ex,d,q1⟩:=hh;subst ex;obtain rfl:u=Value.ref a:=rx;obtain⟨t1,t2,_⟩:=O2 I1 d;refine⟨t1,t2,?_⟩;rw[m.trees];refine Calls.callWith_builtin rfl (Calls.evalArgs_plain (Calls.spliced_cons (aM (he pins s1 J H1 _ I1 q1) λiv s2⟨y,H2,I2,ry,q2⟩=>Calls.spliced_cons (aM (hf pins s2 J H2 _ I2 q2) λfv s3⟨z,H3,I3,rz,ov,g,q3⟩=>Calls.spliced_nil ?_))));exact O3 hu I3 g ry rz λw' s4 I4 bN=>⟨_,H3,I4,bN,q3⟩
end
section
open PySem.W PySem.Calls
theorem O6{P}:∀(ns:List Int)(vs:List Value),WellAll P h vs (ns.map WData.int)->IntsAre vs ns:=by intro ns;induction ns with|nil=>intro vs w;rw[UA]at w;cases w;exact .nil|cons n ns ih=>intro vs w;rw[We]at w;cases w with|cons a b=>cases a;exact .cons _ _ (ih _ b)
theorem O7{l:OpenLaw}(hn:l.most=some n){P:Params}{args:List WData}{vals:List Value}(nZ:l.row.toRowW.claim.pre args=true)(xV:WellAll P h vals args):∃a vs ns,vals=[Value.ref a]/\args=[WData.list (ns.map WData.int)]/\h.get? a=some {cls:=.type "list",data:=.seq vs.toArray}/\IntsAre vs ns/\ns.length<=n:=by
 have O8:WShape.hasAll [] args [.list .int]=true:=(pre_splitW nZ).1;have hc:l.pre.holds [] {args:=args}=true:=(pre_splitW nZ).2;obtain⟨d,r,rfl,h1,h2⟩:=hasAllW_cons O8;obtain rfl:=hasAllW_nil h2;obtain⟨xs,rfl,h3⟩:=hasW_list h1;obtain⟨ns,rfl⟩:=items_int h3;have hlen:ns.length<=n:=by
  unfold OpenLaw.pre at hc;have h4:(WTm.not (.lt (.lit (.int (n:Int))) (.len (.arg 0)))).holds [] {args:=[.list (ns.map .int)]}=true:=by have h4:=(holds_andW hc).1;rw[hn]at h4;exact h4
  have h5:=condW_of h4 (w_not (w_lt w_lit (w_len_list (w_arg rfl))));rw[WB]at h5;refine Nat.le_of_not_lt λq=>?_;have q':(n:Int)<((ns.length:Nat):Int):=by lia
  first|(rw[decide_eq_true q']at h5;exact absurd h5 U')|(simp at h5;lia)
 cases xV with|cons w1 w2=>cases w2;cases w1 with|list ho jM=>exact⟨_,_,ns,rfl,rfl,ho,O6 ns _ jM,hlen⟩
theorem O9(l:OpenLaw)(args:List WData):l.row.toRowW.claim.post args (.bool true) args=true:=postW_of (r:=l.row.toRowW) (X:=true==true) (show WShape.has [] (.bool true) .bool=true by first|rfl|decide|simp[WShape.has,WShape.arms,WShape.armsAll]) (show(WTm.eq .res (.lit (.bool true))).value [] {args:=args,res:=some (.bool true),after:=args}=some (.bool (true==true))from w_eq_bool (w_res rfl) w_lit) rfl
theorem O_{l:OpenLaw}{q:Wt}{d:DefRec}(hn:l.most=some n)(qM:d.params.defaults=[])(call:∀(w:Ww)(s₀ s₁:W6)(mg mb:Str->Option Value)(fa:Addr)(o:Obj)(pm cd doc:Value)(a:Addr)(vs:List Value)(ns:List Int),Ground q loose [] XP w s₀ mg mb s₁.heap->YP w s₁.heap->s₁.heap.get? fa=some o->o.data=.func (docDef d.name d.params d.body d.scope pm cd doc)->s₁.heap.CodeRec cd d.name->mg d.name=some (.ref fa)->s₁.heap.get? a=some {cls:=.type "list",data:=.seq vs.toArray}->IntsAre vs ns->ns.length<=n->s₁.gens=#[]->QR (model l.prog w) callerA (.call (.ref fa) ⟨[.ref a],[]⟩) (λr s'=>r=.ok (.ret (.bool true))/\OldK s₁.heap s'.heap/\s'.os=s₁.os/\AllBare s'.gens) s₁):WalkO q loose XP YP l.row.toRowW d [] λf vs=>PySem.call f vs:=by intro w s₀ s₁ mg mb G Y fa o pm cd doc dV kV ho hd jH hD qN hg args vals as nZ hlay hrd xV hlo;obtain rfl:dV=.none:=Dflts.none hD qM;obtain rfl:kV=.none:=Dflts.noKw hD;obtain⟨a,vs,ns,rfl,rfl,xW,hints,hlen⟩:=O7 hn nZ xV;refine enter_call (U9 (call w s₀ s₁ mg mb fa o pm cd doc a vs ns G Y ho (fd_plain hd) jH qN xW hints hlen hg) λr s' hq=>?_);obtain⟨rfl,h2,h3,h4⟩:=hq;exact⟨.inl ⟨.bool true,.bool true,[],rfl,λj=>rfl,.bool true,O9 l _,λj=>⟨List.Pairwise.nil,λj hm=>nomatch hm⟩⟩,h2,h3,h4⟩
end
theorem qO{vs:List Value}{ns:List Int}(h:IntsAre vs ns):Vals (ns.map V.int) vs:=by induction h with|nil=>exact .nil|cons n t h ih=>exact .cons ⟨t,rfl⟩ ih
def xX(H:Hp):Prop:=∀b,H b=none\/∃o xs,H b=some (.frz o (.lst xs))
theorem Pa{P:Wt}{w:Ww}{CX:jJ}{k:Nat}{fa:Addr}{fd:QX}{sp:Sp}{s₁:W6}{vs:List Value}{ns:List Int}(KX:K.In s₁.heap)(CS:s₁.heap.Ns WE mg)(hb:s₁.heap.Ns builtinsNs mb)(Pb:∀x:Str,x≠"__name__"->mb x=QU x)(Pc:s₁.heap.NoLimit)(hg:s₁.gens=#[])(ha:s₁.heap.get? a=some {cls:=.type "list",data:=.seq vs.toArray})(hi:IntsAre vs ns)(hl:ns.length<=Wd)(hr:eX k callerA)(F:∀base:Heap,K.In base->base.Ns WE mg->jK P w K mg base CX k fa fd [x] sp)(Pd:∀(s:W6)(u:Value),BindsTo s fd ⟨[u],[]⟩ [(x,u)])(my:∀H:Hp,xX H->cu K H a (ns.map V.int)->sp [.ref a] H (λv j=>v=.bl true) λj j j=>False)(xY:∀H e s',CX [] H s₁ (λj j j=>False) e s'->False):QR (model P w) callerA (.call (.ref fa) ⟨[.ref a],[]⟩) (λr s'=>r=.ok (.ret (.bool true))/\OldK s₁.heap s'.heap/\s'.os=s₁.os/\AllBare s'.gens) s₁:=by
 have rv:=qO hi;have Pe:=hi.length;have core:∀H:Hp,xX H->cu K H a (ns.map V.int)->cA P w H s₁.heap->(∀b,H b≠none->b=a)->(H a≠none->K.lookup a=none)->QR (model P w) callerA (.call (.ref fa) ⟨[.ref a],[]⟩) (λr s'=>r=.ok (.ret (.bool true))/\OldK s₁.heap s'.heap/\s'.os=s₁.os/\AllBare s'.gens) s₁:=by
  intro H hO hS aD hA hK;have CU:∀{b:Addr}{o:Obj},s₁.heap.get? b=some o->H b=none->(k8 s₁.heap H).get? b=some o:=λe n=>MG e n;have qE:∀{b:Addr}{o:Obj}{es:Array DictEntry}{ep:Nat},s₁.heap.get? b=some o->o.data=.dict es ep->H b=none:=λ{b o es ep}e d=>by grind
  have uF:∀{b:Addr}{m:Str->Option Value},s₁.heap.Ns b m->(k8 s₁.heap H).Ns b m:=λ{b m}⟨o,es,ep,e,d,r⟩=>⟨o,es,ep,CU e (qE e d),d,r⟩;have CV:K.In (k8 s₁.heap H):=λb o e=>CU (KX b o e) (by grind);have hM:Mod K mg (k8 s₁.heap H):=⟨CV,uF CS,⟨mb,uF hb,Pb⟩,let⟨mc,h1,h2⟩:=Pc;⟨mc,uF h1,h2⟩⟩;have e0:uv P w K mg (k8 s₁.heap H) callerA [] s₁ H:=⟨rfl,hM,λb o e=>MH e,Nat.le_of_eq (MF _ _),trivial,λb hb=>absurd (show b∈([]:List Addr)from hb) V',aD,.of_eq hg⟩;refine U9 ((F _ CV (uF CS)).run callerA [] s₁ H ⟨[.ref a],[]⟩ [.ref a] [.ref a] _ _ hr e0 (Pd s₁ (.ref a)) (.cons rfl .nil) (my H hO hS)) λr s' h=>?_;cases r with|error e=>exact(xY H e s' h).elim|ok fl=>cases fl with|next=>exact False.elim h|brk=>exact False.elim h|cont=>exact False.elim h|ret u=>obtain⟨v,H',os,bare,un,hok',r',q⟩:=h;have q':v=.bl true:=q;subst q';obtain rfl:u=Value.bool true:=r';refine⟨rfl,OldK.of_keep λb o e=>?_,os,bare⟩;cases q:H b with|none=>exact un.keep b o e q (by intro z;exact absurd (show b∈([]:List Addr)from z) V') V'|some u=>
     rcases hO b with z|⟨ob,xs,z⟩;.grind
     .have z2:=un.k7 b ob _ z;obtain⟨e1,_⟩:=aD b _ z;obtain⟨e2,_⟩:=hok' b _ z2;grind
 cases hk:K.lookup a with|some o=>have e:=KX a o hk;rw[ha]at e;cases e;refine core (λj=>none) (λj=>.inl rfl) (.inr ⟨_,vs.toArray,_,hk,rfl,rfl,rfl,%[Wx,Pe|hl],~~~rv⟩) λb u z=>by grind (by grind) λz=>absurd rfl z|none=>
  refine core (λb=>if b=a then some (.frz {cls:=.type "list",data:=.seq vs.toArray} (.lst (ns.map V.int)))else none) (λb=>?_) (.inl (.inr ⟨{cls:=.type "list",data:=.seq vs.toArray},if_pos rfl⟩)) (λb u z=>?_) (λb z=>?_) λj=>hk
  .by_cases hb:b=a;.exact .inr ⟨_,_,if_pos hb⟩
   .exact .inl (if_neg hb)
  .by_cases hb:b=a;.have z':=(if_pos hb).symm.trans z;cases z';subst hb;exact⟨ha,%[WB|hl],vs,_,rv,ha⟩
   grind
  .by_cases hb:b=a;.exact hb
   .exact absurd (if_neg hb) z
theorem Pf{l:PySem.W.OpenLaw}{k:Nat}{q:Wt}{d:DefRec}{K:Params->Wa}{CX:Ww->jJ}{sp:Ww->Sp}(hn:l.most=some n)(Pg:n<=Wd)(qM:d.params.defaults=[])(hr:eX k callerA)(hY:∀(w:Ww)(h:Heap),YP w h->(K w.params).In h)(F:∀(w:Ww)(mg:Str->Option Value)(fa:Addr)(h:Heap),(K w.params).In h->h.Ns WE mg->mg d.name=some (.ref fa)->∃fd:QX,(∀(s:W6)(u:Value),BindsTo s fd ⟨[u],[]⟩ [(x,u)])/\∀base:Heap,(K w.params).In base->base.Ns WE mg->jK l.prog w (K w.params) mg base (CX w) k fa fd [x] (sp w))(my:∀(w:Ww)(H:Hp)(a:Addr)(ns:List Int),ns.length<=n->xX H->cu (K w.params) H a (ns.map V.int)->sp w [.ref a] H (λv j=>v=.bl true) λj j j=>False)(xY:∀(w:Ww)(H:Hp)(s:W6)(e:Value)(s':W6),CX w [] H s (λj j j=>False) e s'->False):PySem.W.WalkO q loose XP YP l.row.toRowW d [] λf vs=>PySem.call f vs:=by refine O_ hn qM λw s₀ s₁ mg mb fa o pm cd doc a vs ns G Y ho hd jH qN xW hints hlen hg=>?_;have KX:=hY w _ Y;obtain⟨fd,hb,hF⟩:=F w mg fa _ KX G.T.g qN;exact Pa KX G.T.g G.T.b G.T.builtins G.T.nolimit hg xW hints (Wq hlen Pg) hr hF hb (λH hO hS=>my w H a ns hlen hO hS) λH e s'=>xY w H s₁ e s'
def mF(s:Stmt):Arguments:=match s with|.FunctionDef _ a _ _ _ _ _ _ _ _=>a|_=>{posonlyargs:=[],args:=[],vararg:=none,kwonlyargs:=[],kw_defaults:=[],kwarg:=none,defaults:=[]}
def je(s:Stmt):List Stmt:=match s with|.FunctionDef _ _ b _ _ _ _ _ _ _=>b|_=>[]
def e9(s:Stmt):Scope:=match s with|.FunctionDef _ _ _ _ _ _ sc _ _ _=>sc|_=>{kind:=.function,names:=[],isGenerator:=false,isCoroutine:=false}
abbrev jf:jJ:=λj j j j j j=>False
abbrev E0:XK:=λj j j=>False
theorem Ph:xF jf X E0:=λj j j j j j j h=>h.elim
structure gX(K:Wa)(x qual:Str)(st:Stmt)(f:Addr)(fd:QX):Prop where
 ex:∃(oc:Value)(od:Option Addr)(kV doc pm:Value)(an:Option Addr)(b9 ct:Value)(mx:Array (Option Value)),fd=J8 x qual (mF st) (je st) (e9 st) .none kV doc pm an b9 ct/\K.lookup f=some ⟨oc,od,.func fd,mx⟩/\PySem.W.codeIn K b9 qual=true
 kp:Ui K (.ref f)=true
theorem gX.ok{st:Stmt}{f:Addr}{N ps:List Str}{k:Nat}(F:gX K x qual st f fd)(S:mw N ps (e9 st))(len:∀vs H Q E,sp vs H Q E->vs.length=ps.length)(k_:∀(b9:Value)(A:WA)(outer:List Env)(s:W6)(H:Hp)(vs:List V)(Q:VK)(E:XK),eX k (A.deeper (envOfC qual (e9 st) s.heap.objs.size f b9))->sp vs H Q E->∃t,eW (k9 jf P w K mg base N qual (e9 st) f b9 A outer s H E).nU (je st) t/\t {nx:=λj H'=>Q .aX H',rt:=Q} (er N vs) H):jK P w K mg base jf (k+1) f fd ps sp:=by obtain⟨oc,od,kV,doc,pm,an,b9,ct,mx,rfl,lk,jH⟩:=F.ex;refine Oc lk jH S len λA outer s H vs Q E hr my=>?_;obtain⟨t,h,q⟩:=k_ b9 A outer s H vs Q E hr my;exact⟨t,h.nU,q⟩
theorem gX.binds{st:Stmt}{f:Addr}{ps:List Str}(F:gX K x qual st f fd)(h:∀(kV doc pm:Value)(an:Option Addr)(b9 ct:Value)(us:List Value),us.length=ps.length->bindArgs (J8 x qual (mF st) (je st) (e9 st) .none kV doc pm an b9 ct) ⟨us,[]⟩=pure (ps.zip us)):Binds K fd ps []:=by obtain⟨oc,od,kV,doc,pm,an,b9,ct,mx,rfl,lk,jH⟩:=F.ex;exact .all (h kV doc pm an b9 ct)
theorem CW{st:Stmt}{f:Addr}{kV:Value}(l:K.lookup f=some ⟨oc,od,.func (J8 x qual (mF st) (je st) (e9 st) .none kV doc pm an b9 ct),mx⟩)(c:PySem.W.codeIn K b9 qual=true)(k:Ui K (.ref f)=true):gX K x qual st f (J8 x qual (mF st) (je st) (e9 st) .none kV doc pm an b9 ct):=⟨⟨oc,od,kV,doc,pm,an,b9,ct,mx,rfl,l,c⟩,k⟩
theorem Pj(h:n<=1000):n<Wd:=WC h U'
theorem pv(i:Nat)(hN:X.N[i]?=some x:=by rfl)(hv:t_ X.env.scope x:=by first|exact Or.inl rfl|exact Or.inr (Or.inl rfl)|exact Or.inr (Or.inr rfl))(hd:(x==("__debug__":Str))=false:=by decide)(jH:(x==("__classdict__":Str))=false:=by decide):PE X (.Name x pos) (dH i):=MO hN hv hd jH
theorem Pk:eG X (.builtin "len") λxs H Q=>∃a kvs,xs=[V.ref a]/\H a=some (.dK kvs)/\Q (.int kvs.length) H:=by intro pins s J H xs us Q I r h;obtain⟨a,kvs,rfl,ha,q⟩:=h;obtain⟨u,rfl,ru⟩:=ie r;cases ru;exact OS I (.inl ha) λt s' I'=>⟨.int kvs.length,H,I',⟨t,rfl⟩,q⟩
def gn(cells:List (Str×Addr)):List (Str×NameKind)->List (Str×Addr)->List (Str×Addr)|[],acc=>acc|(n,k)::r,acc=>gn cells r (if k==.free then match cells.lookup n with|some a=>(n,a)::acc|none=>acc else acc)
theorem xZ(f:Str×NameKind->List (Str×Addr)->Sem (ForInStep (List (Str×Addr))))(hf:∀name kind cs,f (name,kind) cs=if kind==.free then do let a<-cellOf env name;pure (.yield ((name,a)::cs))else pure (.yield cs)):∀(names:List (Str×NameKind))(acc:List (Str×Addr)),(∀x∈names,x.2=NameKind.free->∃c,env.cells.lookup x.1=some c)->(forIn names acc f:Sem (List (Str×Addr)))=pure (gn env.cells names acc)
 |[],acc,_=>by rw[List.forIn_nil];rfl|(n,k)::r,acc,h=>by
  rw[U3,hf];unfold gn;by_cases hk:(k==NameKind.free)=true
  .obtain⟨c,hc⟩:=h (n,k) Wc (~~~hk);have kg:env.cells.lookup n=some c:=hc;have e:cellOf env n=pure c:=by unfold cellOf;rw[kg]
   rw[if_pos hk,if_pos hk,e,kg];exact xZ f hf r _ λx hx=>h x (W8 _ hx)
  .rw[if_neg hk,if_neg hk];exact xZ f hf r _ λx hx=>h x (W8 _ hx)
theorem CY(h:∀x∈scope.names,x.2=NameKind.free->∃c,env.cells.lookup x.1=some c):closureFor scope env=pure (gn env.cells scope.names []):=by unfold closureFor;dsimp only;rw[xZ (env:=env) _ λname kind cs=>by all_goals grind scope.names [] h];rfl
theorem CZ{n}:∀(names:List (Str×NameKind))(acc:List (Str×Addr)),(n,c)∈gn cells names acc->(n,c)∈acc\/(n,NameKind.free)∈names/\cells.lookup n=some c|[],acc,h=>.inl h|(y,k)::r,acc,h=>by unfold gn at h;rcases CZ r _ h with q|⟨q,e⟩;all_goals grind
theorem C0{n}:∀(names:List (Str×NameKind))(acc:List (Str×Addr)),(acc.lookup n).isSome=true\/(n,NameKind.free)∈names/\(cells.lookup n).isSome=true->((gn cells names acc).lookup n).isSome=true
 |[],acc,h=>h.elim id (by grind)|(y,k)::r,acc,h=>by
  unfold gn;apply C0 r;by_cases hk:(k==NameKind.free)=true;.rw[if_pos hk];cases e:cells.lookup y with
 |none=>
    rcases h with h|⟨h1,h2⟩;.exact .inl h
    .rcases Wv.mp h1 with z|z;.cases z;rw[e]at h2;cases h2
     .exact .inr ⟨z,h2⟩|some a=>
    by_cases hn:(n==y)=true;.refine .inl ?_;show(List.lookup n ((y,a)::acc)).isSome=true;rw[Qy,hn];rfl
    .rcases h with h|⟨h1,h2⟩;.refine .inl ?_;show(List.lookup n ((y,a)::acc)).isSome=true;have xo:(n==y)=false:= ~~~hn;rw[Qy,xo];exact h
     .rcases Wv.mp h1 with z|z;.cases z;exact absurd V' hn
      .exact .inr ⟨z,h2⟩
  .rw[if_neg hk];rcases h with h|⟨h1,h2⟩;.exact .inl h
   .rcases Wv.mp h1 with z|z;.cases z;exact absurd rfl hk
    .exact .inr ⟨z,h2⟩
theorem x5{n}:∀(names:List (Str×NameKind))(h:Heap)(acc:List (Str×Addr)),(n,c)∈QY h.objs.size names acc->(n,c)∈acc\/(n,NameKind.cell)∈names/\h.objs.size<=c/\(Ud h names).IsCell c none
 |[],_,_,h=>.inl h|(y,k)::r,h,acc,hm=>by
  unfold QY at hm;unfold Ud;by_cases hk:(k==NameKind.cell)=true
  .rw[if_pos hk]at hm;rw[if_pos hk];have qP:k=NameKind.cell:= ~~~hk;have sz:(h.push {cls:=.type "cell",data:=.cell none}).objs.size=h.objs.size+1:=Q7 ..;rw[<-sz]at hm;rcases x5 r _ _ hm with q|⟨q1,q2,q3⟩
   .rcases Wv.mp q with z|z;.cases z;refine .inr ⟨%[qP|Wc],Wf _,?_⟩;exact Heap.IsCell.keeps ⟨_,Wi _ rfl,rfl⟩ (pushCells_keeps r _)
    .exact .inl z
   .exact .inr ⟨W8 _ q1,by rw[sz]at q2;lia,q3⟩
  .rw[if_neg hk]at hm;rw[if_neg hk];rcases x5 r _ _ hm with q|⟨q1,q2,q3⟩;.exact .inl q
   .exact .inr ⟨W8 _ q1,q2,q3⟩
theorem x8:∀(names:List (Str×NameKind))(k:Nat)(acc:List (Str×Addr)),(∀n n' c,(n,c)∈acc->(n',c)∈acc->n=n')->(∀n c,(n,c)∈acc->c<k)->∀n n' c,(n,c)∈QY k names acc->(n',c)∈QY k names acc->n=n'
 |[],_,_,h,_=>h|(y,kd)::r,k,acc,h,hb=>by
  unfold QY;by_cases hk:(kd==NameKind.cell)=true;.rw[if_pos hk];refine x8 r (k+1) _ (λn n' c h1 h2=>?_) λn c hm=>?_;all_goals grind
  .rw[if_neg hk];exact x8 r k acc h hb
theorem n4{env:Env}{x:Str}:∀{names:List (Str×NameKind)}{k:NameKind},(names.map λ(y:Str×NameKind)=>if y.2==NameKind.free&&env.scope.kind==.function&&env.kindOf y.1==some .cell then(y.1,NameKind.cell)else(y.1,y.2)).lookup x=some k->names.lookup x=some k\/k=NameKind.cell/\names.lookup x=some .free
 |[],_,h=>by simp at h|(n,kd)::r,k,h=>by
  rw[We]at h;have ih:=@n4 env x r k;cases hx:x==n with|true=>
 by_cases hc:(kd==NameKind.free&&env.scope.kind==.function&&env.kindOf n==some .cell)=true;.rw[if_pos hc,Qy,hx]at h;cases h;simp only[Wu]at hc;have:kd=NameKind.free:= ~~~hc.1.1;exact .inr ⟨rfl,by rw[Qy,hx,this]⟩
 .rw[if_neg hc,Qy,hx]at h;cases h;exact .inl (by rw[Qy,hx])|false=>
   have h':(r.map λ(y:Str×NameKind)=>if y.2==NameKind.free&&env.scope.kind==.function&&env.kindOf y.1==some .cell then(y.1,NameKind.cell)else(y.1,y.2)).lookup x=some k:=by
    by_cases hc:(kd==NameKind.free&&env.scope.kind==.function&&env.kindOf n==some .cell)=true;.rw[if_pos hc,Qy,hx]at h;exact h
    .rw[if_neg hc,Qy,hx]at h;exact h
   rw[Qy,hx];exact ih h'
def fK(X:Cx)(scope:Scope)(s₀:W6)(H₀:Hp)(ex:List Addr):Cx:={X with
 env:={scope:=relabel scope X.env,locals:=s₀.heap.objs.size,globals:=X.env.globals,cells:=QY (s₀.heap.objs.size+1) scope.names (gn X.env.cells scope.names []),qual:=X.env.qual,func:=none,code:=X.env.code,frame:=X.env.frame,builtins:=X.env.builtins}
 s₀:=s₀
 H₀:=H₀
 outer:=X.stack
 ex:=ex
 fn:=λx=>scope.names.lookup x==some .cell
 pn:=[]
 xe:=λj j=>False}
structure n5(X:Cx)(scope:Scope)(cs:List Nat):Prop where
 kind:scope.kind=.function
 names:∀x∈scope.names,x.2=.local->scope.names.lookup x.1=some .local
 free:∀x∈scope.names,x.2=.free->X.env.kindOf x.1=some .cell\/X.env.kindOf x.1=some .free
 nd:(scope.names.map (·.1)).Nodup
 own:∀(i:Nat)x,X.N[i]?=some x->scope.names.lookup x=some .local\/scope.names.lookup x=some .cell->i∈cs
def bK(cs:List Nat)(J:St):St:=cs.foldl (λJ i=>J.set i none) J
theorem uG(cs:List Nat):∀J:St,(bK cs J).length=J.length:=by induction cs with|nil=>intro J;rfl|cons i r ih=>intro J;show(bK r (J.set i none)).length=_;rw[ih];simp
theorem mG:∀(cs:List Nat)(J:St)(i:Nat)(v:V),(bK cs J)[i]?=some (some v)->J[i]?=some (some v)/\i∉cs:=by intro cs;induction cs with|nil=>intro J i v h;exact⟨h,V'⟩|cons j r ih=>
 intro J i v h;have h':(bK r (J.set j none))[i]?=some (some v):=h;obtain⟨h1,h2⟩:=ih _ i v h';by_cases e:j=i;.subst e;rw[Qi]at h1;simp at h1
 .rw[W4 e]at h1;exact⟨h1,by simp only[Wv,not_or];exact⟨Ne.symm e,h2⟩⟩
theorem x9:∀{l:List (Str×α)},(l.map (·.1)).Nodup->(x,k)∈l->(x,k')∈l->k=k'
 |(y,j)::r,nd,h1,h2=>by
  rw[We,WL]at nd;rcases Wv.mp h1 with e|g1<;>rcases Wv.mp h2 with e'|g2;.grind
  .grind
  .grind
  .exact x9 nd.2 g1 g2
theorem Pl(I:Inv X pins J H s)(S:n5 X scope cs)(hf:∀b∈fp,gG X pins H b)(a0:∀b∈fp,b<s.heap.objs.size):Inv (fK X scope s H fp) [] (bK cs J) H 9#(Ud (s.heap.push {cls:=.type "dict",data:=.dict #[]}) scope.names):=by
 have sz:(s.heap.push {cls:=.type "dict",data:=.dict #[]}).objs.size=s.heap.objs.size+1:=Q7 ..;have kp:∀b o,s.heap.get? b=some o->(Ud (s.heap.push {cls:=.type "dict",data:=.dict #[]}) scope.names).get? b=some o:=λb o e=>pushCells_keeps _ _ b o (W5 _ e);have uH:∀n c,(n,c)∈gn X.env.cells scope.names []->(n,NameKind.free)∈scope.names/\X.env.cells.lookup n=some c:=λn c h=>(CZ _ _ h).elim (by grind) id;have Pm:∀n c,(n,c)∈gn X.env.cells scope.names []->c<s.heap.objs.size:=λn c h=>by obtain⟨v,q⟩:=I.cell n c (uH n c h).2;exact q.lt
 have qQ:∀n c,(n,c)∈QY (s.heap.objs.size+1) scope.names (gn X.env.cells scope.names [])->(n,NameKind.free)∈scope.names/\X.env.cells.lookup n=some c\/(n,NameKind.cell)∈scope.names/\s.heap.objs.size+1<=c/\(Ud (s.heap.push {cls:=.type "dict",data:=.dict #[]}) scope.names).IsCell c none:=λn c h=>by
  rw[<-sz]at h;rcases x5 _ _ _ h with q|q;.exact .inl (uH n c q)
  .rw[sz]at q;exact .inr q
 have Pn:=x8 scope.names (s.heap.objs.size+1) (gn X.env.cells scope.names []) (λn n' c h1 h2=>I.ok.inj n n' c (uH n c h1).2 (uH n' c h2).2) λn c h=>QP (Pm n c h);have qR:∀x∈scope.names,x.2=.free->∃c,X.env.cells.lookup x.1=some c:=λx hx hk=>I.ok.has x.1 (S.free x hx hk);have Po:∀b∈fp,b∉iF X.stack:=λb hb z=>by
  obtain⟨_,f1,f2,_⟩:=hf b hb;rcases Wv.mp (I.xn b z)with e|e;.exact f1 e
  .exact f2 e
 have Pp:∀x,(fK X scope s H fp).env.kindOf x=some .cell\/(fK X scope s H fp).env.kindOf x=some .free->scope.names.lookup x=some .cell\/scope.names.lookup x=some .free:=λx h=>by
  rcases h with h|h
  .have h':(relabel scope X.env).names.lookup x=some .cell:=h;rcases n4 (env:=X.env) (names:=scope.names) h' with q|⟨_,q⟩;.exact .inl q
   .exact .inr q
  .have h':(relabel scope X.env).names.lookup x=some .free:=h;rcases n4 (env:=X.env) (names:=scope.names) h' with q|⟨q,_⟩;.exact .inr q
   .cases q
 have C1:∀x,scope.names.lookup x=some .cell\/scope.names.lookup x=some .free->∃c,(QY (s.heap.objs.size+1) scope.names (gn X.env.cells scope.names [])).lookup x=some c:=λx h=>by
  refine Option.isSome_iff_exists.mp (PySem.W.cellsFrom_some scope.names _ _ ?_);rcases h with h|h;.exact .inl h
  .refine .inr (C0 _ _ (.inr ⟨WH h,?_⟩));obtain⟨c,hc⟩:=qR _ (WH h) rfl;grind
 have Pq:(Ud (s.heap.push {cls:=.type "dict",data:=.dict #[]}) scope.names).Ns s.heap.objs.size λj=>none:=(Heap.Ns.new s.heap (.type "dict")).keeps (pushCells_keeps _ _);refine⟨⟨I.ok.mod,S.kind,I.ok.glob,I.ok.blt,Wf _,λy z c h1 h2=>Pn y z c (WH h1) (WH h2),λx hx=>C1 x (Pp x hx),λx c qz h=>?_,I.ok.hd,I.ok.frames,.inl rfl,λb hb=>⟨Wr (a0 b hb),λx c h e=>?_⟩,I.bs,Wq I.ok.nQ I.sz,λb o e hb=>?_,Po,I.stack,I.BC⟩,rfl,I.bare,Un.kept kp,⟨λj=>none,Pq,λi x v h1 h2 h3=>?_⟩,λx c h=>?_,I.aD.fresh (Wf _),λx c h=>?_,λp hp=>absurd (show p∈([]:List (Addr×Obj))from hp) V',I.aD.kept kp,(uG cs J).trans I.len⟩
 .rcases qQ x c (WH h)with q|q
  .have Pr:scope.names.lookup x=some .cell:=by have:(scope.names.lookup x==some .cell)=true:=qz;exact eq_of_beq this
   have:=x9 S.nd q.1 (WH Pr);cases this
  .exact Nat.le_of_succ_le q.2.1
 .subst e;rcases qQ x c (WH h)with q|q;.exact(hf c hb).2.2.2.2.1 x c q.2 rfl
  .exact absurd (Wz (a0 c hb) (Nat.le_of_succ_le q.2.1)) (Jd _)
 .obtain⟨_,_,_,f3,_⟩:=hf b hb;rcases f3 with z|z;.exact I.ok.qw b o e z
  .exact absurd (Wz (Wm (I.ok.bs b o e).1) z) (Jd _)
 .obtain⟨h2',hni⟩:=mG cs J i v h2;have Pt:¬(scope.names.lookup x=some .local\/scope.names.lookup x=some .cell):=λz=>hni (S.own i x h1 z);have ud:scope.names.lookup x=some .free:=by
   rcases h3 with h3|h3|h3;.rcases n4 (env:=X.env) (names:=scope.names) h3 with q|⟨q,_⟩;all_goals grind
   .rcases n4 (env:=X.env) (names:=scope.names) h3 with q|⟨_,q⟩;.exact absurd (.inr q) Pt
    .exact q
   .rcases n4 (env:=X.env) (names:=scope.names) h3 with q|⟨q,_⟩;.exact q
    .cases q
  have hk:=S.free _ (WH ud) rfl;obtain⟨m,hn,hl⟩:=I.loc;have Pu:t_ X.env.scope x:=by
   rcases hk with hk|hk;.exact .inr (.inl hk)
   .exact .inr (.inr hk)
  obtain⟨u,r,l⟩:=hl i x v h1 h2' Pu;refine⟨u,r,?_⟩;rcases l with⟨k,_⟩|⟨_,c,hc,hcell⟩;.grind
  .obtain⟨c',kg⟩:=C1 x (.inr ud);have e:c'=c:=by
    rcases qQ x c' (WH kg)with q|q;.have q2:=q.2;rw[hc]at q2;exact(WK q2).symm
    .have:=x9 S.nd q.1 (WH ud);cases this
   subst e;refine .inr ⟨?_,c',kg,hcell.keeps kp⟩;rcases h3 with h3|h3|h3;.rcases n4 (env:=X.env) (names:=scope.names) h3 with q|⟨q,_⟩;all_goals grind
   .exact .inl h3
   .exact .inr h3
 .rcases qQ x c (WH h)with q|q;.obtain⟨v,z⟩:=I.cell x c q.2;exact⟨v,z.keeps kp⟩
  .exact⟨none,q.2.2⟩
 .rcases qQ x c (WH h)with q|q;.exact I.ja x c q.2
  .exact I.aD.fresh (Nat.le_of_succ_le q.2.1)
abbrev lq:Value->W6->Prop:=λj j=>False
def C2(ifs:List Expr)(env:Env):Sem Bool:=forIn ifs true λc r=>if r=true then do let ok<-isTrue c env (eval c env);pure (ForInStep.yield ok)else pure (ForInStep.yield r)
theorem Pw{it}(I:Nat->W6->Prop)(turn:∀n s,I n s->Wb 4#0 A (Qk it) (λr s₁=>match r with|none=>R (.ok .next) s₁|some v=>Wb 4#0 A (letOwnedTupleGo target it v) (λj C3=>Wb 4#0 A (assign target env v) (λj s₂=>Wb 4#0 A (C2 ifs env) (λok s₃=>if ok=true then Wb 4#0 A (eval elt env) (λx s₄=>Wb 4#0 A (call (.builtin "list.append") [acc,x]) (λj s₅=>∃m,m<n/\I m s₅) lq s₄) lq s₃ else∃m,m<n/\I m s₃) lq s₂) lq C3) lq s₁) lq s)(n:Nat)(h:I n s):QR 4#0 A (.compLoop (.ListComp elt [⟨target,iter,ifs,0⟩] scope pos) 0 it acc env) R s:=by refine codeAny_loop rfl I (λn s hI=>?_) n h;show Wb _ A ((compTurn (.ListComp elt [⟨target,iter,ifs,0⟩] scope pos) 0 it acc env).onRaise λx=>do noteFrame x env;theTreesLotGoes x) _ _ s;refine wpAny_noted ?_;rw[compTurn_list];refine W0 (wpAny_standAt (W0 (Q2 (turn n s hI) (λr s₁ h₁=>?_) (by grind))));cases r with|none=>exact W3 h₁|some v=>refine W0 (Q2 h₁ (λj C3 Px=>?_) (by grind));refine W0 (Q2 Px (λj s₂ h₂=>W0 (Q2 h₂ (λok s₃ h₃=>?_) (by grind))) (by grind));cases ok with|false=>exact W3 ⟨rfl,h₃⟩|true=>exact W0 (W0 (Q2 h₃ (λx s₄ h₄=>W0 (Q2 h₄ (λj s₅ h₅=>W3 (W3 ⟨rfl,h₅⟩)) (by grind))) (by grind)))
theorem Py{Q}(h:Q {scope,locals:=s.heap.objs.size,globals,cells:=QY (s.heap.objs.size+1) scope.names cl,qual,func:=none,code:=env.code,frame:=env.frame,builtins:=env.builtins} 9#(Ud (s.heap.push {cls:=.type "dict",data:=.dict #[]}) scope.names)):Wb M A (newFunctionEnv scope globals cl [] qual none .none (some env)) Q E s:=by simp only[newFunctionEnv,Option.isSome_some,if_true];refine W0 (wpAny_alloc ?_);refine W0 (wpAny_layCells _ λname kind cells=>by all_goals grind _ _ _ _ ?_);rw[show(9#(s.heap.push {cls:=.type "dict",data:=.dict #[]}):W6).heap.objs.size=s.heap.objs.size+1 from Q7 ..];exact W0 (W3 (W3 h))
def oW(X:Cx)(ifs:List Expr)(t:TT):Prop:=∀(pins:List (Addr×Obj))(s:W6)(J:St)(H:Hp)(Q:Bool->Hp->Prop),Inv X pins J H s->t J H Q->Wb 5#0 X.A (C2 ifs X.env) (TP X pins J Q) X.xe s
def Pz:TT:=λj H Q=>Q true H
theorem PC:oW X [] Pz:=λpins s J H Q I h=>wpAny_tests_nil ⟨H,I,h⟩
theorem PF(h:PT X c t):oW X [c] t:=λpins s J H Q I q=>wpAny_tests_one (h pins s J H Q I q)
def Le(J J':St):Prop:=J'.length=J.length/\∀(i:Nat)(v:V),J[i]?=some (some v)->J'[i]?=some (some v)
def C4(cs:List Nat)(g:TG)(tt:TT)(te:TE)(J:St)(Q:VK)(M':It)(H1:Hp):Prop:=∀l,H1 l=none->∃W:Nat->Nat->Hp->Prop,(∃m,W 0 m (upd H1 l (.lst [])))/\∀i m H2,W i m H2->M'.stop i H2/\Q (.ref l) H2\/M'.go i H2/\∀x H3,M'.qB i H2 x H3->g x (bK cs J) H3 λOs H4=>Le (bK cs J) Os/\tt Os H4 λb H5=>if b=true then te Os H5 λv H6=>∃ys m',H6 l=some (.lst ys)/\ys.length<Wd/\m'<m/\W (i+1) m' (upd H6 l (.lst (ys++[v])))else∃m',m'<m/\W (i+1) m' H5
def x_(cs:List Nat)(wi:TI)(g:TG)(tt:TT)(te:TE):TE:=λJ H Q=>wi J H λM' H1=>C4 cs g tt te J Q M' H1
section
variable{g:TG}{tt:TT}
theorem C5{M':It}{Q:VK}{E:Value->W6->Prop}(hc:X.calm=true)(I:Inv X pins J H s)(S:n5 X scope cs)(T:Turn X.prog X.w X.K tg M' fp it tn)(st:tn 0 s.heap)(hf:∀b∈fp,gG X pins H b)(hg:∀s₀ H₀ ex,PG (fK X scope s₀ H₀ ex) tg g)(ht:∀s₀ H₀ ex,oW (fK X scope s₀ H₀ ex) ifs tt)(he:∀s₀ H₀ ex,PE (fK X scope s₀ H₀ ex) elt te)(q:C4 cs g tt te J Q M' H)(PH:∀l C s' H',Inv X pins J H' s'->gG X pins H' C->(∃m,s'.heap.Ns C m)->Q (.ref l) H'->RR (.ref l) C (.ok .next) s'):Wb 5#0 X.A (newList []) (λacc s₃=>Wb 5#0 X.A (newFunctionEnv scope X.env.globals (gn X.env.cells scope.names []) [] X.env.qual none .none (some X.env)) (λC6 s₄=>QR 5#0 X.A (.compStart (.ListComp elt [⟨tg,iter,ifs,0⟩] scope pos) 0 (.ref it) acc {C6 with scope:=relabel scope X.env}) (RR acc C6.locals) s₄) E s₃) E s:=by
 refine Q1 ?_;have n8:H s.heap.objs.size=none:=I.aD.fresh (Wf _);obtain⟨W,⟨m0,w0⟩,turn⟩:=q s.heap.objs.size n8;generalize hl:s.heap.objs.size=l at*;have I3:Inv X pins J (upd H l (.lst [])) 9#(s.heap.push {cls:=.type "list",dict:=none,data:=.seq ([]:List Value).toArray}):=I.laid (t':=s.toks) (λb u e=>W5 _ e) (Nat.le_of_eq hl) ⟨Qc _,[],0,.nil,by rw[<-hl];exact Wi _ rfl⟩;have PJ:∀b o,s.heap.get? b=some o->(s.heap.push {cls:=.type "list",dict:=none,data:=.seq ([]:List Value).toArray}).get? b=some o:=λb o e=>W5 _ e;have n9:∀b∈fp,b≠l:=λb hb e=>by obtain⟨o,ho,_⟩:=T.obj 0 _ st b hb;exact absurd (Wm ho) %[e,hl|Jd _]
 have ya:∀b∈fp,gG X pins (upd H l (.lst [])) b:=λb hb=>⟨by rw[aN (n9 b hb)];exact(hf b hb).1,(hf b hb).2⟩;have mj:tn 0 (s.heap.push {cls:=.type "list",dict:=none,data:=.seq ([]:List Value).toArray}):=T.keep 0 _ _ st λb j o e=>PJ b o e;generalize hs3:(9#(s.heap.push {cls:=.type "list",dict:=none,data:=.seq ([]:List Value).toArray}):W6)=s3 at I3;have C7:tn 0 s3.heap:=by rw[<-hs3];exact mj
 have PM:∀b∈fp,b<s3.heap.objs.size:=λb hb=>by obtain⟨o,ho,_⟩:=T.obj 0 _ C7 b hb;exact Wm ho
 refine Py ?_;have I4:=Pl I3 S ya PM;generalize hX:fK X scope s3 (upd H l (.lst [])) fp=X' at I4;generalize hs4:({s3 with heap:=Ud (s3.heap.push {cls:=.type "dict",data:=.dict #[]}) scope.names}:W6)=s4 at I4⊢;have mH:=hg s3 (upd H l (.lst [])) fp;have mI:=ht s3 (upd H l (.lst [])) fp;have C8:=he s3 (upd H l (.lst [])) fp;rw[hX]at mH mI C8;have C9:tn 0 s4.heap:=T.keep 0 _ _ C7 λb j o e=>by rw[<-hs4];exact pushCells_keeps _ _ b o (W5 _ e)
 have hP:X'.prog=X.prog:=by rw[<-hX];rfl
 have hw:X'.w=X.w:=by rw[<-hX];rfl
 have hA:X'.A=X.A:=by rw[<-hX];rfl
 have hK:X'.K=X.K:=by rw[<-hX];rfl
 have kg:X'.calm=true:=by rw[<-hX];exact hc
 have uI:X'.xe=lq:=by rw[<-hX];rfl
 have C_:X'.env.locals=s3.heap.objs.size:=by rw[<-hX];rfl
 have PN:({scope:=relabel scope X.env,locals:=s3.heap.objs.size,globals:=X.env.globals,cells:=QY (s3.heap.objs.size+1) scope.names (gn X.env.cells scope.names []),qual:=X.env.qual,func:=none,code:=X.env.code,frame:=X.env.frame,builtins:=X.env.builtins}:Env)=X'.env:=by rw[<-hX];rfl
 have yb:∀{H':Hp},(∀b∈fp,H' b=none)->∀b∈fp,gG X' [] H' b:=λ{H'}hn b hb=>by
  have ex:X'.ex=fp:=by rw[<-hX];rfl
  have pn:X'.pn=[]:=by rw[<-hX];rfl
  refine⟨hn b hb,(I4.ok.ub b %[ex|hb]).1,I4.ok.qx b %[ex|hb],.inl %[ex|hb],(I4.ok.ub b %[ex|hb]).2,λp hp=>?_⟩;rw[pn]at hp;simp at hp
 show QR 5#0 X.A (.compStart (.ListComp elt [⟨tg,iter,ifs,0⟩] scope pos) 0 (.ref it) (.ref l) ({scope:=relabel scope X.env,locals:=s3.heap.objs.size,globals:=X.env.globals,cells:=QY (s3.heap.objs.size+1) scope.names (gn X.env.cells scope.names []),qual:=X.env.qual,func:=none,code:=X.env.code,frame:=X.env.frame,builtins:=X.env.builtins}:Env)) (RR (.ref l) s3.heap.objs.size) s4;rw[PN];have loop:QR 5#0 X.A (.compLoop (.ListComp elt [⟨tg,iter,ifs,0⟩] scope pos) 0 (.ref it) (.ref l) X'.env) (RR (.ref l) s3.heap.objs.size) s4:=by
  refine Pw (λn s'=>∃i H',Inv X' [] (bK cs J) H' s'/\tn i s'.heap/\(∀b∈fp,H' b=none)/\W i n H') ?_ m0 ⟨0,_,I4,C9,λb hb=>(ya b hb).1,w0⟩;rintro n s5⟨i,H5,I5,st5,fr5,w5⟩;rcases turn i n H5 w5 with⟨stop,qn⟩|⟨go,step⟩
  .have:=T.done X' hP hw hK kg i [] s5 (bK cs J) H5 lq I5 (yb fr5) st5 stop;rw[hA]at this;refine aM this λr s6⟨hr,I6⟩=>?_;subst hr;have b6:=I6.base;have e1:X'.fs=iF X.stack:=by rw[<-hX];rfl
   have e2:X'.ex=fp:=by rw[<-hX];rfl
   have e3:X'.H₀=upd H l (.lst []):=by rw[<-hX];rfl
   have e4:X'.s₀=s3:=by rw[<-hX];rfl
   rw[e1,e2,e3,e4]at b6;have o6:s6.os=s3.os:=by rw[<-e4];exact I6.os
   have PU:cA X.prog X.w H5 s6.heap:=by rw[<-hP,<-hw];exact I6.aD
   have J6:Inv X pins J H5 s6:=I3.MN o6 b6 PU I6.bare λb hb=>by obtain⟨_,f1,_,f3,f4,f5⟩:=ya b hb;exact⟨f3,f1,f4,f5⟩
   obtain⟨m6,n6,_⟩:=I6.loc;rw[C_]at n6;refine PH l s3.heap.objs.size s6 H5 J6 (I3.iH (Wf _) ?_) ⟨m6,n6⟩ qn;rw[<-C_];exact I6.free
  .have:=T.item X' hP hw hK kg i [] s5 (bK cs J) H5 lq I5 (yb fr5) st5 go;rw[hA]at this;refine aM this λr s6⟨u,hr,h6⟩=>?_;subst hr;refine aM h6 λj s7 hh=>?_;obtain⟨x,H7,I7,r7,y7,st7,fr7⟩:=hh;have PX:=I7.pinned (yb fr7) (T.obj _ _ st7);have a8:=mH _ s7 (bK cs J) H7 x u _ PX r7 (step x H7 y7);rw[hP,hw,hA,uI]at a8;refine aM a8 λj s8 hh=>?_;obtain⟨GE,H8,I8,le8,q8⟩:=hh;have a9:=mI _ s8 GE H8 _ I8 q8;rw[hP,hw,hA,uI]at a9;refine aM a9 λok s9⟨H9,I9,q9⟩=>?_;have back:∀{H':Hp}{s':W6},Inv X' ([]++qC fp s7.heap) GE H' s'->Inv X' [] (bK cs J) H' s'/\tn (i+1) s'.heap/\∀b∈fp,H' b=none:=λ{H' s'}M'=>by refine⟨M'.uq.weak le8.1.symm le8.2,T.keep _ _ _ st7 λb hb o e=>(M'.pin (b,o) (WQ _ (WQ _ (uo hb e)))).1,λb hb=>?_⟩;obtain⟨o,e,d⟩:=T.obj _ _ st7 b hb;exact(M'.pin (b,o) (WQ _ (WQ _ (uo hb e)))).2.1
   cases ok with|false=>rw[if_neg WW]at q9⊢;obtain⟨m',hm,w9⟩:=q9;obtain⟨b1,b2,b3⟩:=back I9;exact⟨m',hm,i+1,H9,b1,b2,b3,w9⟩|true=>rw[if_pos rfl]at q9⊢;have Dc:=C8 _ s9 GE H9 _ I9 q9;rw[hP,hw,hA,uI]at Dc;refine aM Dc λx10 s10 hh=>?_;obtain⟨v,H10,I10,r10,ys,m',hy,hz,hm,w10⟩:=hh;have De:=CI (X:=X') _ s10 GE H10 (.ref l) [v] (.ref l) [x10] (λj H'=>W (i+1) m' H') I10 rfl (.cons r10 .nil) ⟨l,ys,v,rfl,rfl,hy,hz,w10⟩;rw[hP,hw,hA,uI]at De;refine aM De λj s11 hh=>?_;obtain⟨_,H11,I11,_,w11⟩:=hh;obtain⟨b1,b2,b3⟩:=back I11;exact⟨m',hm,i+1,H11,b1,b2,b3,w11⟩
 exact codeAny_compStart_list loop (T.self X.A 0 s4 _ _ C9 loop)
theorem PY(hc:X.calm=true)(S:n5 X scope cs)(hi:PI X tg iter wi)(hg:∀s₀ H₀ ex,PG (fK X scope s₀ H₀ ex) tg g)(ht:∀s₀ H₀ ex,oW (fK X scope s₀ H₀ ex) ifs tt)(he:∀s₀ H₀ ex,PE (fK X scope s₀ H₀ ex) elt te)(hs:∀x,Ju iter X.env x=pure x:=by intro _;rfl):PE X (.ListComp elt [⟨tg,iter,ifs,0⟩] scope pos) (x_ cs wi g tt te):=by intro pins s J H Q I h;have qR:∀x∈scope.names,x.2=.free->∃c,X.env.cells.lookup x.1=some c:=λx hx hk=>I.ok.has x.1 (S.free x hx hk);rw[eval_ListComp];refine wpAny_comprehension_free (use:=none) rfl hs (CY qR) S.kind S.names (aM (hi pins s J H _ I h) λxv s1 h1=>aM h1 λui s2 h2=>?_);obtain⟨it,fp,tn,M',H2,e,I2,T,st2,f2,q2⟩:=h2;subst e;refine C5 (RR:=λacc C=>compPost 5#0 X.A X.xe none (EP X pins J Q) acc C) hc I2 S T st2 f2 hg ht he q2 ?_;intro l C s' H' I' fC⟨m,n⟩q;exact⟨m,n,λh' gY=>⟨.ref l,H',I'.turned (t':=s'.toks) (λb o hb e=>(gY.2 b hb).trans e) fC.1 fC.2.1 fC.2.2.2.1 fC.2.2.2.2.1 fC.2.2.2.2.2,rfl,q⟩⟩
theorem PZ(hc:X.calm=true)(S:n5 X scope cs)(hN:X.N.Nodup)(ij:X.N[i]?=some y)(hy:X.env.scope.names.lookup y=some .local)(hi:PI X tg iter wi)(hg:∀s₀ H₀ ex,PG (fK X scope s₀ H₀ ex) tg g)(ht:∀s₀ H₀ ex,oW (fK X scope s₀ H₀ ex) ifs tt)(he:∀s₀ H₀ ex,PE (fK X scope s₀ H₀ ex) elt te)(qS:Je (.ListComp elt [⟨tg,iter,ifs,0⟩] scope pos) (some (.Name y py)) uJ.line X.env=pure true:=by rfl)(hs:∀x,Ju iter X.env x=pure x:=by intro _;rfl):PS X (.Assign [.Name y py] (.ListComp elt [⟨tg,iter,ifs,0⟩] scope pos) uJ) (uh (x_ cs wi g tt te) (ug i)):=by
 intro pins s J H D I h;have qR:∀x∈scope.names,x.2=.free->∃c,X.env.cells.lookup x.1=some c:=λx hx hk=>I.ok.has x.1 (S.free x hx hk);rw[exec_Assign_Name_used _ _ _ _ qS];refine W0 (wpAny_standAt (W0 ?_));show Wb _ X.A (do let _<-comprehension (.ListComp elt [⟨tg,iter,ifs,0⟩] scope pos) scope X.env _ (newList []) false (eval iter X.env) (some (assign (.Name y py) X.env))) _ _ s;refine W0 (Q2 (wpAny_comprehension_free (use:=some (assign (.Name y py) X.env)) (Q:=λj s'=>SP X pins D .next s') rfl hs (CY qR) S.kind S.names (aM (hi pins s J H _ I h) λxv s1 h1=>aM h1 λui s2 h2=>?_)) (λj s' hq=>W3 (W3 hq)) λj j e=>e);obtain⟨it,fp,tn,M',H2,e,I2,T,st2,f2,q2⟩:=h2;subst e;refine C5 (RR:=λacc C=>compPost 5#0 X.A X.xe (some (assign (.Name y py) X.env)) (λj s'=>SP X pins D .next s') acc C) hc I2 S T st2 f2 hg ht he q2 ?_;intro l C s' H' I' fC⟨m,n⟩q;show Wb _ X.A (assign (.Name y py) X.env (.ref l)) _ _ _;refine wpAny_assign_Name (BI I' hN ij (.inl hy) (v:=.ref l) rfl (λnW I''⟨a,hsb,ha⟩=>?_) (.inr hy));have cE:C≠a:=by
  rcases ha with rfl|ha;.exact fC.2.1
  .exactλe=>fC.2.2.2.2.1 y a ha e.symm
 refine⟨m,n.sameBut hsb cE,λh' gY=>⟨_,H',I''.turned (t':=nW.toks) (λb o hb e=>(gY.2 b hb).trans e) fC.1 fC.2.1 fC.2.2.2.1 fC.2.2.2.2.1 fC.2.2.2.2.2,q⟩⟩
end
abbrev Tx:=List Nat
def toS(x:Tx):Str:=⟨x.toArray⟩
theorem qT(x:Tx):(toS x).cps.toList=x:=#v[toS]
theorem kj(x:Tx):(toS x).length=x.length:=#v[toS,Str.length]
theorem uK{x}(h:toS x=toS y):x=y:=by have:=congrArg (λz:Str=>z.cps.toList) h;simpa[toS]using this
theorem yc(z:Str):z=toS z.cps.toList:=#v[toS]
abbrev a7:=Sum Int Tx
def cO:a7->Key|.inl i=>.inl i|.inr x=>.inr (toS x)
inductive D where|aX|bl(b:Bool)|int(i:Int)|str(x:Tx)|tup(xs:List D)|lst(xs:List D)|aA(kvs:List (a7×D))|exc(n:Nat)(fl:D)|xd(fs:List (Tx×D))|fn(a:Nat)|dic(kvs:List (D×D))
mutual noncomputable def cQ:Nat->D->Option NK|_,.int i=>some (.i i)|_,.bl b=>some (.i (if b then 1 else 0))|_,.str x=>some (.s (toS x))|n+1,.tup xs=>(iI n xs).map .t|_,_=>none noncomputable def iI:Nat->List D->Option (List NK)|_,[]=>some []|n,x::xs=>(cQ n x).bind λk=>(iI n xs).map λks=>k::ks end
def excAt(C:Addr)(v:V)(a:Addr):Heap->Prop:=λh=>∃o,h.get? a=some o/\o.cls=.ref C/\(∀x,v=.ref x->o.dict=some x)/\∃vs,o.data=.fields vs
def P0(fs:List (Str×V))(x:Addr):Heap->Prop:=λh=>∃mA,h.Ns1 x mA/\∀f,d_ (fs.lookup f) (mA f)
inductive S where|pure(d:D)|own(d:D)
variable{ss:List S}
def S.d:S->D|.pure d=>d|.own d=>d
abbrev Dl:=List (Option S)
variable{Z SZ:Dl}
inductive Rep(H:Hp)(O:Addr->Prop):V->D->Prop|aX:Rep H O .aX .aX|bl(b:Bool):Rep H O (.bl b) (.bl b)|int(i:Int):Rep H O (.int i) (.int i)|str(x:Tx):Rep H O (.str (toS x)) (.str x)|tup{a:Addr}{vs:List V}{ds:List D}:¬O a->H a=some (.tup vs)->vs.length=ds.length->(∀(i:Nat)v d,vs[i]?=some v->ds[i]?=some d->Rep H O v d)->Rep H O (.ref a) (.tup ds)|lst{a:Addr}{vs:List V}{ds:List D}:¬O a->Rd H a (.lst vs)->vs.length=ds.length->(∀(i:Nat)v d,vs[i]?=some v->ds[i]?=some d->Rep H O v d)->Rep H O (.ref a) (.lst ds)|aA{a:Addr}{ws:List (Key×V)}{ds:List (a7×D)}:¬O a->H a=some (.dK ws)->ws.map (·.1)=ds.map (λp=>cO p.1)->(∀(i:Nat)p q,ws[i]?=some p->ds[i]?=some q->Rep H O p.2 q.2)->Rep H O (.ref a) (.aA ds)|exc{a:Addr}{n:Nat}{v:V}{fl:D}:¬O a->H a=some (.ext (excAt n v a))->Rep H O v fl->Rep H O (.ref a) (.exc n fl)|xd{x:Addr}{fs:List (Str×V)}{ds:List (Tx×D)}:¬O x->H x=some (.ext (P0 fs x))->fs.map (·.1)=ds.map (λp=>toS p.1)->(∀(i:Nat)p q,fs[i]?=some p->ds[i]?=some q->Rep H O p.2 q.2)->Rep H O (.ref x) (.xd ds)|fn(a:Addr):Rep H O (.ref a) (.fn a)|dic{a:Addr}{ep:Nat}{ws:List (NK×V×V)}{ds:List (D×D)}:¬O a->H a=some (.dN ep ws)->ws.length=ds.length->(∀(i:Nat)p q,ws[i]?=some p->ds[i]?=some q->Rep H O p.2.1 q.1)->(∀(i:Nat)p q,ws[i]?=some p->ds[i]?=some q->Rep H O p.2.2 q.2)->(∀(i:Nat)p q,ws[i]?=some p->ds[i]?=some q->cQ 6 q.1=some p.1)->Rep H O (.ref a) (.dic ds)
abbrev aI(H:Hp)(O:Addr->Prop)(vs:List V)(ds:List D):Prop:=vs.length=ds.length/\∀(i:Nat)v d,vs[i]?=some v->ds[i]?=some d->Rep H O v d
structure DN(H:Hp)(O:Addr->Prop)(ws:List (NK×V×V))(ds:List (D×D)):Prop where
 len:ws.length=ds.length
 key:∀(i:Nat)p q,ws[i]?=some p->ds[i]?=some q->Rep H O p.2.1 q.1val:∀(i:Nat)p q,ws[i]?=some p->ds[i]?=some q->Rep H O p.2.2 q.2n_:∀(i:Nat)p q,ws[i]?=some p->ds[i]?=some q->cQ 6 q.1=some p.1
def gq(H:Hp)(O:Addr->Prop)(a:Addr):D->Prop|.lst ds=>∃vs,H a=some (.lst vs)/\aI H O vs ds|.aA ds=>∃ws:List (Key×V),H a=some (.dK ws)/\ws.map (·.1)=ds.map (λp=>cO p.1)/\∀(i:Nat)p q,ws[i]?=some p->ds[i]?=some q->Rep H O p.2 q.2|.dic ds=>∃(ep:Nat)(ws:List (NK×V×V)),H a=some (.dN ep ws)/\DN H O ws ds|_=>False
section
variable{v:V}{d:D}{ds:List D}
theorem Rd.keep{u}(h:Rd H a u)(k:∀o,H a=Option.some o->H' a=Option.some o):Rd H' a u:=by
 rcases h with h|⟨o,h⟩;.exact .inl (k _ h)
 .exact .inr ⟨o,k _ h⟩
theorem Rd.some{u}(h:Rd H a u):∃o,H a=some o:=by
 rcases h with h|⟨o,h⟩;.exact⟨_,h⟩
 .exact⟨_,h⟩
theorem Rep.keep(h:Rep H O v d)(k:∀a o,H a=some o->¬O a->H' a=some o):Rep H' O v d:=by induction h with|aX=>exact .aX|bl b=>exact .bl b|int i=>exact .int i|str x=>exact .str x|tup h1 h2 h3 _ ih=>exact .tup h1 (k _ _ h2 h1) h3 ih|lst h1 h2 h3 _ ih=>exact .lst h1 (Rd.keep h2 λo e=>k _ o e h1) h3 ih|aA h1 h2 h3 _ ih=>exact .aA h1 (k _ _ h2 h1) h3 ih|exc h1 h2 _ ih=>exact .exc h1 (k _ _ h2 h1) ih|xd h1 h2 h3 _ ih=>exact .xd h1 (k _ _ h2 h1) h3 ih|fn a=>exact .fn a|dic h1 h2 h3 _ _ h6 ih qU=>exact .dic h1 (k _ _ h2 h1) h3 ih qU h6
theorem Rep.aS(h:Rep H O v d)(k:∀a,O' a->O a\/H a=none):Rep H O' v d:=by
 have no:∀{a:Addr}{u:HO},¬O a->Rd H a u->¬O' a:=λ{a u}h1 h2 z=>by grind[Rd.some]
 induction h with|aX=>exact .aX|bl b=>exact .bl b|int i=>exact .int i|str x=>exact .str x|tup h1 h2 h3 _ ih=>exact .tup (no h1 (.inl h2)) h2 h3 ih|lst h1 h2 h3 _ ih=>exact .lst (no h1 h2) h2 h3 ih|aA h1 h2 h3 _ ih=>exact .aA (no h1 (.inl h2)) h2 h3 ih|exc h1 h2 _ ih=>exact .exc (no h1 (.inl h2)) h2 ih|xd h1 h2 h3 _ ih=>exact .xd (no h1 (.inl h2)) h2 h3 ih|fn a=>exact .fn a|dic h1 h2 h3 _ _ h6 ih qU=>exact .dic (no h1 (.inl h2)) h2 h3 ih qU h6
theorem DN.keep{ws:List (NK×V×V)}{ds:List (D×D)}(h:DN H O ws ds)(k:∀a o,H a=some o->¬O a->H' a=some o):DN H' O ws ds:=⟨h.len,λi p q e1 e2=>(h.key i p q e1 e2).keep k,λi p q e1 e2=>(h.val i p q e1 e2).keep k,h.n_⟩
theorem DN.aS{ws:List (NK×V×V)}{ds:List (D×D)}(h:DN H O ws ds)(k:∀a,O' a->O a\/H a=none):DN H O' ws ds:=⟨h.len,λi p q e1 e2=>(h.key i p q e1 e2).aS k,λi p q e1 e2=>(h.val i p q e1 e2).aS k,h.n_⟩
theorem aI.keep(h:aI H O vs ds)(k:∀a o,H a=some o->¬O a->H' a=some o):aI H' O vs ds:=⟨h.1,λi v d e1 e2=>(h.2 i v d e1 e2).keep k⟩
theorem aI.aS(h:aI H O vs ds)(k:∀a,O' a->O a\/H a=none):aI H O' vs ds:=⟨h.1,λi v d e1 e2=>(h.2 i v d e1 e2).aS k⟩
theorem aI.nil:aI H O [] []:=⟨rfl,λi v d e j=>by simp at e⟩
theorem aI.cons{H O v d vs ds}(h:Rep H O v d)(r:aI H O vs ds):aI H O (v::vs) (d::ds):=by refine⟨#v[r.1],λi v' d' e1 e2=>?_⟩;cases i with|zero=>simp at e1 e2;subst e1;subst e2;exact h|succ i=>exact r.2 i v' d' (~~~e1) (~~~e2)
theorem aI.head(r:aI H O (v::vs) (d::ds)):Rep H O v d:=r.2 0 v d rfl rfl
theorem aI.tail(r:aI H O (v::vs) (d::ds)):aI H O vs ds:=⟨~~~r.1,λi v' d' e1 e2=>r.2 (i+1) v' d' (~~~e1) (~~~e2)⟩
theorem aI.append(h:aI H O vs ds)(h':aI H O jg dP):aI H O (vs++jg) (ds++dP):=by induction vs generalizing ds with
 |nil=>cases ds with|nil=>exact h'|cons d r=>have:=h.1;simp at this
 |cons v r ih=>cases ds with|nil=>have:=h.1;simp at this|cons d q=>exact .cons h.head (ih h.tail)
theorem aI.get(h:aI H O vs ds)(e:ds[i]?=some d):∃v,vs[i]?=some v/\Rep H O v d:=by have hi:i<ds.length:=(W9.mp e).1;have hv:i<vs.length:=%[h.1|hi];exact⟨vs[i],#v[hv],h.2 i _ d #v[hv] e⟩
theorem aI.take(n:Nat)(h:aI H O vs ds):aI H O (vs.take n) (ds.take n):=by
 refine⟨#v[h.1],λi v d e1 e2=>?_⟩;by_cases hi:i<n;.rw[List.getElem?_take_of_lt hi]at e1 e2;exact h.2 i v d e1 e2
 .rw[List.getElem?_take_eq_none Z']at e1;cases e1
theorem aI.drop(n:Nat)(h:aI H O vs ds):aI H O (vs.drop n) (ds.drop n):=by refine⟨#v[h.1],λi v d e1 e2=>?_⟩;rw[List.getElem?_drop]at e1 e2;exact h.2 (n+i) v d e1 e2
theorem aI.set(h:aI H O vs ds)(r:Rep H O v d)(j:Nat):aI H O (vs.set j v) (ds.set j d):=by
 refine⟨#v[h.1],λi v' d' e1 e2=>?_⟩;by_cases hi:j=i;.subst hi;rw[Qi]at e1 e2;simp at e1 e2;obtain⟨_,rfl⟩:=e1;obtain⟨_,rfl⟩:=e2;exact r
 .rw[W4 hi]at e1 e2;exact h.2 i v' d' e1 e2
theorem gq.keep(h:gq H O a d)(hk:∀b o,H b=Option.some o->¬O b->H' b=Option.some o)(ha:∀o,H a=Option.some o->H' a=Option.some o):gq H' O a d:=by cases d<;>first|exact h.elim|(obtain⟨vs,e,r⟩:=h;exact⟨vs,ha _ e,aI.keep r hk⟩)|(obtain⟨ws,e,r,q⟩:=h;exact⟨ws,ha _ e,r,λi p p' e1 e2=>(q i p p' e1 e2).keep hk⟩)|(obtain⟨ep,ws,e,r⟩:=h;exact⟨ep,ws,ha _ e,r.keep hk⟩)
theorem gq.aS(h:gq H O a d)(k:∀a,O' a->O a\/H a=none):gq H O' a d:=by cases d<;>first|exact h.elim|(obtain⟨vs,e,r⟩:=h;exact⟨vs,e,aI.aS r k⟩)|(obtain⟨ws,e,r,q⟩:=h;exact⟨ws,e,r,λi p p' e1 e2=>(q i p p' e1 e2).aS k⟩)|(obtain⟨ep,ws,e,r⟩:=h;exact⟨ep,ws,e,r.aS k⟩)
theorem gq.some(h:gq H O a d):∃o,H a=some o:=by cases d<;>first|exact h.elim|(obtain⟨vs,e,r⟩:=h;exact⟨_,e⟩)|(obtain⟨ep,vs,e,r⟩:=h;exact⟨_,e⟩)
theorem gq.rep(h:gq H O a d)(ho:¬O a):Rep H O (.ref a) d:=by cases d with|lst ds=>obtain⟨vs,e,r⟩:=h;exact .lst ho (.inl e) r.1 r.2|aA ds=>obtain⟨ws,e,r,q⟩:=h;exact .aA ho e r q|dic ds=>obtain⟨ep,ws,e,r⟩:=h;exact .dic ho e r.len r.key r.val r.n_|_=>exact h.elim
end
structure Xc where
 cls:Tx
 qaW:D
structure Fc where
 H₀:Hp
 B:Addr->Prop
 pin:List (Nat×Addr)xc:Xc->Dl->Prop:=λj j=>False
variable{c:Fc}
def Fc.plus(c:Fc)(p:Addr):Fc:={c with B:=λa=>c.B a\/a=p}
def Fc.I(c:Fc)(a:Addr):Prop:=∃i,(i,a)∈c.pin
def Own(J:St)(Z:Dl)(a:Addr):Prop:=∃(i:Nat)(d:D),Z[i]?=some (some (.own d))/\J[i]?=some (some (.ref a))
def Av(c:Fc)(J:St)(Z:Dl)(a:Addr):Prop:=c.B a\/Own J Z a
structure Ok(c:Fc)(J:St)(Z:Dl)(H:Hp):Prop where
 keep:∀a o,c.H₀ a=some o->¬c.I a->H a=some o
 bd:∀a,c.B a->∃o,H a=some o
 eN:∀a,c.I a->∃o,H a=some o
 len:Z.length=J.length
 slot:∀(i:Nat)d,Z[i]?=some 0#d->∃v,J[i]?=some (some v)/\Rep H (Av c J Z) v d
 own:∀(i:Nat)d,Z[i]?=some (some (.own d))->∃a,J[i]?=some (some (.ref a))/\gq H (Av c J Z) a d/\(c.I a\/c.H₀ a=none)/\¬c.B a
 inj:∀(i j:Nat)a d d',Z[i]?=some (some (.own d))->Z[j]?=some (some (.own d'))->J[i]?=some (some (.ref a))->J[j]?=some (some (.ref a))->i=j
 pinned:∀p∈c.pin,J[p.1]?=some (some (.ref p.2))
structure aY(c:Fc)(J:St)(Z:Dl)(H:Hp)(J':St)(SZ:Dl)(H':Hp):Prop where
 ok:Ok c J' SZ H'
 keep:∀a o,H a=some o->¬Own J Z a->H' a=some o
 own:∀a,Own J' SZ a->Own J Z a\/H a=none
 there:∀a o,H a=some o->∃o',H' a=some o'
section
variable{J'':St}{Z'':Dl}{Df:Hp}{v:V}{d:D}{p:Addr}
theorem Ok.P4(k:Ok c J Z H)(h:c.B a):∃o,H a=some o:=k.bd a h
theorem Ok.yd(k:Ok c J Z H)(h:Own J Z a):∃o,H a=some o:=by obtain⟨i,d,e1,e2⟩:=h;obtain⟨b,e3,q,_⟩:=k.own i d e1;rw[e2]at e3;cases e3;exact q.some
theorem Ok.Dg(k:Ok c J Z H)(h:Av c J Z a):∃o,H a=some o:=h.elim k.P4 k.yd
theorem Ok.iJ(k:Ok c J Z H)(h:H a=none):¬Av c J Z a:=λz=>by obtain⟨o,e⟩:=k.Dg z;grind
theorem aY.refl(k:Ok c J Z H):aY c J Z H J Z H:=⟨k,λj j e j=>e,λj h=>.inl h,λj o e=>⟨o,e⟩⟩
theorem aY.trans(x:aY c J Z H J' SZ H')(y:aY c J' SZ H' J'' Z'' Df):aY c J Z H J'' Z'' Df:=by
 refine⟨y.ok,λa o e n=>?_,λa h=>?_,λa o e=>?_⟩;.refine y.keep a o (x.keep a o e n) λz=>?_;rcases x.own a z with q|q;all_goals grind
 .rcases y.own a h with q|q;.exact x.own a q
  .right;cases e:H a with|none=>rfl|some o=>obtain⟨o',e'⟩:=x.there a o e;grind
 .obtain⟨o',e'⟩:=x.there a o e;exact y.there a o' e'
theorem aY.av(x:aY c J Z H J' SZ H'):∀a,Av c J' SZ a->Av c J Z a\/H a=none:=λa h=>by
 rcases h with h|h;.exact .inl (.inl h)
 .rcases x.own a h with q|q;.exact .inl (.inr q)
  .exact .inr q
theorem Rep.dQ(h:Rep H (Av c J Z) v d)(x:aY c J Z H J' SZ H'):Rep H' (Av c J' SZ) v d:=by have h1:Rep H (λa=>Av c J Z a\/Av c J' SZ a) v d:=Rep.aS h λa z=>z.elim .inl (x.av a);exact(h1.keep λa o e n=>x.keep a o e λz=>n (.inl (.inr z))).aS λa z=>.inl (.inr z)
theorem aI.dQ(h:aI H (Av c J Z) vs ds)(x:aY c J Z H J' SZ H'):aI H' (Av c J' SZ) vs ds:=⟨h.1,λi v d e1 e2=>Rep.dQ (h.2 i v d e1 e2) x⟩
def bu(c:Fc)(J:St)(Z:Dl)(Hs H:Hp)(v:V):S->Prop|.pure d=>Rep H (Av c J Z) v d|.own d=>∃a,v=.ref a/\gq H (Av (c.plus a) J Z) a d/\¬c.B a/\c.H₀ a=none/\Ok (c.plus a) J Z H/\Hs a=none
theorem uL(k:Ok (c.plus a) J Z H):¬Own J Z a:=λ⟨i,d,e1,e2⟩=>by obtain⟨b,e3,_,_,n⟩:=k.own i d e1;rw[e2]at e3;cases e3;exact n (.inr rfl)
theorem bu.rep(h:bu c J Z Hs H v r):Rep H (Av c J Z) v r.d:=by cases r with|pure d=>exact h|own d=>obtain⟨a,rfl,o,n,f,k,_⟩:=h;refine(o.aS λb z=>.inl ?_).rep λz=>z.elim n (uL k);exact z.elim (λz=>.inl (.inl z)) .inr
theorem bu.back(h:bu c J Z Hs H v r)(x:aY c J₀ Z₀ H' J' SZ Hs):bu c J Z H' H v r:=by cases r with|pure d=>exact h|own d=>obtain⟨a,e,o,n,f,k,hs⟩:=h;refine⟨a,e,o,n,f,k,?_⟩;cases q:H' a with|none=>rfl|some o=>obtain⟨o',e'⟩:=x.there a o q;grind
theorem bu.P5(h:bu c J Z Hs H v r):bu c J Z c.H₀ H v r:=by cases r with|pure d=>exact h|own d=>obtain⟨a,e,o,n,f,k,hs⟩:=h;exact⟨a,e,o,n,f,k,f⟩
theorem Ok.alloc(k:Ok c J Z H)(hp:H p=none)(o:HO):Ok c J Z (upd H p o):=by
 have up:∀a w,H a=some w->upd H p o a=some w:=λa w e=>by rw[aN (gF e hp)];exact e
 refine⟨λa w e n=>up a w (k.keep a w e n),λa z=>(k.bd a z).elim λw e=>⟨w,up a w e⟩,λa z=>(k.eN a z).elim λw e=>⟨w,up a w e⟩,k.len,λi d e=>?_,λi d e=>?_,k.inj,k.pinned⟩;.obtain⟨v,e1,r⟩:=k.slot i d e;exact⟨v,e1,r.keep λa w q j=>up a w q⟩
 .obtain⟨a,e1,r,q⟩:=k.own i d e;exact⟨a,e1,r.keep (λb w q j=>up b w q) λw q=>up a w q,q⟩
theorem aY.alloc(k:Ok c J Z H)(hp:H p=none)(o:HO):aY c J Z H J Z (upd H p o):=by
 have up:∀a w,H a=some w->upd H p o a=some w:=λa w e=>by rw[aN (gF e hp)];exact e
 exact⟨k.alloc hp o,λa w e j=>up a w e,λa h=>.inl h,λa w e=>⟨w,up a w e⟩⟩
theorem Ok.mJ(k:Ok c J Z H)(hp:H p=none):c.H₀ p=none:=by cases e:c.H₀ p with|none=>rfl|some o=>
 by_cases q:c.I p;.obtain⟨w,e'⟩:=k.eN p q;grind
 .have:=k.keep p o e q;grind
theorem Ok.plus(k:Ok c J Z H)(hp:H p=none)(o:HO):Ok (c.plus p) J Z (upd H p o):=by
 have k':=k.alloc hp o;have sub:∀b,Av (c.plus p) J Z b->Av c J Z b\/b=p:=λb z=>by
  rcases z with(z|z)|z;.exact .inl (.inl z)
  .exact .inr z
  .exact .inl (.inr z)
 have uM:∀b,Av (c.plus p) J Z b->Av c J Z b\/H b=none:=λb z=>(sub b z).elim .inl λe=>.inr %[e|hp];have up:∀a w,H a=some w->upd H p o a=some w:=λa w e=>by rw[aN (gF e hp)];exact e
 refine⟨k'.keep,λa z=>?_,k'.eN,k.len,λi d e=>?_,λi d e=>?_,k.inj,k.pinned⟩
 .rcases z with z|z;.exact k'.bd a z
  .exact⟨o,%[z|cW]⟩
 .obtain⟨v,e1,r⟩:=k.slot i d e;exact⟨v,e1,(r.aS uM).keep λa w q j=>up a w q⟩
 .obtain⟨a,e1,r,q,nb⟩:=k.own i d e;refine⟨a,e1,(r.aS uM).keep (λb w q j=>up b w q) λw q=>up a w q,q,λz=>?_⟩;rcases z with z|z;all_goals grind[gq.some]
theorem bu.qV(k:Ok c J Z H)(r:aI H (Av c J Z) vs ds)(hp:H p=none):bu c J Z H (upd H p (.lst vs)) (.ref p) (.own (.lst ds)):=by
 have up:∀a w,H a=some w->upd H p (.lst vs) a=some w:=λa w e=>by rw[aN (gF e hp)];exact e
 refine⟨p,rfl,⟨vs,cW,?_⟩,λz=>k.iJ hp (.inl z),k.mJ hp,k.plus hp _,hp⟩;have r1:aI H (Av (c.plus p) J Z) vs ds:=aI.aS r λb z=>by
  rcases z with(z|z)|z;.exact .inl (.inl z)
  .exact .inr %[z|hp]
  .exact .inl (.inr z)
 exact aI.keep r1 λb w e j=>up b w e
theorem bu.qW(k:Ok c J Z H)(r:aI H (Av c J Z) vs ds)(hp:H p=none):bu c J Z H (upd H p (.tup vs)) (.ref p) (.pure (.tup ds)):=by
 have up:∀a w,H a=some w->upd H p (.tup vs) a=some w:=λa w e=>by rw[aN (gF e hp)];exact e
 have r1:=aI.keep r (H':=upd H p (.tup vs)) λb w e j=>up b w e;exact .tup (k.iJ hp) cW r1.1 r1.2
end
inductive Rs(α:Type)where|ok(a:α)(Z:Dl)|exc(x:Xc)(Z:Dl)|stuck
noncomputable def Rs.bind{α β:Type}(r:Rs α)(f:α->Dl->Rs β):Rs β:=match r with|.ok a Z=>f a Z|.exc x Z=>.exc x Z|.stuck=>.stuck
abbrev DE:=Dl->Rs S
variable{fa fe ff fi:DE}
def XC(c:Fc)(x:Xc)(Z:Dl):Prop:=c.xc x Z
def post{α:Type}(c:Fc)(r:Rs α)(k:α->Dl->Prop):Prop:=match r with|.ok a Z=>k a Z|.exc x Z=>XC c x Z|.stuck=>False
theorem ba{f}:post c (r.bind f) k↔post c r λa Z=>post c (f a Z) k:=by cases r<;>exact Iff.rfl
theorem aO(h:post c r k)(m:∀a Z,k a Z->k' a Z):post c r k':=by cases r with|ok a Z=>exact m a Z h|exc x Z=>exact h|stuck=>exact h
def tD(c:Fc)(f:DE):TE:=λJ H Q=>∃Z,Ok c J Z H/\post c (f Z) λr SZ=>∀v H',aY c J Z H J SZ H'->bu c J SZ H H' v r->Q v H'
abbrev SE(X:Cx)(c:Fc)(e:Expr)(f:DE):Prop:=PE X e (tD c f)
def cC(c:Fc)(J:St)(Z:Dl)(H:Hp)(v:V)(d:D):Prop:=Rep H (Av c J Z) v d\/∃a,v=.ref a/\gq H (Av c J Z) a d
abbrev BE:=Dl->Rs D
variable{fb:BE}
def UV(c:Fc)(f:BE):TE:=λJ H Q=>∃Z,Ok c J Z H/\post c (f Z) λd SZ=>∀v H',aY c J Z H J SZ H'->cC c J SZ H' v d->Q v H'
abbrev SB(X:Cx)(c:Fc)(e:Expr)(f:BE):Prop:=PE X e (UV c f)
theorem PE.weak{t'}(h:PE X e t)(w:∀J H Q,t' J H Q->t J H Q):PE X e t':=λpins s J H Q I q=>h pins s J H Q I (w J H Q q)
def aj(f:DE):BE:=λZ=>(f Z).bind λr SZ=>.ok r.d SZ
theorem bu.b(h:bu c J Z Hs H v r):cC c J Z H v r.d:=.inl h.rep
theorem P6{f:DE}(h:SE X c e f):SB X c e (aj f):=PE.weak h λJ H Q⟨Z,k,p⟩=>⟨Z,k,by unfold aj at p;rw[ba]at p;exact aO p λr SZ q v H' a s=>q v H' a s.b⟩
def ah(i:Nat):BE:=λZ=>match Z[i]? with|some (some r)=>.ok r.d Z|_=>.stuck
def aa(i:Nat):DE:=λZ=>match Z[i]? with|some 0#d=>.ok (.pure d) Z|some (some (.own d))=>.ok (.pure d) (Z.set i 0#d)|_=>.stuck
def eD(d:D):DE:=λZ=>.ok (.pure d) Z
theorem P7(h:PE X e (dH i)):SB X c e (ah i):=PE.weak h λJ H Q⟨Z,k,p⟩=>by unfold ah at p;cases e:Z[i]? with|none=>rw[e]at p;exact p.elim|some o=>cases o with|none=>rw[e]at p;exact p.elim|some r=>rw[e]at p;cases r with|pure d=>obtain⟨v,e1,r⟩:=k.slot i d e;exact⟨v,e1,p v H (.refl k) (.inl r)⟩|own d=>obtain⟨a,e1,r,_⟩:=k.own i d e;exact⟨.ref a,e1,p _ H (.refl k) (.inr ⟨a,rfl,r⟩)⟩
theorem Own.sub(h:Own J (Z.set i 0#d) a):Own J Z a:=by
 obtain⟨j,d',e1,e2⟩:=h;by_cases hj:i=j;.subst hj;rw[Qi]at e1;simp at e1
 .rw[W4 hj]at e1;exact⟨j,d',e1,e2⟩
theorem Ok.give(k:Ok c J Z H)(e:Z[i]?=some (some (.own d))):∃a,J[i]?=some (some (.ref a))/\aY c J Z H J (Z.set i 0#d) H/\Rep H (Av c J (Z.set i 0#d)) (.ref a) d:=by
 obtain⟨a,e1,r,q,nb⟩:=k.own i d e;have hi:i<Z.length:=(W9.mp e).1;have sub:∀b,Av c J (Z.set i 0#d) b->Av c J Z b:=λb z=>z.elim .inl λz=>.inr z.sub;have na:¬Av c J (Z.set i 0#d) a:=by
  rintro(z|⟨j,d',f1,f2⟩);.exact nb z
  .by_cases hj:i=j;.subst hj;rw[Qi]at f1;simp at f1
   .rw[W4 hj]at f1;exact hj (k.inj i j a d d' e f1 e1 f2)
 have rep:Rep H (Av c J (Z.set i 0#d)) (.ref a) d:=(r.aS λb z=>.inl (sub b z)).rep na;refine⟨a,e1,⟨⟨k.keep,k.bd,k.eN,%[Qe|k.len],λj d' f=>?_,λj d' f=>?_,λj l b d1 d2 f1 f2=>?_,k.pinned⟩,λy y w y=>w,λb z=>.inl z.sub,λy o w=>⟨o,w⟩⟩,rep⟩
 .by_cases hj:i=j;.subst hj;rw[Wh hi]at f;cases f;exact⟨.ref a,e1,rep⟩
  .rw[W4 hj]at f;obtain⟨v,g1,g2⟩:=k.slot j d' f;exact⟨v,g1,g2.aS λb z=>.inl (sub b z)⟩
 .by_cases hj:i=j;.subst hj;rw[Wh hi]at f;cases f
  .rw[W4 hj]at f;obtain⟨b,g1,g2,g3⟩:=k.own j d' f;exact⟨b,g1,g2.aS λb z=>.inl (sub b z),g3⟩
 .have h1:Z[j]?=some (some (.own d1)):=by
   by_cases hj:i=j;.subst hj;rw[Wh hi]at f1;cases f1
   .rw[W4 hj]at f1;exact f1
  have h2:Z[l]?=some (some (.own d2)):=by
   by_cases hj:i=l;.subst hj;rw[Wh hi]at f2;cases f2
   .rw[W4 hj]at f2;exact f2
  exact k.inj j l b d1 d2 h1 h2
theorem P8(h:PE X e (dH i)):SE X c e (aa i):=PE.weak h λJ H Q⟨Z,k,p⟩=>by unfold aa at p;cases e:Z[i]? with|none=>rw[e]at p;exact p.elim|some o=>cases o with|none=>rw[e]at p;exact p.elim|some r=>rw[e]at p;cases r with|pure d=>obtain⟨v,e1,r⟩:=k.slot i d e;exact⟨v,e1,p v H (.refl k) r⟩|own d=>obtain⟨a,e1,x,r⟩:=k.give e;exact⟨.ref a,e1,p _ H x r⟩
theorem Dh{i j pos}:SE X c (.Constant (.int i) j pos) 3#i:=PE.weak BK λJ H Q⟨Z,k,p⟩=>p _ H (.refl k) (.int i)
theorem Di{b j pos}:SE X c (.Constant (.bool b) j pos) (eD (.bl b)):=PE.weak MP λJ H Q⟨Z,k,p⟩=>p _ H (.refl k) (.bl b)
theorem Dj{j pos}:SE X c (.Constant .none j pos) (eD .aX):=PE.weak MQ λJ H Q⟨Z,k,p⟩=>p _ H (.refl k) .aX
theorem Dk{x j pos}(y:Tx)(h:x=toS y:=by decide+kernel):SE X c (.Constant (.str x) j pos) (eD (.str y)):=by subst h;exact PE.weak BL λJ H Q⟨Z,k,p⟩=>p _ H (.refl k) (.str y)
open PySem.SeqAt
mutual noncomputable def bc:D->D->Bool
 |.aX,e=>match e with|.aX=>true|_=>false
 |.bl a,e=>match e with|.bl b=>a==b|.int b=>(if a then 1 else 0)==b|_=>false
 |.int a,e=>match e with|.int b=>a==b|.bl b=>a==if b then 1 else 0|_=>false
 |.str a,e=>match e with|.str b=>a==b|_=>false
 |.tup xs,e=>match e with|.tup ys=>fw xs ys|_=>false
 |.lst xs,e=>match e with|.lst ys=>fw xs ys|_=>false
 |_,_=>false noncomputable def fw:List D->List D->Bool|[],[]=>true|x::xs,y::ys=>bc x y&&fw xs ys|_,_=>false end
mutual noncomputable def flat:Nat->D->Bool|_,.aX=>true|_,.bl _=>true|_,.int _=>true|_,.str _=>true|0,.tup _=>false|n+1,.tup xs=>fz n xs|0,.lst _=>false|n+1,.lst xs=>fz n xs|_,.aA _=>false|_,.exc _ _=>false|_,.xd _=>false|_,.fn _=>false|_,.dic _=>false noncomputable def fz:Nat->List D->Bool|_,[]=>true|n,x::xs=>flat n x&&fz n xs end
theorem og:∀{xs:List D}{x:D},fz n xs=true->x∈xs->flat n x=true
 |[],_,_,h=>by simp at h|y::ys,x,h,hm=>by
  simp only[fz,Wu]at h;rcases Wv.mp hm with e|hm;.rw[e];exact h.1
  .exact og h.2 hm
theorem uN:∀{xs ys:List D}{f:Nat->Bool},xs.length=ys.length->(∀(j:Nat)x y,xs[j]?=some x->ys[j]?=some y->f j=bc x y)->(W7 xs.length).all f=fw xs ys|[],[],f,_,_=>rfl|[],y::ys,f,h,_=>by simp at h|x::xs,[],f,h,_=>by simp at h|x::xs,y::ys,f,h,hf=>by simp only[fw];rw[WF,Jm,Uu,hf 0 x y rfl rfl,UB];rw[<-uN (f:=λj=>f (j+1)) (~~~h) λj a b e1 e2=>hf (j+1) a b (~~~e1) (~~~e2)];rfl
theorem uO:∀{xs ys:List D},xs.length≠ys.length->fw xs ys=false|[],[],h=>absurd rfl h|[],y::ys,_=>rfl|x::xs,[],_=>rfl|x::xs,y::ys,h=>by simp only[fw];rw[uO (xs:=xs) (ys:=ys) (by intro e;exact h #v[e])];simp
mutual theorem oh:∀{n:Nat}{d:D},flat n d=true->bc d d=true|_,.aX,_=>rfl|_,.bl b,_=>#v[bc]|_,.int i,_=>#v[bc]|_,.str x,_=>#v[bc]|0,.tup xs,h=>by simp[flat]at h|n+1,.tup xs,h=>by simp only[bc];exact ye (n:=n) (by simpa[flat]using h)|0,.lst xs,h=>by simp[flat]at h|n+1,.lst xs,h=>by simp only[bc];exact ye (n:=n) (by simpa[flat]using h)|_,.aA xs,h=>by simp[flat]at h|_,.exc n _,h=>by simp[flat]at h|_,.xd n,h=>by simp[flat]at h;theorem ye:∀{n:Nat}{ds:List D},fz n ds=true->fw ds ds=true|_,[],_=>rfl|n,x::xs,h=>by simp only[fz,Wu]at h;simp only[fw];rw[oh h.1,ye h.2];rfl;end
abbrev dI:Addr->Prop:=λj=>False
theorem Rep.un(h:Rep H O v d):Rep H dI v d:=Rep.aS h λj z=>z.elim
theorem cC.un(h:cC c J Z H v d):Rep H dI v d:=by
 rcases h with h|⟨a,rfl,o⟩;.exact Rep.un h
 .exact(o.aS (O':=dI) λj z=>z.elim).rep λz=>z
theorem Inv.mK(I:Inv X pins J H s)(h:Rd H a (.lst vs)):∃ak:List Value,Vals vs ak/\s.heap.IsList a ak.toArray:=by obtain⟨ak,r,p,_⟩:=I.list (.inl h);exact⟨ak,r,p.isList⟩
theorem Inv.mL(I:Inv X pins J H s)(h:H a=some (.tup vs)):∃ak:List Value,Vals vs ak/\s.heap.IsTuple a ak.toArray:=by obtain⟨ak,r,p,_⟩:=I.tuple (.of h);exact⟨ak,r,p⟩
theorem oX(x y:Tx):((toS x:Str)==toS y)=(x==y):=by rw[J9];simp only[beq_iff_eq];exact⟨uK,λe=>by rw[e]⟩
theorem P9(A:WA):A.in1.units=A.units+1:=rfl
theorem Rd.inj{u w}(h:Rd H a u)(k:Rd H a w)(hu:∀o z,u≠.frz o z)(hw:∀o z,w≠.frz o z):u=w:=by
 rcases h with h|⟨o,h⟩<;>rcases k with k|⟨o',k⟩;.rw[h]at k;exact WK k
 .rw[h]at k;exact absurd (WK k) (hu _ _)
 .rw[h]at k;exact absurd (WK k).symm (hw _ _)
 .rw[h]at k;have:=WK k;injection this
theorem aI.inj:∀{ds es:List D},vs.length=ds.length->vs.length=es.length->(∀(i:Nat)v d e,vs[i]?=some v->ds[i]?=some d->es[i]?=some e->d=e)->ds=es:=by
 intro ds es h1 h2 h;apply Jc;intro i;by_cases hi:i<vs.length
 .have a1:i<ds.length:=by lia
  have a2:i<es.length:=by lia
  rw[W2 a1,W2 a2];rw[h i vs[i] ds[i] es[i] #v[hi] #v[a1] #v[a2]]
 .rw[WD Z',WD Z']
theorem Rep.inj{v:V}{d:D}(h:Rep H O v d):∀{n:Nat}{e:D},flat n d=true->flat n e=true->Rep H O v e->d=e:=by induction h with
 |aX=>intro n e _ _ k;cases k;rfl|bl b=>intro n e _ _ k;cases k;rfl|int i=>intro n e _ _ k;cases k;rfl|str x=>intro n e _ _ k;generalize hz:V.str (toS x)=z at k;cases k with|str y=>injection hz with hz;rw[uK hz]|_=>cases hz
 |@tup a vs ds h1 h2 h3 h4 ih=>intro n e fd fe k;cases n with|zero=>simp[flat]at fd|succ n=>simp only[flat]at fd;cases k with|@tup _ ws es k1 k2 k3 k4=>simp only[flat]at fe;have e1:=Rd.inj (.inl h2) (.inl k2) (λj j z=>by cases z) (λj j z=>by cases z);injection e1 with e1;subst e1;rw[aI.inj h3 k3 λi v d e q1 q2 q3=>ih i v d q1 q2 (og fd (Q0 q2)) (og fe (Q0 q3)) (k4 i v e q1 q3)]|lst k1 k2=>exact absurd (Rd.inj (.inl h2) k2 (λj j z=>by cases z) λj j z=>by cases z) λz=>by cases z|aA k1 k2=>exact absurd (Rd.inj (.inl h2) (.inl k2) (λj j z=>by cases z) λj j z=>by cases z) λz=>by cases z|exc k1 k2=>simp[flat]at fe|xd k1 k2=>simp[flat]at fe|fn _=>simp[flat]at fe|dic _=>simp[flat]at fe
 |@lst a vs ds h1 h2 h3 h4 ih=>intro n e fd fe k;cases n with|zero=>simp[flat]at fd|succ n=>simp only[flat]at fd;cases k with|@lst _ ws es k1 k2 k3 k4=>simp only[flat]at fe;have e1:=Rd.inj h2 k2 (λj j z=>by cases z) (λj j z=>by cases z);injection e1 with e1;subst e1;rw[aI.inj h3 k3 λi v d e q1 q2 q3=>ih i v d q1 q2 (og fd (Q0 q2)) (og fe (Q0 q3)) (k4 i v e q1 q3)]|tup k1 k2=>exact absurd (Rd.inj h2 (.inl k2) (λj j z=>by cases z) λj j z=>by cases z) λz=>by cases z|aA k1 k2=>exact absurd (Rd.inj h2 (.inl k2) (λj j z=>by cases z) λj j z=>by cases z) λz=>by cases z|exc k1 k2=>simp[flat]at fe|xd k1 k2=>simp[flat]at fe|fn _=>simp[flat]at fe|dic _=>simp[flat]at fe
 |aA h1 h2 h3 h4 ih=>intro n e fd _ _;cases n<;>simp[flat]at fd|exc h1 h2=>intro n e fd _ _;cases n<;>simp[flat]at fd|xd h1 h2=>intro n e fd _ _;cases n<;>simp[flat]at fd|fn _=>intro n e fd _ _;cases n<;>simp[flat]at fd|dic h1 h2=>intro n e fd _ _;cases n<;>simp[flat]at fd
def yf(H:Hp)(s:W6)(n:Nat):Prop:=∀(A:WA)(x y:V)(u w:Value)(d e:D),A.units+n+1<WR->flat n d=true->flat n e=true->Rep H dI x d->Rep H dI y e->RelV x u->RelV y w->EqAt A s u w (bc d e)
def oj(H:Hp)(s:W6)(A:WA)(n:Nat):Prop:=match n with|0=>True|m+1=>A.units+m+2<WR/\yf H s m
def uP(ds es:List D)(j:Nat):Bool:=match ds[j]?,es[j]? with|some p,some q=>bc p q|_,_=>false
theorem uQ{es}(j:Nat)(p q:D)(e1:ds[j]?=some p)(e2:es[j]?=some q):uP ds es j=bc p q:=by unfold uP;rw[e1,e2]
theorem uR{ws:List V}{ds es:List D}{ik:List Value}(hu:A.units+n+2<WR)(ih:yf H s n)(r1:Vals vs ak)(r2:Vals ws ik)(l1:vs.length=ds.length)(l2:ws.length=es.length)(g1:∀(i:Nat)v d,vs[i]?=some v->ds[i]?=some d->Rep H dI v d)(g2:∀(i:Nat)v d,ws[i]?=some v->es[i]?=some d->Rep H dI v d)(f1:fz n ds=true)(f2:fz n es=true):∀j(h1:j<ak.toArray.size)(h2:j<ik.toArray.size),EqAt A.in1 s ak.toArray[j] ik.toArray[j] (uP ds es j):=by
 intro j h1 h2;have e1:=r1.length;have e2:=r2.length;simp at h1 h2;have hd:j<ds.length:=by lia
 have he:j<es.length:=by lia
 have hv:j<vs.length:=by lia
 have hw:j<ws.length:=by lia
 obtain⟨u',yg,ru'⟩:=r1.get (i:=j) (x:=vs[j]) #v[hv];obtain⟨w',hw',rw''⟩:=r2.get (i:=j) (x:=ws[j]) #v[hw];have eu:ak.toArray[j]=u':=by simpa[h1]using yg
 have ew:ik.toArray[j]=w':=by simpa[h2]using hw'
 rw[eu,ew,uQ j ds[j] es[j] #v[hd] #v[he]];exact ih A.in1 vs[j] ws[j] u' w' ds[j] es[j] (by rw[P9];lia) (og f1 (WV hd)) (og f2 (WV he)) (g1 j _ _ #v[hv] #v[hd]) (g2 j _ _ #v[hw] #v[he]) ru' rw''
theorem Dn{m es}(h1:n=ds.length)(h2:m=es.length):((W7 (min n m)).all (uP ds es)&&n==m)=fw ds es:=by
 subst h1 h2;by_cases hl:ds.length=es.length;.rw[<-hl,Nat.min_self,uN hl uQ];simp
 .rw[uO hl];simp[hl]
theorem P_{es}(I:Inv X pins J H s)(n:Nat)(A:WA)(bL:A.units<WR)(t1:s.heap.IsTuple a ak.toArray)(t2:s.heap.IsTuple b ik.toArray)(r1:Vals vs ak)(r2:Vals ws ik)(l1:vs.length=ds.length)(l2:ws.length=es.length)(g1:∀(i:Nat)v d,vs[i]?=some v->ds[i]?=some d->Rep H dI v d)(g2:∀(i:Nat)v d,ws[i]?=some v->es[i]?=some d->Rep H dI v d)(f1:flat n (.tup ds)=true)(f2:flat n (.tup es)=true)(ih:oj H s A n):RcAt A s (.ref a) (.ref b) (fw ds es):=by cases n with|zero=>simp[flat]at f1|succ n=>simp only[flat]at f1 f2;obtain⟨hu,ih⟩:=ih;have q:=RcAt.tuples (A:=A) (s:=s) t1 t2 bL (uR hu ih r1 r2 l1 l2 g1 g2 f1 f2);rw[Dn (by have:=r1.length;simp;lia) (by have:=r2.length;simp;lia)]at q;exact q
theorem Q_{es}(I:Inv X pins J H s)(n:Nat)(A:WA)(bL:A.units<WR)(t1:s.heap.IsTuple a ak.toArray)(t2:s.heap.IsTuple b ik.toArray)(r1:Vals vs ak)(r2:Vals ws ik)(l1:vs.length=ds.length)(l2:ws.length=es.length)(g1:∀(i:Nat)v d,vs[i]?=some v->ds[i]?=some d->Rep H dI v d)(g2:∀(i:Nat)v d,ws[i]?=some v->es[i]?=some d->Rep H dI v d)(f1:flat n (.tup ds)=true)(f2:flat n (.tup es)=true)(ih:oj H s A n):RcNeAt A s (.ref a) (.ref b) !fw ds es:=by cases n with|zero=>simp[flat]at f1|succ n=>simp only[flat]at f1 f2;obtain⟨hu,ih⟩:=ih;have q:=RcNeAt.tuples (A:=A) (s:=s) t1 t2 bL (uR hu ih r1 r2 l1 l2 g1 g2 f1 f2);rw[Dn (by have:=r1.length;simp;lia) (by have:=r2.length;simp;lia)]at q;exact q
theorem Ra{es}(I:Inv X pins J H s)(n:Nat)(A:WA)(bL:A.units<WR)(t1:s.heap.IsList a ak.toArray)(t2:s.heap.IsList b ik.toArray)(r1:Vals vs ak)(r2:Vals ws ik)(l1:vs.length=ds.length)(l2:ws.length=es.length)(g1:∀(i:Nat)v d,vs[i]?=some v->ds[i]?=some d->Rep H dI v d)(g2:∀(i:Nat)v d,ws[i]?=some v->es[i]?=some d->Rep H dI v d)(f1:flat n (.lst ds)=true)(f2:flat n (.lst es)=true)(ih:oj H s A n):RcAt A s (.ref a) (.ref b) (fw ds es):=by cases n with|zero=>simp[flat]at f1|succ n=>
 simp only[flat]at f1 f2;obtain⟨hu,ih⟩:=ih;have z1:ak.toArray.size=ds.length:=by have:=r1.length;simp;lia
 have z2:ik.toArray.size=es.length:=by have:=r2.length;simp;lia
 by_cases hl:ds.length=es.length;.have q:=RcAt.lists (A:=A) (s:=s) t1 t2 %[z1,z2|hl] bL (uR hu ih r1 r2 l1 l2 g1 g2 f1 f2);rw[z1,uN hl uQ]at q;exact q
 .rw[uO hl];exact RcAt.lists_lengths (A:=A) (s:=s) t1 t2 (by rw[z1,z2];simpa using hl) bL
theorem Rb{es}(I:Inv X pins J H s)(n:Nat)(A:WA)(bL:A.units<WR)(t1:s.heap.IsList a ak.toArray)(t2:s.heap.IsList b ik.toArray)(r1:Vals vs ak)(r2:Vals ws ik)(l1:vs.length=ds.length)(l2:ws.length=es.length)(g1:∀(i:Nat)v d,vs[i]?=some v->ds[i]?=some d->Rep H dI v d)(g2:∀(i:Nat)v d,ws[i]?=some v->es[i]?=some d->Rep H dI v d)(f1:flat n (.lst ds)=true)(f2:flat n (.lst es)=true)(ih:oj H s A n):RcNeAt A s (.ref a) (.ref b) !fw ds es:=by cases n with|zero=>simp[flat]at f1|succ n=>
 simp only[flat]at f1 f2;obtain⟨hu,ih⟩:=ih;have z1:ak.toArray.size=ds.length:=by have:=r1.length;simp;lia
 have z2:ik.toArray.size=es.length:=by have:=r2.length;simp;lia
 by_cases hl:ds.length=es.length;.have q:=RcNeAt.lists (A:=A) (s:=s) t1 t2 %[z1,z2|hl] bL (uR hu ih r1 r2 l1 l2 g1 g2 f1 f2);rw[z1,uN hl uQ]at q;exact q
 .rw[uO hl];exact RcNeAt.lists_lengths (A:=A) (s:=s) t1 t2 (by rw[z1,z2];simpa using hl) bL
theorem yh(I:Inv X pins J H s)(n:Nat)(A:WA)(x y:V)(u w:Value)(d e:D)(bL:A.units<WR)(fd:flat n d=true)(fe:flat n e=true)(ih:oj H s A n)(rx:Rep H dI x d)(ry:Rep H dI y e)(ru:RelV x u)(bN:RelV y w):RcAt A s u w (bc d e):=by cases rx with
 |tup h1 h2 h3 h4=>cases ru;obtain⟨its1,r1,t1⟩:=Inv.mL I h2;cases ry with|tup k1 k2 k3 k4=>cases bN;obtain⟨its2,r2,t2⟩:=Inv.mL I k2;simp only[bc];exact P_ I n A bL t1 t2 r1 r2 h3 k3 h4 k4 fd fe ih|lst k1 k2 k3 k4=>cases bN;obtain⟨its2,r2,t2⟩:=Inv.mK I k2;simp only[bc];exact RcAt.tuple_list t1 t2 bL|_=>first|(cases n<;>simp[flat]at fe;done)|((first|obtain⟨t2,rfl⟩:=bN|cases bN);simp only[bc];with_reducible first|exact RcAt.tuple_none t1 bL|exact RcAt.tuple_bool _ t1 bL|exact RcAt.tuple_int _ _ t1 bL|exact RcAt.tuple_str _ _ t1 bL)
 |lst h1 h2 h3 h4=>cases ru;obtain⟨its1,r1,t1⟩:=Inv.mK I h2;cases ry with|tup k1 k2 k3 k4=>cases bN;obtain⟨its2,r2,t2⟩:=Inv.mL I k2;simp only[bc];exact RcAt.list_tuple t1 t2 bL|lst k1 k2 k3 k4=>cases bN;obtain⟨its2,r2,t2⟩:=Inv.mK I k2;simp only[bc];exact Ra I n A bL t1 t2 r1 r2 h3 k3 h4 k4 fd fe ih|_=>first|(cases n<;>simp[flat]at fe;done)|((first|obtain⟨t2,rfl⟩:=bN|cases bN);simp only[bc];with_reducible first|exact RcAt.list_none t1 bL|exact RcAt.list_bool _ t1 bL|exact RcAt.list_int _ _ t1 bL|exact RcAt.list_str _ _ t1 bL)
 |_=>
 first|(cases n<;>simp[flat]at fd;done)|skip
 all_goals first|obtain⟨t1,rfl⟩:=ru|cases ru
 all_goals cases ry with
 |tup k1 k2 k3 k4=>cases bN;obtain⟨its2,r2,t2⟩:=Inv.mL I k2;simp only[bc];with_reducible first|exact RcAt.none_tuple t2 bL|exact RcAt.bool_tuple _ t2 bL|exact RcAt.int_tuple _ _ t2 bL|exact RcAt.str_tuple _ _ t2 bL
 |lst k1 k2 k3 k4=>cases bN;obtain⟨its2,r2,t2⟩:=Inv.mK I k2;simp only[bc];with_reducible first|exact RcAt.none_list t2 bL|exact RcAt.bool_list _ t2 bL|exact RcAt.int_list _ _ t2 bL|exact RcAt.str_list _ _ t2 bL
 |_=>first|(cases n<;>simp[flat]at fe;done)|((first|obtain⟨t2,rfl⟩:=bN|cases bN);simp only[bc];with_reducible first|exact RcAt.none_none|exact RcAt.none_bool _|exact RcAt.none_int _ _|exact RcAt.none_str _ _|exact RcAt.bool_none _|exact RcAt.bool_bool _ _|exact RcAt.bool_int _ _ _|exact RcAt.bool_str _ _ _|exact RcAt.int_none _ _|exact RcAt.int_bool _ _ _|exact RcAt.int_int _ _ _ _|exact RcAt.int_str _ _ _ _|exact RcAt.str_none _ _|exact RcAt.str_bool _ _ _|exact RcAt.str_int _ _ _ _|(rw[<-oX];exact RcAt.str_str _ _ _ _))
theorem Rc(I:Inv X pins J H s)(n:Nat)(A:WA)(x y:V)(u w:Value)(d e:D)(bL:A.units<WR)(fd:flat n d=true)(fe:flat n e=true)(ih:oj H s A n)(rx:Rep H dI x d)(ry:Rep H dI y e)(ru:RelV x u)(bN:RelV y w):RcNeAt A s u w !bc d e:=by cases rx with
 |tup h1 h2 h3 h4=>cases ru;obtain⟨its1,r1,t1⟩:=Inv.mL I h2;cases ry with|tup k1 k2 k3 k4=>cases bN;obtain⟨its2,r2,t2⟩:=Inv.mL I k2;simp only[bc];exact Q_ I n A bL t1 t2 r1 r2 h3 k3 h4 k4 fd fe ih|lst k1 k2 k3 k4=>cases bN;obtain⟨its2,r2,t2⟩:=Inv.mK I k2;simp only[bc,JB];exact RcNeAt.tuple_list t1 t2 bL|_=>first|(cases n<;>simp[flat]at fe;done)|((first|obtain⟨t2,rfl⟩:=bN|cases bN);simp only[bc,JB,JG];with_reducible first|exact RcNeAt.tuple_none t1 bL|exact RcNeAt.tuple_bool _ t1 bL|exact RcNeAt.tuple_int _ _ t1 bL|exact RcNeAt.tuple_str _ _ t1 bL)
 |lst h1 h2 h3 h4=>cases ru;obtain⟨its1,r1,t1⟩:=Inv.mK I h2;cases ry with|tup k1 k2 k3 k4=>cases bN;obtain⟨its2,r2,t2⟩:=Inv.mL I k2;simp only[bc,JB];exact RcNeAt.list_tuple t1 t2 bL|lst k1 k2 k3 k4=>cases bN;obtain⟨its2,r2,t2⟩:=Inv.mK I k2;simp only[bc];exact Rb I n A bL t1 t2 r1 r2 h3 k3 h4 k4 fd fe ih|_=>first|(cases n<;>simp[flat]at fe;done)|((first|obtain⟨t2,rfl⟩:=bN|cases bN);simp only[bc,JB,JG];with_reducible first|exact RcNeAt.list_none t1 bL|exact RcNeAt.list_bool _ t1 bL|exact RcNeAt.list_int _ _ t1 bL|exact RcNeAt.list_str _ _ t1 bL)
 |_=>
 first|(cases n<;>simp[flat]at fd;done)|skip
 all_goals first|obtain⟨t1,rfl⟩:=ru|cases ru
 all_goals cases ry with
 |tup k1 k2 k3 k4=>cases bN;obtain⟨its2,r2,t2⟩:=Inv.mL I k2;simp only[bc,JB,JG];with_reducible first|exact RcNeAt.none_tuple t2 bL|exact RcNeAt.bool_tuple _ t2 bL|exact RcNeAt.int_tuple _ _ t2 bL|exact RcNeAt.str_tuple _ _ t2 bL
 |lst k1 k2 k3 k4=>cases bN;obtain⟨its2,r2,t2⟩:=Inv.mK I k2;simp only[bc,JB,JG];with_reducible first|exact RcNeAt.none_list t2 bL|exact RcNeAt.bool_list _ t2 bL|exact RcNeAt.int_list _ _ t2 bL|exact RcNeAt.str_list _ _ t2 bL
 |_=>first|(cases n<;>simp[flat]at fe;done)|((first|obtain⟨t2,rfl⟩:=bN|cases bN);simp only[bc,JB,JG];with_reducible first|exact RcNeAt.none_none|exact RcNeAt.none_bool _|exact RcNeAt.none_int _ _|exact RcNeAt.none_str _ _|exact RcNeAt.bool_none _|exact RcNeAt.bool_bool _ _|exact RcNeAt.bool_int _ _ _|exact RcNeAt.bool_str _ _ _|exact RcNeAt.int_none _ _|exact RcNeAt.int_bool _ _ _|exact RcNeAt.int_int _ _ _ _|exact RcNeAt.int_str _ _ _ _|exact RcNeAt.str_none _ _|exact RcNeAt.str_bool _ _ _|exact RcNeAt.str_int _ _ _ _|(rw[<-oX];exact RcNeAt.str_str _ _ _ _))
theorem Dp{w}(h:RcAt A s u w k)(hs:u=w->k=true)(hf:∀b t,u≠Value.float b t):EqAt A s u w k:=λprog w' E Q hq=>by
 unfold eqBool;refine WZ ?_;refine U4 (λiK=>?_) λj=>?_;.have e:=eq_of_beq iK;rw[hs e]at hq;exact W0 (QW (W3 hq))
 .cases u with|float b t=>exact absurd rfl (hf b t)|_=>exact W0 (h prog w' E _ (QF hq))
theorem Dq{x}(r:Rep H dI x d)(ru:RelV x u)(b:UInt64)(t:Tok):u≠Value.float b t:=by intro e;subst e;cases r<;>first|(cases ru;done)|(obtain⟨t',e⟩:=ru;cases e)
theorem Rf(I:Inv X pins J H s)(n:Nat):yf H s n:=by induction n with|zero=>intro A x y u w d e hu fd fe rx ry ru bN;refine Dp (yh I 0 A x y u w d e Z' fd fe trivial rx ry ru bN) (λh=>?_) (Dq rx ru);subst h;have:=ru.inj bN;subst this;rw[Rep.inj rx fd fe ry];exact oh fe|succ n ih=>intro A x y u w d e hu fd fe rx ry ru bN;refine Dp (yh I (n+1) A x y u w d e Z' fd fe ⟨Z',ih⟩ rx ry ru bN) (λh=>?_) (Dq rx ru);subst h;have:=ru.inj bN;subst this;rw[Rep.inj rx fd fe ry];exact oh fe
theorem Dr(I:Inv X pins J H s):∀n:Nat,A.units+n+1<WR->oj H s A n|0,_=>trivial|n+1,h=>⟨Z',Rf I n⟩
def Ds:R2:=λx y H Q=>∃d e,Rep H dI x d/\Rep H dI y e/\flat 50 d=true/\flat 50 e=true/\Q (.bl (bc d e)) H
def Dt:R2:=λx y H Q=>∃d e,Rep H dI x d/\Rep H dI y e/\flat 50 d=true/\flat 50 e=true/\Q (.bl !bc d e) H
theorem uS(hu:X.A.units+64<WR):bJ X (WX .Eq) Ds:=by intro pins s J H x y v u Q I rx ry h;obtain⟨d,e,r1,r2,f1,f2,q⟩:=h;exact yh I 50 X.A x y v u d e Z' f1 f2 (Dr I 50 Z') r1 r2 rx ry X.prog X.w X.xe _ ⟨.bl _,H,I,rfl,q⟩
theorem uT(hu:X.A.units+64<WR):bJ X (WX .NotEq) Dt:=by intro pins s J H x y v u Q I rx ry h;obtain⟨d,e,r1,r2,f1,f2,q⟩:=h;exact Rc I 50 X.A x y v u d e Z' f1 f2 (Dr I 50 Z') r1 r2 rx ry X.prog X.w X.xe _ ⟨.bl _,H,I,rfl,q⟩
def e_{α:Type}(xs:List α)(lo hi:Option Int):List α:=(xs.drop (fI xs.length 0 lo)).take (fI xs.length xs.length hi-fI xs.length 0 lo)
theorem Rg(xs:List V)(lo hi:Option Int):e_ xs lo hi=qF xs lo hi:=rfl
theorem aI.cut(lo hi:Option Int)(h:aI H O vs ds):aI H O (e_ vs lo hi) (e_ ds lo hi):=by unfold e_;rw[h.1];exact aI.take _ (aI.drop _ h)
def Du(X:Cx)(r:V->Hp->VK->Prop):Prop:=∀(pins:List (Addr×Obj))(s:W6)(J:St)(H:Hp)(x:V)(v:Value)(t:Tok)(sl:Addr)(Q:VK),Inv X pins J H s->RelV x v->s.heap.IsSliceOf sl .none .none (.int (-1) t)->r x H Q->∃T id,typeLookup (.type T) "__getitem__"=pure (some (.builtin id))/\s.TypeIs v T/\Wb 5#0 X.A (getItem v (.ref sl)) (EP X pins J Q) X.xe s
theorem Rh{r:V->Hp->VK->Prop}{st:Expr}{p2:Pos}(hr:Du X r)(he:PE X e te)(fS:PE X st (tC (.int (-1)))):PE X (.Subscript e (.Slice none none (some st) p2) pos) (xA r te):=by intro pins s J H Q I h;refine Subscript_ (aM (he pins s J H _ I h) λv s1 hh=>?_);obtain⟨x,H1,I1,r1,q1⟩:=hh;refine wpAny_Slice ?_;rw[evalPart_none,evalPart_some];refine W3 (W3 ?_);refine aM (fS pins s1 J H1 (λy H2=>y=.int (-1)/\H2=H1) I1 ⟨rfl,rfl⟩) λu s2 hh=>?_;obtain⟨y,H2,I2,r2,ey,eh⟩:=hh;subst ey eh;obtain⟨t,rfl⟩:=r2;have I4:Inv X pins J H2 {s2 with heap:=s2.heap.push {cls:=.type "slice",data:=.fields #[.none,.none,.int (-1) t]}}:=I2.kept (t':=s2.toks) λb ob q=>W5 _ q;obtain⟨T,id,hT,ht,hg⟩:=hr pins {s2 with heap:=s2.heap.push {cls:=.type "slice",data:=.fields #[.none,.none,.int (-1) t]}} J H2 x v t s2.heap.objs.size Q I4 r1 (Heap.IsSliceOf.new ..) q1;show Wb 5#0 X.A (subscriptTail e (.Slice none none (some st) p2) v (.ref s2.heap.objs.size)) (EP X pins J Q) X.xe {s2 with heap:=s2.heap.push {cls:=.type "slice",data:=.fields #[.none,.none,.int (-1) t]}};exact tail_any (ops:=[v,.ref s2.heap.objs.size]) ht hT hg (by with_unfolding_all rfl)
theorem Ri{X}{pos pos':Pos}{j}:PE X (.UnaryOp .USub (.Constant (.int 1) j pos') pos) (tC (.int (-1))):=PE.weak (B3 B9 BK) λJ H Q h=>⟨1,rfl,h⟩
theorem Rj(n:Nat):Builtin.Str.strSliceIndices none none (-1) n=(W7 n).map λk=>n-1-k:=by
 unfold Builtin.Str.strSliceIndices;have h0:¬(-1:Int)>0:=by decide
 simp only[h0,if_false];exact PySem.W.krv_sliceRange n
theorem Rk:Du X λx H Q=>∃z:Tx,x=.str (toS z)/\z.length<=Wd/\Q (.str (toS z.reverse)) H:=by
 intro pins s J H x v t sl Q I rx hs h;obtain⟨z,rfl,hz,q⟩:=h;obtain⟨t',rfl⟩:=rx;obtain⟨o,ho,hc,hd⟩:=hs;refine⟨"str",_,F.slot_str_getitem.lookup,typeIs_str s _ t',?_⟩;refine wpAny_getItem_str_slice (l:=none) (u:=none) (st:=some (-1,t)) ⟨o,ho,hc,hd⟩ (by show((-1:Int)==0)=false;decide) ?_;unfold sliceMade;rw[if_neg (by grind)];have e:(⟨((slicePicked (toS z) none none (some (-1,t))).filterMap ((toS z).cps[.]?)).toArray⟩:Str)=toS z.reverse:=by unfold slicePicked;show(⟨((Builtin.Str.strSliceIndices none none (-1) (toS z).length).filterMap ((toS z).cps[.]?)).toArray⟩:Str)=_;rw[Rj,PySem.W.krv_range,List.filterMap_reverse];have:(toS z).length=(toS z).cps.size:=rfl;rw[this,PySem.W.krv_all];simp[toS]
 show Made.post (.str _) _ _;rw[e];exact⟨%[kj,List.length_reverse|hz],.str (toS z.reverse),H,I.tok _,⟨_,rfl⟩,q⟩
theorem Rm:bJ X (Qo .Add) λx y H Q=>∃a b ys,x=.ref a/\y=.ref b/\cN X.K H a []/\cN X.K H b ys/\Q (.ref b) H:=by intro pins s J H x y v u Q I rx ry h;obtain⟨a,b,ys,rfl,rfl,ha,hb,q⟩:=h;cases rx;cases ry;obtain⟨ak,r1,p1,_⟩:=I.tuple ha;obtain⟨its2,r2,p2,_⟩:=I.tuple hb;cases r1;obtain⟨⟨cls,dd,data,sl⟩,ho,hc,n,hd⟩:=id p1;obtain⟨⟨cls2,dd2,data2,sl2⟩,ho2,hc2,n2,hd2⟩:=id p2;simp only at hc hd hc2 hd2;subst hc hd hc2 hd2;exact concat_meets ⟨_,ho,rfl⟩ ⟨_,ho2,rfl⟩ noFill_tuple_add seq_tuple_add PySem.F.slot_tuple_add PySem.F.entry_tuple_add (PySem.F.args_tuple_add_2 _ _) (tuple_addW0 a b #[] its2.toArray n n2 dd dd2 sl sl2 rfl) ⟨ho,ho2,.ref b,H,I,rfl,q⟩
def Dv(K:Wa):R2:=λx y H Q=>∃l b xs zs,x=.ref l/\y=.ref b/\cu K H l xs/\cu K H b zs/\xs.length+zs.length<=Wd/\∀p,H p=none->Q (.ref p) (upd H p (.lst (xs++zs)))
theorem Rn:bJ X (Qo .Add) (Dv X.K):=by
 intro pins s J H x y v u Q I rx ry h;obtain⟨l,b,xs,zs,rfl,rfl,hH,hB,hz,q⟩:=h;cases rx;cases ry;obtain⟨ak,r,⟨⟨cls,dd,data,sl⟩,n,e,hc,km,hd⟩,z⟩:=I.list hH;obtain⟨its2,r2,⟨⟨cls2,dd2,data2,sl2⟩,n2,e2,hc2,hdd2,hd2⟩,z2⟩:=I.list hB;simp only at hc hd km hc2 hd2 hdd2;subst hc hd km hc2 hd2 hdd2;have hl:=r.length;have gJ:=r2.length;refine concat_meets ⟨_,e,rfl⟩ ⟨_,e2,rfl⟩ noFill_list_add seq_list_add PySem.F.slot_list_add PySem.F.entry_list_add (PySem.F.args_list_add_2 _ _) (list_addW l b ak.toArray its2.toArray n n2 none none sl sl2 (by rw[Wx,Wx];lia)) ⟨e,e2,?_⟩;have ea:ak.toArray++its2.toArray=(ak++its2).toArray:=by simp
 rw[ea];exact⟨.ref _,_,I.OM (t':=s.toks) (r.append r2) (by rw[Qn];lia),rfl,q _ I.fresh⟩
theorem uU:∀{ys:List Str}{us:List Value},Vals (ys.map V.str) us->StrsAre us ys|[],us,r=>by cases r;exact .nil|y::ys,us,r=>by cases r with|cons r1 r2=>obtain⟨t,rfl⟩:=r1;exact .cons y t (uU r2)
theorem qX{ys:List Str}{us:List Value}(h:StrsAre us ys):Vals (ys.map V.str) us:=by induction h with|nil=>exact .nil|cons y t h ih=>exact .cons ⟨t,rfl⟩ ih
def uV(K:Wa):V->List V->Hp->VK->Prop:=λx vs H Q=>∃(z:Str)(a:Addr)(ys:List Str),x=.str z/\vs=[.ref a]/\(cu K H a (ys.map V.str)\/cN K H a (ys.map V.str))/\(ys.map (·.length)).sum+ys.length*z.length<=16777216/\Q (.str (Txt.join z ys)) H
theorem Ro:uy X "str.join" (uV X.K):=by
 intro pins s J H x vs v us Q I rx rv h;obtain⟨z,a,ys,rfl,rfl,hq,hz,q⟩:=h;obtain⟨t,rfl⟩:=rx;obtain⟨u,rfl,ru⟩:=(Vals.one rv);cases ru;rcases hq with hq|hq;.obtain⟨ak,r,p,_⟩:=I.list hq;exact join_list p.isList (by simpa using uU r) hz λt' k=>⟨.str _,H,I.tok _,⟨t',rfl⟩,q⟩
 .obtain⟨ak,r,p,_⟩:=I.tuple hq;exact join_tuple p (by simpa using uU r) hz λt' k=>⟨.str _,H,I.tok _,⟨t',rfl⟩,q⟩
theorem Dw:∀{bs:List Bool}{us:List Value},Vals (bs.map V.bl) us->∀(i:Nat)v,us[i]?=some v->∃b,bs[i]?=some b/\v=.bool b|[],us,r,i,v,e=>by cases r;simp at e|b::bs,us,r,i,v,e=>by cases r with|cons r1 r2=>cases i with|zero=>simp at e;subst e;exact⟨b,rfl,r1⟩|succ i=>exact Dw r2 i v (~~~e)
theorem Dx:∀bs:List Bool,((W7 bs.length).all λi=>bs[i]?.getD true)=bs.all id|[]=>rfl|b::bs=>by rw[WF,Jm,Uu,UB];have:=Dx bs;simp only[List.getElem?_cons_zero,Option.getD_some,Uu,id];rw[<-this];rfl
theorem Rp(hc:X.calm=true):eG X (.builtin "all") λxs H Q=>∃(a:Addr)(bs:List Bool),xs=[.ref a]/\cu X.K H a (bs.map V.bl)/\Q (.bl (bs.all λb=>b)) H:=by
 intro pins s J H xs us Q I r h;obtain⟨a,bs,rfl,hq,q⟩:=h;obtain⟨u,rfl,ru⟩:=ie r;cases ru;obtain⟨ak,r',p,_⟩:=I.list hq;have hl:=p.isList;have a0:a<s.heap.objs.size:=by obtain⟨_,e,_⟩:=hl;exact Wm e
 have hlen:=r'.length;rw[WB]at hlen;refine call_all_walk (Ul hl ?_);refine⟨s.heap.objs.size,[s.heap.objs.size,a],[s.heap.objs.size],ak.toArray.size,_,_,λi=>bs[i]?.getD true,rfl,Walks.list (A:=X.A.in1) (I.ok.hd hc) _ a (Wr a0) ak.toArray,⟨⟨_,Wi _ rfl,rfl,rfl⟩,hl.push _⟩,λi v s' Q' E' hP hQ=>?_,λh' tk hk=>?_⟩;.obtain⟨b,e,rfl⟩:=Dw r' i v (~~~hP);simp only[e,Option.getD_some]at hQ;exact QF hQ
 .have e:((W7 ak.toArray.size).all λi=>bs[i]?.getD true)=bs.all id:=by rw[Wx,<-hlen];exact Dx bs
  rw[e];exact⟨.bl _,H,I.kept λb o e=>hk b o (λhm=>by rw[List.mem_singleton.mp hm]at e;exact Jd _ (Wm e)) (W5 _ e),rfl,q⟩
def lr(x:Tx):List Tx->List Tx|[]=>[x]|y::r=>if y<x then y::lr x r else x::y::r
def fL:List Tx->List Tx|[]=>[]|x::r=>lr x (fL r)
theorem yi(x:Tx):∀l:List Tx,(lr x l).Perm (x::l)
 |[]=>.refl _|y::r=>by
  unfold lr;split;.exact((yi x r).cons y).trans (.swap x y r)
  .exact .refl _
theorem uW:∀l:List Tx,(fL l).Perm l|[]=>.refl _|x::r=>(yi x _).trans ((uW r).cons x)
abbrev iM(a b:Tx):Prop:=¬b<a
theorem Rq{a c}(h1:iM a b)(h2:iM b c):iM a c:=by grind
theorem Rr{a}(h1:iM a b)(h2:iM b a):a=b:=by grind
universe H in theorem Dy(x:Tx):∀l:List Tx,l.Pairwise iM->(lr x l).Pairwise iM
 |[],_=>#v[lr]|y::r,h=>by
  unfold lr;obtain⟨h1,h2⟩:=List.pairwise_cons.mp h;split;.rename_i a0;refine List.pairwise_cons.mpr ⟨λz hz=>?_,Dy x r h2⟩;grind[yi]
  grind[Ue]
theorem Dz:∀l:List Tx,(fL l).Pairwise iM|[]=>.nil|x::r=>Dy x _ (Dz r)
theorem DB(hp:l'.Perm l)(hs:l'.Pairwise iM):l'=fL l:=List.Perm.eq_of_pairwise (λj j j j h1 h2=>Rr h1 h2) hs (Dz l) (hp.trans (uW l).symm)
theorem yj:∀(x:Str)(r:List Str),risingS x r=true->((x::r).map λz:Str=>z.cps.toList).Pairwise iM
 |x,[],_=>by simp|x,y::r,h=>by
  have h':(!ltCps y.cps.toList x.cps.toList&&risingS y r)=true:=h;rw[Wu]at h';have ih:=yj y r h'.2;have oY:iM x.cps.toList y.cps.toList:=by grind[ltCps_eq]
  rw[We];refine List.pairwise_cons.mpr ⟨λz hz=>?_,ih⟩;rw[We]at hz ih;rcases Wv.mp hz with e|hz;.subst e;exact oY
  .exact Rq oY ((List.pairwise_cons.mp ih).1 z hz)
theorem Rt:eG X (.builtin "sorted") λxs H Q=>∃(a:Addr)(ts:List Tx),xs=[.ref a]/\cu X.K H a (ts.map λz=>V.str (toS z))/\ts.length<64/\∀p,H p=none->Q (.ref p) (upd H p (.lst ((fL ts).map λz=>V.str (toS z)))):=by
 intro pins s J H xs us Q I r h;obtain⟨a,ts,rfl,hq,hz,q⟩:=h;obtain⟨u,rfl,ru⟩:=ie r;cases ru;obtain⟨ak,r',p,_⟩:=I.list hq;have r2:Vals ((ts.map toS).map V.str) ak:=%[Wn|r'];have hlen:=r'.length;rw[WB]at hlen;refine sorted_strs p.isList (uU r2) Z' λout ss hS hp hs=>?_;have e:ss=(fL ts).map toS:=by
  have yk:(ss.map λz:Str=>z.cps.toList).Pairwise iM:=by cases ss with|nil=>simp|cons x r=>exact yj x r hs
  have qY:(ss.map λz:Str=>z.cps.toList).Perm ts:=by
   have:=hp.map λz:Str=>z.cps.toList;rw[Wn]at this;have e2:ts.map ((λz:Str=>z.cps.toList)∘toS)=ts:=by rw[show(λz:Str=>z.cps.toList)∘toS=_root_.id from funext λz=>qT z,List.map_id]
   rw[e2]at this;exact this
  rw[<-DB qY yk,Wn];have:(toS∘λz:Str=>z.cps.toList)=id:=funext λz=>(yc z).symm;simp_all
 obtain⟨ep,he⟩:=sortedAll_at s.heap ak out;have hv:Vals ((fL ts).map λz=>V.str (toS z)) out.toList:=by have:=qX hS;rw[e,Wn]at this;exact this
 have gJ:((fL ts).map λz=>V.str (toS z)).length<=Wd:=by rw[WB,(uW ts).length_eq];exact Wq (QV hz) (by rw[J5];decide)
 refine⟨.ref (s.heap.objs.size+1),_,I.laid (a:=s.heap.objs.size+1) (o:=.lst ((fL ts).map λz=>V.str (toS z))) (t':=s.toks) (λb u e=>sortedAll_old e) (Jz _) ?_,rfl,q _ (I.aD.fresh (Jz _))⟩;exact⟨gJ,out.toList,ep,hv,by simp_all⟩
noncomputable def p2(p:D->D->Option S)(x y:D)(Z:Dl):Rs S:=match p x y with|some s=>.ok s Z|none=>.stuck
def aB(p:D->D->Option S)(fa:DE)(fb:BE):DE:=λZ=>(fa Z).bind λx T'=>(fb T').bind λy S'=>p2 p x.d y S'
def aP(p:D->D->Option S)(i:Nat)(fb:BE):DE:=λZ=>(fb Z).bind λy T'=>(ah i T').bind λx S'=>p2 p x y S'
def cx(r:R2)(p:D->D->Option S):Prop:=∀(c:Fc)(J:St)(Z:Dl)(H:Hp)(x y:V)(d e:D)(s:S)(Q:VK),Ok c J Z H->cC c J Z H x d->cC c J Z H y e->p d e=some s->(∀v H',aY c J Z H J Z H'->bu c J Z H H' v s->Q v H')->r x y H Q
section
variable{a b:Expr}{r:R2}{p:D->D->Option S}
theorem yl{x e Q}(hp:cx r p)(k:Ok c J Z H)(rx:cC c J Z H x d)(ry:cC c J Z H y e)(h:post c (p2 p d e Z) λs SZ=>∀v H',aY c J Z H J SZ H'->bu c J SZ H H' v s->Q v H'):r x y H Q:=by unfold p2 at h;cases e1:p d e with|none=>rw[e1]at h;exact h.elim|some s=>rw[e1]at h;exact hp c J Z H x y d e s Q k rx ry e1 h
theorem uX{Q}(hp:cx r p)(h:tD c (aB p fa fb) J H Q):nV r (tD c fa) (UV c fb) J H Q:=by obtain⟨Z,k,q⟩:=h;refine⟨Z,k,?_⟩;unfold aB at q;rw[ba]at q;refine aO q λx T' q1 v H1 a1 r1=>⟨T',a1.ok,?_⟩;rw[ba]at q1;refine aO q1 λy S' q2 u H2 a2 r2=>?_;exact yl hp a2.ok (.inl (Rep.dQ r1.rep a2)) r2 (aO q2 λs SL q3 v' H3 a3 r3=>q3 v' H3 (a1.trans (a2.trans a3)) (bu.back r3 (a1.trans a2)))
theorem Rv{Q}(hp:cx r p)(h:tD c (aP p i fb) J H Q)(hv:∀Z,Ok c J Z H->post c (fb Z) (λj j=>True)->∃v,J[i]?=some (some v)):nV r (dH i) (UV c fb) J H Q:=by obtain⟨Z,k,q⟩:=h;unfold aP at q;rw[ba]at q;obtain⟨v,ev⟩:=hv Z k (aO q λj j j=>trivial);refine⟨v,ev,Z,k,aO q λy T' q1 u H1 a1 r1=>?_⟩;rw[ba]at q1;unfold ah at q1;cases e:T'[i]? with|none=>rw[e]at q1;exact q1.elim|some o=>cases o with|none=>rw[e]at q1;exact q1.elim|some w=>
 rw[e]at q1;have Rw:post c (p2 p w.d y T') λs SZ=>∀v H',aY c J Z H J SZ H'->bu c J SZ H H' v s->Q v H':=q1;have rb:cC c J T' H1 v w.d:=by cases w with|pure d=>obtain⟨v',e1,r⟩:=a1.ok.slot i d e;rw[ev]at e1;cases e1;exact .inl r|own d=>obtain⟨a,e1,r,_⟩:=a1.ok.own i d e;rw[ev]at e1;cases e1;exact .inr ⟨a,rfl,r⟩
 exact yl hp a1.ok rb r1 (aO Rw λs SL q3 v' H3 a3 r3=>q3 v' H3 (a1.trans a3) (bu.back r3 a1))
theorem qZ(k:Ok c J Z H){w:S}(e:Z[i]?=some (some w)):∃v,J[i]?=some (some v):=by cases w with|pure d=>obtain⟨v,e1,_⟩:=k.slot i d e;exact⟨v,e1⟩|own d=>obtain⟨a,e1,_⟩:=k.own i d e;exact⟨_,e1⟩
end
noncomputable def ag(p:D->D->Option S)(i:Nat)(fb:BE):DE:=λZ=>match Z[i]? with|some (some _)=>aP p i fb Z|_=>.stuck
section
variable{a b:Expr}{r:R2}{p:D->D->Option S}
theorem uY(hp:cx r p){Q:VK}(h:tD c (ag p i fb) J H Q):nV r (dH i) (UV c fb) J H Q:=by obtain⟨Z,k,q⟩:=h;unfold ag at q;cases e:Z[i]? with|none=>rw[e]at q;exact q.elim|some o=>cases o with|none=>rw[e]at q;exact q.elim|some w=>rw[e]at q;obtain⟨v,ev⟩:=qZ k e;exact Rv hp (i:=i) ⟨Z,k,q⟩ λj j j=>⟨v,ev⟩
theorem lu{op:Operator}(ho:bJ X (Qo op) r)(hp:cx r p)(ha:SE X c a fa)(hb:SB X c b fb):SE X c (.BinOp a op b pos) (aB p fa fb):=PE.weak (B0 ho ha hb) λj j j h=>uX hp h
theorem mM{op:Operator}(ho:bJ X (Qo op) r)(hp:cx r p)(ha:PE X a (dH i))(hb:SB X c b fb):SE X c (.BinOp a op b pos) (ag p i fb):=PE.weak (B0 ho ha hb) λj j j h=>uY hp h
theorem q_(ho:bJ X (WX op) r)(hp:cx r p)(ha:SE X c a fa)(hb:SB X c b fb)(hm:JW op b=false):SE X c (.Compare a [op] [b] pos) (aB p fa fb):=PE.weak (B_ ho ha hb hm) λj j j h=>uX hp h
theorem oZ(ho:bJ X (WX op) r)(hp:cx r p)(ha:PE X a (dH i))(hb:SB X c b fb)(hm:JW op b=false):SE X c (.Compare a [op] [b] pos) (ag p i fb):=PE.weak (B_ ho ha hb hm) λj j j h=>uY hp h
theorem Rx(hr:ig X r)(hp:cx r p)(ha:SE X c a fa)(hb:SB X c b fb)(hs:xI b):SE X c (.Subscript a b pos) (aB p fa fb):=PE.weak (Cu hr ha hb hs) λj j j h=>uX hp h
theorem ym(hr:ig X r)(hp:cx r p)(ha:PE X a (dH i))(hb:SB X c b fb)(hs:xI b):SE X c (.Subscript a b pos) (ag p i fb):=PE.weak (Cu hr ha hb hs) λj j j h=>uY hp h
end
abbrev DT:=Dl->Rs Bool
def tT(c:Fc)(f:DT):TT:=λJ H Q=>∃Z,Ok c J Z H/\post c (f Z) λb SZ=>∀H',aY c J Z H J SZ H'->Q b H'
abbrev ST(X:Cx)(c:Fc)(e:Expr)(f:DT):Prop:=PT X e (tT c f)
theorem PT.weak{t'}(h:PT X e t)(w:∀J H Q,t' J H Q->t J H Q):PT X e t':=λpins s J H Q I q=>h pins s J H Q I (w J H Q q)
def az(f:DE):DT:=λZ=>(f Z).bind λr SZ=>match r with|.pure (.bl b)=>.ok b SZ|_=>.stuck
section
variable{a b:Expr}{f:DE}{r:R2}{p:D->D->Option S}
universe H in theorem yn{Q}(h:tT c (az f) J H Q):tD c f J H λx H'=>∃k,x=.bl k/\Q k H':=by obtain⟨Z,k,q⟩:=h;refine⟨Z,k,?_⟩;unfold az at q;rw[ba]at q;refine aO q λr T' q1 v H1 a1 r1=>?_;cases r with|own d=>exact q1.elim|pure d=>
 cases d<;>first|exact q1.elim|skip
 rename_i b;cases r1;exact⟨b,rfl,q1 H1 a1⟩
theorem om(ho:bJ X (WX op) r)(hp:cx r p)(ha:SE X c a fa)(hb:SB X c b fb)(hm:JW op b=false):ST X c (.Compare a [op] [b] pos) (az (aB p fa fb)):=PT.weak (Ca ho ha hb hm) λJ H Q h=>uX hp (yn h)
theorem rg(ho:bJ X (WX op) r)(hp:cx r p)(ha:PE X a (dH i))(hb:SB X c b fb)(hm:JW op b=false):ST X c (.Compare a [op] [b] pos) (az (ag p i fb)):=PT.weak (Ca ho ha hb hm) λJ H Q h=>uY hp (yn h)
theorem Ry(h:SE X c e f)(he:∀whole,isTrue e X.env whole=(do let v<-whole;standAt e.pos;holding [v] (truthy v)):=by intro _;rfl):ST X c e (az f):=PT.weak (MT h he) λJ H Q h=>yn h
def lx(t u:DT):DT:=λZ=>(t Z).bind λb T'=>if b then u T' else .ok false T'
def fT(t u:DT):DT:=λZ=>(t Z).bind λb T'=>if b then .ok true T' else u T'
def fA(t:DT):DT:=λZ=>(t Z).bind λb T'=>.ok (!b) T'
abbrev SW(X:Cx)(c:Fc)(e:Expr)(f:DT):Prop:=PW X e (tT c f)
theorem PW.weak{t'}(h:PW X e t)(w:∀J H Q,t' J H Q->t J H Q):PW X e t':=λwh pins s J H Q I q=>h wh pins s J H Q I (w J H Q q)
variable{t u:DT}{rest:List Expr}
theorem Rz(ha:ST X c a t):SW X c (.BoolOp .And [a] pos) t:=MX ha
theorem RA(ha:ST X c a t):SW X c (.BoolOp .Or [a] pos) t:=MY ha
theorem RB(ha:ST X c a t)(hb:SW X c (.BoolOp .And (b::rest) pos) u):SW X c (.BoolOp .And (a::b::rest) pos) (lx t u):=PW.weak (MZ ha hb) λJ H Q⟨Z,k,q⟩=>by unfold lx at q;rw[ba]at q;refine⟨Z,k,aO q λx T' q1 H1 a1=>?_⟩;cases x with|true=>exact⟨T',a1.ok,aO q1 λy S' q2 H2 a2=>q2 H2 (a1.trans a2)⟩|false=>exact q1 H1 a1
theorem RC(ha:ST X c a t)(hb:SW X c (.BoolOp .Or (b::rest) pos) u):SW X c (.BoolOp .Or (a::b::rest) pos) (fT t u):=PW.weak (pw_or ha hb) λJ H Q⟨Z,k,q⟩=>by unfold fT at q;rw[ba]at q;refine⟨Z,k,aO q λx T' q1 H1 a1=>?_⟩;cases x with|false=>exact⟨T',a1.ok,aO q1 λy S' q2 H2 a2=>q2 H2 (a1.trans a2)⟩|true=>exact q1 H1 a1
theorem RE(h:SW X c a t):ST X c a t:=PW.pt h
theorem RF(ha:ST X c a t):ST X c (.UnaryOp .Not a pos) (fA t):=PT.weak (M0 ha) λJ H Q⟨Z,k,q⟩=>by unfold fA at q;rw[ba]at q;exact⟨Z,k,q⟩
def fM(f g:DE):DE:=λZ=>(f Z).bind λr T'=>match r with|.pure (.bl true)=>g T'|.pure (.bl false)=>.ok (.pure (.bl false)) T'|_=>.stuck
def oo(f g:DE):DE:=λZ=>(f Z).bind λr T'=>match r with|.pure (.bl false)=>g T'|.pure (.bl true)=>.ok (.pure (.bl true)) T'|_=>.stuck
def o_(f:DE):DE:=λZ=>(f Z).bind λr T'=>match r with|.pure (.bl b)=>.ok (.pure (.bl !b)) T'|_=>.stuck
def iO(t:DT)(f g:DE):DE:=λZ=>(t Z).bind λb T'=>if b then f T' else g T'
variable{g:DE}
theorem RG{op}(h:SE X c a f):SE X c (.BoolOp op [a] pos) f:=M5 h
universe H in theorem RH(ha:SE X c a f)(hb:SE X c (.BoolOp .And (b::rest) pos) g):SE X c (.BoolOp .And (a::b::rest) pos) (fM f g):=PE.weak (M6 ha hb) λJ H Q⟨Z,k,q⟩=>by unfold fM at q;rw[ba]at q;refine⟨Z,k,aO q λr T' q1 v H1 a1 r1=>?_⟩;cases r with|own d=>exact q1.elim|pure d=>
 cases d<;>first|exact q1.elim|skip
 rename_i b;cases r1;refine⟨b,rfl,?_⟩;cases b with|true=>exact⟨T',a1.ok,aO q1 λy S' q2 v H2 a2 r2=>q2 v H2 (a1.trans a2) (bu.back r2 a1)⟩|false=>exact q1 _ H1 a1 (.bl false)
universe H in theorem RI(ha:SE X c a f)(hb:SE X c (.BoolOp .Or (b::rest) pos) g):SE X c (.BoolOp .Or (a::b::rest) pos) (oo f g):=PE.weak (M7 ha hb) λJ H Q⟨Z,k,q⟩=>by unfold oo at q;rw[ba]at q;refine⟨Z,k,aO q λr T' q1 v H1 a1 r1=>?_⟩;cases r with|own d=>exact q1.elim|pure d=>
 cases d<;>first|exact q1.elim|skip
 rename_i b;cases r1;refine⟨b,rfl,?_⟩;cases b with|false=>exact⟨T',a1.ok,aO q1 λy S' q2 v H2 a2 r2=>q2 v H2 (a1.trans a2) (bu.back r2 a1)⟩|true=>exact q1 _ H1 a1 (.bl true)
universe H in theorem RJ(ha:SE X c a f):SE X c (.UnaryOp .Not a pos) (o_ f):=PE.weak (M8 ha) λJ H Q⟨Z,k,q⟩=>by unfold o_ at q;rw[ba]at q;refine⟨Z,k,aO q λr T' q1 v H1 a1 r1=>?_⟩;cases r with|own d=>exact q1.elim|pure d=>
 cases d<;>first|exact q1.elim|skip
 rename_i b;cases r1;exact⟨b,rfl,q1 _ H1 a1 (.bl _)⟩
theorem RK(ht:ST X c e t)(ha:SE X c a f)(hb:SE X c b g):SE X c (.IfExp e a b pos) (iO t f g):=PE.weak (M_ ht ha hb) λJ H Q⟨Z,k,q⟩=>by unfold iO at q;rw[ba]at q;refine⟨Z,k,aO q λx T' q1 H1 a1=>?_⟩;cases x with|true=>exact⟨T',a1.ok,aO q1 λy S' q2 v H2 a2 r2=>q2 v H2 (a1.trans a2) (bu.back r2 a1)⟩|false=>exact⟨T',a1.ok,aO q1 λy S' q2 v H2 a2 r2=>q2 v H2 (a1.trans a2) (bu.back r2 a1)⟩
end
section
variable{x:V}
theorem cC.int{i}(h:cC c J Z H x (.int i)):x=.int i:=by
 rcases h with h|⟨_,_,h⟩;.cases h;rfl
 .exact h.elim
theorem cC.bl(h:cC c J Z H x (.bl b)):x=.bl b:=by
 rcases h with h|⟨_,_,h⟩;.cases h;rfl
 .exact h.elim
theorem cC.str(h:cC c J Z H x (.str z)):x=.str (toS z):=by
 rcases h with h|⟨_,_,h⟩;.cases h;rfl
 .exact h.elim
theorem cC.tup{c J Z H x ds}(h:cC c J Z H x (.tup ds)):∃a vs,x=.ref a/\H a=some (.tup vs)/\aI H (Av c J Z) vs ds:=by
 rcases h with h|⟨_,_,h⟩;.cases h with|tup h1 h2 h3 h4=>exact⟨_,_,rfl,h2,h3,h4⟩
 .exact h.elim
theorem cC.lst{c J Z H x ds}(h:cC c J Z H x (.lst ds)):∃a vs,x=.ref a/\Rd H a (.lst vs)/\aI H (Av c J Z) vs ds:=by
 rcases h with h|⟨a,e,h⟩;.cases h with|lst h1 h2 h3 h4=>exact⟨_,_,rfl,h2,h3,h4⟩
 .obtain⟨vs,h1,h2⟩:=h;exact⟨a,vs,e,.inl h1,h2⟩
theorem cC.aA(h:cC c J Z H x (.aA ds)):∃a ws,x=.ref a/\H a=some (.dK ws)/\ws.map (·.1)=ds.map (λp=>cO p.1)/\∀(i:Nat)p q,ws[i]?=some p->ds[i]?=some q->Rep H (Av c J Z) p.2 q.2:=by
 rcases h with h|⟨a,e,h⟩;.cases h with|aA h1 h2 h3 h4=>exact⟨_,_,rfl,h2,h3,h4⟩
 .obtain⟨ws,h1,h2,h3⟩:=h;exact⟨a,ws,e,h1,h2,h3⟩
end
theorem DC(h:z.length<=Wd):(toS z).length<=Wd:=%[kj|h]
theorem RM(x y:Tx):toS x++toS y=toS (x++y):=by show Str.append (toS x) (toS y)=_;simp[toS,Str.append]
noncomputable def bD(d e:D):Option S:=match d with
 |.int i=>match e with|.int j=>0#(.int (i+j))|_=>none
 |.str x=>match e with|.str y=>if x.length+y.length<=Wd then 0#(.str (x++y)) else none|_=>none
 |.tup xs=>match e with|.tup ys=>if xs.length+ys.length<=Wd then 0#(.tup (xs++ys)) else none|_=>none
 |.lst xs=>match e with|.lst ys=>if xs.length+ys.length<=Wd then some (.own (.lst (xs++ys)))else none|_=>none
 |_=>none
def DH(K:Wa):R2:=λx y H Q=>jc (λi j=>V.int (i+j)) x y H Q\/(∃i j,x=.str i/\y=.str j/\i.length+j.length<=Wd/\Q (.str (i++j)) H)\/(∃a b ys,x=.ref a/\y=.ref b/\cN K H a []/\cN K H b ys/\Q (.ref b) H)\/Cs K x y H Q\/Dv K x y H Q
theorem DJ:bJ X (Qo .Add) (DH X.K):=NI.or (NY.or (Rm.or (Oo.or Rn)))
universe H in theorem DK:cx (DH K) bD:=by
 intro c J Z H x y d e s Q k rx ry hp q;cases d<;>cases e<;>first|(simp[bD]at hp;done)|skip
 .rename_i i j;simp only[bD,Wg]at hp;subst hp;exact .inl ⟨i,j,rx.int,ry.int,q _ H (.refl k) (.int _)⟩
 .rename_i u w;simp only[bD]at hp;split at hp;.rename_i hz;simp only[Wg]at hp;subst hp;refine .inr (.inl ⟨toS u,toS w,rx.str,ry.str,%[kj,kj|hz],?_⟩);rw[RM];exact q _ H (.refl k) (.str _)
  .cases hp
 .rename_i us ws;simp only[bD]at hp;split at hp
  .rename_i hz;simp only[Wg]at hp;subst hp;obtain⟨a,vs,ea,ha,ra⟩:=rx.tup;obtain⟨b,zs,eb,hb,rb⟩:=ry.tup
   cases vs with|nil=>
    have:us=[]:=by have:=ra.1;simpa using this.symm
    subst this;refine .inr (.inr (.inl ⟨a,b,zs,ea,eb,.of ha,.of hb,?_⟩));rw[eb]at ry;rcases ry with ry|⟨_,_,ry⟩;.exact q _ H (.refl k) ry
    .exact ry.elim|cons v0 vr=>
    refine .inr (.inr (.inr (.inl ⟨a,b,_,zs,ea,eb,.of ha,.of hb,V',%[ra.1,rb.1|hz],λe0=>?_,λ_ p hp=>?_⟩)))
    .subst e0;have:ws=[]:=by have:=rb.1;simpa using this.symm
     subst this;rw[ea]at rx;rcases rx with rx|⟨_,_,rx⟩;.rw[JH]at q;exact q _ H (.refl k) rx
     .exact rx.elim
    .exact q _ _ (.alloc k hp _) (bu.qW k (ra.append rb) hp)
  .cases hp
 .rename_i us ws;simp only[bD]at hp;split at hp;.rename_i hz;simp only[Wg]at hp;subst hp;obtain⟨a,vs,ea,ha,ra⟩:=rx.lst;obtain⟨b,zs,eb,hb,rb⟩:=ry.lst;exact .inr (.inr (.inr (.inr ⟨a,b,vs,zs,ea,eb,.inl ha,.inl hb,%[ra.1,rb.1|hz],λp hp=>q _ _ (.alloc k hp _) (bu.qV k (ra.append rb) hp)⟩)))
  .cases hp
noncomputable def dW(C:Int->Int->Bool)(g:Int->Int->D):D->D->Option S|.int i,.int j=>if C i j then 0#(g i j) else none|_,_=>none
universe H in theorem mN{C g'}(hC:∀i j,C' i j=true->C i j)(hg:∀i j H O,Rep H O (g i j) (g' i j)):cx (rI C g) (dW C' g'):=by
 intro c J Z H x y d e s Q k rx ry hp q;cases d<;>cases e<;>first|(simp[dW]at hp;done)|skip
 rename_i i j;simp only[dW]at hp;split at hp;.rename_i hc;simp only[Wg]at hp;subst hp;exact⟨i,j,rx.int,ry.int,hC i j hc,q _ H (.refl k) (hg i j H _)⟩
 .cases hp
universe H in theorem RN{g'}(hg:∀i j H O,Rep H O (g i j) (g' i j)):cx (jc g) (dW (λ_ _=>true) g'):=by
 intro c J Z H x y d e s Q k rx ry hp q;cases d<;>cases e<;>first|(simp[dW]at hp;done)|skip
 rename_i i j;simp only[dW,if_true,Wg]at hp;subst hp;exact⟨i,j,rx.int,ry.int,q _ H (.refl k) (hg i j H _)⟩
def jh:=dW (λk k=>true) λi j=>.int (i-j)
theorem RO:cx (jc λi j=>V.int (i-j)) jh:=RN λk k k k=>.int _
def kn(i j:Int):Bool:=decide (-2^64<i)&&decide (i<2^64)||decide (-2^64<j)&&decide (j<2^64)
def rh:=dW kn λi j=>.int (i*j)
theorem RP:cx (rI qD λi j=>V.int (i*j)) rh:=mN (λi j h=>by unfold kn at h;simp only[UC,Wu,decide_eq_true_eq]at h;exact h) λk k k k=>.int _
def mO(_ j:Int):Bool:=decide (0<j)&&decide (j<1073741824)
def gu:=dW mO λi j=>.int (i/j)
theorem DL:cx (rI B5 λi j=>V.int (i/j)) gu:=mN (λi j h=>by unfold mO at h;simp only[Wu,decide_eq_true_eq]at h;exact h) λk k k k=>.int _
def cR:=dW (λk j=>decide (0<j)) λi j=>.int (i%j)
theorem DM:cx (rI (λk j=>0<j) λi j=>V.int (i%j)) cR:=mN (λi j h=>~~~h) λk k k k=>.int _
def yo(i j:Int):Bool:=decide (0<=j)&&decide (j<=1000000)&&decide (i.natAbs<2^64)
def uZ:=dW yo λi j=>.int (i^j.toNat)
theorem RQ:cx (rI B6 λi j=>V.int (i^j.toNat)) uZ:=mN (λi j h=>by unfold yo at h;simp only[Wu,decide_eq_true_eq]at h;exact⟨h.1.1,h.1.2,h.2⟩) λk k k k=>.int _
noncomputable def bj(d e:D):Option S:=if flat 50 d&&flat 50 e then 0#(.bl (bc d e)) else none
noncomputable def cK(d e:D):Option S:=if flat 50 d&&flat 50 e then 0#(.bl !bc d e) else none
universe H in theorem u0:cx Ds bj:=by
 intro c J Z H x y d e s Q k rx ry hp q;unfold bj at hp;split at hp;.rename_i hf;rw[Wu]at hf;simp only[Wg]at hp;subst hp;exact⟨d,e,rx.un,ry.un,hf.1,hf.2,q _ H (.refl k) (.bl _)⟩
 .cases hp
universe H in theorem u3:cx Dt cK:=by
 intro c J Z H x y d e s Q k rx ry hp q;unfold cK at hp;split at hp;.rename_i hf;rw[Wu]at hf;simp only[Wg]at hp;subst hp;exact⟨d,e,rx.un,ry.un,hf.1,hf.2,q _ H (.refl k) (.bl _)⟩
 .cases hp
noncomputable def iP(f:Int->Int->Bool)(g:Tx->Tx->Bool):D->D->Option S|.int i,.int j=>0#(.bl (f i j))|.str x,.str y=>0#(.bl (g x y))|_,_=>none
def pe(f:Int->Int->Bool)(g:List Nat->List Nat->Bool):R2:=λx y H Q=>jc (λi j=>V.bl (f i j)) x y H Q\/∃i j,x=.str i/\y=.str j/\Q (.bl (g i.cps.toList j.cps.toList)) H
universe H in theorem ko{f}:cx (pe f g) (iP f g):=by
 intro c J Z H x y d e s Q k rx ry hp q;cases d<;>cases e<;>first|(simp[iP]at hp;done)|skip
 .rename_i i j;simp only[iP,Wg]at hp;subst hp;exact .inl ⟨i,j,rx.int,ry.int,q _ H (.refl k) (.bl _)⟩
 .rename_i i j;simp only[iP,Wg]at hp;subst hp;refine .inr ⟨toS i,toS j,rx.str,ry.str,?_⟩;rw[qT,qT];exact q _ H (.refl k) (.bl _)
theorem yp{g:List Nat->List Nat->Bool}(rule:∀(i j:Str)(t u:Tok)(Q:Value->W6->Prop)(s:W6),Q (.bool (g i.cps.toList j.cps.toList)) s->Wb 5#0 X.A (WX op (.str i t) (.str j u)) Q X.xe s):bJ X (WX op) λx y H Q=>∃i j,x=.str i/\y=.str j/\Q (.bl (g i.cps.toList j.cps.toList)) H:=by intro pins s J H x y v u Q I rx ry h;obtain⟨i,j,rfl,rfl,q⟩:=h;obtain⟨t,rfl⟩:=rx;obtain⟨t',rfl⟩:=ry;exact rule i j t t' _ s ⟨.bl _,H,I,rfl,q⟩
def ji:=iP (λi j=>decide (i<j)) λx y=>decide (x<y)
theorem DO:bJ X (WX .Lt) (pe (λi j=>decide (i<j)) λx y=>decide (x<y)):=NP.or NU
theorem DP:cx (pe (λi j=>decide (i<j)) λx y=>decide (x<y)) ji:=ko
noncomputable def ax(d e:D):Option S:=match d with
 |.lst ds=>match e with|.int i=>(dO ds i).map .pure|_=>none
 |.tup ds=>match e with|.int i=>(dO ds i).map .pure|_=>none
 |.str x=>match e with|.int i=>if x.length<=Wd then(dO x i).map λn=>.pure (.str [n])else none|_=>none
 |_=>none
theorem DQ{i}(r:aI H O vs ds)(h:dO ds i=some d):∃v,dO vs i=some v/\Rep H O v d:=by unfold dO at h⊢;rw[r.1];cases e:fJ ds.length i with|none=>rw[e]at h;cases h|some j=>rw[e]at h;exact r.get h
universe H in theorem yq:cx (uz K) ax:=by
 intro c J Z H x y d e s Q k rx ry hp q;cases d<;>cases e<;>first|(simp[ax]at hp;done)|skip
 .rename_i z i;simp only[ax]at hp;split at hp;.rename_i hz;cases e1:dO z i with|none=>rw[e1]at hp;cases hp|some n=>rw[e1]at hp;simp only[WM,Wg]at hp;subst hp;refine .inr (.inr ⟨toS z,i,n,rx.str,ry.int,DC hz,%[qT|e1],?_⟩);exact q (.str (toS [n])) H (.refl k) (.str [n])
  .cases hp
 .rename_i ds i;simp only[ax]at hp;cases e1:dO ds i with|none=>rw[e1]at hp;cases hp|some n=>rw[e1]at hp;simp only[WM,Wg]at hp;subst hp;obtain⟨a,vs,ea,ha,ra⟩:=rx.tup;obtain⟨v,e2,r2⟩:=DQ ra e1;exact .inr (.inl ⟨a,vs,i,v,ea,ry.int,.of ha,e2,q v H (.refl k) r2⟩)
 .rename_i ds i;simp only[ax]at hp;cases e1:dO ds i with|none=>rw[e1]at hp;cases hp|some n=>rw[e1]at hp;simp only[WM,Wg]at hp;subst hp;obtain⟨a,vs,ea,ha,ra⟩:=rx.lst;obtain⟨v,e2,r2⟩:=DQ ra e1;exact .inl ⟨a,vs,i,v,ea,ry.int,.inl ha,e2,q v H (.refl k) r2⟩
def kq:=iP (λi j=>decide (i<=j)) λx y=>!decide (y<x)
def eQ:=iP (λi j=>decide (j<i)) λx y=>decide (y<x)
def yr:=iP (λi j=>decide (j<=i)) λx y=>!decide (x<y)
theorem u4:bJ X (WX .LtE) (pe (λi j=>decide (i<=j)) λx y=>!decide (y<x)):=NQ.or (yp (g:=λx y=>!decide (y<x)) λk k k k k k h=>PySem.P.le_str h)
theorem u5:bJ X (WX .Gt) (pe (λi j=>decide (j<i)) λx y=>decide (y<x)):=NR.or (yp (g:=λx y=>decide (y<x)) λk k k k k k h=>PySem.P.gt_str h)
theorem RT:bJ X (WX .GtE) (pe (λi j=>decide (j<=i)) λx y=>!decide (x<y)):=NT.or (yp (g:=λx y=>!decide (x<y)) λk k k k k k h=>PySem.P.ge_str h)
abbrev DA:=Dl->Rs (List D)
def RU(c:Fc)(f:DA):TA:=λJ H Q=>∃Z,Ok c J Z H/\post c (f Z) λds SZ=>∀vs H',aY c J Z H J SZ H'->aI H' (Av c J SZ) vs ds->Q vs H'
structure SA(X:Cx)(c:Fc)(es:List Expr)(f:DA):Prop where pa:PA X es (RU c f)len:∀Z ds SZ,f Z=.ok ds SZ->ds.length=es.length
theorem PA.weak{t'}(h:PA X es t)(w:∀J H Q,t' J H Q->t J H Q):PA X es t':=λpos pins s J H Q I q=>h pos pins s J H Q I (w J H Q q)
def bS:DA:=λZ=>.ok [] Z
def aQ(f:DE)(g:DA):DA:=λZ=>(f Z).bind λx T'=>(g T').bind λxs S'=>.ok (x.d::xs) S'
section
variable{f:DE}{g:DA}
theorem DU:SA X c [] bS:=⟨PA.weak gH λJ H Q⟨Z,k,q⟩=>q [] H (.refl k) .nil,λZ ds SZ h=>by cases h;rfl⟩
theorem DW(ha:SE X c e f)(hr:SA X c es g)(hs:Wl (e::es) X.env=(false,eval e X.env)::Wl es X.env:=by rfl):SA X c (e::es) (aQ f g):=by
 refine⟨PA.weak (fu ha hr.pa hs) λJ H Q⟨Z,k,q⟩=>?_,λZ ds SZ h=>?_⟩;.unfold aQ at q;rw[ba]at q;refine⟨Z,k,aO q λx T' q1 v H1 a1 r1=>⟨T',a1.ok,?_⟩⟩;rw[ba]at q1;exact aO q1 λxs S' q2 vs H2 a2 r2=>q2 (v::vs) H2 (a1.trans a2) (.cons (Rep.dQ r1.rep a2) r2)
 .unfold aQ at h;cases h1:f Z with
 |ok x T'=>rw[h1]at h;cases h2:g T' with|ok xs S'=>simp only[Rs.bind,h2]at h;cases h;simp[hr.len _ _ _ h2]|exc x GM=>simp only[Rs.bind,h2]at h;cases h|stuck=>simp only[Rs.bind,h2]at h;cases h
 |exc x GM=>rw[h1]at h;cases h|stuck=>rw[h1]at h;cases h
def cF(f:DA):DE:=λZ=>(f Z).bind λds SZ=>.ok (.pure (.tup ds)) SZ
def il(f:DA):DE:=λZ=>(f Z).bind λds SZ=>.ok (.own (.lst ds)) SZ
theorem DX(h:n<=1000):n<=Wd:=QV (Pj h)
theorem DY(h:post c r k):post c r λa Z=>r=.ok a Z/\k a Z:=by cases r with|ok a Z=>exact⟨rfl,h⟩|exc x GM=>exact h|stuck=>exact h
theorem DZ{x1}(h:SA X c es g)(hz:es.length<=1000:=by decide):SE X c (.Tuple es x1 pos) (cF g):=PE.weak (N7 h.pa) λJ H Q⟨Z,k,q⟩=>by unfold cF at q;rw[ba]at q;refine⟨Z,k,aO (DY q) λds T'⟨e1,q1⟩vs H1 a1 r1=>?_⟩;have hl:=h.len _ _ _ e1;exact⟨%[r1.1,hl|DX hz],λp hp=>q1 _ _ (a1.trans (.alloc a1.ok hp _)) (bu.back (bu.qW a1.ok r1 hp) a1)⟩
theorem D3(h:SA X c es g)(hz:es.length<=1000:=by decide):SE X c (.List es pos) (il g):=PE.weak (N8 h.pa) λJ H Q⟨Z,k,q⟩=>by unfold il at q;rw[ba]at q;refine⟨Z,k,aO (DY q) λds T'⟨e1,q1⟩vs H1 a1 r1=>?_⟩;have hl:=h.len _ _ _ e1;exact⟨%[r1.1,hl|DX hz],λp hp=>q1 _ _ (a1.trans (.alloc a1.ok hp _)) (bu.back (bu.qV a1.ok r1 hp) a1)⟩
end
noncomputable def p1(p:D->Option S)(x:D)(Z:Dl):Rs S:=match p x with|some s=>.ok s Z|none=>.stuck
def aE(p:D->Option S)(fb:BE):DE:=λZ=>(fb Z).bind λx T'=>p1 p x T'
def mP(r:V->Hp->VK->Prop)(p:D->Option S):Prop:=∀(c:Fc)(J:St)(Z:Dl)(H:Hp)(x:V)(d:D)(s:S)(Q:VK),Ok c J Z H->cC c J Z H x d->p d=some s->(∀v H',aY c J Z H J Z H'->bu c J Z H H' v s->Q v H')->r x H Q
section
variable{r:V->Hp->VK->Prop}{p:D->Option S}{id T:String}
theorem D4{Q}(hp:mP r p)(k:Ok c J Z H)(rx:cC c J Z H v d)(h:post c (p1 p d Z) λs SZ=>∀v H',aY c J Z H J SZ H'->bu c J SZ H H' v s->Q v H'):r v H Q:=by unfold p1 at h;cases e1:p d with|none=>rw[e1]at h;exact h.elim|some s=>rw[e1]at h;exact hp c J Z H v d s Q k rx e1 h
theorem rj{Q}(hp:mP r p)(h:tD c (aE p fb) J H Q):xA r (UV c fb) J H Q:=by obtain⟨Z,k,q⟩:=h;unfold aE at q;rw[ba]at q;exact⟨Z,k,aO q λy T' q1 v H1 a1 r1=>D4 hp a1.ok r1 (aO q1 λs S' q2 w H2 a2 r2=>q2 w H2 (a1.trans a2) (bu.back r2 a1))⟩
theorem rm(hc:eG X (.builtin id) rl)(hl:∀v H Q,r v H Q->rl [v] H Q)(hp:mP r p)(hg:Gl X x)(hm:X.mg x=none)(hv:QU x=some (.builtin id))(he:SB X c e fb)(hn:x≠"__name__":=by decide)(jL:(x==("__debug__":Str))=false:=by decide)(hs:Wl [e] X.env=(false,eval e X.env)::Wl [] X.env:=by rfl)(dq:(QH pos (Wl [] X.env)).any (·.1)=false:=by rfl):SE X c (.Call (.Name x pp) [e] [] pos) (aE p fb):=PE.weak (uw hc hg hm hv (fu he gH hs) hn jL hs dq) λJ H Q h=>by obtain⟨Z,k,q⟩:=rj hp h;exact⟨Z,k,aO q λy T' q1 v H1 a1 r1=>hl _ _ _ (q1 v H1 a1 r1)⟩
theorem yt(hc:eG X (.type T) rl)(hl:∀v H Q,r v H Q->rl [v] H Q)(hp:mP r p)(hg:Gl X x)(hm:X.mg x=none)(hv:QU x=some (.type T))(he:SB X c e fb)(hn:x≠"__name__":=by decide)(jL:(x==("__debug__":Str))=false:=by decide)(hs:Wl [e] X.env=(false,eval e X.env)::Wl [] X.env:=by rfl)(dq:(QH pos (Wl [] X.env)).any (·.1)=false:=by rfl):SE X c (.Call (.Name x pp) [e] [] pos) (aE p fb):=PE.weak (Cq hc hg hm hv (fu he gH hs) hn jL hs dq) λJ H Q h=>by obtain⟨Z,k,q⟩:=rj hp h;exact⟨Z,k,aO q λy T' q1 v H1 a1 r1=>hl _ _ _ (q1 v H1 a1 r1)⟩
noncomputable def bA:D->Option S|.lst ds=>0#(.int ds.length)|.tup ds=>0#(.int ds.length)|.str z=>if z.length<=Wd then 0#(.int z.length) else none|.aA ds=>0#(.int ds.length)|_=>none
def RV(K:Wa):V->Hp->VK->Prop:=λv H Q=>((∃p ys,v=.ref p/\(cu K H p ys\/cN K H p ys)/\Q (.int ys.length) H)\/∃z,v=.str z/\z.length<=Wd/\Q (.int z.length) H)\/∃a kvs,v=V.ref a/\H a=some (.dK kvs)/\Q (.int kvs.length) H
universe H in theorem RX:mP (RV K) bA:=by intro c J Z H x d s Q k rx hp q;cases d with
 |lst ds=>simp only[bA,Wg]at hp;subst hp;obtain⟨a,vs,ea,ha,ra⟩:=rx.lst;exact .inl (.inl ⟨a,vs,ea,.inl (.inl ha),%[ra.1|q _ H (.refl k) (.int _)]⟩)|tup ds=>simp only[bA,Wg]at hp;subst hp;obtain⟨a,vs,ea,ha,ra⟩:=rx.tup;exact .inl (.inl ⟨a,vs,ea,.inr (.of ha),%[ra.1|q _ H (.refl k) (.int _)]⟩)|str z=>
 simp only[bA]at hp;split at hp;.rename_i hz;simp only[Wg]at hp;subst hp;exact .inl (.inr ⟨toS z,rx.str,DC hz,%[kj|q _ H (.refl k) (.int _)]⟩)
 .cases hp|aA ds=>
 simp only[bA,Wg]at hp;subst hp;obtain⟨a,ws,ea,ha,h1,h2⟩:=rx.aA;have hl:ws.length=ds.length:=by have:=congrArg J7 h1;simpa using this
 exact .inr ⟨a,ws,ea,ha,%[hl|q _ H (.refl k) (.int _)]⟩|_=>simp[bA]at hp
theorem RY(hg:Gl X "len")(hm:X.mg "len"=none)(he:SB X c e fb)(hs:Wl [e] X.env=(false,eval e X.env)::Wl [] X.env:=by rfl):SE X c (.Call (.Name "len" pp) [e] [] pos) (aE bA fb):=rm ((OE.or OF).or Pk) (λv H Q h=>by
 rcases h with(⟨p,ys,e,h⟩|⟨z,e,h⟩)|⟨a,kvs,e,h⟩;.exact .inl (.inl ⟨p,ys,by rw[e],h⟩)
 .exact .inl (.inr ⟨z,by rw[e],h⟩)
 .exact .inr ⟨a,kvs,by rw[e],h⟩) (RX (K:=X.K)) hg hm PySem.boot_len he U' U' hs
noncomputable def bU:D->Option S|.lst ds=>0#(.tup ds)|.tup ds=>0#(.tup ds)|_=>none
def RZ(K:Wa):V->Hp->VK->Prop:=λv H Q=>∃p ys,v=.ref p/\((cu K H p ys/\∀l,H l=none->Q (.ref l) (upd H l (.tup ys)))\/cN K H p ys/\Q (.ref p) H)
theorem R0:mP (RZ K) bU:=by
 intro c J Z H x d s Q k rx hp q
 cases d with|lst ds=>simp only[bU,Wg]at hp;subst hp;obtain⟨a,vs,ea,ha,ra⟩:=rx.lst;exact⟨a,vs,ea,.inl ⟨.inl ha,λl hl=>q _ _ (.alloc k hl _) (bu.qW k ra hl)⟩⟩|tup ds=>
 simp only[bU,Wg]at hp;subst hp;obtain⟨a,vs,ea,ha,ra⟩:=rx.tup;refine⟨a,vs,ea,.inr ⟨.of ha,?_⟩⟩;rw[ea]at rx;rcases rx with rx|⟨_,_,rx⟩;.exact q _ H (.refl k) rx
 .exact rx.elim|_=>simp[bU]at hp
theorem R1(hg:Gl X "tuple")(hm:X.mg "tuple"=none)(he:SB X c e fb)(hs:Wl [e] X.env=(false,eval e X.env)::Wl [] X.env:=by rfl):SE X c (.Call (.Name "tuple" pp) [e] [] pos) (aE bU fb):=yt OG (λv H Q⟨p,ys,e,h⟩=>⟨p,ys,by rw[e],h⟩) (R0 (K:=X.K)) hg hm PyProof.Rows.boot_tuple he U' U' hs
noncomputable def pf:D->Option S|.int i=>0#(.int i)|.bl b=>0#(.int (if b then 1 else 0))|_=>none
theorem R3(hg:Gl X "int")(hm:X.mg "int"=none)(he:SB X c e fb)(hs:Wl [e] X.env=(false,eval e X.env)::Wl [] X.env:=by rfl):SE X c (.Call (.Name "int" pp) [e] [] pos) (aE pf fb):=yt (r:=λv H Q=>(∃i,v=.int i/\Q (.int i) H)\/∃k,v=.bl k/\Q (.int (if k then 1 else 0)) H) N1 (λv H Q h=>by
 rcases h with⟨i,e,q⟩|⟨k,e,q⟩;.exact .inl ⟨i,by rw[e],q⟩
 .exact .inr ⟨k,by rw[e],q⟩) (λc J Z H x d s Q k rx hp q=>by cases d with|int i=>simp only[pf,Wg]at hp;subst hp;exact .inl ⟨i,rx.int,q _ H (.refl k) (.int _)⟩|bl b=>simp only[pf,Wg]at hp;subst hp;exact .inr ⟨b,rx.bl,q _ H (.refl k) (.int _)⟩|_=>simp[pf]at hp) hg hm PyProof.Rows.boot_int he U' U' hs
noncomputable def ku:List D->Option (List Bool)|[]=>some []|.bl b::r=>(ku r).map (b::.)|_::_=>none
noncomputable def fU:List D->Option (List Tx)|[]=>some []|.str x::r=>(fU r).map (x::.)|_::_=>none
theorem D5:∀{ds:List D}{vs:List V}{bs:List Bool},ku ds=some bs->aI H O vs ds->vs=bs.map V.bl|[],vs,bs,h,r=>by simp only[ku,Wg]at h;subst h;have:=r.1;simpa using this|d::ds,[],bs,h,r=>by have:=r.1;simp at this|d::ds,v::vs,bs,h,r=>by cases d with
 |bl b=>simp only[ku]at h;cases e:ku ds with|none=>rw[e]at h;cases h|some mQ=>rw[e]at h;simp only[WM,Wg]at h;subst h;have:=r.head;cases this;rw[D5 e r.tail];rfl
 |_=>simp[ku]at h
theorem pj:∀{ds:List D}{vs:List V}{bs:List Tx},fU ds=some bs->aI H O vs ds->vs=bs.map λz=>V.str (toS z)|[],vs,bs,h,r=>by simp only[fU,Wg]at h;subst h;have:=r.1;simpa using this|d::ds,[],bs,h,r=>by have:=r.1;simp at this|d::ds,v::vs,bs,h,r=>by cases d with
 |str b=>simp only[fU]at h;cases e:fU ds with|none=>rw[e]at h;cases h|some mQ=>rw[e]at h;simp only[WM,Wg]at h;subst h;have:=r.head;cases this;rw[pj e r.tail];rfl
 |_=>simp[fU]at h
theorem yu:∀ts:List Tx,aI H O (ts.map λz=>V.str (toS z)) (ts.map D.str)|[]=>.nil|t::ts=>.cons (.str t) (yu ts)
noncomputable def jj:D->Option S|.lst ds=>(ku ds).map λbs=>.pure (.bl (bs.all λb=>b))|_=>none
noncomputable def pq:D->Option S
 |.lst ds=>match fU ds with|some ts=>if ts.length<64 then some (.own (.lst ((fL ts).map D.str)))else none|none=>none
 |_=>none
theorem R4:QU "all"=some (.builtin "all"):=by decide+kernel
theorem R5(hc:X.calm=true)(hg:Gl X "all")(hm:X.mg "all"=none)(he:SB X c e fb)(hs:Wl [e] X.env=(false,eval e X.env)::Wl [] X.env:=by rfl):SE X c (.Call (.Name "all" pp) [e] [] pos) (aE jj fb):=rm (r:=λv H Q=>∃(a:Addr)(bs:List Bool),v=.ref a/\cu X.K H a (bs.map V.bl)/\Q (.bl (bs.all λb=>b)) H) (Rp hc) (λv H Q⟨a,bs,e,h⟩=>⟨a,bs,by rw[e],h⟩) (λc J Z H x d s Q k rx hp q=>by cases d with
 |lst ds=>simp only[jj]at hp;cases e:ku ds with|none=>rw[e]at hp;cases hp|some bs=>rw[e]at hp;simp only[WM,Wg]at hp;subst hp;obtain⟨a,vs,ea,ha,ra⟩:=rx.lst;have:=D5 e ra;subst this;exact⟨a,bs,ea,.inl ha,q _ H (.refl k) (.bl _)⟩
 |_=>simp[jj]at hp) hg hm R4 he U' U' hs
universe H in theorem R6(hg:Gl X "sorted")(hm:X.mg "sorted"=none)(he:SB X c e fb)(hs:Wl [e] X.env=(false,eval e X.env)::Wl [] X.env:=by rfl):SE X c (.Call (.Name "sorted" pp) [e] [] pos) (aE pq fb):=rm (r:=λv H Q=>∃(a:Addr)(ts:List Tx),v=.ref a/\cu X.K H a (ts.map λz=>V.str (toS z))/\ts.length<64/\∀p,H p=none->Q (.ref p) (upd H p (.lst ((fL ts).map λz=>V.str (toS z))))) Rt (λv H Q⟨a,bs,e,h⟩=>⟨a,bs,by rw[e],h⟩) (λc J Z H x d s Q k rx hp q=>by cases d with
 |lst ds=>simp only[pq]at hp;cases e:fU ds with|none=>rw[e]at hp;cases hp|some ts=>
 rw[e]at hp;simp only at hp;split at hp;.rename_i hz;simp only[Wg]at hp;subst hp;obtain⟨a,vs,ea,ha,ra⟩:=rx.lst;have:=pj e ra;subst this;exact⟨a,ts,ea,.inl ha,hz,λp hp=>q _ _ (.alloc k hp _) (bu.qV k (yu _) hp)⟩
 .cases hp|_=>simp[pq]at hp) hg hm PyProof.Rows.boot_sorted he U' U' hs
noncomputable def yv:D->D->Option S|.int i,.int j=>0#(.int (if j>i then j else i))|_,_=>none
def u6(f g:DE):DE:=λZ=>(f Z).bind λx T'=>(g T').bind λy S'=>p2 yv x.d y.d S'
universe H in theorem R7{a b:Expr}{f g:DE}(hc:X.calm=true)(hg:Gl X "max")(hm:X.mg "max"=none)(ha:SE X c a f)(hb:SE X c b g)(hs:Wl [a,b] X.env=(false,eval a X.env)::Wl [b] X.env:=by rfl)(yw:Wl [b] X.env=(false,eval b X.env)::Wl [] X.env:=by rfl)(dq:(QH pos (Wl [b] X.env)).any (·.1)=false:=by rfl):SE X c (.Call (.Name "max" pp) [a,b] [] pos) (u6 f g):=PE.weak (uw (N0 hc) hg hm PyProof.Rows.boot_max (fu ha (fu hb gH yw) hs) U' U' hs dq) λJ H Q⟨Z,k,q⟩=>by
 unfold u6 at q;rw[ba]at q;refine⟨Z,k,aO q λx T' q1 v H1 a1 r1=>⟨T',a1.ok,?_⟩⟩;rw[ba]at q1;refine aO q1 λy S' q2 u H2 a2 r2=>?_;unfold p2 at q2;have hx:cC c J S' H2 v x.d:=.inl (Rep.dQ r1.rep a2);have hy:=r2.b;generalize x.d=dx at q2 hx;generalize y.d=dy at q2 hy;cases dx<;>cases dy<;>first|exact q2.elim|skip
 rename_i i j;exact⟨i,j,by rw[hx.int,hy.int],q2 _ H2 (a1.trans a2) (.int _)⟩
noncomputable def fN(T:String):D->Option Bool|.aX=>some (T=="NoneType")|.bl _=>some (T=="bool"||T=="int")|.int _=>some (T=="int")|.str _=>some (T=="str")|.tup _=>some (T=="tuple")|.lst _=>some (T=="list")|.aA _=>some (T=="dict")|.exc _ _=>none|.xd _=>none|.fn _=>none|.dic _=>none
structure jN(K:Wa)(T:String):Prop where aX:Ji K (.type "NoneType") (.type T)=some (T=="NoneType")bl:Ji K (.type "bool") (.type T)=some (T=="bool"||T=="int")int:Ji K (.type "int") (.type T)=some (T=="int")str:Ji K (.type "str") (.type T)=some (T=="str")tup:Ji K (.type "tuple") (.type T)=some (T=="tuple")lst:Ji K (.type "list") (.type T)=some (T=="list")aA:Ji K (.type "dict") (.type T)=some (T=="dict")
def fV(T:String)(fb:BE):DE:=λZ=>(fb Z).bind λd SZ=>match fN T d with|some b=>.ok (.pure (.bl b)) SZ|none=>.stuck
theorem R8{Q}(ty:jN X.K T)(I:Inv X pins J H s)(ru:RelV v u)(r:Rep H dI v d)(e:fN T d=some b)(q:Q (.bl b) H):Wb 5#0 X.A (call (.builtin "isinstance") [u,.type T]) (EP X pins J Q) X.xe s:=by
 have fin:∀tk,EP X pins J Q (.bool b) {s with toks:=tk}:=λtk=>⟨.bl b,H,I.tok tk,rfl,q⟩
 cases r with|aX=>exact mq I ru .aX (ty.aX.trans e) fin|bl x=>exact mq I ru (.bl x) (ty.bl.trans e) fin|int x=>exact mq I ru (.int x) (ty.int.trans e) fin|str x=>exact mq I ru (.str _) (ty.str.trans e) fin|tup _ h2 _ _=>exact mq I ru (.tup h2) (ty.tup.trans e) fin|lst _ h2 _ _=>
 rcases h2 with h2|⟨o,h2⟩;.exact mq I ru (.lst h2) (ty.lst.trans e) fin
 .exact mq I ru (.frz h2) (ty.lst.trans e) fin|aA _ h2 _ _=>exact mq I ru (.dK h2) (ty.aA.trans e) fin|exc _ _=>cases e|xd _ _=>cases e|fn _=>cases e|dic _=>cases e
theorem R9(ty:jN X.K T):eG X (.builtin "isinstance") λxs H Q=>∃v d b,xs=[v,.ty T]/\Rep H dI v d/\fN T d=some b/\Q (.bl b) H:=by intro pins s J H xs us Q I r h;obtain⟨v,d,b,rfl,rp,e,q⟩:=h;obtain⟨u,w',rfl,r1,r2⟩:=Cb r;cases r2;exact R8 ty I r1 rp e q
theorem R_{y:Str}{py:Pos}(ty:jN X.K T)(hg:Gl X "isinstance")(hm:X.mg "isinstance"=none)(Sa:Gl X y)(Sb:X.mg y=none)(Sd:QU y=some (.type T))(he:SB X c e fb)(Se:y≠"__name__":=by decide)(Sf:(y==("__debug__":Str))=false:=by decide)(hs:Wl [e,.Name y py] X.env=(false,eval e X.env)::Wl [.Name y py] X.env:=by rfl)(dq:(QH pos (Wl [.Name y py] X.env)).any (·.1)=false:=by rfl):SE X c (.Call (.Name "isinstance" pp) [e,.Name y py] [] pos) (fV T fb):=PE.weak (uw (R9 ty) hg hm PyProof.Rows.boot_isinstance (fu he (fu (MS (v:=.ty T) Sa Sb Sd rfl Se Sf) gH) hs) U' U' hs dq) λJ H Q⟨Z,k,q⟩=>by unfold fV at q;rw[ba]at q;refine⟨Z,k,aO q λd T' q1 v H1 a1 r1=>?_⟩;cases e1:fN T d with|none=>rw[e1]at q1;exact q1.elim|some b=>rw[e1]at q1;exact⟨v,d,b,rfl,r1.un,e1,q1 _ H1 a1 (.bl _)⟩
end
abbrev ly:=Dl->Rs (Option Int)
variable{fh:ly}
def Sg(c:Fc)(f:ly):TO:=λJ H Q=>∃Z,Ok c J Z H/\post c (f Z) λo SZ=>∀H',aY c J Z H J SZ H'->Q o H'
abbrev SO(X:Cx)(c:Fc)(e:Option Expr)(f:ly):Prop:=PO X e (Sg c f)
theorem PO.weak{e t'}(h:PO X e t)(w:∀J H Q,t' J H Q->t J H Q):PO X e t':=λpins s J H Q I q=>h pins s J H Q I (w J H Q q)
def rA:ly:=λZ=>.ok none Z
def jO(f:DE):ly:=λZ=>(f Z).bind λr SZ=>match r with|.pure (.int i)=>.ok (some i) SZ|_=>.stuck
section
variable{f:DE}{fl:ly}{p2:Pos}
theorem Sh:SO X c none rA:=PO.weak Oh λJ H Q⟨Z,k,q⟩=>q H (.refl k)
universe H in theorem Si(h:SE X c e f):SO X c (some e) (jO f):=PO.weak (Oi h) λJ H Q⟨Z,k,q⟩=>by unfold jO at q;rw[ba]at q;refine⟨Z,k,aO q λr T' q1 v H1 a1 r1=>?_⟩;cases r with|own d=>exact q1.elim|pure d=>
 cases d<;>first|exact q1.elim|skip
 rename_i i;cases r1;exact⟨i,rfl,q1 H1 a1⟩
noncomputable def D6(lo hi:Option Int):D->Option S|.str x=>if x.length<=Wd then 0#(.str (e_ x lo hi)) else none|.tup ds=>0#(.tup (e_ ds lo hi))|.lst ds=>some (.own (.lst (e_ ds lo hi)))|_=>none
def Sj(f:DE)(fl fh:ly):DE:=λZ=>(f Z).bind λx T'=>(fl T').bind λl S'=>(fh S').bind λh SL=>p1 (D6 l h) x.d SL
theorem rC{v:V}{w:S}(k:Ok c J Z H)(e:Z[i]?=some (some w))(ev:J[i]?=some (some v)):cC c J Z H v w.d:=by cases w with|pure d=>obtain⟨v',e1,r⟩:=k.slot i d e;rw[ev]at e1;cases e1;exact .inl r|own d=>obtain⟨a,e1,r,_⟩:=k.own i d e;rw[ev]at e1;cases e1;exact .inr ⟨a,rfl,r⟩
theorem Sk(h:post c ((ah i Z).bind g) kk):∃w,Z[i]?=some (some w)/\post c (g w.d Z) kk:=by unfold ah at h;cases e:Z[i]? with|none=>rw[e]at h;exact h.elim|some o=>cases o with|none=>rw[e]at h;exact h.elim|some w=>rw[e]at h;exact⟨w,rfl,h⟩
noncomputable def Sl:D->Option S|.str x=>if x.length<=Wd then 0#(.str x.reverse) else none|.lst ds=>some (.own (.lst ds.reverse))|_=>none
def jP(z:Tx):List Tx->Tx|[]=>[]|[x]=>x|x::y::r=>x++z++jP z (y::r)
theorem D7(z:Tx):∀(r:List Tx)(acc:Tx),(r.map toS).foldl (λ(acc:Array Nat)p=>acc++(toS z).cps++p.cps) acc.toArray=(match r with|[]=>acc|x::r'=>acc++z++jP z (x::r')).toArray|[],acc=>rfl|x::r,acc=>by rw[We,Jp];have e:acc.toArray++(toS z).cps++(toS x).cps=(acc++z++x).toArray:=#v[toS];rw[e,D7 z r (acc++z++x)];cases r with|nil=>simp[jP]|cons y r'=>simp[jP]
theorem Sm(z:Tx)(ts:List Tx):Txt.join (toS z) (ts.map toS)=toS (jP z ts):=by show Builtin.Str.glued _ _=_;unfold Builtin.Str.glued;cases ts with|nil=>rfl|cons x r=>rw[We];show(⟨List.foldl _ (toS x).cps (r.map toS)⟩:Str)=_;have:=D7 z r x;have e:(toS x).cps=x.toArray:=rfl;rw[e,this];cases r with|nil=>rfl|cons y r'=>rfl
def jk(ts:List Tx):Nat:=(ts.map (·.length)).sum
noncomputable def fB(z:Tx):D->Option S
 |.lst ds=>match fU ds with|some ts=>if jk ts+ts.length*z.length<=16777216 then 0#(.str (jP z ts)) else none|none=>none
 |.tup ds=>match fU ds with|some ts=>if jk ts+ts.length*z.length<=16777216 then 0#(.str (jP z ts)) else none|none=>none
 |_=>none
universe H in theorem Sn(z:Tx):mP (λx H Q=>uV K (.str (toS z)) [x] H Q) (fB z):=by
 intro c J Z H x d s Q k rx hp q;have key:∀(a:Addr)(vs:List V)(ds:List D),x=.ref a->cu K H a vs\/cN K H a vs->aI H (Av c J Z) vs ds->(match fU ds with|some ts=>if jk ts+ts.length*z.length<=16777216 then some (S.pure (.str (jP z ts)))else none|none=>none)=some s->uV K (.str (toS z)) [x] H Q:=by intro a vs ds ea ha ra hp;cases e:fU ds with|none=>rw[e]at hp;cases hp|some ts=>
   rw[e]at hp;simp only at hp;split at hp
   .rename_i hz;simp only[Wg]at hp;subst hp;have:=pj e ra;subst this;refine⟨toS z,a,ts.map toS,rfl,by rw[ea],?_,?_,?_⟩;.rw[Wn];exact ha
    .rw[Wn,WB,kj];have:(λx:Str=>x.length)∘toS=λx:Tx=>x.length:=funext λx=>kj x;rw[this];exact hz
    .rw[Sm];exact q _ H (.refl k) (.str _)
   .cases hp
 cases d with|lst ds=>obtain⟨a,vs,ea,ha,ra⟩:=rx.lst;exact key a vs ds ea (.inl (.inl ha)) ra hp|tup ds=>obtain⟨a,vs,ea,ha,ra⟩:=rx.tup;exact key a vs ds ea (.inr (.of ha)) ra hp|_=>simp[fB]at hp
theorem So{j}{p0 apos bh:Pos}(z:Tx)(he:SB X c e fb)(hx:x=toS z:=by decide+kernel)(lj:QA (.Constant (.str x) j p0) "join" X.env (eval (.Constant (.str x) j p0) X.env)=eval (.Constant (.str x) j p0) X.env:=by rfl)(ll:((QH bh (Wl [e] X.env)).all (λx=>!x.1)&&(Ua bh (Jy [] X.env)).all (λx=>x.1.isSome)&&decide ([e].length+([]:List Keyword).length+(if([]:List Keyword).isEmpty then 0 else 1)<30))=true:=by rfl)(gI:(apos.endLine==bh.line)=true:=by rfl)(hs:Wl [e] X.env=(false,eval e X.env)::Wl [] X.env:=by rfl):SE X c (.Call (.Attribute (.Constant (.str x) j p0) "join" apos) [e] [] bh) (aE (fB z) fb):=by subst hx;refine PE.weak (uB PySem.F.plainAttrs_str PySem.F.slot_str_join PySem.F.type_str_join Ro BL (fu he gH hs) lj ll gI hs rfl) λJ H Q h=>?_;obtain⟨Z,k,q⟩:=rj (r:=λx H Q=>uV X.K (.str (toS z)) [x] H Q) (Sn z) h;refine⟨?_,Z,k,q⟩;show("str":String)="str";rfl
end
inductive Fl where|next|ret(r:S)|brk|cont
abbrev DS:=Dl->Rs Fl
def fin(c:Fc)(D:Ends)(J:St)(Z:Dl)(H:Hp):Fl->Prop|.next=>D.nx J H|.ret r=>∀v,bu c J Z c.H₀ H v r->D.rt v H|.brk=>D.bk J H|.cont=>D.ct J H
def fg(c:Fc)(D:Ends)(J:St)(Z:Dl)(H:Hp)(r:Rs Fl):Prop:=post c r λfl SZ=>∀J' H',aY c J Z H J' SZ H'->fin c D J' SZ H' fl
def u7(c:Fc)(f:DS):TS:=λD J H=>∃Z,Ok c J Z H/\fg c D J Z H (f Z)
abbrev SS(X:Cx)(c:Fc)(st:Stmt)(f:DS):Prop:=PS X st (u7 c f)
abbrev jl(X:Cx)(c:Fc)(st:List Stmt)(f:DS):Prop:=eW X st (u7 c f)
theorem PS.weak{st:Stmt}{t t':TS}(h:PS X st t)(w:∀D J H,t' D J H->t D J H):PS X st t':=λpins s J H D I q=>h pins s J H D I (w D J H q)
theorem eW.weak{st:List Stmt}{t t':TS}(h:eW X st t)(w:∀D J H,t' D J H->t D J H):eW X st t':=λpins s J H D I q=>h pins s J H D I (w D J H q)
def bR:DS:=λZ=>.ok .next Z
def ay(f g:DS):DS:=λZ=>(f Z).bind λfl T'=>match fl with|.next=>g T'|.ret r=>.ok (.ret r) T'|.brk=>.ok .brk T'|.cont=>.ok .cont T'
def kz(f:DE):DS:=λZ=>(f Z).bind λj T'=>.ok .next T'
def bf(f:DE):DS:=λZ=>(f Z).bind λr T'=>.ok (.ret r) T'
def bI(t:DT)(f g:DS):DS:=λZ=>(t Z).bind λb T'=>if b then f T' else g T'
def u9:DS:=λj=>.stuck
def qaX(np:List Nat)(i:Nat):DE:=λZ=>match Z[i]? with|some (some (.own d))=>if np.contains i then .ok (.pure d) (Z.set i 0#d)else .ok (.own d) (Z.set i none)|some 0#d=>.ok (.pure d) Z|_=>.stuck
section
variable{st:Stmt}{a:Expr}{f g:DS}{t:DT}
theorem D9:jl X c [] bR:=eW.weak Nd λD J H⟨Z,k,q⟩=>q J H (.refl k)
theorem D_(h1:SS X c st f)(h2:jl X c D8 g):jl X c (st::D8) (ay f g):=eW.weak (Nf h1 h2) λD J H⟨Z,k,q⟩=>by unfold ay fg at q;rw[ba]at q;refine⟨Z,k,aO q λfl T' q1 KM H1 a1=>?_⟩;cases fl with|next=>exact⟨T',a1.ok,aO q1 λfl2 S' q2 Pv H2 a2=>q2 Pv H2 (a1.trans a2)⟩|ret r=>exact q1 KM H1 a1|brk=>exact q1 KM H1 a1|cont=>exact q1 KM H1 a1
theorem Ea(h1:SS X c st f):jl X c [st] f:=eW.weak (Ng h1) λD J H h=>h
theorem Sq:SS X c st u9:=PS.weak Nl λD J H⟨Z,k,q⟩=>q
theorem Sr(he:SE X c e fe):SS X c (.Return (some e) pos) (bf fe):=PS.weak (BN he) λD J H⟨Z,k,q⟩=>by unfold bf fg at q;rw[ba]at q;exact⟨Z,k,aO q λr T' q1 v H1 a1 r1=>q1 J H1 a1 v r1.P5⟩
theorem Ss{b1 b2:List Stmt}(ht:ST X c e t)(h1:jl X c b1 f)(h2:jl X c b2 g):SS X c (.If e b1 b2 pos) (bI t f g):=PS.weak (Nj ht h1 h2) λD J H⟨Z,k,q⟩=>by unfold bI fg at q;rw[ba]at q;refine⟨Z,k,aO q λb T' q1 H1 a1=>?_⟩;cases b with|true=>exact⟨T',a1.ok,aO q1 λfl S' q2 Pv H2 a2=>q2 Pv H2 (a1.trans a2)⟩|false=>exact⟨T',a1.ok,aO q1 λfl S' q2 Pv H2 a2=>q2 Pv H2 (a1.trans a2)⟩
theorem Own.rE(h:Own (J.set i (some v)) (Z.set i (some r)) b):Own J Z b\/v=.ref b/\∃d,r=.own d:=by
 obtain⟨j,d,e1,e2⟩:=h;by_cases hj:i=j;.subst hj;right;rw[Qi]at e1 e2;simp at e1 e2;obtain⟨_,h1⟩:=e1;obtain⟨_,h2⟩:=e2;exact⟨h2,d,h1⟩
 .rw[W4 hj]at e1 e2;exact .inl ⟨j,d,e1,e2⟩
theorem Ok.set(x:aY c J₀ Z₀ H₁ J Z H)(hr:bu c J Z H₁ H v r)(hp:∀p∈c.pin,p.1≠i):aY c J₀ Z₀ H₁ (J.set i (some v)) (Z.set i (some r)) H:=by
 have k:=x.ok;have all:∃c':Fc,c'.H₀=c.H₀/\c'.pin=c.pin/\Ok c' J Z H/\∀b,Av c (J.set i (some v)) (Z.set i (some r)) b->Av c' J Z b:=by cases r with
 |pure d=>
   refine⟨c,rfl,rfl,k,λb z=>?_⟩;rcases z with z|z;.exact .inl z
   .rcases z.rE with z|⟨_,d',e⟩;.exact .inr z
    .cases e|own d=>
   obtain⟨a,ea,o,n,f,k2,_⟩:=hr;refine⟨c.plus a,rfl,rfl,k2,λb z=>?_⟩;rcases z with z|z;.exact .inl (.inl z)
   .rcases z.rE with z|⟨e,_⟩;.exact .inr z
    .rw[ea]at e;cases e;exact .inl (.inr rfl)
 obtain⟨c',eH,eP,k2,sub⟩:=all;have eI:∀a,c'.I a↔c.I a:=λa=>by unfold Fc.I;rw[eP]
 have Su:Rep H (Av c (J.set i (some v)) (Z.set i (some r))) v r.d\/∃d,r=.own d:=by cases r with
 |pure d=>
   left;refine Rep.aS hr λb z=>?_;rcases z with z|z;.exact .inl (.inl z)
   .rcases z.rE with z|⟨_,d',e⟩;.exact .inl (.inr z)
    .cases e|own d=>exact .inr ⟨d,rfl⟩
 refine⟨⟨k.keep,k.bd,k.eN,%[Qe,Qe|k.len],λj d e=>?_,λj d e=>?_,λj l a d d' e1 e2 e3 e4=>?_,λp hm=>?_⟩,x.keep,λb z=>?_,x.there⟩
 .by_cases hj:i=j
  .subst hj;rw[Qi]at e;simp at e;obtain⟨hi,rfl⟩:=e;have ij:i<J.length:=by rw[<-k.len];exact hi
   rcases Su with h|⟨_,h⟩;.exact⟨v,by rw[Wh ij],h⟩
   .cases h
  .rw[W4 hj]at e;obtain⟨w,e1,q⟩:=k2.slot j d e;exact⟨w,%[W4 hj|e1],q.aS λb z=>.inl (sub b z)⟩
 .by_cases hj:i=j
  .subst hj;rw[Qi]at e;simp at e;obtain⟨hi,rfl⟩:=e;have ij:i<J.length:=by rw[<-k.len];exact hi
   obtain⟨a,ea,o,n,f,k3,_⟩:=hr;refine⟨a,by rw[Wh ij,ea],o.aS λb z=>.inl ?_,.inr f,n⟩;rcases z with z|z;.exact .inl (.inl z)
   .rcases z.rE with z|⟨e,_⟩;.exact .inr z
    .rw[ea]at e;cases e;exact .inl (.inr rfl)
  .rw[W4 hj]at e;obtain⟨a,e1,q,q2,q3⟩:=k.own j d e;obtain⟨a',e1',q',_,_⟩:=k2.own j d e;rw[e1]at e1';cases e1';exact⟨a,%[W4 hj|e1],q'.aS λb z=>.inl (sub b z),q2,q3⟩
 .by_cases hj:i=j
  .subst hj;by_cases hl:i=l;.exact hl
   .rw[W4 hl]at e2 e4;rw[Qi]at e1 e3;simp at e1 e3;obtain⟨_,rfl⟩:=e1;obtain⟨_,rfl⟩:=e3;obtain⟨a',ea,o,n,f,k3,_⟩:=hr;cases ea;exact absurd ⟨l,d',e2,e4⟩ (uL k3)
  .rw[W4 hj]at e1 e3;by_cases hl:i=l;.subst hl;rw[Qi]at e2 e4;simp at e2 e4;obtain⟨_,rfl⟩:=e2;obtain⟨_,rfl⟩:=e4;obtain⟨a',ea,o,n,f,k3,_⟩:=hr;cases ea;exact absurd ⟨j,d,e1,e3⟩ (uL k3)
   .rw[W4 hl]at e2 e4;exact k.inj j l a d d' e1 e2 e3 e4
 .rw[W4 (Ne.symm (hp p hm))];exact k.pinned p hm
 .rcases z.rE with z|⟨e,d,ed⟩;.exact x.own b z
  .subst ed;obtain⟨a,ea,_,_,_,_,hs⟩:=hr;grind
abbrev DG:=S->Dl->Option Dl
def yx(c:Fc)(g:DG):TG:=λv J H Q=>∃J₀ Z₀ H₁ Z r SZ,aY c J₀ Z₀ H₁ J Z H/\bu c J Z H₁ H v r/\g r Z=some SZ/\∀J',aY c J₀ Z₀ H₁ J' SZ H->Q J' H
abbrev SG(X:Cx)(c:Fc)(tg:Expr)(g:DG):Prop:=PG X tg (yx c g)
def ae(np:List Nat)(i:Nat):DG:=λr Z=>if np.contains i then none else some (Z.set i (some r))
def Np(c:Fc)(np:List Nat):Prop:=∀p∈c.pin,np.contains p.1=true
universe H in theorem yz{Q}(hp:Np c np)(h:yx c (ae np i) v J H Q):ug i v J H Q:=by
 obtain⟨J₀,Z₀,H₁,Z,r,SZ,x,rr,e,q⟩:=h;unfold ae at e;split at e;.cases e
 .rename_i hn;cases e;exact q _ (Ok.set x rr λp hm e=>hn (by rw[<-e];exact hp p hm))
theorem PG.weak{t t':TG}(h:PG X tg t)(w:∀v J H Q,t' v J H Q->t v J H Q):PG X tg t':=λpins s J H v u Q I r q=>h pins s J H v u Q I r (w v J H Q q)
theorem iG.weak{tg:List Expr}{t t':mh}(h:iG X tg t)(w:∀v J H Q,t' v J H Q->t v J H Q):iG X tg t':=λpins s J H v u Q I r q=>h pins s J H v u Q I r (w v J H Q q)
theorem Sv(hp:Np c np)(hN:X.N.Nodup)(hi:X.N[i]?=some x)(hx:Loc X.env.scope x)(hf:X.fn x=true\/X.env.scope.names.lookup x=some .local):SG X c (.Name x pos) (ae np i):=PG.weak (BQ hN hi hx hf) λv J H Q h=>yz hp h
abbrev jm:=List D->Dl->Option Dl
def Sw(c:Fc)(g:jm):mh:=λvs J H Q=>∃Z ds SZ,Ok c J Z H/\aI H (Av c J Z) vs ds/\g ds Z=some SZ/\∀J',aY c J Z H J' SZ H->Q J' H
abbrev rF(X:Cx)(c:Fc)(tg:List Expr)(g:jm):Prop:=iG X tg (Sw c g)
def aT:jm:=λds Z=>match ds with|[]=>some Z|_=>none
def aC(g:DG)(gs:jm):jm:=λds Z=>match ds with|[]=>none|d::r=>(g (.pure d) Z).bind λT'=>gs r T'
theorem Sx:rF X c [] aT:=iG.weak BR λvs J H Q hh=>by
 obtain⟨Z,ds,SZ,k,r,e,q⟩:=hh
 cases ds with|nil=>
 cases e;have:vs=[]:=by have:=r.1;simpa using this
 exact⟨this,q J (.refl k)⟩|cons d r=>cases e
theorem Sy{g:DG}{gs:jm}(h1:SG X c e g)(h2:rF X c es gs)(hs:(Qx (e::es) X.env).map (·.2)=assign e X.env::(Qx es X.env).map (·.2):=by rfl):rF X c (e::es) (aC g gs):=iG.weak (BU h1 h2 hs) λvs J H Q hh=>by obtain⟨Z,ds,SZ,k,r,e,q⟩:=hh;cases ds with|nil=>cases e|cons d ds=>cases vs with|nil=>have:=r.1;simp at this|cons v vs=>simp only[aC]at e;cases e1:g (.pure d) Z with|none=>rw[e1]at e;cases e|some T'=>rw[e1]at e;refine⟨v,vs,rfl,J,Z,H,Z,.pure d,T',.refl k,r.head,e1,λKM a1=>?_⟩;exact⟨T',ds,SZ,a1.ok,aI.dQ r.tail a1,e,λPv a2=>q Pv (a1.trans a2)⟩
def aR(n:Nat)(gs:jm):DG:=λr Z=>match r.d with|.tup ds=>if ds.length=n then gs ds Z else none|_=>none
universe H in theorem Sz{k:Nat}{gs:jm}(hc:X.calm=true)(h:rF X c es gs)(hn:(Qx es X.env).length=n:=by rfl)(fS:(Qx es X.env).findIdx? (·.1)=none:=by rfl):SG X c (.Tuple es k pos) (aR n gs):=PG.weak (BV hc h hn fS) λv J H Q hw=>by
 obtain⟨J₀,Z₀,H₁,Z,r,SZ,x,rr,e,q⟩:=hw;have hb:=rr.b;unfold aR at e;generalize r.d=d at e hb;cases d<;>first|(cases e;done)|skip
 rename_i ds;simp only at e;split at e;.rename_i hl;obtain⟨a,vs,ea,ha,ra⟩:=hb.tup;exact⟨a,vs,ea,.of ha,%[ra.1|hl],Z,ds,SZ,x.ok,ra,e,λJ' a1=>q J' (x.trans a1)⟩
 .cases e
def aq(f:DE)(g:DG):DS:=λZ=>(f Z).bind λr T'=>match g r T' with|some S'=>.ok .next S'|none=>.stuck
theorem yA{g:DG}{D:Ends}{tg:TG}(he:∀J H Q,tD c fe J H Q->te J H Q)(hg:∀v J H Q,yx c g v J H Q->tg v J H Q)(h:u7 c (aq fe g) D J H):uh te tg D J H:=by obtain⟨Z,k,q⟩:=h;unfold aq fg at q;rw[ba]at q;refine he _ _ _ ⟨Z,k,aO q λr T' q1 v H1 a1 r1=>hg _ _ _ _ ?_⟩;cases e:g r T' with|none=>rw[e]at q1;exact q1.elim|some S'=>rw[e]at q1;exact⟨J,Z,H,T',r,S',a1,r1,e,λJ' a2=>q1 J' H1 a2⟩
theorem SD{g:DG}(he:SE X c e fe)(hg:SG X c tg g)(hs:swapsWithSole [tg] e pos.line X.env=pure false:=by rfl)(hw:swappedStores [tg] e X.env=pure none:=by rfl)(h1:(Qx [tg] X.env).map (·.2)=[assign tg X.env]:=by rfl):SS X c (.Assign [tg] e pos) (aq fe g):=PS.weak (BW he hg hs hw h1) λD J H h=>yA (λj j j h=>h) (λj j j j h=>h) h
theorem SF(hp:Np c np)(hN:X.N.Nodup)(hi:X.N[i]?=some x)(hx:Loc X.env.scope x)(he:SE X c e fe)(hs:Je e (some (.Name x pos')) pos.line X.env=pure false)(hf:X.fn x=true\/X.env.scope.names.lookup x=some .local):SS X c (.Assign [.Name x pos'] e pos) (aq fe (ae np i)):=PS.weak (BX hN hi hx he hs hf) λD J H h=>yA (λj j j h=>h) (λj j j j h=>yz hp h) h
theorem SH(he:SE X c e fe)(hs:∀(x:Value),Je e none pos.line X.env=pure false:=by intro _;rfl)(hd:True:=trivial)(h:PS X (.Expr e pos) (xu (tD c fe))):SS X c (.Expr e pos) (kz fe):=PS.weak h λD J H⟨Z,k,q⟩=>by unfold kz fg at q;rw[ba]at q;exact⟨Z,k,aO q λr T' q1 v H1 a1 r1=>q1 J H1 a1⟩
theorem Ok.Eb{ds dP:List D}{a:Addr}{jg:List V}(k:Ok c J Z H)(e:Z[i]?=some (some (.own (.lst ds))))(ea:J[i]?=some (some (.ref a)))(r:aI H (Av c J Z) jg dP):aY c J Z H J (Z.set i (some (.own (.lst dP)))) (upd H a (.lst jg)):=by
 have hi:i<Z.length:=(W9.mp e).1;obtain⟨a',cU,oa,ia,nb⟩:=k.own i _ e;rw[ea]at cU;cases cU;obtain⟨vs,ha,_⟩:=oa;have rG:Own J Z a:=⟨i,_,e,ea⟩;have rH:Av c J Z a:=.inr rG;have mR:∀b,Own J (Z.set i (some (.own (.lst dP)))) b↔Own J Z b:=λb=>by
  constructor
  .rintro⟨j,d,e1,e2⟩;by_cases hj:i=j;.subst hj;exact⟨i,_,e,e2⟩
   .rw[W4 hj]at e1;exact⟨j,d,e1,e2⟩
  .rintro⟨j,d,e1,e2⟩;by_cases hj:i=j;.subst hj;exact⟨i,_,by rw[Wh hi],e2⟩
   .exact⟨j,d,%[W4 hj|e1],e2⟩
 have jQ:∀b,Av c J (Z.set i (some (.own (.lst dP)))) b->Av c J Z b:=λb z=>z.elim .inl λz=>.inr ((mR b).mp z);have ne:∀b,¬Av c J Z b->b≠a:=λb n z=>n %[z|rH];have kp:∀b o,H b=some o->¬Av c J Z b->upd H a (.lst jg) b=some o:=λb o h n=>%[aN (ne b n)|h];have ip:∀b o,H b=some o->∃o',upd H a (.lst jg) b=some o':=λb o h=>by
  by_cases hb:b=a;.exact⟨_,%[hb|cW]⟩
  .exact⟨o,%[aN hb|h]⟩
 refine⟨⟨λb o h n=>?_,λb z=>?_,λb z=>?_,%[Qe|k.len],λj d h=>?_,λj d h=>?_,λj l b d d' h1 h2 h3 h4=>?_,k.pinned⟩,λb o h n=>?_,λb z=>.inl ((mR b).mp z),ip⟩
 .have hb:b≠a:=λz=>by grind
  rw[aN hb];exact k.keep b o h n
 .obtain⟨o,h⟩:=k.bd b z;exact ip b o h
 .obtain⟨o,h⟩:=k.eN b z;exact ip b o h
 .have hj:i≠j:=λz=>by subst z;rw[Wh hi]at h;cases h
  rw[W4 hj]at h;obtain⟨v,h1,h2⟩:=k.slot j d h;exact⟨v,h1,(h2.keep kp).aS λb z=>.inl (jQ b z)⟩
 .by_cases hj:i=j;.subst hj;rw[Wh hi]at h;cases h;exact⟨a,ea,⟨jg,cW,aI.aS (aI.keep r kp) λb z=>.inl (jQ b z)⟩,ia,nb⟩
  .rw[W4 hj]at h;obtain⟨b,h1,h2,h3,h4⟩:=k.own j d h;have hb:b≠a:=λz=>by subst z;exact hj (k.inj i j b _ d e h ea h1)
   exact⟨b,h1,(h2.keep kp λo q=>%[aN hb|q]).aS λb z=>.inl (jQ b z),h3,h4⟩
 .have f1:∃d,Z[j]?=some (some (.own d)):=by
   by_cases hj:i=j;.subst hj;exact⟨_,e⟩
   .rw[W4 hj]at h1;exact⟨d,h1⟩
  have f2:∃d,Z[l]?=some (some (.own d)):=by
   by_cases hj:i=l;.subst hj;exact⟨_,e⟩
   .rw[W4 hj]at h2;exact⟨d',h2⟩
  obtain⟨_,f1⟩:=f1;obtain⟨_,f2⟩:=f2;exact k.inj j l b _ _ f1 f2 h3 h4
 grind[aN]
def gL(Z:Dl)(i:Nat):Bool:=match Z[i]? with
 |some (some s)=>match s with|.own d=>(match d with|.lst _=>true|_=>false)|_=>false
 |_=>false
noncomputable def putL(Z:Dl)(i:Nat)(f:List D->Option (List D)):Rs Fl:=match Z[i]? with
 |some (some (.own (.lst ds)))=>match f ds with|some dP=>.ok .next (Z.set i (some (.own (.lst dP))))|none=>.stuck
 |_=>.stuck
theorem Ec(h:gL Z i=true):∃ds,Z[i]?=some (some (.own (.lst ds))):=by unfold gL at h;cases e:Z[i]? with|none=>rw[e]at h;cases h|some o=>
 rw[e]at h;rcases o with _|_|d<;>first|(cases h;done)|skip
 cases d<;>first|exact⟨_,rfl⟩|cases h
universe H in theorem Ed{g:List D->Option (List D)}{kk:Fl->Dl->Prop}(h:post c (putL Z i g) kk):∃ds dP,Z[i]?=some (some (.own (.lst ds)))/\g ds=some dP/\kk .next (Z.set i (some (.own (.lst dP)))):=by
 unfold putL at h;split at h
 .rename_i ds e;split at h;.rename_i dP e2;exact⟨ds,dP,e,e2,h⟩
  .exact h.elim
 .exact h.elim
def de(i:Nat)(f:DE):DS:=λZ=>if gL Z i then(f Z).bind λr T'=>putL T' i λds=>if ds.length<Wd then some (ds++[r.d])else none else .stuck
universe H in theorem SJ{o:Expr}{p0:Pos}(ho:PE X o (dH i))(he:SE X c e fe)(h:PS X (.Expr (.Call (.Attribute o "append" apos) [e] [] bh) pos) (xu (CF X.K "list" CH (dH i) (Ce (tD c fe) Cd)))):SS X c (.Expr (.Call (.Attribute o "append" apos) [e] [] bh) pos) (de i fe):=PS.weak h λD J H⟨Z,k,q⟩=>by
  unfold de fg at q;split at q
  .rename_i jn;obtain⟨ds0,e0⟩:=Ec jn;rw[ba]at q;obtain⟨a,ea,oa,_⟩:=k.own i _ e0;refine⟨.ref a,ea,?_,Z,k,aO q λr T' q1 v H1 a1 r1=>?_⟩;.obtain⟨vs,ha,_⟩:=oa;exact .inl ⟨rfl,vs,.of ha⟩
   .obtain⟨ds,dP,e1,e2,q2⟩:=Ed q1;split at e2;.rename_i hz;cases e2;obtain⟨a',cU,oa1,_⟩:=a1.ok.own i _ e1;rw[ea]at cU;cases cU;obtain⟨vs,ha,ra⟩:=id oa1;refine⟨a,vs,v,rfl,rfl,ha,%[ra.1|hz],?_⟩;exact q2 J _ (a1.trans (Ok.Eb a1.ok e1 ea (ra.append (.cons r1.rep .nil))))
    .cases e2
  .exact q.elim
def lz(i:Nat)(fi:DE)(fe:DE):DS:=λZ=>if gL Z i then(fe Z).bind λr T'=>(fi T').bind λk S'=>match k with|.pure (.int j)=>putL S' i λds=>(fJ ds.length j).map λn=>ds.set n r.d|_=>.stuck else .stuck
universe H in theorem SK{o:Expr}{sp:Pos}(ho:PE X o (dH i))(hi:SE X c ix fi)(he:SE X c e fe)(ha:∀v,assign (.Subscript o ix sp) X.env v=(do
   let ov<-holding [v] (eval o X.env)let iv<-holding [v,ov] (eval ix X.env)standAt sp
   holding [v,ov,iv] (setItem ov iv v)release [v,ov,iv] []):=by intro _;rfl)(hs:swapsWithSole [.Subscript o ix sp] e pos.line X.env=pure false:=by rfl)(hw:swappedStores [.Subscript o ix sp] e X.env=pure none:=by rfl)(h1:(Qx [.Subscript o ix sp] X.env).map (·.2)=[assign (.Subscript o ix sp) X.env]:=by rfl):SS X c (.Assign [.Subscript o ix sp] e pos) (lz i fi fe):=PS.weak (BW he (Nt ho hi Oy ha) hs hw h1) λD J H⟨Z,k,q⟩=>by
  unfold lz fg at q;split at q;.rename_i jn;obtain⟨ds0,e0⟩:=Ec jn;rw[ba]at q;obtain⟨a,ea,_,_⟩:=k.own i _ e0;refine⟨Z,k,aO q λr T' q1 v H1 a1 r1=>⟨.ref a,ea,T',a1.ok,?_⟩⟩;rw[ba]at q1;refine aO q1 λkx S' q2 u H2 a2 r2=>?_;cases kx with|own d=>exact q2.elim|pure d=>
    cases d<;>first|exact q2.elim|skip
    rename_i j;cases r2;obtain⟨ds,dP,e1,e2,q3⟩:=Ed q2;cases e3:fJ ds.length j with|none=>rw[e3]at e2;cases e2|some n=>rw[e3]at e2;cases e2;obtain⟨a',cU,oa1,_⟩:=a2.ok.own i _ e1;rw[ea]at cU;cases cU;obtain⟨vs,ha,ra⟩:=id oa1;refine⟨a,vs,j,n,rfl,rfl,ha,%[ra.1|e3],?_⟩;exact q3 J _ (a1.trans (a2.trans (Ok.Eb a2.ok e1 ea (ra.set (Rep.dQ r1.rep a2) n))))
  .exact q.elim
end
variable{gs:jm}
abbrev DI:=Dl->Rs (List D)
def oq(c:Fc)(J:St)(Z:Dl)(H:Hp)(M':It)(ds:List D):Prop:=∀H2,(∀a o,H a=some o->¬Own J Z a->H2 a=some o)->M'.stop ds.length H2/\∀(i:Nat)d,ds[i]?=some d->M'.go i H2/\∀x H3,M'.qB i H2 x H3->H3=H2/\Rep H (Av c J Z) x d\/∃p vs es,H2 p=none/\H3=upd H2 p (.tup vs)/\x=.ref p/\d=.tup es/\aI H (Av c J Z) vs es
def tI(c:Fc)(f:DI):TI:=λJ H R=>∃Z,Ok c J Z H/\post c (f Z) λds SZ=>∀M' H',aY c J Z H J SZ H'->oq c J SZ H' M' ds->R M' H'
abbrev SI(X:Cx)(c:Fc)(tg iter:Expr)(f:DI):Prop:=PI X tg iter (tI c f)
theorem PI.weak{t'}(h:PI X tg iter t)(w:∀J H R,t' J H R->t J H R):PI X tg iter t':=λpins s J H R I q=>h pins s J H R I (w J H R q)
theorem SM(K:Wa)(h:H a=some (.tup vs))(n:¬Own J Z a)(r:aI H (Av c J Z) vs ds):oq c J Z H (uk K a) ds:=by intro H2 kp;have h2:=kp a _ h n;refine⟨⟨vs,.of h2,%[r.1|Wf _]⟩,λi d e=>?_⟩;obtain⟨v,ev,rv⟩:=r.get e;refine⟨⟨vs,v,.of h2,ev⟩,λx H3⟨e3,y⟩=>.inl ⟨e3,?_⟩⟩;have:=y vs (.of h2);grind
def bo(lo:Int)(n:Nat):List D:=(W7 n).map λk:Nat=>D.int (lo+k)
theorem yC{lo:Int}{d:D}(h:(bo lo n)[i]?=some d):i<n/\d=.int (lo+i):=by
 unfold bo at h;rw[Wo]at h;by_cases hi:i<n;.rw[Qq hi]at h;simp at h;exact⟨hi,h.symm⟩
 .rw[WD (~~~hi)]at h;cases h
theorem zev(lo:Int)(n:Nat):oq c J Z H (um lo n) (bo lo n):=by intro H2 kp;refine⟨by show n<=(bo lo n).length;simp[bo],λi d e=>?_⟩;obtain⟨hi,rfl⟩:=yC e;exact⟨hi,λx H3⟨e3,ex⟩=>.inl ⟨e3,%[ex|.int _]⟩⟩
def pA(j:Int):Bool:=decide (-2^62<=j)&&decide (j<2^62)
def bW(f:DE):DI:=λZ=>(f Z).bind λr T'=>match r with|.pure (.int j)=>if pA j then .ok (bo 0 j.toNat) T' else .stuck|_=>.stuck
universe H in theorem SN(hg:Gl X "range")(hm:X.mg "range"=none)(he:SE X c e fe)(hs:Wl [e] X.env=[(false,eval e X.env)]:=by rfl):SI X c tg (.Call (.Name "range" pp) [e] [] pos) (bW fe):=PI.weak (NC hg hm (fu he gH hs) hs) λJ H R⟨Z,k,q⟩=>by unfold bW at q;rw[ba]at q;refine⟨Z,k,aO q λr T' q1 v H1 a1 r1=>?_⟩;cases r with|own d=>exact q1.elim|pure d=>
 cases d<;>first|exact q1.elim|skip
 rename_i j;cases r1;simp only at q1;split at q1;.rename_i hj;unfold pA at hj;simp only[Wu,decide_eq_true_eq]at hj;exact⟨j,rfl,hj.1,hj.2,q1 _ H1 a1 (zev 0 j.toNat)⟩
 .exact q1.elim
noncomputable def forL(g:DG)(b:DS):List D->DS|[],Z=>.ok .next Z|d::r,Z=>match g (.pure d) Z with|none=>.stuck|some T'=>(b T').bind λfl S'=>match fl with|.next=>forL g b r S'|.cont=>forL g b r S'|.brk=>.ok .next S'|.ret v=>.ok (.ret v) S'
def ck(it:DI)(g:DG)(b:DS):DS:=λZ=>(it Z).bind λds T'=>forL g b ds T'
theorem Ee{x}(io:oq c J Z H M' ds)(a:aY c J Z H Pv S' H2)(e:ds[i]?=some d)(y:M'.qB i H2 x H3):aY c Pv S' H2 Pv S' H3/\Rep H3 (Av c Pv S') x d:=by
 obtain⟨_,t⟩:=io H2 a.keep;rcases(t i d e).2 x H3 y with⟨e3,r⟩|⟨p,vs,es,hp,e3,ex,ed,r⟩;.subst e3;exact⟨.refl a.ok,Rep.dQ r a⟩
 .subst e3 ex ed;have:=bu.qW a.ok (aI.dQ r a) hp;exact⟨.alloc a.ok hp _,this⟩
theorem SQ{it:DI}{g:DG}{b:DS}(hp:PassesOwn 5#0 X.A X.env X.xe)(hc:X.calm=true)(hi:SI X c tg iter it)(hg:SG X c tg g)(hb:jl X c body b)(hs:∀x,Ju iter X.env x=pure x:=by intro _;rfl):SS X c (.For tg iter body [] pos) (ck it g b):=PS.weak (NG hp hc hi hg hb hs) λD J H⟨Z,k,q⟩=>by
 unfold ck fg at q;rw[ba]at q;refine⟨Z,k,aO q λds T' q1 M' H1 a1 io=>?_⟩;refine⟨λi m Pv H2=>∃S',m=ds.length-i/\i<=ds.length/\aY c J T' H1 Pv S' H2/\fg c D Pv S' H2 (forL g b (ds.drop i) S'),⟨ds.length,T',V',Qc _,.refl a1.ok,?_⟩,?_⟩;.rw[List.drop_zero];exact aO q1 λfl S' q2 Pv H2 a2=>q2 Pv H2 (a1.trans a2)
 .rintro i m Pv H2⟨S',rfl,jR,a2,p2⟩;by_cases a0:i<ds.length;.right;have e:ds[i]?=some ds[i]:=#v[a0];rw[J0 a0]at p2;refine⟨((io H2 a2.keep).2 i _ e).1,λOs H4=>∃SC,aY c J T' H1 Os SC H4/\fg c D Os SC H4 (forL g b (ds.drop (i+1)) SC),λOs H4⟨SC,a4,p4⟩=>⟨ds.length-(i+1),Z',SC,rfl,a0,a4,p4⟩,λx H3 y=>?_⟩;obtain⟨a3,r3⟩:=Ee io a2 e y;simp only[forL,fg]at p2;cases eg:g (.pure ds[i]) S' with|none=>rw[eg]at p2;exact p2.elim|some SL=>rw[eg]at p2;refine⟨Pv,S',H3,S',.pure ds[i],SL,.refl a3.ok,r3,eg,λOn a3'=>?_⟩;have p3:post c ((b SL).bind λfl S'=>match fl with|.next=>forL g b (ds.drop (i+1)) S'|.cont=>forL g b (ds.drop (i+1)) S'|.brk=>.ok .next S'|.ret v=>.ok (.ret v) S') λfl SZ=>∀J' H',aY c Pv S' H2 J' SZ H'->fin c D J' SZ H' fl:=p2;rw[ba]at p3;have SR:aY c Pv S' H2 On SL H3:=a3.trans a3';refine⟨SL,a3'.ok,aO p3 λfl SC p4 Os H4 a4=>?_⟩;have iQ:=SR.trans a4;cases fl with|next=>exact⟨SC,a2.trans iQ,aO p4 λfl N' p5 HT H5 a5=>p5 HT H5 (iQ.trans a5)⟩|cont=>exact⟨SC,a2.trans iQ,aO p4 λfl N' p5 HT H5 a5=>p5 HT H5 (iQ.trans a5)⟩|brk=>exact p4 Os H4 iQ|ret r=>exact p4 Os H4 iQ
  .left;have yD:i=ds.length:=by lia
   subst yD;rw[List.drop_length]at p2;exact⟨(io H2 a2.keep).1,p2 Pv H2 (.refl a2.ok)⟩
def eB(t:DT)(b:DS):Nat->DS|0,_=>.stuck|n+1,Z=>(t Z).bind λx T'=>if x then(b T').bind λfl S'=>match fl with|.next=>eB t b n S'|.cont=>eB t b n S'|.brk=>.ok .next S'|.ret v=>.ok (.ret v) S' else .ok .next T'
theorem SV{t:DT}{b:DS}(n:Nat)(hw:∀{tt:TT}{tb:TS},PT X e tt->eW X body tb->PS X (.While e body [] pos) (BY tt tb))(ht:ST X c e t)(hb:jl X c body b):SS X c (.While e body [] pos) (eB t b n):=PS.weak (hw ht hb) λD J H⟨Z,k,q⟩=>by refine⟨λm Pv H2=>∃S',Ok c Pv S' H2/\fg c D Pv S' H2 (eB t b m S'),⟨n,Z,k,q⟩,?_⟩;rintro m Pv H2⟨S',k2,q2⟩;cases m with|zero=>exact q2.elim|succ m=>simp only[eB,fg]at q2;rw[ba]at q2;refine⟨S',k2,aO q2 λx SL q3 H3 a3=>?_⟩;cases x with|false=>exact q3 Pv H3 a3|true=>have p3:post c ((b SL).bind λfl S'=>match fl with|.next=>eB t b m S'|.cont=>eB t b m S'|.brk=>.ok .next S'|.ret v=>.ok (.ret v) S') λfl SZ=>∀J' H',aY c Pv S' H2 J' SZ H'->fin c D J' SZ H' fl:=q3;rw[ba]at p3;refine⟨λOs H4=>∃SC,Ok c Os SC H4/\fg c D Os SC H4 (eB t b m SC),λOs H4 w=>⟨m,Nat.lt_succ_self _,w⟩,SL,a3.ok,aO p3 λfl SC p4 Os H4 a4=>?_⟩;have iQ:=a3.trans a4;cases fl with|next=>exact⟨SC,a4.ok,aO p4 λfl N' p5 HT H5 a5=>p5 HT H5 (iQ.trans a5)⟩|cont=>exact⟨SC,a4.ok,aO p4 λfl N' p5 HT H5 a5=>p5 HT H5 (iQ.trans a5)⟩|brk=>exact p4 Os H4 iQ|ret r=>exact p4 Os H4 iQ
def a_(cs:List Nat)(Z:Dl):Dl:=cs.foldl (λZ i=>Z.set i none) Z
def cg(cs:List Nat)(Z₁ Z:Dl):Dl:=cs.foldl (λZ i=>match Z₁[i]? with|some o=>Z.set i o|none=>Z) Z
def bG(Z:Dl)(i:Nat):Bool:=match Z[i]? with|some (some (.own _))=>true|_=>false
theorem Ef(cs:List Nat):∀Z:Dl,(a_ cs Z).length=Z.length:=by induction cs with|nil=>intro Z;rfl|cons i r ih=>intro Z;show(a_ r (Z.set i none)).length=_;rw[ih];simp
theorem jo:∀(cs:List Nat)(Z:Dl)(i:Nat)(v:S),(a_ cs Z)[i]?=some (some v)->Z[i]?=some (some v)/\i∉cs:=by intro cs;induction cs with|nil=>intro Z i v h;exact⟨h,V'⟩|cons j r ih=>
 intro Z i v h;have h':(a_ r (Z.set j none))[i]?=some (some v):=h;obtain⟨h1,h2⟩:=ih _ i v h';by_cases e:j=i;.subst e;rw[Qi]at h1;simp at h1
 .rw[W4 e]at h1;exact⟨h1,by simp only[Wv,not_or];exact⟨Ne.symm e,h2⟩⟩
theorem lA:∀(cs:List Nat)(J:St)(i:Nat),i∉cs->(bK cs J)[i]?=J[i]?:=by intro cs;induction cs with|nil=>intro J i _;rfl|cons j r ih=>intro J i h;simp only[Wv,not_or]at h;show(bK r (J.set j none))[i]?=_;rw[ih _ _ h.2,W4 (Ne.symm h.1)]
theorem SY:∀(cs:List Nat)(Z:Dl)(i:Nat),i∉cs->(a_ cs Z)[i]?=Z[i]?:=by intro cs;induction cs with|nil=>intro J i _;rfl|cons j r ih=>intro J i h;simp only[Wv,not_or]at h;show(a_ r (J.set j none))[i]?=_;rw[ih _ _ h.2,W4 (Ne.symm h.1)]
theorem S0(cs:List Nat)(Z₁:Dl):∀Z:Dl,(cg cs Z₁ Z).length=Z.length:=by induction cs with|nil=>intro Z;rfl|cons i r ih=>intro Z;unfold cg;rw[Jp];have:=ih (match Z₁[i]? with|some o=>Z.set i o|none=>Z);unfold cg at this;rw[this];cases Z₁[i]?<;>simp
theorem u_:∀(cs:List Nat)(Z₁ Z:Dl)(i:Nat),i∉cs->(cg cs Z₁ Z)[i]?=Z[i]?:=by intro cs Z₁;induction cs with|nil=>intro Z i _;rfl|cons j r ih=>intro Z i h;simp only[Wv,not_or]at h;unfold cg;rw[Jp];have:=ih (match Z₁[j]? with|some o=>Z.set j o|none=>Z) i h.2;unfold cg at this;rw[this];cases Z₁[j]? with|none=>rfl|some o=>simp only;rw[W4 (Ne.symm h.1)]
theorem yE:∀(cs:List Nat)(Z₁ Z:Dl)(i:Nat),Z₁.length=Z.length->i∈cs->(cg cs Z₁ Z)[i]?=Z₁[i]?:=by intro cs Z₁;induction cs with|nil=>intro Z i _ h;simp at h|cons j r ih=>
  intro Z i hl h;unfold cg;rw[Jp];have gJ:Z₁.length=(match Z₁[j]? with|some o=>Z.set j o|none=>Z).length:=by cases Z₁[j]?<;>simp[hl]
  by_cases hr:i∈r;.have:=ih (match Z₁[j]? with|some o=>Z.set j o|none=>Z) i gJ hr;unfold cg at this;exact this
  .have e:i=j:=by grind
   subst e;have:=u_ r Z₁ (match Z₁[i]? with|some o=>Z.set i o|none=>Z) i hr;unfold cg at this;rw[this];cases e:Z₁[i]? with|none=>simp only;have:=List.getElem?_eq_none_iff.mp e;exact WD Z'|some o=>simp only;have:=(W9.mp e).1;rw[Wh Z']
section
variable{l:Addr}
theorem Ok.less(k:Ok (c.plus l) J Z H):Ok c J Z H:=by
 have sub:∀b,Av c J Z b->Av (c.plus l) J Z b:=λb z=>z.elim (λz=>.inl (.inl z)) .inr;refine⟨k.keep,λa z=>k.bd a (.inl z),k.eN,k.len,λi d e=>?_,λi d e=>?_,k.inj,k.pinned⟩;.obtain⟨v,h1,h2⟩:=k.slot i d e;exact⟨v,h1,h2.aS λb z=>.inl (sub b z)⟩
 .obtain⟨a,h1,h2,h3,h4⟩:=k.own i d e;exact⟨a,h1,h2.aS λb z=>.inl (sub b z),h3,λz=>h4 (.inl z)⟩
theorem Ok.S3(k:Ok c J Z H)(hb:c.B l)(h0:c.H₀ l=none)(o:HO):Ok c J Z (upd H l o):=by
 have kp:∀b w,H b=some w->¬Av c J Z b->upd H l o b=some w:=λb w e n=>by rw[aN λz=>n %[z|.inl hb]];exact e
 have ip:∀b w,H b=some w->∃w',upd H l o b=some w':=λb w h=>by
  by_cases hb:b=l;.exact⟨_,%[hb|cW]⟩
  .exact⟨w,%[aN hb|h]⟩
 refine⟨λa w e n=>?_,λa z=>?_,λa z=>?_,k.len,λi d e=>?_,λi d e=>?_,k.inj,k.pinned⟩
 .have:a≠l:=λz=>by grind
  rw[aN this];exact k.keep a w e n
 .obtain⟨w,e⟩:=k.bd a z;exact ip a w e
 .obtain⟨w,e⟩:=k.eN a z;exact ip a w e
 .obtain⟨v,h1,h2⟩:=k.slot i d e;exact⟨v,h1,h2.keep kp⟩
 .obtain⟨a,h1,h2,h3,h4⟩:=k.own i d e;have:a≠l:=λz=>h4 %[z|hb];exact⟨a,h1,h2.keep kp λw q=>%[aN this|q],h3,h4⟩
theorem Own.bK(h:Own (bK cs J) (a_ cs Z) l):Own J Z l:=by obtain⟨i,d,e1,e2⟩:=h;exact⟨i,d,(jo cs Z i _ e1).1,(mG cs J i _ e2).1⟩
theorem Ok.bK(k:Ok c J Z H)(hp:∀p∈c.pin,p.1∉cs):Ok c (Lake.bK cs J) (a_ cs Z) H:=by
 have sub:∀b,Av c (Lake.bK cs J) (a_ cs Z) b->Av c J Z b:=λb z=>z.elim .inl λz=>.inr z.bK;refine⟨k.keep,k.bd,k.eN,%[Ef,uG|k.len],λi d e=>?_,λi d e=>?_,λi j a d d' e1 e2 e3 e4=>?_,λp hm=>?_⟩;.obtain⟨e',hi⟩:=jo cs Z i _ e;obtain⟨v,h1,h2⟩:=k.slot i d e';exact⟨v,%[lA cs J i hi|h1],h2.aS λb z=>.inl (sub b z)⟩
 .obtain⟨e',hi⟩:=jo cs Z i _ e;obtain⟨a,h1,h2,h3⟩:=k.own i d e';exact⟨a,%[lA cs J i hi|h1],h2.aS λb z=>.inl (sub b z),h3⟩
 .exact k.inj i j a d d' (jo cs Z i _ e1).1 (jo cs Z j _ e2).1 (mG cs J i _ e3).1 (mG cs J j _ e4).1
 .rw[lA cs J _ (hp p hm)];exact k.pinned p hm
theorem aY.back(k:Ok c₀ J Z H)(S4:c.pin=c₀.pin)(hB:∀b,c.B b->c₀.B b\/H b=none)(jq:cs.any (bG Z)=false)(x:aY c (Lake.bK cs J) (a_ cs Z) H (Lake.bK cs J) SZ H'):aY c J Z H J (cg cs Z SZ) H':=by
 have len:Z.length=SZ.length:=by have:=x.ok.len;rw[uG]at this;rw[this];exact k.len
 have t9:∀i d,i∈cs->Z[i]?≠some (some (.own d)):=λi d hi e=>by have:=List.any_eq_false.mp jq i hi;unfold bG at this;rw[e]at this;simp at this
 have ownOut:∀i d,(cg cs Z SZ)[i]?=some (some (.own d))->i∉cs/\SZ[i]?=some (some (.own d)):=λi d e=>by
  by_cases hi:i∈cs;.rw[yE cs Z SZ i len hi]at e;exact absurd e (t9 i d hi)
  .rw[u_ cs Z SZ i hi]at e;exact⟨hi,e⟩
 have sub:∀b,Own J (cg cs Z SZ) b->Own (Lake.bK cs J) SZ b:=λb⟨i,d,e1,e2⟩=>by obtain⟨hi,e⟩:=ownOut i d e1;exact⟨i,d,e,%[lA cs J i hi|e2]⟩
 have jr:∀b,Av c J (cg cs Z SZ) b->Av c (Lake.bK cs J) SZ b:=λb z=>z.elim .inl λz=>.inr (sub b z);have ownEq:∀b,Own J Z b->Own (Lake.bK cs J) (a_ cs Z) b:=λb⟨i,d,e1,e2⟩=>by have hi:i∉cs:=λz=>t9 i d z e1;exact⟨i,d,%[SY cs Z i hi|e1],%[lA cs J i hi|e2]⟩
 refine⟨⟨x.ok.keep,x.ok.bd,x.ok.eN,by rw[S0,<-len];exact k.len,λi d e=>?_,λi d e=>?_,λi j a d d' e1 e2 e3 e4=>?_,%[S4|k.pinned]⟩,λa o e n=>?_,λa z=>?_,x.there⟩
 .by_cases hi:i∈cs
  .rw[yE cs Z SZ i len hi]at e;obtain⟨v,h1,h2⟩:=k.slot i d e;have h3:Rep H (Av c (Lake.bK cs J) (a_ cs Z)) v d:=h2.aS λb z=>by
    rcases z with z|z;.exact(hB b z).elim (λz=>.inl (.inl z)) .inr
    .exact .inl (.inr z.bK)
   exact⟨v,h1,(Rep.dQ h3 x).aS λb z=>.inl (jr b z)⟩
  .rw[u_ cs Z SZ i hi]at e;obtain⟨v,h1,h2⟩:=x.ok.slot i d e;exact⟨v,(mG cs J i v h1).1,h2.aS λb z=>.inl (jr b z)⟩
 .obtain⟨hi,e'⟩:=ownOut i d e;obtain⟨a,h1,h2,h3⟩:=x.ok.own i d e';exact⟨a,(mG cs J i _ h1).1,h2.aS λb z=>.inl (jr b z),h3⟩
 .obtain⟨hi,f1⟩:=ownOut i d e1;obtain⟨hj,f2⟩:=ownOut j d' e2;exact x.ok.inj i j a d d' f1 f2 %[lA cs J i hi|e3] %[lA cs J j hj|e4]
 .exact x.keep a o e λz=>n z.bK
 .rcases x.own a (sub a z)with q|q;.exact .inl q.bK
  .exact .inr q
end
noncomputable def bX(cs:List Nat)(g:DG)(t:DT)(el:DE):List D->Dl->List D->Rs (List D)|[],Z,acc=>.ok acc Z|d::r,Z,acc=>match g (.pure d) Z with|none=>.stuck|some T'=>(t T').bind λb S'=>if b then(el S').bind λx SL=>if acc.length<Wd then bX cs g t el r (a_ cs SL) (acc++[x.d])else .stuck else bX cs g t el r (a_ cs S') acc
def aK(cs:List Nat)(it:DI)(g:DG)(t:DT)(el:DE):DE:=λZ=>(it Z).bind λds T'=>if cs.any (bG T')then .stuck else(bX cs g t el ds (a_ cs T') []).bind λacc S'=>.ok (.own (.lst acc)) (cg cs T' S')
def aG:DT:=λZ=>.ok true Z
abbrev rJ(X:Cx)(c:Fc)(ifs:List Expr)(t:DT):Prop:=oW X ifs (tT c t)
theorem S5:rJ X c [] aG:=λpins s J H Q I⟨Z,k,q⟩=>PC pins s J H Q I (q H (.refl k))
theorem S6{t:DT}(h:ST X c e t):rJ X c [e] t:=PF h
section
variable{it:DI}{g:DG}{t:DT}{el:DE}
theorem aY.clear(x:aY c (Lake.bK cs J) Z H Os SC H4)(le:Le (Lake.bK cs J) Os)(hp:∀p∈c.pin,p.1∉cs)(hs:∀(i:Nat)v,Os[i]?=some (some v)->i∉cs->J[i]?=some (some v)):aY c (Lake.bK cs J) Z H (Lake.bK cs J) (a_ cs SC) H4:=by
 have eq:∀i,i∉cs->∀v,Os[i]?=some (some v)->(Lake.bK cs J)[i]?=some (some v):=λi hi v e=>%[lA cs J i hi|hs i v e hi];have own:∀b,Own (Lake.bK cs J) (a_ cs SC) b->Own Os SC b:=λb⟨i,d,e1,e2⟩=>by exact⟨i,d,(jo cs SC i _ e1).1,le.2 i _ e2⟩
 have sub:∀b,Av c (Lake.bK cs J) (a_ cs SC) b->Av c Os SC b:=λb z=>z.elim .inl λz=>.inr (own b z);have k:=x.ok;refine⟨⟨k.keep,k.bd,k.eN,%[Ef,k.len|le.1],λi d e=>?_,λi d e=>?_,λi j a d d' e1 e2 e3 e4=>?_,λp hm=>?_⟩,x.keep,λa z=>x.own a (own a z),x.there⟩;.obtain⟨e',hi⟩:=jo cs SC i _ e;obtain⟨v,h1,h2⟩:=k.slot i d e';exact⟨v,eq i hi v h1,h2.aS λb z=>.inl (sub b z)⟩
 .obtain⟨e',hi⟩:=jo cs SC i _ e;obtain⟨a,h1,h2,h3⟩:=k.own i d e';exact⟨a,eq i hi _ h1,h2.aS λb z=>.inl (sub b z),h3⟩
 .exact k.inj i j a d d' (jo cs SC i _ e1).1 (jo cs SC j _ e2).1 (le.2 i _ e3) (le.2 j _ e4)
 .exact eq p.1 (hp p hm) _ (k.pinned p hm)
def Out(cs:List Nat)(J J':St):Prop:=J'.length=J.length/\∀i,i∉cs->J'[i]?=J[i]?
theorem Out.trans(a:Out cs J J')(b:Out cs J' J''):Out cs J J'':=⟨b.1.trans a.1,λi h=>(b.2 i h).trans (a.2 i h)⟩
def va(cs:List Nat)(c:Fc)(g:DG):TG:=λv J H Q=>∃J₀ Z₀ H₁ Z r SZ,aY c J₀ Z₀ H₁ J Z H/\bu c J Z H₁ H v r/\g r Z=some SZ/\∀J',aY c J₀ Z₀ H₁ J' SZ H->Out cs J J'->Q J' H
abbrev pC(X:Cx)(c:Fc)(cs:List Nat)(tg:Expr)(g:DG):Prop:=PG X tg (va cs c g)
universe H in theorem S7(hp:Np c np)(hN:X.N.Nodup)(hi:X.N[i]?=some x)(hx:Loc X.env.scope x)(hf:X.fn x=true\/X.env.scope.names.lookup x=some .local)(hc:i∈cs):pC X c cs (.Name x pos) (ae np i):=PG.weak (BQ hN hi hx hf) λv J H Q hh=>by
 obtain⟨J₀,Z₀,H₁,Z,r,SZ,x,rr,e,q⟩:=hh
 unfold ae at e;split at e;.cases e
 .rename_i hn;cases e;refine q _ (Ok.set x rr λp hm e=>hn (by rw[<-e];exact hp p hm)) ⟨V',λj hj=>?_⟩;rw[W4 λz=>hj (by rw[<-z];exact hc)]
def S8(cs:List Nat)(c:Fc)(g:jm):mh:=λvs J H Q=>∃Z ds SZ,Ok c J Z H/\aI H (Av c J Z) vs ds/\g ds Z=some SZ/\∀J',aY c J Z H J' SZ H->Out cs J J'->Q J' H
abbrev rK(X:Cx)(c:Fc)(cs:List Nat)(tg:List Expr)(g:jm):Prop:=iG X tg (S8 cs c g)
theorem S9:rK X c cs [] aT:=iG.weak BR λvs J H Q hh=>by
 obtain⟨Z,ds,SZ,k,r,e,q⟩:=hh
 cases ds with|nil=>
 cases e;have:vs=[]:=by have:=r.1;simpa using this
 exact⟨this,q J (.refl k) ⟨rfl,λj j=>rfl⟩⟩|cons d r=>cases e
theorem S_{g:DG}(h1:pC X c cs e g)(h2:rK X c cs es gs)(hs:(Qx (e::es) X.env).map (·.2)=assign e X.env::(Qx es X.env).map (·.2):=by rfl):rK X c cs (e::es) (aC g gs):=iG.weak (BU h1 h2 hs) λvs J H Q hh=>by obtain⟨Z,ds,SZ,k,r,e,q⟩:=hh;cases ds with|nil=>cases e|cons d ds=>cases vs with|nil=>have:=r.1;simp at this|cons v vs=>simp only[aC]at e;cases e1:g (.pure d) Z with|none=>rw[e1]at e;cases e|some T'=>rw[e1]at e;refine⟨v,vs,rfl,J,Z,H,Z,.pure d,T',.refl k,r.head,e1,λKM a1 o1=>?_⟩;exact⟨T',ds,SZ,a1.ok,aI.dQ r.tail a1,e,λPv a2 o2=>q Pv (a1.trans a2) (o1.trans o2)⟩
universe H in theorem Ta{k:Nat}(hc:X.calm=true)(h:rK X c cs es gs)(hn:(Qx es X.env).length=n:=by rfl)(fS:(Qx es X.env).findIdx? (·.1)=none:=by rfl):pC X c cs (.Tuple es k pos) (aR n gs):=PG.weak (BV hc h hn fS) λv J H Q hw=>by
 obtain⟨J₀,Z₀,H₁,Z,r,SZ,x,rr,e,q⟩:=hw;have hb:=rr.b;unfold aR at e;generalize r.d=d at e hb;cases d<;>first|(cases e;done)|skip
 rename_i ds;simp only at e;split at e;.rename_i hl;obtain⟨a,vs,ea,ha,ra⟩:=hb.tup;exact⟨a,vs,ea,.of ha,%[ra.1|hl],Z,ds,SZ,x.ok,ra,e,λJ' a1 o1=>q J' (x.trans a1) o1⟩
 .cases e
theorem aY.less(x:aY (c.plus l) J Z H J' SZ H'):aY c J Z H J' SZ H':=⟨x.ok.less,x.keep,x.own,x.there⟩
universe H in theorem Eg{Q}(Tb:∀J H R,tI c it J H R->wi J H R)(hg:∀l v J H Q,va cs (c.plus l) g v J H Q->gt v J H Q)(ht:∀l J H Q,tT (c.plus l) t J H Q->tt J H Q)(he:∀l J H Q,tD (c.plus l) el J H Q->te J H Q)(hp:∀p∈c.pin,p.1∉cs)(h:tD c (aK cs it g t el) J H Q):x_ cs wi gt tt te J H Q:=by
 obtain⟨Z,k,q⟩:=h;unfold aK at q;rw[ba]at q;refine Tb _ _ _ ⟨Z,k,aO q λds T' q1 M' H1 a1 io=>?_⟩;intro l hl;split at q1;.exact q1.elim
 .rename_i jq;have Eh:cs.any (bG T')=false:=by grind
  rw[ba]at q1;have k1:=a1.ok;have kp:=k1.plus hl (.lst []);have k0:Ok (c.plus l) (Lake.bK cs J) (a_ cs T') (upd H1 l (.lst [])):=kp.bK hp;have up:∀a w,H1 a=some w->upd H1 l (.lst []) a=some w:=λa w e=>by rw[aN (gF e hl)];exact e
  have h0:c.H₀ l=none:=k1.mJ hl;have yF:oq (c.plus l) (Lake.bK cs J) (a_ cs T') H1 M' ds:=by
   intro H2 yG;obtain⟨s1,s2⟩:=io H2 λa o e n=>yG a o e λz=>n z.bK;have cv:∀{x:V}{d:D},Rep H1 (Av c J T') x d->Rep H1 (Av (c.plus l) (Lake.bK cs J) (a_ cs T')) x d:=λ{x d}r=>r.aS λb z=>by
     rcases z with(z|z)|z;.exact .inl (.inl z)
     .exact .inr %[z|hl]
     .exact .inl (.inr z.bK)
   refine⟨s1,λi d e=>⟨(s2 i d e).1,λx H3 y=>?_⟩⟩;rcases(s2 i d e).2 x H3 y with⟨e3,r⟩|⟨p,vs,es,hp,e3,ex,ed,r⟩;.exact .inl ⟨e3,cv r⟩
   .exact .inr ⟨p,vs,es,hp,e3,ex,ed,r.1,λi v d e1 e2=>cv (r.2 i v d e1 e2)⟩
  let Fin:List D->Dl->Prop:=λacc SZ=>∀H' vs,aY (c.plus l) (Lake.bK cs J) (a_ cs T') H1 (Lake.bK cs J) SZ H'->H' l=some (.lst vs)->aI H' (Av (c.plus l) (Lake.bK cs J) SZ) vs acc->Q (.ref l) H';have q2:post c (bX cs g t el ds (a_ cs T') []) Fin:=aO q1 λacc S' q2 H' vs x hv r=>by
   have b1:aY (c.plus l) J T' H1 J (cg cs T' S') H':=aY.back k1 rfl (λb z=>z.elim .inl λz=>.inr %[z|hl]) Eh x;have b2:aY c J T' H1 J (cg cs T' S') H':=b1.less;have len:T'.length=S'.length:=by have:=x.ok.len;rw[uG]at this;rw[this];exact k1.len
   have Tc:H l=none:=by cases e:H l with|none=>rfl|some o=>obtain⟨o',e'⟩:=a1.there l o e;grind
   refine q2 _ H' (a1.trans b2) ⟨l,rfl,⟨vs,hv,aI.aS r λb z=>.inl ?_⟩,λz=>k1.iJ hl (.inl z),h0,b1.ok,Tc⟩;rcases z with z|⟨i,d,e1,e2⟩;.exact .inl z
   .have hi:i∉cs:=λhi=>by rw[yE cs T' S' i len hi]at e1;have:=List.any_eq_false.mp Eh i hi;unfold bG at this;rw[e1]at this;simp at this
    rw[u_ cs T' S' i hi]at e1;exact .inr ⟨i,d,e1,%[lA cs J i hi|e2]⟩
  refine⟨λi m H2=>∃S' acc vs,m=ds.length-i/\i<=ds.length/\aY (c.plus l) (Lake.bK cs J) (a_ cs T') H1 (Lake.bK cs J) S' H2/\H2 l=some (.lst vs)/\aI H2 (Av (c.plus l) (Lake.bK cs J) S') vs acc/\post c (bX cs g t el (ds.drop i) S' acc) Fin,⟨ds.length,a_ cs T',[],[],V',Qc _,⟨k0,λa w e _=>up a w e,λa z=>.inl z,λa w e=>⟨w,up a w e⟩⟩,cW,.nil,%[List.drop_zero|q2]⟩,?_⟩;rintro i m H2⟨S',acc,vs,rfl,jR,a2,hv,rv,p2⟩;by_cases a0:i<ds.length;.right;have e:ds[i]?=some ds[i]:=#v[a0];rw[J0 a0]at p2;refine⟨((yF H2 a2.keep).2 i _ e).1,λx H3 y=>hg l _ _ _ _ ?_⟩;obtain⟨a3,r3⟩:=Ee yF a2 e y;simp only[bX]at p2;cases eg:g (.pure ds[i]) S' with|none=>rw[eg]at p2;exact p2.elim|some SL=>
    rw[eg]at p2;have p3:post c ((t SL).bind λb S'=>if b then(el S').bind λx SL=>if acc.length<Wd then bX cs g t el (ds.drop (i+1)) (a_ cs SL) (acc++[x.d])else .stuck else bX cs g t el (ds.drop (i+1)) (a_ cs S') acc) Fin:=p2;refine⟨Lake.bK cs J,S',H3,S',.pure ds[i],SL,.refl a3.ok,r3,eg,λOs a4 o4=>?_⟩;have le:Le (Lake.bK cs J) Os:=⟨o4.1,λj v ej=>by rw[o4.2 j (mG cs J j v ej).2];exact ej⟩;have hs:∀(j:Nat)v,Os[j]?=some (some v)->j∉cs->J[j]?=some (some v):=λj v ej hj=>by rw[o4.2 j hj]at ej;exact(mG cs J j v ej).1
    refine⟨le,ht l _ _ _ ⟨SL,a4.ok,?_⟩⟩;rw[ba]at p3;have Ei:∀p∈(c.plus l).pin,p.1∉cs:=hp;have iQ:=a2.trans (a3.trans a4);have ln:∀{J':St}{SZ:Dl}{H':Hp},Ok (c.plus l) J' SZ H'->¬Own J' SZ l:=λ{J' SZ H'}k=>uL k;have Td:post (c.plus l) (t SL) λb N'=>post c (if b then(el N').bind λx SL=>if acc.length<Wd then bX cs g t el (ds.drop (i+1)) (a_ cs SL) (acc++[x.d])else .stuck else bX cs g t el (ds.drop (i+1)) (a_ cs N') acc) Fin:=p3;refine aO Td λb N' p5 H5 a5=>?_;have Ej:=iQ.trans a5;have Te:H3 l=some (.lst vs):=a3.keep l _ hv (ln a2.ok);have Ek:H5 l=some (.lst vs):=a5.keep l _ Te (ln a4.ok);have Em:=aI.dQ (aI.dQ (aI.dQ rv a3) a4) a5;cases b with|false=>have c5:=Ej.clear le Ei hs;refine⟨ds.length-(i+1),Z',a_ cs N',acc,vs,rfl,a0,c5,Ek,aI.aS Em λb z=>.inl ?_,p5⟩;exact z.elim .inl λ⟨j,d,e1,e2⟩=>.inr ⟨j,d,(jo cs N' j _ e1).1,le.2 j _ e2⟩|true=>
     have En:post c ((el N').bind λx SL=>if acc.length<Wd then bX cs g t el (ds.drop (i+1)) (a_ cs SL) (acc++[x.d])else .stuck) Fin:=p5;rw[ba]at En;refine he l _ _ _ ⟨N',a5.ok,?_⟩;have p6:post (c.plus l) (el N') λx IR=>post c (if acc.length<Wd then bX cs g t el (ds.drop (i+1)) (a_ cs IR) (acc++[x.d])else .stuck) Fin:=En;refine aO p6 λx IR p7 v H6 a6 r6=>?_;split at p7
     .rename_i hz;have Tf:=Ej.trans a6;have Tg:H6 l=some (.lst vs):=a6.keep l _ Ek (ln a5.ok);have Eo:=aI.dQ Em a6;have rr:aI H6 (Av (c.plus l) Os IR) (vs++[v]) (acc++[x.d]):=Eo.append (.cons r6.rep .nil);have c6:=Tf.clear le Ei hs;have vb:∀b o,H6 b=some o->¬Av (c.plus l) Os IR b->upd H6 l (.lst (vs++[v])) b=some o:=λb o e n=>by rw[aN λz=>n %[z|.inl (.inr rfl)]];exact e
      have Th:∀b,Av (c.plus l) (Lake.bK cs J) (a_ cs IR) b->Av (c.plus l) Os IR b:=λb z=>z.elim .inl λ⟨j,d,e1,e2⟩=>.inr ⟨j,d,(jo cs IR j _ e1).1,le.2 j _ e2⟩;refine⟨vs,ds.length-(i+1),Tg,%[Eo.1|hz],Z',a_ cs IR,acc++[x.d],vs++[v],rfl,a0,?_,cW,aI.aS (aI.keep rr vb) λb z=>.inl (Th b z),p7⟩;refine⟨c6.ok.S3 (.inr rfl) h0 _,λa o ea n=>?_,λa z=>c6.own a z,λa o ea=>?_⟩
      .have yH:a≠l:=λz=>by grind
       rw[aN yH];exact c6.keep a o ea n
      .by_cases yH:a=l;.grind
       .obtain⟨o',e'⟩:=c6.there a o ea;exact⟨o',%[aN yH|e']⟩
     .exact p7.elim
  .left;have yD:i=ds.length:=by lia
   subst yD;rw[List.drop_length]at p2;exact⟨(yF H2 a2.keep).1,p2 H2 vs a2 hv rv⟩
theorem Ti(hc:X.calm=true)(S:n5 X scope cs)(hi:SI X c tg iter it)(hg:∀l s₀ H₀ ex,pC (fK X scope s₀ H₀ ex) (c.plus l) cs tg g)(ht:∀l s₀ H₀ ex,rJ (fK X scope s₀ H₀ ex) (c.plus l) ifs t)(he:∀l s₀ H₀ ex,SE (fK X scope s₀ H₀ ex) (c.plus l) elt el)(hp:∀p∈c.pin,p.1∉cs)(hs:∀x,Ju iter X.env x=pure x:=by intro _;rfl):SE X c (.ListComp elt [⟨tg,iter,ifs,0⟩] scope pos) (aK cs it g t el):=PE.weak (PY (g:=λv J H Q=>∃l,va cs (c.plus l) g v J H Q) (tt:=λJ H Q=>∃l,tT (c.plus l) t J H Q) (te:=λJ H Q=>∃l,tD (c.plus l) el J H Q) hc S hi (λs₀ H₀ ex pins s J H v u Q I r⟨l,q⟩=>hg l s₀ H₀ ex pins s J H v u Q I r q) (λs₀ H₀ ex pins s J H Q I⟨l,q⟩=>ht l s₀ H₀ ex pins s J H Q I q) (λs₀ H₀ ex pins s J H Q I⟨l,q⟩=>he l s₀ H₀ ex pins s J H Q I q) hs) λJ H Q h=>Eg (λj j j h=>h) (λl j j j j h=>⟨l,h⟩) (λl j j j h=>⟨l,h⟩) (λl j j j h=>⟨l,h⟩) hp h
theorem Tj{y:Str}{uJ:Pos}(fW:Np c np)(hc:X.calm=true)(S:n5 X scope cs)(hN:X.N.Nodup)(ij:X.N[i]?=some y)(hy:X.env.scope.names.lookup y=some .local)(hi:SI X c tg iter it)(hg:∀l s₀ H₀ ex,pC (fK X scope s₀ H₀ ex) (c.plus l) cs tg g)(ht:∀l s₀ H₀ ex,rJ (fK X scope s₀ H₀ ex) (c.plus l) ifs t)(he:∀l s₀ H₀ ex,SE (fK X scope s₀ H₀ ex) (c.plus l) elt el)(hp:∀p∈c.pin,p.1∉cs)(qS:Je (.ListComp elt [⟨tg,iter,ifs,0⟩] scope pos) (some (.Name y py)) uJ.line X.env=pure true:=by rfl)(hs:∀x,Ju iter X.env x=pure x:=by intro _;rfl):SS X c (.Assign [.Name y py] (.ListComp elt [⟨tg,iter,ifs,0⟩] scope pos) uJ) (aq (aK cs it g t el) (ae np i)):=PS.weak (PZ (g:=λv J H Q=>∃l,va cs (c.plus l) g v J H Q) (tt:=λJ H Q=>∃l,tT (c.plus l) t J H Q) (te:=λJ H Q=>∃l,tD (c.plus l) el J H Q) hc S hN ij hy hi (λs₀ H₀ ex pins s J H v u Q I r⟨l,q⟩=>hg l s₀ H₀ ex pins s J H v u Q I r q) (λs₀ H₀ ex pins s J H Q I⟨l,q⟩=>ht l s₀ H₀ ex pins s J H Q I q) (λs₀ H₀ ex pins s J H Q I⟨l,q⟩=>he l s₀ H₀ ex pins s J H Q I q) qS hs) λD J H h=>yA (λJ H Q h=>Eg (λj j j h=>h) (λl j j j j h=>⟨l,h⟩) (λl j j j h=>⟨l,h⟩) (λl j j j h=>⟨l,h⟩) hp h) (λj j j j h=>yz fW h) h
end
abbrev DF:=List S->Option (S×List S)
def dX:Nat->List S->List V->List (Nat×Addr)|n,.own _::ss,.ref a::vs=>(n,a)::dX (n+1) ss vs|n,_::ss,_::vs=>dX (n+1) ss vs|_,_,_=>[]
theorem rL:∀{n:Nat}{ss:List S}{vs:List V}{i:Nat}{a:Addr},(i,a)∈dX n ss vs->∃j d,i=n+j/\ss[j]?=some (.own d)/\vs[j]?=some (.ref a)
 |n,[],vs,i,a,h=>by simp[dX]at h|n,s::ss,[],i,a,h=>by cases s<;>simp[dX]at h|n,s::ss,v::vs,i,a,h=>by
  have yI:(i,a)∈dX (n+1) ss vs->∃j d,i=n+j/\(s::ss)[j]?=some (.own d)/\(v::vs)[j]?=some (.ref a):=λh=>by obtain⟨j,d,e,h1,h2⟩:=rL h;exact⟨j+1,d,Z',~~~h1,~~~h2⟩
  cases s with|pure d=>exact yI h|own d=>
 cases v with|ref b=>
    rcases Wv.mp h with e|h;.cases e;exact⟨0,d,rfl,rfl,rfl⟩
    .exact yI h|_=>exact yI h
theorem vc:∀{n:Nat}{ss:List S}{vs:List V}{j:Nat}{d:D}{a:Addr},ss[j]?=some (.own d)->vs[j]?=some (.ref a)->(n+j,a)∈dX n ss vs
 |n,[],vs,j,d,a,h,_=>by simp at h|n,s::ss,[],j,d,a,_,h=>by simp at h|n,s::ss,v::vs,0,d,a,h1,h2=>by simp at h1 h2;subst h1 h2;exact Wc|n,s::ss,v::vs,j+1,d,a,h1,h2=>by
  have ih:=vc (n:=n+1) (ss:=ss) (vs:=vs) (j:=j) (d:=d) (a:=a) (~~~h1) (~~~h2);have e:n+1+j=n+(j+1):=by lia
  rw[e]at ih;cases s with|pure d=>exact ih|own d=>cases v with|ref b=>exact W8 _ ih|_=>exact ih
abbrev cX(vs:List V):St:=vs.map some
abbrev cY(ss:List S):Dl:=ss.map some
theorem fX{r:S}:(cY ss)[i]?=some (some r)↔ss[i]?=some r:=by rw[Wo];cases ss[i]?<;>simp
theorem gv{v:V}:(cX vs)[i]?=some (some v)↔vs[i]?=some v:=by rw[Wo];cases vs[i]?<;>simp
def mS(n:Nat)(G:DF):Sp:=λvs H Q j=>∃ss B,vs.length=n/\Ok ⟨H,B,dX 0 ss vs,λj j=>False⟩ (cX vs) (cY ss) H/\∃r aZ,G ss=some (r,aZ)/\∀v H',aY ⟨H,B,dX 0 ss vs,λj j=>False⟩ (cX vs) (cY ss) H (cX vs) (cY aZ) H'->bu ⟨H,B,dX 0 ss vs,λj j=>False⟩ (cX vs) (cY aZ) H H' v r->Q v H'
def aJ(P:Wt)(w:Ww)(K:Wa)(mg:Str->Option Value)(base:Heap)(k:Nat)(x:Str)(n:Nat)(G:DF):Prop:=∃(f:Addr)(fd:QX)(ps:List Str),mg x=some (.ref f)/\Ui K (.ref f)=true/\Binds K fd ps []/\jK P w K mg base jf k f fd ps (mS n G)
def bw(n:Nat)(ss:List S):Dl:=cY ss++Wp (n-ss.length) none
def cn:Nat->List S->Dl->Option (List S)|_,[],_=>some []|n,.pure d::ss,Z=>(cn (n+1) ss Z).map (.pure d::.)|n,.own _::ss,Z=>match Z[n]? with|some (some (.own d'))=>(cn (n+1) ss Z).map (.own d'::.)|_=>none
noncomputable def df:Fl->Option S|.next=>0#(.aX)|.ret r=>some r|_=>none
def gZ(f:DS)(n:Nat)(ss:List S):Option (S×List S):=match f (bw n ss)with|.ok fl Z=>(df fl).bind λr=>(cn 0 ss Z).map λaZ=>(r,aZ)|_=>none
def cG(np:List Nat):Nat->List S->Bool|_,[]=>true|n,.own _::ss=>np.contains n&&cG np (n+1) ss|n,.pure _::ss=>cG np (n+1) ss
theorem Ep:∀{n:Nat}{ss:List S}{j:Nat}{d:D},cG np n ss=true->ss[j]?=some (.own d)->np.contains (n+j)=true
 |n,[],j,d,_,h=>by simp at h|n,s::ss,0,d,h,e=>by simp at e;subst e;simp only[cG,Wu]at h;exact h.1|n,s::ss,j+1,d,h,e=>by
  have h':cG np (n+1) ss=true:=by cases s with|pure d=>exact h|own d=>simp only[cG,Wu]at h;exact h.2
  have:=Ep (n:=n+1) (j:=j) h' (~~~e);rw[show n+(j+1)=n+1+j by lia];exact this
universe H in theorem vd:∀{n:Nat}{ss aZ:List S}{Z:Dl},cn n ss Z=some aZ->aZ.length=ss.length/\∀(i:Nat)s,ss[i]?=some s->(∃d,s=.pure d/\aZ[i]?=0#d)\/∃d d',s=.own d/\Z[n+i]?=some (some (.own d'))/\aZ[i]?=some (.own d')
 |n,[],aZ,Z,h=>by simp only[cn,Wg]at h;subst h;exact⟨rfl,λi s e=>by simp at e⟩|n,.pure d::ss,aZ,Z,h=>by simp only[cn]at h;cases e:cn (n+1) ss Z with|none=>rw[e]at h;cases h|some os=>rw[e]at h;simp only[WM,Wg]at h;subst h;obtain⟨h1,h2⟩:=vd e;refine⟨#v[h1],λi s es=>?_⟩;cases i with|zero=>simp at es;subst es;exact .inl ⟨d,rfl,rfl⟩|succ i=>
    rcases h2 i s (~~~es)with⟨d,z1,z2⟩|⟨d,d',z1,z2,z3⟩;.exact .inl ⟨d,z1,~~~z2⟩
    .exact .inr ⟨d,d',z1,%[show n+(i+1)=n+1+i by lia|z2],~~~z3⟩
 |n,.own d::ss,aZ,Z,h=>by
  simp only[cn]at h;split at h;.rename_i d' ed;cases e:cn (n+1) ss Z with|none=>rw[e]at h;cases h|some os=>rw[e]at h;simp only[WM,Wg]at h;subst h;obtain⟨h1,h2⟩:=vd e;refine⟨#v[h1],λi s es=>?_⟩;cases i with|zero=>simp at es;subst es;exact .inr ⟨d,d',rfl,ed,rfl⟩|succ i=>
     rcases h2 i s (~~~es)with⟨d,z1,z2⟩|⟨d,d',z1,z2,z3⟩;.exact .inl ⟨d,z1,~~~z2⟩
     .exact .inr ⟨d,d',z1,%[show n+(i+1)=n+1+i by lia|z2],~~~z3⟩
  .cases h
section
variable{aZ:List S}
theorem mT{α:Type}{l:List (Option α)}{k:Nat}{v:α}(h:(l++Wp k none)[i]?=some (some v)):l[i]?=some (some v):=by
 by_cases hi:i<l.length;.rw[List.getElem?_append_left hi]at h;exact h
 .rw[List.getElem?_append_right Z',List.getElem?_replicate]at h;split at h<;>cases h
theorem lB{α:Type}{l:List (Option α)}{k:Nat}{v:α}(h:l[i]?=some (some v)):(l++Wp k none)[i]?=some (some v):=by have hi:i<l.length:=(W9.mp h).1;rw[List.getElem?_append_left hi];exact h
theorem Own.ext{k:Nat}:Own (J++Wp k none) (Z++Wp k none) a↔Own J Z a:=⟨λ⟨i,d,e1,e2⟩=>⟨i,d,mT e1,mT e2⟩,λ⟨i,d,e1,e2⟩=>⟨i,d,lB e1,lB e2⟩⟩
theorem Ok.ext(k:Ok c J Z H)(n:Nat):Ok c (J++Wp n none) (Z++Wp n none) H:=by
 have sub:∀b,Av c (J++Wp n none) (Z++Wp n none) b->Av c J Z b:=λb z=>z.elim .inl λz=>.inr (Own.ext.mp z);refine⟨k.keep,k.bd,k.eN,#v[k.len],λi d e=>?_,λi d e=>?_,λi j a d d' e1 e2 e3 e4=>k.inj i j a d d' (mT e1) (mT e2) (mT e3) (mT e4),λp hm=>lB (k.pinned p hm)⟩;.obtain⟨v,h1,h2⟩:=k.slot i d (mT e);exact⟨v,lB h1,h2.aS λb z=>.inl (sub b z)⟩
 .obtain⟨a,h1,h2,h3⟩:=k.own i d (mT e);exact⟨a,lB h1,h2.aS λb z=>.inl (sub b z),h3⟩
theorem Er(hc:c=⟨H,B,dX 0 ss vs,λy y=>False⟩)(k:Ok c (cX vs) (cY ss) H)(x:aY c (cX vs++Wp n none) (cY ss++Wp n none) H J' SZ H')(ho:cn 0 ss SZ=some aZ):aY c (cX vs) (cY ss) H (cX vs) (cY aZ) H'/\∀v r,bu c J' SZ H H' v r->bu c (cX vs) (cY aZ) H H' v r:=by
 obtain⟨hlen,ve⟩:=vd ho;have rM:ss.length=vs.length:=by have:=k.len;simpa using this
 have pin:∀(i:Nat)(a:Addr)(d:D),ss[i]?=some (.own d)->vs[i]?=some (.ref a)->J'[i]?=some (some (.ref a)):=λi a d h1 h2=>by have:=vc (n:=0) h1 h2;rw[Q4]at this;exact x.ok.pinned (i,a) %[hc|this]
 have vf:∀(i:Nat)(d:D),aZ[i]?=some (.own d)->(∃d₀,ss[i]?=some (.own d₀))/\SZ[i]?=some (some (.own d)):=λi d e=>by
  have hi:i<ss.length:=by rw[<-hlen];exact(W9.mp e).1
  rcases ve i ss[i] #v[hi]with⟨d₁,z1,z2⟩|⟨d₁,d',z1,z2,z3⟩;all_goals grind
 have sub:∀b,Own (cX vs) (cY aZ) b->Own J' SZ b:=λb⟨i,d,e1,e2⟩=>by obtain⟨⟨d₀,h0⟩,h1⟩:=vf i d (fX.mp e1);exact⟨i,d,h1,pin i b d₀ h0 (gv.mp e2)⟩
 have jr:∀b,Av c (cX vs) (cY aZ) b->Av c J' SZ b:=λb z=>z.elim .inl λz=>.inr (sub b z);have Es:∀{c':Fc},c'.pin=c.pin->Ok c' J' SZ H'->(∀b,c.B b->c'.B b)->(∀(i:Nat)d v,ss[i]?=0#d->vs[i]?=some v->Rep H' (Av c' J' SZ) v d)->Ok c' (cX vs) (cY aZ) H':=λ{c'}ep k' hB hsl=>by
  have Et:∀b,Av c' (cX vs) (cY aZ) b->Av c' J' SZ b:=λb z=>z.elim .inl λz=>.inr (sub b z);refine⟨k'.keep,k'.bd,k'.eN,#v[hlen,rM],λi d e=>?_,λi d e=>?_,λi j a d d' e1 e2 e3 e4=>?_,λp hm=>?_⟩
  .have e':=fX.mp e;have hi:i<ss.length:=by rw[<-hlen];exact(W9.mp e').1
   have hv:i<vs.length:=by lia
   rcases ve i ss[i] #v[hi]with⟨d₁,z1,z2⟩|⟨d₁,d',z1,z2,z3⟩;.rw[e']at z2;cases z2;exact⟨vs[i],#v[hv],(hsl i d vs[i] (by rw[W2 hi,z1]) #v[hv]).aS λb z=>.inl (Et b z)⟩
   grind
  .have e':=fX.mp e;obtain⟨⟨d₀,h0⟩,h1⟩:=vf i d e';obtain⟨a₀,h2,_⟩:=k.own i d₀ (fX.mpr h0);obtain⟨a,h3,h4,h5⟩:=k'.own i d h1;rw[pin i a₀ d₀ h0 (gv.mp h2)]at h3;cases h3;exact⟨a₀,h2,h4.aS λb z=>.inl (Et b z),h5⟩
  .obtain⟨⟨d₀,h0⟩,h1⟩:=vf i d (fX.mp e1);obtain⟨⟨d₁,h2⟩,h3⟩:=vf j d' (fX.mp e2);exact k'.inj i j a d d' h1 h3 (pin i a d₀ h0 (gv.mp e3)) (pin j a d₁ h2 (gv.mp e4))
  .exact k.pinned p (by rw[<-ep];exact hm)
 have slots:∀(i:Nat)d v,ss[i]?=0#d->vs[i]?=some v->Rep H' (Av c J' SZ) v d:=λi d v h1 h2=>by obtain⟨w,e1,r⟩:=(k.ext n).slot i d (lB (fX.mpr h1));rw[lB (gv.mpr h2)]at e1;cases e1;exact Rep.dQ r x
 refine⟨⟨Es rfl x.ok (λy z=>z) slots,λa o e m=>x.keep a o e λz=>m (Own.ext.mp z),λa z=>(x.own a (sub a z)).elim (λz=>.inl (Own.ext.mp z)) .inr,x.there⟩,λv r hr=>?_⟩;cases r with|pure d=>exact Rep.aS hr λb z=>.inl (jr b z)|own d=>
  obtain⟨a,ea,o,nb,h0,kp,hs⟩:=hr;refine⟨a,ea,o.aS λb z=>.inl (z.elim .inl λz=>.inr (sub b z)),nb,h0,Es rfl kp (λy z=>.inl z) λi d v h1 h2=>?_,hs⟩;obtain⟨w,e1,r⟩:=(k.ext n).slot i d (lB (fX.mpr h1));rw[lB (gv.mpr h2)]at e1;cases e1;have pD:H a=none:=hs;have r1:Rep H (Av c (cX vs++Wp n none) (cY ss++Wp n none)) v d:=r;have r2:Rep H (λb=>Av c (cX vs++Wp n none) (cY ss++Wp n none) b\/Av (c.plus a) J' SZ b) v d:=r1.aS λb z=>by
   rcases z with z|(z|z)|z;.exact .inl z
   .exact .inl (.inl z)
   .exact .inr %[z|pD]
   .rcases x.own b z with q|q;.exact .inl (.inr q)
    .exact .inr q
  exact(r2.keep λb o e m=>x.keep b o e λz=>m (.inl (.inr z))).aS λb z=>.inl (.inr z)
end
theorem Eu{st:Stmt}{f:Addr}{N ps:List Str}{k:Nat}{fb:DS}{G:DF}(F:gX K x qual st f fd)(S:mw N ps (e9 st))(k_:∀(c:Fc)(b9:Value)(A:WA)(outer:List Env)(s:W6)(H:Hp)(E:XK),eX k (A.deeper (envOfC qual (e9 st) s.heap.objs.size f b9))->Np c np->jl (k9 jf P w K mg base N qual (e9 st) f b9 A outer s H E).nU c (je st) fb)(hG:∀ss y,G ss=some y->cG np 0 ss=true/\gZ fb N.length ss=some y):jK P w K mg base jf (k+1) f fd ps (mS ps.length G):=by
 refine F.ok S (λvs H Q E h=>?_) λb9 A outer s H vs Q E hr h=>?_;.obtain⟨ss,B,hl,_⟩:=h;exact hl
 .obtain⟨ss,B,hl,ok,r,aZ,hg,q⟩:=h;obtain⟨jS,hrun⟩:=hG ss _ hg;have rM:ss.length=vs.length:=by have:=ok.len;simpa using this
  have Tn:Np ⟨H,B,dX 0 ss vs,λu u=>False⟩ np:=λp hp=>by obtain⟨j,d,e,h1,_⟩:=rL (i:=p.1) (a:=p.2) hp;rw[e];exact Ep jS h1
  refine⟨u7 ⟨H,B,dX 0 ss vs,λu u=>False⟩ fb,k_ ⟨H,B,dX 0 ss vs,λu u=>False⟩ b9 A outer s H E hr Tn,?_⟩;have fS:er N vs=cX vs++Wp (N.length-ss.length) none:=by rw[rM];rfl
  refine⟨bw N.length ss,%[fS|ok.ext _],?_⟩;unfold gZ at hrun;unfold fg;cases e:fb (bw N.length ss)with|exc x GM=>rw[e]at hrun;cases hrun|stuck=>rw[e]at hrun;cases hrun|ok fl SZ=>rw[e]at hrun;show∀J' H',aY _ (er N vs) (bw N.length ss) H J' SZ H'->fin _ _ J' SZ H' fl;intro J' H' a;rw[fS]at a;simp only at hrun;cases fl with
 |brk=>cases hrun|cont=>cases hrun|next=>simp only[df,Qg]at hrun;cases eo:cn 0 ss SZ with|none=>rw[eo]at hrun;cases hrun|some os=>rw[eo]at hrun;cases hrun;obtain⟨l1,l2⟩:=Er rfl ok a eo;exact q .aX H' l1 .aX
 |ret r'=>simp only[df,Qg]at hrun;cases eo:cn 0 ss SZ with|none=>rw[eo]at hrun;cases hrun|some os=>rw[eo]at hrun;cases hrun;obtain⟨l1,l2⟩:=Er rfl ok a eo;exactλv rv=>q v H' l1 (l2 v _ rv)
theorem To{st:Stmt}{f:Addr}{N ps:List Str}{k:Nat}{fb:DS}{G:DF}(F:gX K x qual st f fd)(hm:mg x=some (.ref f))(hb:Binds K fd ps [])(S:mw N ps (e9 st))(k_:∀(c:Fc)(b9:Value)(A:WA)(outer:List Env)(s:W6)(H:Hp)(E:XK),eX k (A.deeper (envOfC qual (e9 st) s.heap.objs.size f b9))->Np c np->jl (k9 jf P w K mg base N qual (e9 st) f b9 A outer s H E).nU c (je st) fb)(hG:∀ss y,G ss=some y->cG np 0 ss=true/\gZ fb N.length ss=some y):7#0 (k+1) x ps.length G:=⟨f,fd,ps,hm,F.kp,hb,Eu F S k_ hG⟩
inductive Ak where|val(f:DE)|io(i:Nat)
variable{as:List Ak}
def bx:List Ak->Dl->Rs (List (Option D))|[],Z=>.ok [] Z|.val f::r,Z=>(f Z).bind λx T'=>(bx r T').bind λxs S'=>.ok (some x.d::xs) S'|.io _::r,Z=>(bx r Z).bind λxs S'=>.ok (none::xs) S'
inductive lC(c:Fc)(J:St)(Z:Dl)(H:Hp):List V->List Ak->List (Option D)->Prop|nil:lC c J Z H [] [] []|val{v:V}{d:D}{f:DE}{vs:List V}{as:List Ak}{ds:List (Option D)}:Rep H (Av c J Z) v d->lC c J Z H vs as ds->lC c J Z H (v::vs) (.val f::as) (some d::ds)|io{v:V}{i:Nat}{vs:List V}{as:List Ak}{ds:List (Option D)}:J[i]?=some (some v)->lC c J Z H vs as ds->lC c J Z H (v::vs) (.io i::as) (none::ds)
def tX(c:Fc)(as:List Ak):TA:=λJ H Q=>∃Z,Ok c J Z H/\(∀i,Ak.io i∈as->∃v,J[i]?=some (some v))/\post c (bx as Z) λds SZ=>∀vs H',aY c J Z H J SZ H'->lC c J SZ H' vs as ds->Q vs H'
abbrev SX(X:Cx)(c:Fc)(es:List Expr)(as:List Ak):Prop:=PA X es (tX c as)
theorem Tp:SX X c [] []:=PA.weak gH λJ H Q⟨Z,k,_,q⟩=>q [] H (.refl k) .nil
theorem Tq(ha:SE X c e fe)(hr:SX X c es as)(hs:Wl (e::es) X.env=(false,eval e X.env)::Wl es X.env:=by rfl):SX X c (e::es) (.val fe::as):=PA.weak (fu ha hr hs) λJ H Q⟨Z,k,jS,q⟩=>by unfold bx at q;rw[ba]at q;refine⟨Z,k,aO q λx T' q1 v H1 a1 r1=>⟨T',a1.ok,λi hi=>jS i (W8 _ hi),?_⟩⟩;rw[ba]at q1;exact aO q1 λxs S' q2 vs H2 a2 r2=>q2 (v::vs) H2 (a1.trans a2) (.val (Rep.dQ r1.rep a2) r2)
theorem Ts(ha:PE X e (dH i))(hr:SX X c es as)(hs:Wl (e::es) X.env=(false,eval e X.env)::Wl es X.env:=by rfl):SX X c (e::es) (.io i::as):=PA.weak (fu ha hr hs) λJ H Q⟨Z,k,jS,q⟩=>by obtain⟨v,ev⟩:=jS i Wc;unfold bx at q;rw[ba]at q;exact⟨v,ev,Z,k,λi hi=>jS i (W8 _ hi),aO q λxs S' q2 vs H2 a2 r2=>q2 (v::vs) H2 a2 (.io ev r2)⟩
def bb:List Ak->List (Option D)->Dl->Option (List S)
 |[],[],_=>some []|.val _::as,some d::ds,Z=>(bb as ds Z).map (.pure d::.)|.io i::as,none::ds,Z=>match Z[i]? with|some (some (.own d))=>(bb as ds Z).map (.own d::.)|_=>none
 |_,_,_=>none
def aW:List Ak->List Nat|[]=>[]|.val _::as=>aW as|.io i::as=>i::aW as
def aL:List Ak->List S->Dl->Dl|.io i::as,r::rs,Z=>aL as rs (Z.set i (some r))|.val _::as,_::rs,Z=>aL as rs Z|_,_,Z=>Z
def bB:List Nat->Bool|[]=>true|i::r=>!r.contains i&&bB r
def au(G:DF)(as:List Ak):DE:=λZ=>if(aW as).all (bG Z)&&bB (aW as)then(bx as Z).bind λds T'=>match bb as ds T' with|none=>.stuck|some ss=>match G ss with|none=>.stuck|some (r,aZ)=>.ok r (aL as aZ T')else .stuck
theorem Ew:∀{l:List Nat},bB l=true->l.Nodup|[],_=>.nil|i::r,h=>by simp only[bB,Wu,Bool.not_eq_true']at h;exact List.nodup_cons.mpr ⟨λhm=>by have:=h.1;simp at this;exact this hm,Ew h.2⟩
theorem ot:∀{as:List Ak}{i:Nat},i∈aW as↔Ak.io i∈as|[],i=>#v[aW]|.val f::as,i=>#v[aW,ot (as:=as)]|.io j::as,i=>#v[aW,ot (as:=as)]
theorem yJ:∀{as:List Ak}{i j k:Nat},(aW as).Nodup->as[j]?=some (.io i)->as[k]?=some (.io i)->j=k
 |[],i,j,k,_,h,_=>by simp at h|.val f::as,i,j,k,nd,h1,h2=>by cases j with|zero=>simp at h1|succ j=>cases k with|zero=>simp at h2|succ k=>exact congrArg (.+1) (yJ (as:=as) nd (~~~h1) (~~~h2))
 |.io n::as,i,j,k,nd,h1,h2=>by have vg:=WL.mp nd;cases j with|zero=>grind[ot]|succ j=>cases k with|zero=>grind[ot]|succ k=>exact congrArg (.+1) (yJ (as:=as) vg.2 (~~~h1) (~~~h2))
section
variable{ds:List (Option D)}
universe H in theorem yK(h:lC c J Z H vs as ds):∀{ss:List S},bb as ds Z=some ss->ss.length=vs.length/\as.length=vs.length/\∀(j:Nat)s v,ss[j]?=some s->vs[j]?=some v->(∃d f,s=.pure d/\as[j]?=some (.val f)/\Rep H (Av c J Z) v d)\/∃d i,s=.own d/\as[j]?=some (.io i)/\J[i]?=some (some v)/\Z[i]?=some (some (.own d)):=by induction h with
 |nil=>intro ss h;simp only[bb,Wg]at h;subst h;exact⟨rfl,rfl,λj s v e _=>by simp at e⟩|@val v d f vs as ds r _ ih=>intro ss h;simp only[bb]at h;cases e:bb as ds Z with|none=>rw[e]at h;cases h|some rs=>rw[e]at h;simp only[WM,Wg]at h;subst h;obtain⟨h1,h2,h3⟩:=ih e;refine⟨#v[h1],#v[h2],λj s v' e1 e2=>?_⟩;cases j with|zero=>simp at e1 e2;subst e1 e2;exact .inl ⟨d,f,rfl,rfl,r⟩|succ j=>simpa using h3 j s v' (~~~e1) (~~~e2)
 |@io v i vs as ds ev _ ih=>
 intro ss h;simp only[bb]at h;split at h;.rename_i d ed;cases e:bb as ds Z with|none=>rw[e]at h;cases h|some rs=>rw[e]at h;simp only[WM,Wg]at h;subst h;obtain⟨h1,h2,h3⟩:=ih e;refine⟨#v[h1],#v[h2],λj s v' e1 e2=>?_⟩;cases j with|zero=>simp at e1 e2;subst e1 e2;exact .inr ⟨d,i,rfl,rfl,ev,ed⟩|succ j=>simpa using h3 j s v' (~~~e1) (~~~e2)
 .cases h
theorem yL:∀(as:List Ak)(rs:List S)(Z:Dl),(aL as rs Z).length=Z.length|[],rs,Z=>#v[aL]|.val f::as,[],Z=>#v[aL]|.io i::as,[],Z=>#v[aL]|.val f::as,r::rs,Z=>#v[aL,yL as rs Z]|.io i::as,r::rs,Z=>#v[aL,yL as rs]
theorem rN:∀(as:List Ak)(rs:List S)(Z:Dl)(i:Nat),i∉aW as->(aL as rs Z)[i]?=Z[i]?|[],rs,Z,i,_=>#v[aL]|.val f::as,[],Z,i,_=>#v[aL]|.io j::as,[],Z,i,_=>#v[aL]|.val f::as,r::rs,Z,i,h=>%[aL|rN as rs Z i h]|.io j::as,r::rs,Z,i,h=>by simp only[aW,Wv,not_or]at h;rw[aL,rN as rs _ i h.2,W4 (Ne.symm h.1)]
theorem vh:∀(as:List Ak)(rs:List S)(Z:Dl)(i j:Nat)(r:S),(aW as).Nodup->as[j]?=some (.io i)->rs[j]?=some r->i<Z.length->(aL as rs Z)[i]?=some (some r)
 |[],rs,Z,i,j,r,_,h,_,_=>by simp at h|a::as,[],Z,i,j,r,_,_,h,_=>by simp at h|.val f::as,r0::rs,Z,i,j,r,nd,h1,h2,hi=>by cases j with|zero=>simp at h1|succ j=>rw[aL];exact vh as rs Z i j r nd (~~~h1) (~~~h2) hi
 |.io k::as,r0::rs,Z,i,j,r,nd,h1,h2,hi=>by have vg:=WL.mp nd;cases j with|zero=>simp at h1 h2;subst h1 h2;rw[aL,rN as rs _ k vg.1,Wh hi]|succ j=>rw[aL];exact vh as rs _ i j r vg.2 (~~~h1) (~~~h2) (~~~hi)
theorem Tt(k:Ok c J Z H)(hr:lC c J Z H vs as ds)(hm:bb as ds Z=some ss)(nd:(aW as).Nodup):Ok ⟨H,λa=>Av c J Z a/\¬∃(j:Nat)(d:D),ss[j]?=some (S.own d)/\vs[j]?=some (V.ref a),dX 0 ss vs,λy y=>False⟩ (cX vs) (cY ss) H:=by
 obtain⟨h1,h2,h3⟩:=yK hr hm;have at':∀(j:Nat)s,ss[j]?=some s->∃v,vs[j]?=some v:=λj s e=>by
  have:j<vs.length:=by rw[<-h1];exact(W9.mp e).1
  simp_all
 have Ex:∀a,Own (cX vs) (cY ss) a↔∃(j:Nat)(d:D),ss[j]?=some (S.own d)/\vs[j]?=some (V.ref a):=λa=>⟨λ⟨j,d,e1,e2⟩=>⟨j,d,fX.mp e1,gv.mp e2⟩,λ⟨j,d,e1,e2⟩=>⟨j,d,fX.mpr e1,gv.mpr e2⟩⟩;have Ey:∀a,Own (cX vs) (cY ss) a->Own J Z a:=λa z=>by
  obtain⟨j,d,e1,e2⟩:=(Ex a).mp z;rcases h3 j _ _ e1 e2 with⟨d',f,e,_⟩|⟨d',i,e,_,es,ed⟩;.cases e
  .exact⟨i,d',ed,es⟩
 have sub:∀a,Av ⟨H,λa=>Av c J Z a/\¬∃(j:Nat)(d:D),ss[j]?=some (S.own d)/\vs[j]?=some (V.ref a),dX 0 ss vs,λy y=>False⟩ (cX vs) (cY ss) a->Av c J Z a:=λa z=>z.elim (λz=>z.1) λz=>.inr (Ey a z);refine⟨λa o e y=>e,λa z=>k.Dg z.1,λa⟨i,hi⟩=>?_,#v[h1],λj d e=>?_,λj d e=>?_,λi j a d d' e1 e2 e3 e4=>?_,λp hp=>?_⟩;.obtain⟨j,d,_,e1,e2⟩:=rL hi;exact k.yd (Ey a ((Ex a).mpr ⟨j,d,e1,e2⟩))
 .have e':=fX.mp e;obtain⟨v,ev⟩:=at' j _ e';rcases h3 j _ v e' ev with⟨d',f,e,_,r⟩|⟨d',i,e,_⟩;.cases e;exact⟨v,gv.mpr ev,r.aS λb z=>.inl (sub b z)⟩
  .cases e
 .have e':=fX.mp e;obtain⟨v,ev⟩:=at' j _ e';rcases h3 j _ v e' ev with⟨d',f,e,_,r⟩|⟨d',i,e,_,es,ed⟩;.cases e
  .cases e;obtain⟨a,g1,g2,g3⟩:=k.own i d ed;rw[es]at g1;cases g1;refine⟨a,gv.mpr ev,g2.aS λb z=>.inl (sub b z),.inl ⟨0+j,vc e' ev⟩,λz=>z.2 ⟨j,d,e',ev⟩⟩
 .have f1:=fX.mp e1;have f2:=fX.mp e2;rcases h3 i _ _ f1 (gv.mp e3)with⟨_,_,e,_⟩|⟨d1,i1,e,a1,s1,x1⟩;.cases e
  .rcases h3 j _ _ f2 (gv.mp e4)with⟨_,_,e',_⟩|⟨d2,i2,e',a2,s2,x2⟩;.cases e'
   .have:=k.inj i1 i2 a d1 d2 x1 x2 s1 s2;subst this;exact yJ nd a1 a2
 .obtain⟨j,d,e,e1,e2⟩:=rL (i:=p.1) (a:=p.2) hp;rw[Q4]at e;rw[e];exact gv.mpr e2
theorem Tu(k:Ok c J Z H)(hr:lC c J Z H vs as ds)(hm:bb as ds Z=some ss)(nd:(aW as).Nodup)(hB:B=λa=>Av c J Z a/\¬∃(j:Nat)(d:D),ss[j]?=some (S.own d)/\vs[j]?=some (V.ref a))(x:aY ⟨H,B,dX 0 ss vs,λy y=>False⟩ (cX vs) (cY ss) H (cX vs) (cY aZ) H')(jS:∀(j:Nat)d,ss[j]?=some (.own d)->∃d',aZ[j]?=some (.own d'))(hpo:∀(j:Nat)d,ss[j]?=0#d->∃d',aZ[j]?=0#d'):aY c J Z H J (aL as aZ Z) H'/\∀v r,bu ⟨H,B,dX 0 ss vs,λy y=>False⟩ (cX vs) (cY aZ) H H' v r->bu c J (aL as aZ Z) H H' v r:=by
 obtain⟨h1,h2,h3⟩:=yK hr hm;have vj:∀i,i∈aW as->∃(j:Nat)(d:D)(a:Addr),as[j]?=some (.io i)/\ss[j]?=some (.own d)/\vs[j]?=some (.ref a)/\J[i]?=some (some (.ref a))/\Z[i]?=some (some (.own d)):=λi hi=>by
  obtain⟨j,hj,ej⟩:=List.mem_iff_getElem.mp (ot.mp hi);have hv:j<vs.length:=by lia
  have hs:j<ss.length:=by lia
  have Ez:as[j]?=some (.io i):=by rw[W2 hj,ej]
  rcases h3 j ss[j] vs[j] #v[hs] #v[hv]with⟨d,f,e,a1,_⟩|⟨d,i',e,a1,s1,x1⟩;.grind
  .rw[Ez]at a1;cases a1;obtain⟨a,g1,_⟩:=k.own i d x1;rw[s1]at g1;have g2:vs[j]=.ref a:=by have:=WK g1;exact WK this
   exact⟨j,d,a,Ez,by rw[W2 hs,e],by rw[W2 hv,g2],by rw[s1,g2],x1⟩
 have vk:∀a,(∃(j:Nat)(d:D),ss[j]?=some (S.own d)/\vs[j]?=some (V.ref a))->Own J Z a:=λa⟨j,d,e1,e2⟩=>by
  rcases h3 j _ _ e1 e2 with⟨d',f,e,_⟩|⟨d',i,e,_,es,ed⟩;.cases e
  .exact⟨i,d',ed,es⟩
 have qaY:∀a,(⟨H,B,dX 0 ss vs,λy y=>False⟩:Fc).I a↔∃(j:Nat)(d:D),ss[j]?=some (S.own d)/\vs[j]?=some (V.ref a):=λa=>⟨λ⟨i,hi⟩=>by obtain⟨j,d,_,e1,e2⟩:=rL hi;exact⟨j,d,e1,e2⟩,λ⟨j,d,e1,e2⟩=>⟨0+j,vc e1 e2⟩⟩;have ownIn:∀a,Own (cX vs) (cY ss) a->∃(j:Nat)(d:D),ss[j]?=some (S.own d)/\vs[j]?=some (V.ref a):=λa⟨j,d,e1,e2⟩=>⟨j,d,fX.mp e1,gv.mp e2⟩;have vm:∀(i:Nat)(d:D),(aL as aZ Z)[i]?=some (some (.own d))->i∉aW as/\Z[i]?=some (some (.own d))\/i∈aW as/\∃(j:Nat)(d0:D)(a:Addr),as[j]?=some (.io i)/\ss[j]?=some (.own d0)/\vs[j]?=some (.ref a)/\J[i]?=some (some (.ref a))/\aZ[j]?=some (.own d):=λi d e=>by
  by_cases hi:i∈aW as;.right;obtain⟨j,d0,a,a1,a2,a3,a4,a5⟩:=vj i hi;obtain⟨d',ed'⟩:=jS j d0 a2;have a0:i<Z.length:=(W9.mp a5).1;have:=vh as aZ Z i j (.own d') nd a1 ed' a0;rw[e]at this;cases this;exact⟨hi,j,d0,a,a1,a2,a3,a4,ed'⟩
  .rw[rN as aZ Z i hi]at e;exact .inl ⟨hi,e⟩
 have rO:∀b,Own J (aL as aZ Z) b->Own J Z b:=λb⟨i,d,e1,e2⟩=>by
  rcases vm i d e1 with⟨_,e⟩|⟨hi,j,d0,a,_,a2,a3,a4,_⟩;.exact⟨i,d,e,e2⟩
  grind
 have Tv:∀(i:Nat)(d:D),(aL as aZ Z)[i]?=some 0#d->i∉aW as/\Z[i]?=some 0#d:=λi d e=>by
  by_cases hi:i∈aW as;.obtain⟨j,d0,a,a1,a2,a3,a4,a5⟩:=vj i hi;obtain⟨d',ed'⟩:=jS j d0 a2;have a0:i<Z.length:=(W9.mp a5).1;have:=vh as aZ Z i j (.own d') nd a1 ed' a0;rw[e]at this;cases this
  .rw[rN as aZ Z i hi]at e;exact⟨hi,e⟩
 have EA:∀a o,H a=some o->¬Av c J Z a->H' a=some o:=λa o e n=>x.keep a o e λz=>n (.inr (vk a (ownIn a z)));have jr:∀b,Av c J (aL as aZ Z) b->Av c J Z b:=λb z=>z.elim .inl λz=>.inr (rO b z);have big:∀{c':Fc},c'.B=B->∀b,Av c J Z b->Av c' (cX vs) (cY aZ) b:=λ{c'}hB' b z=>by
  by_cases hp:∃(j:Nat)(d:D),ss[j]?=some (S.own d)/\vs[j]?=some (V.ref b);.obtain⟨j,d,e1,e2⟩:=hp;obtain⟨d',ed'⟩:=jS j d e1;exact .inr ⟨j,d',fX.mpr ed',gv.mpr e2⟩
  .exact .inl (by rw[hB',hB];exact⟨z,hp⟩)
 have EB:∀(c1 c2:Fc),c1.H₀=c.H₀->c1.pin=c.pin->(∀b,c1.B b->c.B b\/c2.B b/\H b=none)->c2.pin=dX 0 ss vs->(∀b,B b->c2.B b)->Ok c2 (cX vs) (cY aZ) H'->(∀b,c1.B b->∃o,H' b=some o)->Ok c1 J (aL as aZ Z) H':=λc1 c2 e0 e1 e2 e3 e4 k2 hex=>by
  have ED:∀b,Av c1 J (aL as aZ Z) b->Av c J Z b\/H b=none:=λb z=>by
   rcases z with z|z
   .rcases e2 b z with z|⟨_,z⟩;.exact .inl (.inl z)
    .exact .inr z
   .exact .inl (.inr (rO b z))
  have uM:∀b,Av c1 J (aL as aZ Z) b->Av c2 (cX vs) (cY aZ) b:=λb z=>by
   have bg:∀b,Av c J Z b->Av c2 (cX vs) (cY aZ) b:=λb z=>by
    by_cases hp:∃(j:Nat)(d:D),ss[j]?=some (S.own d)/\vs[j]?=some (V.ref b);.obtain⟨j,d,e1,e2⟩:=hp;obtain⟨d',ed'⟩:=jS j d e1;exact .inr ⟨j,d',fX.mpr ed',gv.mpr e2⟩
    .exact .inl (e4 b (by rw[hB];exact⟨z,hp⟩))
   rcases z with z|z
   .rcases e2 b z with z|⟨z,_⟩;.exact bg b (.inl z)
    .exact .inl z
   .exact bg b (.inr (rO b z))
  have Tw:∀{v:V}{d:D},Rep H (Av c J Z) v d->Rep H' (Av c1 J (aL as aZ Z)) v d:=λ{v d}r=>by have r1:Rep H (λb=>Av c J Z b\/Av c1 J (aL as aZ Z) b) v d:=r.aS λb z=>z.elim .inl (ED b);exact(r1.keep λb o e n=>EA b o e λz=>n (.inl z)).aS λb z=>.inl (.inr z)
  refine⟨λa o e n=>?_,hex,λa z=>?_,%[yL|k.len],λi d e=>?_,λi d e=>?_,λi j a d d' f1 f2 f3 f4=>?_,%[e1|k.pinned]⟩;.rw[e0]at e;have n':¬c.I a:=λz=>n (by unfold Fc.I at z⊢;rw[e1];exact z);refine x.keep a o (k.keep a o e n') λz=>?_;obtain⟨i,d,g1,g2⟩:=vk a (ownIn a z);obtain⟨a',g3,_,g4,_⟩:=k.own i d g1;grind
  .have z':c.I a:=by unfold Fc.I at z⊢;rw[<-e1];exact z
   obtain⟨o,e⟩:=k.eN a z';exact x.there a o e
  .obtain⟨hi,e'⟩:=Tv i d e;obtain⟨v,g1,g2⟩:=k.slot i d e';exact⟨v,g1,Tw g2⟩
  .rcases vm i d e with⟨hi,e'⟩|⟨hi,j,d0,a,b1,b2,b3,b4,b5⟩
   .obtain⟨a,g1,g2,g3,g4⟩:=k.own i d e';have na:¬Own (cX vs) (cY ss) a:=λz=>by
     obtain⟨j,d1,q1,q2⟩:=ownIn a z;rcases h3 j _ _ q1 q2 with⟨d',f,ee,_⟩|⟨d',i',ee,ai,es,ed⟩;.cases ee
     .have:=k.inj i i' a d d' e' ed g1 es;grind[ot]
    have rP:gq H' (Av c1 J (aL as aZ Z)) a d:=by have o1:gq H (λb=>Av c J Z b\/Av c1 J (aL as aZ Z) b) a d:=g2.aS λb z=>z.elim .inl (ED b);exact(o1.keep (λb o e n=>EA b o e λz=>n (.inl z)) λo e=>x.keep a o e na).aS λb z=>.inl (.inr z)
    refine⟨a,g1,rP,by unfold Fc.I at g3⊢;rw[e0,e1];exact g3,λz=>?_⟩;rcases e2 a z with z|⟨_,z⟩;.exact g4 z
    .obtain⟨o,eo⟩:=g2.some;rw[z]at eo;cases eo
   .obtain⟨a',g1,g2,g3,g4⟩:=k2.own j d (fX.mpr b5);rw[gv.mpr b3]at g1;cases g1;obtain⟨i0,d1,q1,q2⟩:=vk a ⟨j,d0,b2,b3⟩;obtain⟨a'',q3,q4,q5,q6⟩:=k.own i0 d1 q1;rw[q2]at q3;cases q3;refine⟨a,b4,g2.aS λb z=>.inl (uM b z),by unfold Fc.I at q5⊢;rw[e0,e1];exact q5,λz=>?_⟩;grind
  .obtain⟨d1,g1⟩:∃d1,Z[i]?=some (some (.own d1)):=by
    rcases vm i d f1 with⟨_,e'⟩|⟨hi,_⟩;.exact⟨d,e'⟩
    .obtain⟨_,d1,_,_,_,_,_,a5⟩:=vj i hi;exact⟨d1,a5⟩
   obtain⟨d2,g2⟩:∃d2,Z[j]?=some (some (.own d2)):=by
    rcases vm j d' f2 with⟨_,e'⟩|⟨hi,_⟩;.exact⟨d',e'⟩
    .obtain⟨_,d1,_,_,_,_,_,a5⟩:=vj j hi;exact⟨d1,a5⟩
   exact k.inj i j a d1 d2 g1 g2 f3 f4
 have lD:Ok c J (aL as aZ Z) H':=EB c ⟨H,B,dX 0 ss vs,λy y=>False⟩ rfl rfl (λb z=>.inl z) rfl (λb z=>z) x.ok λb z=>by obtain⟨o,e⟩:=k.bd b z;exact x.there b o e
 refine⟨⟨lD,λa o e n=>x.keep a o e λz=>n (vk a (ownIn a z)),λa z=>.inl (rO a z),x.there⟩,λv r hr=>?_⟩;cases r with|pure d=>exact Rep.aS hr λb z=>.inl (big rfl b (jr b z))|own d=>
  obtain⟨a,ea,o,nb,h0,kp,hs⟩:=hr;have pD:H a=none:=hs;have iJ:¬Av c J Z a:=k.iJ pD;refine⟨a,ea,o.aS λb z=>.inl ?_,λz=>iJ (.inl z),k.mJ pD,?_,pD⟩
  .rcases z with(z|z)|z;.exact(big rfl b (.inl z)).elim (λz=>.inl (.inl z)) .inr
   .exact .inl (.inr z)
   .exact(big rfl b (.inr (rO b z))).elim (λz=>.inl (.inl z)) .inr
  .refine EB (c.plus a) (Fc.plus ⟨H,B,dX 0 ss vs,λy y=>False⟩ a) rfl rfl (λb z=>?_) rfl (λb z=>.inl z) kp λb z=>?_
   .rcases z with z|z;.exact .inl z
    .exact .inr ⟨.inr z,%[z|pD]⟩
   .rcases z with z|z;.obtain⟨o,e⟩:=k.bd b z;exact x.there b o e
    .rw[z];exact o.some
end
def vn(G:DF):Prop:=∀ss r aZ,G ss=some (r,aZ)->aZ.length=ss.length/\∀(j:Nat),(∀d,ss[j]?=some (.own d)->∃d',aZ[j]?=some (.own d'))/\∀d,ss[j]?=0#d->∃d',aZ[j]?=0#d'
theorem Tz{fb}(hG:∀ss y,G ss=some y->gZ fb n ss=some y):vn G:=λss r aZ h=>by have:=hG ss _ h;unfold gZ at this;cases e:fb (bw n ss)with|exc x GM=>rw[e]at this;cases this|stuck=>rw[e]at this;cases this|ok fl Z=>rw[e]at this;simp only at this;cases e1:df fl with|none=>rw[e1]at this;cases this|some r'=>rw[e1]at this;simp only[Qg]at this;cases e2:cn 0 ss Z with|none=>rw[e2]at this;cases this|some os=>
    rw[e2]at this;cases this;obtain⟨h1,h2⟩:=vd e2;refine⟨h1,λj=>⟨λd ed=>?_,λd ed=>?_⟩⟩
    .rcases h2 j _ ed with⟨d',z,_⟩|⟨d',d'',_,_,z⟩;.cases z
     .exact⟨d'',z⟩
    .rcases h2 j _ ed with⟨d',z,z'⟩|⟨d',d'',z,_⟩;.exact⟨d',z'⟩
     .cases z
section
variable{k:Nat}{G:DF}
universe H in theorem TC{ps:List Str}(hK:vn G){Q:VK}(hl:as.length=n)(h:tD c (au G as) J H Q):Cf (mS n G) [] E0 (tX c as) J H Q:=by
 obtain⟨Z,kk,q⟩:=h;unfold au at q;split at q
 .rename_i hc;rw[Wu]at hc;have nd:=Ew hc.2;rw[ba]at q;refine⟨Z,kk,λi hi=>?_,aO q λds T' q1 vs H1 a1 r1=>?_⟩
  .have:=JC.mp hc.1 i (ot.mpr hi);unfold bG at this;split at this;.rename_i d ed;exact qZ kk ed
   .cases this
  .cases em:bb as ds T' with|none=>rw[em]at q1;exact q1.elim|some ss=>rw[em]at q1;simp only at q1;cases eg:G ss with|none=>rw[eg]at q1;exact q1.elim|some y=>obtain⟨r,aZ⟩:=y;rw[eg]at q1;have pE:=Tt a1.ok r1 em nd;obtain⟨m1,m2,_⟩:=yK r1 em;obtain⟨g1,g2⟩:=hK ss r aZ eg;refine⟨ss,_,by rw[JH,<-m2];exact hl,%[JH|pE],r,aZ,eg,λv H2 a2 r2=>?_⟩;rw[JH]at a2 r2;obtain⟨o1,o2⟩:=Tu a1.ok r1 em nd rfl a2 (λj d ed=>(g2 j).1 d ed) λj d ed=>(g2 j).2 d ed;exact q1 v H2 (a1.trans o1) (bu.back (o2 v r r2) a1)
 .exact q.elim
theorem TF(F:aJ X.prog X.w X.K X.mg X.base k x n G)(hK:vn G)(hr:eX k X.A)(hg:Gl X x)(ha:SX X c (e::es) as)(hl:as.length=n)(jL:(x==("__debug__":Str))=false:=by decide)(he:Wl (e::es) X.env=(false,eval e X.env)::Wl es X.env:=by rfl)(dq:(QH pos (Wl es X.env)).any (·.1)=false:=by rfl):SE X c (.Call (.Name x pp) (e::es) [] pos) (au G as):=by obtain⟨f,fd,ps,hm,hk,hb,ok⟩:=F;exact PE.weak (Oa ok hr hg hm hk hb .nil Ph ha jL he dq) λJ H Q h=>TC (ps:=ps) hK hl h
end
def bE(np:List Nat)(n:Nat)(b:DS):DF:=λss=>if cG np 0 ss then gZ b n ss else none
universe H in theorem yM(h:bE np n b ss=some y):cG np 0 ss=true/\gZ b n ss=some y:=by
 unfold bE at h;split at h;.rename_i hi;exact⟨hi,h⟩
 .cases h
theorem TH:vn (bE np n b):=Tz λj j h=>(yM h).2
theorem EE(r:eX k A):A.units+64<WR:=by have:=r.un;lia
theorem EF(h:Np c np)(hc:cs.all (λi=>!np.contains i)=true):∀p∈c.pin,p.1∉cs:=λp hp z=>by have h1:=h p hp;grind
def vo:List Str->Bool|[]=>true|x::r=>!r.contains x&&vo r
theorem EG:∀{l:List Str},vo l=true->l.Nodup|[],_=>.nil|x::r,h=>by simp only[vo,Wu,Bool.not_eq_true']at h;exact List.nodup_cons.mpr ⟨λhm=>by have:=h.1;simp at this;exact this hm,EG h.2⟩
def iR(names:List (Str×NameKind))(x:Str)(k:NameKind):Bool:=match names.lookup x with|some j=>j==k|none=>false
universe H in theorem yN(h:iR names x k=true):names.lookup x=some k:=by
 unfold iR at h;split at h;.rename_i j e;rw[e,eq_of_beq h]
 .cases h
def EH(names:List (Str×NameKind))(N:List Str)(sc:List (Str×NameKind))(cs:List Nat):Bool:=sc.all (λx=>!x.2==.local||iR sc x.1 .local)&&sc.all (λx=>!x.2==.free||(iR names x.1 .cell||iR names x.1 .free))&&vo (sc.map (·.1))&&(W7 N.length).all λi=>match N[i]? with|some x=>!(iR sc x .local||iR sc x .cell)||cs.contains i|none=>true
theorem TJ(h:names.lookup x=some k):iR names x k=true:=by unfold iR;rw[h];simp
theorem EI{X:Cx}{scope:Scope}{cs:List Nat}(hk:scope.kind=.function)(h:EH X.env.scope.names X.N scope.names cs=true):n5 X scope cs:=by
 unfold EH at h;simp only[Wu]at h;obtain⟨⟨⟨h1,h2⟩,h3⟩,h4⟩:=h;refine⟨hk,λx hx hl=>?_,λx hx hf=>?_,EG h3,λi x hi hl=>?_⟩;.have:=JC.mp h1 x hx;rw[hl]at this;exact yN (~~~this)
 .have:=JC.mp h2 x hx;rw[hf]at this;have:iR X.env.scope.names x.1 .cell=true\/iR X.env.scope.names x.1 .free=true:= ~~~this;exact this.elim (λz=>.inl (yN z)) λz=>.inr (yN z)
 .have jR:i<X.N.length:=(W9.mp hi).1;have:=JC.mp h4 i (Ws.mpr jR);rw[hi]at this;have jb:(iR scope.names x .local||iR scope.names x .cell)=true:=by grind[TJ]
  grind
theorem TK:jN K "int":=⟨rfl,rfl,rfl,rfl,rfl,rfl,rfl⟩
theorem TL:jN K "bool":=⟨rfl,rfl,rfl,rfl,rfl,rfl,rfl⟩
theorem TN:jN K "str":=⟨rfl,rfl,rfl,rfl,rfl,rfl,rfl⟩
theorem TQ:jN K "tuple":=⟨rfl,rfl,rfl,rfl,rfl,rfl,rfl⟩
def pF:Expr->Bool|.Starred ..=>false|_=>true
theorem rQ(h:pF e=true):Wl (e::es) env=(false,eval e env)::Wl es env:=by
 cases e<;>first|(cases h;done)|rw[Wl]|rfl
 all_goals(intros;contradiction)
section
variable{f:DE}{g:DA}
theorem TR(ha:SE X c e f)(hr:SA X c es g)(hs:pF e=true:=by rfl):SA X c (e::es) (aQ f g):=DW ha hr (rQ hs)
theorem TU(ha:SE X c e fe)(hr:SX X c es as)(hs:pF e=true:=by rfl):SX X c (e::es) (.val fe::as):=Tq ha hr (rQ hs)
theorem TV(ha:PE X e (dH i))(hr:SX X c es as)(hs:pF e=true:=by rfl):SX X c (e::es) (.io i::as):=Ts ha hr (rQ hs)
end
mutual def kA:Nat->Expr->Option D
 |_,.Constant c _ _=>match c with|.int i=>some (.int i)|.bool b=>some (.bl b)|.none=>some .aX|.str x=>some (.str x.cps.toList)|_=>none
 |n+1,.Tuple es _ _=>if es.length<=1000 then(mU n es).map .tup else none|_,_=>none def mU:Nat->List Expr->Option (List D)|_,[]=>some []|n,e::es=>match kA n e,mU n es with|some d,some ds=>some (d::ds)|_,_=>none end
theorem TZ:∀{n:Nat}{e:Expr}{d:D},kA n e=some d->pF e=true:=λ{n e d}h=>by cases e<;>first|rfl|(cases n<;>simp[kA]at h)
theorem EJ{k:Const}{a:Nat}{b:Pos}{d:D}(h:kA n (.Constant k a b)=some d):SE X c (.Constant k a b) (eD d):=by cases k<;>cases n<;>simp[kA]at h<;>subst h<;>first|exact Dh|exact Di|exact Dj|exact Dk _ (yc _)
universe H in theorem yO(ih:∀{e:Expr}{d:D},kA n e=some d->SE X c e (eD d)):∀{es:List Expr}{ds:List D},mU n es=some ds->SA X c es λZ=>.ok ds Z
 |[],ds,h=>by simp only[mU,Wg]at h;subst h;exact DU|e::es,ds,h=>by
  simp only[mU]at h;split at h;.rename_i d dP h1 h2;cases h;exact DW (ih h1) (yO ih h2) (rQ (TZ h1))
  .cases h
universe H in theorem T3:∀{e:Expr}{d:D},kA n e=some d->SE X c e (eD d):=by induction n with
 |zero=>intro e d h;cases e<;>first|exact EJ h|(simp[kA]at h;done)
 |succ n ih=>
 intro e d h;cases e<;>first|exact EJ h|(simp[kA]at h;done)|skip
 simp only[kA]at h;split at h;.rename_i es _ _ hl;cases e:mU n es with|none=>rw[e]at h;cases h|some ds=>rw[e]at h;simp only[WM,Wg]at h;subst h;exact DZ (yO ih e) hl
 .cases h
theorem T4(h:mU n es=some ds):SA X c es λZ=>.ok ds Z:=yO T3 h
def yP(ds:List D):DE:=λZ=>.ok (.own (.lst ds)) Z
theorem T5{ds:List D}(h:mU 9 es=some ds)(hl:es.length<=1000):SE X c (.List es pos) (yP ds):=D3 (T4 h) hl
theorem T6(he:SE X c e fe)(hs:Je e none pos.line X.env=pure false:=by rfl):SS X c (.Expr e pos) (kz fe):=SH he (λj=>hs) trivial (BM he hs)
theorem T7{o:Expr}{apos bh:Pos}(ho:PE X o (dH i))(he:SE X c e fe)(lj:QA o "append" X.env (eval o X.env)=eval o X.env:=by rfl)(ll:((QH bh (Wl [e] X.env)).all (λx=>!x.1)&&(Ua bh (Jy [] X.env)).all (λx=>x.1.isSome)&&decide ([e].length+([]:List Keyword).length+(if([]:List Keyword).isEmpty then 0 else 1)<30))=true:=by rfl)(gI:(apos.endLine==bh.line)=true:=by rfl)(hs:Wl [e] X.env=(false,eval e X.env)::Wl [] X.env:=by rfl)(qS:Je (.Call (.Attribute o "append" apos) [e] [] bh) none pos.line X.env=pure false:=by rfl):SS X c (.Expr (.Call (.Attribute o "append" apos) [e] [] bh) pos) (de i fe):=SJ (p0:=apos) ho he (BM (uB PySem.F.plainAttrs_list PySem.F.slot_list_append PySem.F.type_list_append CI ho (fu he gH hs) lj ll gI hs rfl) qS)
def yQ(K:Wa):Bool:=K.all λp=>match p.2.cls with|.type t=>!t=="list"|_=>true
theorem EK[BEq α][LawfulBEq α]:∀{K:List (α×β)}{a:α}{o:β},K.lookup a=some o->(a,o)∈K|[],a,o,e=>by simp at e|(b,o')::r,a,o,e=>by rw[Qy]at e;cases hb:a==b with|true=>rw[hb]at e;have h1:o'=o:=WK e;have h2:a=b:=eq_of_beq hb;rw[h1,h2];exact Wc|false=>rw[hb]at e;exact W8 _ (EK e)
theorem T8{o:Obj}(h:yQ K=true)(e:K.lookup a=some o)(hc:o.cls=.type "list"):False:=by have hm:(a,o)∈(K:List (Addr×Obj)):=EK e;have h1:=JC.mp h (a,o) hm;have h2:(match o.cls with|.type t=>!t=="list"|_=>true)=true:=h1;rw[hc]at h2;have h3:!("list":String)=="list"=true:=h2;rw[beq_self_eq_true]at h3;cases h3
theorem T9{G:DF}{E:XK}(hK:yQ K=true)(hS:cu K H a (ns.map V.int))(hG:∃aZ,G [.pure (.lst (ns.map .int))]=some (.pure (.bl true),aZ)):mS 1 G [.ref a] H (λv y=>v=.bl true) E:=by
 have hR:Rd H a (.lst (ns.map V.int)):=by
  rcases hS with h|⟨o,ak,n,e,hc,_⟩;.exact h
  .exact(T8 hK e hc).elim
 obtain⟨aZ,hg⟩:=hG;have rep:∀O:Addr->Prop,¬O a->Rep H O (.ref a) (.lst (ns.map D.int)):=λO hO=>.lst hO hR V' λi v d e1 e2=>by rw[Wo]at e1 e2;cases e:ns[i]? with|none=>rw[e]at e1;cases e1|some k=>rw[e]at e1 e2;cases e1;cases e2;exact .int k
 refine⟨[.pure (.lst (ns.map .int))],λy=>False,rfl,⟨λb o e y=>e,λb z=>z.elim,λb⟨i,z⟩=>?_,rfl,λi d e=>?_,λi d e=>?_,λi j b d d' e1 e2 e3 e4=>?_,λp z=>?_⟩,_,aZ,hg,λv H' x r=>?_⟩;.simp[dX]at z
 .cases i with
 |zero=>
 simp at e;subst e;refine⟨.ref a,rfl,rep _ λz=>?_⟩;rcases z with z|⟨j,d',z1,z2⟩;.exact z
 .cases j with|zero=>simp at z1|succ j=>simp at z1
 |succ i=>simp at e
 .cases i with|zero=>simp at e|succ i=>simp at e
 .cases i with|zero=>simp at e1|succ i=>simp at e1
 .simp[dX]at z
 .cases r;rfl
theorem yR{l:PySem.W.OpenLaw}{q:Wt}{d:DefRec}{K:Params->Wa}{k:Nat}{G:DF}(hn:l.most=some 63)(qM:d.params.defaults=[])(hr:eX k callerA)(hY:∀(w:Ww)(h:Heap),YP w h->(K w.params).In h)(hL:∀p:Params,yQ (K p)=true)(hG:∀ns:List Int,ns.length<=63->∃aZ,G [.pure (.lst (ns.map .int))]=some (.pure (.bl true),aZ))(F:∀(w:Ww)(mg:Str->Option Value)(fa:Addr)(h:Heap),(K w.params).In h->h.Ns WE mg->mg d.name=some (.ref fa)->∃fd:QX,(∀(s:W6)(u:Value),BindsTo s fd ⟨[u],[]⟩ [("script",u)])/\∀base:Heap,(K w.params).In base->base.Ns WE mg->jK l.prog w (K w.params) mg base jf k fa fd ["script"] (mS 1 G)):PySem.W.WalkO q loose XP YP l.row.toRowW d [] λf vs=>PySem.call f vs:=Lake.Pf (n:=63) (k:=k) (x:="script") (CX:=λj=>jf) (sp:=λj=>mS 1 G) hn U' qM hr hY F (λw H a ns hl j hS=>T9 (hL w.params) hS (hG ns hl)) λj j j j j z=>z
def yS(x:Str):It:=⟨λi j=>i<x.cps.size,λi H y H'=>H'=H/\∃c,x.cps[i]?=some c/\y=.str ⟨#[c]⟩,λi j=>i=x.cps.size⟩
theorem T_(x:Str)(t:Tok)(it:Addr)(T:String)(hT:T="str_ascii_iterator"\/T="str_iterator"):Turn P w K tg (yS x) [it] it λi h=>h.IsStrIter it T x t i:=by
 have W:∀A:WA,A.handled=none->Walks P w A it [it] [it] x.cps.size (SignAt x) λi h=>h.IsStrIter it T x t i:=λA hh=>by
  rcases hT with rfl|rfl;.exact Walks.strAscii hh it x t
  .exact Walks.strWide hh it x t
 refine⟨V',λi h st b hb=>?_,λi h h' st k=>?_,?_,?_,λA i s Q E st h=>?_⟩;.have e:b=it:= ~~~hb;subst e;obtain⟨o,e,c,d⟩:=st;exact⟨o,e,λv z=>by rw[d]at z;cases z⟩
 .obtain⟨o,e,r⟩:=st;exact⟨o,k it V' o e,r⟩
 .intro X hP hw hK hc i pins s J H E I hf st hg;subst hP hw hK;obtain⟨f0,f1,f2,f3,f4,f5⟩:=hf it V';refine(W X.A (I.ok.hd hc)).item i s _ _ hg st λv h' tk hv ft kk=>?_;obtain⟨c,u,hx,rfl⟩:=hv;have I1:Inv X pins J H {s with heap:=h',toks:=tk}:=I.turned (λb o hb e=>kk b o (~~~hb) e) f0 f1 f3 f4 f5;obtain⟨o,e,c',d⟩:=id ft;refine⟨_,rfl,uj (s:={s with heap:=h',toks:=tk}) e c' d (by rcases hT with rfl|rfl<;>decide) ⟨.str ⟨#[c]⟩,H,I1,⟨u,rfl⟩,⟨rfl,c,hx,rfl⟩,ft,λb hb=>(hf b hb).1⟩⟩
 .intro X hP hw hK hc i pins s J H E I hf st hg;subst hP hw hK;have mH:i=x.cps.size:=hg;subst mH;obtain⟨f0,f1,f2,f3,f4,f5⟩:=hf it V';exact(W X.A (I.ok.hd hc)).done s _ _ st λh' tk eb=>⟨rfl,I.turned (λb o hb e=>eb b o (~~~hb) e) f0 f1 f3 f4 f5⟩
 grind[wpAny_pyIter_striter_ascii,wpAny_pyIter_striter_wide]
def UG(K:Wa)(tl:TE):TI:=λJ H R=>tl J H λx H1=>(∃a,x=.ref a/\(∃xs,cu K H1 a xs)/\R (xw K a) H1)\/(∃a,x=.ref a/\(∃xs,cN K H1 a xs)/\R (uk K a) H1)\/∃z,x=.str z/\R (yS z) H1
theorem UH{l:Expr}{tl:TE}(hl:PE X l tl):PI X tg l (UG X.K tl):=by
 intro pins s J H R I h;refine aM (hl pins s J H _ I h) λv s1 hh=>?_;obtain⟨x,H1,I1,r1,q1⟩:=hh;rcases q1 with q1|q1|⟨z,e,q⟩;.obtain⟨a,e,⟨xs,hq⟩,q⟩:=q1;subst e;cases r1;obtain⟨ak,rv,p,hz⟩:=I1.list hq;refine Ul p.isList ?_;refine⟨s1.heap.objs.size,[s1.heap.objs.size],_,_,H1,rfl,I1.kept (t':=s1.toks) λb o e=>W5 _ e,Nx a _,⟨_,Wi _ rfl,rfl,rfl⟩,λb hb=>?_,q⟩;have e:b=s1.heap.objs.size:= ~~~hb;subst e;exact I1.iH (Wf _) (I1.aD.fresh (Wf _))
 .obtain⟨a,e,⟨xs,hq⟩,q⟩:=q1;subst e;cases r1;obtain⟨ak,rv,p,hz⟩:=I1.tuple hq;refine Jn (show s1.heap.IsTuple a ak.toArray from p) ?_;refine⟨s1.heap.objs.size,[s1.heap.objs.size],_,_,H1,rfl,I1.kept (t':=s1.toks) λb o e=>W5 _ e,Ny a _,⟨_,Wi _ rfl,rfl,rfl⟩,λb hb=>?_,q⟩;have e:b=s1.heap.objs.size:= ~~~hb;subst e;exact I1.iH (Wf _) (I1.aD.fresh (Wf _))
 .subst e;obtain⟨t,rfl⟩:=r1;refine wpAny_pyIter_strU ?_;have hT:Us z="str_ascii_iterator"\/Us z="str_iterator":=by
   unfold Us;split;.exact .inl rfl
   .exact .inr rfl
  refine⟨s1.heap.objs.size,[s1.heap.objs.size],_,_,H1,rfl,I1.kept (t':=s1.toks) λb o e=>W5 _ e,T_ z t _ _ hT,⟨_,Wi _ rfl,rfl,rfl⟩,λb hb=>?_,q⟩;have e:b=s1.heap.objs.size:= ~~~hb;subst e;exact I1.iH (Wf _) (I1.aD.fresh (Wf _))
theorem UI(z:Tx):oq c J Z H (yS (toS z)) (z.map λn=>D.str [n]):=by intro H2 kp;have hsz:(toS z).cps.size=z.length:=#v[toS];refine⟨by show(z.map _).length=_;rw[hsz];simp,λi d e=>?_⟩;rw[Wo]at e;cases ez:z[i]? with|none=>rw[ez]at e;cases e|some n=>rw[ez]at e;cases e;have hi:i<z.length:=(W9.mp ez).1;refine⟨by show i<_;rw[hsz];exact hi,λx H3⟨e3,cc,hc,hx⟩=>.inl ⟨e3,?_⟩⟩;have:(toS z).cps[i]?=z[i]?:=#v[toS];rw[this,ez]at hc;cases hc;rw[hx];exact .str [n]
def aU(f:DE):DI:=λZ=>(f Z).bind λr T'=>match r.d with|.lst ds=>.ok ds T'|.tup ds=>.ok ds T'|.str x=>.ok (x.map λn=>.str [n]) T'|_=>.stuck
universe H in theorem UJ(he:SE X c e fe):SI X c tg e (aU fe):=PI.weak (UH he) λJ H R⟨Z,k,q⟩=>by
 unfold aU at q;rw[ba]at q;refine⟨Z,k,aO q λr T' q1 v H1 a1 r1=>?_⟩;have rr:=r1.rep;generalize r.d=d at q1 rr;cases d<;>first|exact q1.elim|skip
 .cases rr;exact .inr (.inr ⟨_,rfl,q1 _ H1 a1 (UI _)⟩)
 .cases rr with|tup h1 h2 h3 h4=>exact .inr (.inl ⟨_,rfl,⟨_,.of h2⟩,q1 _ H1 a1 (SM _ h2 (λz=>h1 (.inr z)) ⟨h3,h4⟩)⟩)
 .cases rr with|lst h1 h2 h3 h4=>refine .inl ⟨_,rfl,⟨_,.inl h2⟩,q1 _ H1 a1 ?_⟩;intro H2 kp;rename_i a vs;have h5:Rd H2 a (.lst vs):=Rd.keep h2 λo e=>kp a o e λz=>h1 (.inr z);have r':aI H1 (Av c J T') vs _:=⟨h3,h4⟩;refine⟨⟨vs,.inl h5,%[r'.1|Wf _]⟩,λi d e=>?_⟩;obtain⟨v,ev,rv⟩:=r'.get e;refine⟨⟨vs,v,.inl h5,ev⟩,λx H3⟨e3,y⟩=>.inl ⟨e3,?_⟩⟩;have:=y vs (.inl h5);grind
theorem UK(a:Int)(t:Tok)(l:Addr)(dd:Option Addr)(items:Array Value)(n:Nat)(sl:Array (Option Value)):Meets (Builtin.«int.__rmul__» ⟨[.int a t,.ref l],[]⟩) λj R s=>s.heap.get? l=some {cls:=.type "tuple",dict:=dd,data:=.seq items n,slots:=sl}/\R (.ok (.ret Value.notImplemented)) s:=.of_wp λprog w A R s h=>by obtain⟨hp,g,d,tk,os⟩:=s;obtain⟨hl,h⟩:=h;wp_walk;exact⟨_,rfl,h⟩
theorem UL:fillsNumberSlot (.type "tuple") "mul"=pure false:=PySem.fillsNumberSlot_seq (id:="tuple.__mul__") (r:=some (.builtin "tuple.__rmul__")) F.slot_tuple_mul.lookup P3 F.slot_tuple_rmul.lookup P3
theorem UM:seqRepeat? (.type "tuple")=pure (some (.builtin "tuple.__mul__")):=by unfold seqRepeat?;rw[PySem.seqSlot_of (T:="tuple") (name:="__mul__") (id:="tuple.__mul__") F.slot_tuple_mul.lookup P3,PySem.seqSlot_of (T:="tuple") (name:="__rmul__") (id:="tuple.__rmul__") F.slot_tuple_rmul.lookup P3];rfl
theorem UN(l:Addr)(dd:Option Addr)(items:Array Value)(n:Nat)(sl:Array (Option Value))(x:Int)(u:Tok)(h1:¬(decide (x< -2^63)||decide (x≥2^63))=true)(h2:¬(items.isEmpty||x==1)=true)(h3:¬(decide (x<=0)||items.isEmpty)=true)(h4:¬items.size*x>(2^63-1)/8)(h5:¬Builtin.Tuple.tupleTooMany (items.size*x)=true)(h6:((Wp x.toNat items).foldl (.++.) #[]).size<=Wd):Meets (Builtin.«tuple.__mul__» ⟨[.ref l,.int x u],[]⟩) (λj R s=>s.heap.get? l=some {cls:=.type "tuple",dict:=dd,data:=.seq items n,slots:=sl}/\R (.ok (.ret (.ref s.heap.objs.size))) 9#(s.heap.push {cls:=.type "tuple",data:=.seq ((Wp x.toNat items).foldl (.++.) #[])})):=.of_wp λprog w A R s h=>by
 obtain⟨hp,g,d,tk,os⟩:=s;obtain⟨hl,h⟩:=h;wp_walk;rw[if_neg h1];wp_walk;try rw[if_neg h2]
 try wp_walk
 try rw[if_neg h3]
 try wp_walk
 try rw[if_neg h4]
 try wp_walk
 try rw[if_neg h5]
 try wp_walk
 exact⟨_,rfl,h⟩
theorem yT(ak:List α):∀(k:Nat)(acc:List α),List.foldl (λx1 x2:Array α=>x1++x2) acc.toArray (Wp k ak.toArray)=(acc++(Wp k ak).flatten).toArray|0,acc=>by simp|k+1,acc=>by rw[QT,Jp,show acc.toArray++ak.toArray=(acc++ak).toArray by simp,yT ak k];simp[QT]
def EL(K:Wa):R2:=λx y H Q=>∃l k xs,x=.ref l/\y=.int k/\cN K H l xs/\xs≠[]/\2<=k/\k<=1000000/\xs.length*k.toNat<=Wd/\∀p,H p=none->Q (.ref p) (upd H p (.tup (Wp k.toNat xs).flatten))
theorem UO:bJ X (Qo .Mult) (EL X.K):=by
 intro pins s J H x y v u Q I rx ry h;obtain⟨l,k,xs,rfl,rfl,hH,cE,h1,h2,hz,q⟩:=h;cases rx;obtain⟨t,rfl⟩:=ry;obtain⟨ak,r,pl,hl⟩:=I.tuple hH;obtain⟨⟨cls,dd,data,sl⟩,ho,hc,n,hd⟩:=id pl;simp only at hc hd;subst hc hd;have hlen:ak.toArray.size=xs.length:=%[Wx|r.length.symm];have pG:ak.toArray.isEmpty=false:=by cases ak with|nil=>exact absurd (r.ux.mp rfl) cE|cons a b=>rfl
 have gI:Wd=16777216:=rfl;have hk:(k.toNat:Int)=k:=by lia
 have hmul:((ak.toArray.size:Nat):Int)*k=((xs.length*k.toNat:Nat):Int):=by rw[hlen,Q8,hk]
 have EM:List.foldl (λx1 x2=>x1++x2) #[] (Wp k.toNat ak.toArray)=(Wp k.toNat ak).flatten.toArray:=by have:=CG ak k.toNat [];rw[Qu]at this;exact this
 refine wpAny_binaryOp_repeat_ref (T:="tuple") (U:="int") U' ⟨_,ho,rfl⟩ (λs'=>typeIs_int s' k t) UL F.fills_int_mul F.slot_int_rmul UM F.slot_int_index.lookup (call_meets F.slot_int_rmul (typeIs_int s k t) F.entry_int_rmul (F.args_int_rmul_2 _ _) (UK k t l dd ak.toArray n sl) ⟨ho,rfl,⟨_,ho,rfl⟩,call_meets F.slot_tuple_mul ⟨_,ho,rfl⟩ F.entry_tuple_mul (F.args_tuple_mul_2 _ _) (UN l dd ak.toArray n sl k t ?_ ?_ ?_ ?_ ?_ ?_) ⟨ho,?_⟩⟩);.simp;lia
 .rw[pG];simp;lia
 .rw[pG];simp;lia
 .rw[hmul];lia
 .rw[hmul];unfold Builtin.Tuple.tupleTooMany;rw[gI]at hz;generalize xs.length*k.toNat=m at hz;simp only[gI,decide_eq_true_eq];lia
 .rw[EM,Wx,xO,<-r.length,QK];exact hz
 .rw[EM];have I1:Inv X pins J (upd H s.heap.objs.size (.tup (Wp k.toNat xs).flatten)) 9#(s.heap.push {cls:=.type "tuple",data:=.seq (Wp k.toNat ak).flatten.toArray}):=I.laid (t':=s.toks) (λb o e=>W5 _ e) (Wf _) (show bP X.prog X.w _ _ _ (.tup (Wp k.toNat xs).flatten)from⟨%[xO,QK|hz],(Wp k.toNat ak).flatten,r.rep k.toNat,i_.new _ _⟩);exact⟨.ref _,_,I1,rfl,q _ (I.aD.fresh (Wf _))⟩
def EN:R2:=λx y H Q=>∃z k,x=.str z/\y=.int k/\2<=k/\k<=1000000/\0<z.length/\z.length*k.toNat<=Wd/\Q (.str ⟨(Wp k.toNat z.cps).foldl (.++.) #[]⟩) H
theorem UP:bJ X (Qo .Mult) EN:=by
 intro pins s J H x y v u Q I rx ry h;obtain⟨z,k,rfl,rfl,h1,h2,h0,hz,q⟩:=h;obtain⟨t,rfl⟩:=rx;obtain⟨t',rfl⟩:=ry;have gI:Wd=16777216:=rfl;have c1:¬k<1:=by lia
 have c2:(k==1||z.length==0)=false:=by simp;lia
 refine PySem.P.mul_str Re (λj j=>?_) (λj j=>?_) ?_
 .have hm:(z.length:Int)*k<=16777216:=by
   have:(z.length:Int)*k=((z.length*k.toNat:Nat):Int):=by rw[Q8,show(k.toNat:Int)=k by lia]
   rw[this];rw[gI]at hz;lia
  have:(z.length:Int)<=(2^63-1)/k:=(Int.le_ediv_iff_mul_le Z').mpr Z';lia
 .unfold Builtin.Str.tooLong;rw[gI]at hz;generalize z.length*k.toNat=m at hz;simp only[gI,decide_eq_false_iff_not];lia
 .rw[if_neg c1,if_neg (by rw[c2];simp)];have hsz:((Wp k.toNat z.cps).foldl (.++.) #[]).size=k.toNat*z.length:=by have h:=yT z.cps.toList k.toNat [];simp only[Qu,Array.toArray_toList]at h;rw[h,Wx,xO];simp[Str.length]
  exact⟨by show((Wp k.toNat z.cps).foldl (.++.) #[]).size<=_;rw[hsz,QK];exact hz,.str _,H,I.tok _,⟨_,rfl⟩,q⟩
noncomputable def cZ:D->D->Option S|.int i,.int j=>rh (.int i) (.int j)|.str x,.int k=>if 2<=k/\k<=1000000/\0<x.length/\x.length*k.toNat<=Wd then 0#(.str (Wp k.toNat x).flatten) else none|.tup xs,.int k=>if 2<=k/\k<=1000000/\0<xs.length/\xs.length*k.toNat<=Wd then 0#(.tup (Wp k.toNat xs).flatten) else none|_,_=>none
def EO(K:Wa):R2:=λx y H Q=>rI qD (λi j=>V.int (i*j)) x y H Q\/EN x y H Q\/EL K x y H Q
theorem ER:bJ X (Qo .Mult) (EO X.K):=NL.or (UP.or UO)
theorem aI.rep(h:aI H O vs ds):∀k:Nat,aI H O (Wp k vs).flatten (Wp k ds).flatten|0=>.nil|k+1=>%[QT,QT,QO,QO|h.append (aI.rep h k)]
universe H in theorem ES:cx (EO K) cZ:=by
 intro c J Z H x y d e s Q k rx ry hp q;cases d<;>cases e<;>first|(simp[cZ]at hp;done)|skip
 .exact .inl (RP c J Z H x y _ _ s Q k rx ry hp q)
 .rename_i z n;simp only[cZ]at hp;split at hp
  .rename_i h;cases hp;refine .inr (.inl ⟨toS z,n,rx.str,ry.int,h.1,h.2.1,%[kj|h.2.2.1],%[kj|h.2.2.2],?_⟩);have e:(⟨(Wp n.toNat (toS z).cps).foldl (.++.) #[]⟩:Str)=toS (Wp n.toNat z).flatten:=by unfold toS;congr 1;have:=yT z n.toNat [];rw[Qu]at this;exact this
   rw[e];exact q _ H (.refl k) (.str _)
  .cases hp
 .rename_i ds n;simp only[cZ]at hp;split at hp
  .rename_i h;cases hp;obtain⟨a,vs,ex,ha,r⟩:=rx.tup;refine .inr (.inr ⟨a,n,vs,ex,ry.int,.of ha,?_,h.1,h.2.1,%[r.1|h.2.2.2],λp ET=>?_⟩);.intro z;rw[z]at r;have:=r.1;simp at this;lia
   .exact q _ _ (.alloc k ET _) (bu.qW k (aI.rep r _) ET)
  .cases hp
theorem bu.newD(k:Ok c J Z H)(hp:H p=none):bu c J Z H (upd H p (.dK [])) (.ref p) (.own (.aA [])):=by refine⟨p,rfl,⟨[],cW,rfl,λi p q e=>by simp at e⟩,λz=>k.iJ hp (.inl z),k.mJ hp,k.plus hp _,hp⟩
def lE:DE:=λZ=>.ok (.own (.aA [])) Z
theorem UQ:SE X c (.Dict [] [] pos) lE:=PE.weak OW λJ H Q⟨Z,k,q⟩=>λp hp=>q _ _ (.alloc k hp _) (bu.newD k hp)
theorem EU:entryFor table "dict.update.loop"=some Builtin.«dict.update.loop»:=entryFor_of_tree (by kernel_rfl)
theorem rR:plainId "dict.update.loop"=true:=by decide+kernel
theorem UR:typeLookup (.type "tuple") "keys"=pure none:=by rw[typeLookup_type,JP];kernel_rfl
theorem US:typeLookup (.type "list") "keys"=pure none:=by rw[typeLookup_type,JP];kernel_rfl
set_option maxRecDepth 8000 in theorem UT(hx:s.heap.get? a=some o)(hc:o.cls=.type "tuple")(mV:o.data=.seq xs k)(hd:o.dict=none)(hA:A.handled=none)(h:∀h' tk,(∀b ob,s.heap.get? b=some ob->h'.get? b=some ob)->Q none {s with heap:=h',toks:=tk}):Wb 4#0 A (getAttr? (.ref a) "keys") Q E s:=by
 obtain⟨c,aA,dat,sl⟩:=o;simp only at hc mV hd;subst hc mV hd;obtain⟨hp,g,d,tk,os⟩:=s;have hT:∀kC,(⟨hp,g,d,kC,os⟩:W6).TypeIs (.ref a) "tuple":=λj=>⟨_,hx,rfl⟩;have f1:=sub_AttributeError;have f3:=F.slot_tuple_getattribute.lookup;have f4:=F.slot_tuple_getattribute.bind (.ref a);have f5:=am_tuple_getattr_none;have yU:=UR;unfold getAttr? getAttrBy? getAttrBy;repeat(any_goals(first|assumption|exact hT _|((with_reducible show Wb _ _ (call (Value.builtin "tuple.__getattribute__") _ _) _ _ _);refine call_meets F.slot_tuple_getattribute (hT _) am_entry_tuple_getattribute (F.args_tuple_getattribute_2 _ _) (meets_getattribute_miss_tuple a xs k sl "keys" _ yU P3) ⟨hx,hA,λh' kC e jI=>?_⟩)|wp_step))
 obtain⟨t',u',he⟩:=jI.there;show Wb _ _ (Uf _ _ _ _ _ _ _) _ _ _;unfold Uf;repeat(any_goals(first|assumption|wp_step))
 exact h _ _ jI.keeps
set_option maxRecDepth 8000 in theorem UU(hx:s.heap.get? a=some o)(hc:o.cls=.type "list")(mV:o.data=.seq xs k)(hd:o.dict=none)(hA:A.handled=none)(h:∀h' tk,(∀b ob,s.heap.get? b=some ob->h'.get? b=some ob)->Q none {s with heap:=h',toks:=tk}):Wb 4#0 A (getAttr? (.ref a) "keys") Q E s:=by
 obtain⟨c,aA,dat,sl⟩:=o;simp only at hc mV hd;subst hc mV hd;obtain⟨hp,g,d,tk,os⟩:=s;have hT:∀kC,(⟨hp,g,d,kC,os⟩:W6).TypeIs (.ref a) "list":=λj=>⟨_,hx,rfl⟩;have f1:=sub_AttributeError;have f3:=F.slot_list_getattribute.lookup;have f4:=F.slot_list_getattribute.bind (.ref a);have f5:=am_list_getattr_none;have yU:=US;unfold getAttr? getAttrBy? getAttrBy;repeat(any_goals(first|assumption|exact hT _|((with_reducible show Wb _ _ (call (Value.builtin "list.__getattribute__") _ _) _ _ _);refine call_meets F.slot_list_getattribute (hT _) am_entry_list_getattribute (F.args_list_getattribute_2 _ _) (meets_getattribute_miss_list a xs k sl "keys" _ yU P3) ⟨hx,hA,λh' kC e jI=>?_⟩)|wp_step))
 obtain⟨t',u',he⟩:=jI.there;show Wb _ _ (Uf _ _ _ _ _ _ _) _ _ _;unfold Uf;repeat(any_goals(first|assumption|wp_step))
 exact h _ _ jI.keeps
def gx(kps:List (Key×V))(acc:List (Key×V)):List (Key×V):=kps.foldl (λa kv=>putK a kv.1 kv.2) acc
theorem UW{R:Result->W6->Prop}{s:W6}{dl:Addr}{i:Int}{t0:Tok}(hn:Wb 4#0 A.in1 (Qk (.ref it)) (λr s1=>∃(q:Addr)(k v:Value)(n:Nat),r=some (.ref q)/\s1.heap.get? q=some {cls:=.type "tuple",dict:=none,data:=.seq #[k,v] n,slots:=#[]}/\Wb 4#0 A.in1 (dictSet dl k v) (λj s2=>QR 4#0 A (.builtin "dict.update.loop" ⟨[.ref dl,.ref it,Qv (i+1),.none],[]⟩) R s2) (λj j=>False) s1) (λj j=>False) s):QR 4#0 A (.builtin "dict.update.loop" ⟨[.ref dl,.ref it,.int i t0,.none],[]⟩) R s:=by
 refine QI EU ?_;rw[Around.under_plainId rR _];show Wb _ A.in1 (Qk (.ref it)>>=_) _ _ s;refine W0 (Q2 hn (λr s1 hr=>?_) (by grind));obtain⟨q,k,v,n,rfl,hq,hd⟩:=hr;dsimp only;refine W0 ?_;try with_reducible refine WZ ?_
 refine W0 (wpAny_tryCatch ?_);have hT:s1.TypeIs (.ref q) "tuple":=⟨_,hq,rfl⟩;unfold Builtin.Dict.pairItems;refine W0 (wpAny_typeOf hT ?_);rw[if_pos U'];refine W0 ?_;unfold seqItems?;refine W0 (wpAny_load hq (W3 ?_));refine W3 ?_;show Wb _ A.in1 (holding [k,v] (dictSet dl k v)) _ _ s1;try with_reducible refine WZ ?_
 refine Q2 hd (λj s2 h2=>?_) (by grind);exact W3 ⟨Jf rR _,h2⟩
theorem UX{R:Result->W6->Prop}{i:Int}(hn:Wb 4#0 A.in1 (Qk (.ref it)) (λr s1=>r=none/\R (.ok (.ret .none)) s1) (λj j=>False) s):QR 4#0 A (.builtin "dict.update.loop" ⟨[.ref dl,.ref it,.int i t0,.none],[]⟩) R s:=by refine QI EU ?_;rw[Around.under_plainId rR _];show Wb _ A.in1 (Qk (.ref it)>>=_) _ _ s;refine W0 (Q2 hn (λr s1 hr=>?_) (by grind));obtain⟨rfl,hd⟩:=hr;dsimp only;show Wb _ A.in1 (Builtin.Dict.addKeywords dl []>>=_) _ _ s1;exact W0 (W3 (W3 hd))
theorem Rd.sub{u}(h:Rd H a u)(k:∀b o,H b=Option.some o->H' b=Option.some o):Rd H' a u:=by
 rcases h with h|⟨o,h⟩;.exact .inl (k _ _ h)
 .exact .inr ⟨o,k _ _ h⟩
def vp(H:Hp)(ys:List V)(kps:List (Key×V)):Prop:=ys.length=kps.length/\∀(i:Nat)y kv,ys[i]?=some y->kps[i]?=some kv->∃q,y=.ref q/\H q=some (.tup [kV kv.1,kv.2])
theorem EV:∀(kps acc:List (Key×V)),(gx kps acc).length<=acc.length+kps.length|[],acc=>Wf _|kv::r,acc=>by have h1:=EV r (putK acc kv.1 kv.2);have h2:=qG acc kv.1 kv.2;show(gx r (putK acc kv.1 kv.2)).length<=_;simp only[WF];lia
theorem UY(kps:List (Key×V))(kv:Key×V)(acc:List (Key×V)):gx (kps++[kv]) acc=putK (gx kps acc) kv.1 kv.2:=by unfold gx;rw[List.foldl_append];rfl
theorem EW{R:Result->W6->Prop}(hP:vp H ys kps)(jT:H dl=none)(hz:kps.length<=Wd)(item:∀(i:Nat)(y:V)(H':Hp)(s:W6)(Q:Option Value->W6->Prop),(∀b o,H b=some o->H' b=some o)->H' it=none->Inv X pins J H' s->tn i s.heap->ys[i]?=some y->(∀u s',RelV y u->Inv X pins J H' s'->tn (i+1) s'.heap->Q (some u) s')->Wb 5#0 A.in1 (Qk (.ref it)) Q (λc c=>False) s)(done:∀(H':Hp)(s:W6)(Q:Option Value->W6->Prop),(∀b o,H b=some o->H' b=some o)->H' it=none->Inv X pins J H' s->tn ys.length s.heap->(∀s',Inv X pins J H' s'->Q none s')->Wb 5#0 A.in1 (Qk (.ref it)) Q (λc c=>False) s)(keep:∀(i:Nat)(h h':Heap),tn i h->(∀o,h.get? it=some o->h'.get? it=some o)->tn i h')(hit:H it=none)(cE:it≠dl)(hR:∀s',Inv X pins J (upd H dl (.dK (gx kps []))) s'->R (.ok (.ret .none)) s'):∀(k i:Nat)(s:W6)(j:Int)(t0:Tok),ys.length-i=k->i<=ys.length->Inv X pins J (upd H dl (.dK (gx (kps.take i) []))) s->tn i s.heap->QR 5#0 A (.builtin "dict.update.loop" ⟨[.ref dl,.ref it,.int j t0,.none],[]⟩) R s:=by
 have up:∀(acc:List (Key×V))b o,H b=some o->upd H dl (.dK acc) b=some o:=λacc b o e=>%[aN (gF e jT)|e];have me:∀acc:List (Key×V),upd H dl (.dK acc) it=none:=λacc=>%[aN cE|hit]
 intro k;induction k with|zero=>
 intro i s j t0 hk hi I st;have e:i=ys.length:=by lia
 subst e;rw[hP.1,JM (Wf _)]at I;refine UX (done _ s _ (up _) (me _) I st λs' I'=>⟨rfl,hR s' I'⟩)|succ k ih=>
 intro i s j t0 hk hi I st;have a0:i<ys.length:=by lia
 have pH:i<kps.length:=by rw[<-hP.1];exact a0
 obtain⟨q,ey,hq⟩:=hP.2 i ys[i] kps[i] #v[a0] #v[pH];have main:∀s1,Inv X pins J (upd H dl (.dK (gx (kps.take i) []))) s1->tn (i+1) s1.heap->∃(kk vv:Value)(n:Nat),s1.heap.get? q=some {cls:=.type "tuple",dict:=none,data:=.seq #[kk,vv] n,slots:=#[]}/\RelV (kV kps[i].1) kk/\RelV kps[i].2 vv:=λs1 I1 c=>by obtain⟨_,ak,r,n,e⟩:=show bP X.prog X.w _ s1.heap q (.tup [kV kps[i].1,kps[i].2])from I1.aD q _ (up _ q _ hq);obtain⟨u,v,rfl,r1,r2⟩:=Vals.two r;exact⟨u,v,n,e,r1,r2⟩
 refine UW (item i ys[i] _ s _ (up _) (me _) I st #v[a0] λu s' ru I' ft=>?_);rw[ey]at ru;cases ru;obtain⟨kk,vv,n,e,r1,r2⟩:=main s' I' ft;refine⟨q,kk,vv,n,rfl,e,?_⟩;obtain⟨z,hd,vs,rel,dd⟩:=qH I'.aD cW;have rM:vs.length<=Wd:=by rw[<-rel.length];exact z
 have hl:(putK (gx (kps.take i) []) kps[i].1 kps[i].2).length<=Wd:=by have h1:=qG (gx (kps.take i) []) kps[i].1 kps[i].2;have h2:=EV (kps.take i) [];simp at h2;lia
 refine wpAny_dictSet_pairs (hsz:=rM) (mC r1) dd λh' ki hs=>?_;have he:∃q,h'.get? dl=some q:=let⟨q,_,_,hq,_⟩:=ki;⟨q,hq⟩;have I2:=qL (t':=s'.toks+1) I' %[cW|True.intro] hs he (xS hl hd (rel.put kps[i].1 r2) ki);rw[MA]at I2;have et:kps.take (i+1)=kps.take i++[kps[i]]:=by simp_all
 rw[show putK (gx (kps.take i) []) kps[i].1 kps[i].2=gx (kps.take (i+1)) []by rw[et,UY]]at I2;exact ih (i+1) _ (j+1) _ Z' a0 I2 (keep (i+1) _ _ ft λo eo=>(hs.2 it cE).trans eo)
theorem UZ(hc:X.calm=true):eG X (.type "dict") λxs H Q=>∃p ys kps,xs=[.ref p]/\(H p=some (.tup ys)\/Rd H p (.lst ys))/\vp H ys kps/\kps.length<=Wd/\∀l,H l=none->Q (.ref l) (upd H l (.dK (gx kps []))):=by
 intro pins s J H xs us Q I r h;obtain⟨p,ys,kps,rfl,hp,hP,hz,q⟩:=h;obtain⟨u,rfl,rx⟩:=ie r;cases rx;have hA:X.A.handled=none:=I.ok.hd hc;refine callType_codes (Q₁:=λobj s₁=>obj=.ref s.heap.objs.size/\s₁=9#(s.heap.push {cls:=.type "dict",data:=.dict #[]})) F.kt_called_dict (F.kt_typeCall_dict_1 _) F.entry_dict_init (kt_code_dict_new _ ⟨rfl,rfl⟩) ?_;rintro obj s₁⟨rfl,rfl⟩;have jT:H s.heap.objs.size=none:=I.aD.fresh (Wf _);have I1:Inv X pins J (upd H s.heap.objs.size (.dK [])) 9#(s.heap.push {cls:=.type "dict",data:=.dict #[]}):=I.laid (t':=s.toks) (λj j q=>W5 _ q) (Wf _) (xT s.heap I.big);generalize km:s.heap.objs.size=dl at jT I1;have up:∀(acc:List (Key×V))b o,H b=some o->upd H dl (.dK acc) b=some o:=λacc b o e=>%[aN (gF e jT)|e];have EX:(9#(s.heap.push {cls:=.type "dict",data:=.dict #[]}):W6).TypeIs (.ref dl) "dict":=⟨_,by rw[<-km];exact Wi _ rfl,rfl⟩;refine⟨EX,F.args_dict_init_2 _ _,?_⟩;unfold Builtin.«dict.__init__»;refine W0 ?_;unfold Builtin.Dict.selfAndRest;refine W0 (wpAny_notOrdered_dict EX ?_);show Wb _ _ (pure (dl,[Value.ref p])) _ _ _;refine W3 ?_;show Wb _ _ (Builtin.Dict.updateFrom "dict.__init__" dl (.ref p) [] .none) _ _ _;unfold Builtin.Dict.updateFrom;have fin:∀s',Inv X pins J (upd H dl (.dK (gx kps []))) s'->EP X pins J Q (.ref dl) s':=λs' I'=>⟨.ref dl,_,I',rfl,q dl jT⟩;rcases hp with hp|hp
 .obtain⟨_,ak,r,n,e⟩:=show bP X.prog X.w _ (s.heap.push {cls:=.type "dict",data:=.dict #[]}) p (.tup ys)from I1.aD p _ (up _ p _ hp);refine W0 (wpAny_typeOf ⟨_,e,rfl⟩ ?_);rw[if_pos U'];refine W0 (UT e rfl rfl rfl hA λh' tk kp=>?_);rw[if_pos (show(none:Option Value).isNone=true from rfl)];refine W0 (QW ?_);have I2:Inv X pins J (upd H dl (.dK [])) {s with heap:=h',toks:=tk}:=I1.kept kp;have yV:h'.IsTuple p ak.toArray:=⟨_,kp _ _ e,rfl,n,rfl⟩;refine W0 (Jn (s:={s with heap:=h',toks:=tk}) yV ?_);refine W3 ⟨Jf rR _,?_⟩;have n8:upd H dl (.dK []) h'.objs.size=none:=I2.aD.fresh (Wf _);have cE:h'.objs.size≠dl:=λz=>by grind[cW]
  have hit:H h'.objs.size=none:=by rw[aN cE]at n8;exact n8
  have fp:∀H':Hp,H' h'.objs.size=none->gG X pins H' h'.objs.size:=λH' hn=>I2.iH (Wf _) hn;refine EW (X:=X) (pins:=pins) (J:=J) (H:=H) (dl:=dl) (it:=h'.objs.size) (ys:=ys) (kps:=kps) (tn:=λi h=>h.IsTupleIter h'.objs.size p i) hP jT hz ?_ ?_ (λi h h2 st k=>st.at k) hit cE (λs' I'=>⟨rfl,fin s' I'⟩) ys.length 0 _ 0 _ (Nat.sub_zero _) (Qc _) ?_ ?_;.intro i y H' s' Q' sub hn I' st hy k;obtain⟨_,its2,r2,n2,e2⟩:=show bP X.prog X.w _ s'.heap p (.tup ys)from I'.aD p _ (sub p _ hp);obtain⟨v,hv,rv⟩:=r2.get hy;obtain⟨f0,f1,f2,f3,f4,f5⟩:=fp H' hn;refine wpAny_pyNext_tuple_item st (items:=its2.toArray) ⟨_,e2,rfl,n2,rfl⟩ (x:=v) (~~~hv) λh3 mj sb=>?_;exact k v {s' with heap:=h3} rv (I'.turned (t':=s'.toks) (λb o hb e=>(sb.2 b hb).trans e) f0 f1 f3 f4 f5) mj
  .intro H' s' Q' sub hn I' st k;obtain⟨_,its2,r2,n2,e2⟩:=show bP X.prog X.w _ s'.heap p (.tup ys)from I'.aD p _ (sub p _ hp);obtain⟨f0,f1,f2,f3,f4,f5⟩:=fp H' hn;have gJ:=r2.length;exact wpAny_pyNext_tuple_end (show X.A.in1.in1.handled=none from hA) st (items:=its2.toArray) ⟨_,e2,rfl,n2,rfl⟩ Re λh3 eb=>k {s' with heap:=h3} (I'.turned (t':=s'.toks) (λb o hb e=>eb b o hb e) f0 f1 f3 f4 f5)
  .exact I2.kept (t':=tk) λb o e=>W5 _ e
  .exact⟨_,Wi _ rfl,rfl,rfl⟩
 .obtain⟨_,ak,n,r,e⟩:=show bP X.prog X.w _ (s.heap.push {cls:=.type "dict",data:=.dict #[]}) p (.lst ys)from(Rd.sub hp (up _)).ok I1.aD;refine W0 (wpAny_typeOf ⟨_,e,rfl⟩ ?_);rw[if_pos U'];refine W0 (UU e rfl rfl rfl hA λh' tk kp=>?_);rw[if_pos (show(none:Option Value).isNone=true from rfl)];refine W0 (QW ?_);have I2:Inv X pins J (upd H dl (.dK [])) {s with heap:=h',toks:=tk}:=I1.kept kp;have yV:h'.IsList p ak.toArray:=⟨_,kp _ _ e,rfl,n,rfl⟩;refine W0 (Ul (s:={s with heap:=h',toks:=tk}) yV ?_);refine W3 ⟨Jf rR _,?_⟩;have n8:upd H dl (.dK []) h'.objs.size=none:=I2.aD.fresh (Wf _);have cE:h'.objs.size≠dl:=λz=>by grind[cW]
  have hit:H h'.objs.size=none:=by rw[aN cE]at n8;exact n8
  have fp:∀H':Hp,H' h'.objs.size=none->gG X pins H' h'.objs.size:=λH' hn=>I2.iH (Wf _) hn;refine EW (X:=X) (pins:=pins) (J:=J) (H:=H) (dl:=dl) (it:=h'.objs.size) (ys:=ys) (kps:=kps) (tn:=λi h=>h.IsListIter h'.objs.size p i) hP jT hz ?_ ?_ (λi h h2 st k=>st.at k) hit cE (λs' I'=>⟨rfl,fin s' I'⟩) ys.length 0 _ 0 _ (Nat.sub_zero _) (Qc _) ?_ ?_;.intro i y H' s' Q' sub hn I' st hy k;obtain⟨_,its2,n2,r2,e2⟩:=show bP X.prog X.w _ s'.heap p (.lst ys)from(Rd.sub hp sub).ok I'.aD;obtain⟨v,hv,rv⟩:=r2.get hy;obtain⟨f0,f1,f2,f3,f4,f5⟩:=fp H' hn;refine wpAny_pyNext_list_item st (items:=its2.toArray) ⟨_,e2,rfl,n2,rfl⟩ (x:=v) (~~~hv) λh3 mj sb=>?_;exact k v {s' with heap:=h3} rv (I'.turned (t':=s'.toks) (λb o hb e=>(sb.2 b hb).trans e) f0 f1 f3 f4 f5) mj
  .intro H' s' Q' sub hn I' st k;obtain⟨_,its2,n2,r2,e2⟩:=show bP X.prog X.w _ s'.heap p (.lst ys)from(Rd.sub hp sub).ok I'.aD;obtain⟨f0,f1,f2,f3,f4,f5⟩:=fp H' hn;have gJ:=r2.length;exact wpAny_pyNext_list_end (show X.A.in1.in1.handled=none from hA) st (items:=its2.toArray) ⟨_,e2,rfl,n2,rfl⟩ Re λh3 eb=>k {s' with heap:=h3} (I'.turned (t':=s'.toks) (λb o hb e=>eb b o hb e) f0 f1 f3 f4 f5)
  .exact I2.kept (t':=tk) λb o e=>W5 _ e
  .exact⟨_,Wi _ rfl,rfl,rfl⟩
def dw(kvs:List (a7×D))(k:a7):Option D:=(kvs.find? λkv=>decide (kv.1=k)).map (·.2)
def putD(kvs:List (a7×D))(k:a7)(v:D):List (a7×D):=if(kvs.any λkv=>decide (kv.1=k))=true then kvs.map λkv=>if kv.1=k then(kv.1,v)else kv else kvs++[(k,v)]
def mW(kps acc:List (a7×D)):List (a7×D):=kps.foldl (λa kv=>putD a kv.1 kv.2) acc
theorem U_(h:cO k=cO j):k=j:=by
 cases k<;>cases j<;>simp[cO]at h;.rw[h]
 .rw[uK h]
def DR(H:Hp)(O:Addr->Prop):List (Key×V)->List (a7×D)->Prop|[],[]=>True|p::ws,q::ds=>p.1=cO q.1/\Rep H O p.2 q.2/\DR H O ws ds|_,_=>False
theorem DR.of:∀{ws:List (Key×V)}{ds:List (a7×D)},ws.map (·.1)=ds.map (λp=>cO p.1)->(∀(i:Nat)p q,ws[i]?=some p->ds[i]?=some q->Rep H O p.2 q.2)->DR H O ws ds|[],[],_,_=>trivial|[],_::_,h,_=>by simp at h|_::_,[],h,_=>by simp at h|p::ws,q::ds,h,k=>by simp only[We,List.cons.injEq]at h;exact⟨h.1,k 0 p q rfl rfl,DR.of h.2 λi p' q' e1 e2=>k (i+1) p' q' (~~~e1) (~~~e2)⟩
theorem DR.keys:∀{ws:List (Key×V)}{ds:List (a7×D)},DR H O ws ds->ws.map (·.1)=ds.map λp=>cO p.1|[],[],_=>rfl|[],_::_,h=>h.elim|_::_,[],h=>h.elim|p::ws,q::ds,h=>by simp only[We,h.1,DR.keys h.2.2]
theorem DR.vals:∀{ws:List (Key×V)}{ds:List (a7×D)},DR H O ws ds->∀(i:Nat)p q,ws[i]?=some p->ds[i]?=some q->Rep H O p.2 q.2|[],[],_,i,p,q,e,_=>by simp at e|[],_::_,h,_,_,_,_,_=>h.elim|_::_,[],h,_,_,_,_,_=>h.elim|p::ws,q::ds,h,i,p',q',e1,e2=>by cases i with|zero=>simp at e1 e2;subst e1 e2;exact h.2.1|succ i=>exact DR.vals h.2.2 i p' q' (~~~e1) (~~~e2)
theorem DR.map:∀{ws:List (Key×V)}{ds:List (a7×D)},DR H O ws ds->(∀v d,Rep H O v d->Rep H' O' v d)->DR H' O' ws ds|[],[],_,_=>trivial|[],_::_,h,_=>h.elim|_::_,[],h,_=>h.elim|p::ws,q::ds,h,k=>⟨h.1,k _ _ h.2.1,DR.map h.2.2 k⟩
theorem ou(h:p=cO q):p=cO k↔q=k:=⟨λe=>U_ (by rw[<-h];exact e),by grind⟩
theorem DR.any:∀{ws:List (Key×V)}{ds:List (a7×D)}(k:a7),DR H O ws ds->(ws.any λkv=>decide (kv.1=cO k))=ds.any λkv=>decide (kv.1=k)|[],[],_,_=>rfl|[],_::_,_,h=>h.elim|_::_,[],_,h=>h.elim|p::ws,q::ds,k,h=>by rw[Qz,Qz,DR.any k h.2.2];congr 1;exact decide_eq_decide.mpr (ou h.1)
theorem DR.val{H O}:∀{ws:List (Key×V)}{ds:List (a7×D)}(k:a7),DR H O ws ds->dw ds k=none/\gk ws (cO k)=none\/∃v d,dw ds k=some d/\gk ws (cO k)=some v/\Rep H O v d
 |[],[],_,_=>.inl ⟨rfl,rfl⟩|[],_::_,_,h=>h.elim|_::_,[],_,h=>h.elim|p::ws,q::ds,k,h=>by
  by_cases e:q.1=k;.have e':=(ou h.1).mpr e;exact .inr ⟨p.2,q.2,#v[dw,Qf,e],uC e',h.2.1⟩
  .have e':¬p.1=cO k:=λz=>e ((ou h.1).mp z);have ev:dw (q::ds) k=dw ds k:=#v[dw,Qf,e];rw[ev,uD e'];exact DR.val k h.2.2
theorem DR.append:∀{ws EY:List (Key×V)}{ds dP:List (a7×D)},DR H O ws ds->DR H O EY dP->DR H O (ws++EY) (ds++dP)|[],_,[],_,_,h'=>h'|[],_,_::_,_,h,_=>h.elim|_::_,_,[],_,h,_=>h.elim|p::ws,_,q::ds,_,h,h'=>⟨h.1,h.2.1,DR.append h.2.2 h'⟩
theorem DR.store:∀{ws:List (Key×V)}{ds:List (a7×D)}{k:a7}{v:V}{d:D},DR H O ws ds->Rep H O v d->DR H O (ws.map λkv=>if kv.1=cO k then(kv.1,v)else kv) (ds.map λkv=>if kv.1=k then(kv.1,d)else kv)
 |[],[],_,_,_,_,_=>trivial|[],_::_,_,_,_,h,_=>h.elim|_::_,[],_,_,_,h,_=>h.elim|p::ws,q::ds,k,v,d,h,r=>by
  refine⟨?_,?_,DR.store h.2.2 r⟩
  .by_cases e:q.1=k;.dsimp only;rw[if_pos ((ou h.1).mpr e),if_pos e];exact h.1
   .dsimp only;rw[if_neg λz=>e ((ou h.1).mp z),if_neg e];exact h.1
  .by_cases e:q.1=k;.dsimp only;rw[if_pos ((ou h.1).mpr e),if_pos e];exact r
   .dsimp only;rw[if_neg λz=>e ((ou h.1).mp z),if_neg e];exact h.2.1
theorem DR.put(h:DR H O ws ds)(r:Rep H O v d):DR H O (putK ws (cO k) v) (putD ds k d):=by
 unfold putK putD;rw[DR.any k h];split;.exact DR.store h r
 .exact DR.append h ⟨rfl,r,trivial⟩
theorem DR.yW:∀{kps:List (Key×V)}{vq:List (a7×D)}{ws:List (Key×V)}{ds:List (a7×D)},DR H O kps vq->DR H O ws ds->DR H O (gx kps ws) (mW vq ds)|[],[],_,_,_,h=>h|[],_::_,_,_,h,_=>h.elim|_::_,[],_,_,h,_=>h.elim|p::kps,q::vq,ws,ds,h,h'=>by show DR H O (gx kps (putK ws p.1 p.2)) (mW vq (putD ds q.1 q.2));rw[h.1];exact DR.yW h.2.2 (DR.put h' h.2.1)
noncomputable def dz:D->Option a7|.int i=>some (.inl i)|.str x=>some (.inr x)|_=>none
theorem EZ(h:dz d=some k)(r:Rep H O v d):v=kV (cO k):=by cases d<;>simp[dz]at h<;>subst h<;>cases r<;>rfl
theorem rS(h:dz d=some k)(r:cC c J Z H v d):v=kV (cO k):=by
 rcases r with r|⟨a,rfl,r⟩;.exact EZ h r
 .cases d<;>simp[dz]at h<;>exact r.elim
noncomputable def ir:List D->Option (List (a7×D))
 |[]=>some []|.tup [k,v]::r=>match dz k,ir r with|some k',some r'=>some ((k',v)::r')|_,_=>none
 |_::_=>none
noncomputable def gy:D->Option S|.lst ds=>(ir ds).bind λps=>if ps.length<=Wd then some (.own (.aA (mW ps [])))else none|.tup ds=>(ir ds).bind λps=>if ps.length<=Wd then some (.own (.aA (mW ps [])))else none|_=>none
universe H in theorem yX:∀{ds:List D}{vs:List V}{ps:List (a7×D)},ir ds=some ps->aI H O vs ds->∃kps,vp H vs kps/\DR H O kps ps/\kps.length=ps.length
 |[],[],ps,h,_=>by simp[ir]at h;subst h;exact⟨[],⟨rfl,λi y kv e=>by simp at e⟩,trivial,rfl⟩|[],_::_,_,_,r=>by have:=r.1;simp at this|_::_,[],_,_,r=>by have:=r.1;simp at this|d::ds,v::vs,ps,h,r=>by
  unfold ir at h;split at h;.grind
  .rename_i k w r' heq;cases heq;split at h;.rename_i k' r'' hk hr;cases h;obtain⟨kps,hP,hD,hL⟩:=yX hr r.tail;have rp:=r.head;cases rp with|tup h1 h2 h3 h4=>rename_i a us;rcases us with _|⟨x,_|⟨y,_|_⟩⟩<;>cases h3;have rk:=h4 0 x k rfl rfl;have rv:=h4 1 y w rfl rfl;have ek:=EZ hk rk;subst ek;refine⟨(cO k',y)::kps,⟨#v[hP.1],λi z kv e1 e2=>?_⟩,⟨rfl,rv,hD⟩,#v[hL]⟩;cases i with|zero=>simp at e1 e2;subst e1 e2;exact⟨a,rfl,h2⟩|succ i=>exact hP.2 i z kv (~~~e1) (~~~e2)
   .cases h
  .cases h
theorem bu.E1(k:Ok c J Z H)(hp:H p=none)(r:DR H (Av c J Z) ws ds):bu c J Z H (upd H p (.dK ws)) (.ref p) (.own (.aA ds)):=by
 have up:∀a w,H a=some w->upd H p (.dK ws) a=some w:=λa w e=>%[aN (gF e hp)|e];have r1:DR (upd H p (.dK ws)) (Av (c.plus p) J Z) ws ds:=r.map λv d h=>(h.aS λb z=>by
 rcases z with(z|z)|z;.exact .inl (.inl z)
 .exact .inr %[z|hp]
 .exact .inl (.inr z)).keep λb w e j=>up b w e;exact⟨p,rfl,⟨ws,cW,r1.keys,r1.vals⟩,λz=>k.iJ hp (.inl z),k.mJ hp,k.plus hp _,hp⟩
theorem Va:QU "dict"=some (.type "dict"):=by decide+kernel
universe H in theorem Vb(hc:X.calm=true)(hg:Gl X "dict")(hm:X.mg "dict"=none)(he:SB X c e fb)(hs:pF e=true:=by rfl):SE X c (.Call (.Name "dict" pp) [e] [] pos) (aE gy fb):=yt (r:=λv H Q=>∃p ys kps,v=.ref p/\(H p=some (.tup ys)\/Rd H p (.lst ys))/\vp H ys kps/\kps.length<=Wd/\∀l,H l=none->Q (.ref l) (upd H l (.dK (gx kps [])))) (UZ hc) (λv H Q⟨p,ys,kps,e,h⟩=>⟨p,ys,kps,by rw[e],h⟩) (λc J Z H x d s Q k rx hp q=>by cases d with
 |lst ds=>simp only[gy]at hp;cases kD:ir ds with|none=>rw[kD]at hp;cases hp|some ps=>
 rw[kD]at hp;simp only[Qg]at hp;split at hp;.rename_i hz;cases hp;obtain⟨a,vs,ex,ha,r⟩:=rx.lst;obtain⟨kps,hP,hD,hL⟩:=yX kD r;exact⟨a,vs,kps,ex,.inr ha,hP,%[hL|hz],λl hl=>q _ _ (.alloc k hl _) (bu.E1 k hl (DR.yW hD (ws:=[]) (ds:=[]) trivial))⟩
 .cases hp|tup ds=>simp only[gy]at hp;cases kD:ir ds with|none=>rw[kD]at hp;cases hp|some ps=>
 rw[kD]at hp;simp only[Qg]at hp;split at hp;.rename_i hz;cases hp;obtain⟨a,vs,ex,ha,r⟩:=rx.tup;obtain⟨kps,hP,hD,hL⟩:=yX kD r;exact⟨a,vs,kps,ex,.inl ha,hP,%[hL|hz],λl hl=>q _ _ (.alloc k hl _) (bu.E1 k hl (DR.yW hD (ws:=[]) (ds:=[]) trivial))⟩
 .cases hp|_=>simp[gy]at hp) hg hm Va he U' U' (rQ hs)
theorem vt(r:cC c J Z H v (.aA ds)):∃a ws,v=.ref a/\H a=some (.dK ws)/\DR H (Av c J Z) ws ds:=by obtain⟨a,ws,e,h,k1,k2⟩:=r.aA;exact⟨a,ws,e,h,DR.of k1 k2⟩
def E3(neg:Bool):R2:=λx y H Q=>∃a kvs k,y=.ref a/\H a=some (.dK kvs)/\x=kV k/\Q (.bl (if neg then !(gk kvs k).isSome else(gk kvs k).isSome)) H
theorem Vc(hu:X.A.units+64<WR):bJ X (WX .NotIn) (E3 true):=by intro pins s J H x y v u Q I rx ry h;obtain⟨a,kvs,k,rfl,ha,rfl,q⟩:=h;cases ry;exact OQ Z' I (mE.k ha) rx λs' I'=>⟨.bl _,H,I',rfl,q⟩
def E4(K:Wa)(neg:Bool):R2:=λx y H Q=>E3 neg x y H Q\/CB K neg x y H Q\/∃i j,x=.str i/\y=.str j/\Q (.bl (if neg then !!(Builtin.Str.occurrences j i 0 j.length 1).isEmpty else !(Builtin.Str.occurrences j i 0 j.length 1).isEmpty)) H
theorem E5{X:Cx}(hu:X.A.units+64<WR):bJ X (WX .NotIn) (E4 X.K true):=(Vc hu).or (OD.or NW)
noncomputable def g8(neg:Bool)(x y:D):Option S:=match y with
 |.aA ds=>(dz x).map λk=>.pure (.bl (if neg then !(dw ds k).isSome else(dw ds k).isSome))|.str y=>match x with|.str [n]=>0#(.bl (if neg then !decide (n∈y)else decide (n∈y)))|_=>none
 |.lst ds=>match x,fU ds with|.str z,some ts=>0#(.bl (if neg then !ts.contains z else ts.contains z))|_,_=>none
 |.tup ds=>match x,fU ds with|.str z,some ts=>0#(.bl (if neg then !ts.contains z else ts.contains z))|_,_=>none
 |_=>none
theorem E6(z:Tx)(ts:List Tx):uA (V.str (toS z)) (ts.map λz=>V.str (toS z))=ts.contains z:=by unfold uA;rw[List.any_map];induction ts with|nil=>rfl|cons t r ih=>rw[Qz,List.contains_cons,ih];congr 1;show(toS t==toS z)=(z==t);rw[oX,Bool.beq_comm]
theorem E7(ts:List Tx):(ts.map λz=>V.str (toS z)).all la=true:=by rw[UB];exact List.all_eq_true.mpr λj j=>rfl
universe H in theorem E8{K:Wa}(neg:Bool):cx (E4 K neg) (g8 neg):=by
 intro c J Z H x y d e s Q k rx ry hp q;cases e<;>first|(simp[g8]at hp;done)|skip
 .rename_i z;simp only[g8]at hp;split at hp<;>first|(cases hp;done)|skip
  rename_i n;cases hp;refine .inr (.inr ⟨toS [n],toS z,rx.str,ry.str,?_⟩);rw[show toS [n]=⟨#[n]⟩from rfl,PySem.StrLaws.found_one,show(toS z).cps.toList=z by simp[toS]];exact q _ H (.refl k) (.bl _)
 .rename_i ds;simp only[g8]at hp;split at hp<;>first|(cases hp;done)|skip
  rename_i z ts ht;cases hp;obtain⟨a,vs,ea,ha,r⟩:=ry.tup;have ev:=pj ht r;refine .inr (.inl ⟨a,vs,ea,.inr (.of ha),by rw[rx.str];rfl,%[ev|E7 ts],?_⟩);rw[rx.str,ev,E6];exact q _ H (.refl k) (.bl _)
 .rename_i ds;simp only[g8]at hp;split at hp<;>first|(cases hp;done)|skip
  rename_i z ts ht;cases hp;obtain⟨a,vs,ea,ha,r⟩:=ry.lst;have ev:=pj ht r;refine .inr (.inl ⟨a,vs,ea,.inl (.inl ha),by rw[rx.str];rfl,%[ev|E7 ts],?_⟩);rw[rx.str,ev,E6];exact q _ H (.refl k) (.bl _)
 .rename_i ds;simp only[g8]at hp;cases hk:dz d with|none=>rw[hk]at hp;cases hp|some kk=>
   rw[hk]at hp;cases hp;obtain⟨a,ws,ea,ha,dr⟩:=vt ry;refine .inl ⟨a,ws,cO kk,ea,ha,rS hk rx,?_⟩;have:(gk ws (cO kk)).isSome=(dw ds kk).isSome:=by
    rcases dr.val kk with⟨e1,e2⟩|⟨v,d,e1,e2,_⟩;.rw[e1,e2];rfl
    .rw[e1,e2];rfl
   rw[this];exact q _ H (.refl k) (.bl _)
def yY:R2:=λx y H Q=>∃a kvs k v,x=.ref a/\H a=some (.dK kvs)/\y=kV k/\gk kvs k=some v/\Q v H
noncomputable def jt:D->D->Option S|.aA ds,k=>(dz k).bind λk=>(dw ds k).map .pure|x,y=>ax x y
theorem Vd(hu:X.A.units+64<WR):ig X yY:=by intro value slice pins s J H x y v u Q I rx ry h hs;obtain⟨a,kvs,k,w,rfl,ha,rfl,hv,q⟩:=h;cases rx;obtain⟨_,_,vs,_,dd⟩:=qH I.aD ha;have hT:s.TypeIs (.ref a) "dict":=dd.typeIs;exact tail_any hT F.slot_dict_getitem.lookup (OP (v:=w) Z' I (by rw[<-hv];exact mE.k ha) ry λw' s' I' bN=>⟨w,H,I',bN,q⟩) hs
theorem Ve:cx (λx y H Q=>yY x y H Q\/uz K x y H Q) jt:=by intro c J Z H x y d e s Q k rx ry hp q;cases d with
 |aA ds=>simp only[jt]at hp;cases hk:dz e with|none=>rw[hk]at hp;cases hp|some kk=>
 rw[hk]at hp;simp only[Qg,WG]at hp;obtain⟨dv,hv,rfl⟩:=hp;obtain⟨a,ws,ea,ha,dr⟩:=vt rx;rcases dr.val kk with⟨e1,e2⟩|⟨v,d',e1,e2,r⟩;.grind
 .rw[e1]at hv;cases hv;exact .inl ⟨a,ws,cO kk,v,ea,ha,rS hk ry,e2,q v H (.refl k) r⟩
 |_=>exact .inr (yq c J Z H x y _ e s Q k rx ry hp q)
open Sem(wp)
section
open AutoSeq1(wpAny_loadPart')
theorem Vf{x Q}{items}(hit:s.heap.IsTupleIter it l i)(hl:s.heap.IsTuple l items)(hx:items[i]?=some x)(hQ:∀h',h'.IsTupleIter it l (i+1)->Ql it s.heap h'->Q x 9#h'):Wb 4#0 A (Qa (.ref it)) Q E s:=by obtain⟨o,ho,hc,hd⟩:=id hit;obtain⟨ol,hol,_,nl,jT⟩:=hl;unfold Qa;refine W0 (WP (name:=Str.ofString "__next__") hit.typeIs Jr (WJ Jr hit.typeIs F.entry_tuple_iterator_next ?_ (F.args_tuple_iterator_next_1 _)));show Wb _ _ (field (.ref it) 0>>=_) _ _ s;refine W0 (Qp ho hd (x:=.ref l) rfl ?_);show Wb _ _ (if(Value.ref l==Value.none)=true then _ else _) _ _ s;rw[if_neg (show¬(Value.ref l==Value.none)=true from WW)];show Wb _ _ (field (.ref it) 1>>=_) _ _ s;refine W0 (Qp ho hd (x:=.int i 0) rfl ?_);show Wb _ _ (seqItems? (.ref l)>>=_) _ _ s;refine W0 (QE hol jT ?_);simp only[Qj,hx];refine W0 (Jj ho hd V' (W3 ⟨x,rfl,W3 (hQ _ ?_ (Qr ..))⟩));exact⟨_,WN _ ho (Obj.isFreed_of_fields (Obj.data_mapFields hd _)),(Obj.cls_mapFields ..).trans hc,by rw[Obj.data_mapFields hd];simp[Qv]⟩
theorem Vg{Q}{items}(hh:A.handled=none)(hit:s.heap.IsTupleIter it l i)(hl:s.heap.IsTuple l items)(hx:items[i]?=none)(hE:∀h' e,Ut it s.heap h'->(∃o,h'.get? e=some o/\o.cls=.type "StopIteration")->E (.ref e) 9#h'):Wb 4#0 A (Qa (.ref it)) Q E s:=by
 obtain⟨o,ho,hc,hd⟩:=id hit;obtain⟨ol,hol,_,nl,jT⟩:=hl;unfold Qa;refine W0 (WP (name:=Str.ofString "__next__") hit.typeIs Jr (WJ Jr hit.typeIs F.entry_tuple_iterator_next ?_ (F.args_tuple_iterator_next_1 _)));show Wb _ _ (field (.ref it) 0>>=_) _ _ s;refine W0 (Qp ho hd (x:=.ref l) rfl ?_);show Wb _ _ (if(Value.ref l==Value.none)=true then _ else _) _ _ s;rw[if_neg (show¬(Value.ref l==Value.none)=true from WW)];show Wb _ _ (field (.ref it) 1>>=_) _ _ s;refine W0 (Qp ho hd (x:=.int i 0) rfl ?_);show Wb _ _ (seqItems? (.ref l)>>=_) _ _ s;refine W0 (QE hol jT ?_);simp only[Qj,hx];refine W0 (QW (W0 (Jj ho hd V' ?_)));show Wb _ _ (newExc (.type "StopIteration") []>>=_) _ _ _;refine W0 ?_;simp only[newExc,newTuple];refine W0 (Q1 ?_ (by size_fits));refine W0 (m:=JQ _ _) (wpAny_of_eq (a:=Value.none) (by first|rfl|(simp only[JQ];rfl)) ?_);refine Q1 ?_ (by size_fits);simp only[raiseNew];refine W0 (wpAny_handled ?_);first|rw[show A.in1.handled=none from hh]|rw[hh]
 refine W0 (W3 (wpAny_throw ?_));exact hE _ _ (((Qr ..).extBut.push _).push _) ⟨_,Wi _ rfl,rfl⟩
theorem IsTuple.at'{l:Addr}(x:h.IsTuple l items)(k:∀o,h.get? l=some o->h'.get? l=some o):h'.IsTuple l items:=by obtain⟨o,ho,r⟩:=x;exact⟨o,k o ho,r⟩
theorem Draws.tuple'(hh:A.handled=none)(it l:Addr)(cE:l≠it)(items:Array Value):Draws prog w A it [it,l] items.size (λi v=>items[i]?=some v) λi h=>h.IsTupleIter it l i/\h.IsTuple l items where
 live:=λj j st=>let⟨o,ho,_⟩:=st.1;⟨o,ho⟩
 frame:=λj j j st hk=>⟨st.1.at λo e=>hk it V' o e,IsTuple.at' st.2 λo e=>hk l V' o e⟩
 item:=λi s Q E hi st hQ=>by refine Vf st.1 st.2 (x:=items[i]) #v[hi] λh' Vh gY=>?_;exact hQ _ h' s.toks #v[hi] ⟨Vh,IsTuple.at' st.2 λo e=>(gY.2 l cE).trans e⟩ gY
 done:=λs Q E st hE=>Vg hh st.1 st.2 V' hE
universe H in theorem Vi(l:Addr)(items:Array Value)(n:Nat)(aA:Option Addr)(sl:Array (Option Value)):Meets (Builtin.«enumerate.__new__» ⟨[.type "enumerate",.ref l],[]⟩) λ_ R s=>s.heap.get? l=some {cls:=.type "tuple",dict:=aA,data:=.seq items n,slots:=sl}/\R (.ok (.ret (.ref (s.heap.push {cls:=.type "tuple_iterator",data:=.fields #[.ref l,.int 0 0]}).objs.size))) 9#((s.heap.push {cls:=.type "tuple_iterator",data:=.fields #[.ref l,.int 0 0]}).push {cls:=.type "enumerate",data:=.fields #[.none,.bool false,.ref s.heap.objs.size,Qv 0,.none,.none]}):=.of_wp λprog w A R s h=>by
  obtain⟨hp,g,d,tk,os⟩:=s;obtain⟨hl,h⟩:=h;have vw:=sub_enumerate;have hL:Heap.IsTuple (Shared.heap ⟨hp,g,d,tk,os⟩) l items:=⟨_,hl,rfl,n,rfl⟩;wp_walk using JI hl;refine wpAny_stack_any λst=>W3 ?_;split
  .rename_i c _ _ _ _ _;cases c==Value.type "enumerate";.wp_walk using JI hl,Jn hL;exact⟨_,rfl,h⟩
   .wp_walk using JI hl,Jn hL;exact⟨_,rfl,h⟩
  .wp_walk using JI hl,Jn hL;exact⟨_,rfl,h⟩
theorem Vj{Q}(hL:s.heap.IsTuple l items)(h:∀h',IsEnum h' (s.heap.objs.size+1) s.heap.objs.size 0 .none->h'.IsTupleIter s.heap.objs.size l 0->h'.objs.size=s.heap.objs.size+2->(∀b o,s.heap.get? b=some o->h'.get? b=some o)->Q (.ref (s.heap.objs.size+1)) 9#h'):Wb 4#0 A (call (.type "enumerate") [.ref l]) Q E s:=by
 obtain⟨⟨c,aA,dt,sl⟩,hl,hc,n,hd⟩:=hL;replace hc:c=.type "tuple":=hc;replace hd:dt=.seq items n:=hd;subst hc hd;refine callType_new F.called_enumerate U' (F.typeCall_enumerate_1 _) (F.newCall_enumerate_1 _) (λobj=>F.args_object_init_2 obj _) F.entry_enumerate_new (Vi l items n aA sl) ⟨hl,?_⟩;have hz:(s.heap.push {cls:=.type "tuple_iterator",data:=.fields #[.ref l,.int 0 0]}).objs.size=s.heap.objs.size+1:=Q7 ..;show _/\_;rw[hz];have he:IsEnum ((s.heap.push {cls:=.type "tuple_iterator",data:=.fields #[.ref l,.int 0 0]}).push {cls:=.type "enumerate",data:=.fields #[.none,.bool false,.ref s.heap.objs.size,Qv 0,.none,.none]}) (s.heap.objs.size+1) s.heap.objs.size 0 .none:=by have:=Wi (s.heap.push {cls:=.type "tuple_iterator",data:=.fields #[.ref l,.int 0 0]}) (o:={cls:=.type "enumerate",data:=.fields #[.none,.bool false,.ref s.heap.objs.size,Qv 0,.none,.none]}) rfl;rw[hz]at this;exact this
 refine⟨⟨_,he,rfl⟩,h _ he ⟨_,W5 _ (Wi _ rfl),rfl,rfl⟩ (by rw[Q7,hz]) λb o x=>W5 _ (W5 _ x)⟩
end
theorem Inv.rT(fp:List Addr)(I:Inv X pins J H s)(k:∀b o,b∉fp->s.heap.get? b=some o->h'.get? b=some o)(hf:∀b∈fp,gG X pins H b):Inv X pins J H {s with heap:=h',toks:=t'}:=by
 have me:∀b u,H b=some u->b∉fp:=λb u e z=>by rw[(hf b z).1]at e;cases e
 refine I.step (g':=s.gens) (d':=s.drawn) (ch:=fp) (λb hb=>?_) (λb o j j hc e j=>k b o hc e) (λb o j j hc e j=>⟨o.slots,k b o hc e⟩) (λj j j j n=>n) (λb o hc e=>⟨o,k b o hc e⟩) (λj j e=>e) (λj j j e=>e) (λb ps e=>⟨#[],by rw[e];simp⟩) (λm hm=>?_) (λb u e=>?_) I.bare;.obtain⟨f0,f1,f2,f3,f4,f5⟩:=hf b hb;exact⟨f3,f1,f4,f5⟩
 .obtain⟨o,es,ep,ho,r⟩:=hm;exact⟨o,es,ep,k _ o (λz=>(hf _ z).2.1 rfl) ho,r⟩
 .refine(I.aD b u e).oR (λc v hc q=>k c v ?_ q) (λj q=>q) (λj j q=>q) λj j j q=>q;rcases hc with z|z;.rw[z];exact me b u e
  .exact me c _ z
theorem Inv.yZ{e i}(I:Inv X pins J H s)(hf:∀b∈[e,it],gG X pins H b)(a0:∀b∈[e,it],b<s.heap.objs.size)(ru:RelV y u)(hT:h'.get? s.heap.objs.size=some {cls:=.type "tuple",data:=.seq #[.int i tk,u]})(k:∀b o,b≠e->b≠it->s.heap.get? b=some o->h'.get? b=some o):Inv X pins J (upd H s.heap.objs.size (.tup [.int i,y])) {s with heap:=h',toks:=t'}:=by
 have I1:Inv X pins J (upd H s.heap.objs.size (.tup [.int i,y])) {s with heap:=s.heap.push {cls:=.type "tuple",data:=.seq #[.int i tk,u]},toks:=t'}:=I.laid (t':=t') (λb o e=>W5 _ e) (Wf _) (show bP X.prog X.w _ _ _ (.tup [.int i,y])from⟨by simp only[WF,JJ];rw[J5];decide,[.int i tk,u],.cons ⟨_,rfl⟩ (.cons ru .nil),i_.new _ _⟩);have:=Inv.rT (t':=t') (h':=h') [e,it] I1 (λb o hb eb=>?_) λb hb=>?_;.exact this
 .have he:b≠e:=λz=>hb #v[z];have hi:b≠it:=λz=>hb #v[z];rcases Heap.get?_push_cases eb with⟨z,z'⟩|eb;.subst z z';exact hT
  .exact k b o he hi eb
 .obtain⟨f0,r⟩:=hf b hb;refine⟨?_,r⟩;have hl:=a0 b hb;rw[aN (Wr hl)];exact f0
def E9(K:Wa)(a:Addr):It:=⟨(xw K a).go,λi H x H'=>∃p y,H p=none/\(∀xs,cu K H a xs->xs[i]?=some y)/\H'=upd H p (.tup [.int i,y])/\x=.ref p,λi H=>∃xs,cu K H a xs/\xs.length=i⟩
def E_(K:Wa)(a:Addr):It:=⟨(uk K a).go,λi H x H'=>∃p y,H p=none/\(∀xs,cN K H a xs->xs[i]?=some y)/\H'=upd H p (.tup [.int i,y])/\x=.ref p,λi H=>∃xs,cN K H a xs/\xs.length=i⟩
theorem Vk{ctx}(a e it:Addr)(lF:e≠it)(Vl:a≠e)(kE:a≠it):Turn P w K (.Tuple elts ctx pos) (E9 K a) [e,it] e λi h=>(∃old,IsEnum h e it i old)/\h.IsListIter it a i where
 mem:=by simp
 obj:=λi h st b hb=>by
  obtain⟨⟨old,he⟩,hi⟩:=st;have hb:b=e\/b=it:= ~~~hb;rcases hb with z|z;.grind
  .subst z;obtain⟨o,e,c,d⟩:=hi;exact⟨o,e,λv z=>by rw[d]at z;cases z⟩
 keep:=λi h h' st k=>⟨let⟨old,he⟩:=st.1;⟨old,k e V' _ he⟩,st.2.at λo q=>k it V' o q⟩
 item:=by
  intro X hP hw hK hc i pins s J H E I hf st hg;subst hP hw hK;obtain⟨xs,x,hq,hx⟩:=hg;obtain⟨ak,rv,p,hz⟩:=I.list hq;obtain⟨u,hu,ru⟩:=rv.get hx;obtain⟨⟨old,he⟩,hi⟩:=st;have hL:s.heap.IsList a ak.toArray:=p.isList;have D:=Draws.list (prog:=X.prog) (w:=X.w) (A:=X.A.in1) (I.ok.hd hc) it a kE ak.toArray;have rV:i<ak.length:=(W9.mp hu).1;have a0:∀b∈[e,it],b<s.heap.objs.size:=λb hb=>by
   have hb:b=e\/b=it:= ~~~hb;rcases hb with z|z;.subst z;exact Wm he
   .subst z;obtain⟨o,q,_⟩:=hi;exact Wm q
  refine wpAny_pyNext_enum_itemD D he ⟨hi,hL⟩ (~~~rV) lF (by grind) λx' h' tk hP ho gY hT hsz hk=>?_;have ex:x'=u:=by have:ak.toArray[i]?=some x':=hP;rw[JR,hu]at this;cases this;rfl
  subst ex;refine⟨_,rfl,wpAny_letOwnedTupleGo_enum ho λh2 rW sb=>?_⟩;have k2:∀b o,b≠e->b≠it->s.heap.get? b=some o->h2.get? b=some o:=λb o q1 q2 q=>(sb.2 b q1).trans (hk b o q1 q2 q);have rX:h2.get? s.heap.objs.size=some {cls:=.type "tuple",data:=.seq #[.int i tk,x']}:=(sb.2 _ (Qm (a0 e V'))).trans hT;have I2:Inv X pins J (upd H s.heap.objs.size (.tup [.int i,x])) {s with heap:=h2,toks:=tk+1}:=Inv.yZ (t':=tk+1) I hf a0 ru rX k2;refine⟨.ref s.heap.objs.size,_,I2,rfl,⟨s.heap.objs.size,x,I.aD.fresh (Wf _),λys hy=>%[I.xp hy hq|hx],rfl,rfl⟩,⟨⟨x',~~~rW⟩,gY.1.at λo q=>(sb.2 it (Ne.symm lF)).trans q⟩,λb hb=>?_⟩;rw[aN (Wr (a0 b hb))];exact(hf b hb).1
 done:=by
  intro X hP hw hK hc i pins s J H E I hf st hg;subst hP hw hK;obtain⟨xs,hq,hx⟩:=hg;obtain⟨ak,rv,p,hz⟩:=I.list hq;obtain⟨⟨old,he⟩,hi⟩:=st;have hL:s.heap.IsList a ak.toArray:=p.isList;have hl:=rv.length;have D:=Draws.list (prog:=X.prog) (w:=X.w) (A:=X.A.in1) (I.ok.hd hc) it a kE ak.toArray;have hn:ak.toArray.size=i:=by simp;lia
  obtain⟨f0,f1,f2,f3,f4,f5⟩:=hf it V';exact wpAny_pyNext_enum_endD D he ⟨%[hn|hi],hL⟩ λh' eb=>⟨rfl,I.turned (t':=s.toks) (λb o hb q=>eb b o hb q) f0 f1 f3 f4 f5⟩
 self:=λj j j j j st h=>by obtain⟨⟨old,he⟩,_⟩:=st;exact Jv he h
theorem Vm{ctx}(a e it:Addr)(lF:e≠it)(Vl:a≠e)(kE:a≠it):Turn P w K (.Tuple elts ctx pos) (E_ K a) [e,it] e λi h=>(∃old,IsEnum h e it i old)/\h.IsTupleIter it a i where
 mem:=by simp
 obj:=λi h st b hb=>by
  obtain⟨⟨old,he⟩,hi⟩:=st;have hb:b=e\/b=it:= ~~~hb;rcases hb with z|z;.grind
  .subst z;obtain⟨o,e,c,d⟩:=hi;exact⟨o,e,λv z=>by rw[d]at z;cases z⟩
 keep:=λi h h' st k=>⟨let⟨old,he⟩:=st.1;⟨old,k e V' _ he⟩,st.2.at λo q=>k it V' o q⟩
 item:=by
  intro X hP hw hK hc i pins s J H E I hf st hg;subst hP hw hK;obtain⟨xs,x,hq,hx⟩:=hg;obtain⟨ak,rv,p,hz⟩:=I.tuple hq;obtain⟨u,hu,ru⟩:=rv.get hx;obtain⟨⟨old,he⟩,hi⟩:=st;have hL:s.heap.IsTuple a ak.toArray:=p;have D:=Draws.tuple' (prog:=X.prog) (w:=X.w) (A:=X.A.in1) (I.ok.hd hc) it a kE ak.toArray;have rV:i<ak.length:=(W9.mp hu).1;have a0:∀b∈[e,it],b<s.heap.objs.size:=λb hb=>by
   have hb:b=e\/b=it:= ~~~hb;rcases hb with z|z;.subst z;exact Wm he
   .subst z;obtain⟨o,q,_⟩:=hi;exact Wm q
  refine wpAny_pyNext_enum_itemD D he ⟨hi,hL⟩ (~~~rV) lF (by grind) λx' h' tk hP ho gY hT hsz hk=>?_;have ex:x'=u:=by have:ak.toArray[i]?=some x':=hP;rw[JR,hu]at this;cases this;rfl
  subst ex;refine⟨_,rfl,wpAny_letOwnedTupleGo_enum ho λh2 rW sb=>?_⟩;have k2:∀b o,b≠e->b≠it->s.heap.get? b=some o->h2.get? b=some o:=λb o q1 q2 q=>(sb.2 b q1).trans (hk b o q1 q2 q);have rX:h2.get? s.heap.objs.size=some {cls:=.type "tuple",data:=.seq #[.int i tk,x']}:=(sb.2 _ (Qm (a0 e V'))).trans hT;have I2:Inv X pins J (upd H s.heap.objs.size (.tup [.int i,x])) {s with heap:=h2,toks:=tk+1}:=Inv.yZ (t':=tk+1) I hf a0 ru rX k2;refine⟨.ref s.heap.objs.size,_,I2,rfl,⟨s.heap.objs.size,x,I.aD.fresh (Wf _),λys hy=>%[I.xq hy hq|hx],rfl,rfl⟩,⟨⟨x',~~~rW⟩,gY.1.at λo q=>(sb.2 it (Ne.symm lF)).trans q⟩,λb hb=>?_⟩;rw[aN (Wr (a0 b hb))];exact(hf b hb).1
 done:=by
  intro X hP hw hK hc i pins s J H E I hf st hg;subst hP hw hK;obtain⟨xs,hq,hx⟩:=hg;obtain⟨ak,rv,p,hz⟩:=I.tuple hq;obtain⟨⟨old,he⟩,hi⟩:=st;have hL:s.heap.IsTuple a ak.toArray:=p;have hl:=rv.length;have D:=Draws.tuple' (prog:=X.prog) (w:=X.w) (A:=X.A.in1) (I.ok.hd hc) it a kE ak.toArray;have hn:ak.toArray.size=i:=by simp;lia
  obtain⟨f0,f1,f2,f3,f4,f5⟩:=hf it V';exact wpAny_pyNext_enum_endD D he ⟨%[hn|hi],hL⟩ λh' eb=>⟨rfl,I.turned (t':=s.toks) (λb o hb q=>eb b o hb q) f0 f1 f3 f4 f5⟩
 self:=λj j j j j st h=>by obtain⟨⟨old,he⟩,_⟩:=st;exact Jv he h
def Vn(K:Wa)(ta:TA):TI:=λJ H R=>ta J H λvs H1=>(∃a,vs=[.ref a]/\(∃xs,cu K H1 a xs)/\R (E9 K a) H1)\/∃a,vs=[.ref a]/\(∃xs,cN K H1 a xs)/\R (E_ K a) H1
theorem Vo{a ta}{ctx}(hg:Gl X "enumerate")(hm:X.mg "enumerate"=none)(ha:PA X [a] ta)(hs:Wl [a] X.env=[(false,eval a X.env)]:=by rfl):PI X (.Tuple elts ctx tp) (.Call (.Name "enumerate" pp) [a] [] pos) (Vn X.K ta):=by
 intro pins s J H R I h;refine Call_ (nS I hg hm boot_enumerate (QQ (aM (ha pos pins s J H _ I h) λus s1 hh=>?_) hs rfl));obtain⟨vs,H1,I1,r1,q1⟩:=hh;rcases q1 with⟨a,ev,⟨xs,hq⟩,q⟩|⟨a,ev,⟨xs,hq⟩,q⟩;.subst ev;cases r1 with|cons r rr=>
   cases rr;cases r;obtain⟨ak,rv,p,hz⟩:=I1.list hq;have hL:s1.heap.IsList a ak.toArray:=p.isList;have a0:a<s1.heap.objs.size:=by obtain⟨o,q,_⟩:=hL;exact Wm q
   refine call_enumerate_list hL λh' he hi hsz kp=>Jv he ?_;refine⟨s1.heap.objs.size+1,[s1.heap.objs.size+1,s1.heap.objs.size],_,_,H1,rfl,I1.kept (t':=s1.toks) kp,Vk a _ _ (Nat.succ_ne_self _) (Wr (QP a0)) (Wr a0),⟨⟨_,he⟩,hi⟩,λb hb=>?_,q⟩;have hb:b=s1.heap.objs.size+1\/b=s1.heap.objs.size:= ~~~hb;have hle:s1.heap.objs.size<=b:=by rcases hb with z|z<;>subst z<;>first|exact Wf _|exact Jz _
   exact I1.iH hle (I1.aD.fresh hle)
 .subst ev;cases r1 with|cons r rr=>
 cases rr;cases r;obtain⟨ak,rv,p,hz⟩:=I1.tuple hq;have hL:s1.heap.IsTuple a ak.toArray:=p;have a0:a<s1.heap.objs.size:=by obtain⟨o,q,_⟩:=hL;exact Wm q
 refine Vj hL λh' he hi hsz kp=>Jv he ?_;refine⟨s1.heap.objs.size+1,[s1.heap.objs.size+1,s1.heap.objs.size],_,_,H1,rfl,I1.kept (t':=s1.toks) kp,Vm a _ _ (Nat.succ_ne_self _) (Wr (QP a0)) (Wr a0),⟨⟨_,he⟩,hi⟩,λb hb=>?_,q⟩;have hb:b=s1.heap.objs.size+1\/b=s1.heap.objs.size:= ~~~hb;have hle:s1.heap.objs.size<=b:=by rcases hb with z|z<;>subst z<;>first|exact Wf _|exact Jz _
 exact I1.iH hle (I1.aD.fresh hle)
def kF(ds:List D):List D:=ds.mapIdx λi d=>D.tup [.int (i:Nat),d]
theorem y6{ds:List D}{d:D}(h:(kF ds)[i]?=some d):∃d',ds[i]?=some d'/\d=.tup [.int i,d']:=by unfold kF at h;rw[List.getElem?_mapIdx]at h;cases e:ds[i]? with|none=>rw[e]at h;cases h|some d'=>rw[e]at h;cases h;exact⟨d',rfl,rfl⟩
theorem aI.pair{i}(r:Rep H O v d):aI H O [.int i,v] [.int i,d]:=by refine⟨rfl,λj v' d' e1 e2=>?_⟩;match j with|0=>simp at e1 e2;subst e1 e2;exact .int _|1=>simp at e1 e2;subst e1 e2;exact r|j+2=>simp at e1
def rY(f:DE):DI:=λZ=>(f Z).bind λr T'=>match r.d with|.lst ds=>.ok (kF ds) T'|.tup ds=>.ok (kF ds) T'|_=>.stuck
universe H in theorem Vp{elts:List Expr}{ctx}{tp:Pos}(hg:Gl X "enumerate")(hm:X.mg "enumerate"=none)(he:SE X c e fe)(hs:Wl [e] X.env=[(false,eval e X.env)]:=by rfl):SI X c (.Tuple elts ctx tp) (.Call (.Name "enumerate" pp) [e] [] pos) (rY fe):=PI.weak (Vo hg hm (fu he gH hs) hs) λJ H R⟨Z,k,q⟩=>by
 unfold rY at q;rw[ba]at q;refine⟨Z,k,aO q λr T' q1 v H1 a1 r1=>?_⟩;have rr:=r1.rep;generalize r.d=d at q1 rr;cases d<;>first|exact q1.elim|skip
 .cases rr with|tup h1 h2 h3 h4=>rename_i a vs;refine .inr ⟨_,rfl,⟨_,.of h2⟩,q1 _ H1 a1 ?_⟩;intro H2 kp;have h5:=kp _ _ h2 λz=>h1 (.inr z);have r':aI H1 (Av c J T') vs _:=⟨h3,h4⟩;refine⟨⟨vs,.of h5,by rw[r'.1];simp[kF]⟩,λi d e=>?_⟩;obtain⟨d',e',rfl⟩:=y6 e;obtain⟨v,ev,rv⟩:=r'.get e';refine⟨⟨vs,v,.of h5,ev⟩,λx H3⟨p,y,hp,hy,e3,ex⟩=>.inr ⟨p,_,_,hp,e3,ex,rfl,?_⟩⟩;have:=hy vs (.of h5);rw[ev]at this;cases this;exact aI.pair rv
 .cases rr with|lst h1 h2 h3 h4=>rename_i a vs;refine .inl ⟨_,rfl,⟨_,.inl h2⟩,q1 _ H1 a1 ?_⟩;intro H2 kp;have h5:Rd H2 a (.lst vs):=Rd.keep h2 λo e=>kp a o e λz=>h1 (.inr z);have r':aI H1 (Av c J T') vs _:=⟨h3,h4⟩;refine⟨⟨vs,.inl h5,by rw[r'.1];simp[kF]⟩,λi d e=>?_⟩;obtain⟨d',e',rfl⟩:=y6 e;obtain⟨v,ev,rv⟩:=r'.get e';refine⟨⟨vs,v,.inl h5,ev⟩,λx H3⟨p,y,hp,hy,e3,ex⟩=>.inr ⟨p,_,_,hp,e3,ex,rfl,?_⟩⟩;have:=hy vs (.inl h5);rw[ev]at this;cases this;exact aI.pair rv
section
variable{p2:Pos}
noncomputable def pI:D->Option S|.int i=>0#(.int (-i))|_=>none
theorem Vq(he:SB X c e fb):SE X c (.UnaryOp .USub e pos) (aE pI fb):=PE.weak (B3 B9 he) λJ H Q h=>rj (λc J Z H x d s Q k rx hp q=>by cases d with|int i=>simp only[pI,Wg]at hp;subst hp;exact⟨i,rx.int,q _ H (.refl k) (.int _)⟩|_=>simp[pI]at hp) h
noncomputable def vx:D->Bool|.aX=>true|_=>false
noncomputable def ox(neg:Bool)(d e:D):Option S:=match e with|.aX=>0#(.bl (neg !=vx d))|_=>none
theorem Vr:cx (λx y H Q=>y=.aX/\Q (.bl !decide (x=.aX)) H) (ox true):=by
 intro c J Z H x y d e s Q k rx ry hp q
 cases e with|aX=>
  simp only[ox,Wg]at hp;subst hp;have ey:y=.aX:=by
   rcases ry with r|⟨a,e,o⟩;.cases r;rfl
   .exact o.elim
  have:(!decide (x=V.aX))=(true !=vx d):=by
   rcases rx with r|⟨a,e,o⟩;.cases r<;>simp[vx]
   .subst e;cases d<;>first|exact o.elim|simp[vx]
  exact⟨ey,%[this|q _ H (.refl k) (.bl _)]⟩|_=>simp[ox]at hp
end
section
variable{ds:List D}
universe H in theorem Own.unset(h:Own J (Z.set i none) b):Own J Z b:=by
 obtain⟨j,d',e1,e2⟩:=h;by_cases hj:i=j
 .subst hj;rw[Qi]at e1;split at e1;.split at e1<;>cases e1
  .rename_i q;exact absurd rfl q
 .rw[W4 hj]at e1;exact⟨j,d',e1,e2⟩
end
def qaZ(i:Nat)(g:DG)(b:DS):DS:=λZ=>match Z[i]? with
 |some (some (.own (.lst ds)))=>(forL g b ds (Z.set i none)).bind λfl SZ=>match fl with|.ret (.own _)=>.stuck|fl=>.ok fl (SZ.set i (some (.own (.lst ds))))
 |_=>.stuck
section
variable{g:DG}{b:DS}
def kG(np:List Nat)(i:Nat):DS:=λZ=>match Z[i]? with|some (some (.own d))=>if np.contains i||!np.all (bG Z)then .ok (.ret (.pure d)) (Z.set i 0#d)else .ok (.ret (.own d)) (Z.set i none)|some 0#d=>.ok (.ret (.pure d)) Z|_=>.stuck
universe H in theorem Vs(fW:Np c np)(he:PE X e (dH i)):SS X c (.Return (some e) pos) (kG np i):=PS.weak (BN he) λD J H⟨Z,k,q⟩=>by
 unfold kG fg at q;split at q
 .rename_i d e;obtain⟨a,ea,oa,ia,nb⟩:=k.own i d e;refine⟨.ref a,ea,?_⟩;split at q;.obtain⟨a',cU,x,r⟩:=k.give e;rw[ea]at cU;cases cU;exact q J H x _ r
  .rename_i hc;simp only[UC,not_or,Bool.not_eq_true,Bool.not_eq_false',List.all_eq_true]at hc;obtain⟨hc1,hc2⟩:=hc;have nI:¬c.I a:=λ⟨j,z⟩=>by
    have z1:=fW (j,a) z;have z2:=k.pinned (j,a) z;have z3:=hc2 j (~~~z1);unfold bG at z3;split at z3;.rename_i d' ej;have:=k.inj i j a _ _ e ej ea z2;grind
    .cases z3
   have h0:c.H₀ a=none:=ia.resolve_left nI;have hi:i<Z.length:=(W9.mp e).1;have ne:∀j d,(Z.set i none)[j]?=some (some d)->i≠j/\Z[j]?=some (some d):=λj d q=>by
    by_cases hj:i=j;.subst hj;rw[Wh hi]at q;cases q
    .rw[W4 hj]at q;exact⟨hj,q⟩
   have sub:∀b,Av (c.plus a) J (Z.set i none) b->Av c J Z b:=λb z=>by
    rcases z with(z|z)|z;.exact .inl z
    .subst z;exact .inr ⟨i,_,e,ea⟩
    .exact .inr z.unset
   have kp:Ok (c.plus a) J (Z.set i none) H:=by
    refine⟨k.keep,λb z=>?_,k.eN,%[Qe|k.len],λj d q=>?_,λj d q=>?_,λj l b d d' q1 q2=>k.inj j l b d d' (ne j _ q1).2 (ne l _ q2).2,k.pinned⟩
    .rcases z with z|z;.exact k.bd b z
     .subst z;exact k.yd ⟨i,_,e,ea⟩
    .obtain⟨_,q⟩:=ne j _ q;obtain⟨v,g1,g2⟩:=k.slot j d q;exact⟨v,g1,g2.aS λb z=>.inl (sub b z)⟩
    .obtain⟨hj,q⟩:=ne j _ q;obtain⟨b,g1,g2,g3,g4⟩:=k.own j d q;refine⟨b,g1,g2.aS λb z=>.inl (sub b z),g3,λz=>?_⟩;rcases z with z|z;.exact g4 z
     .subst z;exact hj (k.inj i j b _ _ e q ea g1)
   have x:aY c J Z H J (Z.set i none) H:=by
    refine⟨⟨k.keep,k.bd,k.eN,%[Qe|k.len],λj d q=>?_,λj d q=>?_,λj l b d d' q1 q2=>k.inj j l b d d' (ne j _ q1).2 (ne l _ q2).2,k.pinned⟩,λ_ _ w _=>w,λb z=>.inl z.unset,λ_ o w=>⟨o,w⟩⟩;.obtain⟨_,q⟩:=ne j _ q;obtain⟨v,g1,g2⟩:=k.slot j d q;exact⟨v,g1,g2.aS λb z=>.inl (z.elim .inl λz=>.inr z.unset)⟩
    .obtain⟨hj,q⟩:=ne j _ q;obtain⟨b,g1,g2,g3,g4⟩:=k.own j d q;exact⟨b,g1,g2.aS λb z=>.inl (z.elim .inl λz=>.inr z.unset),g3,g4⟩
   exact q J H x _ ⟨a,rfl,oa.aS λb z=>.inl (sub b z),nb,h0,kp,h0⟩
 .rename_i d e;obtain⟨v,e1,r⟩:=k.slot i d e;exact⟨v,e1,q J H (.refl k) v r⟩
 .exact q.elim
end
theorem Vt(hu:X.A.units+64<WR):ig X λx y H Q=>yY x y H Q\/uz X.K x y H Q:=(Vd hu).or xJ
theorem Ok.Vu(k:Ok c J Z H)(e:Z[i]?=some (some (.own (.aA ds))))(ea:J[i]?=some (some (.ref a)))(r:DR H (Av c J Z) jg dP):aY c J Z H J (Z.set i (some (.own (.aA dP)))) (upd H a (.dK jg)):=by
 have hi:i<Z.length:=(W9.mp e).1;obtain⟨a',cU,oa,ia,nb⟩:=k.own i _ e;rw[ea]at cU;cases cU;obtain⟨vs,ha,_⟩:=oa;have rG:Own J Z a:=⟨i,_,e,ea⟩;have rH:Av c J Z a:=.inr rG;have mR:∀b,Own J (Z.set i (some (.own (.aA dP)))) b↔Own J Z b:=λb=>by
  constructor
  .rintro⟨j,d,e1,e2⟩;by_cases hj:i=j;.subst hj;exact⟨i,_,e,e2⟩
   .rw[W4 hj]at e1;exact⟨j,d,e1,e2⟩
  .rintro⟨j,d,e1,e2⟩;by_cases hj:i=j;.subst hj;exact⟨i,_,by rw[Wh hi],e2⟩
   .exact⟨j,d,%[W4 hj|e1],e2⟩
 have jQ:∀b,Av c J (Z.set i (some (.own (.aA dP)))) b->Av c J Z b:=λb z=>z.elim .inl λz=>.inr ((mR b).mp z);have ne:∀b,¬Av c J Z b->b≠a:=λb n z=>n %[z|rH];have kp:∀b o,H b=some o->¬Av c J Z b->upd H a (.dK jg) b=some o:=λb o h n=>%[aN (ne b n)|h];have ip:∀b o,H b=some o->∃o',upd H a (.dK jg) b=some o':=λb o h=>by
  by_cases hb:b=a;.exact⟨_,%[hb|cW]⟩
  .exact⟨o,%[aN hb|h]⟩
 refine⟨⟨λb o h n=>?_,λb z=>?_,λb z=>?_,%[Qe|k.len],λj d h=>?_,λj d h=>?_,λj l b d d' h1 h2 h3 h4=>?_,k.pinned⟩,λb o h n=>?_,λb z=>.inl ((mR b).mp z),ip⟩
 .have hb:b≠a:=λz=>by grind
  rw[aN hb];exact k.keep b o h n
 .obtain⟨o,h⟩:=k.bd b z;exact ip b o h
 .obtain⟨o,h⟩:=k.eN b z;exact ip b o h
 .have hj:i≠j:=λz=>by subst z;rw[Wh hi]at h;cases h
  rw[W4 hj]at h;obtain⟨v,h1,h2⟩:=k.slot j d h;exact⟨v,h1,(h2.keep kp).aS λb z=>.inl (jQ b z)⟩
 .by_cases hj:i=j;.subst hj;rw[Wh hi]at h;cases h;exact⟨a,ea,let r':=r.map λv d h=>(Rep.keep h kp).aS λb z=>.inl (jQ b z);⟨jg,cW,r'.keys,r'.vals⟩,ia,nb⟩
  .rw[W4 hj]at h;obtain⟨b,h1,h2,h3,h4⟩:=k.own j d h;have hb:b≠a:=λz=>by subst z;exact hj (k.inj i j b _ d e h ea h1)
   exact⟨b,h1,(h2.keep kp λo q=>%[aN hb|q]).aS λb z=>.inl (jQ b z),h3,h4⟩
 .have f1:∃d,Z[j]?=some (some (.own d)):=by
   by_cases hj:i=j;.subst hj;exact⟨_,e⟩
   .rw[W4 hj]at h1;exact⟨d,h1⟩
  have f2:∃d,Z[l]?=some (some (.own d)):=by
   by_cases hj:i=l;.subst hj;exact⟨_,e⟩
   .rw[W4 hj]at h2;exact⟨d',h2⟩
  obtain⟨_,f1⟩:=f1;obtain⟨_,f2⟩:=f2;exact k.inj j l b _ _ f1 f2 h3 h4
 grind[aN]
def mX(Z:Dl)(i:Nat):Bool:=match Z[i]? with|some (some (.own (.aA _)))=>true|_=>false
def gz(i:Nat)(fi fe:DE):DS:=λZ=>if mX Z i then(fe Z).bind λr T'=>if mX T' i then(fi T').bind λk S'=>match S'[i]? with
 |some (some (.own (.aA ds)))=>match dz k.d with|some kk=>if ds.length<Wd then .ok .next (S'.set i (some (.own (.aA (putD ds kk r.d)))))else .stuck|none=>.stuck
 |_=>.stuck else .stuck else .stuck
universe H in theorem Vv(h:mX Z i=true):∃ds,Z[i]?=some (some (.own (.aA ds))):=by
 unfold mX at h;split at h;.rename_i ds e;exact⟨ds,e⟩
 .cases h
universe H in theorem Vw{o:Expr}{sp:Pos}(hu:X.A.units+64<WR)(ho:PE X o (dH i))(hi:SE X c ix fi)(he:SE X c e fe)(hs:Je e (some (.Subscript o ix sp)) pos.line X.env=pure false:=by rfl):SS X c (.Assign [.Subscript o ix sp] e pos) (gz i fi fe):=PS.weak (OU Z' ho hi he hs) λD J H⟨Z,k,q⟩=>by
  unfold gz fg at q;split at q;case isFalse=>exact q.elim
  rename_i jn;rw[ba]at q;refine⟨Z,k,aO q λr T' q1 v H1 a1 r1=>?_⟩;split at q1;case isFalse=>exact q1.elim
  rename_i hown1;obtain⟨ds1,e1⟩:=Vv hown1;obtain⟨a,ea,_,_⟩:=a1.ok.own i _ e1;refine⟨.ref a,ea,T',a1.ok,?_⟩;rw[ba]at q1;refine aO q1 λkx S' q2 u H2 a2 r2=>?_;split at q2
  .rename_i ds e2;split at q2
   .rename_i kk hk;split at q2
    .rename_i hz;obtain⟨a',cU,oa,_⟩:=a2.ok.own i _ e2;rw[ea]at cU;cases cU;obtain⟨ws,ha,hk1,hk2⟩:=id oa;have dr:DR H2 (Av c J S') ws ds:=DR.of hk1 hk2;have yg:=rS hk r2.b;subst yg;have hlen:ws.length=ds.length:=by have:=congrArg J7 hk1;simpa using this
     have rv:Rep H2 (Av c J S') v r.d:=Rep.dQ r1.rep a2;refine⟨a,_,rfl,qK.k ha %[hlen|hz],?_⟩;exact q2 J _ (a1.trans (a2.trans (Ok.Vu a2.ok e2 ea (dr.put rv))))
    .exact q2.elim
   .exact q2.elim
  .exact q2.elim
section
variable{o f:Expr}
def pJ(Z:Dl)(i:Nat):Bool:=match Z[i]? with
 |some (some s)=>match s.d with|.aA _=>true|_=>false
 |_=>false
universe H in theorem Vx(k:Ok c J Z H)(h:pJ Z i=true):∃a ws ds s,Z[i]?=some (some s)/\s.d=.aA ds/\J[i]?=some (some (.ref a))/\H a=some (.dK ws)/\DR H (Av c J Z) ws ds:=by
 unfold pJ at h;split at h
 .rename_i s e;split at h;.rename_i ds hs;obtain⟨v,ev⟩:=qZ k e;have rb:=rC k e ev;rw[hs]at rb;obtain⟨a,ws,rfl,ha,dr⟩:=vt rb;exact⟨a,ws,ds,s,e,hs,ev,ha,dr⟩
  .cases h
 .cases h
def g_(i:Nat)(fe ff:DE):DE:=λZ=>if pJ Z i then(fe Z).bind λk T'=>(ff T').bind λz S'=>match S'[i]? with
 |some (some s)=>match s.d,dz k.d with|.aA ds,some kk=>.ok (.pure ((dw ds kk).getD z.d)) S'|_,_=>.stuck
 |_=>.stuck else .stuck
universe H in theorem Vy(hu:X.A.units+64<WR)(ho:PE X o (dH i))(he:SE X c e fe)(hx:SE X c f ff)(hb:QA o "get" X.env (eval o X.env)=eval o X.env:=by rfl)(hf:((QH bh (Wl [e,f] X.env)).all (λx=>!x.1)&&(Ua bh (Jy [] X.env)).all (λx=>x.1.isSome)&&decide (([e,f]:List Expr).length+([]:List Keyword).length+(if([]:List Keyword).isEmpty then 0 else 1)<30))=true:=by rfl)(hl:(apos.endLine==bh.line)=true:=by rfl)(ht:QH bh (Wl [e,f] X.env)=[(false,eval e X.env),(false,eval f X.env)]:=by rfl):SE X c (.Call (.Attribute o "get" apos) [e,f] [] bh) (g_ i fe ff):=PE.weak (O5 Z' ho he hx ⟨hb,hf,hl,ht⟩) λJ H Q⟨Z,k,q⟩=>by
  unfold g_ at q;split at q;case isFalse=>exact q.elim
  rename_i hd;obtain⟨a,ws,ds,s,e1,e2,e3,e4,_⟩:=Vx k hd;rw[ba]at q;refine⟨.ref a,e3,a,rfl,.inl ⟨ws,.inl e4⟩,Z,k,aO q λkx T' q1 v H1 a1 r1=>⟨T',a1.ok,?_⟩⟩;rw[ba]at q1;refine aO q1 λzx S' q2 u H2 a2 r2=>?_;split at q2
  .rename_i s1 es1;split at q2
   .rename_i ds1 kk hs1 hk;have rb:=rC a2.ok es1 e3;rw[hs1]at rb;obtain⟨a',ws1,ea,ha1,dr1⟩:=vt rb;cases ea;have hv:=rS hk (show cC c J S' H2 v kx.d from .inl (Rep.dQ r1.rep a2));subst hv;refine⟨_,.inl ⟨ws1,_,.inl ha1,rfl,rfl⟩,?_⟩;rcases dr1.val kk with⟨z1,z2⟩|⟨v,d,z1,z2,z3⟩;.rw[z1]at q2;rw[z2];exact q2 _ H2 (a1.trans a2) r2.rep
    .rw[z1]at q2;rw[z2];exact q2 _ H2 (a1.trans a2) z3
   .exact q2.elim
  .exact q2.elim
end
def jU:Int:=2^1000
def Fb(_ j:Int):Prop:=0<j/\j<jU
theorem Vz(h0:0<j)(h1:j<jU):j.natAbs.log2<9000:=by
 have e:j.natAbs<2^1000:=by
  unfold jU at h1;have:((2^1000:Nat):Int)=(2:Int)^1000:=by exact_mod_cast rfl
  lia
 have:=(Nat.log2_lt (by lia:j.natAbs≠0)).mpr e;lia
theorem Fd:bJ X (Qo .FloorDiv) (rI Fb λi j=>.int (i/j)):=mn λi j k k k k k hc q=>by have h1:(0:Int)<j:=hc.1;exact floordiv_int Z' %[Int.fdiv_eq_ediv_of_nonneg i Z'|q] (.inl (PyProof.noPylong_of_log2 (Vz h1 hc.2)))
def rZ(_ j:Int):Bool:=decide (0<j)&&decide (j<jU)
def kH:=dW rZ λi j=>.int (i/j)
theorem Fe:cx (rI Fb λi j=>V.int (i/j)) kH:=mN (λi j h=>by unfold rZ at h;simp only[Wu,decide_eq_true_eq]at h;exact h) λk k k k=>.int _
theorem Ff(i j:Int)(h0:0<j)(h1:j<jU):kH (.int i) (.int j)=0#(.int (i/j)):=by
 show(if rZ i j then some (S.pure (.int (i/j)))else none)=_;have:rZ i j=true:=by unfold rZ;simp only[h0,h1,decide_true,Bool.and_self]
 rw[this];rfl
def Fg(neg:Bool):R2:=λx y H Q=>∃c d:Bool,x=.bl c/\y=.bl d/\Q (.bl (if neg then c !=d else c==d)) H
theorem VA:bJ X (WX .IsNot) (Fg true):=by intro pins s J H x y v u Q I rx ry h;obtain⟨c,d,rfl,rfl,q⟩:=h;cases rx;cases ry;exact isnot_bool (uu I q rfl)
noncomputable def pK(neg:Bool):D->D->Option S|.bl c,.bl d=>0#(.bl (if neg then c !=d else c==d))|_,_=>none
universe H in theorem VB(neg:Bool):cx (Fg neg) (pK neg):=by
 intro c J Z H x y d e s Q k rx ry hp q;cases d<;>cases e<;>first|(simp[pK]at hp;done)|skip
 rename_i i j;simp only[pK,Wg]at hp;subst hp;have ex:x=.bl i:=by
  rcases rx with r|⟨a,e,o⟩;.cases r;rfl
  .exact o.elim
 have ey:y=.bl j:=by
  rcases ry with r|⟨a,e,o⟩;.cases r;rfl
  .exact o.elim
 exact⟨i,j,ex,ey,q _ H (.refl k) (.bl _)⟩
theorem XL:∀{ns:List Int}{us:List Value},Vals (ns.map V.int) us->∃ys:List (Int×Tok),us=(ys.map λp=>Value.int p.1 p.2)/\ns=ys.map (·.1)|[],us,r=>by cases r;exact⟨[],rfl,rfl⟩|n::ns,us,r=>by cases r with|cons r1 r2=>obtain⟨ys,e1,e2⟩:=XL r2;obtain⟨t,rfl⟩:=r1;exact⟨(n,t)::ys,by rw[e1];rfl,by rw[e2];rfl⟩
noncomputable def kI:List D->Option (List Int)|[]=>some []|.int i::r=>(kI r).map (i::.)|_::_=>none
theorem Fh:∀{ds:List D}{vs:List V}{ns:List Int},kI ds=some ns->aI H O vs ds->vs=ns.map V.int|[],vs,bs,h,r=>by simp only[kI,Wg]at h;subst h;have:=r.1;simpa using this|d::ds,[],bs,h,r=>by have:=r.1;simp at this|d::ds,v::vs,bs,h,r=>by cases d with
 |int b=>simp only[kI]at h;cases e:kI ds with|none=>rw[e]at h;cases h|some mQ=>rw[e]at h;simp only[WM,Wg]at h;subst h;have:=r.head;cases this;rw[Fh e r.tail];rfl
 |_=>simp[kI]at h
theorem ints_map(ns:List Int):kI (ns.map D.int)=some ns:=by induction ns with|nil=>rfl|cons n r ih=>simp[kI,ih]
open PySem.Builtin PySem.Builtin.Str PySem.StrLaws
def oy(c:Nat)(z:List Nat)(a n:Nat):List Nat:=(List.range' a n).filter λi=>decide (z[i]?=some c)
theorem VC(z:List Nat)(c i:Nat):subAt ⟨z.toArray⟩ ⟨#[c]⟩ i=decide (z[i]?=some c):=by
 unfold subAt;have e:(⟨#[c]⟩:Str).length=1:=rfl;rw[e];show(z.toArray.extract i (i+1)==#[c])=_;rw[List.extract_toArray,List.extract_eq_take_drop,Nat.add_sub_cancel_left];have hb:((List.take 1 (List.drop i z)).toArray==#[c])=((List.take 1 (List.drop i z))==[c]):=by simp
 rw[hb];cases h:z[i]? with|none=>rw[List.getElem?_eq_none_iff]at h;rw[List.drop_of_length_le h];simp|some a=>have hi:i<z.length:=(W9.mp h).1;have ha:z[i]=a:=(W9.mp h).2;rw[J0 hi,ha];by_cases hac:a=c<;>simp[hac]
theorem y8(c:Nat)(z:List Nat):∀(n k:Nat)(st:Array Nat×Nat),st.2<=k->st.1.size<=k->k+n=z.length+1->(forIn (List.range' k n) st (occBody ⟨z.toArray⟩ ⟨#[c]⟩ z.length (z.length+1))).run.fst.toList=st.1.toList++oy c z k n
 |0,k,st,_,_,_=>#v[oy]|n+1,k,st,h1,h2,h3=>by
  rw[Uw,U3];unfold occBody;have e1:(⟨#[c]⟩:Str).length=1:=rfl;rw[VC,e1];by_cases hc:z[k]?=some c;.have hk:k<z.length:=(W9.mp hc).1;rw[if_pos ⟨⟨⟨Z',h1⟩,Z'⟩,~~~hc⟩];have ih:=y8 c z n (k+1) (st.1.push k,k+1) (Wf _) Re Z';show(forIn (List.range' (k+1) n) (st.1.push k,k+1) (occBody ⟨z.toArray⟩ ⟨#[c]⟩ z.length (z.length+1))).run.fst.toList=_;rw[ih];simp[oy,Uw,hc]
  .rw[if_neg λh=>hc (~~~h.2)];have ih:=y8 c z n (k+1) (st.1,st.2) (by show st.2<=k+1;lia) (by show st.1.size<=k+1;lia) Z';show(forIn (List.range' (k+1) n) (st.1,st.2) (occBody ⟨z.toArray⟩ ⟨#[c]⟩ z.length (z.length+1))).run.fst.toList=_;rw[ih];simp[oy,Uw,hc]
theorem VD(c:Nat)(z:List Nat):occurrences ⟨z.toArray⟩ ⟨#[c]⟩ 0 z.length (z.length+1)=oy c z 0 z.length:=by rw[occ_eq,y8 c z (z.length+1-0) 0 (#[],0) (Wf _) (Wf _) Z'];have:z.length+1-0=z.length+1:=rfl;rw[this];unfold oy;rw[List.range'_concat];simp
structure ZA(z TI TO i1 i2:Addr)(f1 f2:List Addr):Prop where
 m1:i1∈f1
 m2:i2∈f2
 z1:z∉f1
 z2:z∉f2
 t1:TO∉f1
 t2:TO∉f2
 k1:i1∉f2
 k2:i2∉f1
 tz:TO≠z
 iz:TI≠z
 io:TI≠TO
 n1:TI≠i1
 n2:TI≠i2
theorem VE{z TI TO:Addr}{a b:Value}{Q:Value->W6->Prop}(D1:Draws prog w A i1 f1 n1 P1 S1)(D2:Draws prog w A i2 f2 n2 P2 S2)(C:ZA z TI TO i1 i2 f1 f2)(hz:IsZip s.heap z TI TO .none)(hI:IsPair s.heap TI (.ref i1) (.ref i2))(hO:IsPair s.heap TO a b)(g1:S1 i s.heap)(g2:S2 i s.heap)(l1:i<n1)(l2:i<n2)(q:∀x y h' tk,P1 i x->P2 i y->IsZip h' z TI TO (Qv s.heap.objs.size)->IsPair h' TO x y->S1 (i+1) h'->S2 (i+1) h'->IsPair h' s.heap.objs.size x y->(∀c o,c≠z->c≠TO->c≠i1->c≠i2->s.heap.get? c=some o->h'.get? c=some o)->Q (.ref s.heap.objs.size) {s with heap:=h',toks:=tk}):Wb 4#0 A (Builtin.«zip.__next__» ⟨[.ref z],[]⟩) (λfin s'=>∃v,fin=.done (.ret v)/\Q v s') E s:=by
 have i1z:i1≠z:=λe=>C.z1 (e▸C.m1);have i2z:i2≠z:=λe=>C.z2 (e▸C.m2);have y9:TO≠i1:=λe=>C.t1 (e▸C.m1);have VF:TO≠i2:=λe=>C.t2 (e▸C.m2);have i12:i1≠i2:=λe=>C.k1 (e▸C.m2);show Wb _ _ (field (.ref z) 2>>=_) _ _ _;refine W0 (Qp hz rfl (x:=.bool false) rfl ?_);show Wb _ _ (field (.ref z) 3>>=_) _ _ _;refine W0 (Qp hz rfl (x:=.ref TI) rfl (W0 (QE hI rfl ?_)));show Wb _ _ (QM (.ref z)>>=_) _ _ _;refine W0 ?_;unfold QM;refine W0 (Qp hz rfl (x:=.none) rfl (W3 ?_));simp only[if_true];refine W0 (QW (W0 (Qp hz rfl (x:=.ref TO) rfl (W0 (Qd hz V' λh1 mY s1=>?_)))));replace mY:IsZip h1 z TI TO .ellipsis:=mY;refine W0 ?_;simp only[List.zipIdx_cons,List.zipIdx_nil,U3,List.forIn_nil];refine W0 (W0 (wpAny_onRaise ?_));show Wb _ _ (Qa (.ref i1)>>=_) _ _ _;have e1:S1 i h1:=D1.frame _ _ _ g1 λc hc o e=>s1.extBut _ _ (λx=>C.z1 (x▸hc)) e;refine W0 (D1.item i _ _ _ l1 e1 λx h2 VG p1 e2 s2=>W3 ?_);have r8:IsPair h2 TO a b:=s2.extBut _ _ y9 (s1.extBut _ _ C.tz hO);refine W0 (QE r8 rfl (W0 (wpAny_updateSeq_pair r8 λh3 vy s3=>?_)));replace vy:IsPair h3 TO x b:=vy;refine W0 (wpAny_letGo (W3 (W0 (W0 (wpAny_onRaise ?_)))));show Wb _ _ (Qa (.ref i2)>>=_) _ _ _;have e3:S2 i h3:=D2.frame _ _ _ g2 λc hc o e=>s3.extBut _ _ (λx=>C.t2 (x▸hc)) (s2.extBut _ _ (λx=>C.k1 (x▸hc)) (s1.extBut _ _ (λx=>C.z2 (x▸hc)) e));refine W0 (D2.item i _ _ _ l2 e3 λy h4 tk4 p2 e4 s4=>W3 ?_);have Fi:IsPair h4 TO x b:=s4.extBut _ _ VF vy;refine W0 (QE Fi rfl (W0 (wpAny_updateSeq_pair Fi λh5 vz s5=>?_)));replace vz:IsPair h5 TO x y:=vz;refine W0 (wpAny_letGo (W3 (W3 (W0 (QE vz rfl (W0 (wpAny_newTuple ?_)))))));have hsz:h5.objs.size=s.heap.objs.size:=by rw[s5.1,s4.1,s3.1,s2.1,s1.1]
 have Fj:IsZip h5 z TI TO .ellipsis:=s5.extBut _ _ C.tz.symm (s4.extBut _ _ i2z.symm (s3.extBut _ _ C.tz.symm (s2.extBut _ _ i1z.symm mY)));have k5:∀c o,c≠z->c≠TO->c≠i1->c≠i2->s.heap.get? c=some o->h5.get? c=some o:=λc o c1 c2 c3 c4 e=>s5.extBut _ _ c2 (s4.extBut _ _ c4 (s3.extBut _ _ c2 (s2.extBut _ _ c3 (s1.extBut _ _ c1 e))));have r1:S1 (i+1) h5:=D1.frame _ _ _ e2 λc hc o e=>s5.extBut _ _ (λx=>C.t1 (x▸hc)) (s4.extBut _ _ (λx=>C.k2 (x▸hc)) (s3.extBut _ _ (λx=>C.t1 (x▸hc)) e));have r2:S2 (i+1) h5:=D2.frame _ _ _ e4 λc hc o e=>s5.extBut _ _ (λx=>C.t2 (x▸hc)) e;have zl:z<h5.objs.size:=Wm Fj;show Wb _ _ (Builtin.SmallTypes.ownedTupleHandOut (.ref z) (.ref h5.objs.size)>>=_) _ _ _;refine W0 ?_;unfold Builtin.SmallTypes.ownedTupleHandOut;have VH:IsZip (h5.push {cls:=.type "tuple",data:=.seq #[x,y]}) z TI TO .ellipsis:=W5 _ Fj;refine W0 (Qd VH V' λh7 y_ s7=>?_);replace y_:IsZip h7 z TI TO (Qv h5.objs.size):=y_;refine Qd y_ V' λh8 vA s8=>?_;replace vA:IsZip h8 z TI TO (Qv h5.objs.size):=vA;have up:∀c o,c≠z->h5.get? c=some o->h8.get? c=some o:=λc o c1 e=>s8.extBut _ _ c1 (s7.extBut _ _ c1 (W5 _ e));have hT:IsPair h8 h5.objs.size x y:=s8.extBut _ _ (Qm zl) (s7.extBut _ _ (Qm zl) (Wi _ rfl));rw[hsz]at vA hT;refine W3 ⟨_,rfl,?_⟩;show Q (.ref h5.objs.size) _;rw[hsz];exact q x y h8 _ p1 p2 vA (up _ _ C.tz vz) (D1.frame _ _ _ r1 λc hc o e=>up c o (λx=>C.z1 (x▸hc)) e) (D2.frame _ _ _ r2 λc hc o e=>up c o (λx=>C.z2 (x▸hc)) e) hT λc o c1 c2 c3 c4 e=>up c o c1 (k5 c o c1 c2 c3 c4 e)
theorem VI{TI TO a Q}(D1:Draws prog w A i1 f1 n1 P1 S1)(D2:Draws prog w A i2 f2 n2 P2 S2)(C:ZA z TI TO i1 i2 f1 f2)(hz:IsZip s.heap z TI TO .none)(hI:IsPair s.heap TI (.ref i1) (.ref i2))(hO:IsPair s.heap TO a b)(g1:S1 i s.heap)(g2:S2 i s.heap)(l:i=n1\/i<n1/\i=n2)(q:∀h' tk e,(∀c o,c≠z->c≠TO->c≠i1->c≠i2->s.heap.get? c=some o->h'.get? c=some o)->(∃o,h'.get? e=some o/\o.cls=.type "StopIteration")->E (.ref e) {s with heap:=h',toks:=tk}):Wb 4#0 A (Builtin.«zip.__next__» ⟨[.ref z],[]⟩) Q E s:=by
 have i1z:i1≠z:=λe=>C.z1 (e▸C.m1);have i2z:i2≠z:=λe=>C.z2 (e▸C.m2);have y9:TO≠i1:=λe=>C.t1 (e▸C.m1);show Wb _ _ (field (.ref z) 2>>=_) _ _ _;refine W0 (Qp hz rfl (x:=.bool false) rfl ?_);show Wb _ _ (field (.ref z) 3>>=_) _ _ _;refine W0 (Qp hz rfl (x:=.ref TI) rfl (W0 (QE hI rfl ?_)));show Wb _ _ (QM (.ref z)>>=_) _ _ _;refine W0 ?_;unfold QM;refine W0 (Qp hz rfl (x:=.none) rfl (W3 ?_));simp only[if_true];refine W0 (QW (W0 (Qp hz rfl (x:=.ref TO) rfl (W0 (Qd hz V' λh1 mY s1=>?_)))));replace mY:IsZip h1 z TI TO .ellipsis:=mY;refine W0 ?_;simp only[List.zipIdx_cons,List.zipIdx_nil,U3,List.forIn_nil];refine W0 (W0 (wpAny_onRaise ?_));show Wb _ _ (Qa (.ref i1)>>=_) _ _ _;have e1:S1 i h1:=D1.frame _ _ _ g1 λc hc o e=>s1.extBut _ _ (λx=>C.z1 (x▸hc)) e;rcases l with l|⟨l,l'⟩
 .subst l;refine W0 (D1.done _ _ _ e1 λh2 e s2⟨oe,he,ce⟩=>?_);have vC:IsZip h2 z TI TO .ellipsis:=s2 _ _ i1z.symm mY;have ez:e≠z:=λx=>by subst x;rw[vC]at he;cases he;simp at ce
  exact Qd vC V' λh3 j s3=>q h3 _ e (λc o c1 j c3 j x=>s3.extBut _ _ c1 (s2 _ _ c3 (s1.extBut _ _ c1 x))) ⟨oe,s3.extBut _ _ ez he,ce⟩
 .refine W0 (D1.item i _ _ _ l e1 λx h2 VG p1 e2 s2=>W3 ?_);have r8:IsPair h2 TO a b:=s2.extBut _ _ y9 (s1.extBut _ _ C.tz hO);refine W0 (QE r8 rfl (W0 (wpAny_updateSeq_pair r8 λh3 vy s3=>?_)));refine W0 (wpAny_letGo (W3 (W0 (W0 (wpAny_onRaise ?_)))));show Wb _ _ (Qa (.ref i2)>>=_) _ _ _;have e3:S2 i h3:=D2.frame _ _ _ g2 λc hc o e=>s3.extBut _ _ (λx=>C.t2 (x▸hc)) (s2.extBut _ _ (λx=>C.k1 (x▸hc)) (s1.extBut _ _ (λx=>C.z2 (x▸hc)) e));subst l';refine W0 (D2.done _ _ _ e3 λh4 e s4⟨oe,he,ce⟩=>?_);have Fm:IsZip h4 z TI TO .ellipsis:=s4 _ _ i2z.symm (s3.extBut _ _ C.tz.symm (s2.extBut _ _ i1z.symm mY));have ez:e≠z:=λx=>by subst x;rw[Fm]at he;cases he;simp at ce
  exact Qd Fm V' λh5 j s5=>q h5 _ e (λc o c1 c2 c3 c4 x=>s5.extBut _ _ c1 (s4 _ _ c4 (s3.extBut _ _ c2 (s2.extBut _ _ c3 (s1.extBut _ _ c1 x))))) ⟨oe,s5.extBut _ _ ez he,ce⟩
theorem VJ{z TI TO:Addr}{a b:Value}(D1:Draws prog w A.in1 i1 f1 n1 P1 S1)(D2:Draws prog w A.in1 i2 f2 n2 P2 S2)(C:ZA z TI TO i1 i2 f1 f2)(hz:IsZip s.heap z TI TO .none)(hI:IsPair s.heap TI (.ref i1) (.ref i2))(hO:IsPair s.heap TO a b)(g1:S1 i s.heap)(g2:S2 i s.heap)(l1:i<n1)(l2:i<n2)(q:∀x y h' tk,P1 i x->P2 i y->IsZip h' z TI TO (Qv s.heap.objs.size)->IsPair h' TO x y->S1 (i+1) h'->S2 (i+1) h'->IsPair h' s.heap.objs.size x y->(∀c o,c≠z->c≠TO->c≠i1->c≠i2->s.heap.get? c=some o->h'.get? c=some o)->Q (some (.ref s.heap.objs.size)) {s with heap:=h',toks:=tk}):Wb 4#0 A (Qk (.ref z)) Q E s:=by have ty:s.TypeIs (.ref z) "zip":=⟨_,hz,rfl⟩;unfold Qk;exact W0 (Js (WP (name:=Str.ofString "__next__") ty F.slot_zip_next (WJ F.slot_zip_next ty F.entry_zip_next (VE D1 D2 C hz hI hO g1 g2 l1 l2 λx y h' tk b1 b2 b3 b4 b5 b6 b7 b8=>W3 (q x y h' tk b1 b2 b3 b4 b5 b6 b7 b8)) (F.args_zip_next_1 _))))
theorem VM{TI TO a}(D1:Draws prog w A.in1 i1 f1 n1 P1 S1)(D2:Draws prog w A.in1 i2 f2 n2 P2 S2)(C:ZA z TI TO i1 i2 f1 f2)(hz:IsZip s.heap z TI TO .none)(hI:IsPair s.heap TI (.ref i1) (.ref i2))(hO:IsPair s.heap TO a b)(g1:S1 i s.heap)(g2:S2 i s.heap)(l:i=n1\/i<n1/\i=n2)(q:∀h' tk,(∀c o,c≠z->c≠TO->c≠i1->c≠i2->s.heap.get? c=some o->h'.get? c=some o)->Q none {s with heap:=h',toks:=tk}):Wb 4#0 A (Qk (.ref z)) Q E s:=by have ty:s.TypeIs (.ref z) "zip":=⟨_,hz,rfl⟩;unfold Qk;refine W0 (Js (WP (name:=Str.ofString "__next__") ty F.slot_zip_next (WJ F.slot_zip_next ty F.entry_zip_next (VI D1 D2 C hz hI hO g1 g2 l λh' tk e k⟨o,ho,hc⟩=>?_) (F.args_zip_next_1 _))));exact W0 (JV (T:="StopIteration") (b:=true) ⟨o,ho,hc⟩ isSubtype_stop (W3 (q _ _ k)))
def iu(b:Bool)(h:Heap)(a:Addr)(ak:Array Value):Prop:=match b with|true=>h.IsList a ak|false=>h.IsTuple a ak
def mZ(b:Bool)(h:Heap)(it a:Addr)(i:Nat):Prop:=match b with|true=>h.IsListIter it a i|false=>h.IsTupleIter it a i
def bY(b:Bool)(a:Addr):Obj:={cls:=.type (match b with|true=>"list_iterator"|false=>"tuple_iterator"),data:=.fields #[.ref a,.int 0 0]}
theorem iu.lt{ak}(q:iu b h a ak):a<h.objs.size:=by
 cases b;.obtain⟨o,e,_⟩:=(q:h.IsTuple a ak);exact Wm e
 .obtain⟨o,e,_⟩:=(q:h.IsList a ak);exact Wm e
theorem iu.push{ak}(q:iu b h a ak)(o:Obj):iu b (h.push o) a ak:=by
 cases b;.obtain⟨o,e,r⟩:=(q:h.IsTuple a ak);exact⟨o,W5 _ e,r⟩
 .obtain⟨o,e,r⟩:=(q:h.IsList a ak);exact⟨o,W5 _ e,r⟩
theorem Fn{ak Q}(h:iu b s.heap a ak)(q:Q (.ref s.heap.objs.size) 9#(s.heap.push (bY b a))):Wb 4#0 A (pyIter (.ref a)) Q E s:=by
 cases b;.exact Jn h q
 .exact Ul h q
theorem vD(b:Bool)(hh:A.handled=none)(it a:Addr)(cE:a≠it)(ak:Array Value):Draws prog w A it [it,a] ak.size (λi v=>ak[i]?=some v) λi h=>mZ b h it a i/\iu b h a ak:=by
 cases b;.exact Draws.tuple' hh it a cE ak
 .exact Draws.list hh it a cE ak
abbrev vE(h:Heap)(b1:Bool)(l1:Addr):Heap:=h.push (bY b1 l1)
abbrev vF(h:Heap)(b1 b2:Bool)(l1 l2:Addr):Heap:=(vE h b1 l1).push (bY b2 l2)
abbrev vG(h:Heap)(b1 b2:Bool)(l1 l2:Addr):Heap:=(vF h b1 b2 l1 l2).push {cls:=.type "tuple",data:=.seq #[.ref h.objs.size,.ref (vE h b1 l1).objs.size]}
abbrev vH(h:Heap)(b1 b2:Bool)(l1 l2:Addr):Heap:=(vG h b1 b2 l1 l2).push {cls:=.type "tuple",data:=.seq #[.none,.none]}
abbrev pL(h:Heap)(b1 b2:Bool)(l1 l2:Addr):Heap:=(vH h b1 b2 l1 l2).push {cls:=.type "zip",data:=.fields #[.none,.bool false,.bool false,.ref (vF h b1 b2 l1 l2).objs.size,.ref (vG h b1 b2 l1 l2).objs.size]}
theorem VN(b1 b2:Bool)(l1 l2:Addr)(xs ys:Array Value):Meets (Builtin.«zip.__new__» ⟨[.type "zip",.ref l1,.ref l2],[]⟩) λj R s=>iu b1 s.heap l1 xs/\iu b2 s.heap l2 ys/\R (.ok (.ret (.ref (vH s.heap b1 b2 l1 l2).objs.size))) 9#(pL s.heap b1 b2 l1 l2):=.of_wp λprog w A R s h=>by obtain⟨hp,g,d,tk,os⟩:=s;obtain⟨zb,gJ,h⟩:=h;have vw:=sub_zip;have VO:iu b1 (Shared.heap ⟨hp,g,d,tk,os⟩) l1 xs:=zb;have VP:iu b2 (Shared.heap ⟨hp.push (bY b1 l1),g,d,tk,os⟩) l2 ys:=gJ.push _;wp_walk using Fn VO,Fn VP;exact⟨_,rfl,h⟩
theorem VQ{ys Q}(zb:iu b1 s.heap l1 xs)(gJ:iu b2 s.heap l2 ys)(h:∀h',IsZip h' (s.heap.objs.size+4) (s.heap.objs.size+2) (s.heap.objs.size+3) .none->IsPair h' (s.heap.objs.size+2) (.ref s.heap.objs.size) (.ref (s.heap.objs.size+1))->IsPair h' (s.heap.objs.size+3) .none .none->mZ b1 h' s.heap.objs.size l1 0->mZ b2 h' (s.heap.objs.size+1) l2 0->(∀c o,s.heap.get? c=some o->h'.get? c=some o)->Q (.ref (s.heap.objs.size+4)) 9#h'):Wb 4#0 A (call (.type "zip") [.ref l1,.ref l2]) Q E s:=by
 refine callType_new F.called_zip U' (F.typeCall_zip_2 _ _) (F.newCall_zip_2 _ _) (λobj=>F.args_object_init_3 obj _ _) F.entry_zip_new (VN b1 b2 l1 l2 xs ys) ⟨zb,gJ,?_⟩;have z1:(vE s.heap b1 l1).objs.size=s.heap.objs.size+1:=Q7 ..;have z2:(vF s.heap b1 b2 l1 l2).objs.size=s.heap.objs.size+2:=by rw[Q7,z1]
 have z3:(vG s.heap b1 b2 l1 l2).objs.size=s.heap.objs.size+3:=by rw[Q7,z2]
 have z4:(vH s.heap b1 b2 l1 l2).objs.size=s.heap.objs.size+4:=by rw[Q7,z3]
 have up:∀{h:Heap}{o:Obj}{c:Addr}{o':Obj},h.get? c=some o'->(h.push o).get? c=some o':=λe=>W5 _ e;have g5:(pL s.heap b1 b2 l1 l2).get? (vH s.heap b1 b2 l1 l2).objs.size=some _:=Wi _ rfl;have g4:(pL s.heap b1 b2 l1 l2).get? (vG s.heap b1 b2 l1 l2).objs.size=some _:=up (Wi _ rfl);have g3:(pL s.heap b1 b2 l1 l2).get? (vF s.heap b1 b2 l1 l2).objs.size=some _:=up (up (Wi _ rfl));have g2:(pL s.heap b1 b2 l1 l2).get? (vE s.heap b1 l1).objs.size=some (bY b2 l2):=up (up (up (Wi _ (by cases b2<;>rfl))));have g1:(pL s.heap b1 b2 l1 l2).get? s.heap.objs.size=some (bY b1 l1):=up (up (up (up (Wi _ (by cases b1<;>rfl)))));show _/\_;rw[z2,z3,z4]at g5;rw[z1,z2]at g3;rw[z3]at g4;rw[z1]at g2;rw[z4];exact⟨⟨_,g5,rfl⟩,h _ g5 g3 g4 (by cases b1<;>exact⟨_,g1,rfl,rfl⟩) (by cases b2<;>exact⟨_,g2,rfl,rfl⟩) λc o x=>up (up (up (up (up x))))⟩
theorem Inv.zc{x}(fp:List Addr)(I:Inv X pins J H s)(hf:∀b∈fp,gG X pins H b)(a0:∀b∈fp,b<s.heap.objs.size)(ru:RelV x u)(rv:RelV y v)(hT:h'.get? s.heap.objs.size=some {cls:=.type "tuple",data:=.seq #[u,v]})(k:∀b o,b∉fp->s.heap.get? b=some o->h'.get? b=some o):Inv X pins J (upd H s.heap.objs.size (.tup [x,y])) {s with heap:=h',toks:=t'}:=by
 have I1:Inv X pins J (upd H s.heap.objs.size (.tup [x,y])) {s with heap:=s.heap.push {cls:=.type "tuple",data:=.seq #[u,v]},toks:=t'}:=I.laid (t':=t') (λb o e=>W5 _ e) (Wf _) (show bP X.prog X.w _ _ _ (.tup [x,y])from⟨by simp only[WF,JJ];rw[J5];decide,[u,v],.cons ru (.cons rv .nil),i_.new _ _⟩);have:=Inv.rT (t':=t') (h':=h') fp I1 (λb o hb eb=>?_) λb hb=>?_;.exact this
 .rcases Heap.get?_push_cases eb with⟨z,z'⟩|eb;.subst z z';exact hT
  .exact k b o hb eb
 .obtain⟨f0,r⟩:=hf b hb;exact⟨%[aN (Wr (a0 b hb))|f0],r⟩
def iS(b:Bool)(K:Wa)(H:Hp)(a:Addr)(xs:List V):Prop:=match b with|true=>cu K H a xs|false=>cN K H a xs
theorem Inv.pM(I:Inv X pins J H s)(h:iS b X.K H a xs):∃ak,Vals xs ak/\iu b s.heap a ak.toArray:=by
 cases b;.obtain⟨ak,rv,p,_⟩:=I.tuple (h:cN X.K H a xs);exact⟨ak,rv,p⟩
 .obtain⟨ak,rv,p,_⟩:=I.list (h:cu X.K H a xs);exact⟨ak,rv,p.isList⟩
theorem Inv.Fo(I:Inv X pins J H s)(h:iS b X.K H a xs)(h':iS b X.K H a ys):xs=ys:=by
 cases b;.exact I.xq h h'
 .exact I.xp h h'
def Fp(K:Wa)(b1 b2:Bool)(a1 a2:Addr):It:=⟨λi H=>∃xs ys x y,iS b1 K H a1 xs/\iS b2 K H a2 ys/\xs[i]?=some x/\ys[i]?=some y,λi H v H'=>∃p x y,H p=none/\(∀xs,iS b1 K H a1 xs->xs[i]?=some x)/\(∀ys,iS b2 K H a2 ys->ys[i]?=some y)/\H'=upd H p (.tup [x,y])/\v=.ref p,λi H=>∃xs ys,iS b1 K H a1 xs/\iS b2 K H a2 ys/\(i=xs.length\/i<xs.length/\i=ys.length)⟩
theorem VR{ctx}(b1 b2:Bool)(a1 a2 n:Addr)(h1:a1<n)(h2:a2<n):Turn P w K (.Tuple elts ctx pos) (Fp K b1 b2 a1 a2) [n+4,n+2,n+3,n,n+1] (n+4) λi h=>IsZip h (n+4) (n+2) (n+3) .none/\IsPair h (n+2) (.ref n) (.ref (n+1))/\(∃a b,IsPair h (n+3) a b)/\mZ b1 h n a1 i/\mZ b2 h (n+1) a2 i:=by
 have ne:∀(i j:Nat),i≠j->n+i≠n+j:=λi j h e=>h (Nat.add_left_cancel e);have n1:∀i:Nat,a1≠n+i:=λi=>Wr (Wz h1 (Ux n i));have n2:∀i:Nat,a2≠n+i:=λi=>Wr (Wz h2 (Ux n i));have nm:∀{x a b:Addr},x≠a->x≠b->x∉[a,b]:=λh1 h2 h=>by
  rcases Wv.mp h with e|h;.exact h1 e
  .exact h2 (List.mem_singleton.mp h)
 have C:ZA (n+4) (n+2) (n+3) n (n+1) [n,a1] [n+1,a2]:=⟨Wc,Wc,nm (ne 4 0 U') (n1 4).symm,nm (ne 4 1 U') (n2 4).symm,nm (ne 3 0 U') (n1 3).symm,nm (ne 3 1 U') (n2 3).symm,nm (ne 0 1 U') (n2 0).symm,nm (ne 1 0 U') (n1 1).symm,ne 3 4 U',ne 2 4 U',ne 2 3 U',ne 2 0 U',ne 2 1 U'⟩;have Fq:∀{b:Bool}{h:Heap}{it a:Addr}{i:Nat},mZ b h it a i->∃o,h.get? it=some o/\∀v,o.data≠.cell v:=λ{b h it a i}q=>by
  cases b;.obtain⟨o,e,c,d⟩:=(q:h.IsTupleIter it a i);exact⟨o,e,λv z=>by rw[d]at z;cases z⟩
  .obtain⟨o,e,c,d⟩:=(q:h.IsListIter it a i);exact⟨o,e,λv z=>by rw[d]at z;cases z⟩
 have vI:∀{b:Bool}{h h':Heap}{it a:Addr}{i:Nat},mZ b h it a i->(∀o,h.get? it=some o->h'.get? it=some o)->mZ b h' it a i:=λ{b h h' it a i}q k=>by
  cases b;.obtain⟨o,e,r⟩:=(q:h.IsTupleIter it a i);exact⟨o,k o e,r⟩
  .obtain⟨o,e,r⟩:=(q:h.IsListIter it a i);exact⟨o,k o e,r⟩
 have mm:∀{b:Addr},b∈[n+4,n+2,n+3,n,n+1]->b=n+4\/b=n+2\/b=n+3\/b=n\/b=n+1:=λh=>~~~h;refine⟨V',?_,?_,?_,?_,?_⟩
 .rintro i h⟨hz,hI,⟨a,b,hO⟩,q1,q2⟩c hc;rcases mm hc with e|e|e|e|e<;>subst e;.exact⟨_,hz,λv z=>by have z':Data.fields _=Data.cell v:=z;cases z'⟩
  .exact⟨_,hI,λv z=>by have z':Data.seq _ _=Data.cell v:=z;cases z'⟩
  .exact⟨_,hO,λv z=>by have z':Data.seq _ _=Data.cell v:=z;cases z'⟩
  .exact Fq q1
  .exact Fq q2
 .rintro i h h'⟨hz,hI,⟨a,b,hO⟩,q1,q2⟩k;exact⟨k _ V' _ hz,k _ V' _ hI,⟨a,b,k _ V' _ hO⟩,vI q1 λo e=>k _ V' o e,vI q2 λo e=>k _ V' o e⟩
 .intro X hP hw hK hc i pins s J H E I hf st hg;subst hP hw hK;obtain⟨hz,hI,⟨a,b,hO⟩,q1,q2⟩:=st;obtain⟨xs,ys,x,y,c1,c2,hx,hy⟩:=hg;obtain⟨is,rv1,p1⟩:=I.pM c1;obtain⟨js,rv2,p2⟩:=I.pM c2;obtain⟨u,hu,ru⟩:=rv1.get hx;obtain⟨v,hv,rv⟩:=rv2.get hy;have D1:=vD (prog:=X.prog) (w:=X.w) (A:=X.A.in1) b1 (I.ok.hd hc) n a1 (n1 0) is.toArray;have D2:=vD (prog:=X.prog) (w:=X.w) (A:=X.A.in1) b2 (I.ok.hd hc) (n+1) a2 (n2 1) js.toArray;have a0:∀c∈[n+4,n+2,n+3,n,n+1],c<s.heap.objs.size:=λc hc=>by
   have z:=Wm hz;have le:∀k:Nat,k<=4->n+k<s.heap.objs.size:=λk hk=>WC (Nat.add_le_add_left hk n) z;rcases mm hc with e|e|e|e|e<;>subst e;.exact z
   .exact le 2 U'
   .exact le 3 U'
   .exact le 0 U'
   .exact le 1 U'
  have l1:i<is.toArray.size:=by simpa using(W9.mp hu).1
  have l2:i<js.toArray.size:=by simpa using(W9.mp hv).1
  refine VJ D1 D2 C hz hI hO ⟨q1,p1⟩ ⟨q2,p2⟩ l1 l2 λx' y' h' tk e1 e2 VS VT s1 s2 hT k=>?_;have ex:x'=u:=by rw[JR,hu]at e1;cases e1;rfl
  have ey:y'=v:=by rw[JR,hv]at e2;cases e2;rfl
  subst ex ey;refine⟨_,rfl,wpAny_letOwnedTupleGo_zip VS λh2 vC sb=>?_⟩;have nz:s.heap.objs.size≠n+4:=Qm (a0 (n+4) V');have k2:∀c o,c∉[n+4,n+2,n+3,n,n+1]->s.heap.get? c=some o->h2.get? c=some o:=λc o hc e=>by have g1:c≠n+4:=λz=>hc #v[z];have g2:c≠n+3:=λz=>hc #v[z];have g3:c≠n:=λz=>hc #v[z];have g4:c≠n+1:=λz=>hc #v[z];exact(sb.2 c g1).trans (k c o g1 g2 g3 g4 e)
  have I2:Inv X pins J (upd H s.heap.objs.size (.tup [x,y])) {s with heap:=h2,toks:=tk}:=Inv.zc (t':=tk) _ I hf a0 ru rv ((sb.2 _ nz).trans hT) k2;refine⟨.ref s.heap.objs.size,_,I2,rfl,⟨s.heap.objs.size,x,y,I.aD.fresh (Wf _),λzs zd=>%[I.Fo zd c1|hx],λzs zd=>%[I.Fo zd c2|hy],rfl,rfl⟩,⟨vC,(sb.2 _ (ne 2 4 U')).trans (k _ _ (ne 2 4 U') (ne 2 3 U') (ne 2 0 U') (ne 2 1 U') hI),⟨_,_,(sb.2 _ (ne 3 4 U')).trans VT⟩,vI s1.1 λo e=>(sb.2 _ (ne 0 4 U')).trans e,vI s2.1 λo e=>(sb.2 _ (ne 1 4 U')).trans e⟩,λc hc=>?_⟩;rw[aN (Wr (a0 c hc))];exact(hf c hc).1
 .intro X hP hw hK hc i pins s J H E I hf st hg;subst hP hw hK;obtain⟨hz,hI,⟨a,b,hO⟩,q1,q2⟩:=st;obtain⟨xs,ys,c1,c2,hl⟩:=hg;obtain⟨is,rv1,p1⟩:=I.pM c1;obtain⟨js,rv2,p2⟩:=I.pM c2;have D1:=vD (prog:=X.prog) (w:=X.w) (A:=X.A.in1) b1 (I.ok.hd hc) n a1 (n1 0) is.toArray;have D2:=vD (prog:=X.prog) (w:=X.w) (A:=X.A.in1) b2 (I.ok.hd hc) (n+1) a2 (n2 1) js.toArray;have r1:=rv1.length;have r2:=rv2.length;refine VM D1 D2 C hz hI hO ⟨q1,p1⟩ ⟨q2,p2⟩ Re λh' tk k=>⟨rfl,Inv.rT (t':=tk) [n+4,n+2,n+3,n,n+1] I (λc o hc e=>?_) hf⟩;exact k c o (λz=>hc #v[z]) (λz=>hc #v[z]) (λz=>hc #v[z]) (λz=>hc #v[z]) e
 .intro A i s Q E st h;exact wpAny_pyIter_zip st.1 h
def VU(K:Wa)(ta:TA):TI:=λJ H R=>ta J H λvs H1=>∃(b1 b2:Bool)(a1 a2:Addr),vs=[.ref a1,.ref a2]/\(∃xs,iS b1 K H1 a1 xs)/\(∃ys,iS b2 K H1 a2 ys)/\R (Fp K b1 b2 a1 a2) H1
theorem VW{a ta}{ctx}(hg:Gl X "zip")(hm:X.mg "zip"=none)(ha:PA X [a,b] ta)(hs:Wl [a,b] X.env=(false,eval a X.env)::Wl [b] X.env:=by rfl)(dq:(QH pos (Wl [b] X.env)).any (·.1)=false:=by rfl):PI X (.Tuple elts ctx tp) (.Call (.Name "zip" pp) [a,b] [] pos) (VU X.K ta):=by intro pins s J H R I h;refine Call_ (nS I hg hm boot_zip (QQ (aM (ha pos pins s J H _ I h) λus s1 hh=>?_) hs dq));obtain⟨vs,H1,I1,r1,q1⟩:=hh;obtain⟨b1,b2,a1,a2,ev,⟨xs,hx⟩,⟨ys,hy⟩,q⟩:=q1;subst ev;cases r1 with|cons r rr=>cases rr with|cons r' rr=>
 cases rr;cases r;cases r';obtain⟨is,rv1,p1⟩:=I1.pM hx;obtain⟨js,rv2,p2⟩:=I1.pM hy;refine VQ p1 p2 λh' hz hI hO q1 q2 kp=>wpAny_pyIter_zip hz ?_;refine⟨s1.heap.objs.size+4,_,_,_,H1,rfl,I1.kept (t':=s1.toks) kp,VR b1 b2 a1 a2 s1.heap.objs.size p1.lt p2.lt,⟨hz,hI,⟨_,_,hO⟩,q1,q2⟩,λb hb=>?_,q⟩;have hb:b=s1.heap.objs.size+4\/b=s1.heap.objs.size+2\/b=s1.heap.objs.size+3\/b=s1.heap.objs.size\/b=s1.heap.objs.size+1:= ~~~hb;have hle:s1.heap.objs.size<=b:=by rcases hb with z|z|z|z|z<;>subst z<;>first|exact Wf _|exact Ux _ _
 exact I1.iH hle (I1.aD.fresh hle)
def jV(xs ys:List D):List D:=QB (λx y=>D.tup [x,y]) xs ys
theorem VX{xs ys:List D}{d:D}(h:(jV xs ys)[i]?=some d):∃x y,xs[i]?=some x/\ys[i]?=some y/\d=.tup [x,y]:=by unfold jV at h;rw[List.getElem?_zipWith]at h;cases e1:xs[i]? with|none=>rw[e1]at h;cases h|some x=>cases e2:ys[i]? with|none=>rw[e1,e2]at h;cases h|some y=>rw[e1,e2]at h;cases h;exact⟨x,y,rfl,rfl,rfl⟩
theorem aI.two{H O u x v y}(r:Rep H O u x)(r':Rep H O v y):aI H O [u,v] [x,y]:=by refine⟨rfl,λj v' d' e1 e2=>?_⟩;match j with|0=>simp at e1 e2;subst e1 e2;exact r|1=>simp at e1 e2;subst e1 e2;exact r'|j+2=>simp at e1
noncomputable def jW:D->Option (List D)|.lst ds=>some ds|.tup ds=>some ds|_=>none
def iw(f g:DE):DI:=λZ=>(f Z).bind λx T'=>(g T').bind λy S'=>match jW x.d,jW y.d with|some xs,some ys=>.ok (jV xs ys) S'|_,_=>.stuck
theorem Rep.sq{v:V}{d:D}{ds:List D}(r:Rep H O v d)(e:jW d=some ds):∃(b:Bool)(a:Addr)(vs:List V),v=.ref a/\iS b K H a vs/\aI H O vs ds/\∀H2,(∀p o,H p=some o->¬O p->H2 p=some o)->iS b K H2 a vs:=by
 cases d<;>first|(simp[jW]at e;done)|skip
 .cases r with|tup h1 h2 h3 h4=>simp only[jW,Wg]at e;subst e;exact⟨false,_,_,rfl,cN.of h2,⟨h3,h4⟩,λH2 k=>cN.of (k _ _ h2 h1)⟩
 .cases r with|lst h1 h2 h3 h4=>simp only[jW,Wg]at e;subst e;exact⟨true,_,_,rfl,.inl h2,⟨h3,h4⟩,λH2 k=>.inl (Rd.keep h2 λo e=>k _ o e h1)⟩
theorem VY{a b:Expr}{f g:DE}{elts:List Expr}{ctx}{tp:Pos}(hg:Gl X "zip")(hm:X.mg "zip"=none)(ha:SE X c a f)(hb:SE X c b g)(hs:Wl [a,b] X.env=(false,eval a X.env)::Wl [b] X.env:=by rfl)(yw:Wl [b] X.env=(false,eval b X.env)::Wl [] X.env:=by rfl)(dq:(QH pos (Wl [b] X.env)).any (·.1)=false:=by rfl):SI X c (.Tuple elts ctx tp) (.Call (.Name "zip" pp) [a,b] [] pos) (iw f g):=PI.weak (VW hg hm (fu ha (fu hb gH yw) hs) hs dq) λJ H R⟨Z,k,q⟩=>by unfold iw at q;rw[ba]at q;refine⟨Z,k,aO q λx T' q1 v H1 a1 r1=>⟨T',a1.ok,?_⟩⟩;rw[ba]at q1;refine aO q1 λy S' q2 u H2 a2 r2=>?_;have hx:Rep H2 (Av c J S') v x.d:=Rep.dQ r1.rep a2;have hy:Rep H2 (Av c J S') u y.d:=r2.rep;generalize x.d=dx at q2 hx;generalize y.d=dy at q2 hy;cases e1:jW dx with|none=>rw[e1]at q2;exact q2.elim|some xs=>cases e2:jW dy with|none=>rw[e1,e2]at q2;exact q2.elim|some ys=>
 rw[e1,e2]at q2;obtain⟨b1,p1,vs,ev,s1,w1,k1⟩:=hx.sq (K:=X.K) e1;obtain⟨b2,p2,us,eu,s2,w2,k2⟩:=hy.sq (K:=X.K) e2;subst ev eu;refine⟨b1,b2,p1,p2,rfl,⟨vs,s1⟩,⟨us,s2⟩,q2 _ H2 (a1.trans a2) λH3 kp=>?_⟩;have t1:=k1 H3 λp o e n=>kp p o e λz=>n (.inr z);have t2:=k2 H3 λp o e n=>kp p o e λz=>n (.inr z);refine⟨⟨vs,us,t1,t2,?_⟩,λi d e=>?_⟩;.rw[w1.1,w2.1];simp only[jV,List.length_zipWith];lia
 .obtain⟨x,y,ex,ey,rfl⟩:=VX e;obtain⟨v,ev,rv⟩:=w1.get ex;obtain⟨u,eu,ru⟩:=w2.get ey;refine⟨⟨vs,us,v,u,t1,t2,ev,eu⟩,λz H4 hh=>?_⟩;obtain⟨p,v',u',hp,hv,hu,e3,ez⟩:=hh;refine .inr ⟨p,_,_,hp,e3,ez,rfl,?_⟩;have h1:=hv vs t1;have h2:=hu us t2;rw[ev]at h1;rw[eu]at h2;cases h1;cases h2;exact aI.two rv ru
def oz(fk fv:DE):DE:=λZ=>(fk Z).bind λr T'=>(fv T').bind λs S'=>match r,s with
 |.pure dk,.pure d=>match dz dk with|some kk=>.ok (.own (.aA [(kk,d)])) S'|none=>.stuck
 |_,_=>.stuck
section
variable{p:Addr}
theorem Ok.Fs(k:Ok (c.plus p) J Z H)(h0:c.H₀ p=none)(o:HO):Ok (c.plus p) J Z (upd H p o):=by
 have vb:∀b w,H b=some w->¬Av (c.plus p) J Z b->upd H p o b=some w:=λb w e n=>by rw[aN λz:b=p=>n (.inl (.inr z))];exact e
 have ex:∀b,(∃w,H b=some w)->∃w,upd H p o b=some w:=λb⟨w,e⟩=>by
  by_cases z:b=p;.rw[z];exact⟨o,cW⟩
  .rw[aN z];exact⟨w,e⟩
 refine⟨λa w e n=>?_,λa z=>ex a (k.bd a z),λa z=>ex a (k.eN a z),k.len,λi d e=>?_,λi d e=>?_,k.inj,k.pinned⟩;.rw[aN λz:a=p=>by have e':c.H₀ a=some w:=e;grind];exact k.keep a w e n
 .obtain⟨v,e1,r⟩:=k.slot i d e;exact⟨v,e1,r.keep vb⟩
 .obtain⟨a,e1,oa,h1,h2⟩:=k.own i d e;exact⟨a,e1,oa.keep vb λw e=>%[aN λz:a=p=>h2 (.inr z)|e],h1,h2⟩
theorem vJ(h:post c r k)(m:∀a Z,k a Z->k' a Z):post (c.plus p) r k':=by cases r with|ok a Z=>exact m a Z h|exc x Z=>exact h|stuck=>exact h
end
theorem VZ{k v:Expr}{fk fv:DE}(hk:∀c',SE X c' k fk)(hv:∀c',SE X c' v fv):SE X c (.Dict [some k] [v] pos) (oz fk fv):=by have PK:PE X k λJ H Q=>∃c',tD c' fk J H Q:=λpins s J H Q I⟨c',h⟩=>hk c' pins s J H Q I h;have PV:PE X v λJ H Q=>∃c',tD c' fv J H Q:=λpins s J H Q I⟨c',h⟩=>hv c' pins s J H Q I h;refine PE.weak (O0 (OY PK PV OX) rfl rfl V' V') λJ H Q⟨Z,kk,q⟩=>?_;intro p hp;show∃c',tD c' fk J (upd H p (.dK [])) λx H1=>∃c',tD c' fv J H1 λy H2=>H2 p=some (.dK [])/\∃kvs:List (Key×V),[(x,y)]=kvs.map (λkv=>(kV kv.1,kv.2))/\kvs.length<=15/\Q (.ref p) (upd H2 p (.dK (nY [] kvs)));unfold oz at q;rw[ba]at q;refine⟨c.plus p,Z,kk.plus hp _,vJ q λr T' q1 x H1 a1 rx=>?_⟩;rw[ba]at q1;refine⟨c.plus p,T',a1.ok,vJ q1 λs S' q2 y H2 a2 ry=>?_⟩;have A:=a1.trans a2;have h0:=kk.mJ hp;have nb:¬c.B p:=λz=>kk.iJ hp (.inl z);have ze:H2 p=some (.dK []):=A.keep p _ cW λz=>kk.iJ hp (.inr z);cases r with|own d=>exact q2.elim|pure dk=>cases s with|own d=>exact q2.elim|pure d=>cases hkd:dz dk with|none=>simp only[hkd]at q2;exact q2.elim|some kd=>
    simp only[hkd]at q2;have ex:x=kV (cO kd):=rS hkd (.inl rx);refine⟨ze,[(cO kd,y)],by rw[ex];rfl,V',?_⟩;have em:nY [] [(cO kd,y)]=[(cO kd,y)]:=rfl;rw[em];have r9:=A.ok.Fs h0 (.dK [(cO kd,y)]);have ne:∀{a w},H a=some w->a≠p:=λe z=>by grind
    refine q2 (.ref p) _ ⟨r9.less,λa w e n=>?_,λa z=>?_,λa w e=>?_⟩ ⟨p,rfl,⟨[(cO kd,y)],cW,rfl,λi u t e1 e2=>?_⟩,nb,h0,r9,hp⟩;.rw[aN (ne e)];exact A.keep a w %[aN (ne e)|e] n
    .by_cases zp:a=p;.rw[zp];exact .inr hp
     .rcases A.own a z with z|z;.exact .inl z
      .rw[aN zp]at z;exact .inr z
    .obtain⟨w',e'⟩:=A.there a w %[aN (ne e)|e];exact⟨w',%[aN (ne e)|e']⟩
    .match i with|0=>cases e1;cases e2;exact Rep.keep (show Rep H2 (Av (c.plus p) J S') y d from ry) λb w e n=>%[aN λz:b=p=>n (.inl (.inr z))|e]|i+1=>cases e1
def Ft(x:Str):It:=⟨λi j=>i<x.cps.size,λi H y H'=>∃p c,H p=none/\x.cps[i]?=some c/\H'=upd H p (.tup [.int i,.str ⟨#[c]⟩])/\y=.ref p,λi j=>i=x.cps.size⟩
theorem V0{ctx}(x:Str)(t:Tok)(e it:Addr)(T:String)(hT:T="str_ascii_iterator"\/T="str_iterator")(lF:e≠it):Turn P w K (.Tuple elts ctx pos) (Ft x) [e,it] e λi h=>(∃old,IsEnum h e it i old)/\h.IsStrIter it T x t i:=by
 have DD:∀A:WA,A.handled=none->Draws P w A it [it] x.cps.size (λi v=>∃c u,x.cps[i]?=some c/\v=.str ⟨#[c]⟩ u) λi h=>h.IsStrIter it T x t i:=λA hh=>by
  rcases hT with rfl|rfl;.exact Draws.strAscii hh it x t
  .exact Draws.strWide hh it x t
 refine⟨V',λi h st b hb=>?_,λi h h' st k=>?_,?_,?_,λA i s Q E st h=>?_⟩
 .obtain⟨⟨old,he⟩,hi⟩:=st;have hb:b=e\/b=it:= ~~~hb;rcases hb with z|z;.subst z;exact⟨_,he,λv z=>by have z':Data.fields _=Data.cell v:=z;cases z'⟩
  .subst z;obtain⟨o,e,c,d⟩:=hi;exact⟨o,e,λv z=>by rw[d]at z;cases z⟩
 .obtain⟨⟨old,he⟩,o,e2,r⟩:=st;exact⟨⟨old,k e V' _ he⟩,o,k it V' o e2,r⟩
 .intro X hP hw hK hc i pins s J H E I hf st hg;subst hP hw hK;have rV:i<x.cps.size:=hg;obtain⟨⟨old,he⟩,hi⟩:=st;have D:=DD X.A.in1 (I.ok.hd hc);have a0:∀b∈[e,it],b<s.heap.objs.size:=λb hb=>by
   have hb:b=e\/b=it:= ~~~hb;rcases hb with z|z;.subst z;exact Wm he
   .subst z;obtain⟨o,q,_⟩:=hi;exact Wm q
  refine wpAny_pyNext_enum_itemD D he hi rV lF #v[lF] λx' h' tk hP ho gY V1 hsz hk=>?_;obtain⟨c,u,hx,rfl⟩:=hP;refine⟨_,rfl,wpAny_letOwnedTupleGo_enum ho λh2 rW sb=>?_⟩;have k2:∀b o,b≠e->b≠it->s.heap.get? b=some o->h2.get? b=some o:=λb o q1 q2 q=>(sb.2 b q1).trans (hk b o q1 q2 q);have rX:h2.get? s.heap.objs.size=some {cls:=.type "tuple",data:=.seq #[.int i tk,.str ⟨#[c]⟩ u]}:=(sb.2 _ (Qm (a0 e V'))).trans V1;have I2:Inv X pins J (upd H s.heap.objs.size (.tup [.int i,.str ⟨#[c]⟩])) {s with heap:=h2,toks:=tk+1}:=Inv.yZ (t':=tk+1) I hf a0 ⟨u,rfl⟩ rX k2;refine⟨.ref s.heap.objs.size,_,I2,rfl,⟨s.heap.objs.size,c,I.aD.fresh (Wf _),hx,rfl,rfl⟩,⟨⟨_,~~~rW⟩,?_⟩,λb hb=>?_⟩;.obtain⟨o,e2,r⟩:=gY;exact⟨o,(sb.2 it (Ne.symm lF)).trans e2,r⟩
  .rw[aN (Wr (a0 b hb))];exact(hf b hb).1
 .intro X hP hw hK hc i pins s J H E I hf st hg;subst hP hw hK;have mH:i=x.cps.size:=hg;subst mH;obtain⟨⟨old,he⟩,hi⟩:=st;have D:=DD X.A.in1 (I.ok.hd hc);obtain⟨f0,f1,f2,f3,f4,f5⟩:=hf it V';exact wpAny_pyNext_enum_endD D he hi λh' eb=>⟨rfl,I.turned (t':=s.toks) (λb o hb q=>eb b o hb q) f0 f1 f3 f4 f5⟩
 .obtain⟨⟨old,he⟩,_⟩:=st;exact Jv he h
def V2(ta:TA):TI:=λJ H R=>ta J H λvs H1=>∃z,vs=[.str z]/\R (Ft z) H1
theorem V3{a:Expr}{ta:TA}{elts:List Expr}{ctx}{tp:Pos}(hg:Gl X "enumerate")(hm:X.mg "enumerate"=none)(ha:PA X [a] ta)(hs:Wl [a] X.env=[(false,eval a X.env)]:=by rfl):PI X (.Tuple elts ctx tp) (.Call (.Name "enumerate" pp) [a] [] pos) (V2 ta):=by intro pins s J H R I h;refine Call_ (nS I hg hm boot_enumerate (QQ (aM (ha pos pins s J H _ I h) λus s1 hh=>?_) hs rfl));obtain⟨vs,H1,I1,r1,q1⟩:=hh;obtain⟨z,ev,q⟩:=q1;subst ev;cases r1 with|cons r rr=>
  cases rr;obtain⟨t,rfl⟩:=r;have hT:Us z="str_ascii_iterator"\/Us z="str_iterator":=by
   unfold Us;split;.exact .inl rfl
   .exact .inr rfl
  refine call_enumerate_str λh' he hi hsz kp=>Jv he ?_;refine⟨s1.heap.objs.size+1,[s1.heap.objs.size+1,s1.heap.objs.size],_,_,H1,rfl,I1.kept (t':=s1.toks) kp,V0 z t _ _ _ hT (Nat.succ_ne_self _),⟨⟨_,he⟩,hi⟩,λb hb=>?_,q⟩;have hb:b=s1.heap.objs.size+1\/b=s1.heap.objs.size:= ~~~hb;have hle:s1.heap.objs.size<=b:=by rcases hb with z|z<;>subst z<;>first|exact Wf _|exact Jz _
  exact I1.iH hle (I1.aD.fresh hle)
def r_(f:DE):DI:=λZ=>(f Z).bind λr T'=>match r.d with|.str x=>.ok (kF (x.map λn=>.str [n])) T'|_=>.stuck
universe H in theorem V4{elts:List Expr}{ctx}{tp:Pos}(hg:Gl X "enumerate")(hm:X.mg "enumerate"=none)(he:SE X c e fe)(hs:Wl [e] X.env=[(false,eval e X.env)]:=by rfl):SI X c (.Tuple elts ctx tp) (.Call (.Name "enumerate" pp) [e] [] pos) (r_ fe):=PI.weak (V3 hg hm (fu he gH hs) hs) λJ H R⟨Z,k,q⟩=>by
 unfold r_ at q;rw[ba]at q;refine⟨Z,k,aO q λr T' q1 v H1 a1 r1=>?_⟩;have rr:=r1.rep;generalize r.d=d at q1 rr;cases d<;>first|exact q1.elim|skip
 rename_i x;cases rr;refine⟨toS x,rfl,q1 _ H1 a1 ?_⟩;have hsz:(toS x).cps.size=x.length:=#v[toS];intro H2 kp;refine⟨by show(kF (x.map λn=>D.str [n])).length=(toS x).cps.size;rw[hsz];simp[kF],λi d e=>?_⟩;obtain⟨d',e',rfl⟩:=y6 e;rw[Wo,WG]at e';obtain⟨n,hn,rfl⟩:=e';have hi:i<x.length:=(W9.mp hn).1;refine⟨by show i<(toS x).cps.size;rw[hsz];exact hi,λy H3⟨p,cc,hp,hx,e3,ey⟩=>.inr ⟨p,_,_,hp,e3,ey,rfl,?_⟩⟩;have V5:cc=n:=by have:(toS x).cps[i]?=some n:=#v[toS,hn];rw[hx]at this;cases this;rfl
 subst V5;exact aI.pair (.str [cc])
section
variable{q:Str}{st:Stmt}{f:Addr}
abbrev aV(K:Wa)(x:Str)(st:Stmt):Prop:=∃(f:Addr)(oc:Value)(od:Option Addr)(kV dc pm:Value)(an:Option Addr)(cd ct:Value)(sl:Array (Option Value)),PySem.W.nsIn K WE x=some (some (.ref f))/\K.lookup f=some ⟨oc,od,.func (J8 x x (mF st) (je st) (e9 st) .none kV dc pm an cd ct),sl⟩/\PySem.W.codeIn K cd x=true/\Ui K (.ref f)=true
theorem V6(X:K.In h)(G:h.Ns WE mg)(d:aV K x st):∃f fd,gX K x x st f fd/\mg x=some (.ref f):=by obtain⟨f,oc,od,kV,dc,pm,an,cd,ct,sl,a,l,c,k⟩:=d;exact⟨f,_,CW l c k,PySem.W.mg_of X G a⟩
abbrev Bd(x q:Str)(st:Stmt)(ps:List Str)(us:List Value):Prop:=∀(kV doc pm:Value)(an:Option Addr)(b9 ct:Value),bindArgs (J8 x q (mF st) (je st) (e9 st) .none kV doc pm an b9 ct) ⟨us,[]⟩=pure (ps.zip us)
variable{p1 p2 p3 p4 p5 p6:Str}
theorem V7(F:gX K x q st f fd)(h:∀a,Bd x q st [p1] [a]):Binds K fd [p1] []:=F.binds λj j j j j j us hl=>by rcases us with _|⟨a,_|_⟩<;>cases hl;exact h a _ _ _ _ _ _
theorem V8(F:gX K x q st f fd)(h:∀a b,Bd x q st [p1,p2] [a,b]):Binds K fd [p1,p2] []:=F.binds λj j j j j j us hl=>by rcases us with _|⟨a,_|⟨b,_|_⟩⟩<;>cases hl;exact h a b _ _ _ _ _ _
theorem V9(F:gX K x q st f fd)(h:∀a b c,Bd x q st [p1,p2,p3] [a,b,c]):Binds K fd [p1,p2,p3] []:=F.binds λj j j j j j us hl=>by rcases us with _|⟨a,_|⟨b,_|⟨c,_|_⟩⟩⟩<;>cases hl;exact h a b c _ _ _ _ _ _
theorem V_(F:gX K x q st f fd)(h:∀a b c d,Bd x q st [p1,p2,p3,p4] [a,b,c,d]):Binds K fd [p1,p2,p3,p4] []:=F.binds λj j j j j j us hl=>by rcases us with _|⟨a,_|⟨b,_|⟨c,_|⟨d,_|_⟩⟩⟩⟩<;>cases hl;exact h a b c d _ _ _ _ _ _
theorem W_(F:gX K x q st f fd)(h:∀a b c d e,Bd x q st [p1,p2,p3,p4,p5] [a,b,c,d,e]):Binds K fd [p1,p2,p3,p4,p5] []:=F.binds λj j j j j j us hl=>by rcases us with _|⟨a,_|⟨b,_|⟨c,_|⟨d,_|⟨e,_|_⟩⟩⟩⟩⟩<;>cases hl;exact h a b c d e _ _ _ _ _ _
end
section
open PySem.SeqAt
def zf(z:Str):Value->Bool|.str x _=>x==z|_=>false
theorem Xa(h:Vals xs us):∀(j:Nat)(u:Value),us[j]?=some u->∃v,xs[j]?=some v/\RelV v u:=by induction h with|nil=>intro j u e;simp at e|cons r rs ih=>intro j u e;cases j with|zero=>simp at e;subst e;exact⟨_,rfl,r⟩|succ j=>simpa using ih j u (~~~e)
def Fu(K:Wa):V->List V->Hp->VK->Prop:=λx xs H Q=>∃(a:Addr)(ts:List Tx)(z:Tx),x=.ref a/\xs=[.str (toS z)]/\cu K H a (ts.map λt=>V.str (toS t))/\z∈ts/\ts.length<=1000/\Q (.int (ts.idxOf z:Nat)) H
theorem Xb:uy X "list.index" (Fu X.K):=by
 intro pins s J H x xs v us Q I rx rs h;obtain⟨a,ts,z,rfl,rfl,hq,hm,hl,q⟩:=h;obtain⟨u,rfl,ru⟩:=ie rs;obtain⟨tk,rfl⟩:=ru;cases rx;obtain⟨ak,r',p,_⟩:=I.list hq;obtain⟨⟨cls,dd,data,sl⟩,ho,hc,n,hd⟩:=p.isList;simp only at hc hd;subst hc;subst hd;have at':∀j(hj:j<ak.length),∃t tk,ts[j]?=some t/\ak[j]=.str (toS t) tk:=λj hj=>by obtain⟨v,e1,r1⟩:=Xa r' j _ (W2 hj);rw[Wo]at e1;obtain⟨t,e2,e3⟩:=WG.mp e1;subst e3;obtain⟨tk,e4⟩:=r1;exact⟨t,tk,e2,e4⟩
 have hlen:ak.length=ts.length:=by have:=r'.length;simpa using this.symm
 have hj:ts.idxOf z<ts.length:=List.idxOf_lt_length_iff.mpr hm;have m3:ts.idxOf z<ak.length:=by lia
 refine call_meets PySem.F.slot_list_index ⟨_,ho,rfl⟩ PySem.F.entry_list_index (PySem.F.args_list_index_2 _ _) (list_indexAt a _ n dd sl (.str (toS z) tk) (zf (toS z)) (ts.idxOf z) (~~~m3) Z' ?_ ?_) ⟨ho,λy hy=>?_,⟨.int (ts.idxOf z:Nat),H,I.tok _,⟨_,rfl⟩,q⟩⟩;.obtain⟨t,kC,e1,e2⟩:=at' _ m3;have e3:ts[ts.idxOf z]=z:=List.getElem_idxOf hj;rw[W2 hj,e3]at e1;cases e1;simp only[List.getElem_toArray,e2,zf];exact beq_self_eq_true _
 .intro m oA a0;have Fv:m<ak.length:= ~~~oA;obtain⟨t,kC,e1,e2⟩:=at' m Fv;have cE:t≠z:=λe=>by
   subst e;have Xd:m<ts.length:=by lia
   have z2:=List.not_of_lt_findIdx (p:=(.==t)) (xs:=ts) (i:=m) a0;rw[W2 Xd]at e1;cases e1;simp at z2
  simp only[List.getElem_toArray,e2,zf];rw[oX];exact beq_false_of_ne cE
 .have zg:y∈ak:= ~~~hy;obtain⟨j,hjj,rfl⟩:=QG zg;obtain⟨t,kC,e1,e2⟩:=at' j hjj;rw[e2];exact EqAt.str_str _ _ _ _
end
noncomputable def Xe:D->Bool|.lst _=>true|_=>false
noncomputable def m4(x y:D):Option S:=match x,y with
 |.lst ds,.str z=>match fU ds with|some ts=>if z∈ts/\ts.length<=1000 then 0#(.int (ts.idxOf z:Nat)) else none|none=>none
 |_,_=>none
def se(fa fb:DE):DE:=λZ=>(fa Z).bind λr T'=>if Xe r.d then(fb T').bind λy S'=>p2 m4 r.d y.d S' else .stuck
section
variable{o:Expr}{fb:DE}
universe H in theorem Xf:cx (λx y H Q=>Fu K x [y] H Q) m4:=by intro c J Z H x y d e s Q k rx ry hp q;cases d with
 |lst ds=>cases e with
  |str z=>
   simp only[m4]at hp;split at hp
   .rename_i ts ht;split at hp;.rename_i hz;cases hp;obtain⟨a,vs,ea,ha,r⟩:=rx.lst;have ev:=pj ht r;subst ev;exact⟨a,ts,z,ea,by rw[ry.str],.inl ha,hz.1,hz.2,q _ H (.refl k) (.int _)⟩
    .cases hp
   .cases hp|_=>simp[m4]at hp
 |_=>simp[m4]at hp
universe H in theorem Xg(he:SE X c o fa)(hx:SE X c e fb)(lj:QA o "index" X.env (eval o X.env)=eval o X.env:=by rfl)(ll:((QH bh (Wl [e] X.env)).all (λx=>!x.1)&&(Ua bh (Jy [] X.env)).all (λx=>x.1.isSome)&&decide ([e].length+([]:List Keyword).length+(if([]:List Keyword).isEmpty then 0 else 1)<30))=true:=by rfl)(gI:(apos.endLine==bh.line)=true:=by rfl)(hs:Wl [e] X.env=(false,eval e X.env)::Wl [] X.env:=by rfl):SE X c (.Call (.Attribute o "index" apos) [e] [] bh) (se fa fb):=by
 refine PE.weak (uB PySem.F.plainAttrs_list PySem.F.slot_list_index PySem.F.type_list_index Xb he (fu hx gH hs) lj ll gI hs rfl) λJ H Q h=>?_;obtain⟨Z,k,q⟩:=h;unfold se at q;rw[ba]at q;refine⟨Z,k,aO q λr T' q1 v H1 a1 r1=>?_⟩;split at q1;case isFalse=>exact q1.elim
 rename_i hL;have ty:xN X.K "list" v H1:=by
  have r2:=r1.rep;cases hd:r.d<;>rw[hd]at hL<;>try cases hL
  rw[hd]at r2;obtain⟨a,vs,ea,ha,_⟩:=cC.lst (.inl r2:cC c J T' H1 v _);subst ea;exact .inl ⟨rfl,_,.inl ha⟩
 rw[ba]at q1;refine⟨ty,T',a1.ok,aO q1 λy S' q2 u H2 a2 r2=>?_⟩;exact yl Xf a2.ok (.inl (Rep.dQ r1.rep a2)) (.inl r2.rep) (aO q2 λs SL q3 v' H3 a3 r3=>q3 v' H3 (a1.trans (a2.trans a3)) (bu.back r3 (a1.trans a2)))
end
namespace SU
def bt(w:Ww):Bool:=w.params.followText "set-order"
def ju(prog:Wt)(w:Ww)(x:Str×Tok):Int×Value:=((strKind prog w).hash x.1,.str x.1 x.2)
structure c7(prog:Wt)(w:Ww)(h:Heap)(a:Addr)(ks:List Str)(o:Obj)(es:Array (Int×Value))(ep:Nat)(t:SetTable)(xs:List (Str×Tok)):Prop where
 g:h.get? a=some o
 ex:o.ExactSet
 d:o.data=.set es ep t
 e:es.toList=xs.map (ju prog w)p:(xs.map (·.1)).Perm ks
 nd:ks.Nodup
 f:t.fits es.size=true
 b:es.size<Ug
 l:bt w=false->t.led=true
 q:t.plain=true->ks=[]
def fY(prog:Wt)(w:Ww)(h:Heap)(a:Addr)(ks:List Str):Prop:=∃o es ep t xs,c7 prog w h a ks o es ep t xs
def dd(J:List Str)(v:Str):List Str:=if v∈J then J else J++[v]
def fm(val:Nat->Str)(i:Nat):List Str:=((W7 i).map val).foldl dd []
theorem Fw(val:Nat->Str)(i:Nat):fm val (i+1)=dd (fm val i) (val i):=by unfold fm;simp[U5,List.foldl_append]
universe H in theorem Xh{J}(v:Str)(h:J.Nodup):(dd J v).Nodup:=by
 unfold dd;split;.exact h
 .rename_i hv;exact JN.mpr ⟨h,V',λx hx y hy e=>hv (by simp at hy;rw[<-hy,<-e];exact hx)⟩
theorem Xi(J:List Str)(v:Str):(dd J v).length<=J.length+1:=by
 unfold dd;split;.lia
 .simp
theorem Fx(val:Nat->Str):∀i,(fm val i).length<=i|0=>Wf _|i+1=>by rw[Fw];have:=Fx val i;have:=Xi (fm val i) (val i);lia
universe H in theorem Fy(h:(strKind prog w).is k v=true):∃t,v=.str k t:=by cases v<;>simp[PySem.strKind,Value.isStrOf]at h;rename_i y t;exact⟨t,by rw[h]⟩
theorem Fz(xs:List (Str×Tok)):ElemsOf (strKind prog w) (xs.map (ju prog w)):=λe he=>by obtain⟨x,_,rfl⟩:=Wj.mp he;exact⟨⟨x.1,strKind_is _ _ _ _,rfl⟩,rfl⟩
theorem FA:∀(l:List (Int×Value)),ElemsOf (strKind prog w) l->∃xs:List (Str×Tok),l=xs.map (ju prog w)|[],_=>⟨[],rfl⟩|e::l,h=>by obtain⟨xs,e1⟩:=FA l h.tail;obtain⟨⟨k,q,r⟩,_⟩:=h.head;obtain⟨t,et⟩:=Fy q;obtain⟨e0,ev⟩:=e;simp only at r et;subst r;subst et;exact⟨(k,t)::xs,by rw[We,<-e1];rfl⟩
theorem zh{l:List (Int×Value)}{xs:List (Str×Tok)}(p:l.Perm (xs.map (ju prog w))):∃zs:List (Str×Tok),l=zs.map (ju prog w)/\(zs.map (·.1)).Perm (xs.map (·.1)):=by obtain⟨zs,ez⟩:=FA l λe he=>Fz xs e (p.mem_iff.mp he);refine⟨zs,ez,?_⟩;have q1:=p.map λe:Int×Value=>match e.2 with|.str k _=>k|_=>default;rw[ez,Wn,Wn]at q1;exact q1
theorem zi(xs:List (Str×Tok))(k:Str):(∃e∈xs.map (ju prog w),(strKind prog w).is k e.2=true)↔k∈xs.map (·.1):=by
 constructor
 .rintro⟨e,he,q⟩;obtain⟨x,hx,rfl⟩:=Wj.mp he;obtain⟨t,et⟩:=Fy q;have:x.1=k:=by injection et
  exact Wj.mpr ⟨x,hx,this⟩
 .intro h;obtain⟨x,hx,rfl⟩:=Wj.mp h;exact⟨ju prog w x,Qh hx,strKind_is _ _ _ _⟩
section
variable{o:Obj}{es:Array (Int×Value)}{t:SetTable}{xs:List (Str×Tok)}
theorem c7.sz(x:c7 prog w h a ks o es ep t xs):es.size=ks.length:=by rw[<-x.p.length_eq,WB,<-Q9,x.e,WB]
theorem c7.el(x:c7 prog w h a ks o es ep t xs):ElemsOf (strKind prog w) es.toList:=by rw[x.e];exact Fz _
theorem c7.so(x:c7 prog w h a ks o es ep t xs):h.SetOf (strKind prog w) a (λk=>decide (k∈ks)) ks.length:=⟨o,es,ep,t,x.g,x.ex,x.d,x.el,λk=>by rw[x.e,zi,x.p.mem_iff];simp,x.b,x.f,x.sz⟩
theorem fY.so(x:fY prog w h a ks):h.SetOf (strKind prog w) a (λk=>decide (k∈ks)) ks.length:=by obtain⟨o,es,ep,t,xs,x⟩:=x;exact x.so
theorem fY.at'(x:fY prog w h a ks)(k:∀o,h.get? a=some o->h'.get? a=some o):fY prog w h' a ks:=by obtain⟨o,es,ep,t,xs,x⟩:=x;exact⟨o,es,ep,t,xs,{x with g:=k o x.g}⟩
end
theorem FC{t0 t' Q}(ho:s.heap.get? a=some o)(hex:o.ExactSet)(hd:o.data=.set es0 ep t0)(he:gU.toList=xs.map (ju prog w))(hp:(xs.map (·.1)).Perm ks)(nd:ks.Nodup)(hf:t'.fits gU.size=true)(hb:gU.size<Ug)(hl:bt w=false->t'.led=true)(hq:t'.plain=true->ks=[])(h:∀h',Ql a s.heap h'->c7 prog w h' a ks {o with data:=.set gU (ep+1) t'} gU (ep+1) t' xs->Q () 9#h'):Wb 4#0 A (storeSet a gU t') Q E s:=by refine wpAny_storeSet_of ho hd ?_ (fits_of_scanBound hb);have g2:=WN (Obj.putSet gU t') ho (by rw[putSet_of _ _ hd];rfl);rw[putSet_of _ _ hd]at g2;exact h _ (.update _ _ _) ⟨g2,hex,rfl,he,hp,nd,hf,hb,hl,hq⟩
theorem Xj(t:SetTable)(es:Array (Int×Value))(h:Int)(x:Value):(layNew t es h x).2.1.led=t.led:=by
 unfold layNew;split;.unfold SetTable.orStandIn;simp only;split<;>rfl
 .rfl
universe H in theorem Xk(t:SetTable)(es:Array (Int×Value))(n:Nat):(relayAll t es n).2.1.led=t.led/\((relayAll t es n).2.1.plain=true->t.plain=true):=by
 unfold relayAll;split
 .rename_i t' order e;have hl:t'.led=t.led/\t'.plain=t.plain:=by unfold SetTable.relaid SetTable.laid at e;cases e1:SetTable.layClean (SetTable.sizeAbove n-1) (es.map (·.1))with|none=>rw[e1]at e;cases e|some ow=>rw[e1]at e;simp only[Option.bind_eq_bind,Qg,Option.pure_def,Wg,Prod.mk.injEq]at e;rw[<-e.1];exact⟨rfl,rfl⟩
  simp only;split;.exact⟨hl.1,λz=>hl.2▸z⟩
  .exact⟨rfl,λz=>by cases z⟩
 .exact⟨rfl,λz=>by cases z⟩
universe H in theorem Xl{Q}(hS:fY prog w s.heap a ks)(hb:ks.length+1<Ug)(h:∀h',Ql a s.heap h'->fY prog w h' a (dd ks k)->Q (!decide (k∈ks)) 9#h'):Wb 4#0 A (setAddHashed a (.str k tk) ((strKind prog w).hash k)) Q E s:=by
 obtain⟨o,es,ep,t,xs,x⟩:=hS;have kk:(strKind prog w).is k (.str k tk)=true:=strKind_is _ _ _ _;have hz:=x.sz;unfold setAddHashed setAddHashedIn;refine WZ (W0 (Jw x.g x.d x.f ?_));dsimp only;rw[byScan_of (knd:=strKind prog w) (x:=.str k tk) rfl x.b x.el,if_pos rfl];unfold setAddByScan;refine W0 (W0 (QW (W0 (wpAny_setScan_of kk x.g x.d x.f x.el ?_))))
 cases hr:List.findIdx? (λe=>(strKind prog w).is k e.2) es.toList with|some j=>
  dsimp only;obtain⟨hj,hp,_⟩:=List.findIdx?_eq_some_iff_getElem.mp hr;have hk:k∈ks:=x.p.mem_iff.mp ((zi (prog:=prog) (w:=w) xs k).mp ⟨_,by rw[<-x.e];exact WV hj,hp⟩);have e:dd ks k=ks:=by unfold dd;rw[if_pos hk]
  have:=h s.heap (.refl _ _) (by rw[e];exact⟨o,es,ep,t,xs,x⟩);rw[decide_eq_true hk]at this;exact W3 (W3 this)|none=>
  dsimp only;have hk:k∉ks:=λhk=>by obtain⟨e,he,q⟩:=(zi (prog:=prog) (w:=w) xs k).mpr (x.p.mem_iff.mpr hk);grind[c7.e]
  have e:dd ks k=ks++[k]:=by unfold dd;rw[if_neg hk]
  have nd:=Xh k x.nd;rw[decide_eq_false hk]at h;rw[e]at h nd;have sg:=layNew_perm t es ((strKind prog w).hash k) (.str k tk);have vK:=layNew_fits t es ((strKind prog w).hash k) (.str k tk);have vL:=Xj t es ((strKind prog w).hash k) (.str k tk);generalize layNew t es ((strKind prog w).hash k) (.str k tk)=L at sg vK vL⊢;obtain⟨es1,t1,wd,gave⟩:=L;dsimp only at sg vK vL⊢;rw[Um,x.e]at sg;have xR:es1.toList.Perm ((xs++[(k,tk)]).map (ju prog w)):=%[WS|sg];obtain⟨zs,ez,pz⟩:=zh xR;have FD:(zs.map (·.1)).Perm (ks++[k]):=pz.trans %[WS|x.p.append_right _];have FE:es1.size<Ug:=by rw[<-Q9,sg.length_eq,Qn,WB];have:=x.p.length_eq;simp at this⊢;lia
  have gw:∀(b:Bool)(s₁:W6)(Q':Unit->W6->Prop),Q' () s₁->Wb 4#0 A (match b with|true=>rule "set.scan.the-table-gave-way"|false=>pure ()) Q' E s₁:=λb s₁ Q' hq=>by cases b<;>first|exact W3 hq|exact QW hq
  refine W0 (gw _ _ _ ?_);have tail:∀t2:SetTable,t2.fits es1.size=true->t2.led=t1.led->t2.plain=false->Wb 4#0 A (do storeSet a es1 t2 if(!wd&&t2.tooFull)=true then do(match(relayAll t2 es1 (SetTable.grown es1.size)).2.2 with|true=>rule "set.scan.the-table-gave-way"|false=>pure ())storeSet a (relayAll t2 es1 (SetTable.grown es1.size)).1 (relayAll t2 es1 (SetTable.grown es1.size)).2.1pure (some true)else pure (some true)) (λr s'=>Wb 4#0 A (match r with|some added=>pure added|none=>setAddHashedIn a (.str k tk) ((strKind prog w).hash k) 99999) Q E s') E s:=λt2 f2 l2 p2=>by
   refine W0 (FC x.g x.ex x.d ez FD nd f2 FE (λz=>%[l2,vL|x.l z]) λz=>by grind λh1 FG x1=>?_);split
   .have rp:=relayAll_perm t2 es1 (SetTable.grown es1.size);have rf:=relayAll_fits t2 es1 (SetTable.grown es1.size);obtain⟨rl,rq⟩:=Xk t2 es1 (SetTable.grown es1.size);generalize relayAll t2 es1 (SetTable.grown es1.size)=Rl at rp rf rl rq⊢;obtain⟨es2,t3,gave2⟩:=Rl;dsimp only at rp rf rl rq⊢;rw[ez]at rp;obtain⟨ys,ey,py⟩:=zh rp;have Xm:es2.size<Ug:=by rw[<-Q9,rp.length_eq,<-ez,Q9];exact FE
    refine W0 (gw _ _ _ ?_);refine W0 (FC (s:=9#h1) x1.g x1.ex x1.d ey (py.trans FD) nd rf Xm (λz=>%[rl,l2,vL|x.l z]) λz=>by grind λh2 Xn x2=>?_);exact W3 (W3 (h h2 (FG.trans Xn) ⟨_,_,_,_,_,x2⟩))
   .exact W3 (W3 (h h1 FG ⟨_,_,_,_,_,x1⟩))
  split;.refine W0 ?_;rw[hashByValue_scannable 8 (x:=.str k tk) rfl];refine W3 ?_;exact tail _ (SetTable.fits_plain_off vK) rfl rfl
  .rename_i dq;refine W0 (W3 ?_);simp only[if_true];exact tail _ vK rfl (~~~dq)
section
variable{R:Result->W6->Prop}{I:Addr}{wr:List Addr}{G:Array GenState->Array GenState->Prop}{P:Nat->Value->Prop}{St:Nat->W6->Prop}
theorem Xo(W:WalksS prog w A.in1 I fp wr G n P St)(S:Addr)(FH:S∉fp)(val:Nat->Str)(Xp:∀i v,P i v->∃t,v=.str (val i) t)(hb:n+1<Ug):∀(k i:Nat)(s:W6),n-i=k->i<=n->St i s->fY prog w s.heap S (fm val i)->(∀s',Moved (S::wr) G s s'->fY prog w s'.heap S (fm val n)->R (.ok (.ret .none)) s')->QR 4#0 A (.builtin "set.update.loop" ⟨[.ref S,.ref I],[]⟩) R s:=by
 have nw:S∉wr:=λz=>FH (W.sub _ z);have up:∀b∈wr,b∈S::wr:=λb z=>W8 _ z;intro k;induction k with|zero=>
 intro i s e1 e2 st x fin;obtain rfl:i=n:=by lia
 refine QI PyProof.Rows.F.entry_set_update_loop ?_;rw[Around.under_plainId PyProof.Rows.F.plain_set_update_loop _];show Wb _ A.in1 (Qk (.ref I)>>=_) _ _ s;refine W0 (W.done s _ _ st λs' mv=>?_);show Wb _ A.in1 (ret Value.none) _ _ s';exact W3 (fin s' (mv.mono up) (x.at' λo e=>mv.heap S _ nw e))|succ k ih=>
 intro i s e1 e2 st x fin;have lt:i<n:=by lia
 refine QI PyProof.Rows.F.entry_set_update_loop ?_;rw[Around.under_plainId PyProof.Rows.F.plain_set_update_loop _];show Wb _ A.in1 (Qk (.ref I)>>=_) _ _ s;refine W0 (W.item i s _ _ lt st λv s' pv ft mv=>?_);obtain⟨t,rfl⟩:=Xp i v pv;have x':fY prog w s'.heap S (fm val i):=x.at' λo e=>mv.heap S _ nw e;show Wb _ A.in1 (holding [Value.str (val i) t] (setAdd S (.str (val i) t))>>=_) _ _ s';refine W0 (WZ ?_);unfold setAdd;refine WZ ?_;refine W0 ((strKind prog w).pyHash (k:=val i) (strKind_is _ _ _ _) ?_);refine Xl (s:={s' with toks:=s'.toks+1}) x' (by have:=Fx val i;lia) λh' sb y=>?_;rw[<-Fw]at y;refine W3 ⟨Jf PyProof.Rows.F.plain_set_update_loop _,ih (i+1) _ Z' lt (W.frame _ s' _ _ ft (Jz _) λb z o e=>?_) y λnW Xq z=>?_⟩;.rw[sb.2 b λq:b=S=>FH (by rw[<-q];exact z)];exact e
 .refine fin nW (Moved.trans W.gtrans ((mv.mono up).then_heap (Jz _) λb o z e=>?_) Xq) z;rw[sb.2 b λq:b=S=>z %[q|Wc]];exact e
end
abbrev m7(w:Ww):Obj:={cls:=.type "set",dict:=none,data:=.set #[] 0 (.fresh 0 0 !bt w)}
theorem Xr(h:Heap):c7 prog w (h.push (m7 w)) h.objs.size [] (m7 w) #[] 0 (.fresh 0 0 !bt w) []:=⟨Wi _ rfl,⟨rfl,rfl,rfl⟩,rfl,rfl,.refl _,List.nodup_nil,rfl,U',λz=>by rw[z];rfl,λj=>rfl⟩
theorem Xs(h:Heap):fY prog w (h.push (m7 w)) h.objs.size []:=⟨_,_,_,_,_,Xr h⟩
theorem Xt(a:Value)(h:Q₁ (.ref s.heap.objs.size) 9#(s.heap.push (m7 w))):QR 4#0 A (.call (.builtin "set.__new__") ⟨[.type "set",a],[]⟩) (wants Q₁ E) s:=by refine codeAny_of_tree ?_;show Wb _ A.in1 (do checkBuiltinCall "set.__new__" ⟨[.type "set",a],[]⟩;again (.builtin "set.__new__" ⟨[.type "set",a],[]⟩)) _ _ s;refine W0 (wpAny_of_eq (PySem.F.newCall_set_1 a) (W3 ⟨Jf PySem.F.plain_set_new _,QI PySem.F.entry_set_new ?_⟩));rw[Around.under_plainId PySem.F.plain_set_new _];unfold Builtin.«set.__new__» Builtin.Frozenset.newClass;have e:=sub_set_self;obtain⟨hp,g,d,tk,os⟩:=s;dsimp only;wp_walk;refine JD (W3 ?_);dsimp only;simp only[newObj];refine W0 (wpAny_alloc (W3 ?_));exact W3 h
theorem Xu{Q}(hi:Wb 4#0 A.in1.in1 (Builtin.«set.__init__» ⟨[.ref s.heap.objs.size,v],[]⟩) λfin s'=>match fin with|.done f=>wants (λr s₂=>r=.none/\Q (.ref s.heap.objs.size) s₂) E (.ok f) s'|.again c'=>c'.quiet=true/\QR 4#0 A.in1 c' (wants (λr s₂=>r=.none/\Q (.ref s.heap.objs.size) s₂) E) s'
 (λe s'=>wants (λr s₂=>r=.none/\Q (.ref s.heap.objs.size) s₂) E (.error e) s') 9#(s.heap.push (m7 w))):Wb 4#0 A (call (.type "set") [v]) Q E s:=by
 obtain⟨c,tl,hmro⟩:=PySem.F.called_set.mro;have g1:=PySem.F.called_set.made;have g2:=PySem.F.called_set.sub;refine wpAny_call (codeAny_of_tree ?_);show Wb _ _ (callAny (.type "set") _) _ _ _;refine W3 ⟨Code.quiet_builtin _ P3,QI PySem.F.entry_type_call ?_⟩;rw[Around.under_plain (weight_type_call_type "set" [v] []) rfl];have g3:=PySem.F.called_set.notType;have g4:=PySem.F.called_set.canCreate;have g5:=PySem.F.typeCall_set_1 v;repeat(any_goals(first|assumption|wp_step))
 refine U9 (Xt v (E:=E) (Q₁:=λobj s₁=>obj=.ref s.heap.objs.size/\s₁=9#(s.heap.push (m7 w))) ⟨rfl,rfl⟩) λr s₁ x=>?_;cases r with|error e=>exact x|ok fl=>cases fl with
 |ret obj=>
 obtain⟨rfl,rfl⟩:=x;have hT:Shared.TypeIs 9#(s.heap.push (m7 w)) (.ref s.heap.objs.size) "set":=⟨_,Wi _ rfl,rfl⟩;have g6:=PySem.F.called_set.init.lookup;have g7:=PySem.F.called_set.init.bind (.ref s.heap.objs.size);repeat(any_goals(first|assumption|wp_step))
 refine U9 (codeAny_call_builtin (R:=wants (λr s₂=>r=.none/\Q (.ref s.heap.objs.size) s₂) E) PySem.F.called_set.init.plain PySem.F.entry_set_init (check_set_init_1 hT hi)) λr₂ s₂ y=>?_;cases r₂ with|error e=>exact y|ok f2=>cases f2 with|ret r=>obtain⟨rfl,q⟩:=y;repeat(any_goals(first|assumption|wp_step))|_=>exact y.elim
 |_=>exact x.elim
theorem zj{α:Type}:∀(l:List α)(i:Nat)(h:i<l.length),l.Perm (l[i]::l.eraseIdx i)|[],i,h=>by simp at h|x::l,0,h=>.refl _|x::l,i+1,h=>by have:=zj l i (~~~h);exact(this.cons x).trans (.swap _ _ _)
universe H in theorem FI{α:Type}(next:Nat->Nat)(xs:Array α):(pickOrder next xs).toList.Perm xs.toList:=by
 have go:∀(f k:Nat)(left:List α)(out:Array α),left.length=f->(pickOrder.go next f k left out).toList.Perm (out.toList++left):=by intro f;induction f with|zero=>intro k left out h;rw[List.eq_nil_of_length_eq_zero h];unfold pickOrder.go;simp|succ f ih=>intro k left out h;unfold pickOrder.go;have hi:next k%left.length<left.length:=Nat.mod_lt _ Z';rw[W2 hi];simp only;refine(ih _ _ _ (by rw[List.length_eraseIdx_of_lt hi];lia)).trans ?_;rw[Um,List.append_assoc];exact List.Perm.append_left _ (zj _ _ hi).symm
 have:=go xs.size 0 xs.toList #[] V';simpa[pickOrder]using this
theorem Xv:entryFor table "set.__iter__"=some Builtin.«frozenset.__iter__»:=entryFor_alias (id':="frozenset.__iter__") (by kernel_rfl) rfl P3 (by kernel_rfl)
theorem slot_next:Slot "set_iterator" "__next__" "set_iterator.__next__":=.of (owner:="set_iterator") (n:="__next__") (by rw[typeLookup_type,JP];kernel_rfl) P3 P3 P3 (by first|exact .inl P3|exact .inr P3) (by rw[isSubtype_type];kernel_rfl)
theorem vM:entryFor table "set_iterator.__next__"=some Builtin.«set_iterator.__next__»:=entryFor_of_tree (by kernel_rfl)
theorem vN(a:Value):argsOk "set_iterator.__next__" ⟨[a],[]⟩:=by unfold argsOk;rw[signature?_of (id:="set_iterator.__next__") (n:="__txen__".toList) (o:="rotareti_tes".toList) (by kernel_rfl) (show Manifest.owners.lookup (String.ofList "rotareti_tes".toList.reverse)=some Manifest.sig_set_iterator by kernel_rfl)];kernel_rfl
theorem Xw:typeLookup (.type "set") "__len__"=pure (some (.builtin "set.__len__")):=by rw[typeLookup_type,JP];kernel_rfl
abbrev KB(f:Value)(i:Nat)(a:Addr)(n ep:Nat):Obj:={cls:=.type "set_iterator",data:=.fields #[f,.int i 0,.ref a,.int n 0,.int ep 0]}
theorem Xx{Q}(h0:n≠0)(h:∀i d,i<n->Q i {s with drawn:=d}):Wb 4#0 A (choose src n) Q E s:=λΓ p hΓ=>by show Sem.wp _ Γ (.choose src n .pure) _ _ p s;rw[Sem.wp_choose];refine⟨h0,?_⟩;exact h _ _ (Nat.mod_lt _ Z')
theorem FJ:∀(n:Nat)(l:List α)(s:W6)(Q:List α->W6->Prop),l.length=n->(∀l' d,l'.Perm l->Q l' {s with drawn:=d})->Wb 4#0 A (drawOrder n l) Q E s
 |0,l,s,Q,hn,h=>by rw[List.eq_nil_of_length_eq_zero hn]at h;exact W3 (h [] s.drawn (.refl _))|n+1,l,s,Q,hn,h=>by
  have e:drawOrder (n+1) l=(do let i<-choose .order l.length match l[i]? with|some x=>return x::(<-drawOrder n (l.eraseIdx i))|none=>unsupported "internal:drawOrder"):=by cases l with|nil=>simp at hn|cons=>rfl
  rw[e];refine W0 (Xx Z' λi d hi=>?_);rw[W2 hi];refine W0 (FJ n (l.eraseIdx i) _ _ (by rw[List.length_eraseIdx_of_lt hi];lia) λl' d' pl=>?_);exact W3 (h _ d' ((pl.cons _).trans (zj l i hi).symm))
section
variable{o:Obj}{es:Array (Int×Value)}{t:SetTable}{xs:List (Str×Tok)}
theorem FK{nx:Nat}{v:Value}(x:c7 prog w s.heap a ks o es ep t xs)(hi:s.heap.get? it=some (KB (.int sl 0) i a es.size ep))(hn:∀E':Value->W6->Prop,Wb 4#0 A.in1 (setNext a sl i ep) (λr s'=>r=some (v,nx)/\s'=s) E' s)(h:∀h',Ql it s.heap h'->h'.get? it=some (KB (.int nx 0) (i+1) a es.size ep)->Q (some v) 9#h'):Wb 4#0 A (Qk (.ref it)) Q E s:=by have hT:s.TypeIs (.ref it) "set_iterator":=⟨_,hi,rfl⟩;unfold Qk;refine W0 (Js (WP (name:=Str.ofString "__next__") hT slot_next (WJ slot_next hT vM ?_ (vN _))));unfold Builtin.«set_iterator.__next__»;refine W0 (m:=slotArgs "__next__" 0 _) (W3 ?_);refine W0 (JS hi rfl ?_);dsimp only;refine W0 (JE x.g x.d x.f ?_);rw[if_neg V'];simp only[Qj];refine W0 (Q2 (hn _) (λr s'⟨e1,e2⟩=>?_) λj j e=>e);subst e1;subst e2;dsimp only;refine W0 (Jj hi rfl V' ?_);have g1:=WN (Obj.mapFields (·.setIfInBounds 0 (Qv (nx:Int)))) hi (by rfl);refine W0 (Jj (s:={s' with heap:=_}) g1 rfl V' ?_);have g2:=WN (Obj.mapFields (·.setIfInBounds 1 (Qv ((i:Int)+1)))) g1 (by rfl);refine W3 ⟨_,rfl,W3 (h _ ((Qr ..).trans (Qr ..)) ?_)⟩;rw[g2];rfl
theorem FL{f:Value}{j:Nat}{v:Value}(hh:A.handled=none)(hi:s.heap.get? it=some (KB f i a n' ep))(hj:j<5)(h:∀h',Ut it s.heap h'->Q none 9#h'):Wb 4#0 A.in1 (do
 setField (.ref it) j v
 raiseNew (<-newExc (.type "StopIteration") [])) (λ(_:PySem.Fin)_=>False) (λe s'=>Wb 4#0 A (do if<-isInstance e (.type "StopIteration")then pure none else throw e) Q E s') s:=by refine W0 (Jj hi rfl (~~~hj) ?_);refine W0 ?_;simp only[newExc,newTuple];refine W0 (Q1 ?_ (by size_fits));refine W0 (m:=JQ _ _) (wpAny_of_eq (a:=Value.none) (by first|rfl|(simp only[JQ];rfl)) ?_);refine Q1 ?_ (by size_fits);simp only[raiseNew];refine W0 (wpAny_handled ?_);rw[show A.in1.handled=none from hh];refine W0 (W3 (wpAny_throw ?_));refine W0 (JV (T:="StopIteration") (b:=true) ⟨_,Wi _ rfl,rfl⟩ isSubtype_stop ?_);exact W3 (h _ (((Qr ..).extBut.push _).push _))
end
section
variable{o:Obj}{es:Array (Int×Value)}{t:SetTable}{xs:List (Str×Tok)}
theorem zk(hh:A.handled=none)(x:c7 prog w s.heap a ks o es ep t xs)(hi:s.heap.get? it=some (KB (.int sl 0) i a es.size ep))(hn:∀E':Value->W6->Prop,Wb 4#0 A.in1 (setNext a sl i ep) (λr s'=>r=none/\s'=s) E' s)(h:∀h',Ut it s.heap h'->Q none 9#h'):Wb 4#0 A (Qk (.ref it)) Q E s:=by have hT:s.TypeIs (.ref it) "set_iterator":=⟨_,hi,rfl⟩;unfold Qk;refine W0 (Js (WP (name:=Str.ofString "__next__") hT slot_next (WJ slot_next hT vM ?_ (vN _))));unfold Builtin.«set_iterator.__next__»;refine W0 (m:=slotArgs "__next__" 0 _) (W3 ?_);refine W0 (JS hi rfl ?_);dsimp only;refine W0 (JE x.g x.d x.f ?_);rw[if_neg V'];simp only[Qj];refine W0 (Q2 (hn _) (λr s'⟨e1,e2⟩=>?_) λj j e=>e);subst e1;subst e2;dsimp only;exact Q2 (FL hh hi U' h) (by grind) λj j e=>e
theorem Xy{T:Addr}{ps:List Nat}{p:Nat}{hv:Int}{v:Value}(x:c7 prog w s.heap a ks o es ep t xs)(hi:s.heap.get? it=some (KB (.ref T) i a es.size ep))(gT:s.heap.get? T=some oT)(dT:oT.data=.seq (ps.map λj:Nat=>Qv j).toArray nT)(hp:ps[i]?=some p)(Xz:es[p]?=some (hv,v))(h:∀h',Ql it s.heap h'->h'.get? it=some (KB (.ref T) (i+1) a es.size ep)->Q (some v) 9#h'):Wb 4#0 A (Qk (.ref it)) Q E s:=by have hT:s.TypeIs (.ref it) "set_iterator":=⟨_,hi,rfl⟩;unfold Qk;refine W0 (Js (WP (name:=Str.ofString "__next__") hT slot_next (WJ slot_next hT vM ?_ (vN _))));unfold Builtin.«set_iterator.__next__»;refine W0 (m:=slotArgs "__next__" 0 _) (W3 ?_);refine W0 (JS hi rfl ?_);dsimp only;refine W0 (JE x.g x.d x.f ?_);rw[if_neg V'];refine W0 (QE gT dT ?_);dsimp only;have e1:(ps.map λj:Nat=>Qv j).toArray[i]?=some (.int (p:Int) 0):=#v[hp,Qv];rw[Qj,e1];dsimp only;refine W0 ?_;unfold setNextDrawn;refine W0 (Jw x.g x.d x.f ?_);simp only[Qj,bne_self_eq_false,JK,if_false];rw[Xz];refine W3 ?_;refine W0 (Jj hi rfl V' ?_);have g2:=WN (Obj.mapFields (·.setIfInBounds 1 (Qv ((i:Int)+1)))) hi (by rfl);refine W3 ⟨_,rfl,W3 (h _ (Qr ..) ?_)⟩;rw[g2];rfl
theorem XA{T:Addr}{ps:List Nat}(hh:A.handled=none)(x:c7 prog w s.heap a ks o es ep t xs)(hi:s.heap.get? it=some (KB (.ref T) i a es.size ep))(gT:s.heap.get? T=some oT)(dT:oT.data=.seq (ps.map λj:Nat=>Qv j).toArray nT)(hp:ps[i]?=none)(h:∀h',Ut it s.heap h'->Q none 9#h'):Wb 4#0 A (Qk (.ref it)) Q E s:=by
 have hT:s.TypeIs (.ref it) "set_iterator":=⟨_,hi,rfl⟩;unfold Qk;refine W0 (Js (WP (name:=Str.ofString "__next__") hT slot_next (WJ slot_next hT vM ?_ (vN _))));unfold Builtin.«set_iterator.__next__»;refine W0 (m:=slotArgs "__next__" 0 _) (W3 ?_);refine W0 (JS hi rfl ?_);dsimp only;refine W0 (JE x.g x.d x.f ?_);rw[if_neg V'];refine W0 (QE gT dT ?_);dsimp only;have e1:(ps.map λj:Nat=>Qv j).toArray[i]?=none:= ~~~hp;rw[Qj,e1];dsimp only;refine W0 (Jj hi rfl V' ?_);have g1:(s.heap.update it (Obj.mapFields (·.setIfInBounds 0 (Qv 0)))).get? it=some (KB (Qv 0) i a es.size ep):=by rw[WN (Obj.mapFields (·.setIfInBounds 0 (Qv 0))) hi (by rfl)];rfl
 refine Q2 (FL (s:=9#(s.heap.update it (Obj.mapFields (·.setIfInBounds 0 (Qv 0))))) (j:=2) hh g1 U' λh' eb=>h h' λb ob hb e=>?_) (by grind) λk k e=>e;exact eb b ob hb ((Qb _ _ (Ne.symm hb)).trans e)
theorem FN(hb:bt w=true)(x:c7 prog w s.heap a ks o es ep t xs)(E':Value->W6->Prop):Wb 4#0 A (setNext a 0 i ep) (λr s'=>r=(pickOrder (w.params.setOrder a ep) es)[i]?.map (λe=>(e.2,0))/\s'=s) E' s:=by unfold setNext setsByText;refine W0 (Jw x.g x.d x.f ?_);dsimp only;refine W0 (W0 (JD (W3 ?_)));have eC:Params.followText w.params "set-order"=true:=hb;show Wb _ _ (if Params.followText w.params "set-order"=true then _ else _) _ _ _;rw[if_pos eC];simp only[bne_self_eq_false,JK,if_false];refine W0 ?_;unfold setWalk setsByText;refine W0 (Jw x.g x.d x.f ?_);dsimp only;refine W0 (W0 (JD (W3 ?_)));show Wb _ _ (if Params.followText w.params "set-order"=true then _ else _) _ _ _;rw[if_pos eC];refine W0 (JD ?_);exact W3 (W3 ⟨rfl,rfl⟩)
theorem zm(hb:bt w=false)(x:c7 prog w s.heap a ks o es ep t xs)(h1:es.size<=1)(sl:Nat)(E':Value->W6->Prop):Wb 4#0 A (setNext a sl i ep) (λr s'=>r=(match es[SetTable.below t.place sl]?,t.place[SetTable.below t.place sl]? with|some (_,v),some j=>some (v,j+1)|_,_=>none)/\s'=s) E' s:=by
 unfold setNext setsByText;refine W0 (Jw x.g x.d x.f ?_);dsimp only;refine W0 (W0 (JD (W3 ?_)));have eC:¬Params.followText w.params "set-order"=true:=by rw[show Params.followText w.params "set-order"=false from hb];decide
 show Wb _ _ (if Params.followText w.params "set-order"=true then _ else _) _ _ _;rw[if_neg eC];show Wb _ _ (if(!t.plain&&decide (es.size>1))=true then _ else _) _ _ _;rw[if_neg Re];refine W0 ?_;show Wb _ _ (if(!t.led&&!es.isEmpty)=true then _ else _) _ _ _;rw[if_neg (by rw[x.l hb];simp)];exact W3 (W3 ⟨rfl,rfl⟩)
theorem vO{St:Nat->Heap->Prop}{val:Nat->Value}{S:Addr}{res:Value}{R:Result->W6->Prop}(cE:S≠it)(hn:n<=1000)(fr:∀i h h',St i h->(∀b ob,b≠S->h.get? b=some ob->h'.get? b=some ob)->St i h')(item:∀(i:Nat)(s:W6)(Q:Option Value->W6->Prop)(E:Value->W6->Prop),i<n->St i s.heap->(∀h',(∀b ob,b≠it->s.heap.get? b=some ob->h'.get? b=some ob)->St (i+1) h'->Q (some (val i)) 9#h')->Wb 4#0 A.in1 (Qk (.ref it)) Q E s)(done:∀(s:W6)(Q:Option Value->W6->Prop)(E:Value->W6->Prop),St n s.heap->(∀h',(∀b ob,b≠it->s.heap.get? b=some ob->h'.get? b=some ob)->Q none 9#h')->Wb 4#0 A.in1 (Qk (.ref it)) Q E s):∀(k i:Nat)(s:W6)(acc:Array Value)(c:Nat),n-i=k->i<=n->St i s.heap->s.heap.get? S=some {cls:=.type "list",data:=.seq acc c}->acc.toList=(W7 i).map val->(∀h' fZ c',(∀b ob,b≠S->b≠it->s.heap.get? b=some ob->h'.get? b=some ob)->h'.get? S=some {cls:=.type "list",data:=.seq fZ c'}->fZ.toList=(W7 n).map val->R (.ok (.ret res)) 9#h')->QR 4#0 A (.builtin "list.extend.loop" ⟨[.ref S,.ref it,res],[]⟩) R s:=by
 intro k;induction k with|zero=>
 intro i s acc c e1 e2 st g ea fin;obtain rfl:i=n:=by lia
 refine QI PySem.F.entry_extend_loop ?_;rw[Around.under_plainId J4 _];show Wb _ A.in1 (Qk (.ref it)>>=_) _ _ _;refine W0 (done s _ _ st λh' kp=>?_);exact W3 (fin h' acc c (λb ob j hb e=>kp b ob hb e) (kp S _ cE g) ea)|succ k ih=>
 intro i s acc c e1 e2 st g ea fin;refine QI PySem.F.entry_extend_loop ?_;rw[Around.under_plainId J4 _];show Wb _ A.in1 (Qk (.ref it)>>=_) _ _ _;refine W0 (item i s _ _ Z' st λh' kp ft=>?_);have g':=kp S _ cE g;have za:acc.size=i:=by rw[<-Q9,ea];simp
 show Wb _ A.in1 (updateSeq S (·.push (val i))>>=_) _ _ _;refine W0 (U6 (hz:=by rw[za,J5];lia) g' rfl ?_);have g2:=WN (Obj.mapSeq (·.push (val i))) g' rfl;refine W3 ⟨Jf J4 _,ih (i+1) _ (acc.push (val i)) _ Z' Z' (fr _ _ _ ft λb ob hb e=>(Qb _ _ (Ne.symm hb)).trans e) g2 (by rw[Um,ea,U5,WS];rfl) λh2 fZ c' yG g3 cU=>?_⟩;exact fin h2 fZ c' (λb ob hb hi e=>yG b ob hb hi ((Qb _ _ (Ne.symm hb)).trans (kp b ob hi e))) g3 cU
abbrev f6(ps:List Nat):Obj:={cls:=.type "tuple",data:=.seq (ps.map λj:Nat=>Qv j).toArray}
theorem XB{Q}(x:c7 prog w s.heap a ks o es ep t xs)(hz:es.size<=1000)(hI:bt w=true\/es.size<=1->Q (.ref s.heap.objs.size) 9#(s.heap.push (KB (.int 0 0) 0 a es.size ep)))(hD:∀ps d,ps.Perm (W7 es.size)->Q (.ref (s.heap.push (f6 ps)).objs.size) {s with heap:=(s.heap.push (f6 ps)).push (KB (.ref s.heap.objs.size) 0 a es.size ep),drawn:=d}):Wb 4#0 A (pyIter (.ref a)) Q E s:=by
 refine wpAny_pyIter_slot x.so.typeIs PySem.F.slot_set_iter (WJ PySem.F.slot_set_iter x.so.typeIs Xv ?_ (PySem.F.args_set_iter_1 _));unfold Builtin.«frozenset.__iter__»;refine W0 (m:=Builtin.Frozenset.slot0 "__iter__" _) (W3 ?_);unfold Builtin.Frozenset.sizeOf;refine W0 (W0 (JE x.g x.d x.f (W3 ?_)));unfold setDrawn setsByText;refine W0 (W0 (Jw x.g x.d x.f ?_));dsimp only;refine W0 (W0 (JD (W3 ?_)));refine W3 ?_;show Wb _ _ (if(!bt w&&(!t.plain&&decide (es.size>1)))=true then _ else _) _ _ _;by_cases hc:(!bt w&&(!t.plain&&decide (es.size>1)))=true
 .rw[if_pos hc];refine W0 (FJ es.size (W7 es.size) s _ V' λps d pp=>?_);have hl:ps.length=es.size:=by rw[pp.length_eq,Uo]
  unfold newTuple;refine W0 (Q1 ?_ (by show(ps.map λj:Nat=>Qv j).toArray.size<=Wd;rw[Wx,WB,hl,J5];lia));have x1:c7 prog w (s.heap.push (f6 ps)) a ks o es ep t xs:={x with g:=W5 _ x.g};refine W0 (wpAny_setEpoch_of (s:={s with heap:=s.heap.push (f6 ps),drawn:=d}) x1.g x1.d x1.f ?_);refine W0 (Q1 (W3 ⟨_,rfl,"set_iterator",_,⟨_,Wi _ rfl,rfl⟩,slot_next.lookup,?_⟩));exact hD ps d pp
 .rw[if_neg hc];refine W0 (W3 ?_);refine W0 (wpAny_setEpoch_of x.g x.d x.f ?_);refine W0 (Q1 (W3 ⟨_,rfl,"set_iterator",_,⟨_,Wi _ rfl,rfl⟩,slot_next.lookup,?_⟩));refine hI ?_;cases hb:bt w with|true=>exact .inl rfl|false=>
   right;rw[hb]at hc;refine Nat.le_of_not_lt λXD=>hc ?_;have hp:t.plain=false:=by cases e:t.plain with|false=>rfl|true=>
     have hs:es.size=0:=by rw[x.sz,x.q e];rfl
     lia
   rw[hp];simpa using XD
theorem FO{Q}(x:fY prog w s.heap a ks)(h:Q false s):Wb 4#0 A (Builtin.List.listLengthHint (.ref a)) Q E s:=by have hT:=x.so.typeIs;unfold Builtin.List.listLengthHint;refine W0 (wpAny_specialOf hT Xw ?_);generalize hid:("set.__len__":String)=id0;wp_delta;rw[show splitId id0=some ("set","__len__")from by subst hid;decide+kernel];subst hid;refine W0 (JV (T:="set") (b:=true) hT (by rw[isSubtype_type];kernel_rfl) ?_);refine U4 (by grind) λj=>?_;refine U4 (λj=>?_) λiK=>absurd P3 iK;refine W0 (wpAny_typeOf hT ?_);exact W3 h
theorem XE{S c}(hh:A.handled=none)(x:c7 prog w s.heap a ks o es ep t xs)(hz:es.size<=1000)(hS:S≠it)(lG:S≠a)(kE:a≠it)(hc:bt w=true\/es.size<=1)(hi:s.heap.get? it=some (KB (.int 0 0) 0 a es.size ep))(gS:s.heap.get? S=some {cls:=.type "list",data:=.seq #[] c})(fin:∀h' fZ c'(zs:List (Str×Tok)),(∀b ob,b≠S->b≠it->s.heap.get? b=some ob->h'.get? b=some ob)->h'.get? S=some {cls:=.type "list",data:=.seq fZ c'}->fZ.toList=zs.map (λz=>Value.str z.1 z.2)->(zs.map (·.1)).Perm ks->R (.ok (.ret res)) 9#h'):QR 4#0 A (.builtin "list.extend.loop" ⟨[.ref S,.ref it,res],[]⟩) R s:=by
 have fr:∀(F:Nat->Value)(i:Nat)(h h':Heap),h.get? it=some (KB (F i) i a es.size ep)/\c7 prog w h a ks o es ep t xs->(∀b ob,b≠S->h.get? b=some ob->h'.get? b=some ob)->h'.get? it=some (KB (F i) i a es.size ep)/\c7 prog w h' a ks o es ep t xs:=
 λF i h h'⟨q1,q2⟩k=>⟨k _ _ (Ne.symm hS) q1,{q2 with g:=k _ _ (Ne.symm lG) q2.g}⟩;cases hb:bt w with|true=>
  have pp:=FI (w.params.setOrder a ep) es;rw[x.e]at pp;obtain⟨zs,ez,pz⟩:=zh pp;have hl:zs.length=es.size:=by have:=congrArg J7 ez;have q:=(FI (w.params.setOrder a ep) es).length_eq;simp at this q;lia
  have gt:∀i,(pickOrder (w.params.setOrder a ep) es)[i]?=zs[i]?.map (ju prog w):=λi=>by rw[<-QJ,ez,Wo]
  refine vO (it:=it) (St:=λi h=>h.get? it=some (KB (.int 0 0) i a es.size ep)/\c7 prog w h a ks o es ep t xs) (n:=es.size) (val:=λi=>((zs[i]?).map λz=>Value.str z.1 z.2).getD .none) hS hz (fr λy=>.int 0 0) ?item ?done es.size 0 s #[] c Z' (Qc _) ⟨hi,x⟩ gS rfl ?fin;case item=>
   rintro i s Q E' a0⟨q1,q2⟩k;have ij:i<zs.length:=by lia
   refine FK (A:=A.in1) (sl:=0) (nx:=0) (v:=Value.str zs[i].1 zs[i].2) q2 q1 (λE2=>Q2 (FN (i:=i) hb q2 E2) (λr s'⟨e1,e2⟩=>⟨by rw[e1,gt i,W2 ij];rfl,e2⟩) λy y e=>e) λh' sb g=>?_;have:((zs[i]?).map λz=>Value.str z.1 z.2).getD .none=Value.str zs[i].1 zs[i].2:=by rw[W2 ij];rfl
   rw[<-this];exact k h' (λb ob eC e=>(sb.2 b eC).trans e) ⟨g,{q2 with g:=(sb.2 a kE).trans q2.g}⟩
  case done=>rintro s Q E'⟨q1,q2⟩k;refine zk (A:=A.in1) (sl:=0) hh q2 q1 (λE2=>Q2 (FN hb q2 E2) (λr s'⟨e1,e2⟩=>⟨by rw[e1,gt,WD Z'];rfl,e2⟩) λy y e=>e) λh' eb=>k h' λb ob eC e=>eb b ob eC e
  case fin=>intro h' fZ c' k g ea;refine fin h' fZ c' zs k g ?_ (pz.trans x.p);rw[ea,<-hl];refine Uy V' λi h1 h2=>?_;simp at h1 h2;simp[h2]|false=>
  have h1:es.size<=1:=hc.resolve_left (by rw[hb];decide);have kD:t.place.size=es.size:=by have:=x.f;unfold SetTable.fits at this;simp at this;exact this.1
  have FP:xs.length=es.size:=by have:=congrArg J7 x.e;simp at this;lia
  by_cases h0:es.size=0
  .refine vO (it:=it) (St:=λi h=>h.get? it=some (KB (.int 0 0) i a es.size ep)/\c7 prog w h a ks o es ep t xs) (n:=0) (val:=λi=>.none) hS U' (fr λy=>.int 0 0) λi s Q E' a0=>by lia ?done 0 0 s #[] c rfl (Wf _) ⟨hi,x⟩ gS rfl ?fin
   case done=>rintro s Q E'⟨q1,q2⟩k;refine zk (A:=A.in1) (sl:=0) hh q2 q1 (λE2=>Q2 (zm hb q2 h1 0 E2) (λr s'⟨e1,e2⟩=>⟨by rw[e1,Array.getElem?_eq_none Z'],e2⟩) λy y e=>e) λh' eb=>k h' λb ob eC e=>eb b ob eC e
   case fin=>intro h' fZ c' k g ea;have:xs=[]:=List.eq_nil_of_length_eq_zero Z';refine fin h' fZ c' xs k g ?_ x.p;rw[ea,this];rfl
  .have qa0:es.size=1:=by lia
   obtain⟨z,ez⟩:∃z,xs=[z]:=by match xs,FP with|[z],_=>exact⟨z,rfl⟩|[],h=>simp at h;lia|_::_::_,h=>simp at h;lia
   obtain⟨j,ej⟩:∃j,t.place=#[j]:=by
    have:t.place.toList.length=1:=by simp;lia
    match hp:t.place.toList,this with|[j],_=>exact⟨j,by rw[<-Array.toArray_toList (xs:=t.place),hp]⟩
   have e0:es[0]?=some (ju prog w z):=by rw[<-QJ,x.e,ez];rfl
   have b0:SetTable.below t.place 0=0:=by rw[ej];simp[SetTable.below,SetTable.below.go]
   have b1:SetTable.below t.place (j+1)=1:=by rw[ej];simp[SetTable.below,SetTable.below.go]
   refine vO (it:=it) (St:=λi h=>h.get? it=some (KB (.int ((if i=0 then 0 else j+1:Nat):Int) 0) i a es.size ep)/\c7 prog w h a ks o es ep t xs) (n:=1) (val:=λi=>Value.str z.1 z.2) hS U' (fr λi=>.int ((if i=0 then 0 else j+1:Nat):Int) 0) ?item ?done 1 0 s #[] c rfl U' ⟨hi,x⟩ gS rfl ?fin;case item=>
    rintro i s Q E' a0⟨q1,q2⟩k;obtain rfl:i=0:=by lia
    refine FK (A:=A.in1) (sl:=0) (nx:=j+1) (v:=Value.str z.1 z.2) q2 q1 (λE2=>Q2 (zm (i:=0) hb q2 h1 0 E2) (λr s'⟨e1,e2⟩=>⟨by rw[e1,b0,e0,ej];rfl,e2⟩) λy y e=>e) λh' sb g=>?_;exact k h' (λb ob eC e=>(sb.2 b eC).trans e) ⟨g,{q2 with g:=(sb.2 a kE).trans q2.g}⟩
   case done=>rintro s Q E'⟨q1,q2⟩k;refine zk (A:=A.in1) (sl:=j+1) hh q2 q1 (λE2=>Q2 (zm hb q2 h1 (j+1) E2) (λr s'⟨e1,e2⟩=>⟨by rw[e1,b1,Array.getElem?_eq_none Z'],e2⟩) λy y e=>e) λh' eb=>k h' λb ob eC e=>eb b ob eC e
   case fin=>intro h' fZ c' k g ea;refine fin h' fZ c' xs k g ?_ x.p;rw[ea,ez];rfl
theorem ZB{S T:Addr}{res:Value}{R:Result->W6->Prop}{c:Nat}{ps:List Nat}(hh:A.handled=none)(x:c7 prog w s.heap a ks o es ep t xs)(hz:es.size<=1000)(hS:S≠it)(lG:S≠a)(kE:a≠it)(XF:S≠T)(XG:T≠it)(pp:ps.Perm (W7 es.size))(hi:s.heap.get? it=some (KB (.ref T) 0 a es.size ep))(gT:s.heap.get? T=some (f6 ps))(gS:s.heap.get? S=some {cls:=.type "list",data:=.seq #[] c})(fin:∀h' fZ c'(zs:List (Str×Tok)),(∀b ob,b≠S->b≠it->s.heap.get? b=some ob->h'.get? b=some ob)->h'.get? S=some {cls:=.type "list",data:=.seq fZ c'}->fZ.toList=zs.map (λz=>Value.str z.1 z.2)->(zs.map (·.1)).Perm ks->R (.ok (.ret res)) 9#h'):QR 4#0 A (.builtin "list.extend.loop" ⟨[.ref S,.ref it,res],[]⟩) R s:=by
 have hl:ps.length=es.size:=by rw[pp.length_eq,Uo]
 have FP:xs.length=es.size:=by have:=congrArg J7 x.e;simp at this;lia
 have pE:∀i(h:i<ps.length),ps[i]<xs.length:=λi h=>by have:=Ws.mp (pp.mem_iff.mp (WV h));lia
 have ge:∀p(h:p<xs.length),es[p]?=some (ju prog w xs[p]):=λp h=>by rw[<-QJ,x.e,Wo,W2 h];rfl
 refine vO (it:=it) (St:=λi h=>h.get? it=some (KB (.ref T) i a es.size ep)/\c7 prog w h a ks o es ep t xs/\h.get? T=some (f6 ps)) (n:=es.size) (val:=λi=>((ps[i]?).bind λp=>xs[p]?.map λz=>Value.str z.1 z.2).getD .none) hS hz (λi h h'⟨q1,q2,q3⟩k=>⟨k _ _ (Ne.symm hS) q1,{q2 with g:=k _ _ (Ne.symm lG) q2.g},k _ _ (Ne.symm XF) q3⟩) ?item ?done es.size 0 s #[] c Z' (Qc _) ⟨hi,x,gT⟩ gS rfl ?fin;case item=>
  rintro i s Q E' a0⟨q1,q2,q3⟩k;have ij:i<ps.length:=by lia
  have hp:=pE i ij;refine Xy (A:=A.in1) (T:=T) (ps:=ps) (p:=ps[i]) q2 q1 q3 rfl (W2 ij) (ge _ hp) λh' sb g=>?_;have:((ps[i]?).bind λp=>xs[p]?.map λz=>Value.str z.1 z.2).getD .none=Value.str xs[ps[i]].1 xs[ps[i]].2:=by rw[W2 ij,Qg,W2 hp];rfl
  have k2:=k h' (λb ob eC e=>(sb.2 b eC).trans e) ⟨g,{q2 with g:=(sb.2 a kE).trans q2.g},(sb.2 T XG).trans q3⟩;rw[this]at k2;exact k2
 case done=>rintro s Q E'⟨q1,q2,q3⟩k;exact XA (A:=A.in1) (T:=T) (ps:=ps) hh q2 q1 q3 rfl (WD Z') λh' eb=>k h' λb ob eC e=>eb b ob eC e
 case fin=>
  intro h' fZ c' k g ea;refine fin h' fZ c' (ps.filterMap (xs[.]?)) k g ?_ ?_
  .rw[ea,<-hl];have all:∀p∈ps,p<xs.length:=λp hp=>by have:=Ws.mp (pp.mem_iff.mp hp);lia
   clear pp fin ea g k hl pE ge hi gT;have:∀ps:List Nat,(∀p∈ps,p<xs.length)->(W7 ps.length).map (λi=>((ps[i]?).bind λp=>xs[p]?.map λz=>Value.str z.1 z.2).getD .none)=(ps.filterMap (xs[.]?)).map λz=>Value.str z.1 z.2:=λps=>by induction ps with|nil=>intro _;rfl|cons p ps ih=>intro all;have hp:=all p Wc;rw[WF,Jm,We,Wn];have qU:=ih λq hq=>all q (W8 _ hq);have e1:(p::ps).filterMap (xs[.]?)=xs[p]::ps.filterMap (xs[.]?):=List.filterMap_cons_some (W2 hp);rw[e1,We,<-qU];simp[W2 hp,Function.comp_def]
   exact this ps all
  .have p1:(ps.filterMap (xs[.]?)).Perm xs:=by grind[List.filterMap_getElem?_range_length]
   exact(p1.map (·.1)).trans x.p
end
theorem XH{es S}(hh:A.handled=none)(x:c7 prog w s.heap a ks o es ep t xs)(hz:es.size<=1000)(lG:S≠a)(gS:s.heap.get? S=some {cls:=.type "list",data:=.seq #[] c0})(fin:∀(h3:Heap)(d:Drawn)(acc:Array Value)(c:Nat)(ys:List (Str×Tok)),(∀b ob,b≠S->s.heap.get? b=some ob->h3.get? b=some ob)->h3.get? S=some {cls:=.type "list",data:=.seq acc c}->acc.toList=ys.map (λz=>Value.str z.1 z.2)->(ys.map (·.1)).Perm ks->R (.ok (.ret res)) {s with heap:=h3,drawn:=d}):Wb 4#0 A.in1 (Builtin.List.listExtendWith (.ref S) (.ref a) res) (λfin s'=>match fin with|.done f=>R (.ok f) s'|.again c'=>c'.quiet=true/\QR 4#0 A c' R s') (λe s'=>R (.error e) s') s:=by
 have lt:=Wm x.g;have lS:=Wm gS;unfold Builtin.List.listExtendWith;refine W0 (wpAny_typeOf (T:="set") x.so.typeIs ?_);have n1:Builtin.List.listSameRef (.ref S) (.ref a)=false:=by simp only[Builtin.List.listSameRef];exact beq_eq_false_iff_ne.mpr lG
 have n2:(Value.type "set"==Value.type "list")=false:=by decide
 have n3:(Value.type "set"==Value.type "tuple")=false:=by decide
 simp only[n1,n2,n3,Bool.or_false,JK,if_false];refine W0 (XB x hz (λhc=>?_) λps d pp=>?_);.have x2:c7 prog w (s.heap.push (KB (.int 0 0) 0 a es.size ep)) a ks o es ep t xs:={x with g:=W5 _ x.g};have g1:(s.heap.push (KB (.int 0 0) 0 a es.size ep)).get? S=some {cls:=.type "list",data:=.seq #[] c0}:=W5 _ gS;have g2:(s.heap.push (KB (.int 0 0) 0 a es.size ep)).get? s.heap.objs.size=some (KB (.int 0 0) 0 a es.size ep):=Wi _ rfl;refine W0 (WZ (FO (s:=9#(s.heap.push (KB (.int 0 0) 0 a es.size ep))) ⟨_,_,_,_,_,x2⟩ ?_));refine U4 (λj=>?_) λhn=>absurd U' hn;refine W0 (QW ?_);refine W0 ?_;show Wb _ _ (updateSeq S (·.push .none)>>=λj=>updateSeq S (·.pop)) _ _ _;refine W0 (U6 (s:=9#(s.heap.push (KB (.int 0 0) 0 a es.size ep))) g1 rfl ?_);have g4:=WN (Obj.mapSeq (·.push Value.none)) g1 rfl;refine U6 (hz:=by seq_fits) g4 rfl ?_;have g5:=WN (Obj.mapSeq (·.pop)) g4 rfl;have k2:∀b ob,b≠S->(s.heap.push (KB (.int 0 0) 0 a es.size ep)).get? b=some ob->(((s.heap.push (KB (.int 0 0) 0 a es.size ep)).update S (Obj.mapSeq (·.push Value.none))).update S (Obj.mapSeq (·.pop))).get? b=some ob:=λb ob hb e=>(Qb _ _ (Ne.symm hb)).trans ((Qb _ _ (Ne.symm hb)).trans e);refine W3 ⟨Jf J4 _,?_⟩;refine XE (s:=9#_) hh {x2 with g:=k2 a _ (Ne.symm lG) x2.g} hz (Wr lS) lG (Wr lt) hc (k2 _ _ (Qm lS) g2) g5 λh3 acc c' ys k3 g6 ea pp=>fin h3 s.drawn acc c' ys (λb ob hb e=>?_) g6 ea pp;have lb:=Wm e;exact k3 b ob hb (Wr lb) (k2 b ob hb (W5 _ e))
 .have zT:(s.heap.push (f6 ps)).objs.size=s.heap.objs.size+1:=Q7 _ _;have x2:c7 prog w ((s.heap.push (f6 ps)).push (KB (.ref s.heap.objs.size) 0 a es.size ep)) a ks o es ep t xs:={x with g:=W5 _ (W5 _ x.g)};have g1:((s.heap.push (f6 ps)).push (KB (.ref s.heap.objs.size) 0 a es.size ep)).get? S=some {cls:=.type "list",data:=.seq #[] c0}:=W5 _ (W5 _ gS);have g2:((s.heap.push (f6 ps)).push (KB (.ref s.heap.objs.size) 0 a es.size ep)).get? (s.heap.push (f6 ps)).objs.size=some (KB (.ref s.heap.objs.size) 0 a es.size ep):=Wi _ rfl;have gT:((s.heap.push (f6 ps)).push (KB (.ref s.heap.objs.size) 0 a es.size ep)).get? s.heap.objs.size=some (f6 ps):=W5 _ (Wi _ rfl);have lI:S<(s.heap.push (f6 ps)).objs.size:=%[zT|QP lS];refine W0 (WZ (FO (s:={s with heap:=(s.heap.push (f6 ps)).push (KB (.ref s.heap.objs.size) 0 a es.size ep),drawn:=d}) ⟨_,_,_,_,_,x2⟩ ?_));refine U4 (λj=>?_) λhn=>absurd U' hn;refine W0 (QW ?_);refine W0 ?_;show Wb _ _ (updateSeq S (·.push .none)>>=λj=>updateSeq S (·.pop)) _ _ _;refine W0 (U6 (s:={s with heap:=(s.heap.push (f6 ps)).push (KB (.ref s.heap.objs.size) 0 a es.size ep),drawn:=d}) g1 rfl ?_);have g4:=WN (Obj.mapSeq (·.push Value.none)) g1 rfl;refine U6 (hz:=by seq_fits) g4 rfl ?_;have g5:=WN (Obj.mapSeq (·.pop)) g4 rfl;have k2:∀b ob,b≠S->((s.heap.push (f6 ps)).push (KB (.ref s.heap.objs.size) 0 a es.size ep)).get? b=some ob->((((s.heap.push (f6 ps)).push (KB (.ref s.heap.objs.size) 0 a es.size ep)).update S (Obj.mapSeq (·.push Value.none))).update S (Obj.mapSeq (·.pop))).get? b=some ob:=λb ob hb e=>(Qb _ _ (Ne.symm hb)).trans ((Qb _ _ (Ne.symm hb)).trans e);refine W3 ⟨Jf J4 _,?_⟩;refine ZB (s:={s with heap:=_,drawn:=d}) (T:=s.heap.objs.size) (ps:=ps) hh {x2 with g:=k2 a _ (Ne.symm lG) x2.g} hz (Wr lI) lG (Wr %[zT|QP lt]) (Wr lS) %[zT|Wr (Nat.lt_succ_self _)] pp (k2 _ _ (Qm lI) g2) (k2 _ _ (Qm lS) gT) g5 λh3 acc c' ys k3 g6 ea pp=>fin h3 d acc c' ys (λb ob hb e=>?_) g6 ea pp;have lb:=Wm e;exact k3 b ob hb (Wr %[zT|QP lb]) (k2 b ob hb (W5 _ (W5 _ e)))
theorem XI{Q}(hh:A.handled=none)(hA:fY prog w s.heap a ks)(hn:ks.length<=1000)(h:∀(h':Heap)(d:Drawn)(zs:List (Str×Tok)),(zs.map (·.1)).Perm ks->(∀b o,s.heap.get? b=some o->h'.get? b=some o)->s.heap.objs.size<h'.objs.size->Q (zs.map λz=>Value.str z.1 z.2) {s with heap:=h',drawn:=d}):Wb 4#0 A (collect (.ref a)) Q E s:=by
 obtain⟨o,es,ep,t,xs,x⟩:=hA;have hz:es.size<=1000:=%[x.sz|hn];have lt:=Wm x.g;unfold collect;refine W0 (wpAny_runValue (QI PySem.F.entry_proto_collect ?_));rw[Around.under_plainId PySem.F.plain_proto_collect _];show Wb _ A.in1 (newList []>>=λl=>again (.builtin "list.__iadd__" ⟨[l,.ref a],[]⟩)) _ _ s;refine W0 (Q1 ?_);refine W3 ⟨Jf PySem.F.plain_list_iadd _,QI PySem.F.entry_list_iadd ?_⟩;rw[Around.under_plainId PySem.F.plain_list_iadd _];generalize hL:({cls:=.type "list",data:=.seq ([]:List Value).toArray}:Obj)=L0;have g0:(s.heap.push L0).get? s.heap.objs.size=some {cls:=.type "list",data:=.seq #[]}:=by rw[<-hL];exact Wi _ rfl
 have x1:c7 prog w (s.heap.push L0) a ks o es ep t xs:={x with g:=W5 _ x.g};show Wb _ A.in1 (Builtin.List.listExtendWith (.ref s.heap.objs.size) (.ref a) (.ref s.heap.objs.size)) _ _ _;have key:=XH (A:=A) (s:=9#(s.heap.push L0)) (res:=.ref s.heap.objs.size) (R:=λq s'=>∃(h3:Heap)(d:Drawn)(acc:Array Value)(c:Nat)(ys:List (Str×Tok)),q=.ok (.ret (.ref s.heap.objs.size))/\s'={s with heap:=h3,drawn:=d}/\(∀b ob,s.heap.get? b=some ob->h3.get? b=some ob)/\h3.get? s.heap.objs.size=some {cls:=.type "list",data:=.seq acc c}/\acc.toList=ys.map (λz=>Value.str z.1 z.2)/\(ys.map (·.1)).Perm ks) hh x1 hz (Qm lt) g0 λh3 d acc c ys k3 g3 ea pp=>⟨h3,d,acc,c,ys,rfl,rfl,λb ob e=>k3 b ob (Wr (Wm e)) (W5 _ e),g3,ea,pp⟩;have last:∀(h3:Heap)(d:Drawn)(acc:Array Value)(c:Nat)(ys:List (Str×Tok)),(∀b ob,s.heap.get? b=some ob->h3.get? b=some ob)->h3.get? s.heap.objs.size=some {cls:=.type "list",data:=.seq acc c}->acc.toList=ys.map (λz=>Value.str z.1 z.2)->(ys.map (·.1)).Perm ks->Wb 4#0 A (do match(<-load s.heap.objs.size).data with|.seq xs _=>pure xs.toList|_=>unsupported "internal:collect") Q E {s with heap:=h3,drawn:=d}:=λh3 d acc c ys k3 g3 ea pp=>by refine W0 (wpAny_load g3 ?_);refine W3 ?_;show Q acc.toList _;rw[ea];exact h h3 d ys pp k3 (Wm g3)
 refine Q2 key (λfin s' z=>?_) λe s' z=>?_;.cases fin with|done f=>obtain⟨h3,d,acc,c,ys,e,rfl,k3,g3,ea,pp⟩:=z;cases e;exact last h3 d acc c ys k3 g3 ea pp|again c₁=>refine⟨z.1,U9 z.2 λq s₂ y=>?_⟩;obtain⟨h3,d,acc,c,ys,rfl,rfl,k3,g3,ea,pp⟩:=y;exact last h3 d acc c ys k3 g3 ea pp
 .obtain⟨_,_,_,_,_,e',_⟩:=z;cases e'
theorem XJ(zs:List (Str×Tok)):StrsAre (zs.map λz=>Value.str z.1 z.2) (zs.map (·.1)):=by induction zs with|nil=>exact .nil|cons z zs ih=>exact .cons _ _ ih
theorem XM{Q}(hh:A.handled=none)(hA:fY prog w s.heap a ks)(hn:ks.length<64)(h:∀(h':Heap)(d:Drawn)(p:Addr)(e:Nat)(out:Array Value)(ss:List Str),StrsAre out.toList ss->ss.Perm ks->sortedS ss=true->(∀b o,s.heap.get? b=some o->h'.get? b=some o)->s.heap.objs.size<=p->h'.get? p=some (seqObj "list" out e)->Q (.ref p) {s with heap:=h',drawn:=d}):Wb 4#0 A (call (.builtin "sorted") [.ref a]) Q E s:=by
 refine Calls.call_function_entry kind_sorted plain_sorted entry_sorted (args_sorted1 _) ?_;unfold Builtin.«sorted»;refine W0 (m:=checkCount "sorted" 1 1 _) (W3 (W0 (XI (A:=A.in1) hh hA Z' λh1 d zs pz k1 hz=>?_)));have hl:(zs.map λz=>Value.str z.1 z.2).length<64:=by have:=pz.length_eq;simp at this⊢;lia
 refine W0 (wpAny_newList ?_ (by rw[J5];lia));have hS:=XJ zs;generalize(zs.map λz=>Value.str z.1 z.2)=vs at hl hS⊢;have ho:(h1.push (seqObj "list" vs.toArray 0)).get? h1.objs.size=some (seqObj "list" vs.toArray 0):=Wi _ rfl;refine W0 (WZ (WJ slot_list_sort ⟨_,ho,rfl⟩ entry_list_sort (list_sort_treeK (s:={s with heap:=h1.push (seqObj "list" vs.toArray 0),drawn:=d}) strKind_oneLt ho hS.keysOf (λv₁ v₂ rest e=>keyKind_strs (by rw[<-e];exact hS)) hl λft hp hs=>⟨_,rfl,?_⟩) (args_list_sort _)));obtain⟨ss',q1,q2,q3⟩:=sorted_out_str hS hp hs;obtain⟨e,he⟩:=sortedHeap_at (out:=(arrOf ft).map (·.2)) ho;refine W3 ⟨_,rfl,h _ d h1.objs.size e _ ss' q1 (q2.trans pz) q3 (λb o q=>?_) (QV hz) he⟩;have r1:=k1 b o q;have lb:=Wm r1;rw[sortedHeap_old (Wr lb) %[size_push'|QP lb]];exact W5 _ r1
end SU
section
open PySem.W SU
def m8(X:Cx)(a:Addr)(ks:List Str):HO:=.ext λh=>fY X.prog X.w h a ks
theorem XN(x:fY X.prog X.w h a ks):bP X.prog X.w H h a (m8 X a ks):=by refine⟨x,?_,λh1 h2 y k=>y.at' k⟩;obtain⟨o,es,ep,t,xs,z⟩:=x;exact⟨o,z.g⟩
theorem XO(ok:cA X.prog X.w H h)(e:H a=some (m8 X a ks)):fY X.prog X.w h a ks:=(show bP X.prog X.w H h a (m8 X a ks)from ok a _ e).1
theorem Inv.drawn(I:Inv X pins J H s)(d:Drawn):Inv X pins J H {s with drawn:=d}:=⟨I.ok,I.os,I.bare,I.base,I.loc,I.cell,I.free,I.ja,I.pin,I.aD,I.len⟩
theorem XV:∀{vs:List Value}{ss:List Str},StrsAre vs ss->Vals (ss.map V.str) vs|_,_,.nil=>.nil|_,_,.cons x t h=>.cons ⟨t,rfl⟩ (XV h)
theorem XQ(hc:X.calm=true):eG X (.builtin "sorted") λxs H Q=>∃(a:Addr)(ts:List Tx),xs=[.ref a]/\H a=some (m8 X a (ts.map toS))/\ts.length<64/\∀p,H p=none->Q (.ref p) (upd H p (.lst ((fL ts).map λz=>V.str (toS z)))):=by
 intro pins s J H xs us Q I r h;obtain⟨a,ts,rfl,ha,hz,q⟩:=h;obtain⟨u,rfl,ru⟩:=ie r;cases ru;refine XM (I.ok.hd hc) (XO I.aD ha) (~~~hz) λh' d p e out ss hS hp hs k FQ g=>?_;have e2:ss=(fL ts).map toS:=by
  have yk:(ss.map λz:Str=>z.cps.toList).Pairwise iM:=by cases ss with|nil=>simp|cons x r=>exact yj x r hs
  have qY:(ss.map λz:Str=>z.cps.toList).Perm ts:=by
   have:=hp.map λz:Str=>z.cps.toList;rw[Wn]at this;have e2:ts.map ((λz:Str=>z.cps.toList)∘toS)=ts:=by rw[show(λz:Str=>z.cps.toList)∘toS=_root_.id from funext λz=>qT z,List.map_id]
   rw[e2]at this;exact this
  rw[<-DB qY yk,Wn];rw[show(toS∘λz:Str=>z.cps.toList)=_root_.id from funext λz=>(yc z).symm,List.map_id]
 have rv:Vals ((fL ts).map λz=>V.str (toS z)) out.toList:=by have:=XV hS;rw[e2,Wn]at this;exact this
 have hl:(fL ts).length=ts.length:=(uW ts).length_eq;have I1:=(I.drawn d).laid (h':=h') (t':=s.toks) (o:=.lst ((fL ts).map λz=>V.str (toS z))) k FQ (show bP X.prog X.w _ _ _ (.lst _)from⟨by rw[WB,hl,J5];lia,out.toList,e,rv,g⟩);exact⟨.ref _,_,I1,rfl,q _ (I.aD.fresh FQ)⟩
end
section
open SU
theorem XT(c:Nat)(z:List Nat):(oy c z 0 z.length).length=z.count c:=by
 have key:∀(z pre:List Nat),((List.range' pre.length z.length).filter λi=>decide ((pre++z)[i]?=some c)).length=z.count c:=λz=>by induction z with|nil=>intro pre;rfl|cons x z ih=>
   intro pre;have h:=ih (pre++[x]);rw[Qn,List.length_singleton]at h;rw[WF,Uw,List.filter_cons];have e:(pre++x::z)[pre.length]?=some x:=by simp
   have e2:pre++[x]++z=pre++x::z:=by simp
   rw[e2]at h;rw[e,UD];by_cases hc:x=c;.subst hc;simp[h]
   .have:¬some x=some c:= ~~~hc;simp[hc,h]
 exact key z []
theorem XU:uy X "str.count" λx vs H Q=>∃(z:Tx)(c:Nat),x=.str (toS z)/\vs=[.str (toS [c])]/\Q (.int (z.count c:Nat)) H:=by
 intro pins s J H x vs v us Q I rx rv h;obtain⟨z,c,rfl,rfl,q⟩:=h;obtain⟨t,rfl⟩:=rx;obtain⟨u,rfl,ru⟩:=(Vals.one rv);obtain⟨tu,rfl⟩:=ru;refine call_gives PySem.F.slot_str_count (typeIs_str _ _ _) PySem.F.entry_str_count (PySem.F.args_str_count_2 _ _) (gives_str_count (toS z) (toS [c]) t tu) ?_;have e:(PySem.Builtin.Str.occurrences (toS z) (toS [c]) 0 (toS z).length ((toS z).length+1)).length=z.count c:=by have:=VD c z;have e1:toS z=⟨z.toArray⟩:=rfl;have e2:toS [c]=⟨#[c]⟩:=rfl;rw[kj,e1,e2,this,XT]
 rw[e];exact⟨.int (z.count c:Nat),H,I.tok _,⟨_,rfl⟩,q⟩
noncomputable def zo:D->D->Option S|.str z,.str [c]=>0#(.int (z.count c:Nat))|_,_=>none
noncomputable def zq:D->Bool|.str _=>true|_=>false
def iT(fa fb:DE):DE:=λZ=>(fa Z).bind λx T'=>if zq x.d=true then(fb T').bind λy S'=>p2 zo x.d y.d S' else .stuck
section
variable{o:Expr}{fb:DE}
universe H in theorem XW(he:SE X c o fa)(hx:SE X c e fb)(lj:QA o "count" X.env (eval o X.env)=eval o X.env:=by rfl)(ll:((QH bh (Wl [e] X.env)).all (λx=>!x.1)&&(Ua bh (Jy [] X.env)).all (λx=>x.1.isSome)&&decide ([e].length+([]:List Keyword).length+(if([]:List Keyword).isEmpty then 0 else 1)<30))=true:=by rfl)(gI:(apos.endLine==bh.line)=true:=by rfl)(hs:Wl [e] X.env=(false,eval e X.env)::Wl [] X.env:=by rfl):SE X c (.Call (.Attribute o "count" apos) [e] [] bh) (iT fa fb):=by
 refine PE.weak (uB PySem.F.plainAttrs_str PySem.F.slot_str_count PySem.F.type_str_count XU he (fu hx gH hs) lj ll gI hs rfl) λJ H Q h=>?_;obtain⟨Z,k,q⟩:=h;unfold iT at q;rw[ba]at q;refine⟨Z,k,aO q λr T' q1 v H1 a1 r1=>?_⟩;split at q1;case isFalse=>exact q1.elim
 rename_i hL;obtain⟨z,ez⟩:∃z,r.d=.str z:=by cases hd:r.d<;>first|exact⟨_,rfl⟩|(rw[hd]at hL;cases hL)
 have XX:cC c J T' H1 v (.str z):=by rw[<-ez];exact .inl r1.rep
 have ev:=XX.str;subst ev;rw[ba]at q1;refine⟨rfl,T',a1.ok,aO q1 λy S' q2 u H2 a2 r2=>?_⟩;rw[ez]at q2;unfold p2 at q2;have hy:=r2.b;generalize y.d=dy at q2 hy;cases dy with
 |str w=>match w,q2,hy with|[n],q2,hy=>have eu:=hy.str;subst eu;exact⟨z,n,rfl,rfl,q2 _ H2 (a1.trans a2) (.int _)⟩|[],q2,_=>exact q2.elim|_::_::_,q2,_=>exact q2.elim
 |_=>exact q2.elim
end
end
namespace SU
theorem XY:isSubtype (.type "str") (.type "set")=pure false:=by rw[isSubtype_type];kernel_rfl
theorem XZ:isSubtype (.type "str") (.type "frozenset")=pure false:=by rw[isSubtype_type];kernel_rfl
theorem X0{Q}(hh:A.handled=none)(hb:x.cps.size+1<Ug)(h:∀(h':Heap)(tk:Nat),fY prog w h' s.heap.objs.size (fm (λi=>⟨#[x.cps.getD i 0]⟩) x.cps.size)->(∀b o,s.heap.get? b=some o->h'.get? b=some o)->Q (.ref s.heap.objs.size) {s with heap:=h',toks:=tk}):Wb 4#0 A (call (.type "set") [.str x t]) Q E s:=by
 refine Xu ?_;have e1:=XY;have e2:=XZ;have e3:(Value.type "str"==Value.type "dict")=false:=by decide
 unfold Builtin.«set.__init__» noKeywords Builtin.Frozenset.updateFrom;generalize hPI:pyIter=PI;wp_walk;subst hPI;refine wpAny_pyIter_str λo St W fS=>?_;refine W0 (wpAny_runValue ?_);have X3:A.in1.in1.in1.handled=none:=#v[hh];have X4:s.heap.objs.size∉[(s.heap.push (m7 w)).objs.size]:=by rw[Q7,List.mem_singleton];exact Wr (Nat.lt_succ_self _)
 refine Xo (W _ X3).toS s.heap.objs.size X4 (λi=>⟨#[x.cps.getD i 0]⟩) (λi v⟨c,u,e,ev⟩=>⟨u,by rw[ev,Array.getD_eq_getD_getElem?,e];rfl⟩) hb (x.cps.size-0) 0 _ Z' (Qc _) fS ((Xs s.heap).at' λo' e=>W5 _ e) λs' mv z=>?_;obtain⟨h',g',d',kC,os'⟩:=s';have q1:g'=s.gens:=mv.gens;have q2:d'=s.drawn:=mv.drawn;have q3:os'=s.os:=mv.os;subst q1;subst q2;subst q3;show Wb _ _ _ _ _ _;refine W3 ?_;show Wb _ _ (ret Value.none) _ _ _;refine W3 ⟨rfl,h h' kC z λb ob e=>?_⟩;have lb:=Wm e;refine mv.heap b ob ?_ (W5 _ (W5 _ e));rw[Q7];simp only[Wv,List.not_mem_nil,or_false,not_or];exact⟨Wr lb,Wr (QP lb)⟩
end SU
section
variable{α β:Type}
@[simp]theorem dR(a:α)(Z:Dl)(f:α->Dl->Rs β):(Rs.ok a Z).bind f=f a Z:=id rfl
@[simp]theorem zeL(f:α->Dl->Rs β):(Rs.stuck:Rs α).bind f=.stuck:=id rfl
@[simp]theorem FT(d:D):(S.pure d).d=d:=id rfl
@[simp]theorem si(d:D):(S.own d).d=d:=id rfl
end
section
variable(Z:Dl)(i:Nat)(d e:D)(f g:DE)(fb:BE)(t u:DT)(p:D->D->Option S)
@[simp]theorem FU:eD d Z=.ok (.pure d) Z:=id rfl
@[simp]theorem m9:aj f Z=(f Z).bind λr SZ=>.ok r.d SZ:=id rfl
@[simp]theorem zt:aB p f fb Z=(f Z).bind λx T'=>(fb T').bind λy S'=>p2 p x.d y S':=id rfl
@[simp]theorem qa1:lx t u Z=(t Z).bind λb T'=>if b then u T' else .ok false T':=id rfl
@[simp]theorem qa2:fT t u Z=(t Z).bind λb T'=>if b then .ok true T' else u T':=id rfl
@[simp]theorem X5:fA t Z=(t Z).bind λb T'=>.ok (!b) T':=id rfl
@[simp]theorem X6:iO t f g Z=(t Z).bind λb T'=>if b then f T' else g T':=id rfl
@[simp]theorem qa3:bR Z=.ok .next Z:=id rfl
@[simp]theorem qa4:aG Z=.ok true Z:=id rfl
@[simp]theorem qa5:kz f Z=(f Z).bind λj T'=>.ok .next T':=id rfl
@[simp]theorem zu:bf f Z=(f Z).bind λr T'=>.ok (.ret r) T':=id rfl
@[simp]theorem FV(a b:DS):bI t a b Z=(t Z).bind λx T'=>if x then a T' else b T':=id rfl
@[simp]theorem qa6(it:DI)(gg:DG)(b:DS):ck it gg b Z=(it Z).bind λds T'=>forL gg b ds T':=id rfl
@[simp]theorem qa7(a:DA):cF a Z=(a Z).bind λds SZ=>.ok (.pure (.tup ds)) SZ:=id rfl
@[simp]theorem qa8(a:DA):il a Z=(a Z).bind λds SZ=>.ok (.own (.lst ds)) SZ:=id rfl
@[simp]theorem qa9(ds:List D):yP ds Z=.ok (.own (.lst ds)) Z:=id rfl
@[simp]theorem qa_:bS Z=.ok [] Z:=id rfl
@[simp]theorem qba(a:DA):aQ f a Z=(f Z).bind λx T'=>(a T').bind λxs S'=>.ok (x.d::xs) S':=id rfl
@[simp]theorem sj(q:D->Option S):aE q fb Z=(fb Z).bind λx T'=>p1 q x T':=id rfl
@[simp]theorem qbb:u6 f g Z=(f Z).bind λx T'=>(g T').bind λy S'=>p2 yv x.d y.d S':=id rfl
@[simp]theorem qbc(fl fh:ly):Sj f fl fh Z=(f Z).bind λx T'=>(fl T').bind λl S'=>(fh S').bind λh SL=>p1 (D6 l h) x.d SL:=id rfl
@[simp]theorem qbd:rA Z=.ok none Z:=id rfl
@[simp]theorem sk(cs:List Nat)(it:DI)(gg:DG)(el:DE):aK cs it gg t el Z=(it Z).bind λds T'=>if cs.any (bG T')then .stuck else(bX cs gg t el ds (a_ cs T') []).bind λacc S'=>.ok (.own (.lst acc)) (cg cs T' S'):=id rfl
@[simp]theorem qbe(np:List Nat)(r:S):ae np i r Z=if np.contains i then none else some (Z.set i (some r)):=id rfl
@[simp]theorem zi7(gg:DG)(b:DS):forL gg b [] Z=.ok .next Z:=id rfl
end
section
variable(Z:Dl)(i:Nat)(d e:D)(f g:DE)(fb:BE)(p:D->D->Option S)(s:S)
@[simp]theorem zv(x y:D):p2 p x y Z=match p x y with|some s=>.ok s Z|none=>.stuck:=id rfl
@[simp]theorem vP(q:D->Option S)(x:D):p1 q x Z=match q x with|some s=>.ok s Z|none=>.stuck:=id rfl
@[simp]theorem qbf(a b:DS):ay a b Z=(a Z).bind λfl T'=>match fl with|.next=>b T'|.ret r=>.ok (.ret r) T'|.brk=>.ok .brk T'|.cont=>.ok .cont T':=id rfl
@[simp]theorem zis{α β:Type}(c:Prop)[Decidable c](x y:Rs α)(k:α->Dl->Rs β):(if c then x else y).bind k=if c then x.bind k else y.bind k:=by split<;>rfl
end
theorem bV:Wd=16777216:=rfl
theorem iU(xs:List α)(i:Nat):dO xs (i:Int)=xs[i]?:=by
 unfold dO fJ;by_cases h:i<xs.length;.rw[if_pos Z',if_pos Z'];simp
 .rw[if_pos Z',if_neg Z'];simp[WD (Nat.le_of_not_lt h)]
theorem vQ(xs:List α):dO xs 2=xs[2]?:=iU xs 2
theorem oB(xs:List α):dO xs 0=xs[0]?:=iU xs 0
theorem vR(xs:List α):dO xs 1=xs[1]?:=iU xs 1
theorem zw(I:Dl->Prop)(R:D->D->Prop):∀(ds:List D)(Z:Dl)(acc:List D),I Z->acc.length+ds.length<=Wd->(∀d∈ds,∀Z,I Z->∃T' S' x SL,g (.pure d) Z=some T'/\t T'=.ok true S'/\el S'=.ok x SL/\I (a_ cs SL)/\R d x.d)->∃xs SZ,bX cs g t el ds Z acc=.ok (acc++xs) SZ/\I SZ/\xs.length=ds.length/\∀(i:Nat)d x,ds[i]?=some d->xs[i]?=some x->R d x
 |[],Z,acc,h,_,_=>⟨[],Z,#v[bX],h,rfl,λi d x e=>by simp at e⟩|d::r,Z,acc,h,hl,hs=>by
  obtain⟨T',S',x,SL,e1,e2,e3,h3,hr⟩:=hs d Wc Z h;have jb:acc.length<Wd:=by simp at hl;lia
  obtain⟨xs,SZ,e4,h4,hn,hf⟩:=zw (g:=g) (t:=t) (el:=el) I R r (a_ cs SL) (acc++[x.d]) h3 Pi λd hd=>hs d (W8 _ hd);refine⟨x.d::xs,SZ,?_,h4,#v[hn],λi d' x' f1 f2=>?_⟩;.unfold bX;simp_all
  .cases i with|zero=>simp at f1 f2;subst f1 f2;exact hr|succ i=>exact hf i d' x' (~~~f1) (~~~f2)
theorem X7(F:D->D)(Z:Dl):∀(ds:List D)(acc:List D),acc.length+ds.length<=Wd->(∀d∈ds,∃T' S' x SL,g (.pure d) Z=some T'/\t T'=.ok true S'/\el S'=.ok x SL/\a_ cs SL=Z/\x.d=F d)->bX cs g t el ds Z acc=.ok (acc++ds.map F) Z:=by
 intro ds acc hl hs;obtain⟨xs,SZ,e,h,hn,hf⟩:=zw (cs:=cs) (g:=g) (t:=t) (el:=el) (λSZ=>SZ=Z) (λd x=>x=F d) ds Z acc rfl hl λd hd SZ h=>by subst h;obtain⟨T',S',x,SL,a,b,c,d,e⟩:=hs d hd;exact⟨T',S',x,SL,a,b,c,d,e⟩
 subst h;rw[e];congr 2;apply Jc;intro i;by_cases hi:i<ds.length;.have:=hf i ds[i] (xs[i]' Z') #v[hi] #v[hn,hi];simp[hn,hi,this]
 .rw[WD Z',WD Re]
theorem kJ(I:Nat->Dl->Prop):∀(ds:List D)(n:Nat)(Z:Dl),I n Z->(∀(i:Nat)d Z,ds[i]?=some d->I (n+i) Z->∃T' S',g (.pure d) Z=some T'/\b T'=.ok .next S'/\I (n+i+1) S')->∃SZ,forL g b ds Z=.ok .next SZ/\I (n+ds.length) SZ
 |[],n,Z,h,_=>⟨Z,rfl,h⟩|d::r,n,Z,h,hs=>by
  obtain⟨T',S',e1,e2,h2⟩:=hs 0 d Z rfl h;obtain⟨SZ,e3,h3⟩:=kJ (g:=g) (b:=b) I r (n+1) S' h2 λi d' SZ e hi=>by have:=hs (i+1) d' SZ (~~~e) %[show n+(i+1)=n+1+i by lia|hi];rw[show n+(i+1)+1=n+1+i+1 by lia]at this;exact this
  refine⟨SZ,?_,%[WF,show n+(r.length+1)=n+1+r.length by lia|h3]⟩;unfold forL;rw[e1];simp only[e2,dR,e3]
theorem vS(xs:List Tx):fU (xs.map .str)=some xs:=by induction xs with|nil=>rfl|cons x r ih=>simp[fU,ih]
theorem zy:∀ts:List Tx,jP [] ts=ts.flatten|[]=>rfl|[x]=>#v[jP]|x::y::r=>by rw[jP,zy (y::r)];simp
theorem X8(xs:List Nat):jk (xs.map λn=>[n])=xs.length:=by unfold jk;induction xs with|nil=>rfl|cons x r ih=>simp at ih⊢;lia
theorem X9(xs:List Nat):(xs.map λn=>[n]).flatten=xs:=by induction xs with|nil=>rfl|cons x r ih=>simp[ih]
theorem FW(xs:List Nat)(h:xs.length<=16777216):fB [] (.lst (xs.map λn=>.str [n]))=0#(.str xs):=by
 have e:(xs.map λn=>D.str [n])=(xs.map λn=>[n]).map D.str:=by simp
 unfold fB;simp only[e,vS,X8,zy,X9];rw[if_pos (~~~h)]
theorem X_(bs:List Bool):ku (bs.map .bl)=some bs:=by induction bs with|nil=>rfl|cons x r ih=>simp[ku,ih]
theorem FX(r:Tx)(c:Nat)(h:c<r.length)(hl:r.length<=64):ax (.str r) (.int c)=0#(.str [r.getD c 0]):=by unfold ax;have:Wd=16777216:=rfl;simp only;rw[if_pos Z',iU];simp[h]
theorem Ya(r:Tx)(hl:r.length<=64):bA (.str r)=0#(.int r.length):=by unfold bA;have:Wd=16777216:=rfl;simp only;rw[if_pos Z']
abbrev bQ(fl:List Tx):D:=.tup (fl.map .str)
structure sr(w:Nat)(fl:List Tx):Prop where
 h0:0<fl.length
 h1:fl.length<=64w0:0<w
 w1:w<=64all:∀r∈fl,r.length=w
def turn(w:Nat)(fl:List Tx):List Tx:=(W7 w).map λc=>fl.map λr=>r.getD c 0
def back(fl:List Tx):List Tx:=fl.map List.reverse
theorem Yb{w}(h:sr w fl):∃r,fl[0]?=some r/\r.length=w:=by cases fl with|nil=>have:=h.h0;simp at this|cons r q=>exact⟨r,rfl,h.all r Wc⟩
def k6(r:S)(T':Dl):Rs (List D):=match r with|.pure (.int j)=>if pA j then .ok (bo 0 j.toNat) T' else .stuck|_=>.stuck
@[simp]theorem Yc(f:DE)(Z:Dl):bW f Z=(f Z).bind λr T'=>k6 r T':=id rfl
theorem Yd(w:Nat)(hw:w<=1000000):pA (w:Int)=true:=by
 have h1:-(4611686018427387904:Int)<=(w:Int):=by lia
 have h2:(w:Int)<4611686018427387904:=by lia
 unfold pA;rw[Wu];exact⟨decide_eq_true h1,decide_eq_true h2⟩
theorem Ye(j:Int)(hs:pA j=true)(Z:Dl):k6 (.pure (.int j)) Z=.ok (bo 0 j.toNat) Z:=by unfold k6;grind
theorem hJ(w:Nat)(hw:w<=1000000)(Z:Dl):k6 (.pure (.int w)) Z=.ok (bo 0 w) Z:=by have:=Ye (w:Int) (Yd w hw) Z;rwa[Qj]at this
theorem zz(h:(bo 0 n)[i]?=some d):i<n/\d=.int (i:Int):=by
 unfold bo at h;rw[Wo]at h;by_cases hi:i<n;.rw[Qq hi]at h;simp at h;exact⟨hi,h.symm⟩
 .rw[WD (~~~hi)]at h;cases h
theorem FY(h:d∈bo 0 n):∃i:Nat,i<n/\d=.int (i:Int):=by obtain⟨i,hi⟩:=List.getElem?_of_mem h;exact⟨i,zz hi⟩
@[simp]theorem Yf(lo:Int)(n:Nat):(bo lo n).length=n:=#v[bo]
def jv(x:Nat):List Nat->List Nat|[]=>[x]|y::r=>if y<x then y::jv x r else x::y::r
def fO:List Nat->List Nat|[]=>[]|x::r=>jv x (fO r)
theorem FZ(a b:Nat):([a]:Tx)<[b]↔a<b:=by
 constructor;.intro h;cases h<;>simp_all
 .intro h;exact List.Lex.rel h
theorem F0(x:Nat):∀xs:List Nat,lr [x] (xs.map λn=>[n])=(jv x xs).map λn=>[n]
 |[]=>rfl|y::r=>by
  simp only[We,lr,jv];by_cases h:y<x;.rw[if_pos ((FZ y x).mpr h),if_pos h,F0 x r];rfl
  .rw[if_neg λz=>h ((FZ y x).mp z),if_neg h];rfl
theorem zA:∀xs:List Nat,fL (xs.map λn=>[n])=(fO xs).map λn=>[n]|[]=>rfl|x::r=>by rw[We,fL,zA r,F0];rfl
theorem zB{x}:∀{xs:List Nat},y∈jv x xs↔y=x\/y∈xs
 |[]=>#v[jv]|z::r=>by
  unfold jv;split;.simp[zB (xs:=r)];all_goals grind
  .simp
theorem vT:∀{xs:List Nat},y∈fO xs↔y∈xs|[]=>#v[fO]|x::r=>by rw[fO,zB,vT (xs:=r)];simp
theorem F1(x:Nat):∀xs:List Nat,(jv x xs).length=xs.length+1|[]=>rfl|y::r=>by unfold jv;split<;>simp[F1 x r]
theorem zC:∀xs:List Nat,(fO xs).length=xs.length|[]=>rfl|x::r=>by rw[fO,F1,zC r];rfl
universe H in theorem F2{x}:∀{xs:List Nat},xs.Pairwise (.<.)->x∉xs->(jv x xs).Pairwise (.<.)
 |[],_,_=>#v[jv]|y::r,h,hx=>by
  rw[Ue]at h;simp at hx;unfold jv;split
  .rename_i hl;rw[Ue];refine⟨λz hz=>?_,F2 h.2 hx.2⟩;rcases zB.mp hz with rfl|hz;.exact hl
   .exact h.1 z hz
  .rename_i hl;rw[Ue];refine⟨λz hz=>?_,List.pairwise_cons.mpr h⟩;rcases Wv.mp hz with rfl|hz;.lia
   .have:=h.1 z hz;lia
theorem zD:∀{xs:List Nat},xs.Nodup->(fO xs).Pairwise (.<.)|[],_=>#v[fO]|x::r,h=>by rw[WL]at h;exact F2 (zD h.2) λz=>h.1 (vT.mp z)
theorem F3{P:Nat->Prop}:∀{xs:List D},(∀x∈xs,∃n,P n/\x=.str [n])->∃row:List Nat,xs=row.map (λn=>.str [n])/\∀n∈row,P n|[],_=>⟨[],rfl,V'⟩|x::r,h=>by obtain⟨n,hn,rfl⟩:=h x Wc;obtain⟨row,rfl,hr⟩:=F3 (xs:=r) λy hy=>h y (W8 _ hy);exact⟨n::row,rfl,by simpa using⟨hn,hr⟩⟩
theorem Yg{R:D->D->Prop}{ds xs:List D}{Q:D->Prop}(hn:xs.length=ds.length)(hf:∀(i:Nat)d x,ds[i]?=some d->xs[i]?=some x->R d x)(hq:∀d x,d∈ds->R d x->Q x):∀x∈xs,Q x:=λx hx=>by obtain⟨i,hi⟩:=List.getElem?_of_mem hx;have h1:=(W9.mp hi).1;have h2:ds[i]?=some (ds[i]' Z'):=#v[show i<ds.length by lia];exact hq _ x (WV _) (hf i _ x h2 hi)
theorem F4(w:Nat)(hw:w<=100000)(Z:Dl):k6 (.pure (.int (1+(w:Int)))) Z=.ok (bo 0 (1+w)) Z:=by have:=hJ (1+w) Z' Z;rwa[show((1+w:Nat):Int)=1+(w:Int)by lia]at this
abbrev cf(b:Nat×List Tx):D:=.tup [.str [b.1],bQ b.2]
abbrev aw(h w:Nat)(bs:8#0):D:=.tup [.int h,.int w,.tup (bs.map cf)]
structure bC(h w:Nat)(bs:8#0):Prop where
 h0:0<h
 h1:h<=4w0:0<w
 w1:w<=4hw:2<h+w
 n0:0<bs.length
 n1:bs.length<=26up:(bs.map (·.1)).Pairwise (.<.)vU:∀b∈bs,97<=b.1/\b.1<=122bM:∀b∈bs,b.2.length=h/\∀r∈b.2,r.length=w/\∀n∈r,n∈bs.map (·.1)
theorem bC.F5{h w}(R:bC h w bs)(hb:b∈bs):sr w b.2:=by have:=R.bM b hb;exact⟨by have:=R.h0;lia,by have:=R.h1;lia,R.w0,by have:=R.w1;lia,λr hr=>(this.2 r hr).1⟩
def eU(w:Nat)(bs:8#0):8#0:=bs.map λb=>(b.1,turn w b.2)
def m_(bs:8#0):8#0:=bs.map λb=>(b.1,back b.2)
theorem eE{cs A}(f F:A->D)(Z:Dl):∀(as:List A)(acc:List D),acc.length+as.length<=Wd->(∀a∈as,∃T' S' x SL,g (.pure (f a)) Z=some T'/\t T'=.ok true S'/\el S'=.ok x SL/\a_ cs SL=Z/\x.d=F a)->bX cs g t el (as.map f) Z acc=.ok (acc++as.map F) Z
 |[],acc,_,_=>#v[bX]|a::r,acc,hl,hs=>by
  obtain⟨T',S',x,SL,e1,e2,e3,e4,e5⟩:=hs a Wc;have jb:acc.length<Wd:=by simp at hl;lia
  have ih:=eE (cs:=cs) (g:=g) (t:=t) (el:=el) f F Z r (acc++[x.d]) Pi λa ha=>hs a (W8 _ ha);rw[We];unfold bX;simp_all
section
open PySem.W SU
theorem Yh(hc:X.calm=true):eG X (.type "set") λxs H Q=>∃z:Tx,xs=[.str (toS z)]/\z.length<1000/\∀p,H p=none->Q (.ref p) (upd H p (m8 X p ((z.map λn=>toS [n]).foldl dd []))):=by
 intro pins s J H xs us Q I r h;obtain⟨z,rfl,hz,q⟩:=h;obtain⟨u,rfl,ru⟩:=ie r;obtain⟨t,rfl⟩:=ru;have sz:(toS z).cps.size=z.length:=#v[toS];refine X0 (I.ok.hd hc) (by rw[sz];unfold Ug;lia) λh' tk y k=>?_;have e:fm (λi=>⟨#[(toS z).cps.getD i 0]⟩) (toS z).cps.size=(z.map λn=>toS [n]).foldl dd []:=by unfold fm;congr 1;rw[sz];refine Uy V' λi h1 h2=>?_;simp at h1 h2;simp[toS,h2]
 rw[e]at y;exact⟨.ref _,_,I.laid (t':=tk) k (Wf _) (XN y),rfl,q _ (I.aD.fresh (Wf _))⟩
end
section
open SU
def dY:List Nat->List Nat->List Nat|J,[]=>J|J,n::r=>if n∈J then dY J r else dY (J++[n]) r
theorem zE:∀(z J:List Nat),(z.map λn=>toS [n]).foldl dd (J.map λn=>toS [n])=(dY J z).map λn=>toS [n]
 |[],J=>rfl|n::z,J=>by
  rw[We,Jp];unfold dY;by_cases h:n∈J
  .rw[if_pos h];have e:dd (J.map λn=>toS [n]) (toS [n])=J.map λn=>toS [n]:=by unfold dd;rw[if_pos (Qh h)]
   rw[e];exact zE z J
  .rw[if_neg h];have e:dd (J.map λn=>toS [n]) (toS [n])=(J++[n]).map λn=>toS [n]:=by unfold dd;rw[if_neg λy=>by obtain⟨m,hm,e⟩:=Wj.mp y;have:=uK e;simp at this;exact h (this▸hm),WS];rfl
   rw[e];exact zE z (J++[n])
theorem vV:∀(z J:List Nat),(dY J z).length<=J.length+z.length
 |[],J=>#v[dY]|n::z,J=>by
  unfold dY;split;.have:=vV z J;simp;lia
  .have:=vV z (J++[n]);simp at this⊢;lia
noncomputable def nc:D->Option S|.str z=>if z.length<64 then some (.own (.lst ((fO (dY [] z)).map λn=>.str [n])))else none|_=>none
section
variable{zF zG:Pos}
universe H in theorem Yi(hc:X.calm=true)(hg:Gl X "sorted")(hm:X.mg "sorted"=none)(mH:Gl X "set")(oA:X.mg "set"=none)(he:SB X c e fb)(h1:Wl [e] X.env=(false,eval e X.env)::Wl [] X.env:=by rfl)(h3:Wl [.Call (.Name "set" zF) [e] [] zG] X.env=(false,eval (.Call (.Name "set" zF) [e] [] zG) X.env)::Wl [] X.env:=by rfl):SE X c (.Call (.Name "sorted" pp) [.Call (.Name "set" zF) [e] [] zG] [] pos) (aE nc fb):=PE.weak (uw (XQ hc) hg hm PyProof.Rows.boot_sorted (fu (Cq (Yh hc) mH oA PyProof.Rows.boot_set (fu he gH h1) U' U' h1) gH h3) U' U' h3) λJ H Q⟨Z,k,q⟩=>by unfold aE at q;rw[ba]at q;refine⟨Z,k,aO q λx T' q1 v H1 a1 r1=>?_⟩;unfold p1 at q1;cases ex:nc x with|none=>rw[ex]at q1;exact q1.elim|some s=>rw[ex]at q1;cases x with
 |str z=>
    simp only[nc]at ex;split at ex
    .rename_i hz;cases ex;have ev:=r1.str;subst ev;refine⟨z,rfl,Z',λp hp=>?_⟩;have e0:=zE z [];rw[UA]at e0;rw[e0];have b1:=aY.alloc a1.ok hp (m8 X p ((dY [] z).map λn=>toS [n]));have l1:=vV z [];simp at l1;refine⟨p,(dY [] z).map λn=>[n],rfl,%[Wn|cW],by simp;lia,λp4 F6=>?_⟩;have e5:(fL ((dY [] z).map λn=>[n])).map (λz=>V.str (toS z))=(fO (dY [] z)).map λn=>V.str (toS [n]):=by rw[zA,Wn];rfl
     rw[e5];have e6:aI (upd H1 p (m8 X p ((dY [] z).map λn=>toS [n]))) (Av c J T') ((fO (dY [] z)).map λn=>V.str (toS [n])) ((fO (dY [] z)).map λn=>D.str [n]):=by have:=yu (H:=upd H1 p (m8 X p ((dY [] z).map λn=>toS [n]))) (O:=Av c J T') ((fO (dY [] z)).map λn=>[n]);rw[Wn,Wn]at this;exact this
     exact q1 _ _ (a1.trans (b1.trans (.alloc b1.ok F6 _))) (bu.back (bu.qV b1.ok e6 F6) (a1.trans b1))
    .cases ex|_=>cases ex
end
end
theorem Yj:entryFor table "dict_itemiterator.__iter__"=some Builtin.«dict_keyiterator.__iter__»:=entryFor_alias (id':="dict_keyiterator.__iter__") (by kernel_rfl) rfl P3 (by kernel_rfl)
theorem F7{Q}(hit:IsItemIter s.heap it d i n ep ok ov)(h:Q (.ref it) s):Wb 4#0 A (pyIter (.ref it)) Q E s:=by have hT:s.TypeIs (.ref it) "dict_itemiterator":=⟨_,hit,rfl⟩;refine wpAny_pyIter_slot hT F.slot_dict_itemiterator_iter (WJ F.slot_dict_itemiterator_iter hT Yj ?_ (F.args_dict_itemiterator_iter_1 _));show Wb _ _ (ret (.ref it)) _ _ s;exact W3 ⟨_,rfl,"dict_itemiterator",_,hT,F.slot_dict_itemiterator_next.lookup,h⟩
theorem F8(h:(cL P w).is k u=true):RelV (kV k) u:=by
 rw[Bz]at h;rcases kZ h with⟨i,t,rfl,rfl⟩|⟨x,t,rfl,rfl⟩;.exact⟨t,rfl⟩
 .exact⟨t,rfl⟩
def F9(a:Addr)(ob:Obj)(kvs:List (Key×V)):It:=⟨λi H=>H a=some (.frz ob (.dK kvs))/\i<kvs.length,λi H v H'=>∃p k x,H p=none/\kvs[i]?=some (k,x)/\H'=upd H p (.tup [kV k,x])/\v=.ref p,λi H=>H a=some (.frz ob (.dK kvs))/\i=kvs.length⟩
universe H in theorem KV.get{κ:Type}{kvs:List (κ×V)}{vs:List (κ×Value)}(r:KV kvs vs):∀{i:Nat}{k:κ}{x:V},kvs[i]?=some (k,x)->∃u,vs[i]?=some (k,u)/\RelV x u:=by unfold KV at r;induction r with|nil=>intro i k x e;simp at e|cons h t ih=>intro i k x e;cases i with|zero=>simp at e;subst e;rename_i q _ _;obtain⟨q1,q2⟩:=q;obtain⟨h1,h2⟩:=h;simp at h1 h2;subst h1;exact⟨q2,V',h2⟩|succ i=>exact ih (~~~e)
theorem Yk{ctx}(a it:Addr)(ob:Obj)(kvs:List (Key×V))(es:Array DictEntry)(ep:Nat)(he:ob.data=.dict es ep):Turn P w K (.Tuple elts ctx pos) (F9 a ob kvs) [it] it λi h=>∃ok ov,IsItemIter h it a i kvs.length ep ok ov:=by
 have at_:∀{X:Cx}{pins s J H},X.prog=P->X.w=w->Inv X pins J H s->H a=some (.frz ob (.dK kvs))->∃vs,KV kvs vs/\s.heap.DictAt (cL P w) a vs ep:=by intro X pins s J H hP hw I e;subst hP hw;obtain⟨h1,h2⟩:s.heap.get? a=some ob/\bP X.prog X.w H s.heap a (.dK kvs):=I.aD a _ e;obtain⟨_,_,vs,r,o,gU,gW,q1,q2,q3,q4⟩:=h2;rw[h1]at q1;cases q1;rw[he]at q3;cases q3;exact⟨vs,r,ob,es,h1,q2,he,q4⟩
 refine⟨V',?_,?_,?_,?_,?_⟩;.grind
 .rintro i h h'⟨ok,ov,q⟩k;exact⟨ok,ov,k it V' _ q⟩
 .intro X hP hw hK hc i pins s J H E I hf⟨ok,ov,st⟩⟨hg,hi⟩;obtain⟨vs,r,hd⟩:=at_ hP hw I hg;subst hP hw hK;have hl:=r.length;have hx:kvs[i]?=some (kvs[i].1,kvs[i].2):=#v[hi];obtain⟨u,hu,ru⟩:=KV.get r hx;have jR:it<s.heap.objs.size:=Wm st;rw[hl]at st;refine wpAny_pyNext_items_item st hd hu λkey h' hk hit hT hsz kp=>⟨_,rfl,wpAny_letOwnedTupleGo_items hit λh2 zH sb=>?_⟩;have nz:s.heap.objs.size≠it:=Qm jR;have a0:∀b∈[it],b<s.heap.objs.size:=λb hb=>by have e:b=it:= ~~~hb;subst e;exact jR
  have I2:Inv X pins J (upd H s.heap.objs.size (.tup [kV kvs[i].1,kvs[i].2])) {s with heap:=h2,toks:=s.toks}:=Inv.zc (t':=s.toks) [it] I hf a0 (F8 hk) ru ((sb.2 _ nz).trans hT) λb o hb e=>by have g:b≠it:=λz=>hb #v[z];exact(sb.2 b g).trans (kp b o g e)
  refine⟨.ref s.heap.objs.size,_,I2,rfl,⟨s.heap.objs.size,_,_,I.aD.fresh (Wf _),hx,rfl,rfl⟩,⟨_,_,%[hl|zH]⟩,λb hb=>?_⟩;have e:b=it:= ~~~hb;subst e;rw[aN (Ne.symm nz)];exact(hf _ hb).1
 .intro X hP hw hK hc i pins s J H E I hf⟨ok,ov,st⟩⟨hg,hi⟩;obtain⟨vs,r,hd⟩:=at_ hP hw I hg;subst hP hw hK;have hl:=r.length;rw[hl]at st;refine wpAny_pyNext_items_end (I.ok.hd hc) st hd Re λh' eb=>⟨rfl,Inv.rT (t':=s.toks) [it] I (λb o hb e=>eb b o (by grind) e) hf⟩
 .intro A i s Q E⟨ok,ov,st⟩h;exact F7 st h
section
variable{o:Expr}
def Yl(td:TE):TI:=λJ H R=>td J H λv H1=>∃a kvs,v=.ref a/\H1 a=some (.dK kvs)/\∀ob,R (F9 a ob kvs) (upd H1 a (.frz ob (.dK kvs)))
theorem Ym(ho:PE X o td)(hb:QA o "items" X.env (eval o X.env)=eval o X.env:=by rfl)(hl:(apos.endLine==bh.line)=true:=by rfl):PI X (.Tuple elts ctx tp) (.Call (.Attribute o "items" apos) [] [] bh) (Yl td):=by
 intro pins s J H R I h;refine Uk (T:="dict") (id:="dict.items") hb rfl hl F.plainAttrs_dict Up F.type_dict_items (aM (ho pins s J H _ I h) λu s1 hh=>?_);obtain⟨x,H1,I1,rx,a,kvs,ex,ea,q⟩:=hh;subst ex;obtain rfl:u=Value.ref a:=rx;obtain⟨z,hS,vs,r,hm⟩:=qH I1.aD ea;refine⟨hm.typeIs,hm.mapOf.noDict,?_⟩;refine method_meetsIn Up F.entry_dict_items rfl (PySem.evalArgs_none ⟨rfl,hm.typeIs,F.args_dict_items_1 _,_,meets_dict_items (cL X.prog X.w) a hS,⟨vs,hm⟩,?_⟩);obtain⟨ob,es,ep,g1,g2,g3,g4⟩:=id hm;have Yn:s1.heap.DictAt (cL X.prog X.w) a vs ep:=⟨ob,es,g1,g2,g3,g4⟩;refine wpAny_pyIter_items (knd:=cL X.prog X.w) (d:=a) (kvs:=vs) (ep:=ep) ⟨_,Wi _ rfl,rfl,rfl⟩ (Yn.push _) ?_;generalize hh1:s1.heap.push {cls:=.type "dict_items",data:=.fields #[.ref a]}=h1;have up1:∀b u,s1.heap.get? b=some u->h1.get? b=some u:=λb u e=>by rw[<-hh1];exact W5 _ e
 have pN:s1.heap.objs.size<=h1.objs.size:=by rw[<-hh1,Q7];exact Jz _
 generalize hh2:h1.push {cls:=.type "dict_itemiterator",data:=.fields #[.none,.bool false,.ref a,.int 0 0,.int vs.length 0,.int ep 0,.none,.none]}=h2;have pP:∀b u,s1.heap.get? b=some u->h2.get? b=some u:=λb u e=>by rw[<-hh2];exact W5 _ (up1 b u e)
 have hit:IsItemIter h2 h1.objs.size a 0 kvs.length ep .none .none:=by rw[r.length,<-hh2];exact Wi _ rfl
 have I2:Inv X pins J (upd H1 a (.frz ob (.dK kvs))) {s1 with heap:=h2,toks:=s1.toks}:=I1.write (x:=a) (e:=a) (o:=.frz ob (.dK kvs)) (t':=s1.toks) (by rw[ea];trivial) (.inl rfl) (λb u j e=>pP b u e) ⟨ob,pP a ob g1⟩ ⟨pP a ob g1,z,hS,vs,r,ob,es,ep,pP a ob g1,g2,g3,g4⟩;refine⟨h1.objs.size,[h1.objs.size],_,_,_,rfl,I2,Yk a h1.objs.size ob kvs es ep g3,⟨_,_,hit⟩,λb hb=>?_,q ob⟩;have e:b=h1.objs.size:= ~~~hb;subst e;refine I1.iH pN ?_;rw[aN (Qm (Wz (Wm g1) pN))];exact I1.aD.fresh pN
end
def vW:a7->D|.inl i=>.int i|.inr x=>.str x
theorem F_(k:a7):Rep H O (kV (cO k)) (vW k):=by cases k with|inl i=>exact .int i|inr x=>exact .str x
def kK(ds:List (a7×D)):List D:=ds.map λp=>D.tup [vW p.1,p.2]
section
variable{o:Expr}
def lH(i:Nat):DI:=λZ=>match Z[i]? with|some (some (.own (.aA ds)))=>.ok (kK ds) (Z.set i none)|_=>.stuck
theorem Ok.freeze{u}(k:Ok c J Z H)(e:Z[i]?=some (some (.own (.aA ds))))(ea:J[i]?=some (some (.ref a))):aY c J Z H J (Z.set i none) (upd H a u):=by
 obtain⟨a',cU,oa,hI,nB⟩:=k.own i _ e;rw[ea]at cU;cases cU;have hO:Own J Z a:=⟨i,_,e,ea⟩;have hi:i<Z.length:=(W9.mp e).1;have sub:∀b,Own J (Z.set i none) b->Own J Z b:=λb⟨j,d,f1,f2⟩=>by
  by_cases hj:i=j;.grind
  .rw[W4 hj]at f1;exact⟨j,d,f1,f2⟩
 have jr:∀b,Av c J (Z.set i none) b->Av c J Z b:=λb z=>z.elim .inl λz=>.inr (sub b z);have kp:∀b o,H b=some o->¬Av c J Z b->upd H a u b=some o:=λb o h n=>by rw[aN λz=>n (.inr %[z|hO])];exact h
 have th:∀b o,H b=some o->∃o',upd H a u b=some o':=λb o h=>by by_cases hb:b=a;all_goals grind[cW,aN]
 have up:∀{v d},Rep H (Av c J Z) v d->Rep (upd H a u) (Av c J (Z.set i none)) v d:=λr=>(r.keep kp).aS λb z=>.inl (jr b z);refine⟨⟨λb o h n=>?_,λb h=>?_,λb h=>?_,%[Qe|k.len],λj d f=>?_,λj d f=>?_,λj l b d1 d2 f1 f2 g1 g2=>?_,k.pinned⟩,λb o h n=>?_,λb z=>.inl (sub b z),th⟩
 .have hb:b≠a:=λz=>by grind
  rw[aN hb];exact k.keep b o h n
 .obtain⟨o,h'⟩:=k.bd b h;exact th b o h'
 .obtain⟨o,h'⟩:=k.eN b h;exact th b o h'
 .have hj:i≠j:=λz=>by subst z;rw[Wh hi]at f;cases f
  rw[W4 hj]at f;obtain⟨v,g1,g2⟩:=k.slot j d f;exact⟨v,g1,up g2⟩
 .have hj:i≠j:=λz=>by subst z;rw[Wh hi]at f;cases f
  rw[W4 hj]at f;obtain⟨b,g1,g2,g3⟩:=k.own j d f;have hb:b≠a:=λz=>by subst z;exact hj (k.inj i j b _ _ e f ea g1)
  exact⟨b,g1,(g2.keep kp λo h=>%[aN hb|h]).aS λb z=>.inl (jr b z),g3⟩
 .have h1:i≠j:=λz=>by subst z;rw[Wh hi]at f1;cases f1
  have h2:i≠l:=λz=>by subst z;rw[Wh hi]at f2;cases f2
  rw[W4 h1]at f1;rw[W4 h2]at f2;exact k.inj j l b d1 d2 f1 f2 g1 g2
 .rw[aN λz=>n %[z|hO]];exact h
universe H in theorem Yo(ho:PE X o (dH i))(hb:QA o "items" X.env (eval o X.env)=eval o X.env:=by rfl)(hl:(apos.endLine==bh.line)=true:=by rfl):SI X c (.Tuple elts ctx tp) (.Call (.Attribute o "items" apos) [] [] bh) (lH i):=PI.weak (Ym ho hb hl) λJ H R⟨Z,k,q⟩=>by
  unfold lH at q;split at q;case h_2=>exact q.elim
  rename_i ds e;obtain⟨a,ea,⟨ws,hw,hk,hr⟩,hI,nB⟩:=k.own i _ e;refine⟨.ref a,ea,a,ws,rfl,hw,λob=>?_⟩;have af:=k.freeze (u:=.frz ob (.dK ws)) e ea;refine q _ _ af λH2 kp=>?_;have hi:i<Z.length:=(W9.mp e).1;have na:¬Own J (Z.set i none) a:=λ⟨j,d,f1,f2⟩=>by
   by_cases hj:i=j;.subst hj;rw[Wh hi]at f1;cases f1
   .rw[W4 hj]at f1;exact hj (k.inj i j a _ _ e f1 ea f2)
  have h2:H2 a=some (.frz ob (.dK ws)):=kp a _ cW na;have hlen:ws.length=ds.length:=by simpa using congrArg J7 hk
  refine⟨⟨h2,#v[kK,hlen]⟩,λj d f=>?_⟩;unfold kK at f;rw[Wo]at f;cases ej:ds[j]? with|none=>rw[ej]at f;cases f|some qd=>
   rw[ej]at f;cases f;have hj:j<ws.length:=by rw[hlen];exact(W9.mp ej).1
   refine⟨⟨h2,hj⟩,λx H3⟨p,kk,xv,hp,hkv,e3,ex⟩=>.inr ⟨p,_,_,hp,e3,ex,rfl,?_⟩⟩;have xD:kk=cO qd.1:=by have:=congrArg (λl=>l[j]?) hk;simp only[Wo,hkv,ej,WM]at this;exact WK this
   subst xD;have rv:Rep H (Av c J Z) xv qd.2:=hr j _ _ hkv ej;have hO:Own J Z a:=⟨i,_,e,ea⟩;have Yp:Rep (upd H a (.frz ob (.dK ws))) (Av c J (Z.set i none)) xv qd.2:=(rv.keep λb o h n=>by rw[aN λz=>n (.inr %[z|hO])];exact h).aS λb z=>.inl (z.elim .inl λ⟨j,d,f1,f2⟩=>.inr (by
 by_cases hj:i=j;.grind
 .rw[W4 hj]at f1;exact⟨j,d,f1,f2⟩));exact aI.two (F_ _) Yp
end
section
variable{x y:Nat}{d:D}
theorem Ok.move(k:Ok c J Z H)(fW:Np c np)(hx:np.contains x=false)(oY:x≠y)(e:Z[y]?=some (some (.own d)))(ea:J[y]?=some (some (.ref a)))(hl:x<Z.length):aY c J Z H (J.set x (some (.ref a))) ((Z.set y none).set x (some (.own d))) H:=by
 have Yq:y<Z.length:=(W9.mp e).1;have Yr:x<J.length:=by rw[<-k.len];exact hl
 have at_:∀j r,((Z.set y none).set x (some (.own d)))[j]?=some (some r)->j=x/\r=.own d\/j≠x/\j≠y/\Z[j]?=some (some r):=λj r q=>by
  by_cases hj:x=j;.subst hj;rw[Wh %[Qe|hl]]at q;cases q;exact .inl ⟨rfl,rfl⟩
  .rw[W4 hj]at q;by_cases hy:y=j;.subst hy;rw[Wh Yq]at q;cases q
   .rw[W4 hy]at q;exact .inr ⟨Ne.symm hj,Ne.symm hy,q⟩
 have sx:(J.set x (some (.ref a)))[x]?=some (some (.ref a)):=Wh Yr;have so:∀j,j≠x->(J.set x (some (.ref a)))[j]?=J[j]?:=λj hj=>W4 (Ne.symm hj);have own:∀b,Own (J.set x (some (.ref a))) ((Z.set y none).set x (some (.own d))) b->Own J Z b:=λb⟨j,r,q1,q2⟩=>by
  rcases at_ j _ q1 with⟨z,z'⟩|⟨h1,h2,q⟩;.subst z;cases z';rw[sx]at q2;cases q2;exact⟨y,d,e,ea⟩
  .rw[so j h1]at q2;exact⟨j,r,q,q2⟩
 have av:∀b,Av c (J.set x (some (.ref a))) ((Z.set y none).set x (some (.own d))) b->Av c J Z b:=λb z=>z.elim .inl λz=>.inr (own b z);obtain⟨a',cU,oa,hI,nB⟩:=k.own y _ e;rw[ea]at cU;cases cU;refine⟨⟨k.keep,k.bd,k.eN,by simp only[Qe];exact k.len,λj r q=>?_,λj r q=>?_,λj l b d1 d2 q1 q2 s1 s2=>?_,λp hp=>?_⟩,λu u h u=>h,λb z=>.inl (own b z),λu o h=>⟨o,h⟩⟩
 .rcases at_ j _ q with⟨_,z⟩|⟨h1,h2,q⟩;.cases z
  .obtain⟨v,g1,g2⟩:=k.slot j r q;exact⟨v,%[so j h1|g1],g2.aS λb z=>.inl (av b z)⟩
 .rcases at_ j _ q with⟨z,z'⟩|⟨h1,h2,q⟩;.subst z;cases z';exact⟨a,sx,oa.aS λb z=>.inl (av b z),hI,nB⟩
  .obtain⟨b,g1,g2,g3⟩:=k.own j r q;exact⟨b,%[so j h1|g1],g2.aS λb z=>.inl (av b z),g3⟩
 .rcases at_ j _ q1 with⟨z,_⟩|⟨h1,h2,p1⟩<;>rcases at_ l _ q2 with⟨z',_⟩|⟨h1',h2',p2⟩;.rw[z,z']
  .subst z;rw[sx]at s1;cases s1;rw[so l h1']at s2;exact absurd (k.inj y l a _ _ e p2 ea s2).symm h2'
  .subst z';rw[sx]at s2;cases s2;rw[so j h1]at s1;exact absurd (k.inj y j a _ _ e p1 ea s1).symm h2
  .rw[so j h1]at s1;rw[so l h1']at s2;exact k.inj j l b _ _ p1 p2 s1 s2
 .have h:=fW p hp;have cE:p.1≠x:=λz=>by rw[z,hx]at h;cases h
  rw[so p.1 cE];exact k.pinned p hp
def pQ(np:List Nat)(x y:Nat):DS:=λZ=>if np.contains x||x==y||!decide (x<Z.length)then .stuck else match Z[y]? with|some (some (.own d))=>.ok .next ((Z.set y none).set x (some (.own d)))|_=>.stuck
universe H in theorem Ys(fW:Np c np)(hN:X.N.Nodup)(hi:X.N[x]?=some nm)(hx:Loc X.env.scope nm)(he:PE X e (dH y))(hs:Je e (some (.Name nm pos')) pos.line X.env=pure false:=by rfl)(hf:X.fn nm=true\/X.env.scope.names.lookup nm=some .local:=by first|exact .inl rfl|exact .inr rfl|assumption):SS X c (.Assign [.Name nm pos'] e pos) (pQ np x y):=PS.weak (BX hN hi hx he hs hf) λD J H⟨Z,k,q⟩=>by
 unfold pQ fg at q;split at q;case isTrue=>exact q.elim
 rename_i hc;simp only[UC,not_or,Bool.not_eq_true,beq_eq_false_iff_ne,Bool.not_eq_false',decide_eq_true_eq]at hc;obtain⟨⟨h1,h2⟩,h3⟩:=hc;split at q;case h_2=>exact q.elim
 rename_i d e';obtain⟨a,ea,_⟩:=k.own y _ e';exact⟨.ref a,ea,q _ H (k.move fW h1 h2 e' ea h3)⟩
end
theorem Yt(hc:X.calm=true):eG X (.builtin "sum") λxs H Q=>∃(a:Addr)(ns:List Int),xs=[.ref a]/\cu X.K H a (ns.map V.int)/\Q (.int ns.sum) H:=by intro pins s J H xs us Q I r h;obtain⟨a,ns,rfl,hq,q⟩:=h;obtain⟨u,rfl,ru⟩:=ie r;cases ru;obtain⟨ak,r',p,_⟩:=I.list hq;obtain⟨ys,rfl,rfl⟩:=XL r';have hl:=p.isList;have el:(ys.map λp=>Value.int p.1 p.2).toArray=intItems ys.toArray:=#v[intItems];rw[el]at hl;refine sum_intListG (I.ok.hd hc) hl λh' tk t' hk=>?_;refine⟨.int (ys.map (·.1)).sum,H,I.kept hk,⟨t',by rw[preSum_eq,JM V']⟩,q⟩
noncomputable def fD:D->Option S
 |.lst ds=>match kI ds with|some ns=>0#(.int ns.sum)|_=>none
 |_=>none
theorem Yu(hc:X.calm=true)(hg:Gl X "sum")(hm:X.mg "sum"=none)(he:SB X c e fb)(hs:Wl [e] X.env=(false,eval e X.env)::Wl [] X.env:=by rfl):SE X c (.Call (.Name "sum" pp) [e] [] pos) (aE fD fb):=rm (r:=λv H Q=>∃(a:Addr)(ns:List Int),v=.ref a/\cu X.K H a (ns.map V.int)/\Q (.int ns.sum) H) (Yt hc) (λv H Q⟨a,bs,e,h⟩=>⟨a,bs,by rw[e],h⟩) (λc J Z H x d s Q k rx hp q=>by cases d with
 |lst ds=>simp only[fD]at hp;cases e:kI ds with|none=>rw[e]at hp;cases hp|some bs=>rw[e]at hp;simp only[Wg]at hp;subst hp;obtain⟨a,vs,ea,ha,ra⟩:=rx.lst;have:=Fh e ra;subst this;exact⟨a,bs,ea,.inl ha,q _ H (.refl k) (.int _)⟩
 |_=>simp[fD]at hp) hg hm PyProof.Rows.boot_sum he U' U' hs
def jX(i j:Int):Bool:=decide (U1 i<=67108864)&&decide (U1 j<=67108864)
theorem Ga:bJ X (Qo .Mult) (rI (λi j=>jX i j=true) λi j=>.int (i*j)):=mn λi j k k k k k hc q=>by have hc:jX i j=true:=hc;unfold jX at hc;simp only[Wu,decide_eq_true_eq]at hc;exact PyProof.Rows.mul_int q (IntMulOk.of_le hc.1 hc.2 U')
def cD:=dW jX λi j=>.int (i*j)
theorem Gb:cx (rI (λi j=>jX i j=true) λi j=>V.int (i*j)) cD:=mN (λi j h=>h) λk k k k=>.int _
universe H in theorem zI{k:Nat}(h:n<2^k):U1 (n:Int)<=k:=by
 unfold U1;split;.exact Qc _
 .rename_i h0;have hn:n≠0:= ~~~h0;have:=(Nat.log2_lt hn).mpr h;have e:(n:Int).natAbs=n:=rfl;rw[e];lia
theorem Yv{a b k:Nat}(ha:a<2^k)(hb:b<2^k)(hk:k<=67108864):cD (.int a) (.int b)=0#(.int ((a*b:Nat):Int)):=by
 show(if jX a b then some (S.pure (.int ((a:Int)*(b:Int))))else none)=_;have:jX a b=true:=by unfold jX;simp only[Wu,decide_eq_true_eq];exact⟨Wq (zI ha) hk,Wq (zI hb) hk⟩
 rw[this,if_pos rfl,Q8]
def su(np:List Nat)(i j:Nat)(f:Dl->Rs (List D)):DS:=λZ=>if np.contains i||np.contains j then .stuck else(f Z).bind λds T'=>match ds with|[d,e]=>.ok .next ((T'.set i 0#d).set j 0#e)|_=>.stuck
universe H in theorem Yw{a f}{kt k2 pt2}(hp:Np c np)(hc:X.calm=true)(hN:X.N.Nodup)(hi:X.N[i]?=some x)(hj:X.N[j]?=some y)(qA:i≠j)(hx:X.env.scope.names.lookup x=some .local)(hy:X.env.scope.names.lookup y=some .local)(ha:SA X c [a,b] f)(hw:swappedStores [.Tuple [.Name x px,.Name y py] kt pt] (.Tuple [a,b] k2 pt2) X.env=pure (some [x,y]):=by rfl)(hs:swapsWithSole [.Tuple [.Name x px,.Name y py] kt pt] (.Tuple [a,b] k2 pt2) pos.line X.env=pure false:=by rfl):SS X c (.Assign [.Tuple [.Name x px,.Name y py] kt pt] (.Tuple [a,b] k2 pt2) pos) (su np i j f):=PS.weak (Nv hc hN hi hj qA hx hy ha.pa hw hs) λD J H⟨Z,k,q⟩=>by
 unfold su at q;split at q;.exact q.elim
 .rename_i fW;simp only[UC,not_or,Bool.not_eq_true]at fW;have ne:∀(l:Nat),np.contains l=false->∀p∈c.pin,p.1≠l:=λl hl p qY z=>by have:=hp p qY;rw[z,hl]at this;cases this
  unfold fg at q;rw[ba]at q;refine⟨Z,k,aO q λds T' q1 vs H1 a1 r1=>?_⟩;match ds,q1,r1 with|[],q1,_=>exact q1.elim|[_],q1,_=>exact q1.elim|_::_::_::_,q1,_=>exact q1.elim|[d,e],q1,r1=>match vs,r1 with|[],r1=>exact absurd r1.1 V'|[_],r1=>exact absurd r1.1 V'|_::_::_::_,r1=>exact absurd r1.1 V'|[v,w],r1=>have x0:=Ok.set (i:=i) (v:=v) (r:=.pure d) (aY.refl a1.ok) r1.head (ne i fW.1);have x1:=Ok.set (i:=j) (v:=w) (r:=.pure e) (a1.trans x0) (Rep.dQ r1.tail.head x0) (ne j fW.2);exact⟨v,w,rfl,q1 _ H1 x1⟩
section
open PySem.SeqAt
mutual def iV:NK->Nat|.i _=>1|.s _=>1|.t ks=>jw ks+1def jw:List NK->Nat|[]=>0|k::ks=>iV k+jw ks end
inductive dA(h:Heap):Nat->NK->Value->Prop|int{n:Nat}(z:Int)(t:Tok):dA h n (.i z) (.int z t)|bl{n:Nat}(b:Bool):dA h n (.i (if b then 1 else 0)) (.bool b)|str{n:Nat}(x:Str)(t:Tok):dA h n (.s x) (.str x t)|tup{n:Nat}{a:Addr}{ak:Array Value}{ks:List NK}:h.IsTuple a ak->ks.length=ak.toList.length->(∀(i:Nat)k v,ks[i]?=some k->ak.toList[i]?=some v->dA h n k v)->dA h (n+1) (.t ks) (.ref a)
theorem Yx{α β:Type}{xs ys:List α}{vs:List β}(h1:xs.length=vs.length)(h2:ys.length=vs.length)(q:∀(i:Nat)x y v,xs[i]?=some x->ys[i]?=some y->vs[i]?=some v->x=y):xs=ys:=by apply Uy Z';intro i a b;exact q i _ _ vs[i] (W2 a) (W2 b) (W2 Z')
theorem dA.inj{x:NK}{v:Value}(r:dA h n x v):∀{m:Nat}{y:NK},dA h m y v->x=y:=by induction r with|int z t=>intro m y k;cases k;rfl|bl b=>intro m y k;cases k;rfl|str x t=>intro m y k;cases k;rfl|@tup n a ak ks h1 h2 h3 ih=>intro m y k;cases k with|@tup m _ its' ks' k1 k2 k3=>obtain⟨o,e,c,q,d⟩:=h1;obtain⟨o',e',c',q',d'⟩:=k1;rw[e]at e';cases e';rw[d]at d';cases d';rw[Yx h2 k2 λi x y v e1 e2 e3=>ih i x v e1 e3 (k3 i y v e2 e3)]
theorem dA.kept{x}(r:dA h n x v)(k:∀b ak,h.IsTuple b ak->h'.IsTuple b ak):dA h' n x v:=by induction r with|int z t=>exact .int z t|bl b=>exact .bl b|str x t=>exact .str x t|tup h1 h2 h3 ih=>exact .tup (k _ _ h1) h2 ih
theorem dA.up{x}(r:dA h n x v):∀{m:Nat},n<=m->dA h m x v:=by induction r with|int z t=>intro m _;exact .int z t|bl b=>intro m _;exact .bl b|str x t=>intro m _;exact .str x t|tup h1 h2 h3 ih=>intro m l;obtain⟨m,rfl⟩:∃m',m=m'+1:=⟨m-1,Z'⟩;exact .tup h1 h2 λi k v e1 e2=>ih i k v e1 e2 Z'
theorem Yy{Q}(h:Q (hashInt (if b then 1 else 0)) {s with toks:=s.toks+1}):Wb 4#0 A (PySem.pyHash (.bool b)) Q E s:=by
 have z:reduceHash (if b then 1 else 0)=hashInt (if b then 1 else 0):=by cases b<;>decide+kernel
 refine PySem.W.pyHash_slot (id:="int.__hash__") (T:="bool") (hT:=rfl) (slot:=F.slot_bool_hash) (entry:=entry_int_hash) (args:=args_int_hash _) (hid:=beq_builtin_none _) (hu:=.inl rfl) (body:=?_);cases b;.exact show Wb _ _ (mkInt 0>>=λv=>ret v) _ _ _ from W0 (wpAny_mkInt (W3 ⟨_,_,rfl,z▸h⟩))
 .exact show Wb _ _ (mkInt 1>>=λv=>ret v) _ _ _ from W0 (wpAny_mkInt (W3 ⟨_,_,rfl,z▸h⟩))
theorem Gd(w:Ww):∀ks:List NK,t8 w ks=ks.map (fq w)|[]=>rfl|k::ks=>by simp only[t8,We,Gd w ks]
theorem Ge:∀xs ys:List NK,jw (xs++ys)=jw xs+jw ys|[],ys=>#v[jw]|x::xs,ys=>by simp only[List.cons_append,jw,Ge xs ys];lia
theorem dA.pyHash(r:dA h n k v):∀{A:WA}{s:W6}{Q:Int->W6->Prop},s.heap=h->A.units+n<WR->Q (fq w k) {s with toks:=s.toks+iV k}->Wb 4#0 A (PySem.pyHash v) Q E s:=by induction r with|int z t=>intro A s Q _ _ q;exact wpAny_pyHash_int q|bl b=>intro A s Q _ _ q;exact Yy q|str x t=>intro A s Q _ _ q;exact wpAny_pyHash_str q|@tup n a ak ks h1 h2 h3 ih=>
  intro A s Q hs hu q;subst hs;obtain⟨o,ho,hc,m,hd⟩:=id h1;have hT:s.TypeIs (.ref a) "tuple":=⟨o,ho,hc⟩;refine PySem.W.pyHash_slot (T:="tuple") hT F.slot_tuple_hash F.entry_tuple_hash (F.args_tuple_hash_1 _) (beq_builtin_none _) (.inr Z') ?_;show Wb _ _ (Builtin.Tuple.tupleItemsOf (.ref a)>>=_) _ _ s;refine W0 (wpAny_tupleItemsOf ho hd ?_);refine W0 ?_;rw[<-Array.forIn_toList];refine wpAny_forIn_list _ (λrest(b:Array Int)s'=>∃i,i<=ks.length/\rest=ak.toList.drop i/\b.toList=(ks.take i).map (fq w)/\s'={s with toks:=s.toks+jw (ks.take i)}) _ ?_ ?_ _ _ ⟨0,Qc _,rfl,rfl,#v[jw]⟩
  .rintro x rest b s'⟨i,hi,hr,hb,rfl⟩;have a0:i<ak.toList.length:=by
    rcases Nat.lt_or_ge i ak.toList.length with z|z;.exact z
    .rw[List.drop_eq_nil_of_le z]at hr;cases hr
   rw[J0 a0]at hr;injection hr with hx hr;have pH:i<ks.length:=by lia
   refine W0 (ih i ks[i] x (W2 pH) %[hx|W2 a0] rfl (show A.units+1+n<WR by lia) ?_);have ht:ks.take (i+1)=ks.take i++[ks[i]]:=by simp_all
   have fin:∃j,j<=ks.length/\rest=ak.toList.drop j/\(b.push (fq w ks[i])).toList=(ks.take j).map (fq w)/\({s with toks:=s.toks+jw (ks.take i)+iV ks[i]}:W6)={s with toks:=s.toks+jw (ks.take j)}:=by refine⟨i+1,pH,hr,by rw[ht,WS,Um,hb];rfl,?_⟩;rw[ht,Ge];simp only[jw];rw[Nat.add_zero,Uv]
   first|exact W3 fin|exact W0 (W3 (W3 fin))
  .rintro b s'⟨i,hi,hr,hb,rfl⟩;have hz:i=ks.length:=by have:=congrArg J7 hr;simp at this;simp at h2;lia
   subst hz;rw[List.take_length]at hb⊢;show Wb _ _ (retInt (Builtin.Tuple.tupleHashOf b.toList)) _ _ _;rw[hb];refine W0 (wpAny_mkInt (W3 ⟨_,_,rfl,?_⟩));simp only[fq,iV,Gd]at q;simpa[Uv]using q
theorem dA.quiet(r:dA s.heap n k v):∀{A:WA}{m:Nat}{Q:Bool->W6->Prop},n<=m->Q true s->Wb 4#0 A (eqIsQuiet m v) Q E s:=by induction r with|int z t=>intro A m Q _ q;rw[eqIsQuiet_byValue _ rfl];exact W3 q|bl b=>intro A m Q _ q;rw[eqIsQuiet_byValue _ rfl];exact W3 q|str x t=>intro A m Q _ q;rw[eqIsQuiet_byValue _ rfl];exact W3 q|@tup n a ak ks h1 h2 h3 ih=>
  intro A m Q hm q;obtain⟨o,ho,hc,mm,hd⟩:=id h1;have hT:s.TypeIs (.ref a) "tuple":=⟨o,ho,hc⟩;obtain⟨m,rfl⟩:∃m',m=m'+1:=⟨m-1,Z'⟩;unfold eqIsQuiet;refine W0 (wpAny_specialOf hT F.slot_tuple_eq.lookup ?_);show Wb _ _ (isInstance (.ref a) (.type "tuple")>>=_) _ _ s;refine W0 (JV hT isSubtype_tuple_tuple ?_);simp only[JG,JK,if_false];refine W0 (QE ho hd ?_);refine W0 ?_;show Wb _ _ (forIn ak _ _) _ _ s;rw[<-Array.forIn_toList];refine wpAny_forIn_list _ (λrest r s'=>r.1=none/\s'=s/\∃i,rest=ak.toList.drop i) _ ?_ ?_ _ _ ⟨rfl,rfl,0,rfl⟩
  .rintro x rest r s'⟨hr,rfl,i,hi⟩;have a0:i<ak.toList.length:=by grind[List.drop_eq_nil_of_le]
   rw[J0 a0]at hi;injection hi with hx hi;have pH:i<ks.length:=by lia
   refine W0 (ih i ks[i] x (W2 pH) %[hx|W2 a0] Z' ?_);simp only[JG,JK,if_false];exact W3 ⟨rfl,rfl,i+1,hi⟩
  grind[W3]
theorem nh(a b:Int):decide (NK.i a=NK.i b)=(a==b):=by grind
theorem zJ(a b:Str):decide (NK.s a=NK.s b)=(a==b):=by grind
theorem zK(a b:Bool):(a==b)=(((if a then 1 else 0:Int))==(if b then 1 else 0:Int)):=by cases a<;>cases b<;>rfl
theorem Yz{ys e}(he:∀(j:Nat)x y,xs[j]?=some x->ys[j]?=some y->e j=decide (x=y)):((W7 (min xs.length ys.length)).all e&&xs.length==ys.length)=decide (NK.t xs=NK.t ys):=by
 by_cases hl:xs.length=ys.length
 .rw[<-hl,Nat.min_self];simp only[beq_self_eq_true,Bool.and_true];by_cases hx:xs=ys;.simp_all
  .rw[decide_eq_false λq=>hx (NK.t.inj q)];rw[List.all_eq_false];apply Classical.byContradiction;intro hn;apply hx;apply Uy hl;intro j a b;apply Classical.byContradiction;intro cE;refine hn ⟨j,Ws.mpr a,?_⟩;rw[he j _ _ (W2 a) (W2 b)];simpa using cE
 grind
theorem dA.YA{x}(r:dA s.heap n x u):∀{A:WA}{m:Nat}{y:NK}{v:Value},dA s.heap m y v->A.units+n<WR->EqAt A s u v (decide (x=y)):=by induction r with
 |int z t=>intro A m y v k hu;cases k with|int z' t'=>rw[nh];exact EqAt.int_int _ _ _ _|bl b=>rw[nh];exact EqAt.int_bool _ _ _|str x t'=>rw[decide_eq_false λq=>nomatch q];exact EqAt.int_str _ _ _ _|tup k1 k2 k3=>rw[decide_eq_false λq=>nomatch q];exact EqAt.int_tuple _ _ k1 Z'
 |bl b=>intro A m y v k hu;cases k with|int z' t'=>rw[nh];exact EqAt.bool_int _ _ _|bl b=>rw[nh,<-zK];exact EqAt.bool_bool _ _|str x t'=>rw[decide_eq_false λq=>nomatch q];exact EqAt.bool_str _ _ _|tup k1 k2 k3=>rw[decide_eq_false λq=>nomatch q];exact EqAt.bool_tuple _ k1 Z'
 |str x t=>intro A m y v k hu;cases k with|int z' t'=>rw[decide_eq_false λq=>nomatch q];exact EqAt.str_int _ _ _ _|bl b=>rw[decide_eq_false λq=>nomatch q];exact EqAt.str_bool _ _ _|str x t'=>rw[zJ];exact EqAt.str_str _ _ _ _|tup k1 k2 k3=>rw[decide_eq_false λq=>nomatch q];exact EqAt.str_tuple _ _ k1 Z'
 |@tup n a ak ks h1 h2 h3 ih=>intro A m y v k hu;cases k with|int z' t'=>rw[decide_eq_false λq=>nomatch q];exact EqAt.tuple_int _ _ h1 Z'|bl b=>rw[decide_eq_false λq=>nomatch q];exact EqAt.tuple_bool _ h1 Z'|str x t'=>rw[decide_eq_false λq=>nomatch q];exact EqAt.tuple_str _ _ h1 Z'|@tup m' b its' ks' k1 k2 k3=>
   by_cases iK:a=b;.subst iK;have e:NK.t ks=NK.t ks':=dA.inj (dA.tup h1 h2 h3) (dA.tup k1 k2 k3);rw[decide_eq_true e];exact EqAt.same _
   .refine EqAt.of_refs iK ?_;let e:Nat->Bool:=λj=>match ks[j]?,ks'[j]? with|some x,some y=>decide (x=y)|_,_=>false;have z1:ak.size=ks.length:= ~~~h2.symm;have z2:its'.size=ks'.length:= ~~~k2.symm;have q:=RcAt.tuples (A:=A) (s:=s) (e:=e) h1 k1 Z' λj j1 j2=>by
     have l1:j<ks.length:=by lia
     have l2:j<ks'.length:=by lia
     have ee:e j=decide (ks[j]=ks'[j]):=by simp only[e,W2 l1,W2 l2]
     rw[ee];exact ih j ks[j] ak[j] (W2 l1) #v[j1] (k3 j ks'[j] its'[j] (W2 l2) #v[j2]) (show A.units+1+n<WR by lia)
    rw[z1,z2,Yz λj x y e1 e2=>by simp only[e,e1,e2]]at q;exact q
theorem YB{es ep}(ho:h.get? d=some o)(hd:o.data=.dict es ep)(hs:Ql d h h'):∀b ak,h.IsTuple b ak->h'.IsTuple b ak:=λb ak hh=>by
 obtain⟨o',e,c,n,q⟩:=hh
 have cE:b≠d:=by grind
 exact⟨o',(hs.2 b cE).trans e,c,n,q⟩
noncomputable def nkKind(prog:Wt)(w:Ww):HeapKind prog w NK where
 is:=λh k a=>dA h 6 k (.ref a)
 hash:=fq w
 draws:=iV
 room:=λA=>A.units+6<WR
 inj:=λhx hy=>hx.inj hy
 keeps:=λx ho hd hs=>x.kept (YB ho hd hs)
 pyHash:=λhu hk h=>hk.pyHash rfl hu h
 eqBool:=λhu hx hy h=>hx.YA hy hu _ _ _ _ h
 quiet:=λhk h=>hk.quiet Z' h
def kN:Key->NK|.inl z=>.i z|.inr x=>.s x
theorem YC(h:kN p=kN q):p=q:=by cases p<;>cases q<;>first|(cases h;rfl)|cases h
def kL(h:Heap)(m:Bool)(k:NK)(u:Value):Prop:=match m with|true=>∃a,u=.ref a/\dA h 6 k u|false=>∃q:Key,i9 q u=true/\k=kN q
theorem YD(h1:i9 p u=true)(h2:i9 q u=true):p=q:=by all_goals grind[kZ]
def ent(w:Ww)(x:NK×Value×Value):DictEntry:=⟨fq w x.1,x.2.1,x.2.2⟩
theorem Gf{Q}(hu:A.units+6<WR)(hk:kL s.heap m k u)(h:Q (fq w k) {s with toks:=s.toks+iV k}):Wb 4#0 A (PySem.pyHash u) Q E s:=by cases m with|true=>obtain⟨a,rfl,r⟩:=hk;exact r.pyHash rfl hu h|false=>obtain⟨q,h1,rfl⟩:=hk;refine(cL prog w).pyHash (k:=q) h1 ?_;cases q<;>exact h
theorem Gg:∀{xs:List (NK×Value×Value)},(∀x∈xs,kL h true x.1 x.2.1)->∃ys:List (NK×Addr×Value),xs=ys.map λy=>(y.1,Value.ref y.2.1,y.2.2)|[],_=>⟨[],rfl⟩|x::xs,q=>by obtain⟨ys,e⟩:=Gg (xs:=xs) λy hy=>q y (W8 _ hy);obtain⟨a,e1,_⟩:=q x Wc;exact⟨(x.1,a,x.2.2)::ys,by rw[We,<-e];simp only[<-e1]⟩
theorem Gh{k:NK}{d:Addr}{o:Obj}{es ep}{xs:List (NK×Value×Value)}{Q:Option Nat->W6->Prop}(hu:A.units+6<WR)(hk:kL s.heap m k u)(ho:s.heap.get? d=some o)(hd:o.data=.dict es ep)(he:es.toList=xs.map (ent w))(hx:∀x∈xs,kL s.heap m x.1 x.2.1)(hn:(xs.map (·.1)).Nodup)(Gi:(∀(j:Nat)p,xs[j]?≠some (k,p))->Q none s)(YE:∀(j:Nat)p,xs[j]?=some (k,p)->Q (some j) s):Wb 4#0 A (dictFind d u (fq w k)) Q E s:=by
 cases m with|true=>
 obtain⟨a,rfl,r⟩:=hk;obtain⟨ys,rfl⟩:=Gg hx;refine wpAny_dictFind_heap (knd:=nkKind prog w) (xs:=ys) hu r ho hd (by rw[he,Wn];rfl) (λy hy=>?_) (by rw[Wn]at hn;exact hn) (λjq=>Gi λj p e=>?_) λj p e=>?_;.obtain⟨b,e1,e2⟩:=hx _ (Qh hy);cases e1;exact e2
 .rw[Wo]at e;cases q:ys[j]? with|none=>rw[q]at e;cases e|some y=>rw[q]at e;simp only[WM,Wg]at e;exact jq j y.2 (by rw[q,<-show y.1=k from congrArg Prod.fst e])
 .exact YE j (.ref p.1,p.2) (by rw[Wo,e];rfl)|false=>
 obtain⟨q,h1,rfl⟩:=hk;have pG:∀(j:Nat)e,es[j]?=some e->∃x,xs[j]?=some x/\e=ent w x:=λj e z=>by rw[<-QJ,he,Wo]at z;cases y:xs[j]? with|none=>rw[y]at z;cases z|some x=>rw[y]at z;simp only[WM,Wg]at z;exact⟨x,rfl,z.symm⟩
 have ks:KeysOf (cL prog w) es:=λe pE=>by obtain⟨j,hj⟩:=List.mem_iff_getElem?.mp (Array.mem_toList_iff.mpr pE);obtain⟨x,e1,rfl⟩:=pG j e (by rw[<-QJ];exact hj);obtain⟨q',e2,e3⟩:=hx x (Q0 e1);refine⟨q',e2,?_⟩;show fq w x.1=_;rw[e3];cases q'<;>rfl
 have hh:fq w (kN q)=(cL prog w).hash q:=by cases q<;>rfl
 rw[hh];refine wpAny_dictFind_of (knd:=cL prog w) (k:=q) h1 ho hd ks ?_;cases hf:es.findIdx? λe=>(cL prog w).is q e.key with|none=>
 refine Gi λj p e=>?_;have hj:j<xs.length:=(W9.mp e).1;have hz:es.size=xs.length:=by rw[<-Q9,he,WB]
 obtain⟨x,e1,e2⟩:=pG j es[j] #v[hz,hj];rw[e]at e1;cases e1;have:=Array.findIdx?_eq_none_iff.mp hf es[j] (Array.getElem_mem _);obtain⟨q',e3,e4⟩:=hx _ (Q0 e);rw[YC e4]at this;rw[e2]at this;have z:i9 q' p.1=false:=this;grind|some j=>obtain⟨a0,hp,_⟩:=Array.findIdx?_eq_some_iff_getElem.mp hf;obtain⟨x,e1,e2⟩:=pG j es[j] #v[a0];obtain⟨q',e3,e4⟩:=hx x (Q0 e1);rw[e2]at hp;have:q=q':=YD (show i9 q x.2.1=true from hp) e3;grind
noncomputable def atN(xs:List (NK×Value×Value))(k:NK):Option (Value×Value):=(xs.find? λx=>decide (x.1=k)).map (·.2)
noncomputable def stN(xs:List (NK×Value×Value))(k:NK)(u v:Value):List (NK×Value×Value):=if(xs.any λx=>decide (x.1=k))=true then xs.map λx=>if x.1=k then(x.1,x.2.1,v)else x else xs++[(k,u,v)]
theorem Gk(h:∀(j:Nat)p,xs[j]?≠some (k,p)):atN xs k=none/\(xs.any λx=>decide (x.1=k))=false:=by
 have z:∀x∈xs,decide (x.1=k)=false:=λx hx=>by grind[List.mem_iff_getElem?]
 grind[atN]
theorem zL:∀{xs:List (NK×Value×Value)}{k:NK}{j:Nat}{p:Value×Value},(xs.map (·.1)).Nodup->xs[j]?=some (k,p)->atN xs k=some p/\(xs.any λx=>decide (x.1=k))=true|[],k,j,p,_,e=>by simp at e|x::xs,k,j,p,hn,e=>by rw[We,WL]at hn;cases j with|zero=>simp at e;subst e;simp[atN]|succ j=>have e':xs[j]?=some (k,p):= ~~~e;have cE:¬x.1=k:=λz=>hn.1 (by rw[z];exact Wj.mpr ⟨_,Q0 e',rfl⟩);obtain⟨h1,h2⟩:=zL hn.2 e';grind[atN]
theorem YF{k:NK}{d:Addr}{o:Obj}{es ep}{xs:List (NK×Value×Value)}(hu:A.units+6<WR)(hk:kL s.heap m k u)(ho:s.heap.get? d=some o)(hd:o.data=.dict es ep)(he:es.toList=xs.map (ent w))(hx:∀x∈xs,kL s.heap m x.1 x.2.1)(hn:(xs.map (·.1)).Nodup)(h:Q ((atN xs k).map (·.2)) {s with toks:=s.toks+iV k}):Wb 4#0 A (dictGet d u) Q E s:=by
 unfold dictGet;try with_reducible refine WZ ?_
 refine W0 (Gf hu hk (W0 (Gh (s:={s with toks:=s.toks+iV k}) hu hk ho hd he hx hn ?_ ?_)));.intro jq;rw[(Gk jq).1]at h;exact W3 h
 .intro j p hj;rw[(zL hn hj).1]at h;refine W0 (Uq (s:={s with toks:=s.toks+iV k}) ho hd ?_);rw[<-QJ,he,Wo,hj];exact W3 h
universe H in theorem YG(hn:(xs.map (·.1)).Nodup):((stN xs k u v).map (·.1)).Nodup:=by
 unfold stN;split;.rw[Wn];rw[show((λx:NK×Value×Value=>x.1)∘λx=>if x.1=k then(x.1,x.2.1,v)else x)=(·.1)from funext λx=>by simp only[Function.comp];split<;>rfl];exact hn
 .rename_i hh;rw[WS,List.nodup_append];refine⟨hn,V',λx hx y hy e=>?_⟩;simp only[We,UA,List.mem_singleton]at hy;subst hy e;obtain⟨z,hz,e⟩:=Wj.mp hx;exact hh (List.any_eq_true.mpr ⟨z,hz,decide_eq_true e⟩)
theorem Gm:∀{xs:List (NK×Value×Value)}{j:Nat}{p:Value×Value},(xs.map (·.1)).Nodup->xs[j]?=some (k,p)->(xs.map (ent w)).modify j (λe=>{e with val:=v})=(xs.map λx=>if x.1=k then(x.1,x.2.1,v)else x).map (ent w)
 |[],j,p,_,e=>by simp at e|x::xs,j,p,hn,e=>by
  rw[We,WL]at hn;cases j with|zero=>
   simp at e;subst e;have z:(xs.map λx=>if x.1=k then(x.1,x.2.1,v)else x)=xs:=by
    conv=>rhs;rw[<-List.map_id xs]
    refine WT λy hy=>?_;rw[if_neg λq=>hn.1 (Wj.mpr ⟨y,hy,q⟩)];rfl
   rw[We,We,We,z,if_pos rfl];rfl|succ j=>have e':xs[j]?=some (k,p):= ~~~e;have cE:¬x.1=k:=λz=>hn.1 (by rw[z];exact Wj.mpr ⟨_,Q0 e',rfl⟩);rw[We,We,We,if_neg cE];show ent w x::(xs.map (ent w)).modify j _=_;rw[Gm hn.2 e']
theorem YH{k:NK}{v:Value}{d:Addr}{o:Obj}{es ep}{xs:List (NK×Value×Value)}{Q:Unit->W6->Prop}(hu:A.units+6<WR)(hk:kL s.heap m k u)(ho:s.heap.get? d=some o)(hc:o.ExactDict)(hd:o.data=.dict es ep)(he:es.toList=xs.map (ent w))(hx:∀x∈xs,kL s.heap m x.1 x.2.1)(hn:(xs.map (·.1)).Nodup)(hz:xs.length<=Wd)(hQ:∀h' o' gU gW,h'.get? d=some o'->o'.ExactDict->o'.data=.dict gU gW->gU.toList=(stN xs k u v).map (ent w)->Ql d s.heap h'->Q () {s with heap:=h',toks:=s.toks+iV k}):Wb 4#0 A (dictSet d u v) Q E s:=by
 have hsz:es.size=xs.length:=by rw[<-Q9,he,WB]
 unfold dictSet;try with_reducible refine WZ ?_
 refine W0 (Gf hu hk ?_);unfold dictSetHashed;try with_reducible refine WZ ?_
 refine W0 (Gh (s:={s with toks:=s.toks+iV k}) hu hk ho hd he hx hn ?_ ?_);.intro jq;refine W0 (QW (wpAny_updateDictKeys (hz:=by lia) (s:={s with toks:=s.toks+iV k}) ho hd (hQ _ _ _ (ep+1) (WN _ ho (Obj.isFreed_of_dict (Obj.data_mapDictKeys hd _))) (hc.mapDictKeys _) (Obj.data_mapDictKeys hd _) ?_ (Qr ..))));unfold stN;rw[if_neg (by rw[(Gk jq).2];simp)];simp[he,ent]
 .intro j p hj;refine W0 (QW (W0 (wpAny_updateDict (s:={s with toks:=s.toks+iV k}) ho hd (wpAny_point (hQ _ _ _ ep (WN _ ho (Obj.isFreed_of_dict (Obj.data_mapDict hd _))) (hc.mapDict _) (Obj.data_mapDict hd _) ?_ (Qr ..))))));unfold stN;rw[if_pos (zL hn hj).2,<-Gm hn hj,<-he];grind
inductive lJ(H:Hp):Nat->NK->V->Prop|int{n:Nat}(z:Int):lJ H n (.i z) (.int z)|bl{n:Nat}(b:Bool):lJ H n (.i (if b then 1 else 0)) (.bl b)|str{n:Nat}(x:Str):lJ H n (.s x) (.str x)|tup{n:Nat}{a:Addr}{vs:List V}{ks:List NK}:H a=some (.tup vs)->ks.length=vs.length->(∀(i:Nat)k v,ks[i]?=some k->vs[i]?=some v->lJ H n k v)->lJ H (n+1) (.t ks) (.ref a)
def lK(H:Hp)(m:Bool)(k:NK)(v:V):Prop:=match m with|true=>(∃a,v=.ref a)/\lJ H 6 k v|false=>∃q:Key,k=kN q/\v=kV q
theorem Vals.YI{xs:List V}(r:Vals xs us)(e:us[i]?=some u):∃x,xs[i]?=some x/\RelV x u:=by
 have h1:=r.length;have h2:i<xs.length:=by have:=(W9.mp e).1;lia
 obtain⟨u',e',rr⟩:=r.get (W2 h2);rw[e]at e';cases e';exact⟨_,W2 h2,rr⟩
theorem lJ.nk{k:NK}{v:V}(ok:cA P w H h)(r:lJ H n k v):∀{u:Value},RelV v u->dA h n k u:=by induction r with|int z=>intro u q;obtain⟨t,rfl⟩:=q;exact .int z t|bl b=>intro u q;cases q;exact .bl b|str x=>intro u q;obtain⟨t,rfl⟩:=q;exact .str x t|@tup n a vs ks h1 h2 h3 ih=>intro u q;cases q;obtain⟨_,ak,r,p⟩:=show bP P w H h a (.tup vs)from ok a _ h1;have ht:h.IsTuple a ak.toArray:=p.tup;refine .tup ht (by rw[h2];simpa using r.length) λi k u e1 e2=>?_;obtain⟨x,e3,rx⟩:=r.YI (u:=u) (i:=i) (~~~e2);exact ih i k x e1 e3 rx
theorem lK.key(ok:cA P w H h)(r:lK H m k v)(q:RelV v u):kL h m k u:=by cases m with|true=>obtain⟨⟨a,rfl⟩,r⟩:=r;cases q;exact⟨a,rfl,r.nk ok rfl⟩|false=>obtain⟨q',rfl,rfl⟩:=r;exact⟨q',by rw[<-Bz P w];exact mC q,rfl⟩
abbrev NE:=NK×V×V
def dB:List NE->List (NK×Value×Value)->Prop:=Paired λ(p:NE)(x:NK×Value×Value)=>p.1=x.1/\RelV p.2.1 x.2.1/\RelV p.2.2 x.2.2
theorem Gn{kvs:List NE}{es:List DictEntry}(h:Paired (λ(p:NE)(e:DictEntry)=>e.hash=fq w p.1/\RelV p.2.1 e.key/\RelV p.2.2 e.val) kvs es):∃xs,dB kvs xs/\es=xs.map (ent w):=by induction h with|nil=>exact⟨[],.nil,rfl⟩|@cons p e _ _ r t ih=>obtain⟨xs,h1,h2⟩:=ih;refine⟨(p.1,e.key,e.val)::xs,.cons ⟨rfl,r.2.1,r.2.2⟩ h1,?_⟩;rw[We,<-h2];unfold ent;rw[<-r.1]
theorem Gp{kvs:List NE}{xs:List (NK×Value×Value)}(h:dB kvs xs):Paired (λ(p:NE)(e:DictEntry)=>e.hash=fq w p.1/\RelV p.2.1 e.key/\RelV p.2.2 e.val) kvs (xs.map (ent w)):=by induction h with|nil=>exact .nil|@cons p x _ _ r t ih=>exact .cons ⟨by show fq w x.1=_;rw[r.1],r.2.1,r.2.2⟩ ih
theorem dB.keys{kvs:List NE}{xs:List (NK×Value×Value)}(h:dB kvs xs):kvs.map (·.1)=xs.map (·.1):=by induction h with|nil=>rfl|cons r t ih=>rw[We,We,r.1,ih]
noncomputable def valN(kvs:List NE)(k:NK):Option V:=(kvs.find? λp=>decide (p.1=k)).map (·.2.2)
noncomputable def putN(kvs:List NE)(k:NK)(y v:V):List NE:=if(kvs.any λp=>decide (p.1=k))=true then kvs.map λp=>if p.1=k then(p.1,p.2.1,v)else p else kvs++[(k,y,v)]
theorem dB.val(k:NK){kvs:List NE}{xs:List (NK×Value×Value)}(h:dB kvs xs):d_ (valN kvs k) ((atN xs k).map (·.2))/\(kvs.any λp=>decide (p.1=k))=xs.any λx=>decide (x.1=k):=by induction h with|nil=>exact⟨trivial,rfl⟩|@cons p x kvs xs r t ih=>
  obtain⟨i1,i2⟩:=ih;rw[Qz,Qz,i2,r.1];refine⟨?_,rfl⟩;unfold valN atN at i1⊢;rw[Qf,Qf,r.1];by_cases e:x.1=k;.rw[decide_eq_true e];exact r.2.2
  .rw[decide_eq_false e];exact i1
theorem dB.st(rv:RelV v r){kvs:List NE}{xs:List (NK×Value×Value)}(h:dB kvs xs):dB (kvs.map λp=>if p.1=k then(p.1,p.2.1,v)else p) (xs.map λx=>if x.1=k then(x.1,x.2.1,r)else x):=by induction h with|nil=>exact .nil|@cons p x _ _ q t ih=>
  rw[We,We];refine .cons ?_ ih;rw[q.1];by_cases e:x.1=k;.rw[if_pos e,if_pos e];exact⟨rfl,q.2.1,rv⟩
  .rw[if_neg e,if_neg e];exact q
theorem dB.app(ry:RelV y u)(rv:RelV v r){kvs:List NE}{xs:List (NK×Value×Value)}(h:dB kvs xs):dB (kvs++[(k,y,v)]) (xs++[(k,u,r)]):=by induction h with|nil=>exact .cons ⟨rfl,ry,rv⟩ .nil|cons q t ih=>exact .cons q ih
theorem dB.put{kvs}(ry:RelV y u)(rv:RelV v r)(h:dB kvs xs):dB (putN kvs k y v) (stN xs k u r):=by
 unfold putN stN;rw[(dB.val k h).2];split;.exact h.st rv
 .exact h.app ry rv
section
variable{kvs:List NE}
structure oC(w:Ww)(h:Heap)(a:Addr)(ep:Nat)(xs:List (NK×Value×Value))(o:Obj)(es:Array DictEntry):Prop where
 get:h.get? a=some o
 ex:o.ExactDict
 data:o.data=.dict es ep
 ents:es.toList=xs.map (ent w)vX:(xs.map (·.1)).Nodup
theorem oD(ok:cA P w H h)(e:H a=some (.dN ep kvs)):kvs.length<=Wd/\(a==Qw)=false/\∃xs o es,dB kvs xs/\oC w h a ep xs o es:=by obtain⟨z,hS,o,es,h1,h2,h3,h4,h5⟩:=show bP P w H h a (.dN ep kvs)from ok a _ e;obtain⟨xs,q1,q2⟩:=Gn h4;exact⟨z,hS,xs,o,es,q1,h1,h2,h3,q2,by rw[<-q1.keys];exact h5⟩
theorem YJ{es}(z:kvs.length<=Wd)(hS:(a==Qw)=false)(r:dB kvs xs)(d:oC w h a ep xs o es):bP P w H h a (.dN ep kvs):=⟨z,hS,o,es,d.get,d.ex,d.data,%[d.ents|Gp r],%[r.keys|d.vX]⟩
theorem oC.typeIs{xs:List (NK×Value×Value)}{o:Obj}{es:Array DictEntry}(d:oC w s.heap a ep xs o es):s.TypeIs (.ref a) "dict":=⟨o,d.get,d.ex.1⟩
theorem oC.noDict{es}(d:oC w h a ep xs o es):∀b,Value.ref a=.ref b->∃ob,h.get? b=some ob/\ob.dict=none:=λb e=>by cases e;exact⟨o,d.get,d.ex.2.1⟩
theorem Gq(ok:cA P w H h)(r:dB kvs xs)(hk:∀p∈kvs,lK H m p.1 p.2.1):∀x∈xs,kL h m x.1 x.2.1:=by induction r with|nil=>intro x hx;simp at hx|cons q t ih=>
 intro x hx;rcases Wv.mp hx with rfl|hx;.rw[<-q.1];exact(hk _ Wc).key ok q.2.1
 .exact ih (λp hp=>hk p (W8 _ hp)) x hx
end
def kM(H:Hp)(a:Addr)(y:V)(r:Option V):Prop:=∃m ep kvs k,H a=some (.dN ep kvs)/\(∀p∈kvs,lK H m p.1 p.2.1)/\lK H m k y/\r=valN kvs k
section
variable{y v:V}{r:Value}{o:Option V}
theorem zM(hu:A.units+6<WR)(I:Inv X pins J H s)(g:kM H a y o)(ry:RelV y u)(h:∀w' s',Inv X pins J H s'->d_ o w'->Q w' s'):Wb 5#0 A (dictGet a u) Q E s:=by obtain⟨m,ep,kvs,k,e,hk,ky,rfl⟩:=g;obtain⟨z,hS,xs,ob,es,rx,d⟩:=oD I.aD e;exact YF hu (ky.key I.aD ry) d.get d.data d.ents (Gq I.aD rx hk) d.vX (h _ _ (I.tok _) (rx.val k).1)
theorem vY(I:Inv X pins J H s)(g:kM H a y o):s.TypeIs (.ref a) "dict"/\(∀b,Value.ref a=.ref b->∃ob,s.heap.get? b=some ob/\ob.dict=none)/\(a==Qw)=false:=by obtain⟨m,ep,kvs,k,e,hk,ky,rfl⟩:=g;obtain⟨z,hS,xs,ob,es,rx,d⟩:=oD I.aD e;exact⟨d.typeIs,d.noDict,hS⟩
theorem YK{Q}(hu:A.units+8<WR)(I:Inv X pins J H s)(g:kM H a y (some v))(ry:RelV y u)(h:∀w' s',Inv X pins J H s'->RelV v w'->Q w' s'):Wb 5#0 A (getItem (.ref a) u) Q E s:=by
 obtain⟨hT,_,_⟩:=vY I g;unfold getItem;try with_reducible refine WZ ?_
 refine W0 (wpAny_sequenceKey hT U' ?_);refine W0 (WP (name:=Str.ofString "__getitem__") hT slot_dict_getitem (WJ slot_dict_getitem hT entry_dict_getitem ?_ (args_dict_getitem _ _)));show Wb _ _ (dictGet a u>>=_) _ _ s;refine W0 (zM (show A.units+1+6<WR by lia) I g ry λw' s' I' rr=>?_);obtain⟨w2,rfl,r2⟩:=d_.some_of rr;exact W3 ⟨w2,rfl,W3 (h w2 s' I' r2)⟩
theorem YL{Q}(hu:A.units+8<WR)(I:Inv X pins J H s)(g:kM H a y o)(ry:RelV y u)(h:∀s',Inv X pins J H s'->Q o.isSome s'):Wb 5#0 A (contains (.ref a) u) Q E s:=by
 obtain⟨hT,_,hS⟩:=vY I g;unfold contains;try with_reducible refine WZ ?_
 refine W0 (wpAny_specialOf hT slot_dict_contains.lookup ?_);show Wb _ _ (if(some (Value.builtin "dict.__contains__")==some Value.none)=true then _ else _) _ E s;rw[if_neg %[beq_builtin_none|WW]];refine W0 (wpAny_callSpecialUnlessNone?_slot (name:=Str.ofString "__contains__") hT slot_dict_contains (WJ slot_dict_contains hT entry_dict_contains ?_ (args_dict_contains _ _)));show Wb _ _ (dictGet a u>>=_) _ _ s;refine W0 (zM (show A.units+1+6<WR by lia) I g ry λw' s' I' rr=>?_);cases o with|some x=>obtain⟨w2,rfl,r2⟩:=d_.some_of rr;show Wb _ _ (ret (.bool true)) _ _ _;exact W3 ⟨_,rfl,QF (h s' I')⟩|none=>obtain rfl:=d_.none_of rr;show Wb _ _ (Builtin.Dict.pendingKey? a u>>=_) _ _ _;exact W0 (wpAny_pendingKey_other hS (W3 ⟨_,rfl,QF (h s' I')⟩))
theorem YM{Q}(hu:A.units+8<WR)(I:Inv X pins J H s)(g:kM H a y o)(ry:RelV y u)(h:∀s',Inv X pins J H s'->Q (.bool o.isSome) s'):Wb 5#0 A (WX .In u (.ref a)) Q E s:=by show Wb _ _ (do return .bool (<-contains (.ref a) u)) Q E s;exact W0 (YL hu I g ry λs' I'=>W3 (h s' I'))
theorem YN{Q}(hu:A.units+8<WR)(I:Inv X pins J H s)(g:kM H a y o)(ry:RelV y u)(rd:RelV d r)(h:∀w' s',Inv X pins J H s'->RelV (o.getD d) w'->Q w' s'):Wb 5#0 A (call (.builtin "dict.get") [.ref a,u,r]) Q E s:=by obtain⟨hT,_,hS⟩:=vY I g;refine WJ Jq hT PySem.F.entry_dict_get ?_ (PySem.F.args_dict_get_3 _ _ _);show Wb _ _ (dictGet a u>>=_) _ _ s;refine W0 (zM (show A.units+1+6<WR by lia) I g ry λw' s' I' rr=>?_);cases o with|some x=>obtain⟨w2,rfl,r2⟩:=d_.some_of rr;exact W3 ⟨_,rfl,h w2 s' I' r2⟩|none=>obtain rfl:=d_.none_of rr;show Wb _ _ (Builtin.Dict.missed a u>>=_) _ _ _;exact W0 (wpAny_missed_other hS (W3 ⟨_,rfl,h _ s' I' rd⟩))
def vZ(H:Hp)(a:Addr)(y v:V)(R:Hp->Prop):Prop:=∃m ep kvs k,H a=some (.dN ep kvs)/\(∀p∈kvs,lK H m p.1 p.2.1)/\lK H m k y/\kvs.length<Wd/\∀gW,R (upd H a (.dN gW (putN kvs k y v)))
theorem YO(kvs:List NE)(k:NK)(y v:V):(putN kvs k y v).length<=kvs.length+1:=by
 unfold putN;split;.simp
 .simp
theorem Gr{Q}(hu:A.units+6<WR)(I:Inv X pins J H s)(g:vZ H a y v R)(ry:RelV y u)(rv:RelV v r)(h:∀H' s',Inv X pins J H' s'->R H'->Q () s'):Wb 5#0 A (dictSet a u r) Q E s:=by
 obtain⟨m,ep,kvs,k,e,hk,ky,hz,hR⟩:=g;obtain⟨z,hS,xs,ob,es,rx,d⟩:=oD I.aD e;have hl:xs.length<=Wd:=by rw[<-Paired.length rx];exact z
 refine YH hu (ky.key I.aD ry) d.get d.ex d.data d.ents (Gq I.aD rx hk) d.vX hl λh' o' gU gW q1 q2 q3 q4 hs=>h _ _ ?_ (hR gW);have jb:(putN kvs k y v).length<=Wd:=by have:=YO kvs k y v;lia
 exact qL I %[e|True.intro] hs ⟨o',q1⟩ (YJ jb hS (rx.put ry rv) ⟨q1,q2,q3,q4,YG d.vX⟩)
theorem YQ{R:Hp->Prop}{Q:Unit->W6->Prop}(hu:A.units+8<WR)(I:Inv X pins J H s)(g:vZ H a y v R)(ry:RelV y u)(rv:RelV v r)(h:∀H' s',Inv X pins J H' s'->R H'->Q () s'):Wb 5#0 A (setItem (.ref a) u r) Q E s:=by
 have hT:s.TypeIs (.ref a) "dict":=by obtain⟨m,ep,kvs,k,e,_⟩:=g;obtain⟨z,hS,xs,ob,es,rx,d⟩:=oD I.aD e;exact d.typeIs
 unfold setItem;try with_reducible refine WZ ?_
 refine W0 (wpAny_sequenceKey hT U' ?_);refine W0 (WP (name:=Str.ofString "__setitem__") hT slot_dict_setitem (WJ slot_dict_setitem hT entry_dict_setitem ?_ (args_dict_setitem _ _ _)));show Wb _ _ (Builtin.Dict.notOrdered "__setitem__" ⟨[.ref a,u,r],[]⟩>>=_) _ _ s;refine W0 (wpAny_notOrdered_dict hT ?_);show Wb _ _ (dictSet a u r>>=_) _ _ s;exact W0 (Gr (show A.units+1+6<WR by lia) I g ry rv λH' s' I' hR=>W3 ⟨.none,rfl,W3 (h H' s' I' hR)⟩)
end
end
theorem YR(n:Nat)(i:Int):cQ n (.int i)=some (.i i):=by cases n<;>rfl
theorem YT(n:Nat)(b:Bool):cQ n (.bl b)=some (.i (if b then 1 else 0)):=by cases n<;>rfl
theorem YU(n:Nat)(x:Tx):cQ n (.str x)=some (.s (toS x)):=by cases n<;>rfl
theorem YV(n:Nat)(xs:List D):cQ (n+1) (.tup xs)=(iI n xs).map .t:=rfl
theorem v3{x}(h:cQ n d=some x):(∃i,d=.int i/\x=.i i)\/(∃b,d=.bl b/\x=.i (if b then 1 else 0))\/(∃s,d=.str s/\x=.s (toS s))\/∃m xs ks,n=m+1/\d=.tup xs/\iI m xs=some ks/\x=.t ks:=by cases d with
 |int i=>rw[YR]at h;exact .inl ⟨i,rfl,(WK h).symm⟩|bl b=>rw[YT]at h;exact .inr (.inl ⟨b,rfl,(WK h).symm⟩)|str s=>rw[YU]at h;exact .inr (.inr (.inl ⟨s,rfl,(WK h).symm⟩))|tup xs=>cases n with|zero=>cases h|succ m=>rw[YV,WG]at h;obtain⟨ks,hk,e⟩:=h;exact .inr (.inr (.inr ⟨m,xs,ks,rfl,rfl,hk,e.symm⟩))
 |_=>cases n<;>cases h
theorem Gs(ih:∀(d e:D)(x y:NK),cQ n d=some x->cQ n e=some y->bc d e=decide (x=y)):∀(xs ys:List D)(ks ls:List NK),iI n xs=some ks->iI n ys=some ls->fw xs ys=decide (ks=ls)|[],[],ks,ls,h1,h2=>by grind[fw]|[],y::ys,ks,ls,h1,h2=>by simp only[iI,Wg,JF,WG]at h1 h2;subst h1;obtain⟨k,_,l,_,rfl⟩:=h2;simp[fw]|x::xs,[],ks,ls,h1,h2=>by simp only[iI,Wg,JF,WG]at h1 h2;subst h2;obtain⟨k,_,l,_,rfl⟩:=h1;simp[fw]|x::xs,y::ys,ks,ls,h1,h2=>by simp only[iI,JF,WG]at h1 h2;obtain⟨k,hk,k',qP,rfl⟩:=h1;obtain⟨l,hl,l',jb,rfl⟩:=h2;simp only[fw];rw[ih x y k l hk hl,Gs ih xs ys k' l' qP jb];grind
theorem Gu:∀(n:Nat)(d e:D)(x y:NK),cQ n d=some x->cQ n e=some y->bc d e=decide (x=y):=by intro n;induction n with
 |zero=>intro d e x y h1 h2;rcases v3 h1 with⟨i,rfl,rfl⟩|⟨b,rfl,rfl⟩|⟨s,rfl,rfl⟩|⟨m,xs,ks,e,_⟩<;>rcases v3 h2 with⟨i,rfl,rfl⟩|⟨b,rfl,rfl⟩|⟨s,rfl,rfl⟩|⟨m,xs,ks,e,_⟩<;>first|(cases e;done)|(simp only[bc];first|(rw[decide_eq_false λq=>nomatch q];done)|(rw[nh,<-zK];done)|(rw[nh];done)|(rw[zJ,oX];done))
 |succ n ih=>
 intro d e x y h1 h2;rcases v3 h1 with⟨i,rfl,rfl⟩|⟨b,rfl,rfl⟩|⟨s,rfl,rfl⟩|⟨m,xs,ks,e1,rfl,hk,rfl⟩<;>rcases v3 h2 with⟨i,rfl,rfl⟩|⟨b,rfl,rfl⟩|⟨s,rfl,rfl⟩|⟨m,ys,ls,e2,rfl,hl,rfl⟩<;>first|(simp only[bc];first|(rw[decide_eq_false λq=>nomatch q];done)|(rw[nh,<-zK];done)|(rw[nh];done)|(rw[zJ,oX];done))|skip
 cases e1;cases e2;simp only[bc];rw[Gs ih xs ys ks ls hk hl];grind
theorem Gv:∀{xs:List D}{ks:List NK},iI n xs=some ks->ks.length=xs.length/\∀(i:Nat)d k,xs[i]?=some d->ks[i]?=some k->cQ n d=some k|[],ks,h=>by simp[iI]at h;subst h;exact⟨rfl,λi d k e=>by simp at e⟩|x::xs,ks,h=>by simp only[iI,JF,WG]at h;obtain⟨k,hk,k',qP,rfl⟩:=h;obtain⟨h1,h2⟩:=Gv qP;refine⟨#v[h1],λi d kk e1 e2=>?_⟩;cases i with|zero=>simp at e1 e2;subst e1;subst e2;exact hk|succ i=>exact h2 i d kk (~~~e1) (~~~e2)
theorem YW(r:Rep H O v d):∀{n:Nat}{k:NK},cQ n d=some k->lJ H n k v:=by
 induction r with|int i=>intro n k h;cases n<;>(simp[cQ]at h;subst h;exact .int i)|bl b=>intro n k h;cases n<;>(simp only[cQ,Wg]at h;subst h;exact .bl b)|str x=>intro n k h;cases n<;>(simp[cQ]at h;subst h;exact .str _)|@tup a vs ds h1 h2 h3 h4 ih=>intro n k h;cases n with|zero=>simp[cQ]at h|succ n=>
 simp only[cQ,WG]at h;obtain⟨ks,hk,rfl⟩:=h;obtain⟨l,g⟩:=Gv hk;refine .tup h2 Z' λi k v e1 e2=>?_;have hi:i<ds.length:=by have:=(W9.mp e1).1;lia
 exact ih i v ds[i] e2 (W2 hi) (g i ds[i] k (W2 hi) e1)|_=>intro n k h;cases n<;>simp[cQ]at h
def iW(m:Bool)(d:D):Bool:=match d with|.tup _=>m|.int _=>!m|.str _=>!m|_=>false
theorem v5(hm:iW m d=true)(hk:cQ 6 d=some k)(r:Rep H O v d):lK H m k v:=by cases m with|true=>have r':=YW r hk;cases r<;>simp[iW]at hm;exact⟨⟨_,rfl⟩,r'⟩|false=>
 cases r<;>simp[iW]at hm;.simp[cQ]at hk;subst hk;exact⟨.inl _,rfl,rfl⟩
 .simp[cQ]at hk;subst hk;exact⟨.inr _,rfl,rfl⟩
def iX(m:Bool)(ds:List (D×D))(k:D):Bool:=iW m k&&(cQ 6 k).isSome&&ds.all λq=>iW m q.1
def jx(k:D):Bool:=iW true k
def hU(ds:List (D×D))(k:D):Option D:=(ds.find? λq=>bc q.1 k).map (·.2)
def sv(ds:List (D×D))(k d:D):List (D×D):=if(ds.any λq=>bc q.1 k)=true then ds.map λq=>if bc q.1 k=true then(q.1,d)else q else ds++[(k,d)]
section
variable{ws:List NE}{ds:List (D×D)}{p:NE}{q:D×D}
theorem DN.nil:DN H O [] []:=⟨rfl,λi p q e=>by simp at e,λi p q e=>by simp at e,λi p q e=>by simp at e⟩
theorem DN.cons{H O ws ds p q}(h1:Rep H O p.2.1 q.1)(h2:Rep H O p.2.2 q.2)(h3:cQ 6 q.1=some p.1)(r:DN H O ws ds):DN H O (p::ws) (q::ds):=by
 refine⟨#v[r.len],λi a b e1 e2=>?_,λi a b e1 e2=>?_,λi a b e1 e2=>?_⟩<;>cases i<;>simp at e1 e2;.subst e1;subst e2;exact h1
 .exact r.key _ a b e1 e2
 .subst e1;subst e2;exact h2
 .exact r.val _ a b e1 e2
 .subst e1;subst e2;exact h3
 .exact r.n_ _ a b e1 e2
theorem DN.un(r:DN H O (p::ws) (q::ds)):Rep H O p.2.1 q.1/\Rep H O p.2.2 q.2/\cQ 6 q.1=some p.1/\DN H O ws ds:=⟨r.key 0 p q rfl rfl,r.val 0 p q rfl rfl,r.n_ 0 p q rfl rfl,~~~r.len,λi a b e1 e2=>r.key (i+1) a b (~~~e1) (~~~e2),λi a b e1 e2=>r.val (i+1) a b (~~~e1) (~~~e2),λi a b e1 e2=>r.n_ (i+1) a b (~~~e1) (~~~e2)⟩
theorem DN.get(hk:cQ 6 k=some kk):∀{ws:List NE}{ds:List (D×D)},DN H O ws ds->((hU ds k=none/\valN ws kk=none)\/∃v d,hU ds k=some d/\valN ws kk=some v/\Rep H O v d)/\(ds.any λq=>bc q.1 k)=ws.any λp=>decide (p.1=kk)
 |[],[],_=>⟨.inl ⟨rfl,rfl⟩,rfl⟩|[],_::_,r=>by have:=r.len;simp at this|_::_,[],r=>by have:=r.len;simp at this|p::ws,q::ds,r=>by
  obtain⟨r1,r2,r3,r4⟩:=r.un;obtain⟨i1,i2⟩:=DN.get hk r4;have e:=Gu 6 q.1 k p.1 kk r3 hk;refine⟨?_,by rw[Qz,Qz,i2,e]⟩;unfold hU valN at i1⊢;rw[Qf,Qf,e];by_cases z:p.1=kk;.rw[decide_eq_true z];exact .inr ⟨_,_,rfl,rfl,r2⟩
  .rw[decide_eq_false z];exact i1
theorem DN.app(hk:cQ 6 k=some kk)(ry:Rep H O y k)(rv:Rep H O v d):∀{ws:List NE}{ds:List (D×D)},DN H O ws ds->DN H O (ws++[(kk,y,v)]) (ds++[(k,d)])|[],[],_=>.cons ry rv hk .nil|[],_::_,r=>by have:=r.len;simp at this|_::_,[],r=>by have:=r.len;simp at this|p::ws,q::ds,r=>by obtain⟨r1,r2,r3,r4⟩:=r.un;exact .cons r1 r2 r3 (DN.app hk ry rv r4)
theorem DN.st(hk:cQ 6 k=some kk)(rv:Rep H O v d):∀{ws:List NE}{ds:List (D×D)},DN H O ws ds->DN H O (ws.map λp=>if p.1=kk then(p.1,p.2.1,v)else p) (ds.map λq=>if bc q.1 k=true then(q.1,d)else q)
 |[],[],_=>.nil|[],_::_,r=>by have:=r.len;simp at this|_::_,[],r=>by have:=r.len;simp at this|p::ws,q::ds,r=>by
  obtain⟨r1,r2,r3,r4⟩:=r.un;have e:=Gu 6 q.1 k p.1 kk r3 hk;rw[We,We,e];by_cases z:p.1=kk;.rw[decide_eq_true z,if_pos z,if_pos rfl];exact .cons r1 rv r3 (DN.st hk rv r4)
  .rw[decide_eq_false z,if_neg z,if_neg V'];exact .cons r1 r2 r3 (DN.st hk rv r4)
theorem DN.put(hk:cQ 6 k=some kk)(ry:Rep H O y k)(rv:Rep H O v d)(r:DN H O ws ds):DN H O (putN ws kk y v) (sv ds k d):=by
 unfold putN sv;rw[(DN.get hk r).2];split;.exact r.st hk rv
 .exact r.app hk ry rv
theorem DN.Gw(hm:(ds.all λq=>iW m q.1)=true)(r:DN H O ws ds):∀p∈ws,lK H m p.1 p.2.1:=λp hp=>by
 obtain⟨i,e⟩:=List.mem_iff_getElem?.mp hp;have hi:i<ds.length:=by have:=(W9.mp e).1;have:=r.len;lia
 exact v5 (JC.mp hm ds[i] (WV hi)) (r.n_ i p ds[i] e (W2 hi)) (r.key i p ds[i] e (W2 hi))
end
theorem Gx(r:cC c J Z H v (.dic ds)):∃a ep ws,v=.ref a/\H a=some (.dN ep ws)/\DN H (Av c J Z) ws ds:=by
 rcases r with r|⟨a,rfl,ep,ws,h1,h2⟩;.cases r with|dic h1 h2 h3 h4 h5 h6=>exact⟨_,_,_,rfl,h2,h3,h4,h5,h6⟩
 .exact⟨a,ep,ws,rfl,h1,h2⟩
theorem YX(h:iW m d=true)(r:cC c J Z H v d):Rep H (Av c J Z) v d:=by
 rcases r with r|⟨a,rfl,r⟩;.exact r
 .cases d<;>first|exact r.elim|simp[iW]at h
theorem zN(h:iX m ds k=true):iW m k=true/\(∃kk,cQ 6 k=some kk)/\(ds.all λq=>iW m q.1)=true:=by unfold iX at h;simp only[Wu]at h;exact⟨h.1.1,Option.isSome_iff_exists.mp h.1.2,h.2⟩
theorem zO{x}(rx:cC c J Z H x (.dic ds))(ry:cC c J Z H y k)(h:iX m ds k=true):∃a o,x=.ref a/\kM H a y o/\((hU ds k=none/\o=none)\/∃v d,hU ds k=some d/\o=some v/\Rep H (Av c J Z) v d):=by obtain⟨a,ep,ws,e,ha,dn⟩:=Gx rx;obtain⟨h1,⟨kk,hk⟩,h2⟩:=zN h;exact⟨a,valN ws kk,e,⟨m,ep,ws,kk,ha,dn.Gw h2,v5 h1 hk (YX h1 ry),rfl⟩,(dn.get hk).1⟩
def Gy(neg:Bool):R2:=λx y H Q=>∃a o,y=.ref a/\kM H a x o/\Q (.bl (if neg then !o.isSome else o.isSome)) H
theorem Gz(hu:X.A.units+64<WR):bJ X (WX .In) (Gy false):=by intro pins s J H x y v u Q I rx ry h;obtain⟨a,o,rfl,g,q⟩:=h;cases ry;exact YM Z' I g rx λs' I'=>⟨.bl _,H,I',rfl,q⟩
noncomputable def lL(neg:Bool)(x y:D):Option S:=match y with|.dic ds=>if iX (jx x) ds x then 0#(.bl (if neg then !(hU ds x).isSome else(hU ds x).isSome)) else none|_=>none
universe H in theorem GA(neg:Bool):cx (Gy neg) (lL neg):=by
 intro c J Z H x y d e s Q k rx ry hp q;cases e<;>first|(simp[lL]at hp;done)|skip
 rename_i ds;simp only[lL]at hp;split at hp
 .rename_i hg;cases hp;obtain⟨a,o,ea,g,r⟩:=zO ry rx hg;refine⟨a,o,ea,g,?_⟩;have:o.isSome=(hU ds d).isSome:=by rcases r with⟨r1,rfl⟩|⟨_,_,r1,rfl,_⟩<;>rw[r1]<;>rfl
  rw[this];exact q _ H (.refl k) (.bl _)
 .cases hp
def GB:R2:=λx y H Q=>∃a v,x=.ref a/\kM H a y (some v)/\Q v H
noncomputable def ni(x y:D):Option S:=match x with|.dic ds=>if iX (jx y) ds y then(hU ds y).map .pure else none|_=>none
theorem YY(hu:X.A.units+64<WR):ig X GB:=by intro value slice pins s J H x y v u Q I rx ry h hs;obtain⟨a,w,rfl,g,q⟩:=h;cases rx;exact tail_any (vY I g).1 F.slot_dict_getitem.lookup (YK (v:=w) Z' I g ry λw' s' I' bN=>⟨w,H,I',bN,q⟩) hs
universe H in theorem YZ:cx GB ni:=by
 intro c J Z H x y d e s Q k rx ry hp q;cases d<;>first|(simp[ni]at hp;done)|skip
 rename_i ds;simp only[ni]at hp;split at hp
 .rename_i hg;obtain⟨a,o,ea,g,r⟩:=zO rx ry hg;rcases r with⟨r1,rfl⟩|⟨v,d,r1,rfl,r2⟩;.rw[r1]at hp;cases hp
  .rw[r1]at hp;cases hp;exact⟨a,v,ea,g,q v H (.refl k) r2⟩
 .cases hp
theorem Ok.Y0{d'}(k:Ok c J Z H)(e:Z[i]?=some (some (.own d0)))(ea:J[i]?=some (some (.ref a)))(r:gq (upd H a o) (Av c J Z) a d'):aY c J Z H J (Z.set i (some (.own d'))) (upd H a o):=by
 have hi:i<Z.length:=(W9.mp e).1;obtain⟨a',cU,oa,ia,nb⟩:=k.own i _ e;rw[ea]at cU;cases cU;have rG:Own J Z a:=⟨i,_,e,ea⟩;have rH:Av c J Z a:=.inr rG;have mR:∀b,Own J (Z.set i (some (.own d'))) b↔Own J Z b:=λb=>by
  constructor
  .rintro⟨j,d,e1,e2⟩;by_cases hj:i=j;.subst hj;exact⟨i,_,e,e2⟩
   .rw[W4 hj]at e1;exact⟨j,d,e1,e2⟩
  .rintro⟨j,d,e1,e2⟩;by_cases hj:i=j;.subst hj;exact⟨i,_,by rw[Wh hi],e2⟩
   .exact⟨j,d,%[W4 hj|e1],e2⟩
 have jQ:∀b,Av c J (Z.set i (some (.own d'))) b->Av c J Z b:=λb z=>z.elim .inl λz=>.inr ((mR b).mp z);have kp:∀b w,H b=some w->¬Av c J Z b->upd H a o b=some w:=λb w h n=>%[aN λz=>n (by rw[z];exact rH)|h];have ip:∀b w,H b=some w->∃o',upd H a o b=some o':=λb w h=>by
  by_cases hb:b=a;.exact⟨_,%[hb|cW]⟩
  .exact⟨w,%[aN hb|h]⟩
 refine⟨⟨λb w h n=>?_,λb z=>?_,λb z=>?_,%[Qe|k.len],λj d h=>?_,λj d h=>?_,λj l b d d2 h1 h2 h3 h4=>?_,k.pinned⟩,λb w h n=>?_,λb z=>.inl ((mR b).mp z),ip⟩
 .have hb:b≠a:=λz=>by grind
  rw[aN hb];exact k.keep b w h n
 .obtain⟨w,h⟩:=k.bd b z;exact ip b w h
 .obtain⟨w,h⟩:=k.eN b z;exact ip b w h
 .have hj:i≠j:=λz=>by subst z;rw[Wh hi]at h;cases h
  rw[W4 hj]at h;obtain⟨v,h1,h2⟩:=k.slot j d h;exact⟨v,h1,(h2.keep kp).aS λb z=>.inl (jQ b z)⟩
 .by_cases hj:i=j;.subst hj;rw[Wh hi]at h;cases h;exact⟨a,ea,r.aS λb z=>.inl (jQ b z),ia,nb⟩
  .rw[W4 hj]at h;obtain⟨b,h1,h2,h3,h4⟩:=k.own j d h;have hb:b≠a:=λz=>by subst z;exact hj (k.inj i j b _ d e h ea h1)
   exact⟨b,h1,(h2.keep kp λw q=>%[aN hb|q]).aS λb z=>.inl (jQ b z),h3,h4⟩
 .have f1:∃d,Z[j]?=some (some (.own d)):=by grind
  have f2:∃d,Z[l]?=some (some (.own d)):=by grind
  obtain⟨_,f1⟩:=f1;obtain⟨_,f2⟩:=f2;exact k.inj j l b _ _ f1 f2 h3 h4
 grind[aN]
theorem Ok.Y1(k:Ok c J Z H)(e:Z[i]?=some (some (.own (.dic ds))))(ea:J[i]?=some (some (.ref a)))(r:DN H (Av c J Z) ws dP):aY c J Z H J (Z.set i (some (.own (.dic dP)))) (upd H a (.dN ep ws)):=Ok.Y0 k e ea ⟨ep,ws,cW,r.keep λb w h n=>%[aN λz=>n (by rw[z];exact .inr ⟨i,_,e,ea⟩)|h]⟩
def v7(Z:Dl)(i:Nat):Bool:=match Z[i]? with|some (some (.own (.dic _)))=>true|_=>false
universe H in theorem Y2(h:v7 Z i=true):∃ds,Z[i]?=some (some (.own (.dic ds))):=by
 unfold v7 at h;split at h;.rename_i ds e;exact⟨ds,e⟩
 .cases h
def sy(i:Nat)(fi fe:DE):DS:=λZ=>(fe Z).bind λr T'=>if v7 T' i then(fi T').bind λk S'=>match S'[i]? with|some (some (.own (.dic ds)))=>if iX (jx k.d) ds k.d&&decide (ds.length<Wd)then .ok .next (S'.set i (some (.own (.dic (sv ds k.d r.d)))))else .stuck|_=>.stuck else .stuck
def Y3(td ty tv:TE):TS:=λD J H=>tv J H λv H1=>td J H1 λx H2=>ty J H2 λy H3=>∃a,x=.ref a/\vZ H3 a y v λH4=>D.nx J H4
theorem Y4{i}(hu:X.A.units+8<WR)(ho:PE X o td)(hi:PE X i ty)(hv:PE X value tv)(hs:Je value (some (.Subscript o i pos')) pos.line X.env=pure false):PS X (.Assign [.Subscript o i pos'] value pos) (Y3 td ty tv):=by intro pins s J H D I h;refine wpAny_Assign_Subscript (aM (hv pins s J H _ I h) λr s1⟨v,H1,I1,rv,q1⟩=>aM (ho pins s1 J H1 _ I1 q1) λu s2⟨x,H2,I2,rx,q2⟩=>aM (hi pins s2 J H2 _ I2 q2) λiv s3 hh=>?_) hs;obtain⟨y,H3,I3,ry,a,ex,g⟩:=hh;subst ex;obtain rfl:u=Value.ref a:=rx;exact YQ hu I3 g ry rv λH4 s4 I4 q4=>⟨J,H4,I4,q4⟩
universe H in theorem Y5{sp}(hu:X.A.units+64<WR)(ho:PE X o (dH i))(hi:SE X c ix fi)(he:SE X c e fe)(hs:Je e (some (.Subscript o ix sp)) pos.line X.env=pure false:=by rfl):SS X c (.Assign [.Subscript o ix sp] e pos) (sy i fi fe):=PS.weak (Y4 Z' ho hi he hs) λD J H⟨Z,k,q⟩=>by
  unfold sy fg at q;rw[ba]at q;refine⟨Z,k,aO q λr T' q1 v H1 a1 r1=>?_⟩;split at q1;case isFalse=>exact q1.elim
  rename_i hown1;obtain⟨ds1,e1⟩:=Y2 hown1;obtain⟨a,ea,_,_⟩:=a1.ok.own i _ e1;refine⟨.ref a,ea,T',a1.ok,?_⟩;rw[ba]at q1;refine aO q1 λkx S' q2 u H2 a2 r2=>?_;split at q2
  .rename_i ds e2;split at q2;.rename_i hz;simp only[Wu,decide_eq_true_eq]at hz;obtain⟨hg,hz⟩:=hz;obtain⟨a',cU,oa,_⟩:=a2.ok.own i _ e2;rw[ea]at cU;cases cU;obtain⟨ep,ws,ha,dn⟩:=id oa;obtain⟨h1,⟨kk,hk⟩,h2⟩:=zN hg;have ry:Rep H2 (Av c J S') u kx.d:=r2.rep;have rv:Rep H2 (Av c J S') v r.d:=Rep.dQ r1.rep a2;refine⟨a,rfl,jx kx.d,ep,ws,kk,ha,dn.Gw h2,v5 h1 hk ry,%[dn.len|hz],λgW=>?_⟩;exact q2 J _ (a1.trans (a2.trans (Ok.Y1 a2.ok e2 ea (dn.put hk ry rv))))
   .exact q2.elim
  .exact q2.elim
theorem Y6{Q}(hd:(d==Qw)=false)(hT:s.TypeIs (.ref d) "dict")(h:Q (.ref s.heap.objs.size) 9#(s.heap.push {cls:=.type "dict_items",data:=.fields #[.ref d]})):Wb 4#0 A (call (.builtin "dict.items") [.ref d]) Q E s:=by refine WJ Up hT F.entry_dict_items ?_ (F.args_dict_items_1 _);unfold Builtin.«dict.items» Builtin.Dict.noArgs;refine W0 (W0 (wpAny_notOrdered_dict hT (show Wb _ _ (pure d) _ _ s from W3 ?_)));show Wb _ _ (Builtin.Dict.showsAll d>>=_) _ _ s;unfold Builtin.Dict.showsAll;rw[if_neg %[hd|WW]];exact W0 (W3 (W0 (Q1 (W3 ⟨_,rfl,h⟩))))
theorem Y7{es Q}(hv:s.heap.IsItemsView v d)(ho:s.heap.get? d=some o)(mV:o.data=.dict es ep)(hQ:Q (.ref s.heap.objs.size) 9#(s.heap.push {cls:=.type "dict_itemiterator",data:=.fields #[.none,.bool false,.ref d,.int 0 0,.int es.size 0,.int ep 0,.none,.none]})):Wb 4#0 A (pyIter (.ref v)) Q E s:=by
 obtain⟨ov,hov,hcv,hdv⟩:=id hv;refine wpAny_pyIter_slot hv.typeIs F.slot_dict_items_iter (WJ F.slot_dict_items_iter hv.typeIs F.entry_dict_items_iter ?_ (F.args_dict_items_iter_1 _));unfold Builtin.«dict_items.__iter__»;refine W0 (W3 (W0 ?_));unfold Builtin.Dict_items.dictOf;refine W0 (Qp hov hdv (x:=.ref d) rfl (W3 (W0 ?_)));unfold Builtin.Dict_items.newIterator;refine W0 (Uq ho mV (W0 (wpAny_dictEpoch ho mV ?_)));have jn:Builtin.Dict_items.ownsTuple "dict_itemiterator"=true:=by decide
 simp only[jn,if_true];refine Q1 (W3 ⟨_,rfl,"dict_itemiterator",_,⟨_,Wi _ rfl,rfl⟩,F.slot_dict_itemiterator_next.lookup,?_⟩) (by simp only[sizeOk,Builtin.Dict_items.ownedTupleFields,Wx,Qn,WF,JJ,J5];lia);simpa[Qv,Builtin.Dict_items.ownedTupleFields]using hQ
theorem Y8{od es e}(hit:IsItemIter s.heap it d i es.size ep ok ov)(sA:s.heap.get? d=some od)(km:od.data=.dict es ep)(hx:es[i]?=some e)(hQ:∀h',IsItemIterOut h' it d (i+1) es.size ep e.key e.val s.heap.objs.size->h'.get? s.heap.objs.size=some {cls:=.type "tuple",data:=.seq #[e.key,e.val]}->h'.objs.size=s.heap.objs.size+1->(∀b o,b≠it->s.heap.get? b=some o->h'.get? b=some o)->Q (some (.ref s.heap.objs.size)) 9#h'):Wb 4#0 A (Qk (.ref it)) Q E s:=by
 obtain⟨hp,g,dr,tk,os⟩:=s;have hT:Shared.TypeIs ⟨hp,g,dr,tk,os⟩ (.ref it) "dict_itemiterator":=⟨_,hit,rfl⟩;have qbg:i<es.size:=by grind
 unfold Qk;refine W0 (Js (WP (name:=Str.ofString "__next__") hT Jh (WJ Jh hT F.entry_dict_itemiterator_next ?_ (F.args_dict_itemiterator_next_1 _))));refine W0 (W3 (W0 (W0 ?_)));refine W0 (Ja hT (W3 ?_));refine W0 (JS hit rfl ?_);have jn:Builtin.Dict_items.ownsTuple "dict_itemiterator"=true:=by decide
 simp only[jn,if_true];show Wb _ _ (if(Value.ref d==Value.none)=true then _ else _) _ _ _;rw[if_neg (show¬(Value.ref d==Value.none)=true from WW)];refine W0 (W3 (W0 (Uq sA km ?_)));rw[if_neg V'];refine W0 (W3 (W0 (wpAny_dictEpoch sA km ?_)));rw[if_neg V'];refine W3 ?_;simp only[show¬(i:Int)<0from Z',if_false,Qj,hx];refine W0 ?_;refine W0 (Ja hT (W3 ?_));refine W0 (wpAny_isOneOf_itemiter hT ?_);show Wb _ _ (setField (.ref it) 3 (Qv ((i:Int)+1))>>=_) _ _ ⟨hp,g,dr,tk,os⟩;refine W0 (Qd hit V' λh1 e1 s1=>?_);replace s1:Ql it hp h1:=s1;replace e1:IsItemIter h1 it d (i+1) es.size ep ok ov:=by
  have z:((i+1:Nat):Int)=(i:Int)+1:=by lia
  unfold IsItemIter;rw[z];simpa[Qv]using e1
 have zP:Shared.TypeIs ⟨h1,g,dr,tk,os⟩ (.ref it) "dict_itemiterator":=⟨_,e1,rfl⟩;refine W0 (WZ (W0 (wpAny_isOneOf_itemiter zP (W0 (wpAny_isOneOf_itemiter zP ?_)))));show Wb _ _ (Builtin.Dict_items.pairFromOwner (.ref it) 6 e.key e.val) _ _ ⟨h1,g,dr,tk,os⟩;unfold Builtin.Dict_items.pairFromOwner;refine W0 (wpAny_newTuple ?_);have e2:IsItemIter (h1.push {cls:=.type "tuple",data:=.seq #[e.key,e.val]}) it d (i+1) es.size ep ok ov:=W5 _ e1;generalize hh2:h1.push {cls:=.type "tuple",data:=.seq #[e.key,e.val]}=h2 at e2;have z1:h1.objs.size=hp.objs.size:=s1.1;have jR:it<hp.objs.size:=Wm hit;have t2:h2.get? hp.objs.size=some {cls:=.type "tuple",data:=.seq #[e.key,e.val]}:=by rw[<-hh2,<-z1];exact Wi _ rfl
 have z2:h2.objs.size=hp.objs.size+1:=by rw[<-hh2,Q7,z1]
 have k2:∀b o,b≠it->hp.get? b=some o->h2.get? b=some o:=λb o hb q=>by rw[<-hh2];exact W5 _ (s1.extBut b o hb q)
 show Wb _ _ (Builtin.Dict_items.ownedTupleIsFree (.ref it)>>=_) _ _ ⟨h2,g,dr,tk,os⟩;rw[z1];clear hh2 e1 s1 zP z1 h1;refine W0 ?_;unfold Builtin.Dict_items.ownedTupleIsFree;refine W0 (Qp e2 rfl (x:=.none) rfl (W3 ?_));simp only[if_true];refine W0 (Qp e2 rfl (x:=ok) rfl (W0 (Qp e2 rfl (x:=ov) rfl ?_)));refine W0 (Qd e2 V' λh3 e3 s3=>?_);replace s3:Ql it h2 h3:=s3;replace e3:IsItemIter h3 it d (i+1) es.size ep e.key ov:=e3;refine W0 (Qd e3 V' λh4 e4 s4=>?_);replace s4:Ql it h3 h4:=s4;replace e4:IsItemIter h4 it d (i+1) es.size ep e.key e.val:=e4;refine W0 (Qd e4 V' λh5 e5 s5=>?_);replace s5:Ql it h4 h5:=s5;replace e5:IsItemIterOut h5 it d (i+1) es.size ep e.key e.val hp.objs.size:=e5;refine W0 (Qd e5 V' λh6 e6 s6=>?_);replace s6:Ql it h5 h6:=s6;replace e6:IsItemIterOut h6 it d (i+1) es.size ep e.key e.val hp.objs.size:=e6;have up:∀b o,b≠it->h2.get? b=some o->h6.get? b=some o:=λb o hb q=>s6.extBut b o hb (s5.extBut b o hb (s4.extBut b o hb (s3.extBut b o hb q)));refine W0 (wpAny_letGo (W3 (W3 ⟨_,rfl,W3 (hQ h6 e6 (up _ _ (Qm jR) t2) ?_ λb o hb q=>up b o hb (k2 b o hb q))⟩)));show h6.objs.size=hp.objs.size+1;rw[s6.1,s5.1,s4.1,s3.1,z2]
theorem Y9{R:PySem.Fin->W6->Prop}{o:Obj}{fs:Array Value}{j:Nat}{v:Value}(hh:A.handled=none)(ho:s.heap.get? it=some o)(hd:o.data=.fields fs)(hj:j<fs.size)(h:∀h',Ut it s.heap h'->Q none 9#h'):Wb 4#0 A.in1 (do
 setField (.ref it) j v
 raiseNew (<-newExc (.type "StopIteration") [])) R (λe s'=>Wb 4#0 A (do if<-isInstance e (.type "StopIteration")then pure none else throw e) Q E s') s:=by refine W0 (Jj ho hd hj ?_);refine W0 ?_;simp only[newExc,newTuple];refine W0 (Q1 ?_ (by size_fits));refine W0 (m:=JQ _ _) (wpAny_of_eq (a:=Value.none) (by first|rfl|(simp only[JQ];rfl)) ?_);refine Q1 ?_ (by size_fits);simp only[raiseNew];refine W0 (wpAny_handled ?_);rw[show A.in1.handled=none from hh];refine W0 (W3 (wpAny_throw ?_));refine W0 (JV (T:="StopIteration") (b:=true) ⟨_,Wi _ rfl,rfl⟩ isSubtype_stop ?_);exact W3 (h _ (((Qr ..).extBut.push _).push _))
theorem Y_{od es}(hh:A.handled=none)(hit:IsItemIter s.heap it d i es.size ep ok ov)(sA:s.heap.get? d=some od)(km:od.data=.dict es ep)(hx:es.size<=i)(hQ:∀h',Ut it s.heap h'->Q none 9#h'):Wb 4#0 A (Qk (.ref it)) Q E s:=by
 have hT:s.TypeIs (.ref it) "dict_itemiterator":=⟨_,hit,rfl⟩;unfold Qk;refine W0 (Js (WP (name:=Str.ofString "__next__") hT Jh (WJ Jh hT F.entry_dict_itemiterator_next ?_ (F.args_dict_itemiterator_next_1 _))));refine W0 (W3 (W0 (W0 ?_)));refine W0 (Ja hT (W3 ?_));refine W0 (JS hit rfl ?_);have jn:Builtin.Dict_items.ownsTuple "dict_itemiterator"=true:=by decide
 simp only[jn,if_true];show Wb _ _ (if(Value.ref d==Value.none)=true then _ else _) _ _ s;rw[if_neg (show¬(Value.ref d==Value.none)=true from WW)];refine W0 (W3 (W0 (Uq sA km ?_)));rw[if_neg V'];refine W0 (W3 (W0 (wpAny_dictEpoch sA km ?_)));rw[if_neg V'];refine W3 ?_;simp only[show¬(i:Int)<0from Z',if_false,Qj,Array.getElem?_eq_none hx];refine W0 ?_;refine W0 (Ja hT (W3 ?_));exact Y9 (j:=2) hh hit rfl V' hQ
def zQ(a:Addr)(ep:Nat)(kvs:List NE):It:=⟨λi H=>H a=some (.dN ep kvs)/\i<kvs.length,λi H v H'=>∃p k y x,H p=none/\kvs[i]?=some (k,y,x)/\H'=upd H p (.tup [y,x])/\v=.ref p,λi H=>H a=some (.dN ep kvs)/\i=kvs.length⟩
theorem dB.get{kvs}(r:dB kvs xs):∀{i:Nat}{p:NE},kvs[i]?=some p->∃x,xs[i]?=some x/\RelV p.2.1 x.2.1/\RelV p.2.2 x.2.2:=by unfold dB at r;induction r with|nil=>intro i p e;simp at e|cons h t ih=>intro i p e;cases i with|zero=>simp at e;subst e;exact⟨_,rfl,h.2⟩|succ i=>obtain⟨x,e1,e2⟩:=ih (i:=i) (~~~e);exact⟨x,~~~e1,e2⟩
theorem Za{ctx}(a it:Addr)(kvs:List NE)(ep:Nat):Turn P w K (.Tuple elts ctx pos) (zQ a ep kvs) [it] it λi h=>∃ok ov,IsItemIter h it a i kvs.length ep ok ov:=by
 have at_:∀{X:Cx}{pins s J H},X.prog=P->X.w=w->Inv X pins J H s->H a=some (.dN ep kvs)->∃xs o es,dB kvs xs/\oC w s.heap a ep xs o es/\es.size=kvs.length:=by intro X pins s J H hP hw I e;subst hP hw;obtain⟨_,_,xs,o,es,r,d⟩:=oD I.aD e;exact⟨xs,o,es,r,d,by rw[<-Q9,d.ents,WB];exact(Paired.length r).symm⟩
 refine⟨V',?_,?_,?_,?_,?_⟩;.grind
 .rintro i h h'⟨ok,ov,q⟩k;exact⟨ok,ov,k it V' _ q⟩
 .intro X hP hw hK hc i pins s J H E I hf⟨ok,ov,st⟩⟨hg,hi⟩;obtain⟨xs,o,es,r,d,hz⟩:=at_ hP hw I hg;subst hP hw hK;have hx:kvs[i]?=some (kvs[i].1,kvs[i].2.1,kvs[i].2.2):=#v[hi];obtain⟨x,hu,ry,rv⟩:=r.get hx;have Zb:es[i]?=some (ent X.w x):=by rw[<-QJ,d.ents,Wo,hu];rfl
  have jR:it<s.heap.objs.size:=Wm st;rw[<-hz]at st;refine Y8 st d.get d.data Zb λh' hit hT hsz kp=>⟨_,rfl,wpAny_letOwnedTupleGo_items hit λh2 zH sb=>?_⟩;have nz:s.heap.objs.size≠it:=Qm jR;have a0:∀b∈[it],b<s.heap.objs.size:=λb hb=>by have e:b=it:= ~~~hb;subst e;exact jR
  have I2:Inv X pins J (upd H s.heap.objs.size (.tup [kvs[i].2.1,kvs[i].2.2])) {s with heap:=h2,toks:=s.toks}:=Inv.zc (t':=s.toks) [it] I hf a0 ry rv ((sb.2 _ nz).trans hT) λb o hb e=>by have g:b≠it:=λz=>hb #v[z];exact(sb.2 b g).trans (kp b o g e)
  refine⟨.ref s.heap.objs.size,_,I2,rfl,⟨s.heap.objs.size,_,_,_,I.aD.fresh (Wf _),hx,rfl,rfl⟩,⟨_,_,by rw[<-hz];exact zH⟩,λb hb=>?_⟩;have e:b=it:= ~~~hb;subst e;rw[aN (Ne.symm nz)];exact(hf _ hb).1
 .intro X hP hw hK hc i pins s J H E I hf⟨ok,ov,st⟩⟨hg,hi⟩;obtain⟨xs,o,es,r,d,hz⟩:=at_ hP hw I hg;subst hP hw hK;rw[<-hz]at st;refine Y_ (I.ok.hd hc) st d.get d.data Z' λh' eb=>⟨rfl,Inv.rT (t':=s.toks) [it] I (λb o hb e=>eb b o (by grind) e) hf⟩
 .intro A i s Q E⟨ok,ov,st⟩h;exact F7 st h
section
variable{o:Expr}
def Zc(td:TE):TI:=λJ H R=>td J H λv H1=>∃a ep kvs,v=.ref a/\H1 a=some (.dN ep kvs)/\R (zQ a ep kvs) H1
theorem Zd(ho:PE X o td)(hb:QA o "items" X.env (eval o X.env)=eval o X.env:=by rfl)(hl:(apos.endLine==bh.line)=true:=by rfl):PI X (.Tuple elts ctx tp) (.Call (.Attribute o "items" apos) [] [] bh) (Zc td):=by
 intro pins s J H R I h;refine Uk (T:="dict") (id:="dict.items") hb rfl hl F.plainAttrs_dict Up F.type_dict_items (aM (ho pins s J H _ I h) λu s1 hh=>?_);obtain⟨x,H1,I1,rx,a,ep,kvs,ex,ea,q⟩:=hh;subst ex;obtain rfl:u=Value.ref a:=rx;obtain⟨z,hS,xs,ob,es,r,d⟩:=oD I1.aD ea;have hz:es.size=kvs.length:=by rw[<-Q9,d.ents,WB];exact(Paired.length r).symm
 refine⟨d.typeIs,d.noDict,?_⟩;refine Calls.callWith_builtin rfl (PySem.evalArgs_none (Y6 hS d.typeIs ?_));have Ze:∀b u,s1.heap.get? b=some u->(s1.heap.push {cls:=.type "dict_items",data:=.fields #[.ref a]}).get? b=some u:=λb u e=>W5 _ e;refine Y7 (d:=a) ⟨_,Wi _ rfl,rfl,rfl⟩ (Ze _ _ d.get) d.data ?_;generalize hh1:s1.heap.push {cls:=.type "dict_items",data:=.fields #[.ref a]}=h1;have up1:∀b u,s1.heap.get? b=some u->h1.get? b=some u:=λb u e=>by rw[<-hh1];exact W5 _ e
 have pN:s1.heap.objs.size<=h1.objs.size:=by rw[<-hh1,Q7];exact Jz _
 generalize hh2:h1.push {cls:=.type "dict_itemiterator",data:=.fields #[.none,.bool false,.ref a,.int 0 0,.int es.size 0,.int ep 0,.none,.none]}=h2;have pP:∀b u,s1.heap.get? b=some u->h2.get? b=some u:=λb u e=>by rw[<-hh2];exact W5 _ (up1 b u e)
 have hit:IsItemIter h2 h1.objs.size a 0 kvs.length ep .none .none:=by rw[<-hz,<-hh2];exact Wi _ rfl
 have I2:Inv X pins J H1 {s1 with heap:=h2,toks:=s1.toks}:=I1.kept (t':=s1.toks) pP;refine⟨h1.objs.size,[h1.objs.size],_,_,_,rfl,I2,Za a h1.objs.size kvs ep,⟨_,_,hit⟩,λb hb=>?_,q⟩;have e:b=h1.objs.size:= ~~~hb;subst e;exact I1.iH pN (I1.aD.fresh pN)
end
theorem GC(h:Heap)(hb:Qw<h.objs.size):bP P w H (h.push {cls:=.type "dict",data:=.dict #[]}) h.objs.size (.dN 0 []):=⟨Qc _,beq_eq_false_iff_ne.mpr (Ne.symm (Wr hb)),_,#[],Wi _ rfl,⟨rfl,rfl,rfl⟩,rfl,.nil,List.nodup_nil⟩
def Zf:TE:=λj H Q=>∀p,H p=none->Q (.ref p) (upd H p (.dN 0 []))
theorem Zg:PE X (.Dict [] [] pos) Zf:=by intro pins s J H Q I h;exact wpAny_Dict_empty ⟨.ref s.heap.objs.size,_,I.laid (a:=s.heap.objs.size) (o:=.dN 0 []) (t':=s.toks) (λj j q=>W5 _ q) (Wf _) (GC s.heap I.big),rfl,h _ (I.aD.fresh (Wf _))⟩
theorem bu.Zh(k:Ok c J Z H)(hp:H p=none)(r:DN H (Av c J Z) ws ds):bu c J Z H (upd H p (.dN ep ws)) (.ref p) (.own (.dic ds)):=by
 refine⟨p,rfl,⟨ep,ws,cW,?_⟩,λz=>k.iJ hp (.inl z),k.mJ hp,k.plus hp _,hp⟩;exact(r.aS λb z=>by
 rcases z with(z|z)|z;.exact .inl (.inl z)
 .exact .inr %[z|hp]
 .exact .inl (.inr z)).keep λb w e j=>%[aN (gF e hp)|e]
def zR:DE:=λZ=>.ok (.own (.dic [])) Z
theorem Zi:SE X c (.Dict [] [] pos) zR:=PE.weak Zg λJ H Q⟨Z,k,q⟩=>λp hp=>q _ _ (.alloc k hp _) (bu.Zh k hp .nil)
def iY(ds:List (D×D)):List D:=ds.map λp=>D.tup [p.1,p.2]
def jy(fe:DE):DI:=λZ=>(fe Z).bind λr T'=>match r.d with|.dic ds=>.ok (iY ds) T'|_=>.stuck
section
variable{o:Expr}
theorem Zj(h:H a=some (.dN ep ws))(n:¬Own J Z a)(r:DN H (Av c J Z) ws ds):oq c J Z H (zQ a ep ws) (iY ds):=by intro H2 kp;have h2:=kp a _ h n;refine⟨⟨h2,#v[iY,r.len]⟩,λi d e=>?_⟩;unfold iY at e;rw[Wo]at e;cases ej:ds[i]? with|none=>rw[ej]at e;cases e|some q=>
 rw[ej]at e;cases e;have hi:i<ws.length:=by rw[r.len];exact(W9.mp ej).1
 refine⟨⟨h2,hi⟩,λx H3⟨p,kk,y,xv,hp,hkv,e3,ex⟩=>.inr ⟨p,_,_,hp,e3,ex,rfl,?_⟩⟩;exact aI.two (r.key i _ q hkv ej) (r.val i _ q hkv ej)
universe H in theorem Zk(ho:SE X c o fe)(hb:QA o "items" X.env (eval o X.env)=eval o X.env:=by rfl)(hl:(apos.endLine==bh.line)=true:=by rfl):SI X c (.Tuple elts ctx tp) (.Call (.Attribute o "items" apos) [] [] bh) (jy fe):=PI.weak (Zd ho hb hl) λJ H R⟨Z,k,q⟩=>by
 unfold jy at q;rw[ba]at q;refine⟨Z,k,aO q λr T' q1 v H1 a1 r1=>?_⟩;have rp:=r1.rep;generalize r.d=d at q1 rp;cases d<;>first|exact q1.elim|skip
 rename_i ds;cases rp with|dic h1 h2 h3 h4 h5 h6=>exact⟨_,_,_,rfl,h2,q1 _ _ a1 (Zj h2 (λz=>h1 (.inr z)) ⟨h3,h4,h5,h6⟩)⟩
end
section
variable{k v o f:Expr}{tk:TE}
def Zl(tk tv:TE):TE:=λJ H Q=>∀p,H p=none->tk J (upd H p (.dN 0 [])) λx H1=>tv J H1 λy H2=>vZ H2 p x y λH3=>Q (.ref p) H3
theorem Zm(hu:X.A.units+8<WR)(hk:PE X k tk)(hv:PE X v tv):PE X (.Dict [some k] [v] pos) (Zl tk tv):=by intro pins s J H Q I h;have hn:=I.aD.fresh (Wf s.heap.objs.size);have I1:=I.laid (a:=s.heap.objs.size) (o:=.dN 0 []) (h':=s.heap.push {cls:=.type "dict",data:=.dict #[]}) (t':=s.toks) (λj j q=>W5 _ q) (Wf _) (GC s.heap I.big);refine wpAny_Dict_any rfl rfl V' V' (pairTrees_cons_walk (aM (hk pins _ J _ _ I1 (h _ hn)) λu s1⟨x,H1,J1,rx,q1⟩=>aM (hv pins s1 J H1 _ J1 q1) λr s2⟨y,H2,J2,ry,g⟩=>pairTrees_nil_walk ?_));unfold storeAll;rw[U3];refine W0 (W0 (Gr Z' J2 g rx ry λH3 s3 J3 q3=>W3 ?_));show Wb _ _ (forIn ([]:List (Value×Value)) PUnit.unit _) _ _ s3;rw[List.forIn_nil];exact W3 ⟨.ref s.heap.objs.size,H3,J3,rfl,q3⟩
def zS(H:Hp)(a:Addr):Prop:=∃ep kvs,H a=some (.dN ep kvs)
theorem Zn(I:Inv X pins J H s)(d:zS H a):s.TypeIs (.ref a) "dict"/\∀b,Value.ref a=.ref b->∃ob,s.heap.get? b=some ob/\ob.dict=none:=by obtain⟨ep,kvs,e⟩:=d;obtain⟨_,_,xs,ob,es,_,d⟩:=oD I.aD e;exact⟨d.typeIs,d.noDict⟩
def Zo(td ty tx:TE):TE:=λJ H Q=>td J H λx H1=>∃a,x=.ref a/\zS H1 a/\ty J H1 λy H2=>tx J H2 λz H3=>∃r,kM H3 a y r/\Q (r.getD z) H3
theorem Zp(hu:X.A.units+8<WR)(ho:PE X o td)(he:PE X e ty)(hf:PE X f tx)(m:M2 X o "get" apos e f bh):PE X (.Call (.Attribute o "get" apos) [e,f] [] bh) (Zo td ty tx):=by intro pins s J H Q I h;refine Uk m.base m.CP m.line PySem.F.plainAttrs_dict Jq PySem.F.type_dict_get (aM (ho pins s J H _ I h) λu s1 hh=>?_);obtain⟨x,H1,I1,rx,a,ex,d,q1⟩:=hh;subst ex;obtain rfl:u=Value.ref a:=rx;obtain⟨t1,t2⟩:=Zn I1 d;refine⟨t1,t2,?_⟩;rw[m.trees];refine Calls.callWith_builtin rfl (Calls.evalArgs_plain (Calls.spliced_cons (aM (he pins s1 J H1 _ I1 q1) λiv s2⟨y,H2,I2,ry,q2⟩=>Calls.spliced_cons (aM (hf pins s2 J H2 _ I2 q2) λfv s3⟨z,H3,I3,rz,r,g,q3⟩=>Calls.spliced_nil ?_))));exact YN hu I3 g ry rz λw' s4 I4 bN=>⟨_,H3,I4,bN,q3⟩
end
def sC(fk fv:DE):DE:=λZ=>(fk Z).bind λr T'=>(fv T').bind λs S'=>match r,s with|.pure dk,.pure d=>if iX (jx dk) [] dk then .ok (.own (.dic [(dk,d)])) S' else .stuck|_,_=>.stuck
universe H in theorem Zq(hu:X.A.units+64<WR)(hk:∀c',SE X c' k fk)(hv:∀c',SE X c' v fv):SE X c (.Dict [some k] [v] pos) (sC fk fv):=by have PK:PE X k λJ H Q=>∃c',tD c' fk J H Q:=λpins s J H Q I⟨c',h⟩=>hk c' pins s J H Q I h;have PV:PE X v λJ H Q=>∃c',tD c' fv J H Q:=λpins s J H Q I⟨c',h⟩=>hv c' pins s J H Q I h;refine PE.weak (Zm Z' PK PV) λJ H Q⟨Z,kk,q⟩=>?_;intro p hp;unfold sC at q;rw[ba]at q;refine⟨c.plus p,Z,kk.plus hp _,vJ q λr T' q1 x H1 a1 rx=>?_⟩;rw[ba]at q1;refine⟨c.plus p,T',a1.ok,vJ q1 λs S' q2 y H2 a2 ry=>?_⟩;have A:=a1.trans a2;have h0:=kk.mJ hp;have nb:¬c.B p:=λz=>kk.iJ hp (.inl z);have ze:H2 p=some (.dN 0 []):=A.keep p _ cW λz=>kk.iJ hp (.inr z);cases r with|own d=>exact q2.elim|pure dk=>cases s with|own d=>exact q2.elim|pure d=>
   simp only at q2;split at q2;case isFalse=>exact q2.elim
   rename_i hg;obtain⟨g1,⟨kd,g2⟩,g3⟩:=zN hg;have GD:Rep H2 (Av (c.plus p) J S') x dk:=Rep.dQ (show Rep H1 (Av (c.plus p) J T') x dk from rx) a2;refine⟨jx dk,0,[],kd,ze,λ_ z=>by simp at z,v5 g1 g2 GD,by rw[PySem.sizeLine_eq];decide,λgW=>?_⟩;have em:putN [] kd x y=[(kd,x,y)]:=rfl;rw[em];have r9:=A.ok.Fs h0 (.dN gW [(kd,x,y)]);have ne:∀{a w},H a=some w->a≠p:=λe z=>by rw[z,hp]at e;cases e
   have kp:∀b w,H2 b=some w->¬Av (c.plus p) J S' b->upd H2 p (.dN gW [(kd,x,y)]) b=some w:=λb w e n=>%[aN λz:b=p=>n (.inl (.inr z))|e];refine q2 (.ref p) _ ⟨r9.less,λa w e n=>?_,λa z=>?_,λa w e=>?_⟩ ⟨p,rfl,⟨gW,[(kd,x,y)],cW,DN.cons (GD.keep kp) (Rep.keep (show Rep H2 (Av (c.plus p) J S') y d from ry) kp) g2 .nil⟩,nb,h0,r9,hp⟩;.rw[aN (ne e)];exact A.keep a w %[aN (ne e)|e] n
   .by_cases zp:a=p;.rw[zp];exact .inr hp
    .rcases A.own a z with z|z;.exact .inl z
     .rw[aN zp]at z;exact .inr z
   .obtain⟨w',e'⟩:=A.there a w %[aN (ne e)|e];exact⟨w',%[aN (ne e)|e']⟩
section
variable{o f:Expr}
def v9(Z:Dl)(i:Nat):Bool:=match Z[i]? with
 |some (some s)=>match s.d with|.dic _=>true|_=>false
 |_=>false
universe H in theorem Zr(k:Ok c J Z H)(h:v9 Z i=true):∃a,J[i]?=some (some (.ref a))/\zS H a:=by
 unfold v9 at h;split at h
 .rename_i s e;split at h;.rename_i ds hs;obtain⟨v,ev⟩:=qZ k e;have rb:=rC k e ev;rw[hs]at rb;obtain⟨a,ep,ws,rfl,ha,_⟩:=Gx rb;exact⟨a,ev,ep,ws,ha⟩
  .cases h
 .cases h
def sE(i:Nat)(fe ff:DE):DE:=λZ=>if v9 Z i then(fe Z).bind λk T'=>(ff T').bind λz S'=>match S'[i]? with
 |some (some s)=>match s.d with|.dic ds=>if iX (jx k.d) ds k.d then .ok (.pure ((hU ds k.d).getD z.d)) S' else .stuck|_=>.stuck
 |_=>.stuck else .stuck
universe H in theorem Zs(hu:X.A.units+64<WR)(ho:PE X o (dH i))(he:SE X c e fe)(hx:SE X c f ff)(hb:QA o "get" X.env (eval o X.env)=eval o X.env:=by rfl)(hf:((QH bh (Wl [e,f] X.env)).all (λx=>!x.1)&&(Ua bh (Jy [] X.env)).all (λx=>x.1.isSome)&&decide (([e,f]:List Expr).length+([]:List Keyword).length+(if([]:List Keyword).isEmpty then 0 else 1)<30))=true:=by rfl)(hl:(apos.endLine==bh.line)=true:=by rfl)(ht:QH bh (Wl [e,f] X.env)=[(false,eval e X.env),(false,eval f X.env)]:=by rfl):SE X c (.Call (.Attribute o "get" apos) [e,f] [] bh) (sE i fe ff):=PE.weak (Zp Z' ho he hx ⟨hb,hf,hl,ht⟩) λJ H Q⟨Z,k,q⟩=>by
  unfold sE at q;split at q;case isFalse=>exact q.elim
  rename_i hd;obtain⟨a,e3,hn⟩:=Zr k hd;rw[ba]at q;refine⟨.ref a,e3,a,rfl,hn,Z,k,aO q λkx T' q1 v H1 a1 r1=>⟨T',a1.ok,?_⟩⟩;rw[ba]at q1;refine aO q1 λzx S' q2 u H2 a2 r2=>?_;split at q2
  .rename_i s1 es1;split at q2
   .rename_i ds1 hs1;split at q2
    .rename_i hg;have rb:=rC a2.ok es1 e3;rw[hs1]at rb;obtain⟨a',r,ea,g,rr⟩:=zO rb (show cC c J S' H2 v kx.d from .inl (Rep.dQ r1.rep a2)) hg;cases ea;refine⟨r,g,?_⟩;rcases rr with⟨z1,rfl⟩|⟨v',d,z1,rfl,z3⟩;.rw[z1]at q2;exact q2 _ H2 (a1.trans a2) r2.rep
     .rw[z1]at q2;exact q2 _ H2 (a1.trans a2) z3
    .exact q2.elim
   .exact q2.elim
  .exact q2.elim
end
section
open PySem.SeqAt
open Classical in noncomputable def fnI(ak:List Value)(ds:List D)(d:D)(y:Value):Bool:=decide (∃(i:Nat)(e:D),ak[i]?=some y/\ds[i]?=some e/\bc e d=true)
end
noncomputable def nj:D->Option S|.int i=>0#(.int (if i<0 then-i else i))|_=>none
section
variable{o:Expr}{fb:DE}
theorem Zt{fb:BE}{pp pos:Pos}(hg:Gl X "abs")(hm:X.mg "abs"=none)(he:SB X c e fb)(hs:Wl [e] X.env=(false,eval e X.env)::Wl [] X.env:=by rfl):SE X c (.Call (.Name "abs" pp) [e] [] pos) (aE nj fb):=rm (r:=λv H Q=>∃i,v=.int i/\Q (.int (if i<0 then-i else i)) H) NZ (λv H Q⟨i,e,h⟩=>⟨i,by rw[e],h⟩) (λc J Z H x d s Q k rx hp q=>by cases d with|int i=>simp only[nj,Wg]at hp;subst hp;exact⟨i,rx.int,q _ H (.refl k) (.int _)⟩|_=>simp[nj]at hp) hg hm PyProof.Rows.boot_abs he U' U' hs
end
def sF:=dW (λk j=>decide (j≠0)) λi j=>.int (i.fmod j)
theorem Zu:cx (rI (λk j=>j≠0) λi j=>V.int (i.fmod j)) sF:=mN (λi j h=>~~~h) λk k k k=>.int _
def nq:Nat:=2^8000
def GF(_ j:Int):Prop:=j≠0/\j.natAbs<nq
theorem GG:bJ X (Qo .FloorDiv) (rI GF λi j=>.int (i.fdiv j)):=mn λi j k k k k k hc q=>by have h1:j≠0:=hc.1;have h2:j.natAbs<2^8000:=hc.2;have h3:=(Nat.log2_lt (by lia:j.natAbs≠0)).mpr h2;exact floordiv_int h1 q (.inl (PyProof.noPylong_of_log2 Z'))
def sG(_ j:Int):Bool:=decide (j≠0)&&decide (j.natAbs<nq)
def fP:=dW sG λi j=>.int (i.fdiv j)
theorem GH:cx (rI GF λi j=>V.int (i.fdiv j)) fP:=mN (λi j h=>by unfold sG at h;simp only[Wu,decide_eq_true_eq]at h;exact h) λk k k k=>.int _
theorem Zv(i j:Int)(h:j≠0):sF (.int i) (.int j)=0#(.int (i.fmod j)):=by show(if decide (j≠0)then some (S.pure (.int (i.fmod j)))else none)=_;rw[decide_eq_true h];rfl
theorem oE(i j:Int)(h:j≠0)(h1:j.natAbs<nq):fP (.int i) (.int j)=0#(.int (i.fdiv j)):=by
 show(if sG i j then some (S.pure (.int (i.fdiv j)))else none)=_;have:sG i j=true:=by unfold sG;rw[decide_eq_true h,decide_eq_true h1];rfl
 rw[this];rfl
def gM:Key->NK|.inl i=>.i i|.inr x=>.s x
theorem Zw{a}(h:gM a=gM b):a=b:=by cases a<;>cases b<;>simp[gM]at h<;>rw[h]
theorem Zx(w:Ww)(k:Key):fq w (gM k)=t6 w k:=by cases k<;>simp[gM,fq]
theorem GI:∀{kvs:List (Key×V)}{vs:List (Key×Value)},KV kvs vs->kvs.map (·.1)=vs.map (·.1)|_,_,.nil=>rfl|_,_,.cons r1 r2=>by rw[We,We,GI r2,r1.1]
theorem Zy(x:bP P w H h a (.dK kvs)):∃ep,bP P w H' h a (.dN ep (kvs.map λp=>(gM p.1,kV p.1,p.2))):=by
 obtain⟨z,hS,vs,r,o,es,ep,g1,g2,g3,g4,g5,g6⟩:=x;refine⟨ep,~~~z,hS,o,es,g1,g2,g3,?_,?_⟩
 .have key:∀(l:List DictEntry)(vs:List (Key×Value))(kvs:List (Key×V)),(∀e∈l,∃k,(cL P w).is k e.key=true/\e.hash=(cL P w).hash k)->Pairs (cL P w) l vs->KV kvs vs->Paired (λ(p:NK×V×V)(e:DictEntry)=>e.hash=fq w p.1/\RelV p.2.1 e.key/\RelV p.2.2 e.val) (kvs.map λp=>(gM p.1,kV p.1,p.2)) l:=by intro l vs kvs hk hp;induction hp generalizing kvs with|nil=>intro r;cases r;exact .nil|@cons e kv es vs h1 h2 h3 ih=>intro r;cases r with|@cons p _ ps _ r1 r2=>
     refine .cons ?_ (ih ps (λe he=>hk e (W8 _ he)) r2);obtain⟨k,k1,k2⟩:=hk e Wc;have:k=kv.1:=(cL P w).inj _ _ _ k1 h1;subst this;refine⟨?_,?_,?_⟩;.rw[k2,Zx,r1.1];rfl
     .show RelV (kV p.1) e.key;rw[r1.1];exact F8 h1
     .rw[h2];exact r1.2
  exact key es.toList vs kvs (λe he=>g4 e (~~~he)) g5 r
 .have e:(kvs.map λp=>(gM p.1,kV p.1,p.2)).map (·.1)=(kvs.map (·.1)).map gM:=#v[Wn];rw[e];rw[GI r];exact List.Pairwise.map gM (λa b h z=>h (Zw z)) g6
def Zz(i:Nat):TE:=λJ H Q=>∃a kvs,J[i]?=some (some (.ref a))/\H a=some (.dK kvs)/\∀ep,Q (.ref a) (upd H a (.dN ep (kvs.map λp=>(gM p.1,kV p.1,p.2))))
theorem ZC(ho:PE X o (dH i)):PE X o (Zz i):=by intro pins s J H Q I h;obtain⟨a,kvs,ea,hH,q⟩:=h;refine aM (ho pins s J H (λv H1=>v=.ref a/\H1=H) I ⟨.ref a,ea,rfl,rfl⟩) λu s1 hh=>?_;obtain⟨x,H1,I1,rx,ex,eH⟩:=hh;subst ex;subst eH;obtain⟨ep,hN⟩:=Zy (H':=H1) (I1.aD a _ hH);have hN:bP X.prog X.w (upd H1 a (.dN ep (kvs.map λp=>(gM p.1,kV p.1,p.2)))) s1.heap a (.dN ep (kvs.map λp=>(gM p.1,kV p.1,p.2))):=hN;obtain⟨_,_,o,_,ho,_⟩:=id hN;have I2:=I1.write (x:=a) (e:=a) (h':=s1.heap) (t':=s1.toks) (by rw[hH];trivial) (.inl rfl) (λb u j e=>e) ⟨o,ho⟩ hN;exact⟨.ref a,_,I2,rx,q ep⟩
def cy(ds:List (a7×D)):List (D×D):=ds.map λp=>(vW p.1,p.2)
def sH(i:Nat):DE:=λZ=>match Z[i]? with|some (some (.own (.aA ds)))=>.ok (.pure (.dic (cy ds))) (Z.set i 0#(.dic (cy ds)))|_=>.stuck
section
variable{o:Expr}
theorem Ok.turn{u}(k:Ok c J Z H)(e:Z[i]?=some (some (.own (.aA ds))))(ea:J[i]?=some (some (.ref a)))(r:Rep (upd H a u) (Av c J (Z.set i none)) (.ref a) d):aY c J Z H J (Z.set i 0#d) (upd H a u)/\Rep (upd H a u) (Av c J (Z.set i 0#d)) (.ref a) d:=by
 have hi:i<Z.length:=(W9.mp e).1;have af:=k.freeze (u:=u) e ea;have eO:∀b,Own J (Z.set i 0#d) b↔Own J (Z.set i none) b:=λb=>by
  constructor<;>rintro⟨j,d',f1,f2⟩<;>by_cases hj:i=j;.subst hj;rw[Wh hi]at f1;cases f1
  .rw[W4 hj]at f1;exact⟨j,d',%[W4 hj|f1],f2⟩
  .subst hj;rw[Wh hi]at f1;cases f1
  .rw[W4 hj]at f1;exact⟨j,d',%[W4 hj|f1],f2⟩
 have eP:Own J (Z.set i 0#d)=Own J (Z.set i none):=funext λb=>propext (eO b);have eA:Av c J (Z.set i 0#d)=Av c J (Z.set i none):=by unfold Av;rw[eP]
 rw[eA];refine⟨⟨⟨af.ok.keep,af.ok.bd,af.ok.eN,%[Qe|k.len],λj d' f=>?_,λj d' f=>?_,λj l b d1 d2 f1 f2 g1 g2=>?_,k.pinned⟩,af.keep,?_,af.there⟩,r⟩
 .rw[eA];by_cases hj:i=j;.subst hj;rw[Wh hi]at f;cases f;exact⟨_,ea,r⟩
  .rw[W4 hj]at f;exact af.ok.slot j d' %[W4 hj|f]
 .rw[eA];have hj:i≠j:=λz=>by subst z;rw[Wh hi]at f;cases f
  rw[W4 hj]at f;exact af.ok.own j d' %[W4 hj|f]
 .have h1:i≠j:=λz=>by subst z;rw[Wh hi]at f1;cases f1
  have h2:i≠l:=λz=>by subst z;rw[Wh hi]at f2;cases f2
  rw[W4 h1]at f1;rw[W4 h2]at f2;exact k.inj j l b d1 d2 f1 f2 g1 g2
 .intro b z;exact af.own b (by rw[<-eP];exact z)
universe H in theorem ZD(ho:PE X o (dH i)):SE X c o (sH i):=PE.weak (ZC ho) λJ H Q⟨Z,k,q⟩=>by
  unfold sH at q;split at q;case h_2=>exact q.elim
  rename_i ds e;obtain⟨a,ea,⟨ws,hw,hk,hr⟩,hI,nB⟩:=k.own i _ e;refine⟨a,ws,ea,hw,λep=>?_⟩;have hi:i<Z.length:=(W9.mp e).1;have af:=k.freeze (u:=.dN ep (ws.map λp=>(gM p.1,kV p.1,p.2))) e ea;have nO:¬Own J (Z.set i none) a:=λ⟨j,d,f1,f2⟩=>by
   by_cases hj:i=j;.subst hj;rw[Wh hi]at f1;cases f1
   .rw[W4 hj]at f1;exact hj (k.inj i j a _ _ e f1 ea f2)
  have nA:¬Av c J (Z.set i none) a:=λz=>z.elim nB nO;have hlen:ws.length=ds.length:=by simpa using congrArg J7 hk
  have kk:∀(j:Nat)p q',ws[j]?=some p->ds[j]?=some q'->p.1=cO q'.1:=λj p q' e1 e2=>by have:=congrArg (λl=>l[j]?) hk;simp only[Wo,e1,e2,WM]at this;exact WK this
  have hO:Own J Z a:=⟨i,_,e,ea⟩;have kp:∀b o,H b=some o->¬Av c J Z b->upd H a (.dN ep (ws.map λp=>(gM p.1,kV p.1,p.2))) b=some o:=λb o h n=>by rw[aN λz=>n (.inr %[z|hO])];exact h
  have jr:∀b,Av c J (Z.set i none) b->Av c J Z b:=λb z=>z.elim .inl λ⟨j,d,f1,f2⟩=>by
   by_cases hj:i=j;.subst hj;rw[Wh hi]at f1;cases f1
   .rw[W4 hj]at f1;exact .inr ⟨j,d,f1,f2⟩
  have r:Rep (upd H a (.dN ep (ws.map λp=>(gM p.1,kV p.1,p.2)))) (Av c J (Z.set i none)) (.ref a) (.dic (cy ds)):=by
   refine .dic nA cW #v[cy,hlen] (λj p q' e1 e2=>?_) (λj p q' e1 e2=>?_) λj p q' e1 e2=>?_;all_goals unfold cy at e2;rw[Wo]at e1 e2;obtain⟨p0,f1,rfl⟩:=WG.mp e1;obtain⟨q0,f2,rfl⟩:=WG.mp e2;have ek:=kk j p0 q0 f1 f2;simp only
   .rw[ek];exact F_ _
   .exact((hr j p0 q0 f1 f2).keep kp).aS λb z=>.inl (jr b z)
   .rw[ek];cases q0.1<;>rfl
  obtain⟨a2,r2⟩:=k.turn e ea r;exact q _ _ a2 r2
end
section
variable{fl:ly}{p2:Pos}
noncomputable def sI:D->Option S|.str x=>if x.length<=Wd then 0#(.str x.reverse) else none|_=>none
universe H in theorem ZE{st:Expr}(he:SB X c e fb)(fS:PE X st (tC (.int (-1)))):SE X c (.Subscript e (.Slice none none (some st) p2) pos) (aE sI fb):=PE.weak (Rh Rk he fS) λJ H Q h=>rj (λc J Z H x d s Q k rx hp q=>by
 cases d<;>first|cases hp|skip
 rename_i z;simp only[sI]at hp;split at hp;.rename_i hz;cases hp;exact⟨z,rx.str,hz,q _ H (.refl k) (.str _)⟩
 .cases hp) h
noncomputable def pR(lo hi:Option Int):D->Option S|.lst ds=>some (.own (.lst (e_ ds lo hi)))|_=>none
theorem ZF(lo hi:Option Int):mP (λx H Q=>Cz K x lo hi H Q) (pR lo hi):=by
 intro c J Z H x d s Q k rx hp q;cases d<;>first|cases hp|skip
 obtain⟨a,vs,ea,ha,ra⟩:=rx.lst;refine⟨a,vs,ea,.inl ha,λp hp=>?_⟩;rw[<-Rg];exact q _ _ (.alloc k hp _) (bu.qV k (ra.cut lo hi) hp)
def lM(i:Nat)(fl fh:ly):DE:=λZ=>match Z[i]? with|some (some _)=>(fl Z).bind λl S'=>(fh S').bind λh SL=>(ah i SL).bind λx SC=>p1 (pR l h) x SC|_=>.stuck
theorem ZG(he:PE X e (dH i))(hl:SO X c lo fl)(hh:SO X c hi fh):SE X c (.Subscript e (.Slice lo hi none p2) pos) (lM i fl fh):=PE.weak (Ol OB he hl hh) λJ H Q⟨Z,k,q⟩=>by unfold lM at q;cases e:Z[i]? with|none=>rw[e]at q;exact q.elim|some o=>cases o with|none=>rw[e]at q;exact q.elim|some w=>rw[e]at q;obtain⟨v,ev⟩:=qZ k e;have q':post c ((fl Z).bind λl S'=>(fh S').bind λh SL=>(ah i SL).bind λx SC=>p1 (pR l h) x SC) λr SZ=>∀v H',aY c J Z H J SZ H'->bu c J SZ H H' v r->Q v H':=q;rw[ba]at q';refine⟨v,ev,Z,k,aO q' λl S' q2 H2 a2=>⟨S',a2.ok,?_⟩⟩;rw[ba]at q2;refine aO q2 λh SL q3 H3 a3=>?_;obtain⟨w3,e3,q4⟩:=Sk q3;exact D4 (ZF l h) a3.ok (rC a3.ok e3 ev) (aO q4 λs SC q4 w H4 a4 r4=>q4 w H4 (a2.trans (a3.trans a4)) (bu.back r4 (a2.trans a3)))
end
theorem gR(e:b (bw n ss)=.ok (.ret v) T')(h1:cG np 0 ss=true)(h2:cn 0 ss T'=some aZ):bE np n b ss=some (v,aZ):=by unfold bE gZ;rw[if_pos h1,e];simp[df,h2]
theorem ZH{x a}(h:b T'=x)(e:a Z=.ok .next T'):ay a b Z=x:=by unfold ay;rw[e];exact h
theorem ZI{x a}(h:ay b r T'=x)(e:t Z=.ok false T'):ay (bI t a b) r Z=x:=by rw[<-h];unfold ay bI;rw[e];rfl
theorem ai(i j:Int):bD (.int i) (.int j)=0#(.int (i+j)):=rfl
@[simp high]theorem zzg{α:Type}(a:α)(l:List α):(a::l)[0]?=some a:=rfl
@[simp high]theorem zzh{α:Type}(a:α)(l:List α)(n:Nat):(a::l)[n+1]?=l[n]?:=rfl
theorem nm{b:DS}{G':Dl}{y:Rs Fl}(h:b G'=y):∃Z,G'=Z/\b Z=y:=⟨_,rfl,h⟩
theorem cM{A:Type}(f F:A->D){as:List A}{it:DI}{g:DG}{t:DT}{el:DE}{T':Dl}(e:it Z=.ok (as.map f) T')(hl:as.length<=1000)(hs:∀a∈as,∃Z1' S' x SL,g (.pure (f a)) (a_ cs T')=some Z1'/\t Z1'=.ok true S'/\el S'=.ok x SL/\a_ cs SL=a_ cs T'/\x.d=F a)(no:cs.any (bG T')=false:=by rfl):aK cs it g t el Z=.ok (.own (.lst (as.map F))) (cg cs T' (a_ cs T')):=by have c:=eE (cs:=cs) (g:=g) (t:=t) (el:=el) f F (a_ cs T') as [] (by have:PySem.sizeLine=16777216:=rfl;simp;lia) hs;unfold aK;rw[e];show(if _ then _ else _)=_;rw[if_neg (by rw[no];decide),c];rfl
end Lake
namespace Lake.K23
open _root_.PySem.W(nsIn keepIn codeIn findIn mroIn kitOne mg_of)
open _root_.PySem _root_.PySem.Spec PyProof.Rows
variable{A:Int}{B fl:List Tx}{K:Wa}{L f7 rows:List (List Int)}{P:Wt}{PP dE gg hh pd ru x y:D}{X:Nat->Nat->Nat}{base:Heap}{c dn f g h i j m n t t0 w:Nat}{cs np ts:List Nat}{dm:List (Nat×Nat)}{ds xs:List D}{f1 f2 f3:DE}{fa:Addr}{it:DI}{mQ:8#0}{mg:Str->Option Value}{o6:Option S}{p r:List Int}{q:D->Option S}{s7:S}{u v:Nat->Int}{z:Bool}{Z T' S':Dl}
theorem oRR{a b:Prop}(h:a\/b:=by first|exact Or.inl rfl|exact Or.inr rfl):a\/b:=h
def top(i:Nat):Stmt:=PySem.Challenge.pw_tilegrow_k23_whole_tiles_come_together.main.body.getD i (.Pass ⟨0,0,0,0⟩)
abbrev GJ:Stmt:=top 38
abbrev GK:Stmt:=top 40
abbrev GN:Stmt:=top 39
abbrev GO:Stmt:=top 41
abbrev GQ:Stmt:=top 43
abbrev GU:Stmt:=top 42
abbrev GV:Stmt:=top 44
abbrev GW:Stmt:=top 37
abbrev GX:Stmt:=top 9
abbrev GY:Stmt:=top 10
abbrev GZ:Stmt:=top 15
abbrev G0:Stmt:=top 13
abbrev G1:Stmt:=top 14
abbrev G2:Stmt:=top 5
abbrev G3:Stmt:=top 6
abbrev G4:Stmt:=top 26
abbrev G5:Stmt:=top 17
abbrev G6:Stmt:=top 22
abbrev G7:Stmt:=top 25
abbrev G8:Stmt:=top 19
abbrev G9:Stmt:=top 11
abbrev G_:Stmt:=top 16
abbrev Ha:Stmt:=top 46
abbrev Hb:Stmt:=top 23
abbrev Hc:Stmt:=top 24
abbrev Hd:Stmt:=top 20
abbrev He:Stmt:=top 21
abbrev Hf:Stmt:=top 45
abbrev Hg:Stmt:=top 47
abbrev Hh:Stmt:=top 7
abbrev Hi:Stmt:=top 28
abbrev Hj:Stmt:=top 29
abbrev Hk:Stmt:=top 31
abbrev Hl:Stmt:=top 30
abbrev Hm:Stmt:=top 33
abbrev Hn:Stmt:=top 32
abbrev Ho:Stmt:=top 34
abbrev Hq:Stmt:=top 35
abbrev lN:Stmt:=top 48
structure Txt(K:Wa)(mg:Str->Option Value):Prop where
 sJ:mg "abs"=none
 sL:mg "all"=none
 sM:mg "bool"=none
 sO:mg "dict"=none
 sP:mg "enumerate"=none
 sQ:mg "int"=none
 sR:mg "isinstance"=none
 sS:mg "len"=none
 sU:mg "max"=none
 sV:mg "range"=none
 sW:mg "set"=none
 sX:mg "sorted"=none
 sY:mg "str"=none
 sZ:mg "sum"=none
 s_:mg "tuple"=none
 tf:mg "zip"=none
 ty_bool:jN K "bool"ty_int:jN K "int"ty_str:jN K "str"ty_tuple:jN K "tuple"
abbrev Hr:DS:=ay (bI (az (ag ji 1 (aj (aE bA (ah 0))))) (bf (ag ax 0 (ah 1))) bR) (bf 3#0)
def pT:DF:=bE [] 2 Hr
abbrev Ht:DS:=ay (aq (u6 (aa 0) (aB jh 3#0 (ah 0))) (ae [] 1)) (bf (il (aQ (aa 1) (aQ (aE pf (aj (ag yr 1 (aj (aB uZ 3#10 1#18))))) (aQ (ag cR 1 1#1000003) bS)))))
def pU:DF:=bE [] 2 Ht
abbrev Hu:DS:=ay (aq (aB cR (ag bD 0 1#7919) 1#2147483647) (ae [] 0)) (bf (aB cR (aB bD (aB bD (ag cZ 0 (ah 0)) (aj (aB cZ 3#48271 (ah 0)))) 1#12345) 1#2147483629))
def pV:DF:=bE [] 1 Hu
abbrev Hv:DS:=ay (bI (az (aB bj (ag ax 0 1#1) 1#1)) (ay (aq (aB cR (ag ax 0 1#0) (ah 1)) (ae [0] 2)) (ay (lz 0 3#0 (aB kH (ag ax 0 1#0) (ah 1))) (bf (aa 2)))) bR) (ay (lz 0 3#2 (au pV [.val (aB bD (au pV [.val (ag ax 0 1#2)]) 1#7)])) (bf (aB cR (aB gu (ag ax 0 1#2) 1#64) (ah 1))))
def cV:DF:=bE [0] 3 Hv
abbrev Hw:DS:=ay (aq (aB bD 3#1 (aj (au cV [.io 0,.val 3#3]))) (ae [0] 1)) (ay (aq (aB bD 3#1 (aj (au cV [.io 0,.val 3#3]))) (ae [0] 2)) (ay (bI (az (aB bj (au cV [.io 0,.val 3#8]) 1#0)) (aq (aB ax (yP [.tup [.int 4,.int 1],.tup [.int 1,.int 4],.tup [.int 4,.int 4],.tup [.int 4,.int 3],.tup [.int 1,.int 2],.tup [.int 2,.int 1]]) (aj (au cV [.io 0,.val 3#6]))) (aR 2 (aC (ae [0] 1) (aC (ae [0] 2) aT)))) bR) (ay (bI (az (aB bj (ag bD 1 (ah 2)) 1#2)) (aq 3#2 (ae [0] 2)) bR) (bf (cF (aQ (aa 1) (aQ (aa 2) bS)))))))
def tj:DF:=bE [0] 3 Hw
abbrev Hx:DS:=ay (bI (az (ag bj 3 1#1)) (bf (ag ax 1 (aj (au cV [.io 0,.val (ag bD 2 1#1)])))) bR) (ay (bI (az (ag bj 3 1#2)) (bf (ag ax 1 (aj (aB cR (ag bD 2 1#1) (aj (aE bA (ah 1))))))) bR) (ay (bI (lx (az (ag bj 3 1#3)) (az (aB eQ (au cV [.io 0,.val 3#4]) 1#0))) (bf (ag ax 1 (ah 2))) bR) (bf (ag ax 1 (aj (au cV [.io 0,.val (aE bA (ah 1))]))))))
def jY:DF:=bE [0] 4 Hx
abbrev Hy:DS:=ay (aq (au tj [.io 0]) (aR 2 (aC (ae [0] 2) (aC (ae [0] 3) aT)))) (ay (aq (aB bD 3#1 (aj (au cV [.io 0,.val (aa 1)]))) (ae [0] 4)) (ay (aq (au cV [.io 0,.val 3#26]) (ae [0] 5)) (ay (aq (eD (.str [97,98,99,100,101,102,103,104,105,106,107,108,109,110,111,112,113,114,115,116,117,118,119,120,121,122])) (ae [0] 6)) (ay (aq (aE pq (aj (aK [13] (bW (aa 4)) (ae [0] 13) aG (ag ax 6 (aj (aB cR (ag bD 5 (aj (aB cZ 3#5 (ah 13)))) 1#26)))))) (ae [0] 7)) (ay (aq (au cV [.io 0,.val 3#5]) (ae [0] 8)) (ay (aq (il bS) (ae [0] 9)) (ay (ck (bW (aa 4)) (ae [0] 10) (ay (aq (il bS) (ae [0] 11)) (ay (ck (bW (aa 2)) (ae [0] 12) (de 11 (aE (fB []) (aj (aK [14] (bW (aa 3)) (ae [0] 14) aG (au jY [.io 0,.val (aa 7),.val (aa 10),.val (aa 8)])))))) (de 9 (cF (aQ (ag ax 7 (ah 10)) (aQ (aE bU (ah 11)) bS))))))) (bf (cF (aQ (aa 2) (aQ (aa 3) (aQ (aE bU (ah 9)) bS))))))))))))
def pW:DF:=bE [0] 15 Hy
abbrev Hz:DS:=ay (aq 3#1 (ae [] 2)) (ay (ck (bW (aa 1)) (ae [] 3) (aq (ag cZ 2 (ah 0)) (ae [] 2))) (bf (aa 2)))
def lO:DF:=bE [] 4 Hz
abbrev ZJ:DS:=bf (aE (fB []) (aj (aK [2] (aU (aa 0)) (ae [] 2) aG (ag ax 2 (ah 1)))))
def v_:DF:=bE [] 3 ZJ
abbrev ZK:DS:=bf (aE bU (aj (aK [1] (bW (aE bA (aj (ag ax 0 1#0)))) (ae [] 1) aG (au v_ [.val (aa 0),.val (aa 1)]))))
def tw:DF:=bE [] 2 ZK
abbrev ZL:DS:=ay (aq (aa 0) (aR 3 (aC (ae [] 1) (aC (ae [] 2) (aC (ae [] 3) aT))))) (bf (cF (aQ (aa 2) (aQ (aa 1) (aQ (aE bU (aj (aK [4,5] (aU (aa 3)) (aR 2 (aC (ae [] 4) (aC (ae [] 5) aT))) aG (cF (aQ (aa 4) (aQ (au tw [.val (aa 5)]) bS)))))) bS)))))
def oF:DF:=bE [] 6 ZL
abbrev HA:DS:=bI (fT (fA (az (fV "str" (ah 1)))) (az (aB (g8 true) (aa 1) (aj (aE gy (aj (ag ax 0 1#2))))))) u9 bR
def lP:DF:=bE [] 2 HA
abbrev HB:DS:=ay (ck (bW (aa 2)) (ae [] 3) (aq (ag cZ 0 (ah 1)) (ae [] 0))) (bf (aa 0))
def kO:DF:=bE [] 4 HB
abbrev zU:DS:=bf (fM (fV "int" (ah 0)) (fM (o_ (fV "bool" (ah 0))) (ag kq 1 (ah 0))))
def kP:DF:=bE [] 2 zU
abbrev HC:DS:=bf (fM (au kP [.val (aa 0),.val (aa 1)]) (ag kq 0 (ah 2)))
def nr:DF:=bE [] 3 HC
abbrev HD:DS:=ay (aq zR (ae [] 4)) (ay (ck (jy (aa 1)) (aR 2 (aC (ae [] 5) (aC (ae [] 6) aT))) (ay (aq (aa 5) (aR 3 (aC (ae [] 7) (aC (ae [] 8) (aC (ae [] 9) aT))))) (ck (rY (ag jt 0 (ah 9))) (aR 2 (aC (ae [] 10) (aC (ae [] 11) aT))) (ck (r_ (aa 11)) (aR 2 (aC (ae [] 12) (aC (ae [] 13) aT))) (bI (lx (fT (az (aa 7)) (az (ag kq 10 (ah 2)))) (fT (az (aa 8)) (az (ag kq 12 (ah 3))))) (ay (aq (cF (aQ (oo (aa 7) (ag ji 10 (ah 2))) (aQ (oo (aa 8) (ag ji 12 (ah 3))) (aQ (aa 13) bS)))) (ae [] 14)) (sy 4 (aa 14) (aB bD (sE 4 (aa 14) 3#0) (ah 6)))) bR))))) (kG [] 4))
def pX:DF:=bE [] 15 HD
abbrev zV:DS:=bf (aK [1,2] (aU (ag ax 0 1#2)) (aR 2 (aC (ae [] 1) (aC (ae [] 2) aT))) aG (aa 1))
def kQ:DF:=bE [] 3 zV
abbrev zW:DS:=bf (aK [2] (aU (au kQ [.val (aa 0)])) (ae [] 2) aG (cF (aQ (aa 2) (aQ (g_ 1 (aa 2) 3#0) bS))))
def kR:DF:=bE [] 3 zW
abbrev HE:DS:=ay (kz (au lP [.val (aa 0),.val (aa 1)])) (ay (aq (au kO [.val 3#1,.val (ag ax 0 1#0),.val (aa 2)]) (ae [] 5)) (ay (aq (au kO [.val 3#1,.val (ag ax 0 1#1),.val (aa 2)]) (ae [] 6)) (ay (bI (fT (fA (az (au nr [.val (aa 3),.val 3#0,.val (aa 5)]))) (fA (az (au nr [.val (aa 4),.val 3#0,.val (aa 6)])))) u9 bR) (ay (aq (aE gy (aj (ag ax 0 1#2))) (ae [] 7)) (ay (aq (sC (cF (aQ (ag bj 3 (ah 5)) (aQ (ag bj 4 (ah 6)) (aQ (aa 1) bS)))) 3#1) (ae [] 8)) (ay (ck (bW (aa 2)) (ae [] 9) (ay (aq (ag gu 5 (aj (ag ax 0 1#0))) (ae [] 5)) (ay (aq (ag gu 6 (aj (ag ax 0 1#1))) (ae [] 6)) (aq (au pX [.val (aa 7),.val (aa 8),.val (aB cR (ag kH 3 (ah 5)) (aj (ag ax 0 1#0))),.val (aB cR (ag kH 4 (ah 6)) (aj (ag ax 0 1#1)))]) (ae [] 8))))) (bf (au kR [.val (aa 0),.val (aE gy (aj (aK [10,11] (jy (aa 8)) (aR 2 (aC (ae [] 10) (aC (ae [] 11) aT))) (lx (az (ag ax 10 1#0)) (az (ag ax 10 1#1))) (cF (aQ (ag ax 10 1#2) (aQ (aa 11) bS))))))]))))))))
def nt:DF:=bE [] 12 HE
abbrev HF:DS:=ay (aq (au kQ [.val (aa 0)]) (ae [] 1)) (bf (aE bU (aj (aK [2,3] (aU (ag ax 0 1#2)) (aR 2 (aC (ae [] 2) (aC (ae [] 3) aT))) aG (aE bU (aj (aK [4] (aU (aa 1)) (ae [] 4) aG (iT (aE (fB []) (ah 3)) (aa 4)))))))))
def iZ:DF:=bE [] 5 HF
abbrev ZM:DS:=bf (aE bU (aj (aK [1] (aU (aa 0)) (ae [] 1) aG (aE sI (ah 1)))))
def tE:DF:=bE [] 2 ZM
abbrev ZN:DS:=ay (aq (aa 0) (aR 3 (aC (ae [] 1) (aC (ae [] 2) (aC (ae [] 3) aT))))) (bf (cF (aQ (aa 1) (aQ (aa 2) (aQ (aE bU (aj (aK [4,5] (aU (aa 3)) (aR 2 (aC (ae [] 4) (aC (ae [] 5) aT))) aG (cF (aQ (aa 4) (aQ (au tE [.val (aa 5)]) bS)))))) bS)))))
def wa:DF:=bE [] 6 ZN
abbrev HG:DS:=ay (aq (au cV [.io 3,.val (aB bD (au lO [.val (ag ax 0 1#0),.val (aa 2)]) 1#1)]) (ae [3] 4)) (ay (aq (au cV [.io 3,.val (aB bD (au lO [.val (ag ax 0 1#1),.val (aa 2)]) 1#1)]) (ae [3] 5)) (ay (aq (au oF [.val (aa 0)]) (ae [3] 6)) (ay (bI (az (aB cK (au nt [.val (aa 6),.val (aa 1),.val (aa 2),.val (aa 5),.val (aa 4)]) (aj (au nt [.val (aa 0),.val (aa 1),.val (aa 2),.val (aa 4),.val (aa 5)])))) (bf (eD (.bl false))) bR) (bf (fM (aB bj (au iZ [.val (aa 6)]) (aj (au iZ [.val (aa 0)]))) (aB bj (au iZ [.val (au wa [.val (aa 0)])]) (aj (au iZ [.val (aa 0)]))))))))
def pY:DF:=bE [3] 7 HG
abbrev HI:DS:=ay (aq lE (ae [] 1)) (ay (ck (aU (ag ax 0 1#2)) (aR 2 (aC (ae [] 2) (aC (ae [] 3) aT))) (ay (aq (aE (fB []) (ah 3)) (ae [] 4)) (gz 1 (aa 2) (aK [5] (aU (aE nc (ah 4))) (ae [] 5) aG (cF (aQ (aa 5) (aQ (iT (aa 4) (aa 5)) bS))))))) (kG [] 1))
def pZ:DF:=bE [] 6 HI
abbrev HJ:DS:=ay (kz (au lP [.val (aa 0),.val (aa 1)])) (ay (aq (au pZ [.val (aa 0)]) (ae [] 3)) (ay (aq (oz (aa 1) 3#1) (ae [] 4)) (ay (ck (bW (aa 2)) (ae [] 5) (ay (aq lE (ae [] 6)) (ay (ck (lH 4) (aR 2 (aC (ae [] 7) (aC (ae [] 8) aT))) (ck (aU (ag jt 3 (ah 7))) (aR 2 (aC (ae [] 9) (aC (ae [] 10) aT))) (gz 6 (aa 9) (aB bD (g_ 6 (aa 9) 3#0) (aj (ag cZ 8 (ah 10))))))) (pQ [] 4 6)))) (bf (au kR [.val (aa 0),.val (aa 4)])))))
def tF:DF:=bE [] 11 HJ
abbrev HL:DS:=ay (aq (aE bA (ah 0)) (ae [] 2)) (ay (aq (aK [6] (bW (aa 2)) (ae [] 6) aG (aK [5] (aU (aa 1)) (ae [] 5) aG (ag ax 5 (ah 6)))) (ae [] 3)) (ay (aq (il bS) (ae [] 4)) (ay (ck (aU (aa 0)) (ae [] 5) (de 4 (aE bU (aj (aK [7] (aU (aa 3)) (ae [] 7) aG (aE fD (aj (aK [8,9] (iw (aa 5) (aa 7)) (aR 2 (aC (ae [] 8) (aC (ae [] 9) aT))) aG (ag cD 8 (ah 9)))))))))) (bf (aE bU (ah 4))))))
def jZ:DF:=bE [] 10 HL
abbrev HM:DS:=ay (aq (aE bA (aj (ag ax 0 1#2))) (ae [] 2)) (ay (aq (aE bU (aj (aK [6] (bW (aa 2)) (ae [] 6) aG (aE bU (aj (aK [7] (bW (aa 2)) (ae [] 7) aG (iO (az (ag bj 6 (ah 7))) 3#1 3#0))))))) (ae [] 3)) (ay (aq (au iZ [.val (aa 0)]) (ae [] 4)) (ay (aq (aa 1) (ae [] 5)) (ay (eB (az (ag eQ 5 1#0)) (ay (bI (az (aB bj (ag cR 5 1#2) 1#1)) (aq (au jZ [.val (aa 3),.val (aa 4)]) (ae [] 3)) bR) (ay (aq (ag gu 5 1#2) (ae [] 5)) (bI (az (ag eQ 5 1#0)) (aq (au jZ [.val (aa 4),.val (aa 4)]) (ae [] 4)) bR))) 1000000) (bf (aa 3))))))
def lQ:DF:=bE [] 8 HM
abbrev HP:DS:=ay (aq (au tF [.val (aa 0),.val (aa 1),.val (aa 2)]) (ae [] 3)) (ay (aq (au lO [.val (ag ax 0 1#0),.val (aa 2)]) (ae [] 4)) (ay (aq (au lO [.val (ag ax 0 1#1),.val (aa 2)]) (ae [] 5)) (ay (bI (az (aB cK (aE fD (aj (aK [7,8] (aU (aa 3)) (aR 2 (aC (ae [] 7) (aC (ae [] 8) aT))) aG (aa 8)))) (aj (ag cD 4 (ah 5))))) (bf (eD (.bl false))) bR) (ay (aq (se (aK [9] (aU (ag ax 0 1#2)) (ae [] 9) aG (ag ax 9 1#0)) (aa 1)) (ae [] 6)) (ay (bI (az (aB cK (aB ax (au lQ [.val (aa 0),.val (aa 2)]) (ah 6)) (aj (aE bU (aj (aK [7,8] (aU (aa 3)) (aR 2 (aC (ae [] 7) (aC (ae [] 8) aT))) aG (aa 8))))))) (bf (eD (.bl false))) bR) (bf (aB bj (au nt [.val (aa 0),.val (aa 1),.val (aa 2),.val (aa 4),.val (aa 5)]) (ah 3))))))))
def p_:DF:=bE [] 10 HP
abbrev HQ:DS:=ay (aq (au lQ [.val (aa 0),.val (aa 1)]) (ae [] 3)) (ay (aq (au lQ [.val (aa 0),.val (aa 2)]) (ae [] 4)) (ay (aq (aE bA (ah 3)) (ae [] 5)) (ay (aq (il bS) (ae [] 6)) (ay (ck (aU (aa 3)) (ae [] 7) (de 6 (aE bU (aj (aK [8] (bW (aa 5)) (ae [] 8) aG (aE fD (aj (aK [9] (bW (aa 5)) (ae [] 9) aG (aB cD (ag ax 7 (ah 9)) (aj (aB ax (ag ax 4 (ah 9)) (ah 8)))))))))))) (bf (aB bj (au lQ [.val (aa 0),.val (ag bD 1 (ah 2))]) (aj (aE bU (ah 6)))))))))
def qa:DF:=bE [] 10 HQ
abbrev HR:DS:=ay (eB (az (ag cK 1 1#0)) (su [] 0 1 (aQ (aa 1) (aQ (ag sF 0 (ah 1)) bS))) 1000000) (bf (aE nj (ah 0)))
def gN:DF:=bE [] 2 HR
abbrev HS:DS:=ay (aq 3#0 (ae [] 1)) (ay (ck (aU (aa 0)) (ae [] 2) (aq (au gN [.val (aa 1),.val (aa 2)]) (ae [] 1))) (bf (iO (az (ag eQ 1 1#1)) (aK [2] (aU (aa 0)) (ae [] 2) aG (ag fP 2 (ah 1))) (aa 0))))
def qb:DF:=bE [] 3 HS
abbrev zX:DS:=ay (bI (az (aB bj (ag ax 0 (ah 2)) 1#0)) (bf (aa 0)) bR) (bf (au qb [.val (aK [3,4] (iw (aa 0) (aa 1)) (aR 2 (aC (ae [] 3) (aC (ae [] 4) aT))) aG (aB jh (ag cD 3 (aj (ag ax 1 (ah 2)))) (aj (ag cD 4 (aj (ag ax 0 (ah 2)))))))]))
def nu:DF:=bE [] 5 zX
abbrev HU:DS:=ay (aq lE (ae [] 1)) (ay (aq (aa 0) (ae [] 2)) (ay (ck (bW (aE bA (ah 0))) (ae [] 3) (ay (aq (aK [6] (aU (aa 2)) (ae [] 6) (az (aB cK (ag ax 6 (ah 3)) 1#0)) (aa 6)) (ae [] 4)) (bI (az (aB eQ (aE bA (ah 4)) 1#0)) (ay (aq (ag ax 4 1#0) (ae [] 5)) (ay (aq (aB bD (aK [6] (aU (lM 4 (jO 3#1) rA)) (ae [] 6) aG (au nu [.val (aa 6),.val (aa 5),.val (aa 3)])) (aj (aK [6] (aU (aa 2)) (ae [] 6) (az (aB bj (ag ax 6 (ah 3)) 1#0)) (aa 6)))) (ae [] 2)) (ay (aq (aE gy (aj (aK [7,6] (lH 1) (aR 2 (aC (ae [] 7) (aC (ae [] 6) aT))) aG (cF (aQ (aa 7) (aQ (au nu [.val (aa 6),.val (aa 5),.val (aa 3)]) bS)))))) (ae [] 1)) (gz 1 (aa 3) (aa 5))))) bR))) (kG [] 1)))
def oG:DF:=bE [] 8 HU
abbrev HX:DS:=ay (aq (au iZ [.val (aa 0)]) (ae [] 1)) (ay (aq (aB cZ (ag ax 0 1#0) (aj (ag ax 0 1#1))) (ae [] 2)) (ay (aq (il bS) (ae [] 3)) (ay (ck (bW (aE bA (ah 1))) (ae [] 4) (ay (aq (aK [6] (aU (aa 1)) (ae [] 6) aG (ag ax 6 (ah 4))) (ae [] 5)) (ay (lz 5 (aa 4) (aB jh (ag ax 5 (ah 4)) (ah 2))) (de 3 (aa 5))))) (kG [] 3))))
def jz:DF:=bE [] 7 HX
abbrev HY:DS:=ay (aq (au gN [.val (aa 0),.val (aa 1)]) (ae [] 2)) (bf (cF (aQ (ag fP 0 (ah 2)) (aQ (ag fP 1 (ah 2)) bS))))
def nv:DF:=bE [] 3 HY
abbrev HZ:DS:=ay (aq (aE bA (aj (ag ax 0 1#2))) (ae [] 1)) (ay (aq (au oG [.val (au jz [.val (aa 0)])]) (ae [] 2)) (ay (aq (aK [5] (bW (aa 1)) (ae [] 5) (az (aB (g8 true) (aa 5) (ah 2))) (aa 5)) (ae [] 3)) (ay (bI (az (aB eQ (aE bA (ah 3)) 1#1)) (bf (eD .aX)) bR) (ay (aq 3#1 (ae [] 4)) (ay (ck (jy (sH 2)) (aR 2 (aC (ae [] 5) (aC (ae [] 6) aT))) (aq (aB fP (ag cD 4 (aj (aE nj (aj (ag ax 6 (ah 5)))))) (aj (au gN [.val (aa 4),.val (ag ax 6 (ah 5))]))) (ae [] 4))) (ay (aq (il bS) (ae [] 7)) (ay (ck (bW (aa 1)) (ae [] 5) (bI (az (aB (lL false) (aa 5) (ah 2))) (ay (aq (ag ni 2 (ah 5)) (ae [] 6)) (de 7 (aB fP (aB cD (aE pI (aj (ag ax 6 (aj (ag ax 3 1#0))))) (ah 4)) (aj (ag ax 6 (ah 5)))))) (de 7 (aa 4)))) (ay (aq (aE fD (ah 7)) (ae [] 8)) (bf (aE bU (aj (aK [9] (aU (aa 7)) (ae [] 9) aG (au nv [.val (aa 9),.val (aa 8)])))))))))))))
def jA:DF:=bE [] 10 HZ
abbrev H_:DS:=ay (bI (fT (fA (az (fV "tuple" (ah 0)))) (az (aB cK (aE bA (ah 0)) 1#2))) (bf (eD (.bl false))) bR) (ay (aq (aa 0) (aR 2 (aC (ae [] 1) (aC (ae [] 2) aT)))) (bf (fM (au kP [.val (aa 1),.val 3#0]) (fM (au kP [.val (aa 2),.val 3#1]) (aB bj (au gN [.val (aa 1),.val (aa 2)]) 1#1)))))
def kS:DF:=bE [] 3 H_
abbrev Ia:DS:=ay (bI (fT (fA (az (fV "tuple" (ah 1)))) (az (aB cK (aE bA (ah 1)) (aj (aE bA (aj (ag ax 0 1#2))))))) (bf (eD (.bl false))) bR) (ay (bI (fA (az (aE jj (aj (aK [7] (aU (aa 1)) (ae [] 7) aG (au kS [.val (aa 7)])))))) (bf (eD (.bl false))) bR) (ay (aq 3#1 (ae [] 2)) (ay (ck (aU (aa 1)) (aR 2 (aC (ae [] 3) (aC (ae [] 4) aT))) (aq (aB fP (ag cD 2 (ah 4)) (aj (au gN [.val (aa 2),.val (aa 4)]))) (ae [] 2))) (ay (aq (aK [3,4] (aU (aa 1)) (aR 2 (aC (ae [] 3) (aC (ae [] 4) aT))) aG (ag cD 3 (aj (ag fP 2 (ah 4))))) (ae [] 5)) (ay (bI (az (aB cK (aE fD (ah 5)) (ah 2))) (bf (eD (.bl false))) bR) (bf (aE jj (aj (aK [6] (aU (au jz [.val (aa 0)])) (ae [] 6) aG (aB bj (aE fD (aj (aK [8,9] (iw (aa 6) (aa 5)) (aR 2 (aC (ae [] 8) (aC (ae [] 9) aT))) aG (ag cD 8 (ah 9))))) 1#0))))))))))
def lR:DF:=bE [] 10 Ia
abbrev Ib:DS:=ay (ck (aU (aB bD (il (aQ (au pT [.val (aa 0),.val 3#0]) bS)) (aj (lM 0 (jO 3#1) (jO 3#4))))) (ae [] 1) (ay (aq (au pU [.val (aa 1)]) (ae [] 2)) (ay (aq (au pW [.io 2,.val 3#5]) (ae [] 3)) (ay (aq (aB ax (aB ax (ag ax 3 1#2) (aj (au cV [.io 2,.val (aE bA (aj (ag ax 3 1#2)))]))) 1#0) (ae [] 4)) (ay (aq (au cV [.io 2,.val 3#30]) (ae [] 5)) (ay (bI (fT (fA (az (au p_ [.val (aa 3),.val (aa 4),.val (aa 5)]))) (fA (az (au pY [.val (aa 3),.val (aa 4),.val (aa 5),.io 2])))) (bf (eD (.bl false))) bR) (ay (bI (fA (az (au qa [.val (aa 3),.val (au cV [.io 2,.val 3#12]),.val (au cV [.io 2,.val 3#12])]))) (bf (eD (.bl false))) bR) (ay (aq (au jA [.val (aa 3)]) (ae [] 6)) (bI (az (aB (ox true) (aa 6) (aj (eD .aX)))) (bI (fT (az (aB (pK true) (au lR [.val (aa 3),.val (aa 6)]) (aj (eD (.bl true))))) (az (aB cK (au jA [.val (au oF [.val (aa 3)])]) (ah 6)))) (bf (eD (.bl false))) bR) bR))))))))) (bf (eD (.bl true)))
def tG:DF:=bE [] 7 Ib
theorem Ic:mw ["script","cell","pen","rule","tile","growings","shares"] ["script"] (e9 lN):=scc
section
variable{w:Ww}{h:Heap}{x:Str}{st:Stmt}{N:List Str}{k:Nat}{fb:DS}{G:DF}
theorem cp(Y:K.In h)(KE:h.Ns WE mg)(d:aV K x st)(hG:G=bE np N.length fb:=by rfl)(hn:(N.take n).length=n:=by rfl)(S:mw N (N.take n) (e9 st):=by exact⟨rfl,rfl,rfl,P3,rfl,P3,P3⟩)(hb:∀{f fd},gX K x x st f fd->Binds K fd (N.take n) []:=by intro f fd F;first|exact V7 F λj j j j j j j=>rfl|exact V8 F λj j j j j j j j=>rfl|exact V9 F λj j j j j j j j j=>rfl|exact V_ F λj j j j j j j j j j=>rfl|exact W_ F λj j j j j j j j j j j=>rfl|exact bd6 F λj j j j j j j j j j j j=>rfl)(k_:∀(f:Addr)(c:Fc)(b9:Value)(A:WA)(outer:List Env)(s:W6)(H:Hp)(E:XK),eX k (A.deeper (envOfC x (e9 st) s.heap.objs.size f b9))->Np c np->N.Nodup->jl (k9 jf P w K mg base N x (e9 st) f b9 A outer s H E).nU c (je st) fb:=by intro f c b9 A outer s H E hr fW tH;have hq:=EE hr;infer_instance):7#0 (k+1) x n G:=by obtain⟨f,fd,F,m⟩:=V6 Y KE d;subst hG;have:=To F m (hb F) S (λc b9 A outer s H E hr fW=>k_ f c b9 A outer s H E hr fW S.nd) λss y h=>yM h;rwa[hn]at this
end
section
theorem cv{p:Prop}(x:p):p:=x
local macro_rules|`(tactic|exists$e:ident)=>`(tactic|with_reducible refine'@$e ..)
local macro_rules|`(tactic|exists$p,$e:ident,$a,$b,$_)=>`(tactic|(with_reducible show SE _ _ _ $p;refine'@$e ..);rotate_left;exact$a;exact$b)
local macro_rules|`(tactic|exists$p,$e:ident,$a,$b,$_,$_)=>`(tactic|(with_reducible show ST _ _ _ $p;refine'@$e ..);rotate_left;exact$a;exact$b)
local macro_rules|`(tactic|exists$s:str)=>do let ts<-(s.getString.splitOn " ").toArray.mapM λh=>`(tacticSeq|with_reducible refine'@$(Lean.mkIdent h.toName) ..);`(tactic|first$[|$ts]*)
local macro_rules|`(tactic|exists$s:str,$_)=>do let ts<-(s.getString.splitOn " ").toArray.mapM λh=>`(tacticSeq|exact$(Lean.mkIdent h.toName));`(tactic|first$[|$ts]*)
local macro_rules|`(tactic|exists$s:str,$_,$_)=>do let i(x:String):=Lean.mkIdent x.toName;let ts<-(s.getString.splitOn ";").toArray.mapM λl=>match l.splitOn " " with|[x,o,r,a,b]=>`(tacticSeq|exists $(i x) $(i o) _ _,$(i r):ident,$(i a),$(i b),_)|[_,x,o,r,a,b]=>`(tacticSeq|exists az ($(i x) $(i o) _ _),$(i r):ident,$(i a),$(i b),_,_)|_=>`(tacticSeq|fail);`(tactic|first$[|$ts]*)
set_option hygiene false in 
local macro_rules|`(tactic|infer_instance)=>`(tactic|(repeat' first|((with_reducible show SE _ _ _ _);first|(exists TF;rotate_left 2;assumption)|((with_reducible show SE _ _ _ (aE sI _));refine ZE ?_ (@Ri _ _ _ _))|exists aB (g8 true) _ _,q_,@E5 _ hq,@E8 _ true,_|exists ag ni _ _,ym,YY hq,YZ,_|((with_reducible show SE _ _ _ (sC _ _));refine Zq hq (λc=>?_) λc=>?_)|((with_reducible show SE _ _ _ (oz _ _));refine VZ (λc=>?_) λc=>?_)|exists ag jt _ _,ym,Vt hq,Ve,_|exists aB bj _ _,q_,uS hq,u0,_|exists ag bj _ _,oZ,uS hq,u0,_|exists aB (lL false) _ _,q_,Gz hq,GA false,_|exists aB cK _ _,q_,uT hq,u3,_|exists ag cK _ _,oZ,uT hq,u3,_|((with_reducible show SE _ _ _ (aK _ _ _ _ _));refine Ti rfl (@EI _ _ _ rfl rfl) ?_ (λl s0 H0 ex=>?_) (λl s0 H0 ex=>?_) (λl s0 H0 ex=>?_) (EF fW rfl))|exists "ag sF mM NM Zu;ag fP mM GG GH;aB fP lu GG GH;ag cD mM Ga Gb;aB cD lu Ga Gb;ag kH mM Fd Fe;aB kH lu Fd Fe;ag kq oZ u4 ko;aB ax Rx xJ yq;ag ax ym xJ yq;aB bD lu DJ DK;ag bD mM DJ DK;aB jh lu NJ RO;aB cZ lu ER ES;ag cZ mM ER ES;aB cR lu B8 DM;ag cR mM B8 DM;aB gu lu B7 DL;ag gu mM B7 DL;aB uZ lu NN RQ;ag yr oZ RT ko;ag ji oZ DO DP;aB eQ q_ u5 ko;ag eQ oZ u5 ko",_,_|exists "RK ZD Zt ZG Yu Dk Dh R_ R6 Xg Yi RI RJ Vq Zi XW Zs Vy P8 Di Dj se_const T5 DZ D3 UQ RY R1 R5 Vb R3 So R7 RH RG")|((with_reducible show ST _ _ _ _);first|exists az (aB (pK true) _ _),om,VA,VB true,_,_|exists az (aB (ox true) _ _),om,NV,Vr,_,_|exists az (aB (lL false) _ _),om,Gz hq,GA false,_,_|exists az (aB bj _ _),om,uS hq,u0,_,_|exists az (ag bj _ _),rg,uS hq,u0,_,_|exists az (aB cK _ _),om,uT hq,u3,_,_|exists az (ag cK _ _),rg,uT hq,u3,_,_|exists az (aB (g8 true) _ _),om,@E5 _ hq,@E8 _ true,_,_|((with_reducible show ST _ _ _ (az (eChain _ _ _ _ _)));refine st_chain u4 u4 ko ko ?_ ?_ ?_)|exists "T ag ji rg DO DP;T aB eQ om u5 ko;T ag eQ rg u5 ko;T ag kq rg u4 ko",_,_|exists "Ry RF RE")|((with_reducible show SS _ _ _ _);first|((with_reducible show SS _ _ _ (aq (aK _ _ _ _ _) (ae _ _)));refine Tj fW rfl (@EI _ _ _ rfl rfl) tH rfl rfl ?_ (λl s0 H0 ex=>?_) (λl s0 H0 ex=>?_) (λl s0 H0 ex=>?_) (EF fW rfl))|((with_reducible show SS _ _ _ (eB _ _ _));refine SV 1000000 (λh1 h2=>Nw PassesOwn.never h1 h2) ?_ ?_)|exists "Yw Y5 Vw Vs Ys Sr Ss SF SD SQ T7 SK Sq T6")|((with_reducible show jl _ _ _ _);first|exists "D9 D_ Ea"|exact D9|refine D_ ?_ ?_|refine Ea ?_)|exists "Zk Yo V4 Vp UJ SN VY P7 P6 DU TR Tp TV TU Sh Si Sv Sz Sx Sy S7 Ta S9 S_ RC RB RA Rz S5 S6"|(refine cv ?_;first|assumption|rfl|exactλ_ _=>rfl|exactλ_=>rfl|decide|decide+kernel|exact hr.mono U'|exact hr.mono (Ux _ _)|exact(hr.h.mono U').mark _|exact Or.inl rfl|exact Or.inr rfl|exists "TH T.sJ T.sZ T.ty_int T.sR T.sQ boot_int T.sX T.sW T.sS T.s_ T.sL T.sO T.sU T.ty_bool T.sM boot_bool T.ty_str T.sY boot_str T.ty_tuple boot_tuple PassesOwn.never T.sP T.sV T.tf",_|exact pv _|exact nomark _)))
section
variable{w:Ww}{h:Heap}(T:Txt K mg)(Y:K.In h)(KE:h.Ns WE mg)
include T Y KE
theorem ZO(d:aV K "_law_cell_at" GJ):7#0 1 "_law_cell_at" 2 pT:=cp (N:=["script","k"]) Y KE d
theorem ZP(d:aV K "_law_pen_of" GK):7#0 1 "_law_pen_of" 1 pU:=cp (N:=["cell","left"]) Y KE d
theorem ZQ(d:aV K "_law_next" GN):7#0 1 "_law_next" 1 pV:=cp (N:=["seed"]) Y KE d
theorem ZR(d:aV K "_law_draw" GO)(Ie:7#0 1 "_law_next" 1 pV):7#0 2 "_law_draw" 2 cV:=cp (N:=["pen","many","found"]) Y KE d
theorem ZS(d:aV K "_law_sizes_by" GQ)(kT:7#0 2 "_law_draw" 2 cV):7#0 3 "_law_sizes_by" 1 tj:=cp (N:=["pen","high","wide"]) Y KE d
theorem ZT(d:aV K "_law_pick" GU)(kT:7#0 2 "_law_draw" 2 cV):7#0 3 "_law_pick" 4 jY:=cp (N:=["pen","tiles","place","way"]) Y KE d
theorem ZU(d:aV K "_law_rule_by" GV)(kT:7#0 2 "_law_draw" 2 cV)(Ig:7#0 3 "_law_sizes_by" 1 tj)(Ih:7#0 3 "_law_pick" 4 jY):7#0 4 "_law_rule_by" 2 pW:=cp (N:=["pen","most","high","wide","size","first","letters","tiles","way","blocks","place","block","row","k","column"]) Y KE d
theorem ZV(d:aV K "_law_power" GW):7#0 1 "_law_power" 2 lO:=cp (N:=["base","often","found","turn"]) Y KE d
theorem ZW(d:aV K "column_text" GX):7#0 1 "column_text" 2 v_:=cp (N:=["floor","column","row"]) Y KE d
theorem ZX(d:aV K "turned_floor" GY)(Ii:7#0 1 "column_text" 2 v_):7#0 2 "turned_floor" 1 tw:=cp (N:=["floor","column"]) Y KE d
theorem ZY(d:aV K "turned_rule" GZ)(Ij:7#0 2 "turned_floor" 1 tw):7#0 3 "turned_rule" 1 oF:=cp (N:=["rule","high","wide","blocks","tile","block"]) Y KE d
theorem ZZ(d:aV K "refuse_no_tile" G0):7#0 1 "refuse_no_tile" 2 lP:=cp (N:=["rule","thing"]) Y KE d
theorem Z0(d:aV K "grown_size" G1):7#0 1 "grown_size" 3 kO:=cp (N:=["size","factor","often","growing"]) Y KE d
theorem Z1(d:aV K "whole_from" G2):7#0 1 "whole_from" 2 kP:=cp (N:=["thing","least"]) Y KE d
theorem Z2(d:aV K "whole_within" G3)(wb:7#0 1 "whole_from" 2 kP):7#0 2 "whole_within" 3 nr:=cp (N:=["thing","least","most"]) Y KE d
theorem Z3(d:aV K "held_grown" G4):7#0 1 "held_grown" 4 pX:=cp (N:=["block_of","held","down","right","grown","key","many","all_rows","all_columns","tile","i","tiles","j","part","place"]) Y KE d
theorem Z4(d:aV K "rule_tiles" G5):7#0 1 "rule_tiles" 1 kQ:=cp (N:=["rule","tile","block"]) Y KE d
theorem Z5(d:aV K "counts_listed" G6)(wc:7#0 1 "rule_tiles" 1 kQ):7#0 2 "counts_listed" 2 kR:=cp (N:=["rule","many_of","tile"]) Y KE d
theorem Z6(d:aV K "counts_within" G7)(we:7#0 1 "refuse_no_tile" 2 lP)(Ik:7#0 1 "grown_size" 3 kO)(Il:7#0 2 "whole_within" 3 nr)(Im:7#0 1 "held_grown" 4 pX)(wg:7#0 2 "counts_listed" 2 kR):7#0 3 "counts_within" 5 nt:=cp (N:=["rule","tile","growings","rows","columns","tall","broad","block_of","held","growing","key","many"]) Y KE d
theorem Z7(d:aV K "table_of" G8)(wc:7#0 1 "rule_tiles" 1 kQ):7#0 2 "table_of" 1 iZ:=cp (N:=["rule","tiles","own","block","tile"]) Y KE d
theorem Z8(d:aV K "mirrored_floor" G9):7#0 1 "mirrored_floor" 1 tE:=cp (N:=["floor","row"]) Y KE d
theorem Z9(d:aV K "mirrored_rule" G_)(Io:7#0 1 "mirrored_floor" 1 tE):7#0 2 "mirrored_rule" 1 wa:=cp (N:=["rule","high","wide","blocks","tile","block"]) Y KE d
theorem Z_(d:aV K "_law_both_ways" Ha)(kT:7#0 2 "_law_draw" 2 cV)(wj:7#0 1 "_law_power" 2 lO)(wk:7#0 3 "turned_rule" 1 oF)(wm:7#0 3 "counts_within" 5 nt)(qc:7#0 2 "table_of" 1 iZ)(Ip:7#0 2 "mirrored_rule" 1 wa):7#0 4 "_law_both_ways" 4 pY:=cp (N:=["rule","tile","growings","pen","rows","columns","turned"]) Y KE d
theorem z3D(d:aV K "parts_of_blocks" Hb):7#0 1 "parts_of_blocks" 1 pZ:=cp (N:=["rule","parts_of","tile","block","text","part"]) Y KE d
theorem z5S(d:aV K "tile_counts" Hc)(we:7#0 1 "refuse_no_tile" 2 lP)(wg:7#0 2 "counts_listed" 2 kR)(Iq:7#0 1 "parts_of_blocks" 1 pZ):7#0 3 "tile_counts" 3 tF:=cp (N:=["rule","tile","growings","parts_of","many_of","growing","grown","ahead","many","part","often"]) Y KE d
theorem z5T(d:aV K "table_times" Hd):7#0 1 "table_times" 2 jZ:=cp (N:=["table","other","size","columns","product","row","number","column","one","two"]) Y KE d
theorem z5U(d:aV K "table_power" He)(qc:7#0 2 "table_of" 1 iZ)(Ir:7#0 1 "table_times" 2 jZ):7#0 3 "table_power" 2 lQ:=cp (N:=["rule","growings","size","power","square","left","row","column"]) Y KE d
theorem z2d(d:aV K "_law_counts_together" Hf)(wj:7#0 1 "_law_power" 2 lO)(wm:7#0 3 "counts_within" 5 nt)(Iu:7#0 3 "tile_counts" 3 tF)(wo:7#0 3 "table_power" 2 lQ):7#0 4 "_law_counts_together" 3 p_:=cp (N:=["rule","tile","growings","found","high","wide","place","other","many","pair"]) Y KE d
theorem z60(d:aV K "_law_powers" Hg)(wo:7#0 3 "table_power" 2 lQ):7#0 4 "_law_powers" 3 qa:=cp (N:=["rule","one","other","left","right","size","both","row","place","k"]) Y KE d
theorem z4d(d:aV K "common_divisor" Hh):7#0 1 "common_divisor" 2 gN:=cp (N:=["one","other"]) Y KE d
theorem z5X(d:aV K "row_lowered" Hi)(kU:7#0 1 "common_divisor" 2 gN):7#0 2 "row_lowered" 1 qb:=cp (N:=["row","divisor","number"]) Y KE d
theorem z5Y(d:aV K "row_cleared" Hj)(Iv:7#0 2 "row_lowered" 1 qb):7#0 3 "row_cleared" 3 nu:=cp (N:=["row","pivot","column","one","two"]) Y KE d
theorem z5V(d:aV K "solved_rows" Hk)(Iw:7#0 3 "row_cleared" 3 nu):7#0 4 "solved_rows" 1 oG:=cp (N:=["rows","solved","left","column","picked","pivot","row","own"]) Y KE d
theorem z6V(d:aV K "still_rows" Hl)(qc:7#0 2 "table_of" 1 iZ):7#0 3 "still_rows" 1 jz:=cp (N:=["rule","table","area","rows","number","row","line"]) Y KE d
theorem z3E(d:aV K "lowest_fraction" Hm)(kU:7#0 1 "common_divisor" 2 gN):7#0 2 "lowest_fraction" 2 nv:=cp (N:=["top","bottom","divisor"]) Y KE d
theorem z5l(d:aV K "still_shares" Hn)(kU:7#0 1 "common_divisor" 2 gN)(Iy:7#0 4 "solved_rows" 1 oG)(wq:7#0 3 "still_rows" 1 jz)(Iz:7#0 2 "lowest_fraction" 2 nv):7#0 5 "still_shares" 1 jA:=cp (N:=["rule","many","solved","free","weight","column","row","weights","whole","top"]) Y KE d
theorem z4F(d:aV K "fraction_good" Ho)(wb:7#0 1 "whole_from" 2 kP)(kU:7#0 1 "common_divisor" 2 gN):7#0 2 "fraction_good" 1 kS:=cp (N:=["thing","top","bottom"]) Y KE d
theorem z5W(d:aV K "shares_hold" Hq)(kU:7#0 1 "common_divisor" 2 gN)(wq:7#0 3 "still_rows" 1 jz)(IA:7#0 2 "fraction_good" 1 kS):7#0 4 "shares_hold" 2 lR:=cp (N:=["rule","thing","common","top","bottom","weights","row","share","one","two"]) Y KE d
end
theorem zka{f w}(F:gX K "law" "law" lN f fd)(T:Txt K mg)(IB:7#0 1 "_law_cell_at" 2 pT)(IC:7#0 1 "_law_pen_of" 1 pU)(kT:7#0 2 "_law_draw" 2 cV)(ID:7#0 4 "_law_rule_by" 2 pW)(wk:7#0 3 "turned_rule" 1 oF)(IE:7#0 4 "_law_both_ways" 4 pY)(IF:7#0 4 "_law_counts_together" 3 p_)(IG:7#0 4 "_law_powers" 3 qa)(IH:7#0 5 "still_shares" 1 jA)(II:7#0 4 "shares_hold" 2 lR):jK P w K mg base jf 6 f fd ["script"] (mS 1 tG):=Eu (np:=[]) (fb:=Ib) F Ic λc b9 A outer s H E hr fW=>by have hq:=EE hr;have tH:=Ic.nd;infer_instance λss y h=>yM h
end
theorem all_mk{l:PySem.W.OpenLaw}{w:Ww}{h:Heap}(X:K.In h)(G:h.Ns WE mg)(hfa:mg "law"=some (.ref fa))(d0:aV K "_law_cell_at" GJ)(d1:aV K "_law_pen_of" GK)(d2:aV K "_law_next" GN)(d3:aV K "_law_draw" GO)(d4:aV K "_law_sizes_by" GQ)(d5:aV K "_law_pick" GU)(d6:aV K "_law_rule_by" GV)(d7:aV K "_law_power" GW)(d8:aV K "column_text" GX)(d9:aV K "turned_floor" GY)(zY:aV K "turned_rule" GZ)(zZ:aV K "refuse_no_tile" G0)(z5:aV K "grown_size" G1)(z7:aV K "whole_from" G2)(z8:aV K "whole_within" G3)(z9:aV K "held_grown" G4)(z_:aV K "rule_tiles" G5)(Aa:aV K "counts_listed" G6)(Ac:aV K "counts_within" G7)(Ad:aV K "table_of" G8)(Ae:aV K "mirrored_floor" G9)(Af:aV K "mirrored_rule" G_)(Ag:aV K "_law_both_ways" Ha)(Ah:aV K "parts_of_blocks" Hb)(Ai:aV K "tile_counts" Hc)(Aj:aV K "table_times" Hd)(Al:aV K "table_power" He)(Am:aV K "_law_counts_together" Hf)(An:aV K "_law_powers" Hg)(Ao:aV K "common_divisor" Hh)(Ap:aV K "row_lowered" Hi)(Aq:aV K "row_cleared" Hj)(Ar:aV K "solved_rows" Hk)(As:aV K "still_rows" Hl)(Au:aV K "lowest_fraction" Hm)(Aw:aV K "still_shares" Hn)(Ax:aV K "fraction_good" Ho)(Ay:aV K "shares_hold" Hq)(Az:nsIn K WE "law"=some (some (.ref f38)))(AB:K.lookup f38=some ⟨oc38,od38,.func (J8 "law" "law" (mF lN) (je lN) (e9 lN) .none kV38 dc38 pm38 an38 cd38 ct38),sl38⟩)(AD:codeIn K cd38 "law"=true)(AE:keepIn K (.ref f38)=true)(sJ:nsIn K WE "abs"=some none)(sL:nsIn K WE "all"=some none)(sM:nsIn K WE "bool"=some none)(sO:nsIn K WE "dict"=some none)(sP:nsIn K WE "enumerate"=some none)(sQ:nsIn K WE "int"=some none)(sR:nsIn K WE "isinstance"=some none)(sS:nsIn K WE "len"=some none)(sU:nsIn K WE "max"=some none)(sV:nsIn K WE "range"=some none)(sW:nsIn K WE "set"=some none)(sX:nsIn K WE "sorted"=some none)(sY:nsIn K WE "str"=some none)(sZ:nsIn K WE "sum"=some none)(s_:nsIn K WE "tuple"=some none)(tf:nsIn K WE "zip"=some none):∃fd:QX,(∀(s:W6)(v:Value),BindsTo s fd ⟨[v],[]⟩ [("script",v)])/\∀base:Heap,K.In base->base.Ns WE mg->jK l.prog w K mg base jf 6 fa fd ["script"] (mS 1 tG):=by have e:=hfa.symm.trans (mg_of X G Az);cases e;have T:Txt K mg:=⟨WO X G sJ,WO X G sL,WO X G sM,WO X G sO,WO X G sP,WO X G sQ,WO X G sR,WO X G sS,WO X G sU,WO X G sV,WO X G sW,WO X G sX,WO X G sY,WO X G sZ,WO X G s_,WO X G tf,TL,TK,TN,TQ⟩;have F38:=CW (st:=lN) AB AD AE;refine⟨J8 "law" "law" (mF lN) (je lN) (e9 lN) .none kV38 dc38 pm38 an38 cd38 ct38,λs v=>.of_eq rfl,λbase j j=>?_⟩;have IB:=ZO (P:=l.prog) (w:=w) (base:=base) T X G d0;have IC:=ZP (P:=l.prog) (w:=w) (base:=base) T X G d1;have Ie:=ZQ (P:=l.prog) (w:=w) (base:=base) T X G d2;have kT:=ZR T X G d3 Ie;have Ig:=ZS T X G d4 kT;have Ih:=ZT T X G d5 kT;have ID:=ZU T X G d6 kT Ig Ih;have wj:=ZV (P:=l.prog) (w:=w) (base:=base) T X G d7;have Ii:=ZW (P:=l.prog) (w:=w) (base:=base) T X G d8;have Ij:=ZX T X G d9 Ii;have wk:=ZY T X G zY Ij;have we:=ZZ (P:=l.prog) (w:=w) (base:=base) T X G zZ;have Ik:=Z0 (P:=l.prog) (w:=w) (base:=base) T X G z5;have wb:=Z1 (P:=l.prog) (w:=w) (base:=base) T X G z7;have Il:=Z2 T X G z8 wb;have Im:=Z3 (P:=l.prog) (w:=w) (base:=base) T X G z9;have wc:=Z4 (P:=l.prog) (w:=w) (base:=base) T X G z_;have wg:=Z5 T X G Aa wc;have wm:=Z6 T X G Ac we Ik Il Im wg;have qc:=Z7 T X G Ad wc;have Io:=Z8 (P:=l.prog) (w:=w) (base:=base) T X G Ae;have Ip:=Z9 T X G Af Io;have IE:=Z_ T X G Ag kT wj wk wm qc Ip;have Iq:=z3D (P:=l.prog) (w:=w) (base:=base) T X G Ah;have Iu:=z5S T X G Ai we wg Iq;have Ir:=z5T (P:=l.prog) (w:=w) (base:=base) T X G Aj;have wo:=z5U T X G Al qc Ir;have IF:=z2d T X G Am wj wm Iu wo;have IG:=z60 T X G An wo;have kU:=z4d (P:=l.prog) (w:=w) (base:=base) T X G Ao;have Iv:=z5X T X G Ap kU;have Iw:=z5Y T X G Aq Iv;have Iy:=z5V T X G Ar Iw;have wq:=z6V T X G As qc;have Iz:=z3E T X G Au kU;have IH:=z5l T X G Aw kU Iy wq Iz;have IA:=z4F T X G Ax wb kU;have II:=z5W T X G Ay kU wq IA;exact zka F38 T IB IC kT ID wk IE IF IG IH II
def bM(bs:8#0)(n:Nat):List Tx:=((bs.find? λb=>decide (b.1=n)).map (·.2)).getD []
theorem j3{bs:8#0}(h:n∈bs.map (·.1)):∃b∈bs,b.1=n/\(bs.find? λb=>decide (b.1=n))=some b/\bM bs n=b.2:=by cases e:bs.find? λb=>decide (b.1=n)with|none=>obtain⟨b,hb,rfl⟩:=Wj.mp h;have:=List.find?_eq_none.mp e b hb;simp at this|some b=>have h1:=List.mem_of_find?_eq_some e;have h2:=List.find?_some e;refine⟨b,h1,~~~h2,rfl,?_⟩;unfold bM;rw[e];rfl
def M(bs:8#0)(t s:Nat):Nat:=(bM bs t).flatten.count s
theorem i5{bs:8#0}(R:bC h w bs):(bs.map (·.1)).Nodup:=R.up.imp λh=>Wr h
theorem zeW{bs:8#0}(R:bC h w bs){b:Nat×List Tx}(hb:b∈bs):bM bs b.1=b.2:=by
 obtain⟨b',eC,e0,_,e2⟩:=j3 (Qh hb:b.1∈bs.map (·.1));have:b'=b:=by obtain⟨i,hi,e⟩:=QG hb;obtain⟨j,hj,e'⟩:=QG eC;have nd:=i5 R;have:i=j:=(List.getElem_inj (h₀:= ~~~hi) (h₁:= ~~~hj) nd).mp #v[e,e',e0];subst this;rw[<-e,<-e']
 rw[e2,this]
def sN:Nat->(Nat->Int)->Int|0,_=>0|n+1,f=>sN n f+f n
theorem hZ:∀{n:Nat}{f g:Nat->Int},(∀i,i<n->f i=g i)->sN n f=sN n g|0,_,_,_=>rfl|n+1,f,g,h=>by show sN n f+f n=sN n g+g n;rw[hZ λi hi=>h i Z',h n Z']
theorem lT(f g:Nat->Int):∀n,sN n (λi=>f i+g i)=sN n f+sN n g|0=>rfl|n+1=>by show sN n (λi=>f i+g i)+(f n+g n)=sN n f+f n+(sN n g+g n);rw[lT f g n];lia
theorem h9(c:Int)(f:Nat->Int):∀n,sN n (λi=>c*f i)=c*sN n f|0=>#v[sN]|n+1=>by show sN n (λi=>c*f i)+c*f n=c*(sN n f+f n);rw[h9 c f n,Int.mul_add]
theorem qe:∀{n:Nat}{f:Nat->Int},(∀i,i<n->f i=0)->sN n f=0|0,_,_=>rfl|n+1,f,h=>by show sN n f+f n=0;rw[qe λi hi=>h i Z',h n Z'];rfl
theorem AF(f:Nat->Nat->Int)(m:Nat):∀n,sN n (λi=>sN m λj=>f i j)=sN m λj=>sN n λi=>f i j|0=>(qe λi k=>rfl).symm|n+1=>by show sN n (λi=>sN m λj=>f i j)+sN m (λj=>f n j)=sN m λj=>sN n (λi=>f i j)+f n j;rw[AF f m n,<-lT]
theorem AG:∀{n:Nat}{f:Nat->Int},(∀i,i<n->0<=f i)->0<=sN n f|0,_,_=>Int.le_refl 0|n+1,f,h=>by have h1:=AG (n:=n) (f:=f) λi hi=>h i Z';have h2:=h n Z';show 0<=sN n f+f n;lia
theorem IJ:∀{n:Nat}{f g:Nat->Int},(∀i,i<n->f i<=g i)->sN n f<=sN n g|0,_,_,_=>Int.le_refl 0|n+1,f,g,h=>by have h1:=IJ (n:=n) (f:=f) (g:=g) λi hi=>h i Z';have h2:=h n Z';show sN n f+f n<=sN n g+g n;lia
theorem AH:∀{n:Nat}{f:Nat->Int},(∀i,i<n->0<=f i)->sN n f=0->∀i,i<n->f i=0
 |0,_,_,_,i,hi=>by lia|n+1,f,h,e,i,hi=>by
  have h1:=AG (n:=n) (f:=f) λi hi=>h i Z';have h2:=h n Z';have e':sN n f+f n=0:=e;by_cases q:i=n;.subst q;lia
  .exact AH (n:=n) (λi hi=>h i Z') Z' i Z'
theorem oH{k:Nat}{f:Nat->Int}(hk:k<n)(h:∀i,i<n->i≠k->f i=0):sN n f=f k:=by induction n with|zero=>lia|succ n ih=>
 show sN n f+f n=f k;by_cases q:k=n;.subst q;rw[qe λi hi=>h i Z' Z'];lia
 .rw[ih Z' λi hi=>h i Z',h n Z' λz=>q z.symm];lia
theorem zjk{k l:Nat}{f:Nat->Int}(hk:k<n)(hl:l<n)(hkl:k≠l)(h:∀i,i<n->i≠k->i≠l->f i=0):sN n f=f k+f l:=by
 have e:sN n f=sN n λi=>(if i=k then f k else 0)+if i=l then f l else 0:=hZ λi hi=>by
  by_cases q:i=k;.subst q;simp[hkl]
  .by_cases q2:i=l;.subst q2;simp[q]
   .simp[q,q2,h i hi q q2]
 rw[e,lT,oH (k:=k) hk λi j q=>#v[q],oH (k:=l) hl λi j q=>#v[q]];simp
def dot(n:Nat)(r v:Nat->Int):Int:=sN n λi=>r i*v i
theorem tJ{r r' p:Nat->Int}{a b g:Int}(h:∀i,i<n->g*r' i=a*r i+b*p i):g*dot n r' v=a*dot n r v+b*dot n p v:=by unfold dot;rw[<-h9,<-h9,<-h9,<-lT];refine hZ λi hi=>?_;rw[<-QC,h i hi,Int.add_mul,QC,QC]
theorem IK:∀(n:Nat)(L:List (Nat->Int)),L.length<n->∃v:Nat->Int,(∃i,i<n/\v i≠0)/\∀r∈L,dot n r v=0
 |0,L,h=>by lia|n+1,L,h=>by
  by_cases q:∃p∈L,p n≠0
  .obtain⟨p,hp,hn⟩:=q;obtain⟨l1,l2,rfl⟩:=List.append_of_mem hp;obtain⟨v,⟨i,hi,hv⟩,hs⟩:=IK n ((l1++l2).map λr i=>p n*r i+-r n*p i) (by simp at h⊢;lia);refine⟨λi=>if i<n then p n*v i else-dot n p v,⟨i,Z',?_⟩,?_⟩;.simp only[hi,if_true];exact Int.mul_ne_zero hn hv
   .have key:∀r:Nat->Int,dot (n+1) r (λi=>if i<n then p n*v i else-dot n p v)=p n*dot n r v+-r n*dot n p v:=λr=>by
     show sN n (λi=>r i*if i<n then p n*v i else-dot n p v)+r n*(if n<n then p n*v n else-dot n p v)=_;rw[if_neg Z'];have e:sN n (λi=>r i*if i<n then p n*v i else-dot n p v)=p n*dot n r v:=by unfold dot;rw[<-h9];refine hZ λi hi=>?_;rw[if_pos hi,<-QC,Q3 (r i),QC]
     rw[e,Int.mul_neg,JY]
    intro r hr;rw[key];have kW:r∈l1++l2\/r=p:=by
     rcases WI.mp hr with h|h;.exact .inl (Jx _ h)
     .rcases Wv.mp h with h|h;.exact .inr h
      .exact .inl (WQ _ h)
    rcases kW with kW|rfl;.have e:=hs _ (Wj.mpr ⟨r,kW,rfl⟩);have e2:=tJ (n:=n) (r:=r) (r':=λi=>p n*r i+-r n*p i) (p:=p) (v:=v) (a:=p n) (b:=-r n) (g:=1) (λi j=>by rw[Int.one_mul]);rw[e]at e2;lia
    .rw[JY];lia
  .refine⟨λi=>if i=n then 1 else 0,⟨n,Z',V'⟩,λr hr=>?_⟩;have hz:r n=0:=by
    by_cases z:r n=0;.exact z
    .exact absurd ⟨r,hr,z⟩ q
   refine qe λi hi=>?_;by_cases z:i=n;.subst z;simp[hz]
   .simp[z]
section
variable{T:Nat->Nat->Int}
def oI(n:Nat)(T:Nat->Nat->Int)(A:Int)(v:Nat->Int):Prop:=∀j,j<n->sN n (λi=>v i*T i j)=A*v j
theorem AI(f:Nat->Int):∀n,((sN n f).natAbs:Int)<=sN n λi=>((f i).natAbs:Int)|0=>Int.le_refl 0|n+1=>by have ih:=AI f n;show((sN n f+f n).natAbs:Int)<=sN n (λi=>((f i).natAbs:Int))+((f n).natAbs:Int);lia
theorem zaW(hT:∀i j,0<=T i j)(hA:0<=A)(hr:∀i,i<n->sN n (T i)=A)(hv:oI n T A v):oI n T A λi=>((v i).natAbs:Int):=by
 have le:∀j,j<n->A*((v j).natAbs:Int)<=sN n λi=>((v i).natAbs:Int)*T i j:=λj hj=>by
  have h1:=AI (λi=>v i*T i j) n;rw[hv j hj,Jk]at h1;have e1:((A.natAbs*(v j).natAbs:Nat):Int)=A*((v j).natAbs:Int):=by rw[Q8,Int.natAbs_of_nonneg hA]
  rw[e1]at h1;refine Int.le_trans h1 (Int.le_of_eq (hZ λi hi=>?_));rw[Jk,Q8,Int.natAbs_of_nonneg (hT i j)]
 have tot:sN n (λj=>(sN n λi=>((v i).natAbs:Int)*T i j)-A*((v j).natAbs:Int))=0:=by
  have e1:sN n (λj=>(sN n λi=>((v i).natAbs:Int)*T i j)-A*((v j).natAbs:Int))=sN n (λj=>sN n λi=>((v i).natAbs:Int)*T i j)+sN n λj=>-A*((v j).natAbs:Int):=by rw[<-lT];exact hZ λj hj=>by rw[JY];lia
  rw[e1,<-AF λi j=>((v i).natAbs:Int)*T i j,h9];have e2:sN n (λi=>sN n λj=>((v i).natAbs:Int)*T i j)=A*sN n λi=>((v i).natAbs:Int):=by rw[<-h9];refine hZ λi hi=>?_;rw[h9,hr i hi,Q3]
  rw[e2,JY];lia
 intro j hj;have:=AH λj hj=>by have:=le j hj;lia tot j hj;show sN n (λi=>((v i).natAbs:Int)*T i j)=A*((v j).natAbs:Int);lia
theorem zdw(hn:0<n)(hr:∀i,i<n->sN n (T i)=A):∃v:Nat->Int,(∃i,i<n/\v i≠0)/\oI n T A v:=by
 obtain⟨m,rfl⟩:∃m,n=m+1:=⟨n-1,Z'⟩;obtain⟨v,hv,hs⟩:=IK (m+1) ((W7 m).map λj i=>T i j-if i=j then A else 0) V';have dj:∀j,j<m+1->dot (m+1) (λi=>T i j-if i=j then A else 0) v=sN (m+1) (λi=>v i*T i j)-A*v j:=λj hj=>by
  have e:dot (m+1) (λi=>T i j-if i=j then A else 0) v=sN (m+1) λi=>v i*T i j+-1*((if i=j then A else 0)*v i):=by unfold dot;refine hZ λi hi=>?_;rw[Int.sub_mul,Q3 (T i j)];lia
  rw[e,lT,h9,oH (k:=j) (f:=λi=>(if i=j then A else 0)*v i) hj λi y q=>#v[q]];simp only[if_true];lia
 have st:∀j,j<m->sN (m+1) (λi=>v i*T i j)=A*v j:=λj hj=>by have e:=hs _ (Wj.mpr ⟨j,Ws.mpr hj,rfl⟩);rw[dj j Z']at e;lia
 refine⟨v,hv,λj hj=>?_⟩;by_cases q:j<m;.exact st j q
 .have:j=m:=by lia
  subst this;have e1:sN (j+1) (λk=>sN (j+1) λi=>v i*T i k)=A*sN (j+1) v:=by rw[<-AF λi k=>v i*T i k,<-h9];refine hZ λi hi=>?_;rw[h9,hr i hi,Q3]
  have e2:sN j (λk=>sN (j+1) λi=>v i*T i k)=A*sN j v:=by rw[<-h9];exact hZ λk hk=>st k hk
  have e3:sN (j+1) (λk=>sN (j+1) λi=>v i*T i k)=sN j (λk=>sN (j+1) λi=>v i*T i k)+sN (j+1) λi=>v i*T i j:=rfl;have e4:sN (j+1) v=sN j v+v j:=rfl;rw[e3,e2,e4,Int.mul_add]at e1;lia
end
def ao(r:List Int)(i:Nat):Int:=r.getD i 0
theorem zim(f:Int->Int)(h0:f 0=0)(r:List Int)(i:Nat):ao (r.map f) i=f (ao r i):=by unfold ao;rw[Wk,Wk,Wo];cases r[i]? with|none=>exact h0.symm|some x=>rfl
theorem zil(f:Int->Int->Int)(h:r.length=p.length)(hi:i<r.length):ao (QB f r p) i=f (ao r i) (ao p i):=by unfold ao;rw[Wk,Wk,Wk,List.getElem?_zipWith,W2 hi,W2 (show i<p.length by lia)];rfl
theorem AJ(h:r.length<=i):ao r i=0:=by unfold ao;rw[Wk,WD h];rfl
theorem wu(h:i<r.length):ao r i∈r:=by unfold ao;rw[Wk,W2 h];exact WV h
def gd(d:Nat)(r:List Int):Nat:=r.foldl (λ(d:Nat)x=>WY (d:Int) x) d
theorem IL:∀(r:List Int)(d:Nat),((gd d r:Nat):Int)∣(d:Int)/\∀x∈r,((gd d r:Nat):Int)∣ x
 |[],d=>⟨Int.dvd_refl _,λx h=>by cases h⟩|a::r,d=>by
  obtain⟨h1,h2⟩:=IL r (WY (d:Int) a);have e:gd d (a::r)=gd (WY (d:Int) a) r:=rfl;rw[e];refine⟨Int.dvd_trans h1 (Uz ..),λx hx=>?_⟩;rcases Wv.mp hx with rfl|hx;.exact Int.dvd_trans h1 (Ur ..)
  .exact h2 x hx
def rl(r:List Int):List Int:=if 1<gd 0 r then r.map λx=>x.fdiv (gd 0 r:Nat)else r
def rc(r p:List Int)(c:Nat):List Int:=if ao r c=0 then r else rl (QB (λa b=>a*ao p c-b*ao r c) r p)
theorem IM{x g:Int}(h:g ∣ x):x.fdiv g*g=x:=Int.fdiv_mul_cancel h
universe H in theorem qaa(r:List Int):(rl r).length=r.length/\∃g:Int,g≠0/\∀i,g*ao (rl r) i=ao r i:=by
 unfold rl;split
 .rename_i h;refine⟨V',((gd 0 r:Nat):Int),Z',λi=>?_⟩;rw[zim (λx=>x.fdiv (gd 0 r:Nat)) V'];by_cases hi:i<r.length;.rw[Q3];exact IM ((IL r 0).2 _ (wu hi))
  .rw[AJ Z'];simp
 .exact⟨rfl,1,U',λi=>Int.one_mul _⟩
theorem z1{a b g x:Int}(hg:g≠0)(h:g*x=a*0+b*0):x=0:=by
 rw[Int.mul_zero,Int.mul_zero,Int.add_zero]at h;rcases U7.mp h with h|h;.exact absurd h hg
 .exact h
theorem z2{a b g x:Int}(ha:a≠0)(h:g*0=a*x+b*0):x=0:=by
 rw[Int.mul_zero,Int.mul_zero,Int.add_zero]at h;rcases U7.mp h.symm with h|h;.exact absurd h ha
 .exact h
theorem IP{g x y:Int}(hg:g≠0)(h:g*x=y):x.natAbs<=y.natAbs:=by rw[<-h,Jk];exact Nat.le_mul_of_pos_left _ Z'
universe H in theorem wx(hr:r.length=n)(hp:p.length=n)(hc:c<n)(ny:ao p c≠0)(hm:1<=m)(br:∀i,(ao r i).natAbs<=m)(bp:∀i,(ao p i).natAbs<=m):(rc r p c).length=n/\ao (rc r p c) c=0/\(∀i,(ao (rc r p c) i).natAbs<=2*m*m)/\∃a b g:Int,a≠0/\g≠0/\∀i,i<n->g*ao (rc r p c) i=a*ao r i+b*ao p i:=by
 have mm:m<=2*m*m:=by have:1*m<=2*m*m:=QN m Z';lia
 unfold rc;split;.rename_i h;exact⟨hr,h,λi=>Wq (br i) mm,1,0,1,U',U',λi _=>by lia⟩
 .rename_i h;have hl:(QB (λa b=>a*ao p c-b*ao r c) r p).length=n:=by simp;lia
  obtain⟨l1,g,hg,h1⟩:=qaa (QB (λa b=>a*ao p c-b*ao r c) r p);have ez:∀i,i<n->ao (QB (λa b=>a*ao p c-b*ao r c) r p) i=ao r i*ao p c-ao p i*ao r c:=λi hi=>zil _ Z' Z';generalize QB (λa b=>a*ao p c-b*ao r c) r p=z at*;refine⟨Z',?_,λi=>?_,ao p c,-ao r c,g,ny,hg,λi hi=>?_⟩
  .have:=h1 c;rw[ez c hc,Q3 (ao p c),Int.sub_self]at this;rcases U7.mp this with q|q;.exact absurd q hg
   .exact q
  .by_cases hi:i<n
   .refine Wq (IP hg (h1 i)) ?_;rw[ez i hi];have a1:(ao r i*ao p c).natAbs<=m*m:=by rw[Jk];exact QZ (br i) (bp c)
    have a2:(ao p i*ao r c).natAbs<=m*m:=by rw[Jk];exact QZ (bp i) (br c)
    have e:2*m*m=m*m+m*m:=by rw[Jg];lia
    lia
   .rw[AJ Z'];exact Qc _
  .rw[h1 i,ez i hi,JY,Q3 (ao p c),Q3 (ao r c)];lia
abbrev dJ:=List (Nat×List Int)×List (List Int)
variable{s:dJ}
def kX(c:Nat)(s:dJ):dJ:=match s.2.filter λr=>ao r c !=0with|[]=>s|p::q=>(s.1.map (λkr=>(kr.1,rc kr.2 p c))++[(c,p)],q.map (λr=>rc r p c)++s.2.filter λr=>ao r c==0)
structure Gj(n c m:Nat)(f7:List (List Int))(s:dJ):Prop where
 l1:∀x∈s.1,x.2.length=n
 l2:∀r∈s.2,r.length=n
 kc:∀x∈s.1,x.1<c
 nd:(s.1.map (·.1)).Nodup
 pv:∀x∈s.1,ao x.2 x.1≠0dg:∀x∈s.1,∀y∈s.1,y.1≠x.1->ao x.2 y.1=0zr:∀r∈s.2,∀i,i<c->ao r i=0kr:∀v:Nat->Int,(∀r∈f7,dot n (ao r) v=0)↔(∀x∈s.1,dot n (ao x.2) v=0)/\∀r∈s.2,dot n (ao r) v=0
 b1:∀x∈s.1,∀i,(ao x.2 i).natAbs<=m
 b2:∀r∈s.2,∀i,(ao r i).natAbs<=m
 ct:s.2.length<=f7.length
universe H in theorem zi0(G:Gj n c m f7 s)(hc:c<n)(hm:1<=m):Gj n (c+1) (2*m*m) f7 (kX c s):=by
 have mm:m<=2*m*m:=by have:1*m<=2*m*m:=QN m Z';lia
 unfold kX;split
 .rename_i hf;refine⟨G.l1,G.l2,λx hx=>by have:=G.kc x hx;lia,G.nd,G.pv,G.dg,λr hr i hi=>?_,G.kr,λx hx i=>Wq (G.b1 x hx i) mm,λr hr i=>Wq (G.b2 r hr i) mm,G.ct⟩;by_cases q:i=c;.subst q;have:=List.filter_eq_nil_iff.mp hf r hr;simpa using this
  .exact G.zr r hr i Z'
 .rename_i p q hf;have i8:∀r,r∈p::q->r∈s.2/\ao r c≠0:=λr hr=>by rw[<-hf]at hr;have:=Qs.mp hr;exact⟨this.1,~~~this.2⟩
  obtain⟨hp,ny⟩:=i8 p Wc;have pl:=G.l2 p hp;have pb:=G.b2 p hp;have pz:=G.zr p hp;have lD:=λx(hx:x∈s.1)=>wx (G.l1 x hx) pl hc ny hm (G.b1 x hx) pb;have qf:=λr(hr:r∈q)=>wx (G.l2 r (i8 r (W8 _ hr)).1) pl hc ny hm (G.b2 r (i8 r (W8 _ hr)).1) pb;have cz:∀{r:List Int}{i:Nat},i<n->∀{a b g:Int},g≠0->g*ao (rc r p c) i=a*ao r i+b*ao p i->ao r i=0->ao p i=0->ao (rc r p c) i=0:=λ{r i}hi{a b g}hg h h1 h2=>by rw[h1,h2]at h;exact z1 hg h
  refine⟨λx hx=>?_,λr hr=>?_,λx hx=>?_,?_,λx hx=>?_,λx hx y hy oY=>?_,λr hr i hi=>?_,λv=>?_,λx hx i=>?_,λr hr i=>?_,?_⟩
  .rcases WI.mp hx with hx|hx;.obtain⟨x0,h0,rfl⟩:=Wj.mp hx;exact(lD x0 h0).1
   .have:x=(c,p):= ~~~hx;subst this;exact pl
  .rcases WI.mp hr with hr|hr;.obtain⟨r0,h0,rfl⟩:=Wj.mp hr;exact(qf r0 h0).1
   .exact G.l2 r (Qs.mp hr).1
  .rcases WI.mp hx with hx|hx;.obtain⟨x0,h0,rfl⟩:=Wj.mp hx;have:=G.kc x0 h0;show x0.1<c+1;lia
   .have:x=(c,p):= ~~~hx;subst this;show c<c+1;lia
  .rw[WS,Wn];refine JN.mpr ⟨G.nd,V',λa ha b hb e=>?_⟩;have eC:b=c:= ~~~hb;obtain⟨x0,h0,rfl⟩:=Wj.mp ha;have h1:=G.kc x0 h0;have h2:x0.1=b:=e;lia
  .rcases WI.mp hx with hx|hx;.obtain⟨x0,h0,rfl⟩:=Wj.mp hx;obtain⟨_,_,_,a,b,g,ha,hg,h⟩:=lD x0 h0;have k0:=G.kc x0 h0;have e:=h x0.1 Z';show ao (rc x0.2 p c) x0.1≠0;intro z;rw[z,pz x0.1 k0]at e;exact G.pv x0 h0 (z2 ha e)
   .have:x=(c,p):= ~~~hx;subst this;exact ny
  .rcases WI.mp hx with hx|hx
   .obtain⟨x0,h0,rfl⟩:=Wj.mp hx;obtain⟨_,hcz,_,a,b,g,ha,hg,h⟩:=lD x0 h0;rcases WI.mp hy with hy|hy;.obtain⟨y0,h0',rfl⟩:=Wj.mp hy;have k0:=G.kc y0 h0';exact cz (by show y0.1<n;lia) hg (h y0.1 Z') (G.dg x0 h0 y0 h0' oY) (pz y0.1 k0)
    .have:y=(c,p):= ~~~hy;subst this;exact hcz
   .have:x=(c,p):= ~~~hx;subst this;rcases WI.mp hy with hy|hy;.obtain⟨y0,h0',rfl⟩:=Wj.mp hy;exact pz y0.1 (G.kc y0 h0')
    .have:y=(c,p):= ~~~hy;subst this;exact absurd rfl oY
  .rcases WI.mp hr with hr|hr
   .obtain⟨r0,h0,rfl⟩:=Wj.mp hr;obtain⟨_,hcz,_,a,b,g,ha,hg,h⟩:=qf r0 h0;by_cases z:i=c;.subst z;exact hcz
    .exact cz Z' hg (h i Z') (G.zr r0 (i8 r0 (W8 _ h0)).1 i Z') (pz i Z')
   .obtain⟨h1,h2⟩:=Qs.mp hr;by_cases z:i=c;.subst z;simpa using h2
    .exact G.zr r h1 i Z'
  .rw[G.kr v];constructor
   .rintro⟨k1,k2⟩;have kp:=k2 p hp;refine⟨λx hx=>?_,λr hr=>?_⟩
    .rcases WI.mp hx with hx|hx;.obtain⟨x0,h0,rfl⟩:=Wj.mp hx;obtain⟨_,_,_,a,b,g,ha,hg,h⟩:=lD x0 h0;have e:=tJ (v:=v) h;rw[k1 x0 h0,kp]at e;exact z1 hg e
     .have:x=(c,p):= ~~~hx;subst this;exact kp
    .rcases WI.mp hr with hr|hr;.obtain⟨r0,h0,rfl⟩:=Wj.mp hr;obtain⟨_,_,_,a,b,g,ha,hg,h⟩:=qf r0 h0;have e:=tJ (v:=v) h;rw[k2 r0 (i8 r0 (W8 _ h0)).1,kp]at e;exact z1 hg e
     .exact k2 r (Qs.mp hr).1
   .rintro⟨k1,k2⟩;have kp:dot n (ao p) v=0:=k1 (c,p) (WQ _ V');refine⟨λx hx=>?_,λr hr=>?_⟩;.obtain⟨_,_,_,a,b,g,ha,hg,h⟩:=lD x hx;have e:=tJ (v:=v) h;rw[k1 (x.1,rc x.2 p c) (Jx _ (Wj.mpr ⟨x,hx,rfl⟩)),kp]at e;exact z2 ha e
    .by_cases z:ao r c=0;.exact k2 r (WQ _ (List.mem_filter.mpr ⟨hr,~~~z⟩))
     .have wz:r∈p::q:=by rw[<-hf];exact List.mem_filter.mpr ⟨hr,~~~z⟩
      rcases Wv.mp wz with rfl|wz;.exact kp
      .obtain⟨_,_,_,a,b,g,ha,hg,h⟩:=qf r wz;have e:=tJ (v:=v) h;rw[k2 (rc r p c) (Jx _ (Wj.mpr ⟨r,wz,rfl⟩)),kp]at e;exact z2 ha e
  .rcases WI.mp hx with hx|hx;.obtain⟨x0,h0,rfl⟩:=Wj.mp hx;exact(lD x0 h0).2.2.1 i
   .have:x=(c,p):= ~~~hx;subst this;exact Wq (pb i) mm
  .rcases WI.mp hr with hr|hr;.obtain⟨r0,h0,rfl⟩:=Wj.mp hr;exact(qf r0 h0).2.2.1 i
   .exact Wq (G.b2 r (Qs.mp hr).1 i) mm
  .refine Wq ?_ G.ct;have e1:(p::q).length+(s.2.filter λr=>ao r c==0).length<=s.2.length:=by rw[<-hf];clear hf lD qf pl pb pz hp i8 cz;induction s.2 with|nil=>simp|cons a l ih=>
     by_cases z:ao a c=0;.simp[z]at ih⊢;lia
     .simp[z]at ih⊢;lia
   simp at e1⊢;lia
def gO(rows:List (List Int)):Nat->dJ|0=>([],rows)|c+1=>kX c (gO rows c)
def mB:Nat->Nat|0=>16|k+1=>2*mB k*mB k
theorem wA:∀k,1<=mB k|0=>by decide|k+1=>by have:=wA k;have h:1*1<=2*mB k*mB k:=QZ Z' this;exact h
theorem IQ(k:Nat):mB k<=mB (k+1):=by have:=wA k;have h:1*mB k<=2*mB k*mB k:=QN _ Z';show mB k<=2*mB k*mB k;lia
theorem wD(hl:∀r∈rows,r.length=n)(hb:∀r∈rows,∀i,(ao r i).natAbs<=16):∀c,c<=n->Gj n c (mB c) rows (gO rows c)|0,_=>⟨(λx h=>by cases h),hl,(λx h=>by cases h),List.nodup_nil,(λx h=>by cases h),(λx h=>by cases h),λr j i hi=>by lia,λv=>⟨λh=>⟨(λx hx=>by cases hx),h⟩,λh=>h.2⟩,(λx h=>by cases h),hb,Wf _⟩|c+1,h=>zi0 (wD hl hb c Z') Z' (wA c)
section
variable(G:Gj n n m f7 s)
def dS(s:dJ)(i:Nat):Prop:=∃r,(i,r)∈s.1
include G
theorem IS(h:dS s i):i<n:=by obtain⟨r,hr⟩:=h;exact G.kc _ hr
theorem AK(v:Nat->Int):(∀r∈f7,dot n (ao r) v=0)↔∀x∈s.1,dot n (ao x.2) v=0:=by rw[G.kr v];refine⟨λh=>h.1,λh=>⟨h,λr hr=>qe λi hi=>?_⟩⟩;rw[G.zr r hr i hi,Int.zero_mul]
theorem IU(h:(i,r)∈s.1)(hj:dS s j)(qA:j≠i):ao r j=0:=by obtain⟨r',kW⟩:=hj;exact G.dg _ h _ kW qA
theorem IV(h:(i,r)∈s.1)(hf:f<n)(AL:i≠f)(only:∀j,j<n->j≠f->dS s j)(u:Nat->Int):dot n (ao r) u=ao r i*u i+ao r f*u f:=zjk (IS G ⟨r,h⟩) hf AL λj hj h1 h2=>by rw[IU G h (only j hj h2) h1,Int.zero_mul]
theorem zgX(h:(i,r)∈s.1)(only:∀j,j<n->dS s j)(u:Nat->Int):dot n (ao r) u=ao r i*u i:=oH (IS G ⟨r,h⟩) λj hj h1=>by rw[IU G h (only j hj) h1,Int.zero_mul]
theorem zhF(hv:∃i,i<n/\v i≠0)(hk:∀r∈f7,dot n (ao r) v=0):∃f,f<n/\¬dS s f:=by
 by_cases q:∃f,f<n/\¬dS s f;.exact q
 .exfalso;have only:∀j,j<n->dS s j:=λj hj=>by
   by_cases z:dS s j;.exact z
   .exact absurd ⟨j,hj,z⟩ q
  obtain⟨i,hi,hvi⟩:=hv;obtain⟨r,hr⟩:=only i hi;have e:=(AK G v).mp hk _ hr;rw[zgX G hr only]at e;rcases U7.mp e with e|e;.exact G.pv _ hr e
  .exact hvi e
omit G in def eV(s:dJ)(i:Nat):Option (List Int):=(s.1.find? λx=>decide (x.1=i)).map (·.2)
omit G in theorem IW:∀{l:List (Nat×List Int)},(l.map (·.1)).Nodup->(i,r)∈l->(l.find? λx=>decide (x.1=i))=some (i,r)
 |[],_,h=>by cases h|a::l,nd,h=>by
  rw[We]at nd;obtain⟨n1,n2⟩:=WL.mp nd;rcases Wv.mp h with rfl|h;.simp
  .have:a.1≠i:=λz=>n1 (by rw[z];exact Wj.mpr ⟨_,h,rfl⟩);rw[List.find?_cons_of_neg (~~~this)];exact IW n2 h
theorem zak(h:(i,r)∈s.1):eV s i=some r:=by unfold eV;rw[IW G.nd h];rfl
omit G in theorem IX(h:¬dS s i):eV s i=none:=by unfold eV;cases e:s.1.find? λx=>decide (x.1=i)with|none=>rfl|some x=>have h1:=List.mem_of_find?_eq_some e;have h2:=List.find?_some e;have:x.1=i:= ~~~h2;exact absurd ⟨x.2,by rw[<-this];exact h1⟩ h
def vv(s:dJ)(f:Nat)(w:Int)(i:Nat):Int:=match eV s i with|some r=>(-ao r f*w).fdiv (ao r i)|none=>w
theorem AM{w:Int}(h:(i,r)∈s.1)(hw:ao r i ∣ w):ao r i*vv s f w i=-ao r f*w:=by unfold vv;rw[zak G h];show ao r i*(-ao r f*w).fdiv (ao r i)=_;rw[Q3];exact IM (Int.dvd_mul_of_dvd_right hw)
omit G in theorem tK{w:Int}(h:¬dS s f):vv s f w f=w:=by unfold vv;rw[IX h]
variable{w:Int}(hf:f<n)(fE:¬dS s f)(only:∀j,j<n->j≠f->dS s j)(hw:∀x∈s.1,ao x.2 x.1 ∣ w)
include hf fE only hw
theorem IY:∀r∈f7,dot n (ao r) (vv s f w)=0:=(AK G _).mpr λx hx=>by have AL:x.1≠f:=λz=>fE ⟨x.2,by rw[<-z];exact hx⟩;rw[IV G (i:=x.1) hx hf AL only,AM G hx (hw x hx),tK fE,JY];lia
theorem ziw(hu:∀r∈f7,dot n (ao r) u=0)(hi:i<n):w*u i=u f*vv s f w i:=by
 by_cases q:i=f;.subst q;rw[tK fE,Q3]
 .obtain⟨r,hr⟩:=only i hi q;have e1:=(AK G u).mp hu _ hr;rw[IV G hr hf q only]at e1;have e2:=AM G (f:=f) hr (hw _ hr);have h0:=G.pv _ hr;have e3:ao r i*(w*u i-u f*vv s f w i)=0:=by
   rw[Int.mul_sub,<-QC,Q3 (ao r i) w,QC,<-QC (ao r i) (u f),Q3 (ao r i) (u f),QC (u f),e2];have e4:ao r i*u i=-(ao r f*u f):=by lia
   rw[e4,Int.mul_neg,JY,Int.mul_neg,Q3 (u f),QC (ao r f) w,Q3 w (u f),<-QC (ao r f) (u f) w,Q3 (ao r f*u f) w];lia
  rcases U7.mp e3 with e|e;.exact absurd e h0
  .lia
end
theorem zbj{T:Nat->Nat->Int}(oJ:rows.length=n)(ve:∀j,j<n->∀i,i<n->ao (rows.getD j []) i=T i j-if i=j then A else 0)(v:Nat->Int):(∀r∈rows,dot n (ao r) v=0)↔oI n T A v:=by
 have dj:∀j,j<n->dot n (ao (rows.getD j [])) v=sN n (λi=>v i*T i j)-A*v j:=λj hj=>by
  have e:dot n (ao (rows.getD j [])) v=sN n λi=>v i*T i j+-1*((if i=j then A else 0)*v i):=by unfold dot;refine hZ λi hi=>?_;rw[ve j hj i hi,Int.sub_mul,Q3 (T i j)];lia
  rw[e,lT,h9,oH (k:=j) (f:=λi=>(if i=j then A else 0)*v i) hj λi y q=>#v[q]];simp only[if_true];lia
 constructor
 .intro h j hj;have hm:rows.getD j []∈rows:=by rw[Wk,W2 Z'];exact WV _
  have:=h _ hm;rw[dj j hj]at this;lia
 .intro h r hr;obtain⟨j,hj,rfl⟩:=QG hr;have e:rows[j]=rows.getD j []:=by rw[Wk,W2 hj];rfl
  rw[e,dj j Z',h j Z'];lia
section
variable{T:Nat->Nat->Int}(G:Gj n n m f7 s)(hn:0<n)(hT:∀i j,0<=T i j)(hA:0<A)(hr:∀i,i<n->sN n (T i)=A)(hk:∀v,(∀r∈f7,dot n (ao r) v=0)↔oI n T A v)
include G hn hr hk in theorem zb1:∃f,f<n/\¬dS s f:=by obtain⟨v,hv,hs⟩:=zdw hn hr;exact zhF G hv ((hk v).mpr hs)
include G hT hA hr hk in theorem qab{w:Int}(hf:f<n)(fE:¬dS s f)(only:∀j,j<n->j≠f->dS s j)(hw:∀x∈s.1,ao x.2 x.1 ∣ w)(hw0:0<w):∀i,i<n->0<=vv s f w i:=λi hi=>by
 have k:=IY G hf fE only hw;have k2:=zaW hT Z' hr ((hk _).mp k);have e:w*((vv s f w i).natAbs:Int)=((vv s f w f).natAbs:Int)*vv s f w i:=ziw G hf fE only hw ((hk _).mpr k2) hi;have e0:((vv s f w f).natAbs:Int)=w:=by rw[tK fE];lia
 rw[e0]at e;have:=Int.eq_of_mul_eq_mul_left (show w≠0 by lia) e;lia
include hT hA in include hr hA in end
theorem tL:∀{l ts:List Nat},l.Nodup->(∀x∈l,x∈ts)->l.length<=ts.length
 |[],_,_,_=>Qc _|a::r,ts,nd,h=>by
  obtain⟨n1,n2⟩:=WL.mp nd;have ha:=h a Wc;have:=tL (l:=r) (ts:=ts.erase a) n2 λx hx=>by have cE:x≠a:=λz=>n1 (by rw[<-z];exact hx);exact(List.mem_erase_of_ne cE).mpr (h x (W8 _ hx))
  rw[List.length_erase_of_mem ha]at this;have:0<ts.length:=List.length_pos_of_mem ha;rw[WF];lia
def wt(l:List (Nat×List Int))(w:Nat):Nat:=l.foldl (λw x=>JZ w (ao x.2 x.1).natAbs) w
theorem IZ:∀(l:List (Nat×List Int))(w:Nat),w ∣ wt l w/\∀x∈l,(ao x.2 x.1).natAbs ∣ wt l w
 |[],w=>⟨Nat.dvd_refl _,λx h=>by cases h⟩|a::l,w=>by
  obtain⟨h1,h2⟩:=IZ l (JZ w (ao a.2 a.1).natAbs);refine⟨Nat.dvd_trans (Nat.dvd_lcm_left ..) h1,λx hx=>?_⟩;rcases Wv.mp hx with rfl|hx;.exact Nat.dvd_trans (Nat.dvd_lcm_right ..) h1
  .exact h2 x hx
theorem I0:∀(l:List (Nat×List Int))(w:Nat),(∀x∈l,ao x.2 x.1≠0)->0<w->0<wt l w|[],w,_,h=>h|a::l,w,hl,h=>I0 l _ (λx hx=>hl x (W8 _ hx)) (Nat.lcm_pos h (by have:=hl a Wc;lia))
theorem AN{m:Nat}:∀(l:List (Nat×List Int))(w:Nat),(∀x∈l,(ao x.2 x.1).natAbs<=m)->wt l w<=w*m^l.length|[],w,_=>#v[wt]|a::l,w,hl=>by refine Wq (AN l _ λx hx=>hl x (W8 _ hx)) ?_;have h1:JZ w (ao a.2 a.1).natAbs<=w*m:=Wq (JL _ _) (Nat.mul_le_mul_left _ (hl a Wc));rw[WF,QD,QK (m^l.length) m,<-Jg];exact QN _ h1
theorem wG(v:Nat->Int):∀n,((W7 n).map v).sum=sN n v|0=>rfl|n+1=>by rw[U5,WS,List.sum_append,wG v n];simp[sN]
universe H in theorem I_{n:Nat}{rows:List (List Int)}(hl:∀r∈rows,r.length=n)(hb:∀r∈rows,∀i,(ao r i).natAbs<=16):∀c,c<=n->(∀x∈(gO rows c).1,∀i,(ao x.2 i).natAbs<=mB (gO rows c).1.length)/\∀r∈(gO rows c).2,∀i,(ao r i).natAbs<=mB (gO rows c).1.length
 |0,_=>⟨(λx h=>by cases h),hb⟩|c+1,h=>by
  obtain⟨b1,b2⟩:=I_ hl hb c Z';have G:=wD hl hb c Z';show(∀x∈(kX c (gO rows c)).1,_)/\_;have e:gO rows (c+1)=kX c (gO rows c):=rfl;rw[e];generalize gO rows c=s at*;unfold kX;split;.exact⟨b1,b2⟩
  .rename_i p q hf;have i8:∀r,r∈p::q->r∈s.2/\ao r c≠0:=λr hr=>by rw[<-hf]at hr;have:=Qs.mp hr;exact⟨this.1,~~~this.2⟩
   obtain⟨hp,ny⟩:=i8 p Wc;have pl:=G.l2 p hp;have pb:=b2 p hp;have hm:=wA s.1.length;have el:(s.1.map (λkr=>(kr.1,rc kr.2 p c))++[(c,p)]).length=s.1.length+1:=by simp
   have up:=IQ s.1.length;have e2:mB (s.1.length+1)=2*mB s.1.length*mB s.1.length:=rfl;simp only[el];refine⟨λx hx i=>?_,λr hr i=>?_⟩
   .rcases WI.mp hx with hx|hx;.obtain⟨x0,h0,rfl⟩:=Wj.mp hx;rw[e2];exact(wx (G.l1 x0 h0) pl Z' ny hm (b1 x0 h0) pb).2.2.1 i
    .have:x=(c,p):= ~~~hx;subst this;exact Wq (pb i) up
   .rcases WI.mp hr with hr|hr;.obtain⟨r0,h0,rfl⟩:=Wj.mp hr;have m0:=(i8 r0 (W8 _ h0)).1;rw[e2];exact(wx (G.l2 r0 m0) pl Z' ny hm (b2 r0 m0) pb).2.2.1 i
    .exact Wq (b2 r (Qs.mp hr).1 i) up
theorem eF(f:DE)(Z:Dl):aU f Z=(f Z).bind λr T'=>match r.d with|.lst ds=>.ok ds T'|.tup ds=>.ok ds T'|.str x=>.ok (x.map λn=>.str [n]) T'|_=>.stuck:=id rfl
theorem qg{A:Type}{cs:List Nat}{g:DG}{t:DT}{el:DE}(f F:A->D)(p:A->Bool)(Z:Dl):∀(as:List A)(acc:List D),acc.length+as.length<=Wd->(∀a∈as,∃T' S' x SL,g (.pure (f a)) Z=some T'/\t T'=.ok (p a) S'/\a_ cs S'=Z/\el S'=.ok x SL/\a_ cs SL=Z/\x.d=F a)->bX cs g t el (as.map f) Z acc=.ok (acc++(as.filter p).map F) Z
 |[],acc,_,_=>#v[bX]|a::r,acc,hl,hs=>by
  obtain⟨T',S',x,SL,e1,e2,e2',e3,e4,e5⟩:=hs a Wc;have jb:acc.length<Wd:=by simp at hl;lia
  rw[We];unfold bX;rw[e1];cases hp:p a with|true=>have ih:=qg (cs:=cs) (g:=g) (t:=t) (el:=el) f F p Z r (acc++[x.d]) Pi λa ha=>hs a (W8 _ ha);rw[e5]at ih;rw[hp]at e2;simp only[e2,dR,if_true,e3,if_pos jb,e4,e5,ih,List.filter_cons,hp];simp|false=>have ih:=qg (cs:=cs) (g:=g) (t:=t) (el:=el) f F p Z r acc Pi λa ha=>hs a (W8 _ ha);rw[hp]at e2;simp only[e2,dR,e2',ih,List.filter_cons,hp];simp
def nx(s:Int):Int:=(((s+7919)%2147483647)*((s+7919)%2147483647)+48271*((s+7919)%2147483647)+12345)%2147483629
theorem zju(s:Int):pV [.pure (.int s)]=some (.pure (.int (nx s)),[.pure (.int s)]):=by
 unfold pV bE Hu gZ;have h1:=U8 (s+7919) (b:=2147483647) U';have h2:=Uh (s+7919) (b:=2147483647) U';have c1:kn ((s+7919)%2147483647) ((s+7919)%2147483647)=true:=by unfold kn;simp;lia
 have c2:kn 48271 ((s+7919)%2147483647)=true:=by unfold kn;simp
 simp[cG,bw,aq,ag,aP,ah,bD,cR,dW,cZ,rh,c1,c2,df,cn];rfl
def dZ(d:D):Prop:=∃l f s:Int,d=.lst [.int l,.int f,.int s]/\0<=l
theorem J_{d:D}(hp:dZ d)(m:Nat)(h0:0<m)(h1:(m:Int)<jU):∃(r:Nat)(d':D),cV [.own d,.pure (.int m)]=some (.pure (.int r),[.own d',.pure (.int m)])/\r<m/\dZ d':=by
 obtain⟨l,f,s,rfl,hl⟩:=hp;have hm:(0:Int)<(m:Int):=by lia
 have hd:=Ff l m hm h1;unfold cV bE Hv gZ;by_cases hf:f=1;.subst hf;have e1:=U8 l (b:=(m:Int)) Z';have e2:=Uh l hm;refine⟨(l%(m:Int)).toNat,.lst [.int (l/m),.int 1,.int s],?_,Z',⟨_,_,_,rfl,Int.ediv_nonneg hl Z'⟩⟩;simp[cG,bw,aq,ag,aP,ah,aa,ax,bj,bc,flat,oB,vR,vQ,az,cR,gu,dW,h0,hd,mO,lz,gL,putL,df,cn,fJ];lia
 .have e1:=U8 (nx (nx s+7)/64) (b:=(m:Int)) Z';have e2:=Uh (nx (nx s+7)/64) hm;refine⟨(nx (nx s+7)/64%(m:Int)).toNat,.lst [.int l,.int f,.int (nx (nx s+7))],?_,Z',⟨_,_,_,rfl,hl⟩⟩;simp[cG,bw,aq,ag,aP,ah,aa,ax,bj,bc,flat,oB,vR,vQ,az,cR,gu,dW,h0,hd,mO,lz,gL,putL,df,cn,fJ,hf,au,aW,bG,bB,bx,bb,zju,bD,aL,mO];lia
theorem tM{d:D}(hp:dZ d)(m:Nat)(h0:0<m)(h1:m<10000000000000):∃(r:Nat)(d':D),cV [.own d,.pure (.int m)]=some (.pure (.int r),[.own d',.pure (.int m)])/\r<m/\dZ d':=J_ hp m h0 (by
 have hB:(10000000000000:Int)<=jU:=by decide+kernel
 lia)
theorem qac(c:Int):∃d,pU [.pure (.int c)]=some (.own d,[.pure (.int c)])/\dZ d:=by unfold pU bE Ht gZ;refine⟨.lst [.int (if 0-c>c then 0-c else c),.int (if decide (1000000000000000000<=if 0-c>c then 0-c else c)then 1 else 0),.int ((if 0-c>c then 0-c else c)%1000003)],?_,⟨_,_,_,rfl,by split<;>lia⟩⟩;simp[cG,bw,aq,ag,aP,ah,aa,yv,jh,dW,pf,yr,iP,uZ,yo,cR,df,cn]
theorem z8D(ns:List Int):∃c:Int,pT [.pure (.lst (ns.map .int)),.pure (.int 0)]=some (.pure (.int c),[.pure (.lst (ns.map .int)),.pure (.int 0)]):=by unfold pT bE Hr gZ;cases ns with|nil=>exact⟨0,#v[cG,bw,ag,aP,ah,ji,iP,az,bA,df,cn]⟩|cons n r=>exact⟨n,by
 have:(0:Int)<(r.length:Int)+1:=by lia
 simp[cG,bw,ag,aP,ah,ji,iP,az,bA,df,cn,ax,oB,this]⟩
theorem j4{d:D}(hp:dZ d)(m:Nat)(i:Int)(hi:i=m)(h0:0<m)(h1:m<10000000000000):∃(r:Nat)(d':D),cV [.own d,.pure (.int i)]=some (.pure (.int r),[.own d',.pure (.int i)])/\r<m/\dZ d':=by subst hi;exact tM hp m h0 h1
def nC:Tx:=[97,98,99,100,101,102,103,104,105,106,107,108,109,110,111,112,113,114,115,116,117,118,119,120,121,122]
theorem zh3{d:D}(hp:dZ d):∃(h w:Nat)(d':D),tj [.own d]=some (.pure (.tup [.int h,.int w]),[.own d'])/\0<h/\h<=4/\0<w/\w<=4/\2<h+w/\dZ d':=by
 obtain⟨r1,d1,e1,l1,p1⟩:=j4 hp 3 3 rfl U' U';obtain⟨r2,d2,e2,l2,p2⟩:=j4 p1 3 3 rfl U' U';obtain⟨r3,d3,e3,l3,p3⟩:=j4 p2 8 8 rfl U' U';obtain⟨r4,d4,e4,l4,p4⟩:=j4 p3 6 6 rfl U' U';unfold tj bE Hw gZ;by_cases h3:r3=0
 .subst h3;have:r4=0\/r4=1\/r4=2\/r4=3\/r4=4\/r4=5:=by lia
  rcases this with rfl|rfl|rfl|rfl|rfl|rfl;.exact⟨4,1,d4,#v[cG,bw,aq,au,aW,bB,bG,bx,bb,e1,e2,e3,e4,aL,bD,bj,bc,flat,az,ax,dO,fJ,aR,aC,aT,ag,aP,ah,aa,df,cn],U',U',U',U',U',p4⟩
  .exact⟨1,4,d4,#v[cG,bw,aq,au,aW,bB,bG,bx,bb,e1,e2,e3,e4,aL,bD,bj,bc,flat,az,ax,dO,fJ,aR,aC,aT,ag,aP,ah,aa,df,cn],U',U',U',U',U',p4⟩
  .exact⟨4,4,d4,#v[cG,bw,aq,au,aW,bB,bG,bx,bb,e1,e2,e3,e4,aL,bD,bj,bc,flat,az,ax,dO,fJ,aR,aC,aT,ag,aP,ah,aa,df,cn],U',U',U',U',U',p4⟩
  .exact⟨4,3,d4,#v[cG,bw,aq,au,aW,bB,bG,bx,bb,e1,e2,e3,e4,aL,bD,bj,bc,flat,az,ax,dO,fJ,aR,aC,aT,ag,aP,ah,aa,df,cn],U',U',U',U',U',p4⟩
  .exact⟨1,2,d4,#v[cG,bw,aq,au,aW,bB,bG,bx,bb,e1,e2,e3,e4,aL,bD,bj,bc,flat,az,ax,dO,fJ,aR,aC,aT,ag,aP,ah,aa,df,cn],U',U',U',U',U',p4⟩
  .exact⟨2,1,d4,#v[cG,bw,aq,au,aW,bB,bG,bx,bb,e1,e2,e3,e4,aL,bD,bj,bc,flat,az,ax,dO,fJ,aR,aC,aT,ag,aP,ah,aa,df,cn],U',U',U',U',U',p4⟩
 .by_cases hs:r1=0/\r2=0;.obtain⟨rfl,rfl⟩:=hs;refine⟨1,2,d3,?_,U',U',U',U',U',p3⟩;simp[cG,bw,aq,au,aW,bB,bG,bx,bb,e1,e2,e3,aL,bD,bj,bc,flat,az,h3,ag,aP,ah,aa,df,cn]
  .have hn:¬1+(r1:Int)+(1+(r2:Int))=2:=by lia
   refine⟨1+r1,1+r2,d3,?_,Z',Z',Z',Z',Z',p3⟩;simp[cG,bw,aq,au,aW,bB,bG,bx,bb,e1,e2,e3,aL,bD,bj,bc,flat,az,h3,hn,ag,aP,ah,aa,df,cn]
theorem Ka(ts:List Nat)(r:Nat)(h:r<ts.length):ax (.lst (ts.map λn=>.str [n])) (.int r)=0#(.str [ts.getD r 0]):=by simp[ax,iU,h]
theorem zjt{d:D}(hp:dZ d)(ts:List Nat)(place way:Nat)(h1:place<ts.length)(h2:ts.length<=64):∃(n:Nat)(d':D),jY [.own d,.pure (.lst (ts.map λn=>.str [n])),.pure (.int place),.pure (.int way)]=some (.pure (.str [n]),[.own d',.pure (.lst (ts.map λn=>.str [n])),.pure (.int place),.pure (.int way)])/\n∈ts/\dZ d':=by
 have mem:∀r,r<ts.length->ts.getD r 0∈ts:=λr h=>#v[h];unfold jY bE Hx gZ;by_cases w1:way=1;.subst w1;obtain⟨r,d1,e1,l1,p1⟩:=j4 hp (place+1) ((place:Int)+1) Z' Z' Z';refine⟨ts.getD r 0,d1,?_,mem r Z',p1⟩;simp[cG,bw,ag,aP,ah,bj,bc,flat,az,au,aW,bB,bG,bx,bD,bb,e1,aL,ax,iU,df,cn,show r<ts.length by lia]
 .by_cases w2:way=2
  .subst w2;have hr:(place+1)%ts.length<ts.length:=Nat.mod_lt _ Z';refine⟨ts.getD ((place+1)%ts.length) 0,d,?_,mem _ hr,hp⟩;have hm:cR (.int ((place:Int)+1)) (.int ts.length)=0#(.int (((place+1)%ts.length:Nat):Int)):=by simp only[cR,dW];rw[if_pos Re];simp
   simp[cG,bw,ag,aP,ah,bj,bc,flat,az,bD,bA,hm,df,cn];have hx:=Ka ts ((place+1)%ts.length) hr;simp at hx;simp[hx]
  .by_cases w3:way=3
   .subst w3;obtain⟨r,d1,e1,l1,p1⟩:=j4 hp 4 4 rfl U' U';by_cases hr:0<r;.refine⟨ts.getD place 0,d1,?_,mem place h1,p1⟩;simp[cG,bw,ag,aP,ah,bj,bc,flat,az,au,aW,bB,bG,bx,bb,e1,aL,eQ,iP,hr,ax,iU,h1,df,cn]
    .obtain⟨r',d2,e2,l2,p2⟩:=tM p1 ts.length Z' Z';refine⟨ts.getD r' 0,d2,?_,mem r' l2,p2⟩;simp[cG,bw,ag,aP,ah,bj,bc,flat,az,au,aW,bB,bG,bx,bb,e1,aL,eQ,iP,hr,bA,e2,ax,iU,l2,df,cn]
   .obtain⟨r',d2,e2,l2,p2⟩:=tM hp ts.length Z' Z';refine⟨ts.getD r' 0,d2,?_,mem r' l2,p2⟩;have c1:¬(way:Int)=1:=by lia
    have c2:¬(way:Int)=2:=by lia
    have c3:¬(way:Int)=3:=by lia
    simp[cG,bw,ag,aP,ah,bj,bc,flat,az,au,aW,bB,bG,bx,bb,aL,c1,c2,c3,bA,e2,ax,iU,l2,df,cn]
theorem zat:∀k,k<26->nC.getD k 0=97+k:=by decide
theorem zay(xs:List Nat)(h:xs.length<64):pq (.lst (xs.map λn=>.str [n]))=some (.own (.lst ((fO xs).map λn=>.str [n]))):=by
 have e:(xs.map λn=>D.str [n])=(xs.map λn=>[n]).map D.str:=by simp
 unfold pq;simp only[e,vS];rw[if_pos (~~~h),zA];simp
def j5(f n:Nat):List Nat:=(W7 n).map λk=>97+(f+5*k)%26
theorem zbs(f n:Nat)(hn:n<=26):(j5 f n).Nodup:=by unfold j5;rw[Jt,JO];refine List.pairwise_lt_range (n:=n).imp_of_mem ?_;intro a b ha hb iK e;simp at ha hb;lia
def rb(pd:D)(m h w n f:Nat)(s7:S)(wy:Nat)(blocks:List D)(a b c:Option S):Dl:=[some (.own pd),0#(.int m),0#(.int h),0#(.int w),0#(.int (1+(n:Int))),0#(.int f),0#(.str nC),some s7,0#(.int wy),some (.own (.lst blocks)),a,b,c,none,none]
def dh(ts:List Nat):D:=.lst (ts.map λn=>.str [n])
def sT(ts:List Nat)(s:S):Prop:=s=.own (dh ts)\/s=.pure (dh ts)
theorem zal{wy:Nat}(dC:ts.length<=64)(hw:w<=4)(j6:dZ pd)(h7:sT ts s7)(blocks:List D)(place:Nat)(dq:place<ts.length)(block:List D)(row:Nat):∃(x:Tx)(dE:D)(h_:S),bX [14] (ae [0] 14) aG (au jY [.io 0,.val (aa 7),.val (aa 10),.val (aa 8)]) (bo 0 w) (rb pd m h w n f s7 wy blocks 0#(.int place) (some (.own (.lst block))) 0#(.int row)) []=.ok (x.map λn=>.str [n]) (rb dE m h w n f h_ wy blocks 0#(.int place) (some (.own (.lst block))) 0#(.int row))/\x.length=w/\(∀n∈x,n∈ts)/\dZ dE/\sT ts h_:=by
 obtain⟨xs,SZ,e,⟨dE,h_,hpd',h7',rfl⟩,hn,hf⟩:=zw (cs:=[14]) (g:=ae [0] 14) (t:=aG) (el:=au jY [.io 0,.val (aa 7),.val (aa 10),.val (aa 8)]) (λZ=>∃pd s7,dZ pd/\sT ts s7/\Z=rb pd m h w n f s7 wy blocks 0#(.int place) (some (.own (.lst block))) 0#(.int row)) (λj x=>∃n,n∈ts/\x=.str [n]) (bo 0 w) _ [] ⟨pd,s7,j6,h7,rfl⟩ (by rw[bV];simp;lia) λd hd Z hh=>by
   obtain⟨pd,s7,j6,h7,e⟩:=hh
   subst e;obtain⟨i,hi,rfl⟩:=FY hd;obtain⟨k,d',e,hk,p⟩:=zjt j6 ts place wy dq dC;have e':jY [.own pd,.pure (dh ts),.pure (.int place),.pure (.int wy)]=some (.pure (.str [k]),[.own d',.pure (dh ts),.pure (.int place),.pure (.int wy)]):=e;refine⟨_,_,.pure (.str [k]),(rb d' m h w n f (.pure (dh ts)) wy blocks 0#(.int place) (some (.own (.lst block))) 0#(.int row)).set 14 0#(.int i),rfl,rfl,?_,⟨d',_,p,.inr rfl,rfl⟩,⟨_,hk,rfl⟩⟩;rcases h7 with rfl|rfl;.simp[rb,au,aW,bB,bG,bx,aa,bb,e',aL]
   .simp[rb,au,aW,bB,bG,bx,aa,bb,e',aL]
 obtain⟨x,rfl,hx⟩:=F3 (P:=λn=>n∈ts) (Yg hn hf λd x j h=>h);exact⟨x,dE,h_,~~~e,~~~hn,hx,hpd',h7'⟩
theorem z7B{wy:Nat}(dC:ts.length<=64)(hw:w<=4)(hh:h<=4)(j6:dZ pd)(h7:sT ts s7)(blocks:List D)(place:Nat)(dq:place<ts.length)(rs:Option S):∃(fl:List Tx)(dE:D)(h_:S)(tN:Option S),forL (ae [0] 12) (de 11 (aE (fB []) (aj (aK [14] (bW (aa 3)) (ae [0] 14) aG (au jY [.io 0,.val (aa 7),.val (aa 10),.val (aa 8)]))))) (bo 0 h) (rb pd m h w n f s7 wy blocks 0#(.int place) (some (.own (.lst []))) rs)=.ok .next (rb dE m h w n f h_ wy blocks 0#(.int place) (some (.own (.lst (fl.map .str)))) tN)/\fl.length=h/\(∀r∈fl,r.length=w/\∀n∈r,n∈ts)/\dZ dE/\sT ts h_:=by
 obtain⟨SZ,e3,dE,h_,fl,tN,hpd',h7',n9,jM,rfl⟩:=kJ (g:=ae [0] 12) (b:=de 11 (aE (fB []) (aj (aK [14] (bW (aa 3)) (ae [0] 14) aG (au jY [.io 0,.val (aa 7),.val (aa 10),.val (aa 8)]))))) (λk Z=>∃(pd:D)(s7:S)(fl:List Tx)(rs:Option S),dZ pd/\sT ts s7/\fl.length=k/\(∀r∈fl,r.length=w/\∀n∈r,n∈ts)/\Z=rb pd m h w n f s7 wy blocks 0#(.int place) (some (.own (.lst (fl.map .str)))) rs) (bo 0 h) 0 _ ⟨pd,s7,[],rs,j6,h7,rfl,V',rfl⟩ λi d Z hd hh=>by
   obtain⟨pd,s7,fl,rs,j6,h7,n9,jM,e⟩:=hh
   subst e;obtain⟨hi,rfl⟩:=zz hd;obtain⟨x,dE,h_,e,hx,hxt,hpd',h7'⟩:=zal (m:=m) (h:=h) (n:=n) (f:=f) (wy:=wy) dC hw j6 h7 blocks place dq (fl.map .str) i;have hz:fl.length<Wd:=by rw[bV];lia
   have ej:=FW x Z';refine⟨_,rb dE m h w n f h_ wy blocks 0#(.int place) (some (.own (.lst ((fl++[x]).map .str)))) 0#(.int i),rfl,?_,⟨dE,h_,fl++[x],_,hpd',h7',#v[n9],?_,rfl⟩⟩;.unfold rb at e⊢;simp[de,gL,aa,hJ w Z',bG,a_];rw[e];simp[ej,cg,putL,hz]
   .intro r hr;rcases WI.mp hr with hr|hr;.exact jM r hr
    .simp at hr;subst hr;exact⟨hx,hxt⟩
 exact⟨fl,dE,h_,tN,e3,~~~n9,jM,hpd',h7'⟩
theorem zbv{d:D}(hp:dZ d)(m:Nat)(hm0:0<m)(Fv:m<=26):∃(h w:Nat)(bs:8#0)(d':D),pW [.own d,.pure (.int m)]=some (.pure (aw h w bs),[.own d',.pure (.int m)])/\bC h w bs/\bs.length<=m/\dZ d':=by
 obtain⟨h,w,d1,e1,h0,h1,w0,w1,hw,p1⟩:=zh3 hp;obtain⟨r,d2,e2,l2,p2⟩:=tM p1 m hm0 Z';obtain⟨f,d3,e3,l3,p3⟩:=j4 p2 26 26 rfl U' U';obtain⟨wy,d4,e4,l4,p4⟩:=j4 p3 5 5 rfl U' U';have ec:=X7 (cs:=[13]) (g:=ae [0] 13) (t:=aG) (el:=ag ax 6 (aj (aB cR (ag bD 5 (aj (aB cZ 3#5 (ah 13)))) 1#26))) λd=>match d with|.int k=>.str [97+(f+5*k.toNat)%26]|_=>.aX
  [some (.own d3),0#(.int m),0#(.int h),0#(.int w),0#(.int (1+(r:Int))),0#(.int f),0#(.str nC),none,none,none,none,none,none,none,none] (bo 0 (1+r)) [] (by rw[bV];simp;lia) λd hd=>by
   obtain⟨i,hi,rfl⟩:=FY hd;refine⟨_,_,.pure (.str [97+(f+5*i)%26]),[some (.own d3),0#(.int m),0#(.int h),0#(.int w),0#(.int (1+(r:Int))),0#(.int f),0#(.str nC),none,none,none,none,none,none,0#(.int i),none],rfl,rfl,?_,rfl,rfl⟩;have hk:(f+5*i)%26<26:=Nat.mod_lt _ U';have hx:=FX nC ((f+5*i)%26) hk U';rw[zat _ hk]at hx;have hc:((f:Int)+5*(i:Int))%26=(((f+5*i)%26:Nat):Int):=by lia
   have hmul:cZ (.int 5) (.int i)=0#(.int (5*(i:Int))):=by
    unfold cZ rh dW;have:kn 5 i=true:=by unfold kn;simp
    simp only[this,if_true]
   have qad:cR (.int ((f:Int)+5*(i:Int))) (.int 26)=0#(.int (((f+5*i)%26:Nat):Int)):=by rw[<-hc];rfl
   generalize nC=lt at hx⊢;simp only[ag,aP,ah,m9,zt,FU,dR,zv,List.set_cons_succ,List.set_cons_zero,List.getElem?_cons_succ,List.getElem?_cons_zero,FT,hmul,bD,qad,hx]
 have qae:List.map (λ(d:D)=>match d with|.int k=>D.str [97+(f+5*k.toNat)%26]|_=>.aX) (bo 0 (1+r))=(j5 f (1+r)).map λn=>.str [n]:=by simp[bo,j5]
 rw[qae]at ec;simp only[Qu]at ec;have Kb:(j5 f (1+r)).length=1+r:=#v[j5];have es:=zay (j5 f (1+r)) (by rw[Kb];lia);have dC:(fO (j5 f (1+r))).length=1+r:=by rw[zC,Kb]
 have a0:=zD (zbs f (1+r) Z');have hle:∀t∈fO (j5 f (1+r)),97<=t/\t<=122:=λt ht=>by rw[vT]at ht;simp[j5]at ht;obtain⟨k,_,rfl⟩:=ht;lia
 generalize fO (j5 f (1+r))=ts at es dC a0 hle;obtain⟨SZ,e5,pd,s7,bs,a,b,c,j6,h7,hbl,hbt,jM,rfl⟩:=kJ (g:=ae [0] 10) (b:=ay (aq (il bS) (ae [0] 11)) (ay (ck (bW (aa 2)) (ae [0] 12) (de 11 (aE (fB []) (aj (aK [14] (bW (aa 3)) (ae [0] 14) aG (au jY [.io 0,.val (aa 7),.val (aa 10),.val (aa 8)])))))) (de 9 (cF (aQ (ag ax 7 (ah 10)) (aQ (aE bU (ah 11)) bS)))))) (λk Z=>∃(pd:D)(s7:S)(bs:8#0)(a b c:Option S),dZ pd/\sT ts s7/\bs.length=k/\bs.map (·.1)=ts.take k/\(∀b∈bs,b.2.length=h/\∀r∈b.2,r.length=w/\∀n∈r,n∈ts)/\Z=rb pd m h w r f s7 wy (bs.map cf) a b c) (bo 0 (1+r)) 0 (rb d4 m h w r f (.own (dh ts)) wy [] none none none) ⟨d4,_,[],none,none,none,p4,.inl rfl,rfl,rfl,V',rfl⟩ λi d Z hd hh=>by
   obtain⟨pd,s7,bs,a,b,c,j6,h7,hbl,hbt,jM,e⟩:=hh
   subst e;obtain⟨hi,rfl⟩:=zz hd;rw[Q4]at hbl hbt;obtain⟨fl,dE,h_,tN,e,n9,hflt,hpd',h7'⟩:=z7B (m:=m) (n:=r) (f:=f) (wy:=wy) (ts:=ts) Z' w1 h1 j6 h7 (bs.map cf) i Z' c;have hz:bs.length<Wd:=by rw[bV];lia
   have hx:=Ka ts i Z';refine⟨_,rb dE m h w r f h_ wy ((bs++[(ts.getD i 0,fl)]).map cf) 0#(.int i) (some (.own (.lst (fl.map .str)))) tN,rfl,?_,⟨dE,h_,bs++[(ts.getD i 0,fl)],_,_,_,hpd',h7',#v[hbl],?_,?_,rfl⟩⟩
   .unfold rb at e⊢;simp[aq,aa,hJ h Z'];rw[e];rcases h7' with rfl|rfl;.simp[de,gL,ag,aP,ah,dh,hx,bU,putL,hz,cf]
    .simp[de,gL,ag,aP,ah,dh,hx,bU,putL,hz,cf]
   .rw[Q4,WS,hbt,List.take_add_one];simp[show i<ts.length by lia]
   .intro b hb;rcases WI.mp hb with hb|hb;.exact jM b hb
    .simp at hb;subst hb;exact⟨n9,hflt⟩
 have qbh:bs.length=1+r:= ~~~hbl;have AO:bs.map (·.1)=ts:=by rw[hbt,JM];simp[dC]
 refine⟨h,w,bs,pd,?_,⟨h0,h1,w0,w1,hw,Z',Z',%[AO|a0],λb hb=>hle _ (by rw[<-AO];exact Qh hb),λb hb=>%[AO|jM b hb]⟩,Z',j6⟩;unfold pW bE Hy gZ;unfold nC at ec;simp[cG,bw,aq,au,aW,bB,bG,bx,bb,e1,aL,aR,aC,aT,aa,e2,bD,e3,F4 r Z',a_];rw[ec];simp[cg,es,e4,aL,aa,F4 r Z'];unfold rb nC dh at e5;rw[e5];simp[ah,bU,df,cn,aa]
theorem wH(i j:Int):kq (.int i) (.int j)=0#(.bl (decide (i<=j))):=rfl
theorem lU(i j:Int):eQ (.int i) (.int j)=0#(.bl (decide (j<i))):=rfl
theorem lV(i j:Int):bj (.int i) (.int j)=0#(.bl (i==j)):=rfl
theorem nD(i j:Int):cK (.int i) (.int j)=0#(.bl !i==j):=rfl
theorem fF(h w:Nat)(bs:8#0):ax (aw h w bs) (.int 0)=0#(.int h)/\ax (aw h w bs) (.int 1)=0#(.int w)/\ax (aw h w bs) (.int 2)=0#(.tup (bs.map cf)):=by
 refine⟨?_,?_,?_⟩;.simp[ax,oB]
 .simp[ax,vR]
 .simp[ax,vQ]
theorem lW(np:List Nat)(n:Nat)(b:DS)(ss:List S):bE np n b ss=if cG np 0 ss then match b (bw n ss)with|.ok fl Z=>(df fl).bind λr=>(cn 0 ss Z).map λaZ=>(r,aZ)|_=>none else none:=rfl
theorem zcf(xs:List Tx)(m:Nat)(h:∀x∈xs,x.length<=m):jk xs<=xs.length*m:=by induction xs with|nil=>simp[jk]|cons x r ih=>have h1:=h x Wc;have h2:=ih λy hy=>h y (W8 _ hy);have e:jk (x::r)=x.length+jk r:=#v[jk];rw[e,WF,Nat.succ_mul];lia
theorem AQ(i j:Int)(h0:0<=j)(h1:j<=1000):cZ (.int i) (.int j)=0#(.int (i*j)):=by
 unfold cZ rh dW;have:kn i j=true:=by unfold kn;simp;lia
 simp only[this,if_true]
theorem kY{b:DS}{v:S}(e:b (bw n [.pure x,.pure y])=.ok (.ret v) T'):bE [] n b [.pure x,.pure y]=some (v,[.pure x,.pure y]):=by rw[lW,e];rfl
theorem oK{b:DS}{z:D}{v:S}(e:b (bw n [.pure x,.pure y,.pure z])=.ok (.ret v) T'):bE [] n b [.pure x,.pure y,.pure z]=some (v,[.pure x,.pure y,.pure z]):=by rw[lW,e];rfl
theorem gP{b:DS}{v:S}(e:b (bw n [.pure x])=.ok (.ret v) T'):bE [] n b [.pure x]=some (v,[.pure x]):=by rw[lW,e];rfl
theorem bq{a b:DS}(h:a Z=.ok .next T'):ay a b Z=b T':=by unfold ay;rw[h];rfl
theorem oM{a b:DS}{v:S}(h:a Z=.ok (.ret v) T'):ay a b Z=.ok (.ret v) T':=by unfold ay;rw[h];rfl
theorem iy{g:DG}{b:DS}(h:it Z=.ok ds T'):ck it g b Z=forL g b ds T':=by unfold ck;rw[h];rfl
theorem wI(ds:List D):bA (.tup ds)=0#(.int ds.length):=rfl
theorem Kc{bs:8#0}(R:bC h w bs):kQ [.pure (aw h w bs)]=some (.own (dh (bs.map (·.1))),[.pure (aw h w bs)]):=by
 have n1:=R.n1;obtain⟨_,_,x2⟩:=fF h w bs;have e:=eE (cs:=[1,2]) (g:=aR 2 (aC (ae [] 1) (aC (ae [] 2) aT))) (t:=aG) (el:=aa 1) cf (λb=>.str [b.1]) [0#(aw h w bs),none,none] bs [] (by rw[bV];simp;lia) λb hb=>by refine⟨[0#(aw h w bs),0#(.str [b.1]),0#(bQ b.2)],_,.pure (.str [b.1]),[0#(aw h w bs),0#(.str [b.1]),0#(bQ b.2)],rfl,rfl,?_,rfl,rfl⟩;simp[aa]
 simp only[Qu]at e;rw[kQ];refine gP (T':=[0#(aw h w bs),none,none]) ?_;rw[zV];have et:dh (bs.map (·.1))=.lst (bs.map λb=>D.str [b.1]):=#v[dh,Function.comp_def];rw[et];show bf (aK [1,2] (aU (ag ax 0 1#2)) (aR 2 (aC (ae [] 1) (aC (ae [] 2) aT))) aG (aa 1)) [0#(aw h w bs),none,none]=_;generalize aw h w bs=U at*;simp[eF,ag,aP,ah,x2,bG,a_,e,cg]
theorem zet(xs:List Tx)(h:jk xs<=16777216):fB [] (bQ xs)=0#(.str xs.flatten):=by unfold fB;simp only[vS,zy];rw[if_pos (~~~h)]
def aH(ts:List Nat)(f:Nat->Nat):List D:=ts.map λs=>.int ((f s:Nat):Int)
theorem qh{bs:8#0}(R:bC h w bs){b:Nat×List Tx}(hb:b∈bs):fB [] (bQ b.2)=0#(.str b.2.flatten)/\b.2.flatten.length<=16/\∀n∈b.2.flatten,n∈bs.map (·.1):=by
 obtain⟨h1,h2⟩:=R.bM b hb;have hh:=R.h1;have hw:=R.w1;have hs:=zcf b.2 w λx hx=>Nat.le_of_eq (h2 x hx).1;have hm:b.2.length*w<=4*4:=QZ Z' hw;refine⟨zet _ Z',?_,λn hn=>?_⟩
 .have:b.2.flatten.length=jk b.2:=by rw[List.length_flatten];rfl
  lia
 .obtain⟨r,hr,hn⟩:=List.mem_flatten.mp hn;exact(h2 r hr).2 n hn
theorem Kd{bs:8#0}(R:bC h w bs)(ht:t∈bs.map (·.1))(s:Nat):M bs t s<=16:=by obtain⟨b,hb,_,_,e2⟩:=j3 ht;unfold M;rw[e2];exact Wq List.count_le_length (qh R hb).2.1
theorem AR{A:Type}{cs:List Nat}{g:DG}{t:DT}{el:DE}(f F:A->D)(I:Dl->Prop):∀(as:List A)(acc:List D)(Z:Dl),I Z->acc.length+as.length<=Wd->(∀a∈as,∀Z,I Z->∃T' S' x SL,g (.pure (f a)) Z=some T'/\t T'=.ok true S'/\el S'=.ok x SL/\I (a_ cs SL)/\x.d=F a)->∃SZ,bX cs g t el (as.map f) Z acc=.ok (acc++as.map F) SZ/\I SZ
 |[],acc,Z,h,_,_=>⟨Z,#v[bX],h⟩|a::r,acc,Z,h,hl,hs=>by
  obtain⟨T',S',x,SL,e1,e2,e3,e4,e5⟩:=hs a Wc Z h;have jb:acc.length<Wd:=by simp at hl;lia
  obtain⟨SZ,e6,h6⟩:=AR (cs:=cs) (g:=g) (t:=t) (el:=el) f F I r (acc++[x.d]) (a_ cs SL) e4 Pi λa ha=>hs a (W8 _ ha);refine⟨SZ,?_,h6⟩;rw[We];unfold bX;rw[e1];simp only[e2,dR,if_true,e3,if_pos jb];rw[e6,e5];simp
def tb(ts:List Nat)(X:Nat->Nat->Nat):D:=.tup (ts.map λt=>.tup (aH ts (X t)))
theorem zdQ{bs:8#0}(R:bC h w bs){b:Nat×List Tx}(hb:b∈bs)(ru d2:D):bX [4] (ae [] 4) aG (iT (aE (fB []) (ah 3)) (aa 4)) ((bs.map (·.1)).map λn=>D.str [n]) [0#ru,0#(dh (bs.map (·.1))),0#d2,0#(bQ b.2),none] []=.ok (aH (bs.map (·.1)) (M bs b.1)) [0#ru,0#(dh (bs.map (·.1))),0#d2,0#(bQ b.2),none]:=by
 have n1:=R.n1;obtain⟨t1,_,_⟩:=qh R hb;have:=eE (cs:=[4]) (g:=ae [] 4) (t:=aG) (el:=iT (aE (fB []) (ah 3)) (aa 4)) (λn=>D.str [n]) (λs=>D.int ((M bs b.1 s:Nat):Int)) [0#ru,0#(dh (bs.map (·.1))),0#d2,0#(bQ b.2),none] (bs.map (·.1)) [] (by rw[bV];simp;lia) (λs hs=>by
 refine⟨[0#ru,0#(dh (bs.map (·.1))),0#d2,0#(bQ b.2),0#(.str [s])],_,.pure (.int ((M bs b.1 s:Nat):Int)),[0#ru,0#(dh (bs.map (·.1))),0#d2,0#(bQ b.2),0#(.str [s])],rfl,rfl,?_,rfl,rfl⟩;have e:M bs b.1 s=b.2.flatten.count s:=by unfold M;rw[zeW R hb]
 rw[e];generalize b.2.flatten=z at*;generalize bQ b.2=FB at*;generalize dh (bs.map (·.1))=T at*;simp[iT,ah,t1,zq,aa,zo]);rw[this];rfl
theorem tO{bs:8#0}(R:bC h w bs):iZ [.pure (aw h w bs)]=some (.pure (tb (bs.map (·.1)) (M bs)),[.pure (aw h w bs)]):=by
 have n1:=R.n1;have x2:=(fF h w bs).2.2;have g:=Kc R;obtain⟨SZ,e,s1,h1,hδ⟩:=AR (cs:=[2,3]) (g:=aR 2 (aC (ae [] 2) (aC (ae [] 3) aT))) (t:=aG) (el:=aE bU (aj (aK [4] (aU (aa 1)) (ae [] 4) aG (iT (aE (fB []) (ah 3)) (aa 4))))) cf (λb=>D.tup (aH (bs.map (·.1)) (M bs b.1))) (λZ=>∃s1,sT (bs.map (·.1)) s1/\Z=[0#(aw h w bs),some s1,none,none,none]) bs [] [0#(aw h w bs),some (.own (dh (bs.map (·.1)))),none,none,none] ⟨_,.inl rfl,rfl⟩ (by rw[bV];simp;lia) (λb hb Z⟨s1,h1,hδ⟩=>by
 subst hδ;have hc:=zdQ R hb (aw h w bs) (.str [b.1]);refine⟨[0#(aw h w bs),some s1,0#(.str [b.1]),0#(bQ b.2),none],_,.pure (.tup (aH (bs.map (·.1)) (M bs b.1))),[0#(aw h w bs),0#(dh (bs.map (·.1))),0#(.str [b.1]),0#(bQ b.2),none],rfl,rfl,?_,⟨_,.inr rfl,rfl⟩,rfl⟩;have hT:dh (bs.map (·.1))=.lst ((bs.map (·.1)).map λn=>.str [n]):=rfl;generalize((bs.map (·.1)).map λn=>D.str [n])=TS at*;generalize aH (bs.map (·.1)) (M bs b.1)=CC at*;generalize aw h w bs=ru at*;generalize bQ b.2=FB at*;rcases h1 with rfl|rfl;.rw[hT]at*;simp[eF,aa,bG,a_,hc,cg,bU]
 .rw[hT]at*;simp[eF,aa,bG,a_,hc,cg,bU]);have hE:bs.map (λb=>D.tup (aH (bs.map (·.1)) (M bs b.1)))=(bs.map (·.1)).map λt=>.tup (aH (bs.map (·.1)) (M bs t)):=by rw[Wn];rfl
 rw[hE,Qu]at e;rw[iZ,lW,HF];unfold tb;generalize((bs.map (·.1)).map λt=>D.tup (aH (bs.map (·.1)) (M bs t)))=RR at*;generalize dh (bs.map (·.1))=T at*;subst hδ;generalize aw h w bs=ru at*;simp[cG,bw,aq,au,aW,bB,bx,aa,bb,g,aL,eF,ag,aP,ah,x2,bG,a_];rw[e];simp[cg,bU,df,cn]
theorem j7{g:DG}{b:DS}{d:D}{r:List D}(h1:g (.pure d) Z=some T')(h2:b T'=.ok .next S'):forL g b (d::r) Z=forL g b r S':=by
 conv=>lhs;unfold forL
 rw[h1];simp only[h2,dR]
theorem Ke{t:DT}{b:DS}(h1:t Z=.ok true T')(h2:b T'=.ok .next S'):eB t b (n+1) Z=eB t b n S':=by simp only[eB,h1,dR,if_true,h2]
theorem Kf{t:DT}{b:DS}(h1:t Z=.ok false T'):eB t b (n+1) Z=.ok .next T':=by simp[eB,h1]
theorem AS{B:Type}(F:Nat->B)(ts:List Nat):(W7 ts.length).map (λi=>F (ts.getD i 0))=ts.map F:=by
 apply Jc;intro i;rw[Wo,Wo];by_cases h:i<ts.length;.rw[Qq h,W2 h];simp[h]
 .rw[WD (~~~h),WD (~~~h)];rfl
theorem wJ(ts:List Nat)(f:Nat->Nat)(h:i<ts.length):ax (.tup (aH ts f)) (.int i)=0#(.int ((f (ts.getD i 0):Nat):Int)):=by
 have:i<(aH ts f).length:=by simpa[aH]using h
 simp[ax,iU,this];simp[aH,h]
theorem AU(a b:Int):WY b (a.fmod b)=WY a b:=by
 have e:b*a.fdiv b+a.fmod b=a:=Int.mul_fdiv_add_fmod a b;refine Nat.dvd_antisymm ?_ ?_;.refine Int.ofNat_dvd.mp (Int.dvd_coe_gcd ?_ (Uz ..));rw[<-e];exact Int.dvd_add (Int.dvd_mul_of_dvd_left (Uz ..)) %[e|Ur ..]
 .refine Int.ofNat_dvd.mp (Int.dvd_coe_gcd (Ur ..) ?_);have e2:a.fmod b=a-b*a.fdiv b:=by lia
  rw[e2];exact Int.dvd_sub (Uz ..) (Int.dvd_mul_of_dvd_left (Ur ..))
theorem Kg(a:Int){b:Int}(h:0<b):0<=a.fmod b/\a.fmod b<b:=by rw[Int.fmod_eq_emod_of_nonneg a Z'];exact⟨U8 _ Z',Uh _ h⟩
universe H in theorem Kh(a:Int){b:Int}(h:b<0):b<a.fmod b/\a.fmod b<=0:=by
 rw[Int.fmod_eq_emod];have h1:=U8 a (show b≠0 by lia);have h2:=Int.emod_lt_of_neg a h;split
 .rename_i q;rcases q with q|q;.lia
  .rw[Int.emod_eq_zero_of_dvd q];lia
 .rename_i q;have:a%b≠0:=λz=>q (.inr (Int.dvd_of_emod_eq_zero z));lia
theorem zeH{b r:Int}(h:0<r/\r<b\/r<0/\b<r):2*(b.fmod r).natAbs<b.natAbs:=by
 have e:r*b.fdiv r+b.fmod r=b:=Int.mul_fdiv_add_fmod b r;generalize b.fdiv r=q at*;rcases h with⟨h1,h2⟩|⟨h1,h2⟩
 .obtain⟨k1,k2⟩:=Kg b h1;generalize b.fmod r=s at*;have hq:1<=q:=by
   by_cases z:1<=q;.exact z
   .have:r*q<=0:=Int.mul_nonpos_of_nonneg_of_nonpos Z' Z';lia
  have:r*1<=r*q:=Int.mul_le_mul_of_nonneg_left hq Z';lia
 .obtain⟨k1,k2⟩:=Kh b h1;generalize b.fmod r=s at*;have hq:1<=q:=by
   by_cases z:1<=q;.exact z
   .have:0<=r*q:=Int.mul_nonneg_of_nonpos_of_nonpos Z' Z';lia
  have:r*q<=r*1:=Int.mul_le_mul_of_nonpos_left Z' hq;lia
abbrev gT:DT:=az (ag cK 1 1#0)
abbrev gB:DS:=su [] 0 1 (aQ (aa 1) (aQ (ag sF 0 (ah 1)) bS))
abbrev g2(a b:Int):Dl:=[0#(.int a),0#(.int b)]
theorem AV(a b:Int)(h:b≠0)(n:Nat):eB gT gB (n+1) (g2 a b)=eB gT gB n (g2 b (a.fmod b)):=by
 have q:cK (.int b) (.int 0)=0#(.bl true):=by
  rw[nD];have:(b==0)=false:=by simp;lia
  rw[this];rfl
 have md:=Zv a b h;generalize a.fmod b=c at*;refine Ke (T':=g2 a b) ?_ ?_;.simp[gT,az,ag,aP,ah,q]
 .simp[gB,su,aa,ag,aP,ah,md]
theorem AW(a:Int)(n:Nat):eB gT gB (n+1) (g2 a 0)=.ok .next (g2 a 0):=by
 refine Kf ?_;have q:cK (.int 0) (.int 0)=0#(.bl false):=by rw[nD];rfl
 simp[gT,az,ag,aP,ah,q]
theorem Ki:∀(k:Nat)(a b:Int)(f:Nat),b.natAbs<2^k->2*k+1<=f->∃x:Int,x.natAbs=WY a b/\eB gT gB f (g2 a b)=.ok .next (g2 x 0)
 |0,a,b,f,h,hf=>by
  obtain⟨f,rfl⟩:∃j,f=j+1:=⟨f-1,Z'⟩;have:b=0:=by simp at h;exact h
  subst this;exact⟨a,V',AW a f⟩|k+1,a,b,f,h,hf=>by
  obtain⟨f,rfl⟩:∃j,f=j+1+1+1:=⟨f-3,Z'⟩;by_cases hb:b=0;.subst hb;exact⟨a,V',AW a _⟩
  .by_cases hr:a.fmod b=0
   .refine⟨b,?_,?_⟩;.rw[<-AU,hr];simp
    .rw[AV a b hb,hr,AW]
   .have h2:2*(b.fmod (a.fmod b)).natAbs<b.natAbs:=by
     apply zeH;by_cases hp:0<b;.have:=Kg a hp;left;lia
     .have:=Kh a (show b<0 by lia);right;lia
    have a0:(b.fmod (a.fmod b)).natAbs<2^k:=by rw[QD]at h;lia
    obtain⟨x,hx,e⟩:=Ki k (a.fmod b) (b.fmod (a.fmod b)) (f+1) a0 Z';refine⟨x,by rw[hx,AU,AU],?_⟩;rw[AV a b hb,AV b _ hr,e]
theorem tQ{k:Nat}(a b:Int)(h:b.natAbs<2^k)(hk:k<=400000):gN [.pure (.int a),.pure (.int b)]=some (.pure (.int (WY a b:Nat)),[.pure (.int a),.pure (.int b)]):=by
 obtain⟨x,hx,e⟩:=Ki k a b 1000000 h Z';rw[gN,HR];refine kY (T':=g2 x 0) ?_;have e':eB gT gB 1000000 (bw 2 [.pure (.int a),.pure (.int b)])=.ok .next (g2 x 0):=e;rw[bq e'];have ab:nj (.int x)=0#(.int (WY a b:Nat)):=by show some (S.pure (.int (if x<0 then-x else x)))=_;rw[<-hx];congr 3;split<;>lia
 simp[ah,ab]
theorem nE{k:Nat}(a b:Int)(ha:a.natAbs<2^k)(hb:b.natAbs<2^k)(hk:k<=67108864):cD (.int a) (.int b)=0#(.int (a*b)):=by
 show(if jX a b then some (S.pure (.int (a*b)))else none)=_;have bits:∀x:Int,x.natAbs<2^k->PySem.Builtin.Int.intBits x<=k:=λx hx=>by
  have:=zI hx;unfold PySem.Builtin.Int.intBits at this⊢;have e:((x.natAbs:Nat):Int).natAbs=x.natAbs:=by lia
  have e2:(((x.natAbs:Nat):Int)==0)=(x==0):=by rw[J9,beq_iff_eq,beq_iff_eq];lia
  rw[e,e2]at this;exact this
 have:jX a b=true:=by unfold jX;simp only[Wu,decide_eq_true_eq];exact⟨Wq (bits a ha) hk,Wq (bits b hb) hk⟩
 rw[this,if_pos rfl]
def iL(r:List Int):D:=.lst (r.map .int)
theorem Kj{B:Nat}:∀(r:List Int)(d:Nat),(∀x∈r,x.natAbs<=B)->d<=B->gd d r<=B|[],d,_,h=>h|a::r,d,hr,h=>Kj r _ (λx hx=>hr x (W8 _ hx)) (by
 by_cases q:a=0;.subst q;simp;exact h
 .exact Wq (Int.gcd_le_natAbs_right (d:Int) q) (hr a Wc))
theorem Kk{k:Nat}(hk:k<=8000)(R:D):∀(r:List Int)(d:Nat)(o2:Option S),(∀x∈r,x.natAbs<2^k)->∃q2,(∀s,o2≠some (.own s))->(∀s,q2≠some (.own s))/\forL (ae [] 2) (aq (au gN [.val (aa 1),.val (aa 2)]) (ae [] 1)) (r.map D.int) [0#R,0#(.int (d:Int)),o2]=.ok .next [0#R,0#(.int (gd d r:Nat)),q2]|[],d,o2,_=>⟨o2,λh=>⟨h,rfl⟩⟩|a::r,d,o2,hr=>by obtain⟨q2,h2⟩:=Kk hk R r (WY (d:Int) a) 0#(.int a) λx hx=>hr x (W8 _ hx);refine⟨q2,λj=>⟨(h2 λs=>by simp).1,?_⟩⟩;have g:=tQ (d:Int) a (hr a Wc) Z';rw[We,j7 (T':=[0#R,0#(.int (d:Int)),0#(.int a)]) (S':=[0#R,0#(.int (WY (d:Int) a:Nat)),0#(.int a)]) rfl (by generalize((WY (d:Int) a:Nat):Int)=g0 at*;generalize(d:Int)=di at*;simp[aq,au,aW,bB,bx,aa,bb,g,aL])];exact(h2 λs=>by simp).2
theorem Km(L:List D)(i:Nat)(Z:Dl)(h:Z[i]?=some 0#(.lst L)):aU (aa i) Z=.ok L Z:=by
 have qaf:Z.set i 0#(.lst L)=Z:=by
  apply Jc;intro j;by_cases hj:i=j;.subst hj;rw[Wh (W9.mp h).1,h]
  .rw[W4 hj]
 simp[eF,aa,h,S.d]
theorem qag{k:Nat}(hk:k<=8000)(r:List Int)(hl:r.length<=26)(hr:∀x∈r,x.natAbs<2^k):∃s:S,s.d=iL (rl r)/\qb [.pure (iL r)]=some (s,[.pure (iL r)]):=by
 obtain⟨q2,h⟩:=Kk hk (iL r) r 0 none hr;obtain⟨hq,e⟩:=h (λs=>by simp);have hd:gd 0 r<2^k:=by have:gd 0 r<=2^k-1:=Kj r 0 λx hx=>by have:=hr x hx;lia (Qc _);have:0<2^k:=UE k;lia
 have gt:=lU ((gd 0 r:Nat):Int) 1;have hq2:bG [0#(iL r),0#(.int ((gd 0 r:Nat):Int)),q2] 2=false:=by cases q2 with|none=>rfl|some s=>cases s with|pure d=>rfl|own d=>exact absurd rfl (hq d)
 have er:∀s SZ,bf (iO (az (ag eQ 1 1#1)) (aK [2] (aU (aa 0)) (ae [] 2) aG (ag fP 2 (ah 1))) (aa 0)) [0#(iL r),0#(.int ((gd 0 r:Nat):Int)),q2]=.ok (.ret s) SZ->qb [.pure (iL r)]=some (s,[.pure (iL r)]):=λs SZ q=>by rw[qb,HS];refine gP (T':=SZ) ?_;rw[bq (T':=[0#(iL r),0#(.int 0),none]) (by generalize iL r=R at*;simp[bw,aq])];have iq:aU (aa 0) [0#(iL r),0#(.int 0),none]=.ok (r.map D.int) [0#(iL r),0#(.int 0),none]:=Km _ 0 _ rfl;rw[bq ((iy iq).trans e)];exact q
 by_cases h1:1<gd 0 r
 .have eR:rl r=r.map λx=>x.fdiv (gd 0 r:Nat):=by unfold rl;rw[if_pos h1]
  rw[decide_eq_true Z']at gt;have c:=eE (cs:=[2]) (g:=ae [] 2) (t:=aG) (el:=ag fP 2 (ah 1)) D.int (λx:Int=>D.int (x.fdiv (gd 0 r:Nat))) [0#(iL r),0#(.int ((gd 0 r:Nat):Int)),none] r [] (by rw[bV];simp;lia) λx hx=>by have dv:=oE x ((gd 0 r:Nat):Int) Z' (show((gd 0 r:Nat):Int).natAbs<nq by have:2^k<=2^8000:=WU U' hk;show _<2^8000;lia);refine⟨[0#(iL r),0#(.int ((gd 0 r:Nat):Int)),0#(.int x)],_,.pure (.int (x.fdiv (gd 0 r:Nat))),[0#(iL r),0#(.int ((gd 0 r:Nat):Int)),0#(.int x)],rfl,rfl,?_,rfl,rfl⟩;generalize iL r=R at*;generalize x.fdiv ((gd 0 r:Nat):Int)=y at*;generalize((gd 0 r:Nat):Int)=g0 at*;simp[ag,aP,ah,dv]
  refine⟨.own (iL (rl r)),rfl,er _ [0#(iL r),0#(.int ((gd 0 r:Nat):Int)),q2] ?_⟩;have iq:aU (aa 0) [0#(iL r),0#(.int ((gd 0 r:Nat):Int)),q2]=.ok (r.map D.int) [0#(iL r),0#(.int ((gd 0 r:Nat):Int)),q2]:=Km _ 0 _ rfl;have eL:iL (rl r)=.lst (r.map λx:Int=>D.int (x.fdiv (gd 0 r:Nat))):=by unfold iL;rw[eR,Wn];rfl
  rw[eL];have qj:a_ [2] [0#(iL r),0#(.int ((gd 0 r:Nat):Int)),q2]=[0#(iL r),0#(.int ((gd 0 r:Nat):Int)),none]:=rfl;have hbk:∀a b:S,cg [2] [some a,some b,q2] [some a,some b,none]=[some a,some b,q2]:=λa b=>rfl;have wK:[2].any (bG [0#(iL r),0#(.int ((gd 0 r:Nat):Int)),q2])=false:=#v[hq2];have cmp:aK [2] (aU (aa 0)) (ae [] 2) aG (ag fP 2 (ah 1)) [0#(iL r),0#(.int ((gd 0 r:Nat):Int)),q2]=.ok (.own (.lst (r.map λx:Int=>D.int (x.fdiv (gd 0 r:Nat))))) [0#(iL r),0#(.int ((gd 0 r:Nat):Int)),q2]:=by rw[sk,iq];simp only[dR];rw[wK,qj,c];rfl
  generalize(r.map λx:Int=>D.int (x.fdiv (gd 0 r:Nat)))=Y at*;generalize((gd 0 r:Nat):Int)=g0 at*;generalize iL r=R at*;have ht:az (ag eQ 1 1#1) [0#R,0#(.int g0),q2]=.ok true [0#R,0#(.int g0),q2]:=by simp[az,ag,aP,ah,gt]
  rw[zu,X6,ht];simp only[dR,if_true];rw[cmp];rfl
 .have eR:rl r=r:=by unfold rl;rw[if_neg h1]
  rw[decide_eq_false Z']at gt;refine⟨.pure (iL r),by rw[eR];rfl,er _ [0#(iL r),0#(.int ((gd 0 r:Nat):Int)),q2] ?_⟩;generalize((gd 0 r:Nat):Int)=g0 at*;generalize iL r=R at*;simp[az,ag,aP,ah,aa,gt]
theorem nF(h:c<r.length):ax (iL r) (.int (c:Int))=0#(.int (ao r c)):=by unfold iL ao;simp only[ax];rw[iU,Wo,W2 h,Wk,W2 h];rfl
theorem zit(r p:List Int):jV (r.map D.int) (p.map D.int)=(r.zip p).map λab:Int×Int=>D.tup [.int ab.1,.int ab.2]:=by unfold jV;rw[List.zipWith_map,List.zip,List.map_zipWith]
theorem zh6{k:Nat}(hk:2*k+1<=8000)(hr:r.length=n)(hp:p.length=n)(hn:n<=26)(hc:c<n)(br:∀x∈r,x.natAbs<2^k)(bp:∀x∈p,x.natAbs<2^k):∃s:S,s.d=iL (rc r p c)/\nu [.pure (iL r),.pure (iL p),.pure (.int (c:Int))]=some (s,[.pure (iL r),.pure (iL p),.pure (.int (c:Int))]):=by
 have i1:=nF (r:=r) (c:=c) Z';have i2:=nF (r:=p) (c:=c) Z';have q:=lV (ao r c) 0;by_cases hz:ao r c=0
 .have eR:rc r p c=r:=by unfold rc;rw[if_pos hz]
  have:(ao r c==0)=true:= ~~~hz;rw[this]at q;refine⟨.pure (iL r),by rw[eR];rfl,?_⟩;rw[nu,zX];generalize iL r=R at*;generalize iL p=P at*;refine oK (T':=[0#R,0#P,0#(.int (c:Int)),none,none]) (oM ?_);simp[bw,az,ag,aP,ah,aa,i1,q]
 .have eR:rc r p c=rl (QB (λa b=>a*ao p c-b*ao r c) r p):=by unfold rc;rw[if_neg hz]
  have:(ao r c==0)=false:= ~~~hz;rw[this]at q;have ac:(ao r c).natAbs<2^k:=br _ (wu Z');have pc:(ao p c).natAbs<2^k:=bp _ (wu Z');have two:∀a b x y:Int,a.natAbs<2^k->b.natAbs<2^k->x.natAbs<2^k->y.natAbs<2^k->(a*x-b*y).natAbs<2^(2*k+1):=λa b x y h1 h2 h3 h4=>by
   have e1:(a*x).natAbs<2^k*2^k:=by rw[Jk];exact Nat.mul_lt_mul'' h1 h3
   have e2:(b*y).natAbs<2^k*2^k:=by rw[Jk];exact Nat.mul_lt_mul'' h2 h4
   have e3:2^(2*k+1)=2^k*2^k+2^k*2^k:=by rw[QD,show 2*k=k+k by lia,Nat.pow_add];lia
   rw[e3];lia
  have bz:∀x∈QB (λa b=>a*ao p c-b*ao r c) r p,x.natAbs<2^(2*k+1):=λx hx=>by obtain⟨i,hi,rfl⟩:=QG hx;rw[List.getElem_zipWith];exact two _ _ _ _ (br _ (WV _)) (bp _ (WV _)) pc ac
  obtain⟨s,hs,gl⟩:=qag hk (QB (λa b=>a*ao p c-b*ao r c) r p) Re bz;have c1:=eE (cs:=[3,4]) (g:=aR 2 (aC (ae [] 3) (aC (ae [] 4) aT))) (t:=aG) (el:=aB jh (ag cD 3 (aj (ag ax 1 (ah 2)))) (aj (ag cD 4 (aj (ag ax 0 (ah 2)))))) (λab:Int×Int=>D.tup [.int ab.1,.int ab.2]) (λab:Int×Int=>D.int (ab.1*ao p c-ab.2*ao r c)) [0#(iL r),0#(iL p),0#(.int (c:Int)),none,none] (r.zip p) [] (by rw[bV];simp;lia) λab iK=>by obtain⟨a,b⟩:=ab;have ma:=bp _ (U2 iK).2;have mb:=br _ (U2 iK).1;have m1:=nE a (ao p c) mb pc Z';have m2:=nE b (ao r c) ma ac Z';have sb:jh (.int (a*ao p c)) (.int (b*ao r c))=0#(.int (a*ao p c-b*ao r c)):=rfl;refine⟨[0#(iL r),0#(iL p),0#(.int (c:Int)),0#(.int a),0#(.int b)],_,.pure (.int (a*ao p c-b*ao r c)),[0#(iL r),0#(iL p),0#(.int (c:Int)),0#(.int a),0#(.int b)],rfl,rfl,?_,rfl,rfl⟩;generalize iL r=R at*;generalize iL p=P at*;generalize a*ao p c-b*ao r c=x0 at*;generalize a*ao p c=x1 at*;generalize b*ao r c=x2 at*;generalize ao p c=x3 at*;generalize ao r c=x4 at*;simp[ag,aP,ah,i1,i2,m1,m2,sb]
  have eY:((r.zip p).map λab:Int×Int=>D.int (ab.1*ao p c-ab.2*ao r c))=(QB (λa b=>a*ao p c-b*ao r c) r p).map D.int:=by rw[List.zip,List.map_zipWith,List.map_zipWith]
  rw[eY]at c1;refine⟨s,%[eR|hs],?_⟩;have iz:iw (aa 0) (aa 1) [0#(iL r),0#(iL p),0#(.int (c:Int)),none,none]=.ok ((r.zip p).map λab:Int×Int=>D.tup [.int ab.1,.int ab.2]) [0#(iL r),0#(iL p),0#(.int (c:Int)),none,none]:=by rw[<-zit];simp[iw,aa,S.d,iL,jW]
  have cmp:aK [3,4] (iw (aa 0) (aa 1)) (aR 2 (aC (ae [] 3) (aC (ae [] 4) aT))) aG (aB jh (ag cD 3 (aj (ag ax 1 (ah 2)))) (aj (ag cD 4 (aj (ag ax 0 (ah 2)))))) [0#(iL r),0#(iL p),0#(.int (c:Int)),none,none]=.ok (.own (iL (QB (λa b=>a*ao p c-b*ao r c) r p))) [0#(iL r),0#(iL p),0#(.int (c:Int)),none,none]:=by rw[sk,iz];simp only[dR];rw[show([3,4]:List Nat).any (bG [0#(iL r),0#(iL p),0#(.int (c:Int)),none,none])=false from rfl,show a_ [3,4] [0#(iL r),0#(iL p),0#(.int (c:Int)),none,none]=[0#(iL r),0#(iL p),0#(.int (c:Int)),none,none]from rfl,c1];rfl
  rw[nu,zX];clear c1 iz eY;generalize iL (QB (λa b=>a*ao p c-b*ao r c) r p)=KE at*;generalize iL r=R at*;generalize iL p=P at*;refine oK (T':=[0#R,0#P,0#(.int (c:Int)),none,none]) ?_;rw[bq (T':=[0#R,0#P,0#(.int (c:Int)),none,none]) #v[bw,az,ag,aP,ah,aa,i1,q]];generalize aK [3,4] (iw (aa 0) (aa 1)) (aR 2 (aC (ae [] 3) (aC (ae [] 4) aT))) aG (aB jh (ag cD 3 (aj (ag ax 1 (ah 2)))) (aj (ag cD 4 (aj (ag ax 0 (ah 2))))))=E at*;simp[au,aW,bB,bx,bb,cmp,gl,aL,S.d]
def bH(L:List (List Int)):D:=.lst (L.map iL)
def sD(l:List (Nat×List Int)):List (a7×D):=l.map λx=>(Sum.inl (x.1:Int),iL x.2)
theorem AX:mB 6<2^320:=by decide
theorem tR:∀{d:Nat},c<=d->mB c<=mB d
 |0,h=>by
  have e:c=0:=by lia
  rw[e];exact Wf _|d+1,h=>by
  by_cases q:c=d+1;.rw[q];exact Wf _
  .exact Wq (tR Z') (IQ d)
theorem Kn(h:c<=6)(b:∀i,(ao r i).natAbs<=mB c):∀x∈r,x.natAbs<2^320:=λx hx=>by
 obtain⟨i,hi,rfl⟩:=QG hx;have e:ao r i=r[i]:=by unfold ao;rw[Wk,W2 hi];rfl
 have h1:=b i;rw[e]at h1;exact WC h1 (WC (tR h) AX)
abbrev v8(R:D)(sl lf:Option S)(o3 o4 o5:Option S):Dl:=[0#R,sl,lf,o3,o4,o5,none,none]
theorem zbH(hc:c<n)(hl:∀r∈L,r.length=n)(AY:L.length<=26)(R:D)(sl lf o4 o5:Option S):bX [6] (ae [] 6) (az (aB cK (ag ax 6 (ah 3)) 1#0)) (aa 6) (L.map iL) (v8 R sl lf 0#(.int (c:Int)) o4 o5) []=.ok ((L.filter λr=>ao r c !=0).map iL) (v8 R sl lf 0#(.int (c:Int)) o4 o5):=by
 have:=qg (cs:=[6]) (g:=ae [] 6) (t:=az (aB cK (ag ax 6 (ah 3)) 1#0)) (el:=aa 6) iL iL (λr=>ao r c !=0) (v8 R sl lf 0#(.int (c:Int)) o4 o5) L [] (by rw[bV];simp;lia) λr hr=>by
  have i1:=nF (r:=r) (c:=c) %[hl r hr|hc];have q:=nD (ao r c) 0;refine⟨[0#R,sl,lf,0#(.int (c:Int)),o4,o5,0#(iL r),none],[0#R,sl,lf,0#(.int (c:Int)),o4,o5,0#(iL r),none],.pure (iL r),[0#R,sl,lf,0#(.int (c:Int)),o4,o5,0#(iL r),none],rfl,?_,rfl,?_,rfl,rfl⟩;.have e:(ao r c !=0)=!ao r c==0:=rfl;rw[e];generalize iL r=Q at*;generalize(ao r c==0)=b at*;simp[az,ag,aP,ah,i1,q]
  .generalize iL r=Q at*;simp[aa]
 exact this
theorem zgb(hc:c<n)(hl:∀r∈L,r.length=n)(AY:L.length<=26)(R:D)(sl lf o4 o5:Option S):bX [6] (ae [] 6) (az (aB bj (ag ax 6 (ah 3)) 1#0)) (aa 6) (L.map iL) (v8 R sl lf 0#(.int (c:Int)) o4 o5) []=.ok ((L.filter λr=>ao r c==0).map iL) (v8 R sl lf 0#(.int (c:Int)) o4 o5):=by
 have:=qg (cs:=[6]) (g:=ae [] 6) (t:=az (aB bj (ag ax 6 (ah 3)) 1#0)) (el:=aa 6) iL iL (λr=>ao r c==0) (v8 R sl lf 0#(.int (c:Int)) o4 o5) L [] (by rw[bV];simp;lia) λr hr=>by
  have i1:=nF (r:=r) (c:=c) %[hl r hr|hc];have q:=lV (ao r c) 0;refine⟨[0#R,sl,lf,0#(.int (c:Int)),o4,o5,0#(iL r),none],[0#R,sl,lf,0#(.int (c:Int)),o4,o5,0#(iL r),none],.pure (iL r),[0#R,sl,lf,0#(.int (c:Int)),o4,o5,0#(iL r),none],rfl,?_,rfl,?_,rfl,rfl⟩;.generalize iL r=Q at*;generalize(ao r c==0)=b at*;simp[az,ag,aP,ah,i1,q]
  .generalize iL r=Q at*;simp[aa]
 exact this
abbrev jB:DE:=au nu [.val (aa 6),.val (aa 5),.val (aa 3)]
theorem Ko{k:Nat}(hk:2*k+1<=8000)(hr:r.length=n)(hp:p.length=n)(hn:n<=26)(hc:c<n)(br:∀x∈r,x.natAbs<2^k)(bp:∀x∈p,x.natAbs<2^k)(R:D)(sl lf o4 o7:Option S):∃s:S,s.d=iL (rc r p c)/\jB [0#R,sl,lf,0#(.int (c:Int)),o4,0#(iL p),0#(iL r),o7]=.ok s [0#R,sl,lf,0#(.int (c:Int)),o4,0#(iL p),0#(iL r),o7]:=by obtain⟨s,hs,g⟩:=zh6 hk hr hp hn hc br bp;refine⟨s,hs,?_⟩;generalize iL r=Q at*;generalize iL p=P at*;simp[jB,au,aW,bB,bx,aa,bb,g,aL]
theorem zaI{k:Nat}(hk:2*k+1<=8000)(hp:p.length=n)(hn:n<=26)(hc:c<n)(bp:∀x∈p,x.natAbs<2^k)(hl:∀r∈L,r.length=n)(bl:∀r∈L,∀x∈r,x.natAbs<2^k)(AY:L.length<=26)(R:D)(sl lf o4:Option S):bX [6] (ae [] 6) aG jB (L.map iL) (v8 R sl lf 0#(.int (c:Int)) o4 0#(iL p)) []=.ok ((L.map λr=>rc r p c).map iL) (v8 R sl lf 0#(.int (c:Int)) o4 0#(iL p)):=by
 have:=eE (cs:=[6]) (g:=ae [] 6) (t:=aG) (el:=jB) iL (λr=>iL (rc r p c)) (v8 R sl lf 0#(.int (c:Int)) o4 0#(iL p)) L [] (by rw[bV];simp;lia) λr hr=>by obtain⟨s,hs,e⟩:=Ko hk (hl r hr) hp hn hc (bl r hr) bp R sl lf o4 none;exact⟨_,_,s,_,rfl,rfl,e,rfl,hs⟩
 rw[Wn];exact this
theorem Kq:∀l:List (Nat×List Int),ir (l.map λx=>D.tup [.int (x.1:Int),iL x.2])=some (sD l)|[]=>rfl|x::l=>by rw[We];simp only[ir,dz,Kq l];rfl
theorem wL:∀(kps acc:List (a7×D)),((acc++kps).map (·.1)).Nodup->mW kps acc=acc++kps
 |[],acc,_=>#v[mW]|p::r,acc,h=>by
  have hn:(acc.any λkv=>decide (kv.1=p.1))=false:=by rw[Uj];intro kv hkv z;rw[WS,We]at h;have:=(List.nodup_append.mp h).2.2 kv.1 (Wj.mpr ⟨kv,hkv,rfl⟩) p.1 Wc;exact this (~~~z)
  have e:putD acc p.1 p.2=acc++[p]:=by unfold putD;rw[hn];simp
  show mW r (putD acc p.1 p.2)=_;rw[e,wL r (acc++[p]) (~~~h)];simp
theorem zgW(l:List (Nat×List Int))(h:(l.map (·.1)).Nodup):((sD l).map (·.1)).Nodup:=by
 have e:(sD l).map (·.1)=(l.map (·.1)).map λk:Nat=>(Sum.inl (k:Int):a7):=by unfold sD;rw[Wn,Wn];rfl
 rw[e];exact List.Pairwise.map _ (λa b iK z=>iK (by injection z with z;lia)) h
theorem zie{l:List (Nat×List Int)}(h:(l.map (·.1)).Nodup)(hl:l.length<=1000):gy (.lst (l.map λx=>D.tup [.int (x.1:Int),iL x.2]))=some (.own (.aA (sD l))):=by simp only[gy];rw[Kq];show(if(sD l).length<=Wd then some (S.own (.aA (mW (sD l) [])))else none)=_;rw[if_pos (by rw[bV];simp[sD];lia),wL _ _ (by simpa using zgW l h)];rfl
theorem zeu(l:List (Nat×List Int)):kK (sD l)=l.map λx=>D.tup [.int (x.1:Int),iL x.2]:=by unfold kK sD;rw[Wn];rfl
theorem zjM{l:List (Nat×List Int)}(h:∀x∈l,x.1<c):putD (sD l) (.inl (c:Int)) (iL p)=sD (l++[(c,p)]):=by
 unfold putD;rw[if_neg];.unfold sD;rw[WS];rfl
 .intro q;obtain⟨kv,h1,h2⟩:=List.any_eq_true.mp q;obtain⟨x,hx,rfl⟩:=Wj.mp h1;have:=h x hx;have e:(Sum.inl (x.1:Int):a7)=.inl (c:Int):= ~~~h2;injection e with e;lia
abbrev tS:DE:=aK [6] (aU (aa 2)) (ae [] 6) (az (aB cK (ag ax 6 (ah 3)) 1#0)) (aa 6)
abbrev wM:DE:=aB bD (aK [6] (aU (lM 4 (jO 3#1) rA)) (ae [] 6) aG jB) (aj (aK [6] (aU (aa 2)) (ae [] 6) (az (aB bj (ag ax 6 (ah 3)) 1#0)) (aa 6)))
abbrev wN:DE:=aE gy (aj (aK [7,6] (lH 1) (aR 2 (aC (ae [] 7) (aC (ae [] 6) aT))) aG (cF (aQ (aa 7) (aQ jB bS)))))
abbrev sB:DS:=ay (aq tS (ae [] 4)) (bI (az (aB eQ (aE bA (ah 4)) 1#0)) (ay (aq (ag ax 4 1#0) (ae [] 5)) (ay (aq wM (ae [] 2)) (ay (aq wN (ae [] 1)) (gz 1 (aa 3) (aa 5))))) bR)
theorem j8{g:DG}{t:DT}{el:DE}{acc:List D}(h1:it Z=.ok ds T')(h2:cs.any (bG T')=false)(h3:bX cs g t el ds (a_ cs T') []=.ok acc S'):aK cs it g t el Z=.ok (.own (.lst acc)) (cg cs T' S'):=by rw[sk,h1];simp only[dR];rw[h2,h3];rfl
theorem Kr(L:List D)(s:S)(hs:s=.pure (.lst L)\/s=.own (.lst L))(R:D)(sl o3 o4 o5:Option S):aU (aa 2) (v8 R sl (some s) o3 o4 o5)=.ok L (v8 R sl 0#(.lst L) o3 o4 o5):=by rcases hs with rfl|rfl<;>simp[eF,aa,S.d]
theorem zcT{k:Nat}(hk:2*k+1<=8000)(hp:p.length=n)(hn:n<=26)(hc:c<n)(bp:∀x∈p,x.natAbs<2^k){l:List (Nat×List Int)}(hl:∀x∈l,x.2.length=n)(bl:∀x∈l,∀y∈x.2,y.natAbs<2^k)(AY:l.length<=26)(R:D)(sl lf o4:Option S):bX [7,6] (aR 2 (aC (ae [] 7) (aC (ae [] 6) aT))) aG (cF (aQ (aa 7) (aQ jB bS))) (l.map λx=>D.tup [.int (x.1:Int),iL x.2]) (v8 R sl lf 0#(.int (c:Int)) o4 0#(iL p)) []=.ok ((l.map λx=>(x.1,rc x.2 p c)).map λx=>D.tup [.int (x.1:Int),iL x.2]) (v8 R sl lf 0#(.int (c:Int)) o4 0#(iL p)):=by
 have:=eE (cs:=[7,6]) (g:=aR 2 (aC (ae [] 7) (aC (ae [] 6) aT))) (t:=aG) (el:=cF (aQ (aa 7) (aQ jB bS))) (λx:Nat×List Int=>D.tup [.int (x.1:Int),iL x.2]) (λx:Nat×List Int=>D.tup [.int (x.1:Int),iL (rc x.2 p c)]) (v8 R sl lf 0#(.int (c:Int)) o4 0#(iL p)) l [] (by rw[bV];simp;lia) λx hx=>by obtain⟨s,hs,e⟩:=Ko hk (hl x hx) hp hn hc (bl x hx) bp R sl lf o4 0#(.int (x.1:Int));refine⟨[0#R,sl,lf,0#(.int (c:Int)),o4,0#(iL p),0#(iL x.2),0#(.int (x.1:Int))],_,.pure (.tup [.int (x.1:Int),iL (rc x.2 p c)]),[0#R,sl,lf,0#(.int (c:Int)),o4,0#(iL p),0#(iL x.2),0#(.int (x.1:Int))],rfl,rfl,?_,rfl,rfl⟩;rw[<-hs];generalize iL x.2=Q at*;generalize iL p=P at*;have e:jB [0#R,sl,lf,0#(.int (c:Int)),o4,0#P,0#Q,0#(.int (x.1:Int))]=.ok s [0#R,sl,lf,0#(.int (c:Int)),o4,0#P,0#Q,0#(.int (x.1:Int))]:=e;generalize jB=E at*;simp[aa,e]
 rw[Wn];exact this
theorem zai(hn:n<=6)(hc:c<n)(hrn:rows.length<=n){st:dJ}(G:Gj n c (mB c) rows st)(R:D)(s2:S)(h2:s2=.pure (bH st.2)\/s2=.own (bH st.2))(o4 o5:Option S):∃s2' q4 q5,(s2'=.pure (bH (kX c st).2)\/s2'=.own (bH (kX c st).2))/\sB (v8 R (some (.own (.aA (sD st.1)))) (some s2) 0#(.int (c:Int)) o4 o5)=.ok .next (v8 R (some (.own (.aA (sD (kX c st).1)))) (some s2') 0#(.int (c:Int)) q4 q5):=by
 have c2:st.2.length<=26:=by have:=G.ct;lia
 have c1:st.1.length<=26:=by
  have:=tL G.nd (ts:=W7 c) λx hx=>by obtain⟨y,hy,rfl⟩:=Wj.mp hx;exact Ws.mpr (G.kc y hy)
  simp at this;lia
 have b1:∀x∈st.1,∀y∈x.2,y.natAbs<2^320:=λx hx=>Kn Z' (G.b1 x hx);have b2:∀r∈st.2,∀y∈r,y.natAbs<2^320:=λr hr=>Kn Z' (G.b2 r hr);have pk:=zbH hc G.l2 c2 R (some (.own (.aA (sD st.1)))) 0#(bH st.2) o4 o5;have e1:tS (v8 R (some (.own (.aA (sD st.1)))) (some s2) 0#(.int (c:Int)) o4 o5)=.ok (.own (.lst ((st.2.filter λr=>ao r c !=0).map iL))) (v8 R (some (.own (.aA (sD st.1)))) 0#(bH st.2) 0#(.int (c:Int)) o4 o5):=j8 (Kr _ s2 h2 R _ _ _ _) rfl pk;have k1:aq tS (ae [] 4) (v8 R (some (.own (.aA (sD st.1)))) (some s2) 0#(.int (c:Int)) o4 o5)=.ok .next (v8 R (some (.own (.aA (sD st.1)))) 0#(bH st.2) 0#(.int (c:Int)) (some (.own (.lst ((st.2.filter λr=>ao r c !=0).map iL)))) o5):=by show(tS _).bind _=_;rw[e1];rfl
 unfold kX;cases hf:st.2.filter λr=>ao r c !=0with|nil=>rw[hf]at k1;refine⟨.pure (bH st.2),some (.own (.lst [])),o5,.inl rfl,?_⟩;have k1:aq tS (ae [] 4) (v8 R (some (.own (.aA (sD st.1)))) (some s2) 0#(.int (c:Int)) o4 o5)=.ok .next (v8 R (some (.own (.aA (sD st.1)))) 0#(bH st.2) 0#(.int (c:Int)) (some (.own (.lst []))) o5):=k1;rw[sB,bq k1];have gt:=lU 0 0;generalize bH st.2=Q at*;generalize sD st.1=W at*;have ln:bA (.lst [])=0#(.int 0):=rfl;simp[az,ah,S.d,ln,gt]|cons p q=>
  rw[hf]at k1;have i8:∀r,r∈p::q->r∈st.2:=λr hr=>by rw[<-hf]at hr;exact(Qs.mp hr).1
  have hp:=i8 p Wc;have pl:=G.l2 p hp;have pb:=b2 p hp;have qah:q.length<=26:=by have:=List.length_filter_le (λr=>ao r c !=0) st.2;rw[hf,WF]at this;lia
  have cl:=zaI (by decide:2*320+1<=8000) pl Z' hc pb (λr hr=>G.l2 r (i8 r (W8 _ hr))) (λr hr=>b2 r (i8 r (W8 _ hr))) qah R (some (.own (.aA (sD st.1)))) 0#(bH st.2) (some (.own (.lst ((p::q).map iL))));have zr:=zgb hc G.l2 c2 R (some (.own (.aA (sD st.1)))) 0#(bH st.2) (some (.own (.lst ((p::q).map iL)))) 0#(iL p);have dc:=zcT (by decide:2*320+1<=8000) pl Z' hc pb G.l1 b1 c1 R none (some (.own (bH (q.map (λr=>rc r p c)++st.2.filter λr=>ao r c==0)))) (some (.own (.lst ((p::q).map iL))));rw[<-zeu]at dc;have dd:=zie (l:=st.1.map λx=>(x.1,rc x.2 p c)) %[Wn|G.nd] Re;have ps:=zjM (l:=st.1.map λx=>(x.1,rc x.2 p c)) (c:=c) (p:=p) λx hx=>by obtain⟨y,hy,rfl⟩:=Wj.mp hx;exact G.kc y hy
  refine⟨.own (bH (q.map (λr=>rc r p c)++st.2.filter λr=>ao r c==0)),some (.own (.lst ((p::q).map iL))),0#(iL p),.inr rfl,?_⟩;rw[sB,bq k1];have ht:az (aB eQ (aE bA (ah 4)) 1#0) (v8 R (some (.own (.aA (sD st.1)))) 0#(bH st.2) 0#(.int (c:Int)) (some (.own (.lst ((p::q).map iL)))) o5)=.ok true (v8 R (some (.own (.aA (sD st.1)))) 0#(bH st.2) 0#(.int (c:Int)) (some (.own (.lst ((p::q).map iL)))) o5):=by have ln:bA (.lst ((p::q).map iL))=0#(.int ((q.length+1:Nat):Int)):=#v[bA];have gt:=lU ((q.length+1:Nat):Int) 0;rw[decide_eq_true Z']at gt;generalize D.lst ((p::q).map iL)=PQ at*;generalize bH st.2=Q at*;generalize sD st.1=W at*;generalize((q.length+1:Nat):Int)=z at*;simp[az,ah,S.d,ln,gt]
  rw[FV,ht];simp only[dR,if_true];have kp:aq (ag ax 4 1#0) (ae [] 5) (v8 R (some (.own (.aA (sD st.1)))) 0#(bH st.2) 0#(.int (c:Int)) (some (.own (.lst ((p::q).map iL)))) o5)=.ok .next (v8 R (some (.own (.aA (sD st.1)))) 0#(bH st.2) 0#(.int (c:Int)) (some (.own (.lst ((p::q).map iL)))) 0#(iL p)):=by
   have ix:ax (.lst ((p::q).map iL)) (.int 0)=0#(iL p):=by simp only[ax];rw[oB];rfl
   generalize D.lst ((p::q).map iL)=PQ at*;generalize iL p=P at*;generalize bH st.2=Q at*;generalize sD st.1=W at*;simp[aq,ag,aP,ah,S.d,ix]
  rw[bq kp];have i4:aU (lM 4 (jO 3#1) rA) (v8 R (some (.own (.aA (sD st.1)))) 0#(bH st.2) 0#(.int (c:Int)) (some (.own (.lst ((p::q).map iL)))) 0#(iL p))=.ok (q.map iL) (v8 R (some (.own (.aA (sD st.1)))) 0#(bH st.2) 0#(.int (c:Int)) (some (.own (.lst ((p::q).map iL)))) 0#(iL p)):=by
   have sl:pR (some 1) none (.lst ((p::q).map iL))=some (.own (.lst (q.map iL))):=by
    have:e_ ((p::q).map iL) (some 1) none=q.map iL:=by unfold e_ Lake.fI;simp;exact JM V'
    simp only[pR,this]
   generalize D.lst ((p::q).map iL)=PQ at*;generalize iL p=P at*;generalize bH st.2=Q at*;generalize sD st.1=W at*;generalize q.map iL=QL at*;simp[eF,lM,jO,ah,S.d,sl]
  have kl:aq wM (ae [] 2) (v8 R (some (.own (.aA (sD st.1)))) 0#(bH st.2) 0#(.int (c:Int)) (some (.own (.lst ((p::q).map iL)))) 0#(iL p))=.ok .next (v8 R (some (.own (.aA (sD st.1)))) (some (.own (bH (q.map (λr=>rc r p c)++st.2.filter λr=>ao r c==0)))) 0#(.int (c:Int)) (some (.own (.lst ((p::q).map iL)))) 0#(iL p)):=by
   have a1:=j8 (cs:=[6]) (g:=ae [] 6) (t:=aG) (el:=jB) i4 rfl cl;have a2:=j8 (cs:=[6]) (g:=ae [] 6) (t:=az (aB bj (ag ax 6 (ah 3)) 1#0)) (el:=aa 6) (Kr _ (.pure (bH st.2)) (.inl rfl) R (some (.own (.aA (sD st.1)))) 0#(.int (c:Int)) (some (.own (.lst ((p::q).map iL)))) 0#(iL p)) rfl zr;have ad:bD (.lst ((q.map λr=>rc r p c).map iL)) (.lst ((st.2.filter λr=>ao r c==0).map iL))=some (.own (bH (q.map (λr=>rc r p c)++st.2.filter λr=>ao r c==0))):=by have l1:=List.length_filter_le (λr=>ao r c==0) st.2;unfold bH;simp only[bD];rw[if_pos (by rw[bV];simp;lia),WS]
   show(wM _).bind _=_;unfold wM;rw[zt,a1];simp only[dR,m9];have a2':aK [6] (aU (aa 2)) (ae [] 6) (az (aB bj (ag ax 6 (ah 3)) 1#0)) (aa 6) (cg [6] (v8 R (some (.own (.aA (sD st.1)))) 0#(bH st.2) 0#(.int (c:Int)) (some (.own (.lst ((p::q).map iL)))) 0#(iL p)) (v8 R (some (.own (.aA (sD st.1)))) 0#(bH st.2) 0#(.int (c:Int)) (some (.own (.lst ((p::q).map iL)))) 0#(iL p)))=_:=a2;rw[a2'];simp only[dR,zv,si];rw[ad];rfl
  rw[bq kl];have kd:aq wN (ae [] 1) (v8 R (some (.own (.aA (sD st.1)))) (some (.own (bH (q.map (λr=>rc r p c)++st.2.filter λr=>ao r c==0)))) 0#(.int (c:Int)) (some (.own (.lst ((p::q).map iL)))) 0#(iL p))=.ok .next (v8 R (some (.own (.aA (sD (st.1.map λx=>(x.1,rc x.2 p c)))))) (some (.own (bH (q.map (λr=>rc r p c)++st.2.filter λr=>ao r c==0)))) 0#(.int (c:Int)) (some (.own (.lst ((p::q).map iL)))) 0#(iL p)):=by have ii:lH 1 (v8 R (some (.own (.aA (sD st.1)))) (some (.own (bH (q.map (λr=>rc r p c)++st.2.filter λr=>ao r c==0)))) 0#(.int (c:Int)) (some (.own (.lst ((p::q).map iL)))) 0#(iL p))=.ok (kK (sD st.1)) (v8 R none (some (.own (bH (q.map (λr=>rc r p c)++st.2.filter λr=>ao r c==0)))) 0#(.int (c:Int)) (some (.own (.lst ((p::q).map iL)))) 0#(iL p)):=rfl;have a1:=j8 (cs:=[7,6]) (g:=aR 2 (aC (ae [] 7) (aC (ae [] 6) aT))) (t:=aG) (el:=cF (aQ (aa 7) (aQ jB bS))) ii rfl dc;show(wN _).bind _=_;unfold wN;rw[sj,m9,a1];simp only[dR,vP,si];rw[dd];rfl
  rw[bq kd];have hw:(sD (st.1.map λx=>(x.1,rc x.2 p c))).length<Wd:=by rw[bV];simp[sD];lia
  show gz 1 (aa 3) (aa 5) _=.ok .next (v8 R (some (.own (.aA (sD (st.1.map (λx=>(x.1,rc x.2 p c))++[(c,p)]))))) _ _ _ _);rw[<-ps];generalize D.lst ((p::q).map iL)=PQ at*;generalize iL p=P at*;generalize bH (q.map (λr=>rc r p c)++st.2.filter λr=>ao r c==0)=Q at*;generalize sD (st.1.map λx=>(x.1,rc x.2 p c))=W at*;simp[gz,mX,aa,S.d,dz,hw]
theorem zdV(hn:n<=6)(hr:rows.length=n)(hl:∀r∈rows,r.length=n)(hb:∀r∈rows,∀i,(ao r i).natAbs<=16):oG [.pure (bH rows)]=some (.own (.aA (sD (gO rows n).1)),[.pure (bH rows)]):=by
 obtain⟨SZ,e,I⟩:=kJ (g:=ae [] 3) (b:=sB) (λc Z=>c<=n->∃s2 o3 o4 o5,(s2=.pure (bH (gO rows c).2)\/s2=.own (bH (gO rows c).2))/\Z=v8 (bH rows) (some (.own (.aA (sD (gO rows c).1)))) (some s2) o3 o4 o5) (bo 0 n) 0 (v8 (bH rows) (some (.own (.aA []))) 0#(bH rows) none none none) (λj=>⟨_,none,none,none,.inl rfl,rfl⟩) λi d Z hd I=>by obtain⟨hi,rfl⟩:=yC hd;rw[Q4]at I⊢;obtain⟨s2,o3,o4,o5,h2,rfl⟩:=I Z';obtain⟨s2',q4,q5,h2',e⟩:=zai hn hi Z' (wD hl hb i Z') (bH rows) s2 h2 o4 o5;rw[Int.zero_add];exact⟨_,_,rfl,e,λj=>⟨s2',_,q4,q5,h2',rfl⟩⟩
 have hlen:0+(bo 0 n).length=n:=#v[bo];rw[hlen]at I;obtain⟨s2,o3,o4,o5,h2,rfl⟩:=I (Wf _);have ln:bA (bH rows)=0#(.int (n:Int)):=by unfold bH;simp[bA,hr]
 have rn:=hJ n Z';rw[oG,HU];refine gP (T':=[0#(bH rows),none,some s2,o3,o4,o5,none,none]) ?_;generalize bH rows=Q at*;generalize sD (gO rows n).1=W at*;rw[bq (T':=[0#Q,some (.own (.aA [])),none,none,none,none,none,none]) #v[bw,aq,lE]];rw[bq (T':=v8 Q (some (.own (.aA []))) 0#Q none none none) #v[aq,aa]];have iq:bW (aE bA (ah 0)) (v8 Q (some (.own (.aA []))) 0#Q none none none)=.ok (bo 0 n) (v8 Q (some (.own (.aA []))) 0#Q none none none):=by simp[ah,ln,rn]
 refine(bq ((iy iq).trans e)).trans ?_;simp[kG]
def bO(bs:8#0)(i j:Nat):Int:=((M bs ((bs.map (·.1)).getD i 0) ((bs.map (·.1)).getD j 0):Nat):Int)
def cH(bs:8#0)(A:Int)(j:Nat):List Int:=((W7 bs.length).map λi=>bO bs i j).set j (bO bs j j-A)
theorem Ks(n:Nat)(f:Nat->Int)(hi:i<n):ao ((W7 n).map f) i=f i:=by unfold ao;rw[Wk,Wo,Qq hi];rfl
theorem AZ{bs:8#0}(hi:i<bs.length)(hj:j<bs.length):ao (cH bs A j) i=bO bs i j-if i=j then A else 0:=by
 unfold cH;by_cases q:i=j;.subst q;unfold ao;rw[Wk,Wh (~~~hi),if_pos rfl];rfl
 .have e:ao (((W7 bs.length).map λi=>bO bs i j).set j (bO bs j j-A)) i=ao ((W7 bs.length).map λi=>bO bs i j) i:=by unfold ao;rw[Wk,Wk,W4 λz=>q z.symm]
  rw[e,Ks _ _ hi,if_neg q];lia
theorem Kt(bs:8#0)(i j:Nat):0<=bO bs i j:=by unfold bO;lia
section
variable{bs:8#0}(R:bC h w bs)
theorem Ku(hi:i<bs.length):(bs.map (·.1)).getD i 0∈bs.map (·.1):=by rw[Wk,W2 (~~~hi)];exact WV _
include R
theorem qai(hi:i<bs.length)(j:Nat):bO bs i j<=16:=by have:=Kd R (Ku hi) ((bs.map (·.1)).getD j 0);unfold bO;lia
theorem Kv:(h:Int)*(w:Int)<=16/\0<(h:Int)*(w:Int):=by have h0:=R.h0;have w0:=R.w0;have h4:=R.h1;have w4:=R.w1;have:h*w<=4*4:=QZ h4 w4;have p:0<h*w:=Nat.mul_pos h0 w0;have e:((h*w:Nat):Int)=(h:Int)*(w:Int):=Q8 _ _;lia
theorem wO(hj:j<bs.length):∀i,(ao (cH bs ((h:Int)*(w:Int)) j) i).natAbs<=16:=λi=>by
 by_cases hi:i<bs.length;.rw[AZ hi hj];have:=qai R hi j;have:=Kt bs i j;have:=Kv R;split<;>lia
 .rw[AJ (by simp[cH];lia)];exact Qc _
theorem Kw(hi:i<bs.length):sN bs.length (bO bs i)=(h:Int)*(w:Int):=by
 obtain⟨b,hb,e1,_,e2⟩:=j3 (Ku hi);obtain⟨b1,b2⟩:=R.bM b hb;have nd:=i5 R;have cnt:∀tx:Tx,(∀n∈tx,n∈bs.map (·.1))->sN bs.length (λj=>((tx.count ((bs.map (·.1)).getD j 0):Nat):Int))=tx.length:=λtx=>by induction tx with|nil=>intro _;exact qe λj y=>by simp|cons x r ih=>
   intro hx;have hxm:=hx x Wc;obtain⟨j0,hj0,ej⟩:=QG hxm;have qaj:j0<bs.length:= ~~~hj0;have g0:(bs.map (·.1)).getD j0 0=x:=by rw[Wk,W2 hj0];exact ej
   have e:sN bs.length (λj=>(((x::r).count ((bs.map (·.1)).getD j 0):Nat):Int))=sN bs.length (λj=>((r.count ((bs.map (·.1)).getD j 0):Nat):Int))+sN bs.length λj=>if j=j0 then 1 else 0:=by
    rw[<-lT];refine hZ λj hj=>?_;rw[UD];by_cases q:j=j0;.subst q;rw[g0];simp
    .have:¬x=(bs.map (·.1)).getD j 0:=λz=>q (by
      have z2:(bs.map (·.1)).getD j 0=(bs.map (·.1)).getD j0 0:=by rw[<-z,g0]
      have m3:j<(bs.map (·.1)).length:= ~~~hj;rw[Wk,Wk,W2 m3,W2 hj0]at z2;have z3:(bs.map (·.1))[j]=(bs.map (·.1))[j0]:=z2;have up:=List.pairwise_iff_getElem.mp R.up;by_cases l1:j<j0;.have:=up j j0 m3 hj0 l1;lia
      .by_cases l2:j0<j;.have:=up j0 j hj0 m3 l2;lia
       .lia);have e0:(x==(bs.map (·.1)).getD j 0)=false:=beq_false_of_ne this;rw[e0,if_neg q];simp
   rw[e,ih λn hn=>hx n (W8 _ hn),oH (k:=j0) qaj λi y q=>#v[q]];simp
 have e3:bO bs i=λj=>((b.2.flatten.count ((bs.map (·.1)).getD j 0):Nat):Int):=by funext j;unfold bO M;rw[e2]
 rw[e3,cnt b.2.flatten λn hn=>by obtain⟨r,hr,hnr⟩:=List.mem_flatten.mp hn;exact(b2 r hr).2 n hnr];have fl:∀(L:List Tx),(∀r∈L,r.length=w)->L.flatten.length=L.length*w:=λL=>by induction L with|nil=>intro _;simp|cons a l ih=>intro hL;rw[QO,Qn,ih λr hr=>hL r (W8 _ hr),hL a Wc,WF,JA];lia
 rw[fl b.2 λr hr=>(b2 r hr).1,b1,Q8]
end
abbrev t7(ru tb ar:D)(rows:List D)(o4:Option S)(o5:Option S):Dl:=[0#ru,0#tb,0#ar,some (.own (.lst rows)),o4,o5,none]
abbrev A0:DS:=ay (aq (aK [6] (aU (aa 1)) (ae [] 6) aG (ag ax 6 (ah 4))) (ae [] 5)) (ay (lz 5 (aa 4) (aB jh (ag ax 5 (ah 4)) (ah 2))) (de 3 (aa 5)))
theorem zaf{bs:8#0}(R:bC h w bs)(hj:j<bs.length)(rows:List D)(oJ:rows.length<=1000)(A:Int)(o5:Option S):∃q5,A0 (t7 (aw h w bs) (tb (bs.map (·.1)) (M bs)) (.int A) rows 0#(.int (j:Int)) o5)=.ok .next (t7 (aw h w bs) (tb (bs.map (·.1)) (M bs)) (.int A) (rows++[iL (cH bs A j)]) 0#(.int (j:Int)) q5):=by
 have n1:=R.n1;have hl:(bs.map (·.1)).length=bs.length:=by simp
 have c:=eE (cs:=[6]) (g:=ae [] 6) (t:=aG) (el:=ag ax 6 (ah 4)) (λt=>D.tup (aH (bs.map (·.1)) (M bs t))) (λt=>D.int ((M bs t ((bs.map (·.1)).getD j 0):Nat):Int)) (t7 (aw h w bs) (tb (bs.map (·.1)) (M bs)) (.int A) rows 0#(.int (j:Int)) o5) (bs.map (·.1)) [] (by rw[bV];simp;lia) (λt ht=>by have ix:=wJ (bs.map (·.1)) (M bs t) (i:=j) Z';refine⟨[0#(aw h w bs),0#(tb (bs.map (·.1)) (M bs)),0#(.int A),some (.own (.lst rows)),0#(.int (j:Int)),o5,0#(.tup (aH (bs.map (·.1)) (M bs t)))],_,.pure (.int ((M bs t ((bs.map (·.1)).getD j 0):Nat):Int)),[0#(aw h w bs),0#(tb (bs.map (·.1)) (M bs)),0#(.int A),some (.own (.lst rows)),0#(.int (j:Int)),o5,0#(.tup (aH (bs.map (·.1)) (M bs t)))],rfl,rfl,?_,rfl,rfl⟩;generalize D.tup (aH (bs.map (·.1)) (M bs t))=Q at*;generalize tb (bs.map (·.1)) (M bs)=TB at*;generalize aw h w bs=ru at*;generalize((M bs t ((bs.map (·.1)).getD j 0):Nat):Int)=x at*;simp[ag,aP,ah,ix]);have eY:((bs.map (·.1)).map λt=>D.int ((M bs t ((bs.map (·.1)).getD j 0):Nat):Int))=((W7 bs.length).map λi=>bO bs i j).map D.int:=by rw[<-AS (λt=>D.int ((M bs t ((bs.map (·.1)).getD j 0):Nat):Int)),hl,Wn];rfl
 rw[eY]at c;have iq:aU (aa 1) (t7 (aw h w bs) (tb (bs.map (·.1)) (M bs)) (.int A) rows 0#(.int (j:Int)) o5)=.ok ((bs.map (·.1)).map λt=>D.tup (aH (bs.map (·.1)) (M bs t))) (t7 (aw h w bs) (tb (bs.map (·.1)) (M bs)) (.int A) rows 0#(.int (j:Int)) o5):=by simp[eF,aa,S.d,tb]
 have cm:=j8 (cs:=[6]) (g:=ae [] 6) (t:=aG) (el:=ag ax 6 (ah 4)) iq rfl c;have k1:aq (aK [6] (aU (aa 1)) (ae [] 6) aG (ag ax 6 (ah 4))) (ae [] 5) (t7 (aw h w bs) (tb (bs.map (·.1)) (M bs)) (.int A) rows 0#(.int (j:Int)) o5)=.ok .next (t7 (aw h w bs) (tb (bs.map (·.1)) (M bs)) (.int A) rows 0#(.int (j:Int)) (some (.own (iL ((W7 bs.length).map λi=>bO bs i j))))):=by show(aK _ _ _ _ _ _).bind _=_;rw[cm];rfl
 refine⟨0#(iL (cH bs A j)),?_⟩;rw[A0,bq k1];have ix:=nF (r:=(W7 bs.length).map λi=>bO bs i j) (c:=j) (~~~hj);rw[Ks _ _ hj]at ix;have sb:jh (.int (bO bs j j)) (.int A)=0#(.int (bO bs j j-A)):=rfl;have eS:(((W7 bs.length).map λi=>bO bs i j).map D.int).set j (.int (bO bs j j-A))=(cH bs A j).map D.int:=by unfold cH;rw[List.map_set]
 have eI:iL ((W7 bs.length).map λi=>bO bs i j)=.lst (((W7 bs.length).map λi=>bO bs i j).map D.int):=rfl;have eJ:iL (cH bs A j)=.lst ((cH bs A j).map D.int):=rfl;have hN:fJ (((W7 bs.length).map λi=>bO bs i j).map D.int).length (j:Int)=some j:=by unfold fJ;rw[if_pos Z',if_pos (~~~hj)];simp
 have hz:rows.length<Wd:=by rw[bV];lia
 rw[eI]at ix⊢;rw[eJ];clear c iq cm k1 eY;generalize tb (bs.map (·.1)) (M bs)=TB at*;generalize aw h w bs=ru at*;generalize((W7 bs.length).map λi=>bO bs i j).map D.int=X1 at*;generalize(cH bs A j).map D.int=X2 at*;generalize bO bs j j-A=x2 at*;generalize bO bs j j=x1 at*;rw[bq (T':=t7 ru TB (.int A) rows 0#(.int (j:Int)) (some (.own (.lst X2)))) (by simp[lz,gL,putL,aa,ag,aP,ah,S.d,ix,sb,hN,eS])];simp[de,gL,putL,aa,S.d,hz]
theorem Kx{bs:8#0}(R:bC h w bs):jz [.pure (aw h w bs)]=some (.own (bH ((W7 bs.length).map (cH bs ((h:Int)*(w:Int))))),[.pure (aw h w bs)]):=by
 have n1:=R.n1;have gt:=tO R;have w4:=R.w1;obtain⟨i0,i1,_⟩:=fF h w bs;have ml:=AQ (h:Int) (w:Int) Z' Z';generalize(h:Int)*(w:Int)=A at*;obtain⟨SZ,e,o4,o5,rfl⟩:=kJ (g:=ae [] 4) (b:=A0) (λi Z=>∃o4 o5,Z=t7 (aw h w bs) (tb (bs.map (·.1)) (M bs)) (.int A) (((W7 i).map (cH bs A)).map iL) o4 o5) (bo 0 bs.length) 0 (t7 (aw h w bs) (tb (bs.map (·.1)) (M bs)) (.int A) [] none none) ⟨none,none,rfl⟩ λi d Z hd⟨o4,o5,e⟩=>by subst e;obtain⟨hi,rfl⟩:=yC hd;rw[Q4,Int.zero_add];obtain⟨q5,e⟩:=zaf R hi (((W7 i).map (cH bs A)).map iL) Re A o5;refine⟨_,_,rfl,e,0#(.int (i:Int)),q5,?_⟩;rw[U5,WS,WS];rfl
 have hlen:0+(bo 0 bs.length).length=bs.length:=#v[bo];rw[hlen]at e;have ln:bA (tb (bs.map (·.1)) (M bs))=0#(.int (bs.length:Int)):=by unfold tb;rw[wI];simp
 have rn:=hJ bs.length Z';rw[jz,HX];refine gP (T':=[0#(aw h w bs),0#(tb (bs.map (·.1)) (M bs)),0#(.int A),none,o4,o5,none]) ?_;have eR:bH ((W7 bs.length).map (cH bs A))=.lst (((W7 bs.length).map (cH bs A)).map iL):=rfl;rw[eR];generalize((W7 bs.length).map (cH bs A)).map iL=Q at*;generalize tb (bs.map (·.1)) (M bs)=TB at*;generalize aw h w bs=ru at*;rw[bq (T':=[0#ru,0#TB,none,none,none,none,none]) #v[bw,aq,au,aW,bB,bx,aa,bb,gt,aL]];rw[bq (T':=[0#ru,0#TB,0#(.int A),none,none,none,none]) #v[aq,ag,aP,ah,i0,i1,ml]];rw[bq (T':=t7 ru TB (.int A) [] none none) #v[aq]];have iq:bW (aE bA (ah 1)) (t7 ru TB (.int A) [] none none)=.ok (bo 0 bs.length) (t7 ru TB (.int A) [] none none):=by simp[ah,ln,rn]
 refine(bq ((iy iq).trans e)).trans ?_;simp[kG]
theorem ziy(s:dJ)(c:Nat):dw (sD s.1) (.inl (c:Int))=(eV s c).map iL:=by
 unfold dw sD eV;rw[Jl,JT,JT];have:((λkv:a7×D=>decide (kv.1=.inl (c:Int)))∘λx:Nat×List Int=>((Sum.inl (x.1:Int):a7),iL x.2))=λx=>decide (x.1=c):=by funext x;show decide ((Sum.inl (x.1:Int):a7)=.inl (c:Int))=decide (x.1=c);rw[J9,decide_eq_true_eq,decide_eq_true_eq];exact⟨λz=>by injection z with z;lia,λz=>by rw[z]⟩
 rw[this];rfl
theorem qak(s:dJ)(c:Nat):g8 true (.int (c:Int)) (.aA (sD s.1))=0#(.bl (eV s c).isNone):=by show some (S.pure (.bl !(dw (sD s.1) (.inl (c:Int))).isSome))=_;rw[ziy];cases eV s c<;>rfl
theorem Ky(s:dJ)(c:Nat):hU (cy (sD s.1)) (.int (c:Int))=(eV s c).map iL:=by
 unfold hU cy sD eV;rw[Wn,Jl,JT,JT];have:((λq:D×D=>bc q.1 (.int (c:Int)))∘(λp:a7×D=>(vW p.1,p.2))∘λx:Nat×List Int=>((Sum.inl (x.1:Int):a7),iL x.2))=λx=>decide (x.1=c):=by funext x;show((x.1:Int)==(c:Int))=decide (x.1=c);rw[J9,beq_iff_eq,decide_eq_true_eq];lia
 rw[this];rfl
theorem Kz(s:dJ)(c:Nat):iX (jx (.int (c:Int))) (cy (sD s.1)) (.int (c:Int))=true:=by
 have h0:jx (.int (c:Int))=false:=rfl;rw[h0];unfold iX;have h1:(cy (sD s.1)).all (λq=>iW false q.1)=true:=by rw[List.all_eq_true];intro q hq;unfold cy sD at hq;rw[Wn]at hq;obtain⟨x,_,rfl⟩:=Wj.mp hq;rfl
 rw[h1];rfl
theorem qal(s:dJ)(c:Nat):lL false (.int (c:Int)) (.dic (cy (sD s.1)))=0#(.bl (eV s c).isSome):=by simp only[lL,Kz,if_true,Ky];cases eV s c<;>rfl
theorem qam(h:eV s c=some r):ni (.dic (cy (sD s.1))) (.int (c:Int))=0#(iL r):=by simp only[ni,Kz,if_true,Ky,h];rfl
def nG(t b:Int):D:=.tup [.int (t.fdiv (WY t b:Nat)),.int (b.fdiv (WY t b:Nat))]
theorem zjw{k:Nat}(hk:k<=7000)(t b:Int)(hb:0<b)(hB:b.natAbs<2^k):nv [.pure (.int t),.pure (.int b)]=some (.pure (nG t b),[.pure (.int t),.pure (.int b)]):=by
 have g:=tQ t b hB Z';have gp:0<WY t b:=Int.gcd_pos_of_ne_zero_right _ Z';have gl:WY t b<=b.natAbs:=Int.gcd_le_natAbs_right t Z';have hz:((WY t b:Nat):Int).natAbs<nq:=by have:2^k<=2^8000:=WU U' Z';show _<2^8000;lia
 have d1:=oE t ((WY t b:Nat):Int) Z' hz;have d2:=oE b ((WY t b:Nat):Int) Z' hz;rw[nv,HY];unfold nG;generalize t.fdiv ((WY t b:Nat):Int)=x1 at*;generalize b.fdiv ((WY t b:Nat):Int)=x2 at*;generalize((WY t b:Nat):Int)=gi at*;refine kY (T':=[0#(.int t),0#(.int b),0#(.int gi)]) ?_;rw[bq (T':=[0#(.int t),0#(.int b),0#(.int gi)]) #v[bw,aq,au,aW,bB,bx,aa,bb,g,aL]];simp[ag,aP,ah,d1,d2]
abbrev fQ(ru:D)(n:Nat)(sl fr:Option S)(w:Int)(o5 o6 o7 o8:Option S):Dl:=[0#ru,0#(.int (n:Int)),sl,fr,0#(.int w),o5,o6,o7,o8,none]
abbrev wB:DS:=aq (aB fP (ag cD 4 (aj (aE nj (aj (ag ax 6 (ah 5)))))) (aj (au gN [.val (aa 4),.val (ag ax 6 (ah 5))]))) (ae [] 4)
theorem KA{n:Nat}(hn:n<=6)(ru:D)(sl fr o7 o8:Option S):∀(l:List (Nat×List Int))(w e:Nat)(o5 o6:Option S),(∀x∈l,x.1<n/\x.2.length=n/\ao x.2 x.1≠0/\∀y∈x.2,y.natAbs<2^320)->0<w->w<=2^e->e+320*l.length<=6000->∃q5 q6,forL (aR 2 (aC (ae [] 5) (aC (ae [] 6) aT))) wB (l.map λx=>D.tup [.int (x.1:Int),iL x.2]) (fQ ru n sl fr (w:Int) o5 o6 o7 o8)=.ok .next (fQ ru n sl fr ((wt l w:Nat):Int) q5 q6 o7 o8)
 |[],w,e,o5,o6,_,_,_,_=>⟨o5,o6,rfl⟩|x::l,w,e,o5,o6,hl,hw,hwe,he=>by
  obtain⟨h1,h2,h3,h4⟩:=hl x Wc;have hx:(ao x.2 x.1).natAbs<2^320:=h4 _ (wu Z');have lc:JZ w (ao x.2 x.1).natAbs<=2^(e+320):=by refine Wq (JL _ _) ?_;rw[Nat.pow_add];exact QZ hwe (QV hx)
  rw[WF]at he;obtain⟨q5,q6,e2⟩:=KA hn ru sl fr o7 o8 l (JZ w (ao x.2 x.1).natAbs) (e+320) 0#(.int (x.1:Int)) 0#(iL x.2) (λy hy=>hl y (W8 _ hy)) (Nat.lcm_pos hw Z') lc Z';refine⟨q5,q6,?_⟩;have ix:=nF (r:=x.2) (c:=x.1) Z';have ab:nj (.int (ao x.2 x.1))=0#(.int ((ao x.2 x.1).natAbs:Int)):=by show some (S.pure (.int (if ao x.2 x.1<0 then-ao x.2 x.1else ao x.2 x.1)))=_;congr 3;split<;>lia
  have w6:(w:Int).natAbs<2^6001:=by have:2^e<2^6001:=Jb U' Z';lia
  have x6:((ao x.2 x.1).natAbs:Int).natAbs<2^6001:=by have:2^320<=2^6001:=WU U' U';lia
  have ml:=nE (w:Int) ((ao x.2 x.1).natAbs:Int) w6 x6 U';have g:=tQ (w:Int) (ao x.2 x.1) hx U';have gp:0<WY (w:Int) (ao x.2 x.1):=Int.gcd_pos_of_ne_zero_right _ h3;have gl:WY (w:Int) (ao x.2 x.1)<=(ao x.2 x.1).natAbs:=Int.gcd_le_natAbs_right _ h3;have hz:((WY (w:Int) (ao x.2 x.1):Nat):Int).natAbs<nq:=by have:2^320<=2^8000:=WU U' U';show _<2^8000;lia
  have dv:=oE ((w:Int)*((ao x.2 x.1).natAbs:Int)) ((WY (w:Int) (ao x.2 x.1):Nat):Int) Z' hz;have el:((w:Int)*((ao x.2 x.1).natAbs:Int)).fdiv ((WY (w:Int) (ao x.2 x.1):Nat):Int)=((JZ w (ao x.2 x.1).natAbs:Nat):Int):=by rw[<-Q8,<-Int.ofNat_fdiv];rfl
  rw[el]at dv;rw[We,j7 (T':=fQ ru n sl fr (w:Int) 0#(.int (x.1:Int)) 0#(iL x.2) o7 o8) (S':=fQ ru n sl fr ((JZ w (ao x.2 x.1).natAbs:Nat):Int) 0#(.int (x.1:Int)) 0#(iL x.2) o7 o8) rfl (by clear el e2 hz gl gp lc;generalize((JZ w (ao x.2 x.1).natAbs:Nat):Int)=y1 at*;generalize(w:Int)*((ao x.2 x.1).natAbs:Int)=y2 at*;generalize((WY (w:Int) (ao x.2 x.1):Nat):Int)=y3 at*;generalize((ao x.2 x.1).natAbs:Int)=y4 at*;generalize ao x.2 x.1=y5 at*;generalize iL x.2=Q at*;generalize(w:Int)=wi at*;simp[wB,aq,ag,aP,ah,aa,S.d,ix,ab,ml,au,aW,bB,bx,bb,g,aL,dv])];exact e2
theorem zbl(h:eV s i=some r):(i,r)∈s.1:=by
 unfold eV at h;obtain⟨x,h1,h2⟩:=WG.mp h;have h3:=List.mem_of_find?_eq_some h1;have h4:x.1=i:=by simpa using List.find?_some h1
 rw[<-h2,<-h4];exact h3
theorem zgY:(eV s i).isNone=true↔¬dS s i:=by
 constructor;.rintro h⟨r,hr⟩;unfold eV at h;rw[Option.isNone_iff_eq_none,Option.map_eq_none_iff]at h;have:=List.find?_eq_none.mp h _ hr;simp at this
 .intro h;rw[IX h];rfl
def ib(bs:8#0)(A:Int):List (List Int):=(W7 bs.length).map (cH bs A)
abbrev dF(bs:8#0)(A:Int):dJ:=gO (ib bs A) bs.length
section
variable{bs:8#0}(R:bC h w bs)(h6:bs.length<=6)
include R
theorem KC:Gj bs.length bs.length (mB bs.length) (ib bs ((h:Int)*(w:Int))) (dF bs ((h:Int)*(w:Int))):=by
 refine wD (λr hr=>?_) (λr hr=>?_) bs.length (Wf _);.obtain⟨j,hj,rfl⟩:=Wj.mp hr;simp[cH]
 .obtain⟨j,hj,rfl⟩:=Wj.mp hr;exact wO R (Ws.mp hj)
omit R in theorem KD(v:Nat->Int)(A:Int):(∀r∈ib bs A,dot bs.length (ao r) v=0)↔oI bs.length (bO bs) A v:=zbj #v[ib] λj hj i hi=>by
 have e:(ib bs A).getD j []=cH bs A j:=by unfold ib;rw[Wk,Wo,Qq hj];rfl
 rw[e,AZ hi hj] v
end
abbrev vB:DS:=bI (az (aB (lL false) (aa 5) (ah 2))) (ay (aq (ag ni 2 (ah 5)) (ae [] 6)) (de 7 (aB fP (aB cD (aE pI (aj (ag ax 6 (aj (ag ax 3 1#0))))) (ah 4)) (aj (ag ax 6 (ah 5)))))) (de 7 (aa 4))
theorem qan:(2:Nat)^320<2^2000/\(2:Nat)^1920<2^2000:=⟨Jb U' U',Jb U' U'⟩
theorem zds(G:Gj n n m f7 s)(hm:m<2^320)(hf:f<n)(hw:w<=2^1920)(ru:D)(hi:i<n)(L:List D)(hL:L.length<=1000)(o6 o8:Option S):∃q6,vB (fQ ru n 0#(.dic (cy (sD s.1))) (some (.own (.lst [.int (f:Int)]))) (w:Int) 0#(.int (i:Int)) o6 (some (.own (.lst L))) o8)=.ok .next (fQ ru n 0#(.dic (cy (sD s.1))) (some (.own (.lst [.int (f:Int)]))) (w:Int) 0#(.int (i:Int)) q6 (some (.own (.lst (L++[.int (vv s f w i)])))) o8):=by
 have wQ:=qal s i;have hz:L.length<Wd:=by rw[bV];lia
 cases hr:eV s i with|none=>
 rw[hr]at wQ;have ev:vv s f w i=w:=by unfold vv;rw[hr]
 rw[ev];refine⟨o6,?_⟩;generalize D.dic (cy (sD s.1))=Q at*;generalize(w:Int)=wi at*;simp[vB,az,aa,ah,S.d,wQ,de,gL,putL,hz]|some r=>
 rw[hr]at wQ;have oA:=zbl hr;have hl:=G.l1 _ oA;have h0:=G.pv _ oA;have hb:=G.b1 _ oA;have ev:vv s f w i=(-ao r f*w).fdiv (ao r i):=by unfold vv;rw[hr]
 have ix:=qam hr;have i6:=nF (r:=r) (c:=i) %[hl|hi];have if_:=nF (r:=r) (c:=f) %[hl|hf];have i3:ax (.lst [.int (f:Int)]) (.int 0)=0#(.int (f:Int)):=rfl;have ng:pI (.int (ao r f))=0#(.int (-ao r f)):=rfl;obtain⟨p1,p2⟩:=qan;have b1:(ao r f).natAbs<2^2000:=Ub (WC (hb f) hm) p1;have ml:=nE (k:=2000) (-ao r f) (w:Int) %[Int.natAbs_neg|b1] %[Q5|WC hw p2] U';have b2:(ao r i).natAbs<nq:=by have:2^320<=2^8000:=WU U' U';show _<2^8000;exact Wz (WC (hb i) hm) this
 have dv:=oE (-ao r f*(w:Int)) (ao r i) h0 b2;refine⟨0#(iL r),?_⟩;rw[ev];clear ev b1 b2;generalize(-ao r f*(w:Int)).fdiv (ao r i)=y0 at*;generalize-ao r f*(w:Int)=y1 at*;generalize-ao r f=y2 at*;generalize ao r f=y3 at*;generalize ao r i=y4 at*;generalize iL r=Q6 at*;generalize D.dic (cy (sD s.1))=Q at*;generalize(w:Int)=wi at*;simp[vB,az,aq,aa,ah,ag,aP,S.d,wQ,ix,i6,if_,i3,ng,ml,dv,de,gL,putL,hz]
def fG(s:dJ)(n:Nat):List Nat:=(W7 n).filter λc=>(eV s c).isNone
theorem wR:c∈fG s n↔c<n/\¬dS s c:=by unfold fG;rw[List.mem_filter,List.mem_range,zgY]
theorem zcC(s:dJ)(hn:n<=26)(ru:D):bX [5] (ae [] 5) (az (aB (g8 true) (aa 5) (ah 2))) (aa 5) ((W7 n).map λk:Nat=>D.int (k:Int)) [0#ru,0#(.int (n:Int)),some (.own (.aA (sD s.1))),none,none,none,none,none,none,none] []=.ok ((fG s n).map λk:Nat=>D.int (k:Int)) [0#ru,0#(.int (n:Int)),some (.own (.aA (sD s.1))),none,none,none,none,none,none,none]:=by
 have:=qg (cs:=[5]) (g:=ae [] 5) (t:=az (aB (g8 true) (aa 5) (ah 2))) (el:=aa 5) (λk:Nat=>D.int (k:Int)) (λk:Nat=>D.int (k:Int)) (λc=>(eV s c).isNone) [0#ru,0#(.int (n:Int)),some (.own (.aA (sD s.1))),none,none,none,none,none,none,none] (W7 n) [] (by rw[bV];simp;lia) λc hc=>by
  have i1:=qak s c;refine⟨[0#ru,0#(.int (n:Int)),some (.own (.aA (sD s.1))),none,none,0#(.int (c:Int)),none,none,none,none],[0#ru,0#(.int (n:Int)),some (.own (.aA (sD s.1))),none,none,0#(.int (c:Int)),none,none,none,none],.pure (.int (c:Int)),[0#ru,0#(.int (n:Int)),some (.own (.aA (sD s.1))),none,none,0#(.int (c:Int)),none,none,none,none],rfl,?_,rfl,?_,rfl,rfl⟩;.generalize D.aA (sD s.1)=Q at*;generalize(eV s c).isNone=b at*;simp[az,aa,ah,S.d,i1]
  .simp[aa]
 exact this
theorem A1(xs:List Int):fD (.lst (xs.map D.int))=0#(.int xs.sum):=by unfold fD;simp only[Lake.ints_map]
theorem KG{B:Nat}(h:∀i,i<n->(v i).natAbs<=B):(sN n v).natAbs<=n*B:=by
 have h1:=AI v n;have h2:sN n (λi=>((v i).natAbs:Int))<=sN n λj=>(B:Int):=IJ λi hi=>by have:=h i hi;lia
 have h3:∀n:Nat,sN n (λj=>(B:Int))=((n*B:Nat):Int):=λn=>by induction n with|zero=>simp[sN]|succ n ih=>show sN n (λj=>(B:Int))+(B:Int)=_;rw[ih,JA];lia
 rw[h3]at h2;lia
structure wU(bs:8#0)(A:Int)(f:Nat)(v:Nat->Int):Prop where
 nn:∀i,i<bs.length->0<=v i
 st:oI bs.length (bO bs) A v
 pos:0<sN bs.length v
 le:∀i,i<bs.length->(v i).natAbs<=2^960
theorem zlb{bs:8#0}(R:bC h w bs):(∀x∈(dF bs ((h:Int)*(w:Int))).1,∀i,(ao x.2 i).natAbs<=mB (dF bs ((h:Int)*(w:Int))).1.length)/\∀r∈(dF bs ((h:Int)*(w:Int))).2,∀i,(ao r i).natAbs<=mB (dF bs ((h:Int)*(w:Int))).1.length:=I_ λr hr=>by obtain⟨j,hj,rfl⟩:=Wj.mp hr;simp[cH] (λr hr=>by obtain⟨j,hj,rfl⟩:=Wj.mp hr;exact wO R (Ws.mp hj)) bs.length (Wf _)
theorem mB5:mB 5<2^160:=by decide
theorem zj3{bs:8#0}(R:bC h w bs)(h6:bs.length<=6)(hf:f<bs.length)(fE:¬dS (dF bs ((h:Int)*(w:Int))) f)(only:∀j,j<bs.length->j≠f->dS (dF bs ((h:Int)*(w:Int))) j):0<wt (dF bs ((h:Int)*(w:Int))).1 1/\wt (dF bs ((h:Int)*(w:Int))).1 1<=2^1920/\(∀x∈(dF bs ((h:Int)*(w:Int))).1,ao x.2 x.1 ∣((wt (dF bs ((h:Int)*(w:Int))).1 1:Nat):Int))/\wU bs ((h:Int)*(w:Int)) f (vv (dF bs ((h:Int)*(w:Int))) f ((wt (dF bs ((h:Int)*(w:Int))).1 1:Nat):Int)):=by
 have G:=KC R;have B:=(zlb R).1;have hA:=(Kv R).2;have hr:∀i,i<bs.length->sN bs.length (bO bs i)=(h:Int)*(w:Int):=λi hi=>Kw R hi;have hk:=λv=>KD (bs:=bs) v ((h:Int)*(w:Int));generalize(h:Int)*(w:Int)=A at*;generalize dF bs A=s at*;have mle:mB bs.length<=2^320:=QV (WC (tR h6) AX);have ls:s.1.length<=6:=by
  have:=tL G.nd (ts:=W7 bs.length) λx hx=>by obtain⟨y,hy,rfl⟩:=Wj.mp hx;exact Ws.mpr (G.kc y hy)
  simp at this;lia
 have wp:=I0 s.1 1 (λx hx=>G.pv x hx) U';have wl:wt s.1 1<=2^1920:=by have h1:=AN (m:=2^320) s.1 1 λx hx=>Wq (G.b1 x hx x.1) mle;rw[Nat.one_mul,<-Nat.pow_mul]at h1;exact Wq h1 (WU U' Z')
 have wd:∀x∈s.1,ao x.2 x.1 ∣((wt s.1 1:Nat):Int):=λx hx=>by have:=(IZ s.1 1).2 x hx;exact Int.natAbs_dvd_natAbs.mp %[Q5|this]
 have ls5:s.1.length<=5:=by
  have:=tL (l:=f::s.1.map (·.1)) (ts:=W7 bs.length) (List.nodup_cons.mpr ⟨λz=>by obtain⟨y,hy,e⟩:=Wj.mp z;exact fE ⟨y.2,by rw[<-e];exact hy⟩,G.nd⟩) λx hx=>by
   rcases Wv.mp hx with rfl|hx;.exact Ws.mpr hf
   .obtain⟨y,hy,rfl⟩:=Wj.mp hx;exact Ws.mpr (G.kc y hy)
  simp at this;lia
 have m5:mB s.1.length<=2^160:=QV (WC (tR ls5) mB5);have KH:wt s.1 1<=2^800:=by have h1:=AN (m:=2^160) s.1 1 λx hx=>Wq (B x hx x.1) m5;rw[Nat.one_mul,<-Nat.pow_mul]at h1;exact Wq h1 (WU U' Z')
 have nn:=qab G (Kt bs) hA hr hk hf fE only wd Z';refine⟨wp,wl,wd,nn,(hk _).mp (IY G hf fE only wd),?_,λi hi=>?_⟩
 .have h1:=AG nn;by_cases q:sN bs.length (vv s f ((wt s.1 1:Nat):Int))=0;.have:=AH nn q f hf;rw[tK fE]at this;lia
  .lia
 .by_cases q:i=f;.subst q;rw[tK fE,Q5];exact Wq KH (WU U' U')
  .obtain⟨r,kW⟩:=only i hi q;have e:=AM G (f:=f) kW (wd _ kW);have:=IP (G.pv _ kW) e;refine Wq this ?_;rw[Jk,Int.natAbs_neg,Q5,show 960=160+800 by decide,Nat.pow_add];exact QZ (Wq (B _ kW f) m5) KH
theorem zdO(h6:n<=6)(h:∀i,i<n->(v i).natAbs<=2^2240):(sN n v).natAbs<2^2250:=by
 have e:(2:Nat)^2250=2^2240*2^10:=by rw[<-Nat.pow_add]
 have p:0<(2:Nat)^2240:=UE _;rw[e];generalize(2:Nat)^2240=X at*;have h1:=KG (n:=n) (v:=v) h;have h2:n*X<=6*X:=QN _ h6;lia
abbrev A2:DS:=ay (aq 3#1 (ae [] 4)) (ay (ck (jy (sH 2)) (aR 2 (aC (ae [] 5) (aC (ae [] 6) aT))) wB) (ay (aq (il bS) (ae [] 7)) (ay (ck (bW (aa 1)) (ae [] 5) vB) (ay (aq (aE fD (ah 7)) (ae [] 8)) (bf (aE bU (aj (aK [9] (aU (aa 7)) (ae [] 9) aG (au nv [.val (aa 9),.val (aa 8)])))))))))
def oN(n:Nat)(v:Nat->Int):D:=.tup ((W7 n).map λi=>nG (v i) (sN n v))
def KI:Nat:=2^320
def KJ:Nat:=2^1920
def qao:Nat:=2^2240
theorem z8z(G:Gj n n m f7 s)(hm:m<KI)(h6:n<=6)(hf:f<n)(wl:wt s.1 1<=KJ)(hV:vv s f ((wt s.1 1:Nat):Int)=v)(Kp:0<sN n v)(Kl:∀i,i<n->(v i).natAbs<=qao)(ru:D):∃SZ,A2 [0#ru,0#(.int (n:Int)),some (.own (.aA (sD s.1))),some (.own (.lst [.int (f:Int)])),none,none,none,none,none,none]=.ok (.ret (.pure (oN n v))) SZ:=by
 have hx:∀x∈s.1,x.1<n/\x.2.length=n/\ao x.2 x.1≠0/\∀y∈x.2,y.natAbs<2^320:=λx hx=>⟨G.kc x hx,G.l1 x hx,G.pv x hx,λy hy=>by
 obtain⟨i,hi,rfl⟩:=QG hy;have e:ao x.2 i=x.2[i]:=by unfold ao;rw[Wk,W2 hi];rfl
 have h1:=G.b1 x hx i;rw[e]at h1;exact WC h1 hm⟩;have ls:s.1.length<=6:=by
  have:=tL G.nd (ts:=W7 n) λx hx=>by obtain⟨y,hy,rfl⟩:=Wj.mp hx;exact Ws.mpr (G.kc y hy)
  simp at this;lia
 obtain⟨q5,q6,e1⟩:=KA (n:=n) Z' ru 0#(.dic (cy (sD s.1))) (some (.own (.lst [.int (f:Int)]))) none none s.1 1 0 none none hx U' U' Z';generalize hW:wt s.1 1=W at*;obtain⟨SZ,e2,p5,p6,rfl⟩:=kJ (g:=ae [] 5) (b:=vB) (λi Z=>∃p5 p6,Z=fQ ru n 0#(.dic (cy (sD s.1))) (some (.own (.lst [.int (f:Int)]))) (W:Int) p5 p6 (some (.own (.lst (((W7 i).map v).map D.int)))) none) ((W7 n).map λk:Nat=>D.int (k:Int)) 0 (fQ ru n 0#(.dic (cy (sD s.1))) (some (.own (.lst [.int (f:Int)]))) (W:Int) q5 q6 (some (.own (.lst []))) none) ⟨q5,q6,rfl⟩ λi d Z hd⟨p5,p6,e⟩=>by
  subst e;have hi:i<n:=by have:=(W9.mp hd).1;simpa using this
  have BA:d=.int (i:Int):=by rw[Wo,Qq hi]at hd;simpa using hd.symm
  subst BA;rw[Q4];obtain⟨z6,e⟩:=zds G hm hf wl ru hi (((W7 i).map v).map D.int) Re p6 none;rw[hV]at e;refine⟨_,_,rfl,e,0#(.int (i:Int)),z6,?_⟩;rw[U5,WS,WS];rfl
 have hlen:0+((W7 n).map λk:Nat=>D.int (k:Int)).length=n:=by simp
 rw[hlen]at e2;have sm:=A1 ((W7 n).map v);rw[wG]at sm;have sb:=zdO h6 Kl;have fr:=eE (cs:=[9]) (g:=ae [] 9) (t:=aG) (el:=au nv [.val (aa 9),.val (aa 8)]) (λi:Nat=>D.int (v i)) (λi:Nat=>nG (v i) (sN n v)) (fQ ru n 0#(.dic (cy (sD s.1))) (some (.own (.lst [.int (f:Int)]))) (W:Int) p5 p6 0#(.lst (((W7 n).map v).map D.int)) 0#(.int (sN n v))) (W7 n) [] (by rw[bV];simp;lia) λi hi=>by have g:=zjw (k:=2250) U' (v i) (sN n v) Kp sb;refine⟨[0#ru,0#(.int (n:Int)),0#(.dic (cy (sD s.1))),some (.own (.lst [.int (f:Int)])),0#(.int (W:Int)),p5,p6,0#(.lst (((W7 n).map v).map D.int)),0#(.int (sN n v)),0#(.int (v i))],_,.pure (nG (v i) (sN n v)),[0#ru,0#(.int (n:Int)),0#(.dic (cy (sD s.1))),some (.own (.lst [.int (f:Int)])),0#(.int (W:Int)),p5,p6,0#(.lst (((W7 n).map v).map D.int)),0#(.int (sN n v)),0#(.int (v i))],rfl,rfl,?_,rfl,rfl⟩;generalize nG (v i) (sN n v)=FR at*;generalize D.lst (((W7 n).map v).map D.int)=VL at*;generalize D.dic (cy (sD s.1))=Q at*;generalize sN n v=SS at*;generalize v i=vi at*;simp[au,aW,bB,bx,aa,bb,g,aL]
 have eM:((W7 n).map λi:Nat=>D.int (v i))=((W7 n).map v).map D.int:=by rw[Wn];rfl
 rw[eM]at fr;have rn:=hJ n Z';rw[show bo 0 n=(W7 n).map λk:Nat=>D.int (k:Int)from by unfold bo;simp]at rn;refine⟨fQ ru n 0#(.dic (cy (sD s.1))) (some (.own (.lst [.int (f:Int)]))) (W:Int) p5 p6 0#(.lst (((W7 n).map v).map D.int)) 0#(.int (sN n v)),?_⟩;unfold A2;rw[bq (T':=fQ ru n (some (.own (.aA (sD s.1)))) (some (.own (.lst [.int (f:Int)]))) 1 none none none none) (by generalize D.lst [.int (f:Int)]=FF at*;generalize D.aA (sD s.1)=Q at*;simp[aq])];have it:jy (sH 2) (fQ ru n (some (.own (.aA (sD s.1)))) (some (.own (.lst [.int (f:Int)]))) 1 none none none none)=.ok (s.1.map λx=>D.tup [.int (x.1:Int),iL x.2]) (fQ ru n 0#(.dic (cy (sD s.1))) (some (.own (.lst [.int (f:Int)]))) 1 none none none none):=by
  have e:iY (cy (sD s.1))=s.1.map λx=>D.tup [.int (x.1:Int),iL x.2]:=by unfold iY cy sD;rw[Wn,Wn];rfl
  rw[<-e];rfl
 rw[bq ((iy it).trans e1)];rw[bq (T':=fQ ru n 0#(.dic (cy (sD s.1))) (some (.own (.lst [.int (f:Int)]))) (W:Int) q5 q6 (some (.own (.lst []))) none) (by generalize D.lst [.int (f:Int)]=FF at*;generalize D.dic (cy (sD s.1))=Q at*;simp[aq])];have i2:bW (aa 1) (fQ ru n 0#(.dic (cy (sD s.1))) (some (.own (.lst [.int (f:Int)]))) (W:Int) q5 q6 (some (.own (.lst []))) none)=.ok ((W7 n).map λk:Nat=>D.int (k:Int)) (fQ ru n 0#(.dic (cy (sD s.1))) (some (.own (.lst [.int (f:Int)]))) (W:Int) q5 q6 (some (.own (.lst []))) none):=by clear fr e2 e1 it;generalize D.lst [.int (f:Int)]=FF at*;generalize D.dic (cy (sD s.1))=Q at*;generalize((W7 n).map λk:Nat=>D.int (k:Int))=LL at*;simp[aa,rn]
 rw[bq ((iy i2).trans e2)];rw[bq (T':=fQ ru n 0#(.dic (cy (sD s.1))) (some (.own (.lst [.int (f:Int)]))) (W:Int) p5 p6 (some (.own (.lst (((W7 n).map v).map D.int)))) 0#(.int (sN n v))) (by clear fr e2 e1 it;generalize D.lst (((W7 n).map v).map D.int)=VL at*;generalize D.lst [.int (f:Int)]=FF at*;generalize D.dic (cy (sD s.1))=Q at*;generalize sN n v=SS at*;simp[aq,ah,S.d,sm])];have i7:aU (aa 7) (fQ ru n 0#(.dic (cy (sD s.1))) (some (.own (.lst [.int (f:Int)]))) (W:Int) p5 p6 (some (.own (.lst (((W7 n).map v).map D.int)))) 0#(.int (sN n v)))=.ok (((W7 n).map v).map D.int) (fQ ru n 0#(.dic (cy (sD s.1))) (some (.own (.lst [.int (f:Int)]))) (W:Int) p5 p6 0#(.lst (((W7 n).map v).map D.int)) 0#(.int (sN n v))):=by clear fr e2 e1 it;generalize D.lst [.int (f:Int)]=FF at*;generalize D.dic (cy (sD s.1))=Q at*;generalize sN n v=SS at*;generalize((W7 n).map v).map D.int=VL at*;simp[eF,aa,S.d]
 have cm:=j8 (cs:=[9]) (g:=ae [] 9) (t:=aG) (el:=au nv [.val (aa 9),.val (aa 8)]) i7 rfl fr;rw[zu,sj,m9,cm];rfl
theorem z8A(h6:n<=6)(ru BD:D){RW:D}(x2:ax ru (.int 2)=0#BD)(ln:bA BD=0#(.int (n:Int)))(A3:jz [.pure ru]=some (.own RW,[.pure ru]))(rP:oG [.pure RW]=some (.own (.aA (sD s.1)),[.pure RW]))(d:D)(SZ:Dl)(q:(ay (bI (az (aB eQ (aE bA (ah 3)) 1#1)) (bf (eD .aX)) bR) A2) [0#ru,0#(.int (n:Int)),some (.own (.aA (sD s.1))),some (.own (.lst ((fG s n).map λk:Nat=>D.int (k:Int)))),none,none,none,none,none,none]=.ok (.ret (.pure d)) SZ):jA [.pure ru]=some (.pure d,[.pure ru]):=by
 have fc:=zcC s (n:=n) Z' ru;have rn:=hJ n Z';rw[show bo 0 n=(W7 n).map λk:Nat=>D.int (k:Int)from by unfold bo;simp]at rn;rw[jA,HZ];refine gP (T':=SZ) ?_;rw[bq (T':=[0#ru,0#(.int (n:Int)),none,none,none,none,none,none,none,none]) (by clear fc q;simp[bw,aq,ag,aP,ah,x2,ln])];rw[bq (T':=[0#ru,0#(.int (n:Int)),some (.own (.aA (sD s.1))),none,none,none,none,none,none,none]) (by clear fc q;generalize D.aA (sD s.1)=Q at*;simp[aq,au,aW,bB,bx,aa,bb,A3,rP,aL,S.d])];have iq:bW (aa 1) [0#ru,0#(.int (n:Int)),some (.own (.aA (sD s.1))),none,none,none,none,none,none,none]=.ok ((W7 n).map λk:Nat=>D.int (k:Int)) [0#ru,0#(.int (n:Int)),some (.own (.aA (sD s.1))),none,none,none,none,none,none,none]:=by clear fc q;generalize D.aA (sD s.1)=Q at*;generalize((W7 n).map λk:Nat=>D.int (k:Int))=LL at*;simp[aa,rn]
 have cm:=j8 (cs:=[5]) (g:=ae [] 5) (t:=az (aB (g8 true) (aa 5) (ah 2))) (el:=aa 5) iq rfl fc;rw[bq (T':=[0#ru,0#(.int (n:Int)),some (.own (.aA (sD s.1))),some (.own (.lst ((fG s n).map λk:Nat=>D.int (k:Int)))),none,none,none,none,none,none]) (by show(aK _ _ _ _ _ _).bind _=_;rw[cm];rfl)];exact q
theorem KL{bs:8#0}(R:bC h w bs)(h6:bs.length<=6):(∃f1 f2,f1<bs.length/\f2<bs.length/\f1≠f2/\¬dS (dF bs ((h:Int)*(w:Int))) f1/\¬dS (dF bs ((h:Int)*(w:Int))) f2/\jA [.pure (aw h w bs)]=some (.pure .aX,[.pure (aw h w bs)]))\/∃f,f<bs.length/\¬dS (dF bs ((h:Int)*(w:Int))) f/\(∀j,j<bs.length->j≠f->dS (dF bs ((h:Int)*(w:Int))) j)/\wU bs ((h:Int)*(w:Int)) f (vv (dF bs ((h:Int)*(w:Int))) f ((wt (dF bs ((h:Int)*(w:Int))).1 1:Nat):Int))/\jA [.pure (aw h w bs)]=some (.pure (oN bs.length (vv (dF bs ((h:Int)*(w:Int))) f ((wt (dF bs ((h:Int)*(w:Int))).1 1:Nat):Int))),[.pure (aw h w bs)]):=by
 have G:=KC R;have g1:=Kx R;have g2:=zdV (n:=bs.length) h6 (rows:=ib bs ((h:Int)*(w:Int))) #v[ib] λr hr=>by obtain⟨j,hj,rfl⟩:=Wj.mp hr;simp[cH] λr hr=>by obtain⟨j,hj,rfl⟩:=Wj.mp hr;exact wO R (Ws.mp hj)
 have sf:=zb1 G R.n0 (λi hi=>Kw R hi) λv=>KD (bs:=bs) v ((h:Int)*(w:Int));have sh:=λf hf fE only=>zj3 R h6 (f:=f) hf fE only;have x2:=(fF h w bs).2.2;have ln:bA (.tup (bs.map cf))=0#(.int (bs.length:Int)):=by rw[wI];simp
 have A3:jz [.pure (aw h w bs)]=some (.own (bH (ib bs ((h:Int)*(w:Int)))),[.pure (aw h w bs)]):=g1;have rP:oG [.pure (bH (ib bs ((h:Int)*(w:Int))))]=some (.own (.aA (sD (dF bs ((h:Int)*(w:Int))).1)),[.pure (bH (ib bs ((h:Int)*(w:Int))))]):=g2;clear g1 g2;generalize(h:Int)*(w:Int)=A at*;generalize bH (ib bs A)=RW at*;have hm:mB bs.length<KI:=WC (tR h6) AX;generalize dF bs A=s at*;generalize hnn:bs.length=n at*;generalize D.tup (bs.map cf)=BD at*;have er:=λd SZ q=>z8A (s:=s) (n:=n) h6 (aw h w bs) BD x2 ln A3 rP d SZ q;have lf:bA (.lst ((fG s n).map λk:Nat=>D.int (k:Int)))=0#(.int ((fG s n).length:Int)):=#v[bA];have gt:=lU ((fG s n).length:Int) 1;by_cases h1:1<(fG s n).length
 .obtain⟨f1,f2,r,hF⟩:∃f1 f2 r,fG s n=f1::f2::r:=by match fG s n,h1 with|a::b::r,_=>exact⟨a,b,r,rfl⟩|[_],h=>simp at h|[],h=>simp at h
  have m1:=wR.mp (show f1∈fG s n by rw[hF];simp);have m2:=wR.mp (show f2∈fG s n by rw[hF];simp);have nd:(fG s n).Nodup:=List.Pairwise.filter _ List.nodup_range;refine .inl ⟨f1,f2,m1.1,m2.1,λz=>?_,m1.2,m2.2,er .aX [0#(aw h w bs),0#(.int (n:Int)),some (.own (.aA (sD s.1))),some (.own (.lst ((fG s n).map λk:Nat=>D.int (k:Int)))),none,none,none,none,none,none] (oM ?_)⟩;.rw[hF,z]at nd;simp at nd
  .rw[decide_eq_true Z']at gt;clear er hF;generalize D.lst ((fG s n).map λk:Nat=>D.int (k:Int))=FF at*;generalize D.aA (sD s.1)=Q at*;generalize aw h w bs=ru at*;generalize((fG s n).length:Int)=z at*;simp[az,ah,S.d,lf,gt]
 .obtain⟨f,hf,fE⟩:=sf;have fm:f∈fG s n:=wR.mpr ⟨hf,fE⟩;have hF:fG s n=[f]:=by match fG s n,h1,fm with|[a],_,m=>simp at m;rw[m]|[],_,m=>cases m|a::b::r,h,_=>simp at h
  have only:∀j,j<n->j≠f->dS s j:=λj hj hjf=>by
   by_cases z:dS s j;.exact z
   .have:=wR.mpr ⟨hj,z⟩;rw[hF]at this;simp at this;exact absurd this hjf
  obtain⟨_,wl0,_,K⟩:=sh f hf fE only;have wl:wt s.1 1<=KJ:=wl0;clear wl0;refine .inr ⟨f,hf,fE,only,K,?_⟩;obtain⟨SZ,e⟩:=z8z G hm h6 hf wl rfl (by have:=K.pos;rw[hnn]at this;exact this) (λi hi=>Wq (K.le i %[hnn|hi]) (show 2^960<=2^2240 from WU U' U')) (aw h w bs);refine er _ SZ ?_;rw[hF];have lf1:bA (.lst [.int (f:Int)])=0#(.int 1):=rfl;have gt1:=lU 1 1;clear er sh K gt lf;rw[bq (T':=[0#(aw h w bs),0#(.int (n:Int)),some (.own (.aA (sD s.1))),some (.own (.lst [.int (f:Int)])),none,none,none,none,none,none])];.exact e
  .show bI _ _ _ [0#(aw h w bs),0#(.int (n:Int)),some (.own (.aA (sD s.1))),some (.own (.lst [.int (f:Int)])),none,none,none,none,none,none]=_;clear e;generalize D.lst [.int (f:Int)]=FF at*;generalize D.aA (sD s.1)=Q at*;generalize aw h w bs=ru at*;simp[az,ah,S.d,lf1,gt1]
def aF(v:Nat->Int)(W:Int)(i:Nat):Nat:=(v i).toNat/JU (v i).toNat W.toNat
def bF(v:Nat->Int)(W:Int)(i:Nat):Nat:=W.toNat/JU (v i).toNat W.toNat
theorem zkU{W:Int}(h0:0<=v i)(hW:0<W):nG (v i) W=.tup [.int (aF v W i:Nat),.int (bF v W i:Nat)]:=by obtain⟨a,ea⟩:=Int.eq_ofNat_of_zero_le h0;obtain⟨b,eb⟩:=Int.eq_ofNat_of_zero_le (show 0<=W by lia);unfold nG aF bF;rw[ea,eb];have e1:WY ((a:Nat):Int) ((b:Nat):Int)=JU a b:=rfl;rw[e1];have f1:∀x g:Nat,((x:Nat):Int).fdiv ((g:Nat):Int)=((x/g:Nat):Int):=λx g=>(Int.ofNat_fdiv x g).symm;rw[f1,f1];simp only[Qj]
structure KN(n:Nat)(X:Nat)(v:Nat->Int)(W:Int):Prop where
 one:∀i,i<n->JU (aF v W i) (bF v W i)=1pos:∀i,i<n->0<bF v W i
 ble:∀i,i<n->bF v W i<=X
 ale:∀i,i<n->aF v W i<=X
 A4:∀i,i<n->aF v W i*W.toNat=(v i).toNat*bF v W i
theorem qap{X:Nat}{W:Int}(h0:∀i,i<n->0<=v i)(hW:0<W)(hX:W.toNat<=X)(hv:∀i,i<n->(v i).toNat<=X):KN n X v W:=by
 have gp:∀i,0<JU (v i).toNat W.toNat:=λi=>Nat.gcd_pos_of_pos_right _ Z';refine⟨λi hi=>?_,λi hi=>?_,λi hi=>?_,λi hi=>?_,λi hi=>?_⟩;.exact Nat.gcd_div_gcd_div_gcd_of_pos_right Z'
 .exact Nat.div_pos (Nat.le_of_dvd Z' (Nat.gcd_dvd_right ..)) (gp i)
 .exact Wq (JL _ _) hX
 .exact Wq (JL _ _) (hv i hi)
 .unfold aF bF;have g:=gp i;have d1:=Nat.gcd_dvd_left (v i).toNat W.toNat;have d2:=Nat.gcd_dvd_right (v i).toNat W.toNat;generalize JU (v i).toNat W.toNat=d at*;obtain⟨x,hx⟩:=d1;obtain⟨y,hy⟩:=d2;rw[hx,hy,Nat.mul_div_cancel_left _ g,Nat.mul_div_cancel_left _ g,QK d x,Jg,Nat.mul_left_comm]
def pB(b:Nat->Nat):Nat->Nat|0=>1|k+1=>pB b k*b k
theorem KO{b:Nat->Nat}{X:Nat}(h:∀i,i<n->b i<=X):∀k,k<=n->pB b k<=X^k|0,_=>Wf _|k+1,hk=>by rw[QD];exact QZ (KO h k Z') (h k Z')
def cT:Nat:=2^1000
def cb:Nat:=2^16000
theorem cT7:cT^7<cb:=by show(2^1000)^7<2^16000;rw[<-Nat.pow_mul];exact Jb U' U'
theorem cT1:0<cT:=UE 1000
theorem wV{k:Nat}(h:k<=7):cT^k<cb:=WC (WU cT1 h) cT7
theorem KP:cT<cb:=by have:=wV (k:=1) U';rwa[Nat.pow_one]at this
theorem KQ:cT<nq:=by show 2^1000<2^8000;exact Jb U' U'
inductive Sc:D->Prop|int(i:Int):i.natAbs<cT->Sc (.int i)|bl(b:Bool):Sc (.bl b)|str(x:Tx):Sc (.str x)
inductive El:D->Prop|two{x y:D}:Sc x->Sc y->El (.tup [x,y])|one(x:D):El (.tup [x])|aX:El .aX|lst(xs:List D):El (.lst xs)|int(i:Int):El (.int i)
noncomputable def wf(k:Int):D->Bool|.int i=>decide (k<=i)|_=>false
noncomputable def fH:D->Bool|.tup [.int a,.int b]=>decide (0<=a)&&(decide (1<=b)&&decide (WY a b=1))|_=>false
theorem KR{a:D}(h:Sc a)(k:Int):kP [.pure a,.pure (.int k)]=some (.pure (.bl (wf k a)),[.pure a,.pure (.int k)]):=by rw[kP,zU];refine kY (T':=[0#a,0#(.int k)]) ?_;cases h with|int i hi=>have:=wH k i;simp[bw,fM,o_,fV,fN,ah,S.d,wf,ag,aP,this]|_=>simp[bw,fM,o_,fV,fN,ah,S.d,wf]
theorem zl0(a b:Int):bj (.int ((WY a b:Nat):Int)) (.int 1)=0#(.bl (decide (WY a b=1))):=by
 rw[lV];have:(((WY a b:Nat):Int)==1)=decide (WY a b=1):=by rw[J9,beq_iff_eq,decide_eq_true_eq];lia
 rw[this]
theorem zi1(x y:D):fH (.tup [x,y])=(wf 0 x&&(wf 1 y&&match x,y with|.int a,.int b=>decide (WY a b=1)|_,_=>false)):=by cases x<;>cases y<;>simp[fH,wf]
theorem qaq{d:D}(h:El d):kS [.pure d]=some (.pure (.bl (fH d)),[.pure d]):=by rw[kS,H_];cases h with
 |@two x y hx hy=>have f0:=KR hx 0;have f1:=KR hy 1;have l2:bA (.tup [x,y])=0#(.int 2):=rfl;have n2:=nD 2 2;refine gP (T':=[0#(.tup [x,y]),0#x,0#y]) ?_;rw[bq (T':=[0#(.tup [x,y]),none,none]) #v[bw,az,fV,fN,ah,S.d,l2,n2]];rw[bq (T':=[0#(.tup [x,y]),0#x,0#y]) #v[aq,aa,aR,aC,aT,S.d]];rw[zi1];cases h0:wf 0 x with|false=>rw[h0]at f0;generalize D.tup [x,y]=d at*;simp[fM,au,aW,bB,bx,aa,bb,f0,aL]|true=>rw[h0]at f0;cases h1:wf 1 y with|false=>rw[h1]at f1;generalize D.tup [x,y]=d at*;simp[fM,au,aW,bB,bx,aa,bb,f0,f1,aL]|true=>rw[h1]at f1;cases hx with
    |int a ha=>cases hy with|int b hb=>have g:=tQ (k:=1000) a b hb U';have q:=zl0 a b;generalize D.tup [.int a,.int b]=d at*;generalize((WY a b:Nat):Int)=gi at*;simp[fM,au,aW,bB,bx,aa,bb,f0,f1,g,aL,S.d,q]|_=>simp[wf]at h1
    |_=>simp[wf]at h0
 |one x=>have l1:bA (.tup [x])=0#(.int 1):=rfl;have n1:=nD 1 2;refine gP (T':=[0#(.tup [x]),none,none]) (oM ?_);simp[bw,az,fV,fN,ah,S.d,l1,n1,fH]|aX=>exact gP (T':=[0#(.aX),none,none]) (oM #v[bw,az,fV,fN,ah,S.d,fH])|lst xs=>exact gP (T':=[0#(.lst xs),none,none]) (oM #v[bw,az,fV,fN,ah,S.d,fH])|int i=>exact gP (T':=[0#(.int i),none,none]) (oM #v[bw,az,fV,fN,ah,S.d,fH])
def lc(b:Nat->Nat):Nat->Nat|0=>1|k+1=>JZ (lc b k) (b k)
theorem KS(b:Nat->Nat):∀n,i<n->b i ∣ lc b n
 |0,h=>by lia|n+1,h=>by
  show b i ∣ JZ (lc b n) (b n);by_cases q:i=n;.subst q;exact Nat.dvd_lcm_right ..
  .exact Nat.dvd_trans (KS b n Z') (Nat.dvd_lcm_left ..)
theorem KU(b:Nat->Nat):∀n,lc b n ∣ pB b n|0=>Nat.dvd_refl _|n+1=>by show JZ (lc b n) (b n)∣ pB b n*b n;exact Nat.lcm_dvd (Nat.dvd_trans (KU b n) (Nat.dvd_mul_right _ _)) (Nat.dvd_mul_left _ _)
theorem KW{b:Nat->Nat}(h:∀i,i<n->0<b i):∀k,k<=n->0<pB b k|0,_=>Nat.one_pos|k+1,hk=>Nat.mul_pos (KW h k Z') (h k Z')
structure Ab(n:Nat)(a b:Nat->Nat):Prop where
 al:∀i,i<n->a i<cT
 bl:∀i,i<n->b i<cT
 b0:∀i,i<n->0<b i
section
variable{a b:Nat->Nat}(N:Ab n a b)(h6:n<=6)
include N
theorem qar:∀k,k<=n->pB b k<=cT^k:=λk hk=>KO (λi hi=>QV (N.bl i hi)) k hk
theorem A5(k:Nat)(hk:k<=n):lc b k<=cT^k:=by refine Wq (Nat.le_of_dvd ?_ (KU b k)) (qar N k hk);exact KW N.b0 k hk
def wF(a b:Nat->Nat)(n i:Nat):Nat:=a i*(lc b n/b i)
theorem qas(h6:n<=6)(hi:i<n):wF a b n i<cb:=by refine WC (QZ (QV (N.al i hi)) (Wq (JL _ _) (A5 N n (Wf _)))) ?_;rw[<-Nat.pow_succ'];exact wV Z'
end
def Tr(bs:8#0)(A:Int)(t:Nat->Nat)(P:Nat):Prop:=sN bs.length (λi=>((t i:Nat):Int))=(P:Int)/\∀j,j<bs.length->sN bs.length (λi=>((t i:Nat):Int)*bO bs i j)=A*((t j:Nat):Int)
theorem mulC(a b:Nat)(ha:a<cb)(hb:b<cb):cD (.int (a:Int)) (.int (b:Int))=0#(.int ((a*b:Nat):Int)):=by have:=nE (k:=16000) (a:Int) (b:Int) ha hb U';rw[this,Q8]
abbrev jC(a b:Nat->Nat)(i:Nat):D:=.tup [.int (a i:Nat),.int (b i:Nat)]
abbrev c8(n:Nat)(a b:Nat->Nat):D:=.tup ((W7 n).map (jC a b))
theorem KY(bs:List Bool):jj (.lst (bs.map D.bl))=0#(.bl (bs.all λb=>b)):=by unfold jj;simp only[X_];rfl
abbrev cq(ru d:D)(o2 o3 o4 o5:Option S):Dl:=[0#ru,0#d,o2,o3,o4,o5,none,none,none,none]
abbrev A6:DS:=bI (fT (fA (az (fV "tuple" (ah 1)))) (az (aB cK (aE bA (ah 1)) (aj (aE bA (aj (ag ax 0 1#2))))))) (bf (eD (.bl false))) bR
abbrev KZ:DS:=bI (fA (az (aE jj (aj (aK [7] (aU (aa 1)) (ae [] 7) aG (au kS [.val (aa 7)])))))) (bf (eD (.bl false))) bR
abbrev A7:DS:=aq (aB fP (ag cD 2 (ah 4)) (aj (au gN [.val (aa 2),.val (aa 4)]))) (ae [] 2)
section
variable{bs:8#0}(R:bC h w bs)
theorem zkt:bA (.tup (bs.map cf))=0#(.int (bs.length:Int)):=by rw[wI];simp
theorem zkP(o:xs.length=bs.length)(SL:Dl):A6 (0#(aw h w bs)::0#(.tup xs)::SL)=.ok .next (0#(aw h w bs)::0#(.tup xs)::SL):=by have x2:=(fF h w bs).2.2;have l1:=zkt (bs:=bs);have l2:=wI xs;rw[o]at l2;have ne:=nD (bs.length:Int) (bs.length:Int);rw[beq_self_eq_true]at ne;have ty:fN "tuple" (.tup xs)=some true:=rfl;generalize D.tup (bs.map cf)=BD at*;generalize D.tup xs=d at*;generalize aw h w bs=ru at*;generalize(bs.length:Int)=y2 at*;simp[A6,az,fV,ty,ah,S.d,ag,aP,x2,l1,l2,ne]
end
theorem A8(L:List D)(i:Nat)(Z:Dl)(h:Z[i]?=some 0#(.tup L)):aU (aa i) Z=.ok L Z:=by
 have qaf:Z.set i 0#(.tup L)=Z:=by
  apply Jc;intro j;by_cases hj:i=j;.subst hj;rw[Wh (W9.mp h).1,h]
  .rw[W4 hj]
 simp[eF,aa,h,S.d]
theorem zkO(ru:D)(hx:∀x∈xs,El x)(hl:xs.length<=1000):KZ (cq ru (.tup xs) none none none none)=.ok (if xs.all fH then .next else .ret (.pure (.bl false))) (cq ru (.tup xs) none none none none):=by
 have c:=eE (cs:=[7]) (g:=ae [] 7) (t:=aG) (el:=au kS [.val (aa 7)]) (λx:D=>x) (λx=>D.bl (fH x)) (cq ru (.tup xs) none none none none) xs [] (by rw[bV];simp;lia) λx jI=>by have g:=qaq (hx x jI);refine⟨[0#ru,0#(.tup xs),none,none,none,none,none,0#x,none,none],_,.pure (.bl (fH x)),[0#ru,0#(.tup xs),none,none,none,none,none,0#x,none,none],rfl,rfl,?_,rfl,rfl⟩;generalize D.tup xs=d at*;simp[au,aW,bB,bx,aa,bb,g,aL]
 rw[List.map_id']at c;have iq:aU (aa 1) (cq ru (.tup xs) none none none none)=.ok xs (cq ru (.tup xs) none none none none):=A8 xs 1 _ rfl;have cmp:=j8 (cs:=[7]) (g:=ae [] 7) (t:=aG) (el:=au kS [.val (aa 7)]) iq rfl c;have ep:([]++xs.map λx=>D.bl (fH x))=(xs.map fH).map D.bl:=by rw[Wn];rfl
 rw[ep]at cmp;have al:=KY (xs.map fH);have ea:((xs.map fH).all λb=>b)=xs.all fH:=by rw[UB];rfl
 rw[ea]at al;have t1:aE jj (aj (aK [7] (aU (aa 1)) (ae [] 7) aG (au kS [.val (aa 7)]))) (cq ru (.tup xs) none none none none)=.ok (.pure (.bl (xs.all fH))) (cq ru (.tup xs) none none none none):=by rw[sj,m9,cmp];simp only[dR,vP,si];rw[al];rfl
 have t2:az (aE jj (aj (aK [7] (aU (aa 1)) (ae [] 7) aG (au kS [.val (aa 7)])))) (cq ru (.tup xs) none none none none)=.ok (xs.all fH) (cq ru (.tup xs) none none none none):=by unfold az;rw[t1];rfl
 rw[KZ,FV,X5,t2];cases xs.all fH<;>rfl
theorem zhN{a b:Nat->Nat}(N:Ab n a b)(h6:n<=6)(ru d:D):∃q3 q4,(∀s,q3≠some (.own s))/\(∀s,q4≠some (.own s))/\forL (aR 2 (aC (ae [] 3) (aC (ae [] 4) aT))) A7 ((W7 n).map (jC a b)) (cq ru d 0#(.int 1) none none none)=.ok .next (cq ru d 0#(.int (lc b n:Nat)) q3 q4 none):=by
 obtain⟨SZ,e,q3,q4,h3,h4,rfl⟩:=kJ (g:=aR 2 (aC (ae [] 3) (aC (ae [] 4) aT))) (b:=A7) (λi Z=>∃q3 q4,(∀s,q3≠some (S.own s))/\(∀s,q4≠some (S.own s))/\Z=cq ru d 0#(.int (lc b i:Nat)) q3 q4 none) ((W7 n).map (jC a b)) 0 (cq ru d 0#(.int 1) none none none) ⟨none,none,λs=>by simp,λs=>by simp,rfl⟩ λi x Z hx hh=>by
  obtain⟨q3,q4,_,_,e⟩:=hh
  subst e;have hi:i<n:=by have:=(W9.mp hx).1;simpa using this
  have jI:x=jC a b i:=by rw[Wo,Qq hi]at hx;simpa using hx.symm
  subst jI;rw[Q4];have hb:=N.bl i hi;have b0:=N.b0 i hi;have hl:lc b i<cb:=WC (A5 N i Z') (wV Z');have ml:=mulC (lc b i) (b i) hl (Ub hb KP);have g:=tQ (k:=1000) ((lc b i:Nat):Int) ((b i:Nat):Int) hb U';have gp:0<JU (lc b i) (b i):=Nat.gcd_pos_of_pos_right _ b0;have gl:JU (lc b i) (b i)<=b i:=Nat.gcd_le_right _ b0;have eg:WY ((lc b i:Nat):Int) ((b i:Nat):Int)=JU (lc b i) (b i):=rfl;rw[eg]at g;have dv:=oE ((lc b i*b i:Nat):Int) ((JU (lc b i) (b i):Nat):Int) Z' %[Q5|WC gl (Ub hb KQ)];have f1:((lc b i*b i:Nat):Int).fdiv ((JU (lc b i) (b i):Nat):Int)=((lc b (i+1):Nat):Int):=by rw[<-Int.ofNat_fdiv];rfl
  rw[f1]at dv;refine⟨cq ru d 0#(.int (lc b i:Nat)) 0#(.int (a i:Nat)) 0#(.int (b i:Nat)) none,cq ru d 0#(.int (lc b (i+1):Nat)) 0#(.int (a i:Nat)) 0#(.int (b i:Nat)) none,rfl,?_,_,_,λs=>by simp,λs=>by simp,rfl⟩;clear f1 eg gl gp hl;generalize((lc b i*b i:Nat):Int)=y1 at*;generalize((JU (lc b i) (b i):Nat):Int)=y2 at*;generalize((lc b (i+1):Nat):Int)=y3 at*;generalize((lc b i:Nat):Int)=y4 at*;generalize((b i:Nat):Int)=y5 at*;simp[A7,aq,ag,aP,ah,aa,S.d,ml,au,aW,bB,bx,bb,g,aL,dv]
 have hlen:0+((W7 n).map (jC a b)).length=n:=by simp
 rw[hlen]at e;exact⟨q3,q4,h3,h4,e⟩
theorem zid{bs:8#0}(hj:j<bs.length)(v:Nat->Int):sN bs.length (λi=>ao (cH bs A j) i*v i)=sN bs.length (λi=>v i*bO bs i j)-A*v j:=by
 have e:sN bs.length (λi=>ao (cH bs A j) i*v i)=sN bs.length λi=>v i*bO bs i j+-1*((if i=j then A else 0)*v i):=by refine hZ λi hi=>?_;rw[AZ hi hj,Int.sub_mul,Q3 (bO bs i j)];lia
 rw[e,lT,h9,oH (k:=j) (f:=λi=>(if i=j then A else 0)*v i) hj λi y q=>#v[q]];simp only[if_true];lia
theorem zbk(h:r.length=n):r.map D.int=(W7 n).map λi=>D.int (ao r i):=by
 apply Jc;intro i;rw[Wo,Wo];by_cases hi:i<n
 .rw[Qq hi,W2 Z'];have:ao r i=r[i]:=by unfold ao;rw[Wk,W2 Z'];rfl
  simp[this]
 .rw[WD Z',WD (~~~hi)];rfl
abbrev oO:DE:=aE fD (aj (aK [8,9] (iw (aa 6) (aa 5)) (aR 2 (aC (ae [] 8) (aC (ae [] 9) aT))) aG (ag cD 8 (ah 9))))
abbrev hW(w:Nat->Nat)(n:Nat):D:=.lst ((W7 n).map λi=>D.int ((w i:Nat):Int))
theorem zic(hn:n<=26)(hr:r.length=n)(hb:∀i,(ao r i).natAbs<=16){w:Nat->Nat}(hw:∀i,i<n->w i<cb)(ru d:D)(o2 o3 o4:Option S)(s5:S)(h5:s5=.own (hW w n)\/s5=.pure (hW w n)):oO [0#ru,0#d,o2,o3,o4,some s5,0#(iL r),none,none,none]=.ok (.pure (.int (sN n λi=>ao r i*((w i:Nat):Int)))) [0#ru,0#d,o2,o3,o4,0#(hW w n),0#(iL r),none,none,none]:=by
 have c16:16<cb:=Wz (show 16<2^5 by decide) (show 2^5<=2^16000 from WU U' U');have eZ:jV (r.map D.int) ((W7 n).map λi=>D.int ((w i:Nat):Int))=(W7 n).map λi=>D.tup [.int (ao r i),.int ((w i:Nat):Int)]:=by rw[zbk hr];unfold jV;rw[List.zipWith_map,List.zipWith_self]
 have iz:iw (aa 6) (aa 5) [0#ru,0#d,o2,o3,o4,some s5,0#(iL r),none,none,none]=.ok ((W7 n).map λi=>D.tup [.int (ao r i),.int ((w i:Nat):Int)]) [0#ru,0#d,o2,o3,o4,0#(hW w n),0#(iL r),none,none,none]:=by rw[<-eZ];rcases h5 with rfl|rfl<;>simp[iw,aa,S.d,iL,jW]
 have c:=eE (cs:=[8,9]) (g:=aR 2 (aC (ae [] 8) (aC (ae [] 9) aT))) (t:=aG) (el:=ag cD 8 (ah 9)) (λi=>D.tup [.int (ao r i),.int ((w i:Nat):Int)]) (λi=>D.int (ao r i*((w i:Nat):Int))) [0#ru,0#d,o2,o3,o4,0#(hW w n),0#(iL r),none,none,none] (W7 n) [] (by rw[bV];simp;lia) λi hi=>by have hi:=Ws.mp hi;have ml:=nE (k:=16000) (ao r i) ((w i:Nat):Int) (WC (hb i) c16) (hw i hi) U';refine⟨[0#ru,0#d,o2,o3,o4,0#(hW w n),0#(iL r),none,0#(.int (ao r i)),0#(.int ((w i:Nat):Int))],_,.pure (.int (ao r i*((w i:Nat):Int))),[0#ru,0#d,o2,o3,o4,0#(hW w n),0#(iL r),none,0#(.int (ao r i)),0#(.int ((w i:Nat):Int))],rfl,rfl,?_,rfl,rfl⟩;clear iz eZ;unfold hW;generalize D.lst ((W7 n).map λi=>D.int ((w i:Nat):Int))=HW at*;generalize iL r=Q at*;generalize ao r i*((w i:Nat):Int)=y1 at*;generalize ao r i=y2 at*;generalize((w i:Nat):Int)=y3 at*;simp[ag,aP,ah,S.d,ml]
 have cmp:=j8 (cs:=[8,9]) (g:=aR 2 (aC (ae [] 8) (aC (ae [] 9) aT))) (t:=aG) (el:=ag cD 8 (ah 9)) iz rfl c;have eL:([]++(W7 n).map λi=>D.int (ao r i*((w i:Nat):Int)))=((W7 n).map λi=>ao r i*((w i:Nat):Int)).map D.int:=by rw[Wn];rfl
 rw[eL]at cmp;have sm:=A1 ((W7 n).map λi=>ao r i*((w i:Nat):Int));rw[wG]at sm;rw[oO,sj,m9,cmp];simp only[dR,vP,si];rw[sm];rfl
theorem zdP{bs:8#0}(R:bC h w bs){t:Nat->Nat}(ht:∀i,i<bs.length->t i<cb)(d:D)(o2 o3 o4:Option S):∃SZ,aE jj (aj (aK [6] (aU (au jz [.val (aa 0)])) (ae [] 6) aG (aB bj oO 1#0))) (cq (aw h w bs) d o2 o3 o4 (some (.own (hW t bs.length))))=.ok (.pure (.bl ((W7 bs.length).all λj=>decide (sN bs.length (λi=>((t i:Nat):Int)*bO bs i j)=(h:Int)*(w:Int)*((t j:Nat):Int))))) SZ:=by
 have n1:=R.n1;have g:=Kx R;obtain⟨SZ,c,s5,h5,rfl⟩:=AR (cs:=[6]) (g:=ae [] 6) (t:=aG) (el:=aB bj oO 1#0) (λj=>iL (cH bs ((h:Int)*(w:Int)) j)) (λj=>D.bl (decide (sN bs.length (λi=>((t i:Nat):Int)*bO bs i j)=(h:Int)*(w:Int)*((t j:Nat):Int)))) (λZ=>∃s5,(s5=S.own (hW t bs.length)\/s5=S.pure (hW t bs.length))/\Z=cq (aw h w bs) d o2 o3 o4 (some s5)) (W7 bs.length) [] (cq (aw h w bs) d o2 o3 o4 (some (.own (hW t bs.length)))) ⟨_,.inl rfl,rfl⟩ (by rw[bV];simp;lia) λj hj Z⟨s5,h5,e⟩=>by
  subst e;have hj:=Ws.mp hj;have dr:=zic (n:=bs.length) Z' (r:=cH bs ((h:Int)*(w:Int)) j) #v[cH] (wO R hj) ht (aw h w bs) d o2 o3 o4 s5 h5;rw[zid hj]at dr;have q:=lV (sN bs.length (λi=>((t i:Nat):Int)*bO bs i j)-(h:Int)*(w:Int)*((t j:Nat):Int)) 0;have e2:(sN bs.length (λi=>((t i:Nat):Int)*bO bs i j)-(h:Int)*(w:Int)*((t j:Nat):Int)==0)=decide (sN bs.length (λi=>((t i:Nat):Int)*bO bs i j)=(h:Int)*(w:Int)*((t j:Nat):Int)):=by rw[J9,beq_iff_eq,decide_eq_true_eq];lia
  rw[e2]at q;refine⟨[0#(aw h w bs),0#d,o2,o3,o4,some s5,0#(iL (cH bs ((h:Int)*(w:Int)) j)),none,none,none],_,.pure (.bl (decide (sN bs.length (λi=>((t i:Nat):Int)*bO bs i j)=(h:Int)*(w:Int)*((t j:Nat):Int)))),[0#(aw h w bs),0#d,o2,o3,o4,0#(hW t bs.length),0#(iL (cH bs ((h:Int)*(w:Int)) j)),none,none,none],rfl,rfl,?_,⟨_,.inr rfl,rfl⟩,rfl⟩;generalize oO=E at*;rw[zt,dr];simp only[dR,m9,FU,zv,FT];rw[q]
 have iq:aU (au jz [.val (aa 0)]) (cq (aw h w bs) d o2 o3 o4 (some (.own (hW t bs.length))))=.ok ((W7 bs.length).map λj=>iL (cH bs ((h:Int)*(w:Int)) j)) (cq (aw h w bs) d o2 o3 o4 (some (.own (hW t bs.length)))):=by
  have e:bH ((W7 bs.length).map (cH bs ((h:Int)*(w:Int))))=.lst ((W7 bs.length).map λj=>iL (cH bs ((h:Int)*(w:Int)) j)):=by unfold bH;rw[Wn];rfl
  rw[e]at g;clear c;unfold cq;generalize hW t bs.length=HW at*;generalize((W7 bs.length).map λj=>iL (cH bs ((h:Int)*(w:Int)) j))=RL at*;generalize aw h w bs=ru at*;simp[eF,au,aW,bB,bx,aa,bb,g,aL,S.d]
 have cmp:=j8 (cs:=[6]) (g:=ae [] 6) (t:=aG) (el:=aB bj oO 1#0) iq rfl c;have eL:([]++(W7 bs.length).map λj=>D.bl (decide (sN bs.length (λi=>((t i:Nat):Int)*bO bs i j)=(h:Int)*(w:Int)*((t j:Nat):Int))))=((W7 bs.length).map λj=>decide (sN bs.length (λi=>((t i:Nat):Int)*bO bs i j)=(h:Int)*(w:Int)*((t j:Nat):Int))).map D.bl:=by rw[Wn];rfl
 rw[eL]at cmp;have al:=KY ((W7 bs.length).map λj=>decide (sN bs.length (λi=>((t i:Nat):Int)*bO bs i j)=(h:Int)*(w:Int)*((t j:Nat):Int)));have ea:(((W7 bs.length).map λj=>decide (sN bs.length (λi=>((t i:Nat):Int)*bO bs i j)=(h:Int)*(w:Int)*((t j:Nat):Int))).all λb=>b)=(W7 bs.length).all λj=>decide (sN bs.length (λi=>((t i:Nat):Int)*bO bs i j)=(h:Int)*(w:Int)*((t j:Nat):Int)):=by rw[UB];rfl
 rw[ea]at al;refine⟨cg [6] (cq (aw h w bs) d o2 o3 o4 (some (.own (hW t bs.length)))) (cq (aw h w bs) d o2 o3 o4 (some s5)),?_⟩;rw[sj,m9,cmp];simp only[dR,vP,si];rw[al]
theorem zeB{bs:8#0}(R:bC h w bs)(h6:bs.length<=6){a b:Nat->Nat}(N:Ab bs.length a b)(hE:∀x∈(W7 bs.length).map (jC a b),El x)(hg:((W7 bs.length).map (jC a b)).all fH=true):∃r:Bool,lR [.pure (aw h w bs),.pure (c8 bs.length a b)]=some (.pure (.bl r),[.pure (aw h w bs),.pure (c8 bs.length a b)])/\(r=true↔Tr bs ((h:Int)*(w:Int)) (wF a b bs.length) (lc b bs.length)):=by
 have n1:=R.n1;have s1:=zkP (h:=h) (w:=w) (bs:=bs) (xs:=(W7 bs.length).map (jC a b)) V' [none,none,none,none,none,none,none,none];have s2:=zkO (aw h w bs) hE Re;rw[hg,if_pos rfl]at s2;obtain⟨q3,q4,h3,h4,s4⟩:=zhN N h6 (aw h w bs) (c8 bs.length a b);have lcb:lc b bs.length<cb:=WC (A5 N bs.length (Wf _)) (wV Z');have c:=eE (cs:=[3,4]) (g:=aR 2 (aC (ae [] 3) (aC (ae [] 4) aT))) (t:=aG) (el:=ag cD 3 (aj (ag fP 2 (ah 4)))) (jC a b) (λi=>D.int ((wF a b bs.length i:Nat):Int)) (cq (aw h w bs) (c8 bs.length a b) 0#(.int (lc b bs.length:Nat)) none none none) (W7 bs.length) [] (by rw[bV];simp;lia) λi hi=>by have hi:=Ws.mp hi;have b0:=N.b0 i hi;have dv:=oE ((lc b bs.length:Nat):Int) ((b i:Nat):Int) Z' %[Q5|Ub (N.bl i hi) KQ];rw[<-Int.ofNat_fdiv]at dv;have ml:=mulC (a i) (lc b bs.length/b i) (Ub (N.al i hi) KP) (WC (JL _ _) lcb);refine⟨[0#(aw h w bs),0#(c8 bs.length a b),0#(.int (lc b bs.length:Nat)),0#(.int (a i:Nat)),0#(.int (b i:Nat)),none,none,none,none,none],_,.pure (.int ((wF a b bs.length i:Nat):Int)),[0#(aw h w bs),0#(c8 bs.length a b),0#(.int (lc b bs.length:Nat)),0#(.int (a i:Nat)),0#(.int (b i:Nat)),none,none,none,none,none],rfl,rfl,?_,rfl,rfl⟩;have ml:cD (.int (a i:Nat)) (.int (lc b bs.length/b i:Nat))=0#(.int ((wF a b bs.length i:Nat):Int)):=ml;clear s1 s2 s4;generalize c8 bs.length a b=TD at*;generalize((wF a b bs.length i:Nat):Int)=y1 at*;generalize((lc b bs.length/b i:Nat):Int)=y2 at*;generalize((lc b bs.length:Nat):Int)=y3 at*;generalize((a i:Nat):Int)=y4 at*;generalize((b i:Nat):Int)=y5 at*;generalize aw h w bs=ru at*;simp[ag,aP,ah,S.d,dv,ml]
 have jn:([3,4]:List Nat).any (bG (cq (aw h w bs) (c8 bs.length a b) 0#(.int (lc b bs.length:Nat)) q3 q4 none))=false:=by
  have e1:bG (cq (aw h w bs) (c8 bs.length a b) 0#(.int (lc b bs.length:Nat)) q3 q4 none) 3=false:=by cases q3 with|none=>rfl|some s=>cases s with|pure d=>rfl|own d=>exact absurd rfl (h3 d)
  have e2:bG (cq (aw h w bs) (c8 bs.length a b) 0#(.int (lc b bs.length:Nat)) q3 q4 none) 4=false:=by cases q4 with|none=>rfl|some s=>cases s with|pure d=>rfl|own d=>exact absurd rfl (h4 d)
  simp[e1,e2]
 have iq:aU (aa 1) (cq (aw h w bs) (c8 bs.length a b) 0#(.int (lc b bs.length:Nat)) q3 q4 none)=.ok ((W7 bs.length).map (jC a b)) (cq (aw h w bs) (c8 bs.length a b) 0#(.int (lc b bs.length:Nat)) q3 q4 none):=A8 _ 1 _ rfl;have cmp:=j8 (cs:=[3,4]) (g:=aR 2 (aC (ae [] 3) (aC (ae [] 4) aT))) (t:=aG) (el:=ag cD 3 (aj (ag fP 2 (ah 4)))) iq jn c;have wW:aU (aa 1) (cq (aw h w bs) (c8 bs.length a b) 0#(.int 1) none none none)=.ok ((W7 bs.length).map (jC a b)) (cq (aw h w bs) (c8 bs.length a b) 0#(.int 1) none none none):=A8 _ 1 _ rfl;obtain⟨Gc,rr⟩:=zdP R (t:=wF a b bs.length) (λi hi=>qas N h6 hi) (c8 bs.length a b) 0#(.int (lc b bs.length:Nat)) q3 q4;have sm:=A1 ((W7 bs.length).map λi=>((wF a b bs.length i:Nat):Int));rw[wG]at sm;have eT:((W7 bs.length).map λi=>((wF a b bs.length i:Nat):Int)).map D.int=(W7 bs.length).map λi=>D.int ((wF a b bs.length i:Nat):Int):=by rw[Wn];rfl
 rw[eT]at sm;have ne:=nD (sN bs.length λi=>((wF a b bs.length i:Nat):Int)) ((lc b bs.length:Nat):Int);have er:∀r SZ,(ay (bI (az (aB cK (aE fD (ah 5)) (ah 2))) (bf (eD (.bl false))) bR) (bf (aE jj (aj (aK [6] (aU (au jz [.val (aa 0)])) (ae [] 6) aG (aB bj oO 1#0)))))) (cq (aw h w bs) (c8 bs.length a b) 0#(.int (lc b bs.length:Nat)) q3 q4 (some (.own (hW (wF a b bs.length) bs.length))))=.ok (.ret (.pure (.bl r))) SZ->lR [.pure (aw h w bs),.pure (c8 bs.length a b)]=some (.pure (.bl r),[.pure (aw h w bs),.pure (c8 bs.length a b)]):=λr SZ q=>by rw[lR,Ia];refine kY (T':=SZ) ?_;have s1':A6 (bw 10 [.pure (aw h w bs),.pure (c8 bs.length a b)])=.ok .next (cq (aw h w bs) (c8 bs.length a b) none none none none):=s1;rw[bq s1',bq s2];rw[bq (T':=cq (aw h w bs) (c8 bs.length a b) 0#(.int 1) none none none) (by clear s1 s2 s4 c cmp iq wW rr q;show aq 3#1 (ae [] 2) (cq (aw h w bs) (c8 bs.length a b) none none none none)=_;generalize c8 bs.length a b=TD at*;generalize aw h w bs=ru at*;simp[aq])];rw[bq ((iy wW).trans s4)];rw[bq (T':=cq (aw h w bs) (c8 bs.length a b) 0#(.int (lc b bs.length:Nat)) q3 q4 (some (.own (hW (wF a b bs.length) bs.length)))) (by show(aK _ _ _ _ _ _).bind _=_;rw[cmp];rfl)];exact q
 by_cases hs:sN bs.length (λi=>((wF a b bs.length i:Nat):Int))=((lc b bs.length:Nat):Int)
 .rw[hs,beq_self_eq_true]at ne;rw[hs]at sm;refine⟨(W7 bs.length).all λj=>decide (sN bs.length (λi=>((wF a b bs.length i:Nat):Int)*bO bs i j)=(h:Int)*(w:Int)*((wF a b bs.length j:Nat):Int)),er _ Gc ?_,?_⟩;.rw[bq (T':=cq (aw h w bs) (c8 bs.length a b) 0#(.int (lc b bs.length:Nat)) q3 q4 (some (.own (hW (wF a b bs.length) bs.length)))) (by clear s1 s2 s4 c cmp iq wW rr er;unfold hW;generalize D.lst ((W7 bs.length).map λi=>D.int ((wF a b bs.length i:Nat):Int))=HW at*;generalize c8 bs.length a b=TD at*;generalize aw h w bs=ru at*;generalize((lc b bs.length:Nat):Int)=y at*;simp[az,ah,S.d,sm,ne])];rw[zu,rr];rfl
  .rw[List.all_eq_true];unfold Tr;constructor;.intro hh;exact⟨hs,λj hj=>by simpa using hh j (Ws.mpr hj)⟩
   .intro hh j hj;simpa using hh.2 j (Ws.mp hj)
 .have e0:(sN bs.length (λi=>((wF a b bs.length i:Nat):Int))==((lc b bs.length:Nat):Int))=false:=%[beq_eq_false_iff_ne|hs];rw[e0]at ne;refine⟨false,er false (cq (aw h w bs) (c8 bs.length a b) 0#(.int (lc b bs.length:Nat)) q3 q4 (some (.own (hW (wF a b bs.length) bs.length)))) (oM ?_),⟨(λz=>by cases z),λz=>absurd z.1 hs⟩⟩;clear s1 s2 s4 c cmp iq wW rr er e0 hs;unfold hW;generalize D.lst ((W7 bs.length).map λi=>D.int ((wF a b bs.length i:Nat):Int))=HW at*;generalize c8 bs.length a b=TD at*;generalize aw h w bs=ru at*;generalize((lc b bs.length:Nat):Int)=y at*;generalize(sN bs.length λi=>((wF a b bs.length i:Nat):Int))=y2 at*;simp[az,ah,S.d,sm,ne]
def sm:List Nat->(Nat->Nat)->Nat|[],_=>0|t::r,f=>f t+sm r f
theorem wX(f:Nat->Nat):sm [] f=0:=rfl
theorem gC(t:Nat)(r:List Nat)(f:Nat->Nat):sm (t::r) f=f t+sm r f:=rfl
theorem dG:∀{ts:List Nat}{f g:Nat->Nat},(∀t∈ts,f t=g t)->sm ts f=sm ts g|[],_,_,_=>rfl|t::r,f,g,h=>by rw[gC,gC,h t Wc,dG λx hx=>h x (W8 _ hx)]
theorem qk(f g:Nat->Nat):∀ts:List Nat,sm ts (λt=>f t+g t)=sm ts f+sm ts g|[]=>rfl|t::r=>by rw[gC,gC,gC,qk f g r];show f t+g t+_=_;lia
theorem nH:∀{ts:List Nat}{f:Nat->Nat},(∀t∈ts,f t=0)->sm ts f=0|[],_,_=>rfl|t::r,f,h=>by rw[gC,h t Wc,nH λx hx=>h x (W8 _ hx)]
theorem j9(f:Nat->Nat)(n:Nat):∀ts:List Nat,ts.Nodup->n∈ts->sm ts (λt=>(if t=n then 1 else 0)*f t)=f n
 |[],_,h=>by simp at h|t::r,nd,h=>by
  obtain⟨n1,n2⟩:=WL.mp nd;rw[gC];rcases Wv.mp h with e|h;.subst e;rw[nH λt ht=>by rw[if_neg λe=>n1 (by rw[<-e];exact ht),UF]];simp
  .have:t≠n:=λe=>n1 %[e|h];rw[j9 f n r n2 h];simp[this]
def K0(bs:8#0)(v:Nat->Nat):Nat->Nat:=λs=>sm (bs.map (·.1)) λt=>v t*M bs t s
def vec(bs:8#0)(t0:Nat):Nat->Nat->Nat|0=>λs=>if s=t0 then 1 else 0|k+1=>K0 bs (vec bs t0 k)
theorem ql(f:Nat->Nat->Nat)(b:List Nat):∀a:List Nat,sm a (λx=>sm b λy=>f x y)=sm b λy=>sm a λx=>f x y|[]=>by rw[wX,nH λt j=>wX _]|x::r=>by show sm b (λy=>f x y)+sm r (λx=>sm b λy=>f x y)=_;rw[ql f b r,<-qk];rfl
def b_(ts:List Nat)(X Y:Nat->Nat->Nat)(t s:Nat):Nat:=sm ts λu=>X t u*Y u s
def mp(ts:List Nat)(A:Nat->Nat->Nat):Nat->Nat->Nat->Nat|0=>λt s=>if s=t then 1 else 0|k+1=>b_ ts (mp ts A k) A
theorem oP(c:Nat)(f:Nat->Nat):∀ts:List Nat,sm ts (λt=>f t*c)=sm ts f*c|[]=>#v[wX]|t::r=>by rw[gC,gC,oP c f r,JA]
theorem wY(c:Nat)(f:Nat->Nat)(ts:List Nat):sm ts (λt=>c*f t)=c*sm ts f:=by rw[QK,<-oP];exact dG λt j=>QK _ _
theorem zem{X' Y Y':Nat->Nat->Nat}{s:Nat}(h1:∀u∈ts,X t u=X' t u)(h2:∀u∈ts,Y u s=Y' u s):b_ ts X Y t s=b_ ts X' Y' t s:=dG λu hu=>by rw[h1 u hu,h2 u hu]
theorem zen(ts:List Nat)(X Y KE:Nat->Nat->Nat)(t s:Nat):b_ ts (b_ ts X Y) KE t s=b_ ts X (b_ ts Y KE) t s:=by
 unfold b_;have e1:sm ts (λu=>sm ts (λv=>X t v*Y v u)*KE u s)=sm ts λu=>sm ts λv=>X t v*Y v u*KE u s:=dG λu j=>(oP (KE u s) (λv=>X t v*Y v u) ts).symm;have e2:sm ts (λv=>X t v*sm ts λu=>Y v u*KE u s)=sm ts λv=>sm ts λu=>X t v*Y v u*KE u s:=dG λv j=>by rw[<-wY];exact dG λu j=>(Jg _ _ _).symm
 rw[e1,e2,ql]
theorem zkn(nd:ts.Nodup)(X A:Nat->Nat->Nat){s:Nat}(hs:s∈ts):b_ ts X (mp ts A 0) t s=X t s:=by
 unfold b_;have:sm ts (λu=>X t u*mp ts A 0 u s)=sm ts λu=>(if u=s then 1 else 0)*X t u:=dG λu j=>by
  show X t u*(if s=u then 1 else 0)=_;by_cases h:s=u;.subst h;simp
  .simp[h,Ne.symm h]
 rw[this,j9 (λu=>X t u) s ts nd hs]
theorem wZ(nd:ts.Nodup)(A:Nat->Nat->Nat)(a:Nat):∀(b:Nat){s:Nat},s∈ts->b_ ts (mp ts A a) (mp ts A b) t s=mp ts A (a+b) t s|0,s,hs=>zkn nd _ A hs|b+1,s,hs=>by show b_ ts (mp ts A a) (b_ ts (mp ts A b) A) t s=b_ ts (mp ts A (a+b)) A t s;rw[<-zen];exact zem (λu hu=>wZ nd A a b hu) λj j=>rfl
theorem zkp(nd:ts.Nodup)(A:Nat->Nat->Nat){s:Nat}(ht:t∈ts):mp ts A 1 t s=A t s:=by show sm ts (λu=>(if u=t then 1 else 0)*A u s)=_;rw[j9 (λu=>A u s) t ts nd ht]
theorem K1(bs:8#0)(t:Nat):∀k,vec bs t k=mp (bs.map (·.1)) (M bs) k t|0=>rfl|k+1=>by show K0 bs (vec bs t k)=_;rw[K1 bs t k];rfl
theorem qat{f g:Nat->Nat}(h:∀t∈ts,f t<=g t):sm ts f<=sm ts g:=by induction ts with|nil=>exact Wf _|cons t r ih=>rw[gC,gC];have:=h t Wc;have:=ih λx hx=>h x (W8 _ hx);lia
theorem zkr(f:Nat->Nat)(h:t∈ts):f t<=sm ts f:=by induction ts with|nil=>simp at h|cons a r ih=>
 rw[gC];rcases Wv.mp h with rfl|h;.lia
 .have:=ih h;lia
theorem K2(nd:ts.Nodup){A:Nat->Nat->Nat}(hA:∀t∈ts,sm ts (A t)<=c)(ht:t∈ts):∀k,sm ts (mp ts A k t)<=c^k
 |0=>by
  have e:sm ts (mp ts A 0 t)=sm ts λu=>(if u=t then 1 else 0)*1:=dG λu j=>by show(if u=t then 1 else 0)=_;simp
  rw[e,j9 (λj=>1) t ts nd ht];simp|k+1=>by
  show sm ts (λs=>sm ts λu=>mp ts A k t u*A u s)<=_;rw[ql λs u=>mp ts A k t u*A u s];have e:sm ts (λu=>sm ts λs=>mp ts A k t u*A u s)<=sm ts λu=>mp ts A k t u*c:=qat λu hu=>by rw[wY];exact Nat.mul_le_mul_left _ (hA u hu)
  refine Wq e ?_;rw[oP,QD];exact QN _ (K2 nd hA ht k)
theorem K3(nd:ts.Nodup){A:Nat->Nat->Nat}(hA:∀t∈ts,sm ts (A t)<=16){s:Nat}(ht:t∈ts)(hs:s∈ts)(k:Nat)(hk:k<=2000):mp ts A k t s<2^9000:=by
 have h1:=Wq (zkr (mp ts A k t) hs) (K2 nd hA ht k);have h2:(16:Nat)^k=2^(4*k):=by rw[Nat.pow_mul]
 rw[h2]at h1;exact WC h1 (Jb U' Z')
theorem K4{ts:List Nat}(nd:ts.Nodup):∀tx:List Nat,sm ts (λs=>tx.count s)<=tx.length
 |[]=>%[nH λt j=>List.count_nil|Wf _]|n::r=>by
  have e:sm ts (λt=>(n::r).count t)=sm ts λt=>r.count t+(if t=n then 1 else 0)*1:=dG λt j=>by
   rw[UD];by_cases q:n=t;.subst q;simp
   .simp[q,Ne.symm q]
  rw[e,qk,WF];have h1:=K4 nd r;have h2:sm ts (λt=>(if t=n then 1 else 0)*1)<=1:=by
   by_cases h:n∈ts;.rw[j9 (λj=>1) n ts nd h];exact Wf _
   .rw[nH λt ht=>by rw[if_neg λ(e:t=n)=>h (e▸ht),UF]];lia
  lia
theorem qm{Y:Nat->Nat->Nat}(h:∀t∈ts,∀s∈ts,X t s=Y t s):tb ts X=tb ts Y:=by unfold tb;congr 1;refine WT λt ht=>?_;congr 1;exact WT λs hs=>by rw[h t ht s hs]
theorem A9{B:Type}(F:Nat->B)(ts:List Nat):(W7 ts.length).map (λi=>F (ts.getD i 0))=ts.map F:=by
 apply Jc;intro i;rw[Wo,Wo];by_cases h:i<ts.length;.rw[Qq h,W2 h];simp[h]
 .rw[WD (~~~h),WD (~~~h)];rfl
def cols(ts:List Nat)(Y:Nat->Nat->Nat):List D:=ts.map λs=>.lst (aH ts λu=>Y u s)
theorem zeO(hl:ts.length<=26)(Y:Nat->Nat->Nat)(hi:i<ts.length)(T n:D):bX [5] (ae [] 5) aG (ag ax 5 (ah 6)) (ts.map λt=>D.tup (aH ts (Y t))) [0#T,0#(tb ts Y),0#n,none,none,none,0#(.int i),none,none,none] []=.ok (aH ts λu=>Y u (ts.getD i 0)) [0#T,0#(tb ts Y),0#n,none,none,none,0#(.int i),none,none,none]:=by
 have:=eE (cs:=[5]) (g:=ae [] 5) (t:=aG) (el:=ag ax 5 (ah 6)) (λt=>D.tup (aH ts (Y t))) (λu=>D.int ((Y u (ts.getD i 0):Nat):Int)) [0#T,0#(tb ts Y),0#n,none,none,none,0#(.int i),none,none,none] ts [] (by rw[bV];simp;lia) λu hu=>by have q:=wJ ts (Y u) hi;refine⟨[0#T,0#(tb ts Y),0#n,none,none,0#(.tup (aH ts (Y u))),0#(.int i),none,none,none],_,.pure (.int ((Y u (ts.getD i 0):Nat):Int)),[0#T,0#(tb ts Y),0#n,none,none,0#(.tup (aH ts (Y u))),0#(.int i),none,none,none],rfl,rfl,?_,rfl,rfl⟩;generalize tb ts Y=TB at*;generalize D.tup (aH ts (Y u))=RW at*;generalize((Y u (ts.getD i 0):Nat):Int)=yy at*;simp[ag,aP,ah,q]
 rw[this];rfl
theorem zd3(hl:ts.length<=26)(Y:Nat->Nat->Nat)(T n:D):bX [6] (ae [] 6) aG (aK [5] (aU (aa 1)) (ae [] 5) aG (ag ax 5 (ah 6))) (bo 0 ts.length) [0#T,0#(tb ts Y),0#n,none,none,none,none,none,none,none] []=.ok (cols ts Y) [0#T,0#(tb ts Y),0#n,none,none,none,none,none,none,none]:=by
 have hr:bo 0 ts.length=(W7 ts.length).map λk:Nat=>D.int (k:Int):=#v[bo];rw[hr];have:=eE (cs:=[6]) (g:=ae [] 6) (t:=aG) (el:=aK [5] (aU (aa 1)) (ae [] 5) aG (ag ax 5 (ah 6))) (λk:Nat=>D.int (k:Int)) (λi=>D.lst (aH ts λu=>Y u (ts.getD i 0))) [0#T,0#(tb ts Y),0#n,none,none,none,none,none,none,none] (W7 ts.length) [] (by rw[bV];simp;lia) λi hi=>by have hi:=Ws.mp hi;have hc:=zeO hl Y hi T n;refine⟨[0#T,0#(tb ts Y),0#n,none,none,none,0#(.int i),none,none,none],_,.own (.lst (aH ts λu=>Y u (ts.getD i 0))),[0#T,0#(tb ts Y),0#n,none,none,none,0#(.int i),none,none,none],rfl,rfl,?_,rfl,rfl⟩;have hT:tb ts Y=.tup (ts.map λt=>.tup (aH ts (Y t))):=rfl;generalize(ts.map λt=>D.tup (aH ts (Y t)))=RS at*;generalize(aH ts λu=>Y u (ts.getD i 0))=CC at*;rw[hT]at*;simp[eF,aa,bG,a_,hc,cg]
 rw[this,Qu,A9 (λs=>D.lst (aH ts λu=>Y u s)) ts];rfl
theorem ziT(ts:List Nat)(f:Nat->Nat):(ts.map λu=>((f u:Nat):Int)).sum=((sm ts f:Nat):Int):=by induction ts with|nil=>rfl|cons t r ih=>rw[We,List.sum_cons,ih,gC];lia
theorem A_(ts:List Nat)(f:Nat->Nat):fD (.lst (aH ts f))=0#(.int ((sm ts f:Nat):Int)):=by
 have e:aH ts f=(ts.map λu=>((f u:Nat):Int)).map D.int:=by unfold aH;rw[Wn];rfl
 unfold fD;simp only[e,Lake.ints_map,ziT]
theorem zeN(hl:ts.length<=26)(X Y:Nat->Nat->Nat)(t s:Nat)(hx:∀u∈ts,X t u<2^9000)(hy:∀u∈ts,Y u s<2^9000)(d0 d1 d2 d3 d4 d5 d6 d7:Option S):bX [8,9] (aR 2 (aC (ae [] 8) (aC (ae [] 9) aT))) aG (ag cD 8 (ah 9)) (jV (aH ts (X t)) (aH ts λu=>Y u s)) [d0,d1,d2,d3,d4,d5,d6,d7,none,none] []=.ok (aH ts λu=>X t u*Y u s) [d0,d1,d2,d3,d4,d5,d6,d7,none,none]:=by
 have hz:jV (aH ts (X t)) (aH ts λu=>Y u s)=ts.map λu=>D.tup [.int ((X t u:Nat):Int),.int ((Y u s:Nat):Int)]:=by unfold jV aH;rw[List.zipWith_map,List.zipWith_self]
 rw[hz];have:=eE (cs:=[8,9]) (g:=aR 2 (aC (ae [] 8) (aC (ae [] 9) aT))) (t:=aG) (el:=ag cD 8 (ah 9)) (λu=>D.tup [.int ((X t u:Nat):Int),.int ((Y u s:Nat):Int)]) (λu=>D.int ((X t u*Y u s:Nat):Int)) [d0,d1,d2,d3,d4,d5,d6,d7,none,none] ts [] (by rw[bV];simp;lia) λu hu=>by have q:=Yv (hx u hu) (hy u hu) U';generalize X t u=a at*;generalize Y u s=b at*;refine⟨[d0,d1,d2,d3,d4,d5,d6,d7,0#(.int (a:Int)),0#(.int (b:Int))],_,.pure (.int ((a*b:Nat):Int)),[d0,d1,d2,d3,d4,d5,d6,d7,0#(.int (a:Int)),0#(.int (b:Int))],rfl,rfl,?_,rfl,rfl⟩;generalize(a:Int)=i at*;generalize(b:Int)=j at*;generalize((a*b:Nat):Int)=k at*;simp[ag,aP,ah,q]
 rw[this];rfl
abbrev tU:DE:=aE fD (aj (aK [8,9] (iw (aa 5) (aa 7)) (aR 2 (aC (ae [] 8) (aC (ae [] 9) aT))) aG (ag cD 8 (ah 9))))
theorem zd2(hl:ts.length<=26)(X Y:Nat->Nat->Nat)(t:Nat)(hx:∀u∈ts,X t u<2^9000)(hy:∀u∈ts,∀s∈ts,Y u s<2^9000)(T O n:D)(P:List D)(o6:Option S):bX [7] (ae [] 7) aG tU (cols ts Y) [0#T,0#O,0#n,0#(.lst (cols ts Y)),some (.own (.lst P)),0#(.tup (aH ts (X t))),o6,none,none,none] []=.ok (aH ts (b_ ts X Y t)) [0#T,0#O,0#n,0#(.lst (cols ts Y)),some (.own (.lst P)),0#(.tup (aH ts (X t))),o6,none,none,none]:=by
 generalize qj:D.lst (cols ts Y)=CL;unfold cols;have:=eE (cs:=[7]) (g:=ae [] 7) (t:=aG) (el:=tU) (λs=>D.lst (aH ts λu=>Y u s)) (λs=>D.int ((b_ ts X Y t s:Nat):Int)) [0#T,0#O,0#n,0#CL,some (.own (.lst P)),0#(.tup (aH ts (X t))),o6,none,none,none] ts [] (by rw[bV];simp;lia) λs hs=>by have hc:=zeN hl X Y t s hx (λu hu=>hy u hu s hs) 0#T 0#O 0#n 0#CL (some (.own (.lst P))) 0#(.tup (aH ts (X t))) o6 0#(.lst (aH ts λu=>Y u s));have gY:=A_ ts λu=>X t u*Y u s;refine⟨[0#T,0#O,0#n,0#CL,some (.own (.lst P)),0#(.tup (aH ts (X t))),o6,0#(.lst (aH ts λu=>Y u s)),none,none],_,.pure (.int ((b_ ts X Y t s:Nat):Int)),[0#T,0#O,0#n,0#CL,some (.own (.lst P)),0#(.tup (aH ts (X t))),o6,0#(.lst (aH ts λu=>Y u s)),none,none],rfl,rfl,?_,rfl,rfl⟩;have hm:sm ts (λu=>X t u*Y u s)=b_ ts X Y t s:=rfl;rw[hm]at gY;generalize(aH ts λu=>X t u*Y u s)=PR at*;generalize((b_ ts X Y t s:Nat):Int)=V at*;generalize aH ts (X t)=XS at*;generalize(aH ts λu=>Y u s)=YS at*;simp[iw,aa,jW,bG,a_,hc,cg,gY]
 rw[this];rfl
theorem K5(hl:ts.length<=26)(X Y:Nat->Nat->Nat)(hx:∀u∈ts,∀s∈ts,X u s<2^9000)(hy:∀u∈ts,∀s∈ts,Y u s<2^9000):jZ [.pure (tb ts X),.pure (tb ts Y)]=some (.pure (tb ts (b_ ts X Y)),[.pure (tb ts X),.pure (tb ts Y)]):=by
 have hlen:bA (tb ts X)=0#(.int ((ts.length:Nat):Int)):=#v[tb,bA];have hc:=zd3 hl Y (tb ts X) (.int ((ts.length:Nat):Int));have hsq:∀Z,aU (aa 0) (0#(tb ts X)::Z)=.ok (ts.map λt=>D.tup (aH ts (X t))) (0#(tb ts X)::Z):=λZ=>#v[eF,aa,tb];obtain⟨SZ,e,s3,o5,h3,rfl⟩:=kJ (g:=ae [] 5) (b:=de 4 (aE bU (aj (aK [7] (aU (aa 3)) (ae [] 7) aG tU)))) (λk Z=>∃(s3:S)(o5:Option S),(s3=.own (.lst (cols ts Y))\/s3=.pure (.lst (cols ts Y)))/\Z=[0#(tb ts X),0#(tb ts Y),0#(.int ((ts.length:Nat):Int)),some s3,some (.own (.lst ((ts.take k).map λt=>.tup (aH ts (b_ ts X Y t))))),o5,none,none,none,none]) (ts.map λt=>D.tup (aH ts (X t))) 0 [0#(tb ts X),0#(tb ts Y),0#(.int ((ts.length:Nat):Int)),some (.own (.lst (cols ts Y))),some (.own (.lst [])),none,none,none,none,none] ⟨_,none,.inl rfl,rfl⟩ λi d Z hd⟨s3,o5,h3,hδ⟩=>by
   subst hδ;rw[Wo,WG]at hd;obtain⟨t,ht,rfl⟩:=hd;have htm:=Q0 ht;rw[Q4];have hc:=zd2 hl X Y t (hx t htm) hy (tb ts X) (tb ts Y) (.int ((ts.length:Nat):Int)) ((ts.take i).map λt=>.tup (aH ts (b_ ts X Y t))) none;have hz:((ts.take i).map λt=>D.tup (aH ts (b_ ts X Y t))).length<Wd:=by rw[bV];simp;lia
   refine⟨[0#(tb ts X),0#(tb ts Y),0#(.int ((ts.length:Nat):Int)),some s3,some (.own (.lst ((ts.take i).map λt=>.tup (aH ts (b_ ts X Y t))))),0#(.tup (aH ts (X t))),none,none,none,none],[0#(tb ts X),0#(tb ts Y),0#(.int ((ts.length:Nat):Int)),0#(.lst (cols ts Y)),some (.own (.lst ((ts.take (i+1)).map λt=>.tup (aH ts (b_ ts X Y t))))),0#(.tup (aH ts (X t))),none,none,none,none],rfl,?_,_,_,.inr rfl,rfl⟩;have hp:(ts.take (i+1)).map (λt=>D.tup (aH ts (b_ ts X Y t)))=(ts.take i).map (λt=>D.tup (aH ts (b_ ts X Y t)))++[.tup (aH ts (b_ ts X Y t))]:=by rw[List.take_add_one,ht,WS];rfl
   rw[hp];generalize((ts.take i).map λt=>D.tup (aH ts (b_ ts X Y t)))=PP at*;generalize aH ts (b_ ts X Y t)=LN at*;generalize cols ts Y=CL at*;generalize tb ts X=TX at*;generalize tb ts Y=TY at*;generalize aH ts (X t)=XS at*;generalize hB:tU=BD at*;clear hB;rcases h3 with rfl|rfl;.simp[de,gL,eF,aa,bG,a_,hc,cg,bU,putL,hz]
   .simp[de,gL,eF,aa,bG,a_,hc,cg,bU,putL,hz]
 rw[WB,Q4,List.take_length]at e;have hT:D.tup (ts.map λt=>D.tup (aH ts (b_ ts X Y t)))=tb ts (b_ ts X Y):=rfl;generalize(ts.map λt=>D.tup (aH ts (b_ ts X Y t)))=RR at*;generalize(ts.map λt=>D.tup (aH ts (X t)))=XR at*;generalize tb ts (b_ ts X Y)=TM at*;generalize cols ts Y=CL at*;generalize tb ts X=TX at*;generalize tb ts Y=TY at*;have gJ:ts.length<=1000000:=by lia
 generalize ts.length=n at*;rw[jZ,lW,HL];simp only[tU]at e;simp[cG,bw,aq,ah,hlen,aa,hJ n gJ,bG,a_];rw[hc];simp[cg,hsq];rw[e];simp[ah,bU,df,cn,hT]
theorem K6{bs:8#0}(R:bC h w bs):∀t∈bs.map (·.1),sm (bs.map (·.1)) (M bs t)<=16:=λt ht=>by obtain⟨b,hb,_,_,e2⟩:=j3 ht;refine Wq ?_ (qh R hb).2.1;have:=K4 (i5 R) b.2.flatten;unfold M;rw[e2];exact this
theorem zd1(nd:ts.Nodup)(hl:ts.length<=26)(A:Nat->Nat->Nat)(hi:i<ts.length)(d0 d1 d2 d3 d4 d5:Option S):bX [7] (ae [] 7) aG (iO (az (ag bj 6 (ah 7))) 3#1 3#0) (bo 0 ts.length) [d0,d1,d2,d3,d4,d5,0#(.int i),none] []=.ok (aH ts (mp ts A 0 (ts.getD i 0))) [d0,d1,d2,d3,d4,d5,0#(.int i),none]:=by
 have hr:bo 0 ts.length=(W7 ts.length).map λk:Nat=>D.int (k:Int):=#v[bo];rw[hr];have:=eE (cs:=[7]) (g:=ae [] 7) (t:=aG) (el:=iO (az (ag bj 6 (ah 7))) 3#1 3#0) (λk:Nat=>D.int (k:Int)) (λj=>D.int ((mp ts A 0 (ts.getD i 0) (ts.getD j 0):Nat):Int)) [d0,d1,d2,d3,d4,d5,0#(.int i),none] (W7 ts.length) [] (by rw[bV];simp;lia) λj hj=>by
  have hj:=Ws.mp hj;refine⟨[d0,d1,d2,d3,d4,d5,0#(.int i),0#(.int j)],_,.pure (.int ((mp ts A 0 (ts.getD i 0) (ts.getD j 0):Nat):Int)),[d0,d1,d2,d3,d4,d5,0#(.int i),0#(.int j)],rfl,rfl,?_,rfl,rfl⟩;have hv:mp ts A 0 (ts.getD i 0) (ts.getD j 0)=if i=j then 1 else 0:=by
   show(if ts.getD j 0=ts.getD i 0 then 1 else 0)=_;have:ts.getD j 0=ts.getD i 0↔i=j:=by simp only[Wk,W2 hi,W2 hj,Option.getD_some];exact⟨λe=>((List.getElem_inj nd).mp e).symm,λe=>by subst e;rfl⟩
   simp only[this]
  rw[hv];by_cases h:i=j;.subst h;simp[iO,ag,aP,ah,lV,az]
  .have h':((i:Int)==(j:Int))=false:=by simp;lia
   simp[iO,ag,aP,ah,lV,az,h,h']
 rw[this,Qu,A9 (λs=>D.int ((mp ts A 0 (ts.getD i 0) s:Nat):Int)) ts];rfl
theorem zaF(nd:ts.Nodup)(hl:ts.length<=26)(A:Nat->Nat->Nat)(d0 d1 d3 d4 d5:Option S):bX [6] (ae [] 6) aG (aE bU (aj (aK [7] (bW (aa 2)) (ae [] 7) aG (iO (az (ag bj 6 (ah 7))) 3#1 3#0)))) (bo 0 ts.length) [d0,d1,0#(.int ((ts.length:Nat):Int)),d3,d4,d5,none,none] []=.ok (ts.map λt=>D.tup (aH ts (mp ts A 0 t))) [d0,d1,0#(.int ((ts.length:Nat):Int)),d3,d4,d5,none,none]:=by
 have hr:bo 0 ts.length=(W7 ts.length).map λk:Nat=>D.int (k:Int):=#v[bo];have:=eE (cs:=[6]) (g:=ae [] 6) (t:=aG) (el:=aE bU (aj (aK [7] (bW (aa 2)) (ae [] 7) aG (iO (az (ag bj 6 (ah 7))) 3#1 3#0)))) (λk:Nat=>D.int (k:Int)) (λi=>D.tup (aH ts (mp ts A 0 (ts.getD i 0)))) [d0,d1,0#(.int ((ts.length:Nat):Int)),d3,d4,d5,none,none] (W7 ts.length) [] (by rw[bV];simp;lia) λi hi=>by
  have hi:=Ws.mp hi;have hc:=zd1 nd hl A hi d0 d1 0#(.int ((ts.length:Nat):Int)) d3 d4 d5;have gJ:ts.length<=1000000:=by lia
  refine⟨[d0,d1,0#(.int ((ts.length:Nat):Int)),d3,d4,d5,0#(.int i),none],_,.pure (.tup (aH ts (mp ts A 0 (ts.getD i 0)))),[d0,d1,0#(.int ((ts.length:Nat):Int)),d3,d4,d5,0#(.int i),none],rfl,rfl,?_,rfl,rfl⟩;generalize aH ts (mp ts A 0 (ts.getD i 0))=CC at*;generalize ts.length=n at*;simp[aa,hJ n gJ,bG,a_,hc,cg,bU]
 rw[<-hr]at this;rw[this,Qu,A9 (λt=>D.tup (aH ts (mp ts A 0 t))) ts]
abbrev K7:DS:=ay (bI (az (aB bj (ag cR 5 1#2) 1#1)) (aq (au jZ [.val (aa 3),.val (aa 4)]) (ae [] 3)) bR) (ay (aq (ag gu 5 1#2) (ae [] 5)) (bI (az (ag eQ 5 1#0)) (aq (au jZ [.val (aa 4),.val (aa 4)]) (ae [] 4)) bR))
abbrev tV:DT:=az (ag eQ 5 1#0)
abbrev du(ru n:D)(g:Nat)(P Q:D)(l:Nat):Dl:=[0#ru,0#(.int g),0#n,0#P,0#Q,0#(.int l),none,none]
theorem qau(GT:DF)(ru n:D)(g:Nat)(P P' Q Q':D)(l:Nat)(h1:l%2=1->GT [.pure P,.pure Q]=some (.pure P',[.pure P,.pure Q]))(h2:l%2=0->P'=P)(h3:0<l/2->GT [.pure Q,.pure Q]=some (.pure Q',[.pure Q,.pure Q]))(h4:l/2=0->Q'=Q):(ay (bI (az (aB bj (ag cR 5 1#2) 1#1)) (aq (au GT [.val (aa 3),.val (aa 4)]) (ae [] 3)) bR) (ay (aq (ag gu 5 1#2) (ae [] 5)) (bI (az (ag eQ 5 1#0)) (aq (au GT [.val (aa 4),.val (aa 4)]) (ae [] 4)) bR))) (du ru n g P Q l)=.ok .next (du ru n g P' Q' (l/2)):=by
 have hm:cR (.int (l:Int)) (.int 2)=0#(.int ((l%2:Nat):Int)):=by simp only[cR,dW];rw[if_pos V'];simp
 have hd:gu (.int (l:Int)) (.int 2)=0#(.int ((l/2:Nat):Int)):=by simp only[gu,dW];rw[if_pos #v[mO]];simp
 have e1:bI (az (aB bj (ag cR 5 1#2) 1#1)) (aq (au GT [.val (aa 3),.val (aa 4)]) (ae [] 3)) bR (du ru n g P Q l)=.ok .next (du ru n g P' Q l):=by
  rcases Nat.mod_two_eq_zero_or_one l with h|h
  .have hm:cR (.int (l:Int)) (.int 2)=0#(.int 0):=by rw[hm,h];rfl
   rw[h2 h];unfold du;generalize(l:Int)=li at*;simp[du,ag,aP,ah,hm,lV,az]
  .have:=h1 h;have hm:cR (.int (l:Int)) (.int 2)=0#(.int 1):=by rw[hm,h];rfl
   unfold du;generalize(l:Int)=li at*;simp[du,ag,aP,ah,hm,lV,az,aq,au,aW,bB,bx,aa,bb,this,aL]
 have e2:aq (ag gu 5 1#2) (ae [] 5) (du ru n g P' Q l)=.ok .next (du ru n g P' Q (l/2)):=by unfold du;generalize((l/2:Nat):Int)=lh at*;generalize(l:Int)=li at*;simp[aq,ag,aP,ah,hd]
 have e3:bI (az (ag eQ 5 1#0)) (aq (au GT [.val (aa 4),.val (aa 4)]) (ae [] 4)) bR (du ru n g P' Q (l/2))=.ok .next (du ru n g P' Q' (l/2)):=by
  generalize l/2=k at*;by_cases h:0<k;.have:=h3 h;simp[du,ag,aP,ah,lU,az,h,aq,au,aW,bB,bx,aa,bb,this,aL]
  .rw[h4 Z'];simp[du,ag,aP,ah,lU,az,h]
 rw[bq e1,bq e2,e3]
theorem Ba(nd:ts.Nodup)(hl:ts.length<=26)(A:Nat->Nat->Nat)(hA:∀t∈ts,sm ts (A t)<=16)(ru n:D)(g:Nat)(hg:g<=1000):∀(f l a b:Nat),l<=f->f<=1000->a+b*l=g->(0<l->b<=1000)->∃Q,eB tV K7 (f+1+998999) (du ru n g (tb ts (mp ts A a)) (tb ts (mp ts A b)) l)=.ok .next (du ru n g (tb ts (mp ts A g)) Q 0)
 |f,0,a,b,_,_,h,_=>by
  have:a=g:=by lia
  subst this;refine⟨tb ts (mp ts A b),Kf (n:=f+998999) (T':=du ru n a (tb ts (mp ts A a)) (tb ts (mp ts A b)) 0) ?_⟩;simp[tV,du,ag,aP,ah,lU,az]|0,l+1,a,b,hf,_,_,_=>by lia|f+1,l+1,a,b,hf,hf1,h,hb=>by
  have hb:=hb Z';have ha:a<=1000:=by lia
  have B:∀k,k<=2000->∀t∈ts,∀s∈ts,mp ts A k t s<2^9000:=λk hk t ht s hs=>K3 nd hA ht hs k hk;have T1:jZ [.pure (tb ts (mp ts A a)),.pure (tb ts (mp ts A b))]=some (.pure (tb ts (mp ts A (a+b))),[.pure (tb ts (mp ts A a)),.pure (tb ts (mp ts A b))]):=by rw[K5 hl _ _ (B a Z') (B b Z'),qm λt j s hs=>wZ nd A a b hs]
  have T2:jZ [.pure (tb ts (mp ts A b)),.pure (tb ts (mp ts A b))]=some (.pure (tb ts (mp ts A (b+b))),[.pure (tb ts (mp ts A b)),.pure (tb ts (mp ts A b))]):=by rw[K5 hl _ _ (B b Z') (B b Z'),qm λt j s hs=>wZ nd A b b hs]
  have step:=qau jZ ru n g (tb ts (mp ts A a)) (if(l+1)%2=1 then tb ts (mp ts A (a+b))else tb ts (mp ts A a)) (tb ts (mp ts A b)) (if 0<(l+1)/2 then tb ts (mp ts A (b+b))else tb ts (mp ts A b)) (l+1) (λh=>%[if_pos h|T1]) λh=>by rw[if_neg Z'] (λh=>%[if_pos h|T2]) λh=>by rw[if_neg Z']
  have ht:tV (du ru n g (tb ts (mp ts A a)) (tb ts (mp ts A b)) (l+1))=.ok true (du ru n g (tb ts (mp ts A a)) (tb ts (mp ts A b)) (l+1)):=by
   generalize tb ts (mp ts A a)=PA;generalize tb ts (mp ts A b)=PB;have:(0:Int)<(l:Int)+1:=by lia
   simp[tV,du,ag,aP,ah,lU,az,this]
  have e:=Ke (n:=f+1+998999) ht step;rw[show f+1+1+998999=f+1+998999+1 by lia,e];have hP:(if(l+1)%2=1 then tb ts (mp ts A (a+b))else tb ts (mp ts A a))=tb ts (mp ts A (a+b*((l+1)%2))):=by
   rcases Nat.mod_two_eq_zero_or_one (l+1)with h|h;.rw[h];simp
   .rw[h];simp
  rw[hP];have hdm:=Nat.div_add_mod (l+1) 2;by_cases hh:0<(l+1)/2
  .rw[if_pos hh];refine Ba nd hl A hA ru n g hg f ((l+1)/2) _ _ Z' Z' ?_ λj=>?_
   .rw[<-h];have:b*(l+1)=b*(2*((l+1)/2)+(l+1)%2):=by rw[hdm]
    rw[this,Nat.mul_add,JA,<-Jg,QK b 2,Nat.two_mul,JA];lia
   .have:b*2<=b*(l+1):=Nat.mul_le_mul_left b Z';lia
  .rw[if_neg hh];have h0:(l+1)/2=0:=by lia
   have h1:l=0:=by lia
   subst h1;rw[h0];refine Ba nd hl A hA ru n g hg f 0 _ _ Z' Z' ?_ λh=>by lia
   rw[<-h];simp
theorem w8{bs:8#0}(R:bC h w bs)(g:Nat)(hg:g<=1000):lQ [.pure (aw h w bs),.pure (.int g)]=some (.pure (tb (bs.map (·.1)) (mp (bs.map (·.1)) (M bs) g)),[.pure (aw h w bs),.pure (.int g)]):=by
 have n1:=R.n1;have nd:=i5 R;have dC:(bs.map (·.1)).length<=26:= ~~~n1;have x2:=(fF h w bs).2.2;have hlen:bA (.tup (bs.map cf))=0#(.int (((bs.map (·.1)).length:Nat):Int)):=#v[bA];have K8:=tO R;have h1:tb (bs.map (·.1)) (M bs)=tb (bs.map (·.1)) (mp (bs.map (·.1)) (M bs) 1):=qm λt ht s j=>(zkp nd (M bs) ht).symm;rw[h1]at K8;obtain⟨Q,e⟩:=Ba nd dC (M bs) (K6 R) (aw h w bs) (.int (((bs.map (·.1)).length:Nat):Int)) g hg 1000 g 0 1 hg Z' Z' λj=>by lia
 have hc:=zaF nd dC (M bs) 0#(aw h w bs) 0#(.int g) none none none;have h0:D.tup ((bs.map (·.1)).map λt=>D.tup (aH (bs.map (·.1)) (mp (bs.map (·.1)) (M bs) 0 t)))=tb (bs.map (·.1)) (mp (bs.map (·.1)) (M bs) 0):=rfl;generalize((bs.map (·.1)).map λt=>D.tup (aH (bs.map (·.1)) (mp (bs.map (·.1)) (M bs) 0 t)))=U0 at*;generalize tb (bs.map (·.1)) (mp (bs.map (·.1)) (M bs) 0)=T0 at*;generalize tb (bs.map (·.1)) (mp (bs.map (·.1)) (M bs) 1)=T1 at*;generalize tb (bs.map (·.1)) (mp (bs.map (·.1)) (M bs) g)=TG at*;have gJ:(bs.map (·.1)).length<=1000000:=by lia
 generalize(bs.map (·.1)).length=n at*;generalize bs.map cf=BD at*;generalize aw h w bs=ru at*;rw[lQ];refine kY (T':=du ru (.int n) g TG Q 0) ?_;rw[HM];have fS:bw 8 [.pure ru,.pure (.int (g:Int))]=[0#ru,0#(.int g),none,none,none,none,none,none]:=rfl;rw[fS];have e1:aq (aE bA (aj (ag ax 0 1#2))) (ae [] 2) [0#ru,0#(.int g),none,none,none,none,none,none]=.ok .next [0#ru,0#(.int g),0#(.int n),none,none,none,none,none]:=by simp[aq,ag,aP,ah,x2,hlen]
 have e2:aq (aE bU (aj (aK [6] (bW (aa 2)) (ae [] 6) aG (aE bU (aj (aK [7] (bW (aa 2)) (ae [] 7) aG (iO (az (ag bj 6 (ah 7))) 3#1 3#0))))))) (ae [] 3) [0#ru,0#(.int g),0#(.int n),none,none,none,none,none]=.ok .next [0#ru,0#(.int g),0#(.int n),0#T0,none,none,none,none]:=by simp[aq,aa,hJ n gJ,bG,a_];rw[hc];simp[cg,bU,h0]
 have e3:aq (au iZ [.val (aa 0)]) (ae [] 4) [0#ru,0#(.int g),0#(.int n),0#T0,none,none,none,none]=.ok .next [0#ru,0#(.int g),0#(.int n),0#T0,0#T1,none,none,none]:=by simp[aq,au,aW,bB,bx,aa,bb,K8,aL]
 have e4:aq (aa 1) (ae [] 5) [0#ru,0#(.int g),0#(.int n),0#T0,0#T1,none,none,none]=.ok .next (du ru (.int n) g T0 T1 g):=by simp[aq,aa,du]
 rw[bq e1,bq e2,bq e3,bq e4];have e5:eB tV K7 1000000 (du ru (.int n) g T0 T1 g)=.ok .next (du ru (.int n) g TG Q 0):=e;rw[bq e5];simp[du,aa]
theorem Bb(f:Nat->Nat)(n:Nat):∀ts:List Nat,fz n (aH ts f)=true|[]=>#v[aH,fz]|t::r=>by have:=Bb f n r;unfold aH at this⊢;simp[fz,flat,this]
theorem K9(ts:List Nat)(X:Nat->Nat->Nat):∀us:List Nat,fz 49 (us.map λt=>D.tup (aH ts (X t)))=true|[]=>#v[fz]|u::r=>by have:=K9 ts X r;rw[We];show(flat 49 (.tup (aH ts (X u)))&&fz 49 _)=true;rw[this,Bool.and_true];exact Bb (X u) 48 ts
theorem qav(ts:List Nat)(X:Nat->Nat->Nat):bj (tb ts X) (tb ts X)=0#(.bl true):=by
 have hf:flat 50 (tb ts X)=true:=by show fz 49 (ts.map λt=>D.tup (aH ts (X t)))=true;exact K9 ts X ts
 have he:bc (tb ts X) (tb ts X)=true:=oh hf;unfold bj;rw[hf,he];rfl
abbrev HK:=Bool×Bool×Nat
abbrev HV:=List (HK×Nat)
variable{acc kvs:HV}
def bZ(k:HK):D:=.tup [.bl k.1,.bl k.2.1,.str [k.2.2]]
def hD(kvs:HV):List (D×D):=kvs.map λp=>(bZ p.1,D.int (p.2:Nat))
def cj(kvs:HV)(k:HK):Nat:=((kvs.find? λp=>decide (p.1=k)).map (·.2)).getD 0
def lX(kvs:HV)(k:HK)(m:Nat):HV:=if(kvs.any λp=>decide (p.1=k))=true then kvs.map λp=>if p.1=k then(p.1,cj kvs k+m)else p else kvs++[(k,m)]
theorem Bc(a b:HK):bc (bZ a) (bZ b)=decide (a=b):=by
 obtain⟨a1,a2,a3⟩:=a;obtain⟨b1,b2,b3⟩:=b;unfold bZ;simp only[bc,fw];by_cases h1:a1=b1
 .by_cases h2:a2=b2;.by_cases h3:a3=b3<;>simp[h1,h2,h3]
  .simp[h2]
 .simp[h1]
theorem K_(kvs:HV)(k:HK):iX (jx (bZ k)) (hD kvs) (bZ k)=true:=by unfold iX jx hD bZ;simp[iW,cQ,iI]
theorem qaw(kvs:HV)(k:HK):hU (hD kvs) (bZ k)=(kvs.find? λp=>decide (p.1=k)).map λp=>D.int (p.2:Nat):=by
 unfold hU hD;rw[Jl];have:((λq:D×D=>bc q.1 (bZ k))∘λp:HK×Nat=>(bZ p.1,D.int (p.2:Nat)))=λp=>decide (p.1=k):=by funext p;exact Bc p.1 k
 rw[this,JT];rfl
theorem zkN(kvs:HV)(k:HK):(hU (hD kvs) (bZ k)).getD (.int 0)=.int (cj kvs k:Nat):=by rw[qaw];unfold cj;cases kvs.find? λp=>decide (p.1=k)<;>rfl
theorem qax(kvs:HV)(k:HK):((hD kvs).any λq=>bc q.1 (bZ k))=kvs.any λp=>decide (p.1=k):=by unfold hD;rw[List.any_map];congr 1;funext p;exact Bc p.1 k
theorem La{k:HK}(h:(kvs.any λp=>decide (p.1=k))=false):cj kvs k=0:=by unfold cj;rw[List.find?_eq_none.mpr λp hp=>by have:=List.any_eq_false.mp h p hp;exact this];rfl
universe H in theorem qay(kvs:HV)(k:HK)(m:Nat):sv (hD kvs) (bZ k) (.int ((cj kvs k:Nat)+(m:Nat):Int))=hD (lX kvs k m):=by
 unfold sv lX;rw[qax];split
 .unfold hD;rw[Wn,Wn];refine WT λp hp=>?_;simp only[Function.comp,Bc];by_cases h:p.1=k;.simp[h]
  .simp[h]
 .rename_i h;rw[La (Bool.eq_false_iff.mpr h)];unfold hD;simp
structure dU(ts:List Nat)(kvs:HV):Prop where
 nd:(kvs.map (·.1)).Nodup
 ts:∀p∈kvs,p.1.2.2∈ts
theorem Lb(kvs:HV)(k:HK)(m:Nat):(lX kvs k m).map (·.1)=if(kvs.any λp=>decide (p.1=k))=true then kvs.map (·.1)else kvs.map (·.1)++[k]:=by
 unfold lX;split;.rw[Wn];refine WT λp hp=>?_;simp only[Function.comp];split<;>rfl
 .simp
universe H in theorem ziq{k:HK}(h:dU ts kvs)(hk:k.2.2∈ts):dU ts (lX kvs k m):=by
 have hm:∀q∈(lX kvs k m).map (·.1),q.2.2∈ts:=λq hq=>by
  rw[Lb]at hq;split at hq;.obtain⟨p,hp,rfl⟩:=Wj.mp hq;exact h.ts p hp
  .rcases WI.mp hq with hq|hq;.obtain⟨p,hp,rfl⟩:=Wj.mp hq;exact h.ts p hp
   .have:q=k:= ~~~hq;rw[this];exact hk
 refine⟨?_,λp hp=>hm p.1 (Qh hp)⟩;rw[Lb];split;.exact h.nd
 .rename_i q;refine JN.mpr ⟨h.nd,V',λx hx y hy e=>q ?_⟩;have zg:y=k:= ~~~hy;obtain⟨p,hp,e2⟩:=Wj.mp hx;exact List.any_eq_true.mpr ⟨p,hp,decide_eq_true (by rw[e2,e,zg])⟩
theorem Lc{α:Type}[DecidableEq α]:∀{l ts:List α},l.Nodup->(∀x∈l,x∈ts)->l.length<=ts.length
 |[],_,_,_=>Qc _|a::r,ts,nd,h=>by
  obtain⟨n1,n2⟩:=WL.mp nd;have ha:=h a Wc;have:=Lc (l:=r) (ts:=ts.erase a) n2 λx hx=>by have:x≠a:=λe=>n1 (by rw[<-e];exact hx);exact(List.mem_erase_of_ne this).mpr (h x (W8 _ hx))
  rw[List.length_erase_of_mem ha]at this;have:=List.length_pos_of_mem ha;simp;lia
theorem dU.len(h:dU ts kvs):kvs.length<=4*ts.length:=by
 have:=Lc h.nd (ts:=ts.flatMap λn=>[(true,true,n),(true,false,n),(false,true,n),(false,false,n)]) λq hq=>by obtain⟨p,hp,rfl⟩:=Wj.mp hq;have:=h.ts p hp;rw[List.mem_flatMap];refine⟨p.1.2.2,this,?_⟩;obtain⟨⟨a,b,c⟩,m⟩:=p;cases a<;>cases b<;>simp
 rw[WB]at this;have e:∀l:List Nat,(l.flatMap λn=>[((true,true,n):HK),(true,false,n),(false,true,n),(false,false,n)]).length=4*l.length:=λl=>by induction l with|nil=>rfl|cons a r ih=>rw[List.flatMap_cons,Qn,ih];simp;lia
 rw[e]at this;exact this
def lY(dn rt:Nat)(key:HK)(m i j n:Nat)(acc:HV):HV:=if((key.1||decide (i<=dn))&&(key.2.1||decide (j<=rt)))=true then lX acc (key.1||decide (i<dn),key.2.1||decide (j<rt),n) m else acc
def nJ(dn rt:Nat)(key:HK)(m i:Nat):Nat->Tx->HV->HV|_,[],acc=>acc|j,n::r,acc=>nJ dn rt key m i (j+1) r (lY dn rt key m i j n acc)
def nK(dn rt:Nat)(key:HK)(m:Nat):Nat->List Tx->HV->HV|_,[],acc=>acc|i,row::r,acc=>nK dn rt key m (i+1) r (nJ dn rt key m i 0 row acc)
def f9(bs:8#0)(dn rt:Nat):HV->HV->HV|[],acc=>acc|p::r,acc=>f9 bs dn rt r (nK dn rt p.1 p.2 0 (bM bs p.1.2.2) acc)
theorem Be{rt:Nat}{key:HK}(h:dU ts acc)(hn:n∈ts):dU ts (lY dn rt key m i j n acc):=by
 unfold lY;split;.exact ziq h hn
 .exact h
theorem w_{rt:Nat}{key:HK}:∀{j:Nat}{row:Tx}{acc:HV},dU ts acc->(∀n∈row,n∈ts)->dU ts (nJ dn rt key m i j row acc)|_,[],_,h,_=>h|j,n::r,acc,h,q=>by unfold nJ;exact w_ (Be h (q n Wc)) λx hx=>q x (W8 _ hx)
theorem xa{rt:Nat}{key:HK}:∀{i:Nat}{B:List Tx}{acc:HV},dU ts acc->(∀row∈B,∀n∈row,n∈ts)->dU ts (nK dn rt key m i B acc)|_,[],_,h,_=>h|i,row::r,acc,h,q=>by unfold nK;exact xa (w_ h (q row Wc)) λx hx=>q x (W8 _ hx)
theorem Bf{bs:8#0}(R:bC h w bs)(hn:n∈bs.map (·.1)):(bM bs n).length=h/\∀row∈bM bs n,row.length=w/\∀x∈row,x∈bs.map (·.1):=by obtain⟨b,hb,_,_,e⟩:=j3 hn;rw[e];exact R.bM b hb
theorem Ld{rt:Nat}{bs:8#0}(R:bC h w bs):∀{l acc:HV},(∀p∈l,p.1.2.2∈bs.map (·.1))->dU (bs.map (·.1)) acc->dU (bs.map (·.1)) (f9 bs dn rt l acc)|[],_,_,h=>h|p::r,acc,q,h=>by unfold f9;exact Ld R (λx hx=>q x (W8 _ hx)) (xa h λrow hr n hn=>((Bf R (q p Wc)).2 row hr).2 n hn)
def cJ(bs:8#0)(h w g R C:Nat)(t:Nat):Nat->HV|0=>[((decide (R=h^g),decide (C=w^g),t),1)]|k+1=>f9 bs (R/h^(g-(k+1))%h) (C/w^(g-(k+1))%w) (cJ bs h w g R C t k) []
theorem lZ{R C:Nat}{bs:8#0}(Ru:bC h w bs)(ht:t∈bs.map (·.1)):∀k,dU (bs.map (·.1)) (cJ bs h w g R C t k)|0=>⟨#v[cJ],λp hp=>by simp[cJ]at hp;rw[hp];exact ht⟩|k+1=>Ld Ru (lZ Ru ht k).ts ⟨V',λp hp=>by simp at hp⟩
def rs(f:Nat->Nat->Nat):Nat->Tx->Nat|_,[]=>0|j,n::r=>f j n+rs f (j+1) r
def gD(f:Nat->Nat->Nat->Nat):Nat->List Tx->Nat|_,[]=>0|i,row::r=>rs (f i) 0 row+gD f (i+1) r
def ws(W:HK->Nat):HV->Nat|[]=>0|p::r=>p.2*W p.1+ws W r
theorem Lf(W:HK->Nat):∀a b:HV,ws W (a++b)=ws W a+ws W b|[],b=>#v[ws]|p::r,b=>by show p.2*W p.1+ws W (r++b)=p.2*W p.1+ws W r+ws W b;rw[Lf W r b];lia
theorem Lg(W:HK->Nat)(k:HK)(c:Nat):∀l:HV,(l.map (·.1)).Nodup->(l.any λp=>decide (p.1=k))=true->ws W (l.map λp=>if p.1=k then(p.1,cj l k+c)else p)=ws W l+c*W k
 |[],_,h=>by simp at h|(a,m)::r,nd,h=>by
  rw[We]at nd;obtain⟨n1,n2⟩:=WL.mp nd;by_cases e:a=k
  .subst e;have hr:(r.map λp:HK×Nat=>if p.1=a then(p.1,cj ((a,m)::r) a+c)else p)=r:=by
    have:r.map (λp:HK×Nat=>if p.1=a then(p.1,cj ((a,m)::r) a+c)else p)=r.map id:=WT λp hp=>by rw[if_neg λe=>n1 (Wj.mpr ⟨p,hp,e⟩)];rfl
    rw[this,List.map_id]
   have hg:cj ((a,m)::r) a=m:=by unfold cj;simp
   rw[We,hr,hg];simp only[if_true];show(m+c)*W a+ws W r=m*W a+ws W r+c*W a;rw[JA];lia
  .have hr:(r.any λp=>decide (p.1=k))=true:=by simpa[e]using h
   have hg:cj ((a,m)::r) k=cj r k:=by unfold cj;simp[e]
   have ih:=Lg W k c r n2 hr;rw[We,hg];simp only[e,if_false];show m*W a+ws W _=m*W a+ws W r+c*W k;rw[ih];lia
universe H in theorem ziv(W:HK->Nat){l:HV}(nd:(l.map (·.1)).Nodup)(k:HK)(c:Nat):ws W (lX l k c)=ws W l+c*W k:=by
 unfold lX;split;.rename_i h;exact Lg W k c l nd h
 .rw[Lf];show ws W l+(c*W k+0)=_;lia
theorem xb(k:HK):∀l:HV,(l.map (·.1)).Nodup->ws (λq=>if q=k then 1 else 0) l=cj l k
 |[],_=>rfl|(a,m)::r,nd=>by
  rw[We]at nd;obtain⟨n1,n2⟩:=WL.mp nd;have ih:=xb k r n2;show m*(if a=k then 1 else 0)+ws _ r=_;rw[ih];by_cases e:a=k
  .subst e;have hz:cj r a=0:=La (by rw[Uj];intro p hp e;exact n1 (Wj.mpr ⟨p,hp,~~~e⟩));have hg:cj ((a,m)::r) a=m:=by unfold cj;simp
   rw[hz,hg];simp
  .have hg:cj ((a,m)::r) k=cj r k:=by unfold cj;simp[e]
   rw[hg];simp[e]
theorem Bg{W W':HK->Nat}:∀{l:HV},(∀p∈l,W p.1=W' p.1)->ws W l=ws W' l|[],_=>rfl|p::r,h=>by show p.2*W p.1+ws W r=p.2*W' p.1+ws W' r;rw[h p Wc,Bg λq hq=>h q (W8 _ hq)]
section
variable(W:HK->Nat)(dn rt:Nat)(key:HK)(m:Nat)
def cw(i j n:Nat):Nat:=if((key.1||decide (i<=dn))&&(key.2.1||decide (j<=rt)))=true then W (key.1||decide (i<dn),key.2.1||decide (j<rt),n)else 0
theorem qaz(ha:dU ts acc)(i j n:Nat):ws W (lY dn rt key m i j n acc)=ws W acc+m*cw W dn rt key i j n:=by
 unfold lY cw;split;.exact ziv W ha.nd _ _
 .lia
theorem Lh(i:Nat):∀(row:Tx)(j:Nat){acc:HV},dU ts acc->(∀n∈row,n∈ts)->ws W (nJ dn rt key m i j row acc)=ws W acc+m*rs (cw W dn rt key i) j row|[],j,acc,_,_=>by unfold nJ rs;lia|n::r,j,acc,ha,hr=>by unfold nJ rs;rw[Lh i r (j+1) (Be ha (hr n Wc)) λx hx=>hr x (W8 _ hx),qaz W dn rt key m ha,Nat.mul_add];lia
theorem Li:∀(B:List Tx)(i:Nat){acc:HV},dU ts acc->(∀row∈B,∀n∈row,n∈ts)->ws W (nK dn rt key m i B acc)=ws W acc+m*gD (cw W dn rt key) i B|[],i,acc,_,_=>by unfold nK gD;lia|row::r,i,acc,ha,hr=>by unfold nK gD;rw[Li r (i+1) (w_ ha (hr row Wc)) λx hx=>hr x (W8 _ hx),Lh W dn rt key m i row 0 ha (hr row Wc),Nat.mul_add];lia
end
theorem Lj{bs:8#0}(R:bC h w bs)(W:HK->Nat)(dn rt:Nat):∀(l:HV){acc:HV},(∀p∈l,p.1.2.2∈bs.map (·.1))->dU (bs.map (·.1)) acc->ws W (f9 bs dn rt l acc)=ws W acc+ws (λk=>gD (cw W dn rt k) 0 (bM bs k.2.2)) l|[],acc,_,_=>by unfold f9 ws;lia|p::r,acc,q,ha=>by have oJ:=λrow hr n hn=>((Bf R (q p Wc)).2 row hr).2 n hn;unfold f9;rw[Lj R W dn rt r (λx hx=>q x (W8 _ hx)) (xa ha oJ),Li W dn rt p.1 p.2 (bM bs p.1.2.2) 0 ha oJ];show _=ws W acc+(p.2*gD (cw W dn rt p.1) 0 (bM bs p.1.2.2)+ws _ r);rw[Uv]
def tl(b X:Nat)(a:Bool):Nat:=if a=true then b else X%b
noncomputable abbrev pS(d:D):Option S:=0#d
noncomputable abbrev pO(d:D):Option S:=some (.own d)
def c_(bs:8#0):D:=.aA (bs.map λb=>(Sum.inr [b.1],bQ b.2))
theorem Lk:∀bs:8#0,ir (bs.map cf)=some (bs.map λb=>(Sum.inr [b.1],bQ b.2))|[]=>rfl|b::r=>by have:=Lk r;simp only[We];simp[ir,dz,this]
theorem Ll{bs:8#0}(R:bC h w bs):gy (.tup (bs.map cf))=pO (c_ bs):=by
 unfold gy;simp only[Lk,Qg,WB];have hz:Wd=16777216:=rfl;rw[if_pos (by have:=R.n1;lia),wL];.rfl
 .simp only[Qu,Wn];rw[Jt,JO];have:=R.up;rw[JO]at this;exact this.imp λ{a b}iK=>by simp;lia
theorem Lm(bs:8#0)(n:Nat):dw (bs.map λb=>((Sum.inr [b.1]:a7),bQ b.2)) (.inr [n])=(bs.find? λb=>decide (b.1=n)).map λb=>bQ b.2:=by unfold dw;rw[Jl];simp[Function.comp_def]
theorem qaA{bs:8#0}(h:n∈bs.map (·.1)):jt (c_ bs) (.str [n])=pS (bQ (bM bs n)):=by obtain⟨b,hb,_,e,e2⟩:=j3 h;show((dz (.str [n])).bind λk=>(dw (bs.map λb=>((Sum.inr [b.1]:a7),bQ b.2)) k).map S.pure)=_;simp only[dz,Qg,Lm,e,WM,e2]
theorem qaB{bs:8#0}(h:n∈bs.map (·.1)):g8 true (.str [n]) (c_ bs)=pS (.bl false):=by obtain⟨b,hb,_,e,e2⟩:=j3 h;show((dz (.str [n])).map λk=>S.pure (.bl (if true then !(dw (bs.map λb=>((Sum.inr [b.1]:a7),bQ b.2)) k).isSome else(dw (bs.map λb=>((Sum.inr [b.1]:a7),bQ b.2)) k).isSome)))=_;simp only[dz,WM,Lm,e,WM];rfl
theorem zkT{b:DS}(e:b (bw n [.pure x,.pure y])=.ok .next T'):bE [] n b [.pure x,.pure y]=some (.pure .aX,[.pure x,.pure y]):=by rw[lW,e];rfl
theorem Bh(k t:Nat):bo (k:Int) (t+1)=.int (k:Int)::bo ((k+1:Nat):Int) t:=by unfold bo;rw[Jm,We,Wn];simp only[Function.comp_def,List.cons.injEq,D.int.injEq];refine⟨V',WT λi j=>?_⟩;simp only[D.int.injEq];push_cast;lia
theorem Ln{bs:8#0}(R:bC h w bs)(ht:t0∈bs.map (·.1)):lP [.pure (aw h w bs),.pure (.str [t0])]=some (.pure .aX,[.pure (aw h w bs),.pure (.str [t0])]):=by have x2:=(fF h w bs).2.2;have hd:=Ll R;have hi:=qaB ht;rw[lP,HA];generalize aw h w bs=ru at*;generalize D.tup (bs.map cf)=bd at*;generalize c_ bs=dd at*;refine zkT (T':=[pS ru,pS (.str [t0])]) ?_;simp[bw,az,fV,fN,ah,aa,ag,aP,x2,hd,hi]
theorem zdW{bs:8#0}(R:bC h w bs):kQ [.pure (aw h w bs)]=some (.own (dh (bs.map (·.1))),[.pure (aw h w bs)]):=by
 have n1:=R.n1;have x2:=(fF h w bs).2.2;have c:=eE (cs:=[1,2]) (g:=aR 2 (aC (ae [] 1) (aC (ae [] 2) aT))) (t:=aG) (el:=aa 1) cf (λb=>D.str [b.1]) [pS (aw h w bs),none,none] bs [] (by rw[bV];simp;lia) λb hb=>⟨[pS (aw h w bs),pS (.str [b.1]),pS (bQ b.2)],_,.pure (.str [b.1]),[pS (aw h w bs),pS (.str [b.1]),pS (bQ b.2)],rfl,rfl,#v[aa],rfl,rfl⟩;have et:dh (bs.map (·.1))=.lst (bs.map λb=>D.str [b.1]):=by unfold dh;rw[Wn];rfl
 rw[kQ,zV,et];generalize aw h w bs=ru at*;generalize hB:bs.map cf=B at*;generalize(bs.map λb=>D.str [b.1])=Y at*;refine gP (T':=[pS ru,none,none]) ?_;have i:aU (ag ax 0 1#2) [pS ru,none,none]=.ok B [pS ru,none,none]:=by simp[eF,ag,aP,ah,x2]
 simp only[bw];simp[i,bG,a_];rw[c];simp[cg]
abbrev dM(bd hd:D)(dn rt:Nat)(acc:HV)(o5 o6 o7 o8 o9 bT iA fj fo da:Option D):Dl:=[pS bd,pS hd,pS (.int (dn:Nat)),pS (.int (rt:Nat)),pO (.dic (hD acc)),o5.map .pure,o6.map .pure,o7.map .pure,o8.map .pure,o9.map .pure,bT.map .pure,iA.map .pure,fj.map .pure,fo.map .pure,da.map .pure]
abbrev cI:DT:=lx (fT (az (aa 7)) (az (ag kq 10 (ah 2)))) (fT (az (aa 8)) (az (ag kq 12 (ah 3))))
abbrev cP:DE:=cF (aQ (oo (aa 7) (ag ji 10 (ah 2))) (aQ (oo (aa 8) (ag ji 12 (ah 3))) (aQ (aa 13) bS)))
abbrev cS:DS:=sy 4 (aa 14) (aB bD (sE 4 (aa 14) 3#0) (ah 6))
abbrev cB:DS:=bI cI (ay (aq cP (ae [] 14)) cS) bR
theorem Lo(i j:Nat):kq (.int (i:Nat)) (.int (j:Nat))=pS (.bl (decide (i<=j))):=by simp[wH]
theorem Lp(i j:Nat):ji (.int (i:Nat)) (.int (j:Nat))=pS (.bl (decide (i<j))):=by have:ji (.int (i:Nat)) (.int (j:Nat))=pS (.bl (decide ((i:Int)<(j:Int)))):=rfl;rw[this];congr 2;rw[J9];simp
theorem zd7(bd hd:D)(dn rt:Nat)(acc:HV)(ts:List Nat)(dC:ts.length<=26)(ha:dU ts acc)(kd:D)(ar ac:Bool)(td:D)(m i j n:Nat)(sd:D)(da:Option D):∃o14',cB (dM bd hd dn rt acc (some kd) (some (.int (m:Nat))) (some (.bl ar)) (some (.bl ac)) (some td) (some (.int (i:Nat))) (some sd) (some (.int (j:Nat))) (some (.str [n])) da)=.ok .next (dM bd hd dn rt (lY dn rt (ar,ac,0) m i j n acc) (some kd) (some (.int (m:Nat))) (some (.bl ar)) (some (.bl ac)) (some td) (some (.int (i:Nat))) (some sd) (some (.int (j:Nat))) (some (.str [n])) o14'):=by
 have l1:=Lo i dn;have l2:=Lo j rt;have l3:=Lp i dn;have l4:=Lp j rt;have hl:=ha.len;have hz:(hD acc).length<Wd:=by unfold hD;rw[WB,bV];lia
 generalize hN1:D.int (m:Nat)=mD at*;generalize hN2:D.int (i:Nat)=iD at*;generalize hN3:D.int (j:Nat)=jD at*;generalize hN4:D.int (dn:Nat)=dD at*;generalize hN5:D.int (rt:Nat)=rD at*;have tI:cI (dM bd hd dn rt acc (some kd) (some mD) (some (.bl ar)) (some (.bl ac)) (some td) (some iD) (some sd) (some jD) (some (.str [n])) da)=.ok ((ar||decide (i<=dn))&&(ac||decide (j<=rt))) (dM bd hd dn rt acc (some kd) (some mD) (some (.bl ar)) (some (.bl ac)) (some td) (some iD) (some sd) (some jD) (some (.str [n])) da):=by unfold dM cI;rw[hN4,hN5];generalize decide (i<=dn)=b1 at*;generalize decide (j<=rt)=b2 at*;cases ar<;>cases ac<;>cases b1<;>simp[az,aa,ah,ag,aP,l1,l2]
 have tP:cP (dM bd hd dn rt acc (some kd) (some mD) (some (.bl ar)) (some (.bl ac)) (some td) (some iD) (some sd) (some jD) (some (.str [n])) da)=.ok (.pure (bZ (ar||decide (i<dn),ac||decide (j<rt),n))) (dM bd hd dn rt acc (some kd) (some mD) (some (.bl ar)) (some (.bl ac)) (some td) (some iD) (some sd) (some jD) (some (.str [n])) da):=by unfold dM cP bZ;rw[hN4,hN5];generalize decide (i<dn)=b1 at*;generalize decide (j<rt)=b2 at*;cases ar<;>cases ac<;>simp[oo,aa,ah,ag,aP,l3,l4]
 unfold lY;by_cases hc:((ar||decide (i<=dn))&&(ac||decide (j<=rt)))=true
 .rw[if_pos hc];rw[hc]at tI;refine⟨some (bZ (ar||decide (i<dn),ac||decide (j<rt),n)),?_⟩;generalize(ar||decide (i<dn),ac||decide (j<rt),n)=K at*;have g:=K_ acc K;have v:=zkN acc K;have p:=qay acc K m;have ad:bD (.int (cj acc K:Nat)) mD=pS (.int ((cj acc K:Nat)+(m:Nat):Int)):=by rw[<-hN1];rfl
  rw[cB];show(cI _).bind _=_;rw[tI];simp only[dR,if_true];rw[bq (T':=dM bd hd dn rt acc (some kd) (some mD) (some (.bl ar)) (some (.bl ac)) (some td) (some iD) (some sd) (some jD) (some (.str [n])) (some (bZ K))) (by unfold aq;rw[tP];simp)];unfold dM;rw[<-p];clear tI tP p;generalize((cj acc K:Nat)+(m:Nat):Int)=sm at*;generalize hD acc=ds at*;generalize bZ K=kk at*;generalize D.int (cj acc K:Nat)=gg at*;simp[cS,sy,sE,v9,v7,aa,ah,S.d,g,v,ad,hz]
 .rw[if_neg hc];rw[Bool.eq_false_iff.mpr hc]at tI;refine⟨da,?_⟩;rw[cB];show(cI _).bind _=_;rw[tI];simp
def nL(k:Nat)(ds:List D):List D:=ds.mapIdx λi d=>D.tup [.int ((i+k:Nat):Int),d]
theorem Lq(ds:List D):kF ds=nL 0 ds:=rfl
theorem Lr(k:Nat)(d:D)(r:List D):nL k (d::r)=.tup [.int (k:Nat),d]::nL (k+1) r:=by
 unfold nL;rw[List.mapIdx_cons];congr 1;.rw[Q4]
 .congr 1;funext i d;rw[show i+1+k=i+(k+1)by lia]
abbrev Ls:DG:=aR 2 (aC (ae [] 12) (aC (ae [] 13) aT))
theorem Lu(bd hd:D)(dn rt:Nat)(ts:List Nat)(dC:ts.length<=26)(kd:D)(ar ac:Bool)(td:D)(m i t:Nat)(sd:D):∀(row:Tx)(j:Nat)(acc:HV)(fj fo da:Option D),dU ts acc->(∀n∈row,n∈ts)->∃o12' o13' o14',forL Ls cB (nL j (row.map λn=>D.str [n])) (dM bd hd dn rt acc (some kd) (some (.int (m:Nat))) (some (.bl ar)) (some (.bl ac)) (some td) (some (.int (i:Nat))) (some sd) fj fo da)=.ok .next (dM bd hd dn rt (nJ dn rt (ar,ac,t) m i j row acc) (some kd) (some (.int (m:Nat))) (some (.bl ar)) (some (.bl ac)) (some td) (some (.int (i:Nat))) (some sd) o12' o13' o14')|[],j,acc,fj,fo,da,_,_=>⟨fj,fo,da,rfl⟩|n::r,j,acc,fj,fo,da,ha,hr=>by obtain⟨q14,e1⟩:=zd7 bd hd dn rt acc ts dC ha kd ar ac td m i j n sd da;have ec:lY dn rt (ar,ac,0) m i j n acc=lY dn rt (ar,ac,t) m i j n acc:=rfl;rw[ec]at e1;obtain⟨p12,p13,p14,e2⟩:=Lu bd hd dn rt ts dC kd ar ac td m i t sd r (j+1) _ (some (.int (j:Nat))) (some (.str [n])) q14 (Be (dn:=dn) (rt:=rt) (key:=(ar,ac,t)) (m:=m) (i:=i) (j:=j) ha (hr n Wc)) λx hx=>hr x (W8 _ hx);refine⟨p12,p13,p14,?_⟩;rw[We,Lr,j7 (T':=dM bd hd dn rt acc (some kd) (some (.int (m:Nat))) (some (.bl ar)) (some (.bl ac)) (some td) (some (.int (i:Nat))) (some sd) (some (.int (j:Nat))) (some (.str [n])) da) rfl e1];exact e2
abbrev gA:DG:=aR 2 (aC (ae [] 10) (aC (ae [] 11) aT))
abbrev rB:DS:=ck (r_ (aa 11)) Ls cB
theorem Lv(bd hd:D)(dn rt:Nat)(ts:List Nat)(dC:ts.length<=26)(kd:D)(ar ac:Bool)(td:D)(m t:Nat):∀(B:List Tx)(i:Nat)(acc:HV)(bT iA fj fo da:Option D),dU ts acc->(∀row∈B,∀n∈row,n∈ts)->∃o10' o11' o12' o13' o14',forL gA rB (nL i (B.map .str)) (dM bd hd dn rt acc (some kd) (some (.int (m:Nat))) (some (.bl ar)) (some (.bl ac)) (some td) bT iA fj fo da)=.ok .next (dM bd hd dn rt (nK dn rt (ar,ac,t) m i B acc) (some kd) (some (.int (m:Nat))) (some (.bl ar)) (some (.bl ac)) (some td) o10' o11' o12' o13' o14')
 |[],i,acc,bT,iA,fj,fo,da,_,_=>⟨bT,iA,fj,fo,da,rfl⟩|row::r,i,acc,bT,iA,fj,fo,da,ha,hr=>by
  obtain⟨gQ,q13,q14,e1⟩:=Lu bd hd dn rt ts dC kd ar ac td m i t (.str row) row 0 acc fj fo da ha (hr row Wc);obtain⟨f_,p11,p12,p13,p14,e2⟩:=Lv bd hd dn rt ts dC kd ar ac td m t r (i+1) _ (some (.int (i:Nat))) (some (.str row)) gQ q13 q14 (w_ (dn:=dn) (rt:=rt) (key:=(ar,ac,t)) (m:=m) (i:=i) (j:=0) ha (hr row Wc)) λx hx=>hr x (W8 _ hx);refine⟨f_,p11,p12,p13,p14,?_⟩;rw[We,Lr,j7 (T':=dM bd hd dn rt acc (some kd) (some (.int (m:Nat))) (some (.bl ar)) (some (.bl ac)) (some td) (some (.int (i:Nat))) (some (.str row)) fj fo da) rfl];.exact e2
  .refine(iy (ds:=nL 0 (row.map λn=>D.str [n])) ?_).trans e1;rw[<-Lq];simp[r_,aa,S.d]
abbrev kB:DS:=ay (aq (aa 5) (aR 3 (aC (ae [] 7) (aC (ae [] 8) (aC (ae [] 9) aT))))) (ck (rY (ag jt 0 (ah 9))) gA rB)
abbrev gK:DG:=aR 2 (aC (ae [] 5) (aC (ae [] 6) aT))
theorem Lw{h w:Nat}{bs:8#0}(R:bC h w bs)(hd:D)(dn rt:Nat):∀(kvs acc:HV)(o5 o6 o7 o8 o9 bT iA fj fo da:Option D),(∀p∈kvs,p.1.2.2∈bs.map (·.1))->dU (bs.map (·.1)) acc->∃o5' o6' o7' o8' o9' o10' o11' o12' o13' o14',forL gK kB (iY (hD kvs)) (dM (c_ bs) hd dn rt acc o5 o6 o7 o8 o9 bT iA fj fo da)=.ok .next (dM (c_ bs) hd dn rt (f9 bs dn rt kvs acc) o5' o6' o7' o8' o9' o10' o11' o12' o13' o14')
 |[],acc,o5,o6,o7,o8,o9,bT,iA,fj,fo,da,_,_=>⟨o5,o6,o7,o8,o9,bT,iA,fj,fo,da,rfl⟩|((ar,ac,t),m)::r,acc,o5,o6,o7,o8,o9,bT,iA,fj,fo,da,hk,ha=>by
  have n1:=R.n1;have ht:t∈bs.map (·.1):=hk _ Wc;have oJ:=λrow hr n hn=>((Bf R ht).2 row hr).2 n hn;obtain⟨q10,q11,gQ,q13,q14,e1⟩:=Lv (c_ bs) hd dn rt (bs.map (·.1)) (~~~n1) (bZ (ar,ac,t)) ar ac (.str [t]) m t (bM bs t) 0 acc bT iA fj fo da ha oJ;obtain⟨p5,p6,p7,p8,p9,f_,p11,p12,p13,p14,e2⟩:=Lw R hd dn rt r _ (some (bZ (ar,ac,t))) (some (.int (m:Nat))) (some (.bl ar)) (some (.bl ac)) (some (.str [t])) q10 q11 gQ q13 q14 (λp hp=>hk p (W8 _ hp)) (xa (dn:=dn) (rt:=rt) (key:=(ar,ac,t)) (m:=m) (i:=0) ha oJ);refine⟨p5,p6,p7,p8,p9,f_,p11,p12,p13,p14,?_⟩;have ei:iY (hD (((ar,ac,t),m)::r))=.tup [bZ (ar,ac,t),.int (m:Nat)]::iY (hD r):=rfl;rw[ei,j7 (T':=dM (c_ bs) hd dn rt acc (some (bZ (ar,ac,t))) (some (.int (m:Nat))) o7 o8 o9 bT iA fj fo da) rfl];.exact e2
  .have x:=qaA ht;rw[kB,bq (T':=dM (c_ bs) hd dn rt acc (some (bZ (ar,ac,t))) (some (.int (m:Nat))) (some (.bl ar)) (some (.bl ac)) (some (.str [t])) bT iA fj fo da) (by unfold bZ;simp[aq,aa,aR,aC,aT,S.d])];refine(iy (ds:=nL 0 ((bM bs t).map .str)) ?_).trans e1;rw[<-Lq];have ef:bQ (bM bs t)=.tup ((bM bs t).map .str):=rfl;rw[ef]at x;generalize(bM bs t).map D.str=BS at*;generalize c_ bs=DD at*;simp[rY,aa,ah,ag,aP,x,S.d]
theorem zkS{b:DS}{z u:D}{v:S}(e:b (bw n [.pure x,.pure y,.pure z,.pure u])=.ok (.ret v) T'):bE [] n b [.pure x,.pure y,.pure z,.pure u]=some (v,[.pure x,.pure y,.pure z,.pure u]):=by rw[lW,e];rfl
theorem zjv{bs:8#0}(R:bC h w bs)(kvs:HV)(hk:∀p∈kvs,p.1.2.2∈bs.map (·.1))(dn rt:Nat):pX [.pure (c_ bs),.pure (.dic (hD kvs)),.pure (.int (dn:Nat)),.pure (.int (rt:Nat))]=some (.own (.dic (hD (f9 bs dn rt kvs []))),[.pure (c_ bs),.pure (.dic (hD kvs)),.pure (.int (dn:Nat)),.pure (.int (rt:Nat))]):=by
 obtain⟨p5,p6,p7,p8,p9,f_,p11,p12,p13,p14,e⟩:=Lw R (.dic (hD kvs)) dn rt kvs [] none none none none none none none none none none hk ⟨V',λp hp=>by simp at hp⟩;rw[pX,HD];generalize f9 bs dn rt kvs []=RS at*;generalize c_ bs=DD at*;have i:jy (aa 1) (dM DD (.dic (hD kvs)) dn rt [] none none none none none none none none none none)=.ok (iY (hD kvs)) (dM DD (.dic (hD kvs)) dn rt [] none none none none none none none none none none):=by generalize hD kvs=HH at*;simp[jy,aa,S.d]
 generalize iY (hD kvs)=IT at*;generalize D.dic (hD kvs)=HH at*;refine zkS (T':=(dM DD HH dn rt RS p5 p6 p7 p8 p9 f_ p11 p12 p13 p14).set 4 none) ?_;rw[bq (T':=dM DD HH dn rt [] none none none none none none none none none none) (by simp[bw,aq,zR,dM,hD])];rw[bq ((iy i).trans e)];unfold dM;generalize hD RS=RD at*;simp[kG]
theorem Lx(a b:Nat)(h:b<=1000):cZ (.int (a:Nat)) (.int (b:Nat))=pS (.int ((a*b:Nat):Int)):=by rw[AQ _ _ Z' Z'];rw[Q8]
theorem Ly(h:Nat)(hh:h<=1000)(o2:Option S):∀(n k a:Nat)(o3:Option S),∃o3',forL (ae [] 3) (aq (ag cZ 0 (ah 1)) (ae [] 0)) (bo (k:Nat) n) [pS (.int (a:Nat)),pS (.int (h:Nat)),o2,o3]=.ok .next [pS (.int ((a*h^n:Nat):Int)),pS (.int (h:Nat)),o2,o3']|0,k,a,o3=>⟨o3,#v[bo]⟩|n+1,k,a,o3=>by have m:=Lx a h hh;obtain⟨o3',ih⟩:=Ly h hh o2 n (k+1) (a*h) (pS (.int (k:Nat)));refine⟨o3',?_⟩;rw[Bh,j7 (T':=[pS (.int (a:Nat)),pS (.int (h:Nat)),o2,pS (.int (k:Nat))]) (S':=[pS (.int ((a*h:Nat):Int)),pS (.int (h:Nat)),o2,pS (.int (k:Nat))]) rfl (by generalize D.int (a:Nat)=A at*;generalize D.int (h:Nat)=B at*;generalize((a*h:Nat):Int)=C at*;simp[aq,ag,aP,ah,m]),ih];rw[QD,QK (h^n) h,Jg]
theorem Lz(h g:Nat)(hh:h<=1000)(hg:g<=1000):kO [.pure (.int 1),.pure (.int (h:Nat)),.pure (.int (g:Nat))]=some (.pure (.int ((h^g:Nat):Int)),[.pure (.int 1),.pure (.int (h:Nat)),.pure (.int (g:Nat))]):=by
 obtain⟨o3,e⟩:=Ly h hh (pS (.int (g:Nat))) g 0 1 none;rw[Nat.one_mul]at e;have e':forL (ae [] 3) (aq (ag cZ 0 (ah 1)) (ae [] 0)) (bo 0 g) [pS (.int 1),pS (.int (h:Nat)),pS (.int (g:Nat)),none]=.ok .next [pS (.int ((h^g:Nat):Int)),pS (.int (h:Nat)),pS (.int (g:Nat)),o3]:=e;rw[kO,HB];have i:bW (aa 2) [pS (.int 1),pS (.int (h:Nat)),pS (.int (g:Nat)),none]=.ok (bo 0 g) [pS (.int 1),pS (.int (h:Nat)),pS (.int (g:Nat)),none]:=by have:=hJ g Z';simp[aa,this]
 generalize((h^g:Nat):Int)=P at*;refine oK (T':=[pS (.int P),pS (.int (h:Nat)),pS (.int (g:Nat)),o3]) ?_;refine(bq ((iy i).trans e')).trans ?_;simp[aa]
theorem LA(h:Nat)(hh:h<=1000)(o1:Option S):∀(n k a:Nat)(o3:Option S),∃o3',forL (ae [] 3) (aq (ag cZ 2 (ah 0)) (ae [] 2)) (bo (k:Nat) n) [pS (.int (h:Nat)),o1,pS (.int (a:Nat)),o3]=.ok .next [pS (.int (h:Nat)),o1,pS (.int ((a*h^n:Nat):Int)),o3']|0,k,a,o3=>⟨o3,#v[bo]⟩|n+1,k,a,o3=>by have m:=Lx a h hh;obtain⟨o3',ih⟩:=LA h hh o1 n (k+1) (a*h) (pS (.int (k:Nat)));refine⟨o3',?_⟩;rw[Bh,j7 (T':=[pS (.int (h:Nat)),o1,pS (.int (a:Nat)),pS (.int (k:Nat))]) (S':=[pS (.int (h:Nat)),o1,pS (.int ((a*h:Nat):Int)),pS (.int (k:Nat))]) rfl (by generalize D.int (a:Nat)=A at*;generalize D.int (h:Nat)=B at*;generalize((a*h:Nat):Int)=C at*;simp[aq,ag,aP,ah,m]),ih];rw[QD,QK (h^n) h,Jg]
theorem xf(h g:Nat)(hh:h<=1000)(hg:g<=1000):lO [.pure (.int (h:Nat)),.pure (.int (g:Nat))]=some (.pure (.int ((h^g:Nat):Int)),[.pure (.int (h:Nat)),.pure (.int (g:Nat))]):=by
 obtain⟨o3,e⟩:=LA h hh (pS (.int (g:Nat))) g 0 1 none;rw[Nat.one_mul]at e;have e':forL (ae [] 3) (aq (ag cZ 2 (ah 0)) (ae [] 2)) (bo 0 g) [pS (.int (h:Nat)),pS (.int (g:Nat)),pS (.int 1),none]=.ok .next [pS (.int (h:Nat)),pS (.int (g:Nat)),pS (.int ((h^g:Nat):Int)),o3]:=e;rw[lO,Hz];have i:bW (aa 1) [pS (.int (h:Nat)),pS (.int (g:Nat)),pS (.int 1),none]=.ok (bo 0 g) [pS (.int (h:Nat)),pS (.int (g:Nat)),pS (.int 1),none]:=by have:=hJ g Z';simp[aa,this]
 generalize((h^g:Nat):Int)=P at*;refine kY (T':=[pS (.int (h:Nat)),pS (.int (g:Nat)),pS (.int P),o3]) ?_;rw[bq (T':=[pS (.int (h:Nat)),pS (.int (g:Nat)),pS (.int 1),none]) #v[bw,aq]];rw[bq ((iy i).trans e')];simp[aa]
def qo(d:D)(M:Nat):Bool:=match d with|.int i=>decide (0<=i)&&decide (i<=(M:Int))|_=>false
theorem LB(d:D)(M:Nat)(hd:fN "int" d≠none):nr [.pure d,.pure (.int 0),.pure (.int (M:Nat))]=some (.pure (.bl (qo d M)),[.pure d,.pure (.int 0),.pure (.int (M:Nat))]):=by
 have f:kP [.pure d,.pure (.int 0)]=some (.pure (.bl (match d with|.int i=>decide (0<=i)|_=>false)),[.pure d,.pure (.int 0)]):=by rw[kP,zU];refine kY (T':=[pS d,pS (.int 0)]) ?_;cases d<;>first|(exact absurd rfl hd)|simp[bw,fM,o_,fV,fN,ah,ag,aP,wH,S.d]
 rw[nr,HC];refine oK (T':=[pS d,pS (.int 0),pS (.int (M:Nat))]) ?_
 cases d with|int i=>
 have l:=wH i (M:Nat);simp only at f;generalize D.int (M:Nat)=MM at*;have ew:qo (.int i) M=(decide (0<=i)&&decide (i<=(M:Int))):=rfl;rw[ew];by_cases h0:0<=i;.rw[decide_eq_true h0]at f⊢;simp[bw,fM,au,aW,bB,bx,aa,bb,f,aL,ag,aP,ah,l,S.d]
 .rw[decide_eq_false h0]at f⊢;simp[bw,fM,au,aW,bB,bx,aa,bb,f,aL,S.d]|_=>first|exact absurd rfl hd|(simp only at f;unfold qo;simp[bw,fM,au,aW,bB,bx,aa,bb,f,aL,S.d])
abbrev gb(ru tt:D)(g R C tl br:Nat)(b7:S)(hv:HV)(o9:Option S):Dl:=[pS ru,pS tt,pS (.int (g:Nat)),pS (.int (R:Nat)),pS (.int (C:Nat)),pS (.int (tl:Nat)),pS (.int (br:Nat)),some b7,pO (.dic (hD hv)),o9,none,none]
abbrev xg:DS:=ay (aq (ag gu 5 (aj (ag ax 0 1#0))) (ae [] 5)) (ay (aq (ag gu 6 (aj (ag ax 0 1#1))) (ae [] 6)) (aq (au pX [.val (aa 7),.val (aa 8),.val (aB cR (ag kH 3 (ah 5)) (aj (ag ax 0 1#0))),.val (aB cR (ag kH 4 (ah 6)) (aj (ag ax 0 1#1)))]) (ae [] 8)))
theorem LC(a b:Nat)(h0:0<b)(h1:b<=1000):gu (.int (a:Nat)) (.int (b:Nat))=pS (.int ((a/b:Nat):Int)):=by show(if mO (a:Int) (b:Int)then some (S.pure (.int ((a:Int)/(b:Int))))else none)=_;rw[if_pos (by unfold mO;simp;lia)];rfl
theorem LD(a b:Nat)(h0:0<b):cR (.int (a:Nat)) (.int (b:Nat))=pS (.int ((a%b:Nat):Int)):=by show(if decide (0<(b:Int))then some (S.pure (.int ((a:Int)%(b:Int))))else none)=_;rw[if_pos Re];rfl
theorem LF(a b:Nat)(h0:0<b)(h1:(b:Int)<jU):kH (.int (a:Nat)) (.int (b:Nat))=pS (.int ((a/b:Nat):Int)):=by rw[Ff _ _ Z' h1];rfl
theorem LG(hh:h<=4)(hn:n<=60):((h^n:Nat):Int)<jU:=by
 have h1:h^n<=4^60:=Wq (Nat.pow_le_pow_left hh n) (WU U' hn);have h2:((4^60:Nat):Int)<jU:=by decide+kernel
 lia
theorem ziB{bs:8#0}(Ru:bC h w bs)(h0:0<h)(h4:h<=4)(w0:0<w)(w4:w<=4)(tt:D)(g R C m:Nat)(hm:m<60)(b7:S)(hb:b7=.own (c_ bs)\/b7=.pure (c_ bs))(hv:HV)(hk:∀p∈hv,p.1.2.2∈bs.map (·.1))(o9:Option S):xg (gb (aw h w bs) tt g R C (h^(m+1)) (w^(m+1)) b7 hv o9)=.ok .next (gb (aw h w bs) tt g R C (h^m) (w^m) (.pure (c_ bs)) (f9 bs (R/h^m%h) (C/w^m%w) hv []) o9):=by have x0:=(fF h w bs).1;have x1:=(fF h w bs).2.1;have ph:0<h^m:=Nat.pow_pos h0;have pw:0<w^m:=Nat.pow_pos w0;have d1:=LC (h^(m+1)) h h0 Z';rw[QD,Nat.mul_div_cancel _ h0]at d1;have d2:=LC (w^(m+1)) w w0 Z';rw[QD,Nat.mul_div_cancel _ w0]at d2;have d3:=LF R (h^m) ph (LG h4 Z');have d4:=LF C (w^m) pw (LG w4 Z');have d5:=LD (R/h^m) h h0;have d6:=LD (C/w^m) w w0;have gh:=zjv Ru hv hk (R/h^m%h) (C/w^m%w);rw[QD h,QD w];generalize D.int ((R/h^m%h:Nat):Int)=e1 at*;generalize D.int ((C/w^m%w:Nat):Int)=e2 at*;generalize D.int ((R/h^m:Nat):Int)=e3 at*;generalize D.int ((C/w^m:Nat):Int)=e4 at*;unfold gb;generalize hD (f9 bs (R/h^m%h) (C/w^m%w) hv [])=HN at*;generalize hD hv=HO at*;generalize D.int ((h^m:Nat):Int)=e5 at*;generalize D.int ((w^m:Nat):Int)=e6 at*;generalize D.int ((h^m*h:Nat):Int)=e7 at*;generalize D.int ((w^m*w:Nat):Int)=e8 at*;generalize D.int (R:Nat)=RD at*;generalize D.int (C:Nat)=CD at*;generalize D.int (h:Nat)=hd at*;generalize D.int (w:Nat)=wd at*;generalize aw h w bs=ru at*;generalize c_ bs=DD at*;rw[xg,bq (T':=[pS ru,pS tt,pS (.int (g:Nat)),pS RD,pS CD,pS e5,pS e8,some b7,pO (.dic HO),o9,none,none]) #v[aq,ag,aP,ah,x0,d1]];rw[bq (T':=[pS ru,pS tt,pS (.int (g:Nat)),pS RD,pS CD,pS e5,pS e6,some b7,pO (.dic HO),o9,none,none]) #v[aq,ag,aP,ah,x1,d2]];rcases hb with rfl|rfl<;>simp[aq,au,aW,bB,bx,aa,ah,bb,ag,aP,x0,x1,d3,d4,d5,d6,gh,aL,S.d]
theorem LH{h w t:Nat}{bs:8#0}(Ru:bC h w bs)(h0:0<h)(h4:h<=4)(w0:0<w)(w4:w<=4)(ht:t∈bs.map (·.1))(tt:D)(g R C:Nat)(hg:g<=60):∀(n k:Nat),k+n=g->∀(b7:S)(o9:Option S),b7=.own (c_ bs)\/b7=.pure (c_ bs)->∃b7' o9',(b7'=.own (c_ bs)\/b7'=.pure (c_ bs))/\forL (ae [] 9) xg (bo (k:Nat) n) (gb (aw h w bs) tt g R C (h^n) (w^n) b7 (cJ bs h w g R C t k) o9)=.ok .next (gb (aw h w bs) tt g R C 1 1 b7' (cJ bs h w g R C t g) o9')
 |0,k,e,b7,o9,hb=>⟨b7,o9,hb,by
 have:k=g:=by lia
 subst this;simp[bo]⟩|n+1,k,e,b7,o9,hb=>by
  have s1:=ziB Ru h0 h4 w0 w4 tt g R C n Z' b7 hb (cJ bs h w g R C t k) (lZ Ru ht k).ts (pS (.int (k:Nat)));have en:f9 bs (R/h^n%h) (C/w^n%w) (cJ bs h w g R C t k) []=cJ bs h w g R C t (k+1):=by show _=f9 bs (R/h^(g-(k+1))%h) (C/w^(g-(k+1))%w) (cJ bs h w g R C t k) [];rw[show g-(k+1)=n by lia]
  rw[en]at s1;obtain⟨b7',o9',eC,ih⟩:=LH Ru h0 h4 w0 w4 ht tt g R C hg n (k+1) Z' (.pure (c_ bs)) (pS (.int (k:Nat))) (.inr rfl);refine⟨b7',o9',eC,?_⟩;rw[Bh,j7 (T':=gb (aw h w bs) tt g R C (h^(n+1)) (w^(n+1)) b7 (cJ bs h w g R C t k) (pS (.int (k:Nat)))) rfl s1];exact ih
def jE(p:HK×Nat):Bool:=p.1.1&&p.1.2.1
def iB(kvs:HV):List (a7×D):=(kvs.filter jE).map λp=>(.inr [p.1.2.2],D.int (p.2:Nat))
theorem LI:∀l:HV,ir (l.map λp=>D.tup [.str [p.1.2.2],.int (p.2:Nat)])=some (l.map λp=>((.inr [p.1.2.2]:a7),D.int (p.2:Nat)))|[]=>rfl|p::r=>by have:=LI r;simp only[We];simp[ir,dz,this]
theorem qaC(h:dU ts kvs):((iB kvs).map (·.1)).Nodup:=by
 unfold iB;rw[Wn,Jt,JO];have h1:=h.nd;rw[Jt,JO]at h1;have h2:=h1.filter jE;refine(List.pairwise_of_forall_mem_list (l:=kvs.filter jE) (r:=λa b=>a.1≠b.1->(Sum.inr [a.1.2.2]:a7)≠Sum.inr [b.1.2.2]) ?_).imp₂ ?_ h2;.intro a ha b hb cE e;have a2:=(Qs.mp ha).2;have b2:=(Qs.mp hb).2;unfold jE at a2 b2;simp only[Wu]at a2 b2;apply cE;obtain⟨⟨x1,x2,x3⟩,_⟩:=a;obtain⟨⟨y1,y2,y3⟩,_⟩:=b;simp at a2 b2 e;simp[a2,b2,e]
 .intro a b q1 q2;exact q1 q2
theorem zif(h:dU ts kvs)(dC:ts.length<=26):gy (.lst ((kvs.filter jE).map λp=>D.tup [.str [p.1.2.2],.int (p.2:Nat)]))=pO (.aA (iB kvs)):=by
 have hl:=h.len;have hf:=List.length_filter_le jE kvs;unfold gy;simp only[LI,Qg,WB];rw[if_pos (by rw[bV];lia),wL];.rfl
 .exact qaC h
theorem ziz(kvs:HV)(n:Nat):(dw (iB kvs) (.inr [n])).getD (.int 0)=.int (cj kvs (true,true,n):Nat):=by
 have:dw (iB kvs) (.inr [n])=(kvs.find? λp=>decide (p.1=(true,true,n))).map λp=>D.int (p.2:Nat):=by
  unfold dw iB;rw[Jl,List.find?_filter,JT];have e:(λa:HK×Nat=>decide (jE a=true/\((λkv:a7×D=>decide (kv.1=Sum.inr [n]))∘λp:HK×Nat=>((Sum.inr [p.1.2.2]:a7),D.int (p.2:Nat))) a=true))=λp=>decide (p.1=(true,true,n)):=by funext p;obtain⟨⟨a,b,c⟩,m⟩:=p;unfold jE;cases a<;>cases b<;>simp
  rw[e];rfl
 rw[this];unfold cj;cases kvs.find? λp=>decide (p.1=(true,true,n))<;>rfl
def nM(bs:8#0)(kvs:HV):List D:=bs.map λb=>D.tup [.str [b.1],.int (cj kvs (true,true,b.1):Nat)]
theorem zdX{bs:8#0}(R:bC h w bs)(kvs:HV):kR [.pure (aw h w bs),.pure (.aA (iB kvs))]=some (.own (.lst (nM bs kvs)),[.pure (aw h w bs),.pure (.aA (iB kvs))]):=by
 have n1:=R.n1;have gt:=zdW R;have c:=eE (cs:=[2]) (g:=ae [] 2) (t:=aG) (el:=cF (aQ (aa 2) (aQ (g_ 1 (aa 2) 3#0) bS))) (λb:Nat×List Tx=>D.str [b.1]) (λb=>D.tup [.str [b.1],.int (cj kvs (true,true,b.1):Nat)]) [pS (aw h w bs),pS (.aA (iB kvs)),none] bs [] (by rw[bV];simp;lia) λb hb=>by have q:=ziz kvs b.1;refine⟨[pS (aw h w bs),pS (.aA (iB kvs)),pS (.str [b.1])],_,.pure (.tup [.str [b.1],.int (cj kvs (true,true,b.1):Nat)]),[pS (aw h w bs),pS (.aA (iB kvs)),pS (.str [b.1])],rfl,rfl,?_,rfl,rfl⟩;rw[<-q];generalize iB kvs=CC at*;generalize aw h w bs=ru at*;simp[aa,g_,pJ,S.d,dz]
 have et:dh (bs.map (·.1))=.lst (bs.map λb=>D.str [b.1]):=by unfold dh;rw[Wn];rfl
 have eY:nM bs kvs=bs.map λb=>D.tup [.str [b.1],.int (cj kvs (true,true,b.1):Nat)]:=rfl;rw[kR,zW,eY];generalize(bs.map λb=>D.tup [.str [b.1],.int (cj kvs (true,true,b.1):Nat)])=Y at*;generalize hT:dh (bs.map (·.1))=T at*;generalize(bs.map λb:Nat×List Tx=>D.str [b.1])=TS at*;generalize D.aA (iB kvs)=CD at*;generalize aw h w bs=ru at*;refine kY (T':=[pS ru,pS CD,none]) ?_;have i:aU (au kQ [.val (aa 0)]) [pS ru,pS CD,none]=.ok TS [pS ru,pS CD,none]:=by simp[eF,au,aW,bB,bx,aa,bb,gt,aL,S.d,et]
 simp only[bw];show(aK _ _ _ _ _ _).bind _=_;have fS:(([S.pure ru,S.pure CD].map some)++Wp (3-[S.pure ru,S.pure CD].length) none:Dl)=[pS ru,pS CD,none]:=rfl;rw[fS,sk,i];simp only[dR];have jq:([2]:List Nat).any (bG [pS ru,pS CD,none])=false:=rfl;have qj:a_ [2] [pS ru,pS CD,none]=[pS ru,pS CD,none]:=rfl;rw[jq,qj,c];rfl
theorem qaD{b:DS}{z u v:D}{r:S}(e:b (bw n [.pure x,.pure y,.pure z,.pure u,.pure v])=.ok (.ret r) T'):bE [] n b [.pure x,.pure y,.pure z,.pure u,.pure v]=some (r,[.pure x,.pure y,.pure z,.pure u,.pure v]):=by rw[lW,e];rfl
abbrev wC:DE:=aK [10,11] (jy (aa 8)) (aR 2 (aC (ae [] 10) (aC (ae [] 11) aT))) (lx (az (ag ax 10 1#0)) (az (ag ax 10 1#1))) (cF (aQ (ag ax 10 1#2) (aQ (aa 11) bS)))
abbrev jF(ru tt:D)(g R C tl br:Nat)(b7:S)(hd:D)(o9:Option S):Dl:=[pS ru,pS tt,pS (.int (g:Nat)),pS (.int (R:Nat)),pS (.int (C:Nat)),pS (.int (tl:Nat)),pS (.int (br:Nat)),some b7,pS hd,o9,none,none]
theorem qaE(h:dU ts kvs)(dC:ts.length<=26)(ru tt:D)(g R C tl br:Nat)(b7:S)(o9:Option S):wC (gb ru tt g R C tl br b7 kvs o9)=.ok (.own (.lst ((kvs.filter jE).map λp=>D.tup [.str [p.1.2.2],.int (p.2:Nat)]))) (jF ru tt g R C tl br b7 (.dic (hD kvs)) o9):=by
 have hl:=h.len;have c:=qg (cs:=[10,11]) (g:=aR 2 (aC (ae [] 10) (aC (ae [] 11) aT))) (t:=lx (az (ag ax 10 1#0)) (az (ag ax 10 1#1))) (el:=cF (aQ (ag ax 10 1#2) (aQ (aa 11) bS))) (λp:HK×Nat=>D.tup [bZ p.1,.int (p.2:Nat)]) (λp=>D.tup [.str [p.1.2.2],.int (p.2:Nat)]) jE (jF ru tt g R C tl br b7 (.dic (hD kvs)) o9) kvs [] (by rw[bV];simp;lia) λp hp=>by
   obtain⟨⟨a,b,n⟩,m⟩:=p;have y0:ax (bZ (a,b,n)) (.int 0)=pS (.bl a):=by unfold bZ;simp[ax,oB]
   have y1:ax (bZ (a,b,n)) (.int 1)=pS (.bl b):=by unfold bZ;simp[ax,vR]
   have y2:ax (bZ (a,b,n)) (.int 2)=pS (.str [n]):=by unfold bZ;simp[ax,vQ]
   unfold jF;generalize D.dic (hD kvs)=HH at*;refine⟨[pS ru,pS tt,pS (.int (g:Nat)),pS (.int (R:Nat)),pS (.int (C:Nat)),pS (.int (tl:Nat)),pS (.int (br:Nat)),some b7,pS HH,o9,pS (bZ (a,b,n)),pS (.int (m:Nat))],[pS ru,pS tt,pS (.int (g:Nat)),pS (.int (R:Nat)),pS (.int (C:Nat)),pS (.int (tl:Nat)),pS (.int (br:Nat)),some b7,pS HH,o9,pS (bZ (a,b,n)),pS (.int (m:Nat))],.pure (.tup [.str [n],.int (m:Nat)]),[pS ru,pS tt,pS (.int (g:Nat)),pS (.int (R:Nat)),pS (.int (C:Nat)),pS (.int (tl:Nat)),pS (.int (br:Nat)),some b7,pS HH,o9,pS (bZ (a,b,n)),pS (.int (m:Nat))],rfl,?_,rfl,?_,rfl,rfl⟩;.generalize bZ (a,b,n)=KK at*;cases a<;>cases b<;>simp[jE,az,ag,aP,ah,y0,y1]
   .generalize bZ (a,b,n)=KK at*;simp[ag,aP,ah,y2,aa]
 have eI:iY (hD kvs)=kvs.map λp=>D.tup [bZ p.1,.int (p.2:Nat)]:=by unfold iY hD;rw[Wn];rfl
 have i:jy (aa 8) (gb ru tt g R C tl br b7 kvs o9)=.ok (kvs.map λp=>D.tup [bZ p.1,.int (p.2:Nat)]) (jF ru tt g R C tl br b7 (.dic (hD kvs)) o9):=by rw[<-eI];unfold gb jF;generalize hD kvs=HH at*;simp[jy,aa,S.d]
 unfold wC;rw[sk,i];simp only[dR];have jq:([10,11]:List Nat).any (bG (jF ru tt g R C tl br b7 (.dic (hD kvs)) o9))=false:=rfl;have qj:a_ [10,11] (jF ru tt g R C tl br b7 (.dic (hD kvs)) o9)=jF ru tt g R C tl br b7 (.dic (hD kvs)) o9:=rfl;rw[jq,qj,c];rfl
abbrev gQ(ru tt:D)(gd:D)(rd cd:D)(o5 o6:Option S):Dl:=[pS ru,pS tt,pS gd,pS rd,pS cd,o5,o6,none,none,none,none,none]
abbrev k1:DS:=kz (au lP [.val (aa 0),.val (aa 1)])
abbrev k2:DS:=aq (au kO [.val 3#1,.val (ag ax 0 1#0),.val (aa 2)]) (ae [] 5)
abbrev k3:DS:=aq (au kO [.val 3#1,.val (ag ax 0 1#1),.val (aa 2)]) (ae [] 6)
abbrev k4:DS:=bI (fT (fA (az (au nr [.val (aa 3),.val 3#0,.val (aa 5)]))) (fA (az (au nr [.val (aa 4),.val 3#0,.val (aa 6)])))) u9 bR
theorem qaF{bs:8#0}(R:bC h w bs)(ht:t∈bs.map (·.1))(rd cd:D):k1 (gQ (aw h w bs) (.str [t]) (.int (g:Nat)) rd cd none none)=.ok .next (gQ (aw h w bs) (.str [t]) (.int (g:Nat)) rd cd none none):=by have g0:=Ln R ht;generalize aw h w bs=ru at*;simp[k1,kz,au,aW,bB,bx,aa,bb,g0,aL]
theorem qaG(GS:DF)(x0:ax ru (.int 0)=pS hh)(s:GS [.pure (.int 1),.pure hh,.pure gg]=some (.pure PP,[.pure (.int 1),.pure hh,.pure gg]))(tt rd cd:D):(aq (au GS [.val 3#1,.val (ag ax 0 1#0),.val (aa 2)]) (ae [] 5)) (gQ ru tt gg rd cd none none)=.ok .next (gQ ru tt gg rd cd (pS PP) none):=by simp[aq,au,aW,bB,bx,aa,bb,ag,aP,ah,x0,s,aL]
theorem qaH(GS:DF)(x0:ax ru (.int 1)=pS hh)(s:GS [.pure (.int 1),.pure hh,.pure gg]=some (.pure PP,[.pure (.int 1),.pure hh,.pure gg]))(tt rd cd:D)(o5:Option S):(aq (au GS [.val 3#1,.val (ag ax 0 1#1),.val (aa 2)]) (ae [] 6)) (gQ ru tt gg rd cd o5 none)=.ok .next (gQ ru tt gg rd cd o5 (pS PP)):=by simp[aq,au,aW,bB,bx,aa,bb,ag,aP,ah,x0,s,aL]
theorem qaI{bs:8#0}(h4:h<=4)(hg:g<=60)(tt rd cd:D):k2 (gQ (aw h w bs) tt (.int (g:Nat)) rd cd none none)=.ok .next (gQ (aw h w bs) tt (.int (g:Nat)) rd cd (pS (.int ((h^g:Nat):Int))) none):=qaG kO (fF h w bs).1 (Lz h g Z' Z') tt rd cd
theorem qaJ{bs:8#0}(w4:w<=4)(hg:g<=60)(tt rd cd:D)(o5:Option S):k3 (gQ (aw h w bs) tt (.int (g:Nat)) rd cd o5 none)=.ok .next (gQ (aw h w bs) tt (.int (g:Nat)) rd cd o5 (pS (.int ((w^g:Nat):Int)))):=qaH kO (fF h w bs).2.1 (Lz w g Z' Z') tt rd cd o5
theorem LJ(a b:Nat):bj (.int (a:Nat)) (.int (b:Nat))=pS (.bl (decide (a=b))):=by
 rw[lV];have:((a:Int)==(b:Int))=decide (a=b):=by rw[J9];simp only[beq_iff_eq,decide_eq_true_eq];lia
 rw[this]
theorem qaK(ru tt rd cd:D)(g A B:Nat)(hr:fN "int" rd≠none)(hc:fN "int" cd≠none)(h1:qo rd A=true)(h2:qo cd B=true):k4 (gQ ru tt (.int (g:Nat)) rd cd (pS (.int (A:Nat))) (pS (.int (B:Nat))))=.ok .next (gQ ru tt (.int (g:Nat)) rd cd (pS (.int (A:Nat))) (pS (.int (B:Nat)))):=by have e1:=LB rd A hr;have e2:=LB cd B hc;rw[h1]at e1;rw[h2]at e2;generalize D.int (A:Nat)=AA at*;generalize D.int (B:Nat)=BB at*;simp[k4,az,au,aW,bB,bx,aa,bb,e1,e2,aL]
theorem LK{a b:Nat}(h:a<=b):qo (.int (a:Nat)) b=true:=by show(decide (0<=(a:Int))&&decide ((a:Int)<=(b:Int)))=true;simp only[Wu,decide_eq_true_eq];lia
theorem Bi{bs:8#0}(Ru:bC h w bs)(h0:0<h)(h4:h<=4)(w0:0<w)(w4:w<=4)(ht:t∈bs.map (·.1))(g R C:Nat)(hg:g<=60)(hR:R<=h^g)(hC:C<=w^g):nt [.pure (aw h w bs),.pure (.str [t]),.pure (.int (g:Nat)),.pure (.int (R:Nat)),.pure (.int (C:Nat))]=some (.own (.lst (nM bs (cJ bs h w g R C t g))),[.pure (aw h w bs),.pure (.str [t]),.pure (.int (g:Nat)),.pure (.int (R:Nat)),.pure (.int (C:Nat))]):=by
 have n1:=Ru.n1;have dC:(bs.map (·.1)).length<=26:= ~~~n1;have x2:=(fF h w bs).2.2;have hd:=Ll Ru;have aD:=lZ (g:=g) (R:=R) (C:=C) Ru ht g;have s1:=qaF (g:=g) Ru ht (.int (R:Nat)) (.int (C:Nat));have s2:=qaI (bs:=bs) (w:=w) h4 hg (.str [t]) (.int (R:Nat)) (.int (C:Nat));have s3:=qaJ (bs:=bs) (h:=h) w4 hg (.str [t]) (.int (R:Nat)) (.int (C:Nat)) (pS (.int ((h^g:Nat):Int)));have s4:=qaK (aw h w bs) (.str [t]) (.int (R:Nat)) (.int (C:Nat)) g (h^g) (w^g) #v[fN] #v[fN] (LK hR) (LK hC);obtain⟨b7,o9,hb7,lp⟩:=LH Ru h0 h4 w0 w4 ht (.str [t]) g R C hg g 0 Z' (.own (c_ bs)) none (.inl rfl);have c:=qaE aD dC (aw h w bs) (.str [t]) g R C 1 1 b7 o9;have dc:=zif aD dC;have gl:=zdX Ru (cJ bs h w g R C t g);have e1:=LJ R (h^g);have e2:=LJ C (w^g);have LM:=K_ [] (decide (R=h^g),decide (C=w^g),t);have z0:[(bZ (decide (R=h^g),decide (C=w^g),t),D.int 1)]=hD (cJ bs h w g R C t 0):=rfl;have LO:forL (ae [] 9) xg (bo 0 g) (gb (aw h w bs) (.str [t]) g R C (h^g) (w^g) (.own (c_ bs)) (cJ bs h w g R C t 0) none)=.ok .next (gb (aw h w bs) (.str [t]) g R C 1 1 b7 (cJ bs h w g R C t g) o9):=lp;rw[nt,HE];refine qaD (T':=jF (aw h w bs) (.str [t]) g R C 1 1 b7 (.dic (hD (cJ bs h w g R C t g))) o9) ?_;refine(bq s1).trans ?_;refine(bq s2).trans ?_;refine(bq s3).trans ?_;refine(bq s4).trans ?_;clear s1 s2 s3 s4 lp hR hC aD;rw[bq (T':=[pS (aw h w bs),pS (.str [t]),pS (.int (g:Nat)),pS (.int (R:Nat)),pS (.int (C:Nat)),pS (.int ((h^g:Nat):Int)),pS (.int ((w^g:Nat):Int)),pO (c_ bs),none,none,none,none]) (by generalize aw h w bs=ru at*;generalize D.tup (bs.map cf)=bd at*;generalize c_ bs=DD at*;simp[aq,ag,aP,ah,x2,hd])];rw[bq (T':=gb (aw h w bs) (.str [t]) g R C (h^g) (w^g) (.own (c_ bs)) (cJ bs h w g R C t 0) none) (by unfold gb;rw[<-z0];have LP:iX (jx (bZ (decide (R=h^g),decide (C=w^g),t))) [] (bZ (decide (R=h^g),decide (C=w^g),t))=true:=LM;have eK:bZ (decide (R=h^g),decide (C=w^g),t)=.tup [.bl (decide (R=h^g)),.bl (decide (C=w^g)),.str [t]]:=rfl;rw[eK]at LP⊢;generalize decide (R=h^g)=B1 at*;generalize decide (C=w^g)=B2 at*;generalize D.int ((h^g:Nat):Int)=I1 at*;generalize D.int ((w^g:Nat):Int)=I2 at*;generalize aw h w bs=ru at*;generalize c_ bs=DD at*;simp[aq,sC,ag,aP,ah,e1,e2,aa,LP])];have i:bW (aa 2) (gb (aw h w bs) (.str [t]) g R C (h^g) (w^g) (.own (c_ bs)) (cJ bs h w g R C t 0) none)=.ok (bo 0 g) (gb (aw h w bs) (.str [t]) g R C (h^g) (w^g) (.own (c_ bs)) (cJ bs h w g R C t 0) none):=by have:=hJ g Z';simp[aa,this]
 rw[bq ((iy i).trans LO)];clear LO i e1 e2 LM z0;generalize cJ bs h w g R C t g=HN at*;generalize((HN.filter jE).map λp=>D.tup [.str [p.1.2.2],.int (p.2:Nat)])=PL at*;generalize hCT:D.aA (iB HN)=CT at*;have c':aE gy (aj wC) (gb (aw h w bs) (.str [t]) g R C 1 1 b7 HN o9)=.ok (.own CT) (jF (aw h w bs) (.str [t]) g R C 1 1 b7 (.dic (hD HN)) o9):=by unfold aE aj;rw[c];simp[S.d,dc]
 generalize aE gy (aj wC)=EC at*;unfold gb at c';unfold gb jF;unfold jF at c';generalize D.int ((1:Nat):Int)=ONE at*;generalize aw h w bs=ru at*;generalize nM bs HN=Y at*;simp[au,aW,bB,bx,aa,bb,c',gl,aL,S.d]
def val(dm:List (Nat×Nat))(s:Nat):Nat:=((dm.find? λp=>decide (p.1=s)).map (·.2)).getD 0
def put(dm:List (Nat×Nat))(s m:Nat):List (Nat×Nat):=if(dm.any λp=>decide (p.1=s))=true then dm.map λp=>if p.1=s then(p.1,m)else p else dm++[(s,m)]
theorem xh{s:Nat}(h:s∉dm.map (·.1)):val dm s=0:=by have:dm.find? (λp=>decide (p.1=s))=none:=List.find?_eq_none.mpr λp hp e=>h (Wj.mpr ⟨p,hp,~~~e⟩);unfold val;rw[this];rfl
theorem l0(k m s:Nat)(r:List (Nat×Nat)):val ((k,m)::r) s=if k=s then m else val r s:=by
 unfold val;rw[Qf];by_cases h:k=s;.simp[h]
 .simp[h]
universe H in theorem zge(s m x:Nat):∀dm:List (Nat×Nat),val (put dm s m) x=if s=x then m else val dm x:=by
 intro dm;have key:∀r:List (Nat×Nat),val (r.map λp=>if p.1=s then(p.1,m)else p) x=if s=x/\s∈r.map (·.1)then m else val r x:=by intro r;induction r with|nil=>simp[val]|cons p r ih=>
   obtain⟨k,q⟩:=p;rw[We];by_cases hk:k=s
   .subst hk;rw[if_pos rfl,l0,l0];by_cases hx:k=x;.simp[hx]
    .simp[hx,ih]
   .rw[if_neg hk,l0,l0,ih];by_cases hx:s=x
    .subst hx;rw[if_neg hk,if_neg hk];have:(s∈((k,q)::r).map (·.1))↔s∈r.map (·.1):=by rw[We,Wv];exact⟨λz=>z.elim (λe=>absurd e.symm hk) id,.inr⟩
     simp only[this,true_and]
    .simp[hx]
 unfold put;split
 .rename_i h;rw[key dm];have:s∈dm.map (·.1):=by obtain⟨p,hp,e⟩:=List.any_eq_true.mp h;exact Wj.mpr ⟨p,hp,~~~e⟩
  simp[this]
 .rename_i h;have hs:s∉dm.map (·.1):=λhm=>by obtain⟨p,hp,e⟩:=Wj.mp hm;exact h (List.any_eq_true.mpr ⟨p,hp,~~~e⟩)
  have app:∀r:List (Nat×Nat),s∉r.map (·.1)->val (r++[(s,m)]) x=if s=x then m else val r x:=by intro r;induction r with|nil=>intro _;rw[Qu,l0]|cons p r ih=>
    obtain⟨k,q⟩:=p;intro hr;have hk:k≠s:=λe=>hr #v[e];rw[List.cons_append,l0,l0,ih λz=>hr (by simp;right;simpa using z)];by_cases hx:s=x;.subst hx;simp[hk]
    .simp[hx]
  exact app dm hs
theorem LQ(s m:Nat)(dm:List (Nat×Nat)):(put dm s m).map (·.1)=if s∈dm.map (·.1)then dm.map (·.1)else dm.map (·.1)++[s]:=by
 have wK:(dm.any λp=>decide (p.1=s))=true↔s∈dm.map (·.1):=by rw[List.any_eq_true,List.mem_map];simp
 unfold put;by_cases h:s∈dm.map (·.1);.rw[if_pos (wK.mpr h),if_pos h,Wn];refine WT λp j=>?_;show(if p.1=s then(p.1,m)else p).1=p.1;split<;>rfl
 .rw[if_neg λz=>h (wK.mp z),if_neg h];simp
structure Dm(ts:List Nat)(dm:List (Nat×Nat)):Prop where
 nd:(dm.map (·.1)).Nodup
 sub:∀k∈dm.map (·.1),k∈ts
universe H in theorem Dm.put(D:Dm ts dm){s:Nat}(m:Nat)(hs:s∈ts):Dm ts (put dm s m):=by
 constructor
 .rw[LQ];split;.exact D.nd
  .rename_i h;refine JN.mpr ⟨D.nd,V',λa ha b hb e=>h ?_⟩;have hb:b=s:= ~~~hb;rw[<-hb,<-e];exact ha
 .rw[LQ];intro k hk;split at hk;.exact D.sub k hk
  .rcases WI.mp hk with hk|hk;.exact D.sub k hk
   .have:k=s:= ~~~hk;rw[this];exact hs
def j_(f:Nat->Nat)(m:Nat):List Nat->List (Nat×Nat)->List (Nat×Nat)|[],dm=>dm|p::r,dm=>j_ f m r (put dm p (val dm p+m*f p))
theorem Bj(f:Nat->Nat)(m:Nat):∀(ps:List Nat)(dm:List (Nat×Nat)),Dm ts dm->ps.Nodup->(∀p∈ps,p∈ts)->Dm ts (j_ f m ps dm)/\∀s,val (j_ f m ps dm) s=val dm s+if s∈ps then m*f s else 0
 |[],dm,D,_,_=>⟨D,λs=>#v[j_]⟩|p::r,dm,D,nd,hp=>by
  obtain⟨n1,n2⟩:=WL.mp nd;obtain⟨h1,h2⟩:=Bj f m r (put dm p (val dm p+m*f p)) (D.put _ (hp p Wc)) n2 λq hq=>hp q (W8 _ hq);refine⟨h1,λs=>?_⟩;show val (j_ f m r (put dm p (val dm p+m*f p))) s=_;rw[h2,zge];by_cases hs:p=s;.subst hs;simp[n1]
  .simp[hs,Ne.symm hs]
def tW(bs:8#0)(ps:Nat->List Nat):List (Nat×Nat)->List (Nat×Nat)->List (Nat×Nat)|[],dm=>dm|p::r,dm=>tW bs ps r (j_ (M bs p.1) p.2 (ps p.1) dm)
theorem LR{bs:8#0}{ps:Nat->List Nat}(tH:(bs.map (·.1)).Nodup)(h1:∀t∈bs.map (·.1),(ps t).Nodup/\(∀p∈ps t,p∈bs.map (·.1))/\∀s,s∉ps t->M bs t s=0):∀(ak dm:List (Nat×Nat)),(∀k∈ak.map (·.1),k∈bs.map (·.1))->(ak.map (·.1)).Nodup->Dm (bs.map (·.1)) dm->Dm (bs.map (·.1)) (tW bs ps ak dm)/\∀s,val (tW bs ps ak dm) s=val dm s+sm (bs.map (·.1)) λt=>val ak t*M bs t s
 |[],dm,_,_,D=>⟨D,λs=>by rw[nH λt j=>by rw[xh V',UF]];rfl⟩|(k,m)::r,dm,hk,nd,D=>by
  have qp:k∈bs.map (·.1):=hk k V';obtain⟨p1,p2,p3⟩:=h1 k qp;obtain⟨D1,v1⟩:=Bj (M bs k) m (ps k) dm D p1 p2;rw[We]at nd;obtain⟨n1,n2⟩:=WL.mp nd;obtain⟨D2,v2⟩:=LR tH h1 r (j_ (M bs k) m (ps k) dm) (λq hq=>hk q %[We|W8 _ hq]) n2 D1;refine⟨D2,λs=>?_⟩;show val (tW bs ps r (j_ (M bs k) m (ps k) dm)) s=_;have e:sm (bs.map (·.1)) (λt=>val ((k,m)::r) t*M bs t s)=sm (bs.map (·.1)) (λt=>val r t*M bs t s)+m*M bs k s:=by
   have e0:sm (bs.map (·.1)) (λt=>val ((k,m)::r) t*M bs t s)=sm (bs.map (·.1)) λt=>val r t*M bs t s+(if t=k then 1 else 0)*(m*M bs t s):=dG λt j=>by
    rw[l0];by_cases q:k=t;.subst q;rw[xh n1];simp
    .simp[q,Ne.symm q]
   rw[e0,qk,j9 (λt=>m*M bs t s) k _ tH qp]
  rw[v2,v1,e];by_cases hs:s∈ps k;.simp[hs];lia
  .simp[hs,p3 s hs]
theorem zio(i j:Int):bD (.int i) (.int j)=0#(.int (i+j)):=rfl
def res(bs:8#0)(v:Nat->Nat):List D:=bs.map λb=>D.tup [.str [b.1],.int ((v b.1:Nat):Int)]
theorem zha{bs:8#0}(R:bC h w bs)(F:Nat×List Tx->D){b:Nat×List Tx}(hb:bs[i]?=some b):putD ((bs.take i).map λb=>((Sum.inr [b.1]:a7),F b)) (.inr [b.1]) (F b)=(bs.take (i+1)).map λb=>((Sum.inr [b.1]:a7),F b):=by
 have hi:=(W9.mp hb).1;have hn:(((bs.take i).map λb=>((Sum.inr [b.1]:a7),F b)).any λkv=>decide (kv.1=.inr [b.1]))=false:=by
  rw[Uj];intro kv hkv;obtain⟨c,hc,rfl⟩:=Wj.mp hkv;simp only[decide_eq_true_eq];intro e;simp at e;obtain⟨j,hj⟩:=List.getElem?_of_mem hc;have LS:j<i:=by have:=(W9.mp hj).1;simp at this;lia
  rw[List.getElem?_take_of_lt LS]at hj;have:=List.pairwise_iff_getElem.mp R.up j i Re (~~~hi) LS;have e1:=(W9.mp hj).2;have e2:=(W9.mp hb).2;simp only[List.getElem_map,e1,e2]at this;lia
 unfold putD;rw[hn,List.take_add_one,hb];simp
universe H in theorem Bk{x:Nat}:∀{z J:List Nat},x∈dY J z↔x∈J\/x∈z
 |[],J=>#v[dY]|n::r,J=>by
  unfold dY;split
  .rename_i h;rw[Bk (z:=r)];constructor
   .rintro(q|q);.exact .inl q
    .exact .inr (W8 _ q)
   .rintro(q|q);.exact .inl q
    .rcases Wv.mp q with q|q;.subst q;exact .inl h
     .exact .inr q
  .rw[Bk (z:=r)];simp[or_assoc]
universe H in theorem Bl:∀{z J:List Nat},J.Nodup->(dY J z).Nodup
 |[],J,h=>by simpa[dY]using h|n::r,J,h=>by
  unfold dY;split;.exact Bl h
  .rename_i q;refine Bl (JN.mpr ⟨h,V',λa ha b hb e=>q ?_⟩);have:b=n:= ~~~hb;rw[<-this,<-e];exact ha
def ps(b2:List Tx):List Nat:=fO (dY [] b2.flatten)
theorem Bm(b2:List Tx)(x:Nat):x∈ps b2↔x∈b2.flatten:=by unfold ps;rw[vT,Bk];simp
theorem Bn(b2:List Tx):(ps b2).Nodup:=(zD (Bl List.nodup_nil)).imp λh=>Wr h
def iC(b2:List Tx):List D:=(ps b2).map λp=>D.tup [.str [p],.int ((b2.flatten.count p:Nat):Int)]
def gc(bs:8#0):D:=.aA (bs.map λb=>((Sum.inr [b.1]:a7),D.lst (iC b.2)))
theorem zaH(ru dd:S)(tl bl:D)(z:Tx)(qs:List Nat)(hl:qs.length<=1000):bX [5] (ae [] 5) aG (cF (aQ (aa 5) (aQ (iT (aa 4) (aa 5)) bS))) (qs.map λn=>D.str [n]) [some ru,some dd,0#tl,0#bl,0#(.str z),none] []=.ok (qs.map λp=>D.tup [.str [p],.int ((z.count p:Nat):Int)]) [some ru,some dd,0#tl,0#bl,0#(.str z),none]:=by
 have:=eE (cs:=[5]) (g:=ae [] 5) (t:=aG) (el:=cF (aQ (aa 5) (aQ (iT (aa 4) (aa 5)) bS))) (λn=>D.str [n]) (λp=>D.tup [.str [p],.int ((z.count p:Nat):Int)]) [some ru,some dd,0#tl,0#bl,0#(.str z),none] qs [] (by rw[bV];simp;lia) λs hs=>by refine⟨[some ru,some dd,0#tl,0#bl,0#(.str z),0#(.str [s])],_,.pure (.tup [.str [s],.int ((z.count s:Nat):Int)]),[some ru,some dd,0#tl,0#bl,0#(.str z),0#(.str [s])],rfl,rfl,?_,rfl,rfl⟩;simp[aa,iT,zq,zo]
 rw[this];simp
theorem zh4{bs:8#0}(R:bC h w bs):pZ [.pure (aw h w bs)]=some (.own (gc bs),[.pure (aw h w bs)]):=by
 have x2:=(fF h w bs).2.2;have n1:=R.n1;have loop:∃o2 o3 o4:Option D,forL (aR 2 (aC (ae [] 2) (aC (ae [] 3) aT))) (ay (aq (aE (fB []) (ah 3)) (ae [] 4)) (gz 1 (aa 2) (aK [5] (aU (aE nc (ah 4))) (ae [] 5) aG (cF (aQ (aa 5) (aQ (iT (aa 4) (aa 5)) bS)))))) (bs.map cf) [0#(aw h w bs),some (.own (.aA [])),none,none,none,none]=.ok .next [0#(aw h w bs),some (.own (gc bs)),o2.map .pure,o3.map .pure,o4.map .pure,none]:=by
  obtain⟨SZ,e,o2,o3,o4,rfl⟩:=kJ (g:=aR 2 (aC (ae [] 2) (aC (ae [] 3) aT))) (b:=ay (aq (aE (fB []) (ah 3)) (ae [] 4)) (gz 1 (aa 2) (aK [5] (aU (aE nc (ah 4))) (ae [] 5) aG (cF (aQ (aa 5) (aQ (iT (aa 4) (aa 5)) bS)))))) (λk Z=>∃o2 o3 o4:Option D,Z=[0#(aw h w bs),some (.own (.aA ((bs.take k).map λb=>((Sum.inr [b.1]:a7),D.lst (iC b.2))))),o2.map .pure,o3.map .pure,o4.map .pure,none]) (bs.map cf) 0 [0#(aw h w bs),some (.own (.aA [])),none,none,none,none] ⟨none,none,none,V'⟩ λi d Z hd⟨o2,o3,o4,e⟩=>by
   subst e;rw[Wo,WG]at hd;obtain⟨b,hb,rfl⟩:=hd;rw[Q4];have hm:=Q0 hb;obtain⟨t1,t2,t3⟩:=qh R hm;have hz:((bs.take i).map λb=>((Sum.inr [b.1]:a7),D.lst (iC b.2))).length<Wd:=by rw[bV];simp;lia
   have hs:nc (.str b.2.flatten)=some (.own (.lst ((ps b.2).map λn=>.str [n]))):=by unfold nc;dsimp only;rw[if_pos Z'];rfl
   have hl:(ps b.2).length<=1000:=by unfold ps;rw[zC];have:=vV b.2.flatten [];rw[JJ]at this;lia
   have hc:=zaH (.pure (aw h w bs)) (.own (.aA ((bs.take i).map λb=>((Sum.inr [b.1]:a7),D.lst (iC b.2))))) (.str [b.1]) (bQ b.2) b.2.flatten (ps b.2) hl;have hp:=zha R (λb=>D.lst (iC b.2)) hb;refine⟨[0#(aw h w bs),some (.own (.aA ((bs.take i).map λb=>((Sum.inr [b.1]:a7),D.lst (iC b.2))))),0#(.str [b.1]),0#(bQ b.2),o4.map .pure,none],_,rfl,?_,some (.str [b.1]),some (bQ b.2),some (.str b.2.flatten),rfl⟩;have dq:(ps b.2).map (λp=>D.tup [.str [p],.int ((b.2.flatten.count p:Nat):Int)])=iC b.2:=rfl;rw[dq]at hc;generalize((bs.take (i+1)).map λb=>((Sum.inr [b.1]:a7),D.lst (iC b.2)))=L1 at*;generalize((bs.take i).map λb=>((Sum.inr [b.1]:a7),D.lst (iC b.2)))=L0 at*;generalize((ps b.2).map λn=>D.str [n])=QS at*;generalize iC b.2=PL at*;generalize b.2.flatten=z at*;generalize aw h w bs=ru at*;generalize bQ b.2=fb at*;generalize o4.map S.pure=p4 at*;simp[aq,ah,t1,gz,mX,eF,hs,bG,a_];rw[hc];simp[cg,mX,aa,dz,hz,hp]
  refine⟨o2,o3,o4,?_⟩;rw[e];simp[gc]
 obtain⟨o2,o3,o4,e⟩:=loop;rw[pZ,lW,HI];generalize gc bs=DT at*;generalize hru:aw h w bs=ru at*;generalize o2.map S.pure=p2 at*;generalize o3.map S.pure=p3 at*;generalize o4.map S.pure=p4 at*;simp[cG,bw,aq,eF,lE,ag,aP,ah,x2];rw[e];simp[kG,df,cn]
theorem qaL{bs:8#0}(ht:t∈bs.map (·.1)):jt (gc bs) (.str [t])=0#(.lst ((ps (bM bs t)).map λp=>D.tup [.str [p],.int ((M bs t p:Nat):Int)])):=by
 obtain⟨b,hb,e0,e1,e2⟩:=j3 ht;have hv:dw (bs.map λb=>((Sum.inr [b.1]:a7),D.lst (iC b.2))) (.inr [t])=some (.lst (iC b.2)):=by
  unfold dw;rw[Jl];have:((λkv:a7×D=>decide (kv.1=.inr [t]))∘λb:Nat×List Tx=>((Sum.inr [b.1]:a7),D.lst (iC b.2)))=λb=>decide (b.1=t):=by funext b;simp
  rw[this,e1];rfl
 unfold gc jt;simp only[dz,Qg,hv,WM];unfold iC M;rw[e2]
def dL(dm:List (Nat×Nat)):List (a7×D):=dm.map λp=>((Sum.inr [p.1]:a7),D.int ((p.2:Nat):Int))
theorem LU:∀{l ts:List Nat},l.Nodup->(∀x∈l,x∈ts)->l.length<=ts.length
 |[],_,_,_=>Qc _|a::r,ts,nd,h=>by
  obtain⟨n1,n2⟩:=WL.mp nd;have ha:=h a Wc;have:=LU (l:=r) (ts:=ts.erase a) n2 λx hx=>by have:x≠a:=λe=>n1 (by rw[<-e];exact hx);exact(List.mem_erase_of_ne this).mpr (h x (W8 _ hx))
  rw[List.length_erase_of_mem ha]at this;have:=List.length_pos_of_mem ha;simp;lia
theorem Dm.len(D:Dm ts dm):dm.length<=ts.length:=by have:=LU D.nd D.sub;simpa using this
theorem LV(dm:List (Nat×Nat))(s:Nat):(dw (dL dm) (.inr [s])).getD (.int 0)=.int ((val dm s:Nat):Int):=by
 unfold dw dL val;rw[Jl];have:((λkv:a7×D=>decide (kv.1=.inr [s]))∘λp:Nat×Nat=>((Sum.inr [p.1]:a7),D.int ((p.2:Nat):Int)))=λp=>decide (p.1=s):=by funext p;simp
 rw[this];cases dm.find? λp=>decide (p.1=s)with|none=>rfl|some p=>rfl
theorem zl7(dm:List (Nat×Nat))(s m:Nat):putD (dL dm) (.inr [s]) (.int ((m:Nat):Int))=dL (put dm s m):=by
 unfold putD put dL;rw[List.any_map];have e1:((λkv:a7×D=>decide (kv.1=.inr [s]))∘λp:Nat×Nat=>((Sum.inr [p.1]:a7),D.int ((p.2:Nat):Int)))=λp=>decide (p.1=s):=by funext p;simp
 rw[e1];by_cases h:(dm.any λp=>decide (p.1=s))=true
 .rw[if_pos h,if_pos h,Wn,Wn];refine WT λp j=>?_;show(if(Sum.inr [p.1]:a7)=Sum.inr [s]then((Sum.inr [p.1]:a7),D.int ((m:Nat):Int))else _)=_;by_cases q:p.1=s;.subst q;simp
  .simp[q]
 .rw[if_neg h,if_neg h];simp
theorem qaM(d0 d1 d2 d3 d4 d5 d7:Option S)(L L':List (a7×D))(m p o:D)(mi oi old new:Int)(hm:m=.int mi)(ho:o=.int oi)(x:Tx)(hp:p=.str x)(hv:(dw L (.inr x)).getD (.int 0)=.int old)(hmul:cZ (.int mi) (.int oi)=0#(.int new))(qaN:putD L (.inr x) (.int (old+new))=L')(hL:L.length<Wd):gz 6 (aa 9) (aB bD (g_ 6 (aa 9) 3#0) (aj (ag cZ 8 (ah 10)))) [d0,d1,d2,d3,d4,d5,some (.own (.aA L)),d7,0#m,0#p,0#o]=.ok .next [d0,d1,d2,d3,d4,d5,some (.own (.aA L')),d7,0#m,0#p,0#o]:=by subst hm ho hp;simp[gz,mX,g_,pJ,aa,dz,hv,ag,aP,ah,hmul,zio,hL,qaN]
theorem LW(dC:ts.length<=26)(d0 d1 d2 d3 d4 d5 d7:Option S)(f:Nat->Nat)(m:Nat)(hf:∀s,f s<=16):∀(qs:List Nat)(dm:List (Nat×Nat))(o9 bT:Option S),Dm ts dm->qs.Nodup->(∀p∈qs,p∈ts)->∃p9 f_:Option S,forL (aR 2 (aC (ae [] 9) (aC (ae [] 10) aT))) (gz 6 (aa 9) (aB bD (g_ 6 (aa 9) 3#0) (aj (ag cZ 8 (ah 10))))) (qs.map λp=>D.tup [.str [p],.int ((f p:Nat):Int)]) [d0,d1,d2,d3,d4,d5,some (.own (.aA (dL dm))),d7,0#(.int (m:Int)),o9,bT]=.ok .next [d0,d1,d2,d3,d4,d5,some (.own (.aA (dL (j_ f m qs dm)))),d7,0#(.int (m:Int)),p9,f_]|[],dm,o9,bT,_,_,_=>⟨o9,bT,rfl⟩|q::r,dm,o9,bT,Dd,nd,hq=>by obtain⟨n1,n2⟩:=WL.mp nd;have D1:=Dd.put (val dm q+m*f q) (hq q Wc);obtain⟨p9,f_,ih⟩:=LW dC d0 d1 d2 d3 d4 d5 d7 f m hf r (put dm q (val dm q+m*f q)) 0#(.str [q]) 0#(.int ((f q:Nat):Int)) D1 n2 λp hp=>hq p (W8 _ hp);refine⟨p9,f_,?_⟩;have hb:=qaM d0 d1 d2 d3 d4 d5 d7 (dL dm) (dL (put dm q (val dm q+m*f q))) (.int (m:Int)) (.str [q]) (.int ((f q:Nat):Int)) (m:Int) ((f q:Nat):Int) ((val dm q:Nat):Int) ((m:Int)*((f q:Nat):Int)) rfl rfl [q] rfl (LV dm q) (AQ _ _ Z' (by have:=hf q;lia)) (by rw[<-zl7];congr 2) (by have:=Dd.len;unfold dL;rw[bV,WB];lia);rw[We,j7 (T':=[d0,d1,d2,d3,d4,d5,some (.own (.aA (dL dm))),d7,0#(.int (m:Int)),0#(.str [q]),0#(.int ((f q:Nat):Int))]) rfl hb];exact ih
theorem LX{h w:Nat}{bs:8#0}(R:bC h w bs)(d0 d1 d2 d4 d5:Option S):∀(ak dm:List (Nat×Nat))(o7 o8 o9 bT:Option S),(∀k∈ak.map (·.1),k∈bs.map (·.1))->Dm (bs.map (·.1)) dm->∃p7 p8 p9 f_:Option S,forL (aR 2 (aC (ae [] 7) (aC (ae [] 8) aT))) (ck (aU (ag jt 3 (ah 7))) (aR 2 (aC (ae [] 9) (aC (ae [] 10) aT))) (gz 6 (aa 9) (aB bD (g_ 6 (aa 9) 3#0) (aj (ag cZ 8 (ah 10)))))) (kK (dL ak)) [d0,d1,d2,some (.own (gc bs)),d4,d5,some (.own (.aA (dL dm))),o7,o8,o9,bT]=.ok .next [d0,d1,d2,some (.own (gc bs)),d4,d5,some (.own (.aA (dL (tW bs (λt=>ps (bM bs t)) ak dm)))),p7,p8,p9,f_]
 |[],dm,o7,o8,o9,bT,_,_=>⟨o7,o8,o9,bT,rfl⟩|(k,m)::r,dm,o7,o8,o9,bT,hk,Dd=>by
  have n1:=R.n1;have dC:(bs.map (·.1)).length<=26:= ~~~n1;have qp:k∈bs.map (·.1):=hk k V';have vw:∀p∈ps (bM bs k),p∈bs.map (·.1):=λp hp=>by obtain⟨b,hb,_,_,e2⟩:=j3 qp;rw[e2,Bm]at hp;exact(qh R hb).2.2 p hp
  obtain⟨q9,q10,e⟩:=LW dC d0 d1 d2 (some (.own (gc bs))) d4 d5 0#(.str [k]) (M bs k) m (Kd R qp) (ps (bM bs k)) dm o9 bT Dd (Bn _) vw;obtain⟨D1,_⟩:=Bj (M bs k) m (ps (bM bs k)) dm Dd (Bn _) vw;obtain⟨p7,p8,p9,f_,ih⟩:=LX R d0 d1 d2 d4 d5 r (j_ (M bs k) m (ps (bM bs k)) dm) 0#(.str [k]) 0#(.int (m:Int)) q9 q10 (λq hq=>hk q %[We|W8 _ hq]) D1;refine⟨p7,p8,p9,f_,?_⟩;have hx:=qaL qp;have hb:ck (aU (ag jt 3 (ah 7))) (aR 2 (aC (ae [] 9) (aC (ae [] 10) aT))) (gz 6 (aa 9) (aB bD (g_ 6 (aa 9) 3#0) (aj (ag cZ 8 (ah 10))))) [d0,d1,d2,some (.own (gc bs)),d4,d5,some (.own (.aA (dL dm))),0#(.str [k]),0#(.int (m:Int)),o9,bT]=.ok .next [d0,d1,d2,some (.own (gc bs)),d4,d5,some (.own (.aA (dL (j_ (M bs k) m (ps (bM bs k)) dm)))),0#(.str [k]),0#(.int (m:Int)),q9,q10]:=by rw[<-e];generalize dL dm=LL at*;generalize(ps (bM bs k)).map (λp=>D.tup [.str [p],.int ((M bs k p:Nat):Int)])=PP at*;generalize gc bs=PD at*;simp[eF,ag,aP,ah,hx]
  have hi:kK (dL ((k,m)::r))=D.tup [.str [k],.int (m:Int)]::kK (dL r):=rfl;rw[hi,j7 (T':=[d0,d1,d2,some (.own (gc bs)),d4,d5,some (.own (.aA (dL dm))),0#(.str [k]),0#(.int (m:Int)),o9,bT]) rfl hb];exact ih
abbrev LY:DS:=ck (aU (ag jt 3 (ah 7))) (aR 2 (aC (ae [] 9) (aC (ae [] 10) aT))) (gz 6 (aa 9) (aB bD (g_ 6 (aa 9) 3#0) (aj (ag cZ 8 (ah 10)))))
abbrev tY:DS:=ay (aq lE (ae [] 6)) (ay (ck (lH 4) (aR 2 (aC (ae [] 7) (aC (ae [] 8) aT))) LY) (pQ [] 4 6))
theorem zh8(d0 d1 d2 d3 d5 o6 o7 o8 o9 bT p7 p8 p9 f_:Option S)(L L':List (a7×D))(B:DS)(hf:forL (aR 2 (aC (ae [] 7) (aC (ae [] 8) aT))) B (kK L) [d0,d1,d2,d3,none,d5,some (.own (.aA [])),o7,o8,o9,bT]=.ok .next [d0,d1,d2,d3,none,d5,some (.own (.aA L')),p7,p8,p9,f_]):(ay (aq lE (ae [] 6)) (ay (ck (lH 4) (aR 2 (aC (ae [] 7) (aC (ae [] 8) aT))) B) (pQ [] 4 6))) [d0,d1,d2,d3,some (.own (.aA L)),d5,o6,o7,o8,o9,bT]=.ok .next [d0,d1,d2,d3,some (.own (.aA L')),d5,none,p7,p8,p9,f_]:=by simp[aq,lE,lH];rw[hf];simp[pQ]
theorem zax{bs:8#0}(R:bC h w bs)(ht:t0∈bs.map (·.1))(d0 d1 d2:Option S)(g:Nat):∃(dm:List (Nat×Nat))(o5 o6 o7 o8 o9 bT:Option S),Dm (bs.map (·.1)) dm/\(∀s,val dm s=vec bs t0 g s)/\forL (ae [] 5) tY (bo 0 g) [d0,d1,d2,some (.own (gc bs)),some (.own (.aA (dL [(t0,1)]))),none,none,none,none,none,none]=.ok .next [d0,d1,d2,some (.own (gc bs)),some (.own (.aA (dL dm))),o5,o6,o7,o8,o9,bT]:=by
 obtain⟨SZ,e,dm,o5,o6,o7,o8,o9,bT,hD,hv,rfl⟩:=kJ (g:=ae [] 5) (b:=tY) (λk Z=>∃(dm:List (Nat×Nat))(o5 o6 o7 o8 o9 bT:Option S),Dm (bs.map (·.1)) dm/\(∀s,val dm s=vec bs t0 k s)/\Z=[d0,d1,d2,some (.own (gc bs)),some (.own (.aA (dL dm))),o5,o6,o7,o8,o9,bT]) (bo 0 g) 0 _ ⟨[(t0,1)],none,none,none,none,none,none,⟨V',~~~ht⟩,λs=>by
   show val [(t0,1)] s=if s=t0 then 1 else 0;rw[l0,xh V'];by_cases q:t0=s;.simp[q]
   .simp[q,Ne.symm q],rfl⟩ (λi d Z hd hh=>by
   obtain⟨dm,o5,o6,o7,o8,o9,bT,hD,hv,e⟩:=hh
   subst e;rw[Q4]at*;have D0:Dm (bs.map (·.1)) []:=⟨V',V'⟩;have kD:∀t∈bs.map (·.1),(ps (bM bs t)).Nodup/\(∀p∈ps (bM bs t),p∈bs.map (·.1))/\∀s,s∉ps (bM bs t)->M bs t s=0:=λt ht=>by
    obtain⟨b,hb,_,_,e2⟩:=j3 ht;refine⟨Bn _,λp hp=>?_,λs hs=>?_⟩;.rw[e2,Bm]at hp;exact(qh R hb).2.2 p hp
    .unfold M;rw[Bm]at hs;exact List.count_eq_zero.mpr hs
   obtain⟨D1,v1⟩:=LR (i5 R) kD dm [] hD.sub hD.nd D0;obtain⟨p7,p8,p9,f_,ef⟩:=LX R d0 d1 d2 none 0#d dm [] o7 o8 o9 bT hD.sub D0;have q:=zh8 d0 d1 d2 (some (.own (gc bs))) 0#d o6 o7 o8 o9 bT p7 p8 p9 f_ (dL dm) _ LY ef;refine⟨_,_,rfl,q,_,_,_,_,_,_,_,D1,λs=>?_,rfl⟩;rw[v1,xh V',Q4];exact dG λt j=>by rw[hv]);refine⟨dm,o5,o6,o7,o8,o9,bT,hD,?_,e⟩;rw[Yf,Q4]at hv;exact hv
theorem zbw{bs:8#0}(R:bC h w bs)(dm:List (Nat×Nat)):kR [.pure (aw h w bs),.pure (.aA (dL dm))]=some (.own (.lst (res bs (val dm))),[.pure (aw h w bs),.pure (.aA (dL dm))]):=by
 have n1:=R.n1;have g:=Kc R;have hc:bX [2] (ae [] 2) aG (cF (aQ (aa 2) (aQ (g_ 1 (aa 2) 3#0) bS))) ((bs.map (·.1)).map λn=>D.str [n]) [0#(aw h w bs),0#(.aA (dL dm)),none] []=.ok (res bs (val dm)) [0#(aw h w bs),0#(.aA (dL dm)),none]:=by
  have:=eE (cs:=[2]) (g:=ae [] 2) (t:=aG) (el:=cF (aQ (aa 2) (aQ (g_ 1 (aa 2) 3#0) bS))) (λn:Nat=>D.str [n]) (λs=>D.tup [.str [s],.int ((val dm s:Nat):Int)]) [0#(aw h w bs),0#(.aA (dL dm)),none] (bs.map (·.1)) [] (by rw[bV];simp;lia) λs hs=>by have hv:=LV dm s;refine⟨[0#(aw h w bs),0#(.aA (dL dm)),0#(.str [s])],_,.pure (.tup [.str [s],.int ((val dm s:Nat):Int)]),[0#(aw h w bs),0#(.aA (dL dm)),0#(.str [s])],rfl,rfl,?_,rfl,rfl⟩;generalize dL dm=L at*;generalize((val dm s:Nat):Int)=vv at*;simp[aa,g_,pJ,dz,hv]
  rw[this];unfold res;rw[Wn];rfl
 rw[kR,zW];have hT:dh (bs.map (·.1))=D.lst ((bs.map (·.1)).map λn=>.str [n]):=rfl;rw[hT]at g;generalize hTS:((bs.map (·.1)).map λn=>D.str [n])=TS at*;generalize res bs (val dm)=RR at*;generalize dL dm=L at*;generalize aw h w bs=ru at*;refine kY (T':=[0#ru,0#(.aA L),none]) ?_;simp[bw,eF,au,aW,bB,bx,aa,bb,g,aL,bG,a_];rw[hc];simp[cg]
theorem zh7(GR:DF)(GP GL:DF)(ru P:D)(t0 g:Nat)(dm:List (Nat×Nat))(RR:List D)(o5 o6 o7 o8 o9 bT:Option S)(hg:g<=1000)(gr:GR [.pure ru,.pure (.str [t0])]=some (.pure .aX,[.pure ru,.pure (.str [t0])]))(gp:GP [.pure ru]=some (.own P,[.pure ru]))(hl:forL (ae [] 5) tY (bo 0 g) [0#ru,0#(.str [t0]),0#(.int g),some (.own P),some (.own (.aA (dL [(t0,1)]))),none,none,none,none,none,none]=.ok .next [0#ru,0#(.str [t0]),0#(.int g),some (.own P),some (.own (.aA (dL dm))),o5,o6,o7,o8,o9,bT])(gl:GL [.pure ru,.pure (.aA (dL dm))]=some (.own (.lst RR),[.pure ru,.pure (.aA (dL dm))])):∃SZ,(ay (kz (au GR [.val (aa 0),.val (aa 1)])) (ay (aq (au GP [.val (aa 0)]) (ae [] 3)) (ay (aq (oz (aa 1) 3#1) (ae [] 4)) (ay (ck (bW (aa 2)) (ae [] 5) tY) (bf (au GL [.val (aa 0),.val (aa 4)])))))) [0#ru,0#(.str [t0]),0#(.int g),none,none,none,none,none,none,none,none]=.ok (.ret (.own (.lst RR))) SZ:=by
 have e1:kz (au GR [.val (aa 0),.val (aa 1)]) [0#ru,0#(.str [t0]),0#(.int g),none,none,none,none,none,none,none,none]=.ok .next [0#ru,0#(.str [t0]),0#(.int g),none,none,none,none,none,none,none,none]:=by simp[au,aW,bB,bG,bx,aa,bb,gr,aL]
 have e2:aq (au GP [.val (aa 0)]) (ae [] 3) [0#ru,0#(.str [t0]),0#(.int g),none,none,none,none,none,none,none,none]=.ok .next [0#ru,0#(.str [t0]),0#(.int g),some (.own P),none,none,none,none,none,none,none]:=by simp[aq,au,aW,bB,bx,aa,bb,gp,aL]
 have e3:aq (oz (aa 1) 3#1) (ae [] 4) [0#ru,0#(.str [t0]),0#(.int g),some (.own P),none,none,none,none,none,none,none]=.ok .next [0#ru,0#(.str [t0]),0#(.int g),some (.own P),some (.own (.aA (dL [(t0,1)]))),none,none,none,none,none,none]:=by simp[aq,oz,aa,dz,dL]
 have e4:ck (bW (aa 2)) (ae [] 5) tY [0#ru,0#(.str [t0]),0#(.int g),some (.own P),some (.own (.aA (dL [(t0,1)]))),none,none,none,none,none,none]=.ok .next [0#ru,0#(.str [t0]),0#(.int g),some (.own P),some (.own (.aA (dL dm))),o5,o6,o7,o8,o9,bT]:=by rw[<-hl];simp[aa,hJ g Z']
 rw[bq e1,bq e2,bq e3,bq e4];refine⟨[0#ru,0#(.str [t0]),0#(.int g),some (.own P),0#(.aA (dL dm)),o5,o6,o7,o8,o9,bT],?_⟩;generalize dL dm=L at*;simp[au,aW,bB,bx,aa,bb,gl,aL]
theorem zh2{bs:8#0}(R:bC h w bs)(ht:t0∈bs.map (·.1))(hg:g<=1000):tF [.pure (aw h w bs),.pure (.str [t0]),.pure (.int g)]=some (.own (.lst (res bs (vec bs t0 g))),[.pure (aw h w bs),.pure (.str [t0]),.pure (.int g)]):=by
 obtain⟨dm,o5,o6,o7,o8,o9,bT,hD,hv,hl⟩:=zax R ht 0#(aw h w bs) 0#(.str [t0]) 0#(.int g) g;have gl:=zbw R dm;have hr:res bs (val dm)=res bs (vec bs t0 g):=WT λb j=>by rw[hv]
 rw[hr]at gl;obtain⟨SZ,e⟩:=zh7 lP pZ kR (aw h w bs) (gc bs) t0 g dm _ o5 o6 o7 o8 o9 bT hg (Ln R ht) (zh4 R) hl gl;rw[tF,HJ];exact oK e
theorem forA{A:Type}(f:A->D){g:DG}{b:DS}(I:List A->Dl->Prop)(hs:∀a as Z,I (a::as) Z->∃T',g (.pure (f a)) Z=some T'/\∀y,b T'=y->∃S',y=.ok .next S'/\I as S'):∀as Z,I as Z->∃SZ,forL g b (as.map f) Z=.ok .next SZ/\I [] SZ|[],Z,h=>⟨Z,rfl,h⟩|a::as,Z,h=>by obtain⟨T',e1,h1⟩:=hs a as Z h;obtain⟨S',e2,h2⟩:=h1 _ rfl;obtain⟨SZ,e,h'⟩:=forA f I hs as S' h2;exact⟨SZ,(j7 e1 e2).trans e,h'⟩
theorem qq{A:Type}(f F:A->D){as:List A}{np:List Nat}{el:DE}{G':Dl}(e:it G'=.ok (as.map f) Z)(hl:as.length<=1000)(hs:∀a∈as,el (Z.set j (pS (f a)))=.ok (.pure (F a)) (Z.set j (pS (f a))))(hj:Z[j]?=some none:=by rfl)(hn:np.contains j=false:=by rfl):aK [j] it (ae np j) aG el G'=.ok (.own (.lst (as.map F))) Z:=by
 obtain⟨h,m3⟩:=W9.mp hj;have c:a_ [j] Z=Z:=by show Z.set j none=Z;rw[<-m3];exact List.set_getElem_self h
 have:=cM (cs:=[j]) (g:=ae np j) (t:=aG) (el:=el) f F e hl (λa ha=>⟨_,_,_,_,by rw[c];unfold ae;rw[if_neg (by rw[hn];nofun)],rfl,hs a ha,by rw[c];show(Z.set j (pS (f a))).set j none=Z;rw[List.set_set];exact c,rfl⟩) #v[bG,hj];rw[this,c];show Rs.ok _ (match Z[j]? with|some o=>Z.set j o|none=>Z)=_;rw[hj];exact congrArg _ c
theorem ka{p:D->Option S}{f:DE}{v r:S}(e:f Z=.ok v T')(h:p v.d=some r):aE p (aj f) Z=.ok r T':=#v[aE,e,h]
theorem zld{f:DE}{v:S}(e:f Z=.ok v T')(h:gL Z i=true)(h1:T'[i]?=some (pO (.lst xs)))(hz:xs.length<=1000):de i f Z=.ok .next (T'.set i (pO (.lst (xs++[v.d])))):=by
 have:xs.length<Wd:=by rw[bV];lia
 simp[de,h,e,putL,h1,this]
theorem ic{f:DE}{g:DG}{v:S}(e:f Z=.ok v T')(h:g v T'=some S'):aq f g Z=.ok .next S':=#v[aq,e,h]
theorem LZ{f:DE}{v:S}(e:f Z=.ok v T')(h:v.d=.tup ds\/v.d=.lst ds):aU f Z=.ok ds T':=by rw[eF,e,dR];rcases h with h|h<;>rw[h]
theorem zgZ(n:Nat):bo 0 n=(W7 n).map λi:Nat=>D.int i:=#v[bo]
theorem Bo{f:DE}{z:Int}(e:f Z=.ok (.pure (.int z)) T')(hz:z=w)(hw:w<=1000):bW f Z=.ok ((W7 w).map λi:Nat=>D.int i) T':=by subst hz;rw[Yc,e,<-zgZ,dR];exact hJ w Z' T'
section
variable{f:DE}{g:BE}{d:D}{v w r:S}{p:D->D->Option S}{G:DF}{F:DA}{t u:DT}{a b c:DS}{R:Rs Fl}
theorem kb(hf:f Z=.ok (.pure d) Z)(g:G [.pure d]=some (v,[.pure d])):au G [.val f] Z=.ok v Z:=by simp[au,aW,bB,bx,hf,bb,g,aL,S.d]
theorem nN(h:f Z=.ok v T'):aj f Z=.ok v.d T':=#v[h]
theorem gE{x:S}(e1:f Z=.ok x T')(e2:g T'=.ok y S')(h:p x.d y=some r):aB p f g Z=.ok r S':=#v[aB,e1,e2,h]
theorem iE(e1:Z[i]?=some (some v))(e2:g Z=.ok d Z)(h:p v.d d=some r):ag p i g Z=.ok r Z:=#v[ag,aP,e1,e2,h,ah]
theorem Bp(e:Z[i]?=some (some v))(h:q v.d=some r):aE q (ah i) Z=.ok r Z:=#v[aE,ah,e,h]
theorem tZ(h:f Z=.ok v T')(k:F T'=.ok ds S'):aQ f F Z=.ok (v.d::ds) S':=#v[aQ,h,k]
theorem Bq(h:f Z=.ok v T')(e:v.d=d)(k:F T'=.ok ds S'):aQ f F Z=.ok (d::ds) S':=by subst e;simp[aQ,h,k]
theorem Br(k:F Z=.ok ds T'):cF F Z=.ok (.pure (.tup ds)) T':=#v[cF,k]
theorem L3{z:D}(h1:f1 Z=.ok (.pure x) Z)(h2:f2 Z=.ok (.pure y) Z)(h3:f3 Z=.ok (.pure z) Z)(g:G [.pure x,.pure y,.pure z]=some (v,[.pure x,.pure y,.pure z])):au G [.val f1,.val f2,.val f3] Z=.ok v Z:=#v[au,aW,bB,bx,h1,h2,h3,bb,g,aL,S.d]
theorem zle{h:DE}{R:Rs S}(e:f Z=.ok (.pure (.bl true)) T')(k:h T'=R):fM f h Z=R:=by unfold fM;rw[e];exact k
theorem qr(h:f Z=.ok (.pure (.bl z)) T'):az f Z=.ok z T':=#v[az,h]
theorem L4(h:t Z=.ok z T'):bI t a b Z=if z then a T' else b T':=by unfold bI;rw[h];rfl
theorem rt(e:f Z=.ok v T'):bf f Z=.ok (.ret v) T':=by unfold bf;rw[e];rfl
theorem fR(e:a Z=.ok .next T')(h:b T'=R):ay a b Z=R:=ZH h e
theorem iN(e:t Z=.ok false T')(h:c T'=R):ay (bI t a bR) c Z=R:=ZI h e
end
theorem Bs{f:DE}{x:Bool}(h:f Z=.ok (.pure (.bl x)) T'):fA (az f) Z=.ok (!x) T':=#v[az,h]
theorem L5{t u:DT}{x:Bool}(h:t Z=.ok false T')(k:u T'=.ok x S'):fT t u Z=.ok x S':=#v[h,k]
theorem zdY(h:sr w fl)(c:Nat)(hc:c<w):v_ [.pure (bQ fl),.pure (.int c)]=some (.pure (.str (fl.map λr=>r.getD c 0)),[.pure (bQ fl),.pure (.int c)]):=by have h1:=h.h1;have w1:=h.w1;refine kY (T':=[pS (bQ fl),pS (.int c),none]) (rt (ka (qq (f:=.str) (λr=>.str [r.getD c 0]) (as:=fl) rfl Z' λr hr=>?_) (FW (fl.map λr=>r.getD c 0) Re▸by simp[Function.comp_def])));have hl:=h.all r hr;exact iE rfl rfl (FX r c Z' Z')
theorem zdU(h:sr w fl):tw [.pure (bQ fl)]=some (.pure (bQ (turn w fl)),[.pure (bQ fl)]):=by obtain⟨r0,hr0,hl0⟩:=Yb h;have hw:=h.w1;have e0:ax (bQ fl) (.int 0)=0#(.str r0):=#v[ax,oB,hr0];have el:=Ya r0 Z';rw[hl0]at el;refine gP (T':=[pS (bQ fl),none]) (rt (ka (qq (f:=λc:Nat=>.int c) (λc=>.str (fl.map λr=>r.getD c 0)) (as:=W7 w) (Bo (ka (iE rfl rfl e0) el) rfl Z') Re λc hc=>?_) #v[bU,turn,Function.comp_def]));have g:=zdY h c (Ws.mp hc);generalize bQ fl=F at*;simp[au,aW,bB,bx,aa,bb,g,aL,S.d]
theorem zam(h:sr w fl):tE [.pure (bQ fl)]=some (.pure (bQ (back fl)),[.pure (bQ fl)]):=by
 have h1:=h.h1;refine gP (T':=[pS (bQ fl),none]) (rt (ka (qq (f:=.str) (λr=>.str r.reverse) (as:=fl) rfl Z' λr hr=>Bp rfl ?_) #v[bU,back,Function.comp_def]));have hl:=h.all r hr;have:=h.w1;have hz:r.length<=Wd:=by rw[bV];lia
 simp[S.d,sI,Sl,hz]
theorem L6(G:DF){r h w:D}{bs:8#0}{T:Nat×List Tx->List Tx}(hn:bs.length<=26)(hG:∀b∈bs,G [.pure (bQ b.2)]=some (.pure (bQ (T b)),[.pure (bQ b.2)])):aK [4,5] (aU (aa 3)) (aR 2 (aC (ae [] 4) (aC (ae [] 5) aT))) aG (cF (aQ (aa 4) (aQ (au G [.val (aa 5)]) bS))) [pS r,pS h,pS w,pS (.tup (bs.map cf)),none,none]=.ok (.own (.lst ((bs.map λb=>(b.1,T b)).map cf))) [pS r,pS h,pS w,pS (.tup (bs.map cf)),none,none]:=by rw[Wn];refine cM (f:=cf) (λb=>cf (b.1,T b)) rfl Z' λb hb=>⟨[pS r,pS h,pS w,pS (.tup (bs.map cf)),pS (.str [b.1]),pS (bQ b.2)],_,_,_,rfl,rfl,Br (tZ (v:=.pure (.str [b.1])) rfl (Bq (kb (d:=bQ b.2) rfl (hG b hb)) rfl rfl)),rfl,rfl⟩
theorem L7{bs:8#0}(R:bC h w bs):oF [.pure (aw h w bs)]=some (.pure (aw w h (eU w bs)),[.pure (aw h w bs)]):=by have c:=L6 tw (r:=aw h w bs) (h:=.int h) (w:=.int w) (T:=λb=>turn w b.2) R.n1 λb hb=>zdU (R.F5 hb);exact gP (T':=[pS (aw h w bs),pS (.int h),pS (.int w),pS (.tup (bs.map cf)),none,none]) (fR (T':=[pS (aw h w bs),pS (.int h),pS (.int w),pS (.tup (bs.map cf)),none,none]) rfl (rt (Br (tZ (v:=.pure (.int w)) rfl (tZ (v:=.pure (.int h)) rfl (Bq (ka c rfl) rfl rfl))))))
theorem z5h{bs:8#0}(R:bC h w bs):wa [.pure (aw h w bs)]=some (.pure (aw h w (m_ bs)),[.pure (aw h w bs)]):=by have c:=L6 tE (r:=aw h w bs) (h:=.int h) (w:=.int w) (T:=λb=>back b.2) R.n1 λb hb=>zam (R.F5 hb);exact gP (T':=[pS (aw h w bs),pS (.int h),pS (.int w),pS (.tup (bs.map cf)),none,none]) (fR (T':=[pS (aw h w bs),pS (.int h),pS (.int w),pS (.tup (bs.map cf)),none,none]) rfl (rt (Br (tZ (v:=.pure (.int h)) rfl (tZ (v:=.pure (.int w)) rfl (Bq (ka c rfl) rfl rfl))))))
theorem L8{g:Nat->Nat}{f:Nat->Nat}:∀l:List Nat,sm (l.map g) f=sm l λx=>f (g x)|[]=>rfl|x::r=>by rw[We,gC,gC,L8 r]
theorem L9(n:Nat)(f:Nat->Nat):sm (W7 (n+1)) f=f 0+sm (W7 n) λi=>f (i+1):=by rw[Jm,gC,L8]
theorem Bt(c:Nat):∀l:List Nat,sm l (λj=>c)=l.length*c|[]=>#v[wX]|x::r=>by rw[gC,Bt c r,WF,JA];lia
theorem L_(f:Nat->Nat->Nat):∀(row:Tx)(j:Nat),rs f j row=sm (W7 row.length) λk=>f (j+k) (row.getD k 0)|[],j=>rfl|n::r,j=>by rw[WF,L9];show f j n+rs f (j+1) r=_;rw[L_ f r (j+1)];exact congrArg _ (dG λk y=>by rw[Uv,Nat.add_comm 1 k];rfl)
theorem Ma(f:Nat->Nat->Nat->Nat):∀(B:List Tx)(i:Nat),gD f i B=sm (W7 B.length) λk=>rs (f (i+k)) 0 (B.getD k [])|[],i=>rfl|n::r,i=>by rw[WF,L9];show rs (f i) 0 n+gD f (i+1) r=_;rw[Ma f r (i+1)];exact congrArg _ (dG λk j=>by rw[Uv,Nat.add_comm 1 k];rfl)
theorem zeF(hB:∀r∈B,r.length=w)(hi:i<B.length):(B.getD i []).length=w:=by rw[Wk,W2 hi];exact hB _ (WV hi)
theorem Bu(hB:∀r∈B,r.length=w)(f:Nat->Nat->Nat->Nat):gD f 0 B=sm (W7 B.length) λi=>sm (W7 w) λj=>f i j ((B.getD i []).getD j 0):=by rw[Ma];exact dG λi hi=>by rw[L_,zeF hB (Ws.mp hi),Q4];exact dG λj k=>by rw[Q4]
theorem zgi(hj:j<w)(hi:i<B.length):((turn w B).getD j []).getD i 0=(B.getD i []).getD j 0:=by simp[turn,Wk,hj,hi]
theorem xi:(turn w B).length=w/\∀r∈turn w B,r.length=B.length:=by refine⟨#v[turn],λr hr=>?_⟩;obtain⟨c,_,rfl⟩:=Wj.mp hr;simp
theorem Mb(hB:∀r∈B,r.length=w)(f:Nat->Nat->Nat->Nat):gD f 0 (turn w B)=gD (λi j=>f j i) 0 B:=by rw[Bu xi.2,Bu hB,xi.1,ql];exact dG λi hi=>dG λj hj=>by rw[zgi (Ws.mp hj) (Ws.mp hi)]
theorem Mc(nd:ts.Nodup)(F:Nat->Nat):∀(row:Tx)(j:Nat),(∀n∈row,n∈ts)->rs (λk n=>F n) j row=sm ts λs=>row.count s*F s
 |[],j,_=>by rw[nH λt k=>by rw[List.count_nil,UF]];rfl|n::r,j,h=>by
  show F n+rs (λk n=>F n) (j+1) r=_;rw[Mc nd F r (j+1) λx hx=>h x (.tail _ hx),<-j9 F n ts nd (h n (.head _)),<-qk];exact dG λs k=>by
   rw[UD];by_cases e:n=s;.subst e;simp[JA,Nat.add_comm]
   .simp[e,Ne.symm e]
theorem xj(nd:ts.Nodup)(F:Nat->Nat):∀(B:List Tx)(i:Nat),(∀r∈B,∀n∈r,n∈ts)->gD (λj j n=>F n) i B=sm ts λs=>B.flatten.count s*F s|[],i,_=>by rw[nH λt j=>by rw[List.flatten_nil,List.count_nil,UF]];rfl|n::r,i,h=>by show rs (λj n=>F n) 0 n+gD (λj j n=>F n) (i+1) r=_;rw[xj nd F r (i+1) λx hx=>h x (.tail _ hx),Mc nd F n 0 (h n (.head _)),<-qk];exact dG λs j=>by rw[QO,List.count_append,JA]
theorem l6(w:Nat)(bs:8#0):(eU w bs).map (·.1)=bs.map (·.1):=#v[eU,Function.comp_def]
theorem Bv(bs:8#0):(m_ bs).map (·.1)=bs.map (·.1):=#v[m_,Function.comp_def]
theorem t4{bs:8#0}(R:bC h w bs):bC w h (eU w bs)where
 h0:=R.w0
 h1:=R.w1
 w0:=R.h0
 w1:=R.h1
 hw:=by have:=R.hw;lia
 n0:=by simpa[eU]using R.n0
 n1:=by simpa[eU]using R.n1
 up:=%[l6|R.up]
 vU:=λb hb=>by obtain⟨c,hc,rfl⟩:=Wj.mp hb;exact R.vU c hc
 bM:=λb hb=>by obtain⟨c,hc,rfl⟩:=Wj.mp hb;have k:=R.bM c hc;refine⟨xi.1,λr hr=>⟨(xi.2 r hr).trans k.1,λn hn=>?_⟩⟩;rw[l6];obtain⟨j,hj,rfl⟩:=Wj.mp hr;obtain⟨x,hx,rfl⟩:=Wj.mp hn;have hj:=Ws.mp hj;have kx:=k.2 x hx;refine kx.2 _ ?_;rw[Wk,W2 Z'];exact WV _
theorem zeY{bs:8#0}(R:bC h w bs):bC h w (m_ bs)where
 h0:=R.h0
 h1:=R.h1
 w0:=R.w0
 w1:=R.w1
 hw:=R.hw
 n0:=by simpa[m_]using R.n0
 n1:=by simpa[m_]using R.n1
 up:=%[Bv|R.up]
 vU:=λb hb=>by obtain⟨c,hc,rfl⟩:=Wj.mp hb;exact R.vU c hc
 bM:=λb hb=>by obtain⟨c,hc,rfl⟩:=Wj.mp hb;have k:=R.bM c hc;refine⟨by simpa[back]using k.1,λr hr=>?_⟩;obtain⟨x,hx,rfl⟩:=Wj.mp hr;rw[Bv,List.length_reverse];exact⟨(k.2 x hx).1,λn hn=>(k.2 x hx).2 n (List.mem_reverse.mp hn)⟩
theorem t5{bs:8#0}(T:Nat×List Tx->List Tx)(h:t∈bs.map (·.1)):∃b∈bs,b.1=t/\bM bs t=b.2/\bM (bs.map λb=>(b.1,T b)) t=T b:=by obtain⟨b,hb,e1,e2,e3⟩:=j3 h;refine⟨b,hb,e1,e3,?_⟩;unfold bM;rw[Jl];show((Option.map _ (bs.find? λb=>decide (b.1=t))).map _).getD []=_;rw[e2];rfl
theorem Md{bs:8#0}(R:bC h w bs)(ht:t∈bs.map (·.1)){s:Nat}(hs:s∈bs.map (·.1)):M (eU w bs) t s=M bs t s:=by
 obtain⟨b,hb,_,e1,e2⟩:=t5 (λb=>turn w b.2) ht;have k:=R.bM b hb;have T:=(t4 R).bM (b.1,turn w b.2) (Qh hb);rw[l6]at T;have c:=λB(hB:∀r∈B,∀n∈r,n∈bs.map (·.1))=>xj (i5 R) (λx=>if x=s then 1 else 0) B 0 hB;have one:=λB:List Tx=>show sm (bs.map (·.1)) (λx=>B.flatten.count x*if x=s then 1 else 0)=B.flatten.count s from by rw[<-j9 (λx=>B.flatten.count x) s _ (i5 R) hs];exact dG λx j=>QK _ _
 unfold M;show List.count s (bM (bs.map λb=>(b.1,turn w b.2)) t).flatten=_;rw[e1,e2,<-one,<-one,<-c _ λr hr=>(T.2 r hr).2,<-c _ λr hr=>(k.2 r hr).2,Mb λr hr=>(k.2 r hr).1]
theorem zlh{bs:8#0}(ht:t∈bs.map (·.1))(s:Nat):M (m_ bs) t s=M bs t s:=by obtain⟨b,hb,_,e1,e2⟩:=t5 (λb=>back b.2) ht;unfold M;show List.count s (bM (bs.map λb=>(b.1,back b.2)) t).flatten=_;rw[e1,e2];generalize b.2=B;unfold back;induction B with|nil=>rfl|cons r B ih=>rw[We,QO,QO,List.count_append,List.count_append,ih,List.count_reverse]
abbrev swH(q:HK):HK:=(q.2.1,q.1,q.2.2)
theorem Bw{bs:8#0}(R:bC h w bs)(W:HK->Nat)(dn rt:Nat){l:HV}(hl:dU (bs.map (·.1)) l):ws W (f9 bs dn rt l [])=ws (λk=>gD (cw W dn rt k) 0 (bM bs k.2.2)) l:=by rw[Lj R W dn rt l hl.ts ⟨V',λp hp=>by cases hp⟩];exact Q4 _
theorem Me{X Y:Nat}{bs:8#0}(R:bC h w bs)(ht:t∈bs.map (·.1)):∀(k:Nat)(W:HK->Nat),ws (λq=>W (swH q)) (cJ (eU w bs) w h g Y X t k)=ws W (cJ bs h w g X Y t k)|0,W=>rfl|k+1,W=>by have R':=t4 R;have mI:t∈(eU w bs).map (·.1):=%[l6|ht];have o:=lZ (g:=g) (R:=X) (C:=Y) R ht k;have o':=lZ (g:=g) (R:=Y) (C:=X) R' mI k;show ws _ (f9 _ _ _ _ [])=ws W (f9 _ _ _ _ []);rw[Bw R _ _ _ o,Bw R' _ _ _ o',<-Me R ht k];refine Bg λp hp=>?_;have hn:=o'.ts p hp;rw[l6]at hn;obtain⟨b,hb,_,e1,e2⟩:=t5 (λb=>turn w b.2) hn;show gD _ 0 (bM (bs.map λb=>(b.1,turn w b.2)) p.1.2.2)=gD _ 0 (bM bs p.1.2.2);rw[e1,e2,Mb λr hr=>((R.bM b hb).2 r hr).1];congr 1;funext i j n;unfold cw;rw[Bool.and_comm]
theorem zcA{X Y:Nat}{bs:8#0}(R:bC h w bs)(ht:t∈bs.map (·.1))(y:Nat):cj (cJ (eU w bs) w h g Y X t g) (true,true,y)=cj (cJ bs h w g X Y t g) (true,true,y):=by have mI:t∈(eU w bs).map (·.1):=%[l6|ht];rw[<-xb _ _ (lZ R ht g).nd,<-xb _ _ (lZ (t4 R) mI g).nd,<-Me R ht];refine Bg λp j=>?_;obtain⟨⟨a,b,c⟩,m⟩:=p;show(if(a,b,c)=(true,true,y)then 1 else 0)=if(b,a,c)=(true,true,y)then 1 else 0;cases a<;>cases b<;>simp
theorem Mf{h w g t:Nat}{bs:8#0}(R:bC h w bs)(ht:t∈bs.map (·.1)):∀(k:Nat)(W:HK->Nat),ws W (cJ bs h w g (h^g) (w^g) t k)=sm (bs.map (·.1)) λs=>vec bs t k s*W (true,true,s)
 |0,W=>by show ws W [((decide (h^g=h^g),decide (w^g=w^g),t),1)]=sm _ λs=>(if s=t then 1 else 0)*W (true,true,s);rw[j9 (λs=>W (true,true,s)) t _ (i5 R) ht,decide_eq_true rfl,decide_eq_true rfl];show 1*W (true,true,t)+0=_;lia|k+1,W=>by
  show ws W (f9 _ _ _ _ [])=_;rw[Bw R _ _ _ (lZ R ht k),Mf R ht k];have e:∀n∈bs.map (·.1),∀dn rt,gD (cw W dn rt (true,true,n)) 0 (bM bs n)=sm (bs.map (·.1)) λs=>M bs n s*W (true,true,s):=λn hn dn rt=>by obtain⟨b,hb,_,e,_⟩:=t5 (λb=>b.2) hn;unfold M;rw[e];exact xj (i5 R) (λs=>W (true,true,s)) _ 0 λr hr=>((R.bM b hb).2 r hr).2
  rw[dG λn hn=>show _=sm (bs.map (·.1)) λs=>vec bs t k n*(M bs n s*W (true,true,s))by rw[wY];exact congrArg _ (e n hn _ _),ql];refine dG λs j=>?_;show _=sm _ (λn=>vec bs t k n*M bs n s)*_;rw[<-oP];exact dG λn j=>(Jg _ _ _).symm
theorem zaw{y:Nat}{bs:8#0}(R:bC h w bs)(ht:t∈bs.map (·.1))(hy:y∈bs.map (·.1)):cj (cJ bs h w g (h^g) (w^g) t g) (true,true,y)=vec bs t g y:=by
 rw[<-xb _ _ (lZ R ht g).nd,Mf R ht,<-j9 (vec bs t g) y _ (i5 R) hy];exact dG λs j=>by
  by_cases e:s=y;.subst e;simp
  .simp[e]
theorem Mg{bs:8#0}(R:bC h w bs)(ht:t∈bs.map (·.1)):∀k,sm (bs.map (·.1)) (vec bs t k)=h^k*w^k
 |0=>by rw[<-Nat.mul_one (sm _ _),<-oP];exact j9 (λj=>1) t _ (i5 R) ht|k+1=>by
  have e:∀n∈bs.map (·.1),sm (bs.map (·.1)) (M bs n)=h*w:=λn hn=>by obtain⟨b,hb,_,e,_⟩:=t5 (λb=>b.2) hn;have k:=R.bM b hb;have c:=xj (i5 R) (λj=>1) b.2 0 λr hr=>(k.2 r hr).2;rw[Bu λr hr=>(k.2 r hr).1,dG λi j=>Bt 1 (W7 w),Bt,Uo,Uo,k.1,Nat.mul_one]at c;rw[c];unfold M;rw[e];exact dG λs j=>(Nat.mul_one _).symm
  show sm _ (λs=>sm _ λn=>vec bs t k n*M bs n s)=_;rw[ql λs n=>vec bs t k n*M bs n s,dG λn hn=>show _=vec bs t k n*(h*w)by rw[wY,e n hn],oP,Mg R ht k,QD,QD];exact Nat.mul_mul_mul_comm _ _ _ _
section
variable{v:S}{G:DF}{f4 f5:DE}{a b c d e:D}
theorem l9(h1:f1 Z=.ok (.pure a) Z)(h2:f2 Z=.ok (.pure b) Z)(g:G [.pure a,.pure b]=some (v,[.pure a,.pure b])):au G [.val f1,.val f2] Z=.ok v Z:=#v[au,aW,bB,bx,h1,h2,bb,g,aL,S.d]
theorem Bx(h1:f1 Z=.ok (.pure a) Z)(h2:f2 Z=.ok (.pure b) Z)(h3:f3 Z=.ok (.pure c) Z)(h4:f4 Z=.ok (.pure d) Z)(h5:f5 Z=.ok (.pure e) Z)(g:G [.pure a,.pure b,.pure c,.pure d,.pure e]=some (v,[.pure a,.pure b,.pure c,.pure d,.pure e])):au G [.val f1,.val f2,.val f3,.val f4,.val f5] Z=.ok v Z:=#v[au,aW,bB,bx,h1,h2,h3,h4,h5,bb,g,aL,S.d]
end
theorem Mh{bs:8#0}{f g:Nat->Nat}(h:∀t∈bs.map (·.1),f t=g t):res bs f=res bs g:=WT λb hb=>by rw[h b.1 (Qh hb)]
theorem Mi(f:Nat->Nat):∀bs:8#0,fz 49 (res bs f)=true|[]=>rfl|b::r=>by have:=Mi f r;unfold res at*;simp[fz,flat,this]
theorem Mj(bs:8#0)(f:Nat->Nat):bj (.lst (res bs f)) (.lst (res bs f))=pS (.bl true)/\cK (.lst (res bs f)) (.lst (res bs f))=pS (.bl false):=by have hf:flat 50 (.lst (res bs f))=true:=Mi f bs;have he:=oh hf;unfold bj cK;rw[hf,he];exact⟨rfl,rfl⟩
theorem qaO{bs:8#0}(hl:bs.length<=26)(ht:t∈bs.map (·.1)):∃p,p<bs.length/\(bs.map (·.1)).getD p 0=t/\m4 (.lst (bs.map λb=>.str [b.1])) (.str [t])=pS (.int (p:Nat)):=by
 have e:fU (bs.map λb=>D.str [b.1])=some (bs.map λb=>[b.1]):=by rw[show(bs.map λb:Nat×List Tx=>D.str [b.1])=(bs.map λb=>[b.1]).map .str by rw[Wn];rfl];exact vS _
 have hm:[t]∈bs.map λb=>[b.1]:=by obtain⟨b,hb,rfl⟩:=Wj.mp ht;exact Qh (f:=λb:Nat×List Tx=>[b.1]) hb
 have hi:=List.idxOf_lt_length_of_mem hm;have hg:=List.getElem_idxOf hi;refine⟨(bs.map λb=>[b.1]).idxOf [t],~~~hi,?_,?_⟩;.generalize(bs.map λb=>[b.1]).idxOf [t]=p at*;rw[List.getElem_map]at hg;have hp:p<bs.length:= ~~~hi;rw[Wk,Wo,W2 hp];exact List.head_eq_of_cons_eq hg
 .simp only[m4,e];rw[if_pos ⟨hm,by simp;lia⟩]
theorem Mk(X:Nat->Nat->Nat){p:Nat}(h:p<ts.length):ax (tb ts X) (.int (p:Nat))=pS (.tup (aH ts (X (ts.getD p 0)))):=by unfold tb;simp only[ax];rw[iU,Wo,W2 h,Wk,W2 h];rfl
theorem By(hh:h<=4)(hg:g<=60):h^g<2^128:=by have h1:h^g<=4^g:=Nat.pow_le_pow_left hh g;have h2:(4:Nat)^g<=4^60:=WU U' hg;exact WC (Wq h1 h2) U'
theorem neI(a:Int):cK (.int a) (.int a)=pS (.bl false):=by rw[nD];simp
theorem zhH(ts:List Nat)(f:Nat->Nat):cK (.tup (aH ts f)) (.tup (aH ts f))=pS (.bl false):=by have hf:flat 50 (.tup (aH ts f))=true:=Bb f 49 ts;have he:=oh hf;unfold cK;rw[hf,he];rfl
abbrev Ml:DE:=aK [7,8] (aU (aa 3)) (aR 2 (aC (ae [] 7) (aC (ae [] 8) aT))) aG (aa 8)
theorem qaP{bs:8#0}(hl:bs.length<=26)(f:Nat->Nat){a b c:D}{s3:S}(h3:s3.d=.lst (res bs f)){o4 o5:Option S}:Ml [pS a,pS b,pS c,some s3,o4,o5,o6,none,none,none]=.ok (.own (.lst (aH (bs.map (·.1)) f))) [pS a,pS b,pS c,pS (.lst (res bs f)),o4,o5,o6,none,none,none]:=by
 have e:aH (bs.map (·.1)) f=bs.map λb=>D.int (f b.1:Nat):=by unfold aH;rw[Wn];rfl
 rw[e];refine cM (λb:Nat×List Tx=>D.tup [.str [b.1],.int (f b.1:Nat)]) (λb=>D.int (f b.1:Nat)) (T':=[pS a,pS b,pS c,pS (.lst (res bs f)),o4,o5,o6,none,none,none]) (by cases s3<;>cases h3<;>rfl) Z' λb hb=>⟨[_,_,_,pS (.lst (res bs f)),o4,o5,o6,pS (.str [b.1]),pS (.int (f b.1:Nat)),none],_,_,_,rfl,rfl,rfl,rfl,rfl⟩
theorem zjx{bs:8#0}(R:bC h w bs)(ht:t∈bs.map (·.1))(hg:g<=60):p_ [.pure (aw h w bs),.pure (.str [t]),.pure (.int (g:Nat))]=some (.pure (.bl true),[.pure (aw h w bs),.pure (.str [t]),.pure (.int (g:Nat))]):=by
 have h4:=R.h1;have w4:=R.w1;have n1:=R.n1;have g1:=zh2 R ht (g:=g) Z';have g2:=xf h g Z' Z';have g3:=xf w g Z' Z';have g4:=w8 R g Z';have g5:=Bi R R.h0 h4 R.w0 w4 ht g (h^g) (w^g) hg (Wf _) (Wf _);have e5:nM bs (cJ bs h w g (h^g) (w^g) t g)=res bs (vec bs t g):=Mh λy hy=>zaw R ht hy;rw[e5]at g5;have x0:=(fF h w bs).1;have x1:=(fF h w bs).2.1;have x2:=(fF h w bs).2.2;have sm:=A_ (bs.map (·.1)) (vec bs t g);rw[Mg R ht]at sm;have ml:=nE (k:=128) ((h^g:Nat):Int) ((w^g:Nat):Int) %[Q5|By h4 hg] %[Q5|By w4 hg] U';rw[<-Q8]at ml;obtain⟨p,hp,ep,ix⟩:=qaO n1 ht;have xr:=Mk (ts:=bs.map (·.1)) (mp (bs.map (·.1)) (M bs) g) (p:=p) (~~~hp);rw[ep,<-K1]at xr;have ne:=zhH (bs.map (·.1)) (vec bs t g);have eq:=(Mj bs (vec bs t g)).1;have c1:=λs3 h3 o4 o5 o6=>qaP n1 (vec bs t g) (a:=aw h w bs) (b:=.str [t]) (c:=.int (g:Nat)) (s3:=s3) h3 (o4:=o4) (o5:=o5) (o6:=o6);have c9:∀o3 o4 o5,aK [9] (aU (ag ax 0 1#2)) (ae [] 9) aG (ag ax 9 1#0) [pS (aw h w bs),pS (.str [t]),pS (.int (g:Nat)),o3,o4,o5,none,none,none,none]=.ok (.own (.lst (bs.map λb=>.str [b.1]))) [pS (aw h w bs),pS (.str [t]),pS (.int (g:Nat)),o3,o4,o5,none,none,none,none]:=λo3 o4 o5=>qq cf (λb=>.str [b.1]) (LZ (iE rfl rfl x2) (.inl rfl)) Z' λb hb=>iE rfl rfl rfl;have ne1:=neI ((h^g*w^g:Nat):Int);have tp:bU (.lst (aH (bs.map (·.1)) (vec bs t g)))=pS (.tup (aH (bs.map (·.1)) (vec bs t g))):=rfl;clear e5 ep hp hg h4 w4 n1;unfold p_ HP;generalize res bs (vec bs t g)=L,aH (bs.map (·.1)) (vec bs t g)=C,tb (bs.map (·.1)) (mp (bs.map (·.1)) (M bs) g)=TB,((h^g*w^g:Nat):Int)=HW,D.int ((h^g:Nat):Int)=H,D.int ((w^g:Nat):Int)=W,D.int (p:Int)=P,aw h w bs=ru,D.str [t]=T,D.int (g:Int)=g',D.int (h:Int)=h',D.int (w:Int)=w',(bs.map λb=>D.str [b.1])=NS at*;have s1:∀o6,aE fD (aj Ml) [pS ru,pS T,pS g',pO (.lst L),pS H,pS W,o6,none,none,none]=.ok (.pure (.int HW)) [pS ru,pS T,pS g',pS (.lst L),pS H,pS W,o6,none,none,none]:=λo6=>ka (c1 (.own (.lst L)) rfl _ _ _) sm;have s2:se (aK [9] (aU (ag ax 0 1#2)) (ae [] 9) aG (ag ax 9 1#0)) (aa 1) [pS ru,pS T,pS g',pS (.lst L),pS H,pS W,none,none,none,none]=.ok (.pure P) [pS ru,pS T,pS g',pS (.lst L),pS H,pS W,none,none,none,none]:=by unfold se;rw[c9,dR];show p2 m4 (.lst NS) T _=_;unfold p2;rw[ix]
 exact oK (fR (ic (L3 rfl rfl rfl g1) rfl) (fR (ic (l9 (iE rfl rfl x0) rfl g2) rfl) (fR (ic (l9 (iE rfl rfl x1) rfl g3) rfl) (iN (qr (gE (s1 none) (nN (iE rfl rfl ml)) ne1)) (fR (ic s2 rfl) (iN (qr (gE (gE (l9 rfl rfl g4) rfl xr) (nN (ka (c1 (.pure (.lst L)) rfl _ _ _) tp)) ne)) (rt (gE (Bx rfl rfl rfl rfl rfl g5) rfl eq))))))))
theorem oQ{G:DF}{f:DE}{d:D}{v:S}(hf:f Z=.ok (.pure d) Z)(h0:Z[i]?=some (pO pd))(g:G [.own pd,.pure d]=some (v,[.own dE,.pure d])):au G [.io i,.val f] Z=.ok v (Z.set i (pO dE)):=by simp[au,aW,bB,bG,h0,bx,hf,bb,g,aL,S.d]
theorem Mm(ts:List Nat)(X:Nat->Nat->Nat):bj (tb ts X) (tb ts X)=pS (.bl true):=qav ts X
theorem Mn(hh:h<=4)(hg:g<=60)(hp:dZ pd):∃(r:Nat)(dE:D),cV [.own pd,.pure (.int ((h^g+1:Nat):Int))]=some (.pure (.int (r:Nat)),[.own dE,.pure (.int ((h^g+1:Nat):Int))])/\r<=h^g/\dZ dE:=by
 obtain⟨r,d,e,l,p⟩:=J_ hp (h^g+1) Z' (by
 have h1:=By hh hg;have h2:((2^128:Nat):Int)<jU:=by decide+kernel
 generalize(2:Nat)^128=A,h^g=B at*;lia);exact⟨r,d,e,Z',p⟩
theorem zjy{bs:8#0}(R:bC h w bs)(ht:t∈bs.map (·.1))(hg:g<=60)(hp:dZ pd):∃dE,dZ dE/\pY [.pure (aw h w bs),.pure (.str [t]),.pure (.int (g:Nat)),.own pd]=some (.pure (.bl true),[.pure (aw h w bs),.pure (.str [t]),.pure (.int (g:Nat)),.own dE]):=by
 have h4:=R.h1;have w4:=R.w1;have R':=t4 R;have mI:t∈(eU w bs).map (·.1):=%[l6|ht];obtain⟨X,pd1,d1,hX,p1⟩:=Mn h4 hg hp;obtain⟨Y,pd2,d2,hY,p2⟩:=Mn w4 hg p1;refine⟨pd2,p2,?_⟩;have g2:=xf h g Z' Z';have g3:=xf w g Z' Z';have gt:=L7 R;have gm:=z5h R;have c1:=Bi R R.h0 h4 R.w0 w4 ht g X Y hg hX hY;have c2:=Bi R' R.w0 w4 R.h0 h4 mI g Y X hg hY hX;have e2:nM (eU w bs) (cJ (eU w bs) w h g Y X t g)=res bs λy=>cj (cJ bs h w g X Y t g) (true,true,y):=by rw[<-Mh λy j=>zcA R ht y];unfold nM eU res;rw[Wn];rfl
 have e1:nM bs (cJ bs h w g X Y t g)=res bs λy=>cj (cJ bs h w g X Y t g) (true,true,y):=rfl;rw[e2]at c2;rw[e1]at c1;have ne:=(Mj bs λy=>cj (cJ bs h w g X Y t g) (true,true,y)).2;have tt:=tO R';have t0:=tO R;have tm:=tO (zeY R);rw[l6,qm λt ht s hs=>Md R ht hs]at tt;rw[Bv,qm λt ht s j=>zlh ht s]at tm;have eq:=Mm (bs.map (·.1)) (M bs);have x0:=(fF h w bs).1;have x1:=(fF h w bs).2.1;have a1:bD (.int ((h^g:Nat):Int)) (.int 1)=pS (.int ((h^g+1:Nat):Int)):=rfl;have a2:bD (.int ((w^g:Nat):Int)) (.int 1)=pS (.int ((w^g+1:Nat):Int)):=rfl;clear e1 e2 hX hY hg h4 w4;unfold pY HG;generalize(res bs λy=>cj (cJ bs h w g X Y t g) (true,true,y))=L,tb (bs.map (·.1)) (M bs)=TB,D.int ((h^g+1:Nat):Int)=H1,D.int ((w^g+1:Nat):Int)=W1,D.int ((h^g:Nat):Int)=H,D.int ((w^g:Nat):Int)=W,aw h w bs=ru,aw w h (eU w bs)=ru',aw h w (m_ bs)=ru2,D.str [t]=T,D.int (g:Int)=g',D.int (h:Int)=h',D.int (w:Int)=w',D.int (X:Int)=X',D.int (Y:Int)=Y' at*;exact gR (fR (T':=[pS ru,pS T,pS g',pO pd1,pS X',none,none]) (ic (oQ (gE (l9 (iE rfl rfl x0) rfl g2) rfl a1) rfl d1) rfl) (fR (T':=[pS ru,pS T,pS g',pO pd2,pS X',pS Y',none]) (ic (oQ (gE (l9 (iE rfl rfl x1) rfl g3) rfl a2) rfl d2) rfl) (fR (ic (kb rfl gt) rfl) (iN (qr (gE (Bx rfl rfl rfl rfl rfl c2) (nN (Bx rfl rfl rfl rfl rfl c1)) ne)) (rt (zle (gE (kb rfl tt) (nN (kb rfl t0)) eq) (gE (kb (kb rfl gm) tm) (nN (kb rfl t0)) eq))))))) rfl rfl
abbrev Mo:DE:=aE bU (aj (aK [8] (bW (aa 5)) (ae [] 8) aG (aE fD (aj (aK [9] (bW (aa 5)) (ae [] 9) aG (aB cD (ag ax 7 (ah 9)) (aj (aB ax (ag ax 4 (ah 9)) (ah 8)))))))))
theorem zjJ(hl:ts.length<=26){Y:Nat->Nat->Nat}(hx:∀u∈ts,X t u<2^9000)(hy:∀u∈ts,∀s∈ts,Y u s<2^9000){o0 o1 o2 o3:Option S}:Mo [o0,o1,o2,o3,pS (tb ts Y),pS (.int (ts.length:Nat)),o6,pS (.tup (aH ts (X t))),none,none]=.ok (.pure (.tup (aH ts (b_ ts X Y t)))) [o0,o1,o2,o3,pS (tb ts Y),pS (.int (ts.length:Nat)),o6,pS (.tup (aH ts (X t))),none,none]:=by
 have gm:∀i,i<ts.length->ts.getD i 0∈ts:=λi hi=>by rw[Wk,W2 hi];exact WV hi
 have one:∀p,p<ts.length->aE fD (aj (aK [9] (bW (aa 5)) (ae [] 9) aG (aB cD (ag ax 7 (ah 9)) (aj (aB ax (ag ax 4 (ah 9)) (ah 8)))))) [o0,o1,o2,o3,pS (tb ts Y),pS (.int (ts.length:Nat)),o6,pS (.tup (aH ts (X t))),pS (.int (p:Nat)),none]=.ok (.pure (.int (b_ ts X Y t (ts.getD p 0):Nat))) [o0,o1,o2,o3,pS (tb ts Y),pS (.int (ts.length:Nat)),o6,pS (.tup (aH ts (X t))),pS (.int (p:Nat)),none]:=λp hp=>by have s:=A_ ts λu=>X t u*Y u (ts.getD p 0);unfold aH at s;rw[<-AS λu=>D.int ((X t u*Y u (ts.getD p 0):Nat):Int)]at s;refine ka (qq (f:=λk:Nat=>.int k) (λi=>.int ((X t (ts.getD i 0)*Y (ts.getD i 0) (ts.getD p 0):Nat):Int)) (as:=W7 ts.length) (Bo rfl rfl Z') Re λi hi=>?_) s;have hi:=Ws.mp hi;have m:=nE (k:=9000) (X t (ts.getD i 0):Nat) (Y (ts.getD i 0) (ts.getD p 0):Nat) %[Q5|hx _ (gm i hi)] %[Q5|hy _ (gm i hi) _ (gm p hp)] U';rw[<-Q8]at m;exact gE (iE rfl rfl (wJ ts _ hi)) (nN (gE (iE rfl rfl (Mk Y hi)) rfl (wJ ts _ hp))) m
 refine ka (qq (f:=λk:Nat=>.int k) (λp=>.int (b_ ts X Y t (ts.getD p 0):Nat)) (as:=W7 ts.length) (Bo rfl rfl Z') Re λp hp=>one p (Ws.mp hp)) ?_;show some _=_;rw[AS λu=>D.int ((b_ ts X Y t u:Nat):Int)];rfl
theorem zjs{bs:8#0}(R:bC h w bs){a b:Nat}(ha:a<=60)(hb:b<=60):qa [.pure (aw h w bs),.pure (.int (a:Nat)),.pure (.int (b:Nat))]=some (.pure (.bl true),[.pure (aw h w bs),.pure (.int (a:Nat)),.pure (.int (b:Nat))]):=by
 have n1:=R.n1;have dC:(bs.map (·.1)).length<=26:= ~~~n1;have g1:=w8 R a Z';have g2:=w8 R b Z';have g3:=w8 R (a+b) Z';have nd:=i5 R;have hA:=K6 R;have lt:=λk(hk:k<=2000)t ht s hs=>K3 nd hA (t:=t) (s:=s) ht hs k hk;have l1:=lt a Z';have l2:=lt b Z';have eT:tb (bs.map (·.1)) (mp (bs.map (·.1)) (M bs) (a+b))=.tup ((bs.map (·.1)).map λt=>.tup (aH (bs.map (·.1)) (b_ (bs.map (·.1)) (mp (bs.map (·.1)) (M bs) a) (mp (bs.map (·.1)) (M bs) b) t))):=qm λt j s hs=>(wZ nd (M bs) a b hs).symm;have eq:=Mm (bs.map (·.1)) (mp (bs.map (·.1)) (M bs) (a+b));have hl:bA (tb (bs.map (·.1)) (mp (bs.map (·.1)) (M bs) a))=pS (.int ((bs.map (·.1)).length:Nat)):=#v[tb,bA];have ad:bD (.int (a:Nat)) (.int (b:Nat))=pS (.int ((a+b:Nat):Int)):=rfl;clear lt hA ha hb;unfold qa HQ;generalize mp (bs.map (·.1)) (M bs) a=X,mp (bs.map (·.1)) (M bs) b=Y at*;rw[eT]at g3 eq;clear eT;generalize bs.map (·.1)=ts at*;obtain⟨SZ,e,pre,o7,nZ,rfl⟩:=forA (λt=>D.tup (aH ts (X t))) (g:=ae [] 7) (b:=de 6 Mo) (λas Z=>∃pre o7,ts=pre++as/\Z=[pS (aw h w bs),pS (.int (a:Nat)),pS (.int (b:Nat)),pS (tb ts X),pS (tb ts Y),pS (.int (ts.length:Nat)),pO (.lst (pre.map λt=>.tup (aH ts (b_ ts X Y t)))),o7,none,none]) λt as Z⟨pre,o7,hp,e⟩=>by
   subst e;have ht:t∈ts:=by rw[hp];simp
   have q:=zjJ dC (X:=X) (Y:=Y) (t:=t) (l1 t ht) l2 (o0:=pS (aw h w bs)) (o1:=pS (.int (a:Nat))) (o2:=pS (.int (b:Nat))) (o3:=pS (tb ts X)) (o6:=pO (.lst (pre.map λt=>.tup (aH ts (b_ ts X Y t)))));refine⟨_,rfl,λy e=>?_⟩;subst e;refine⟨_,zld q rfl rfl (by rw[WB];have:=congrArg J7 hp;simp at this;lia),pre++[t],pS (.tup (aH ts (X t))),by rw[hp];simp,?_⟩;rw[WS];rfl ts [pS (aw h w bs),pS (.int (a:Nat)),pS (.int (b:Nat)),pS (tb ts X),pS (tb ts Y),pS (.int (ts.length:Nat)),pO (.lst []),none,none,none] ⟨[],none,rfl,rfl⟩;rw[JH]at nZ;subst nZ;exact oK (fR (ic (l9 rfl rfl g1) rfl) (fR (ic (l9 rfl rfl g2) rfl) (fR (ic (Bp rfl hl) rfl) (fR (T':=[pS (aw h w bs),pS (.int (a:Nat)),pS (.int (b:Nat)),pS (tb ts X),pS (tb ts Y),pS (.int (ts.length:Nat)),pO (.lst []),none,none,none]) rfl (fR ((iy (ds:=ts.map λt=>D.tup (aH ts (X t))) (LZ rfl (.inl rfl))).trans e) (rt (gE (l9 rfl (iE rfl rfl ad) g3) (nN (Bp rfl rfl)) eq)))))))
theorem Mp{b:Nat->Nat}{W:Nat}:∀n,(∀i,i<n->b i ∣ W)->lc b n ∣ W|0,_=>Nat.one_dvd _|n+1,h=>Nat.lcm_dvd (Mp n λi hi=>h i Z') (h n Z')
theorem Mq{k:Nat}(hk:0<k){f:Nat->Int}{c:Int}(h:sN n (λi=>(k:Int)*f i)=(k:Int)*c):sN n f=c:=by rw[h9]at h;exact Int.eq_of_mul_eq_mul_left Z' h
theorem z8x{bs:8#0}{X:Nat}(K:wU bs A f v)(F:KN bs.length X v (sN bs.length v)):Tr bs A (wF (aF v (sN bs.length v)) (bF v (sN bs.length v)) bs.length) (lc (bF v (sN bs.length v)) bs.length):=by
 have st:=K.st;have hW:=K.pos;have nn:=K.nn;have bd:∀i,i<bs.length->bF v (sN bs.length v) i ∣(sN bs.length v).toNat:=λi y=>Nat.div_dvd_of_dvd (Nat.gcd_dvd_right _ _);have e:sN bs.length v=((sN bs.length v).toNat:Int):=by lia
 have A4:=F.A4;have pos:=F.pos;clear F K;generalize hS:sN bs.length v=S at*;generalize aF v S=a,bF v S=b at*;obtain⟨k,hk⟩:=Mp bs.length bd;have k0:0<k:=by
  rcases Nat.eq_zero_or_pos k with z|z;.rw[z,Nat.mul_zero]at hk;lia
  .exact z
 have q:∀i,i<bs.length->v i=(k:Int)*(wF a b bs.length i:Nat):=λi hi=>by obtain⟨c,hc⟩:=KS b bs.length hi;have b0:=pos i hi;have cr:=A4 i hi;unfold wF;rw[hk,hc]at cr;rw[hc,Nat.mul_div_cancel_left _ b0];have e2:(v i).toNat=k*(a i*c):=Nat.eq_of_mul_eq_mul_right b0 (by rw[<-cr];simp only[QK,Nat.mul_left_comm,Jg]);have:=nn i hi;rw[<-Q8,<-e2];lia
 constructor;.refine Mq k0 ?_;rw[<-hZ q,hS,e,hk,Q8,Q3]
 .intro j hj;refine Mq k0 ?_;have s:=st j hj;rw[q j hj]at s;rw[hZ (g:=λi=>v i*bO bs i j) λi hi=>by rw[q i hi,QC],s,Int.mul_left_comm]
theorem Mr(a b:Nat->Nat):∀l:List Nat,fz 49 (l.map (jC a b))=true|[]=>rfl|x::r=>by have:=Mr a b r;rw[We];simp[fz,flat,this]
theorem zgF{bs:8#0}(R:bC h w bs)(h6:bs.length<=6)(K:wU bs ((h:Int)*(w:Int)) f v):lR [.pure (aw h w bs),.pure (oN bs.length v)]=some (.pure (.bl true),[.pure (aw h w bs),.pure (oN bs.length v)])/\cK (oN bs.length v) (oN bs.length v)=pS (.bl false):=by
 have hW:=K.pos;have e:cT=2^960*2^40:=by show 2^1000=_;rw[<-Nat.pow_add]
 have le:=K.le;have p:0<(2:Nat)^960:=UE _;generalize(2:Nat)^960=X at*;have h1:=KG (n:=bs.length) (v:=v) le;have h2:bs.length*X<=6*X:=QN _ h6;have F:=qap (X:=6*X) K.nn hW Z' (λi hi=>by have:=le i hi;lia);have T:=z8x K F;have al:∀i,i<bs.length->aF v (sN bs.length v) i<cT:=λi hi=>by have:=F.ale i hi;lia
 have bl:∀i,i<bs.length->bF v (sN bs.length v) i<cT:=λi hi=>by have:=F.ble i hi;lia
 have es:oN bs.length v=c8 bs.length (aF v (sN bs.length v)) (bF v (sN bs.length v)):=congrArg D.tup (WT λi hi=>zkU (K.nn i (Ws.mp hi)) hW);obtain⟨r,g,z⟩:=zeB R h6 (a:=aF v (sN bs.length v)) (b:=bF v (sN bs.length v)) ⟨al,bl,F.pos⟩ (λx hx=>by obtain⟨i,hi,rfl⟩:=Wj.mp hx;have hi:=Ws.mp hi;exact .two (.int _ %[Q5|al i hi]) (.int _ %[Q5|bl i hi])) (List.all_eq_true.mpr λx hx=>by obtain⟨i,hi,rfl⟩:=Wj.mp hx;have hi:=Ws.mp hi;have h1:=F.one i hi;have h2:=F.pos i hi;simp only[fH,Wu,decide_eq_true_eq];exact⟨Z',Z',h1⟩);rw[es];rw[z.mpr T]at g;refine⟨g,?_⟩;have hf:flat 50 (c8 bs.length (aF v (sN bs.length v)) (bF v (sN bs.length v)))=true:=Mr _ _ _;have he:=oh hf;unfold cK;rw[hf,he];rfl
theorem zbg{bs:8#0}(e:mQ.map (·.1)=bs.map (·.1))(m:∀t∈bs.map (·.1),∀s∈bs.map (·.1),M mQ t s=M bs t s)(A:Int):ib mQ A=ib bs A:=by
 have l:mQ.length=bs.length:=by have:=congrArg J7 e;simpa using this
 have mem:∀i,i<bs.length->(bs.map (·.1)).getD i 0∈bs.map (·.1):=λi hi=>by rw[Wk,W2 (~~~hi)];exact WV _
 have t:∀i j,i<bs.length->j<bs.length->bO mQ i j=bO bs i j:=λi j hi hj=>by unfold bO;rw[e,m _ (mem i hi) _ (mem j hj)]
 unfold ib;rw[l];refine WT λj hj=>?_;have hj:=Ws.mp hj;unfold cH;rw[l,t j j hj hj,WT λi hi=>t i j (Ws.mp hi) hj]
theorem qaQ{bs:8#0}(R:bC h w bs)(h6:bs.length<=6):∃s:D,jA [.pure (aw h w bs)]=some (.pure s,[.pure (aw h w bs)])/\jA [.pure (aw w h (eU w bs))]=some (.pure s,[.pure (aw w h (eU w bs))])/\(s=.aX\/ox true s .aX=pS (.bl true)/\lR [.pure (aw h w bs),.pure s]=some (.pure (.bl true),[.pure (aw h w bs),.pure s])/\cK s s=pS (.bl false)):=by
 have l:(eU w bs).length=bs.length:=#v[eU];have st:dF (eU w bs) ((w:Int)*(h:Int))=dF bs ((h:Int)*(w:Int)):=by unfold dF;rw[l,Q3 (w:Int),zbg (l6 w bs) λt ht s hs=>Md R ht hs]
 have g:=KL R h6;have g':=KL (t4 R) %[l|h6];rw[st,l]at g';rcases g with⟨f1,f2,l1,l2,ne,k1,k2,g⟩|⟨f,lf,kf,only,K,g⟩
 .rcases g' with⟨_,_,_,_,_,_,_,g'⟩|⟨f,lf,kf,only,_⟩;.exact⟨_,g,g',.inl rfl⟩
  .by_cases e1:f1=f;.exact absurd (only f2 l2 λe2=>ne (e1.trans e2.symm)) k2
   .exact absurd (only f1 l1 e1) k1
 .rcases g' with⟨f1,f2,l1,l2,ne,k1,k2,g'⟩|⟨f',lf',kf',only',K',g'⟩
  .by_cases e1:f1=f;.exact absurd (only f2 l2 λe2=>ne (e1.trans e2.symm)) k2
   .exact absurd (only f1 l1 e1) k1
  .have:f'=f:=Classical.byContradiction λz=>kf' (only f' lf' z);subst this;have q:=zgF R h6 K;exact⟨_,g,g',.inr ⟨rfl,q.1,q.2⟩⟩
section
variable{v:S}{G:DF}{a b c:D}
theorem qaR(h1:f1 Z=.ok (.pure a) Z)(h2:f2 Z=.ok (.pure b) T')(h3:f3 T'=.ok (.pure c) S')(g:G [.pure a,.pure b,.pure c]=some (v,[.pure a,.pure b,.pure c])):au G [.val f1,.val f2,.val f3] Z=.ok v S':=#v[au,aW,bB,bx,h1,h2,h3,bb,g,aL,S.d]
theorem qaS(h1:f1 Z=.ok (.pure a) Z)(h2:f2 Z=.ok (.pure b) Z)(h3:f3 Z=.ok (.pure c) Z)(h0:Z[i]?=some (pO pd))(g:G [.pure a,.pure b,.pure c,.own pd]=some (v,[.pure a,.pure b,.pure c,.own dE])):au G [.val f1,.val f2,.val f3,.io i] Z=.ok v (Z.set i (pO dE)):=by simp[au,aW,bB,bG,h0,bx,h1,h2,h3,bb,g,aL,S.d]
end
abbrev y7(gf:D)(o1 o2 o3 o4 o5 o6:Option S):Dl:=[pS gf,o1,o2,o3,o4,o5,o6]
abbrev yB:DS:=ay (aq (au pU [.val (aa 1)]) (ae [] 2)) (ay (aq (au pW [.io 2,.val 3#5]) (ae [] 3)) (ay (aq (aB ax (aB ax (ag ax 3 1#2) (aj (au cV [.io 2,.val (aE bA (aj (ag ax 3 1#2)))]))) 1#0) (ae [] 4)) (ay (aq (au cV [.io 2,.val 3#30]) (ae [] 5)) (ay (bI (fT (fA (az (au p_ [.val (aa 3),.val (aa 4),.val (aa 5)]))) (fA (az (au pY [.val (aa 3),.val (aa 4),.val (aa 5),.io 2])))) (bf (eD (.bl false))) bR) (ay (bI (fA (az (au qa [.val (aa 3),.val (au cV [.io 2,.val 3#12]),.val (au cV [.io 2,.val 3#12])]))) (bf (eD (.bl false))) bR) (ay (aq (au jA [.val (aa 3)]) (ae [] 6)) (bI (az (aB (ox true) (aa 6) (aj (eD .aX)))) (bI (fT (az (aB (pK true) (au lR [.val (aa 3),.val (aa 6)]) (aj (eD (.bl true))))) (az (aB cK (au jA [.val (au oF [.val (aa 3)])]) (ah 6)))) (bf (eD (.bl false))) bR) bR)))))))
theorem ziF(gf:D)(c:Int)(o2 o3 o4 o5 o6:Option S):∃q2 q3 q4 q5 q6,yB (y7 gf (pS (.int c)) o2 o3 o4 o5 o6)=.ok .next (y7 gf (pS (.int c)) q2 q3 q4 q5 q6):=by
 obtain⟨pd1,e1,p1⟩:=qac c;obtain⟨h,w,bs,pd2,e2,R,l5,p2⟩:=zbv p1 5 U' U';have n0:=R.n0;obtain⟨r3,pd3,e3,l3,p3⟩:=tM p2 bs.length n0 Z';obtain⟨g,pd4,e4,l4,p4⟩:=j4 p3 30 30 rfl U' U';have x2:=(fF h w bs).2.2;have hl:bA (.tup (bs.map cf))=pS (.int (bs.length:Nat)):=#v[bA];have x3:ax (.tup (bs.map cf)) (.int (r3:Nat))=pS (cf bs[r3]):=by simp only[ax];rw[iU,Wo,W2 l3];rfl
 have ht:bs[r3].1∈bs.map (·.1):=Qh (WV l3);have g5:=zjx R ht (g:=g) Z';obtain⟨pd6,p6,g6⟩:=zjy R ht (g:=g) Z' p4;obtain⟨a,pd7,e7,l7,p7⟩:=j4 p6 12 12 rfl U' U';obtain⟨b,pd8,e8,l8,p8⟩:=j4 p7 12 12 rfl U' U';have g9:=zjs R (a:=a) (b:=b) Z' Z';obtain⟨s,s1,s2,hs⟩:=qaQ R Z';have gt:=L7 R;have xt:ax (cf bs[r3]) (.int 0)=pS (.str [bs[r3].1]):=rfl;clear R ht;generalize aw h w bs=ru,aw w h (eU w bs)=ru',cf bs[r3]=B,D.str [bs[r3].1]=T,D.tup (bs.map cf)=BS,D.int (bs.length:Nat)=n,D.int (r3:Nat)=r3,D.int (g:Nat)=g',D.int (a:Nat)=a',D.int (b:Nat)=b' at*;refine⟨pO pd8,pS ru,pS T,pS g',pS s,?_⟩;refine fR (T':=y7 gf (pS (.int c)) (pO pd1) o3 o4 o5 o6) (ic (kb rfl e1) rfl) (fR (T':=y7 gf (pS (.int c)) (pO pd2) (pS ru) o4 o5 o6) (ic (oQ rfl rfl e2) rfl) (fR (T':=y7 gf (pS (.int c)) (pO pd3) (pS ru) (pS T) o5 o6) (ic (gE (gE (iE rfl rfl x2) (nN (oQ (ka (iE rfl rfl x2) hl) rfl e3)) x3) rfl xt) rfl) (fR (T':=y7 gf (pS (.int c)) (pO pd4) (pS ru) (pS T) (pS g') o6) (ic (oQ rfl rfl e4) rfl) (iN (T':=y7 gf (pS (.int c)) (pO pd6) (pS ru) (pS T) (pS g') o6) (L5 (Bs (x:=true) (L3 rfl rfl rfl g5)) (Bs (x:=true) (qaS rfl rfl rfl rfl g6))) (iN (T':=y7 gf (pS (.int c)) (pO pd8) (pS ru) (pS T) (pS g') o6) (Bs (x:=true) (qaR rfl (oQ rfl rfl e7) (oQ rfl rfl e8) g9)) (fR (T':=y7 gf (pS (.int c)) (pO pd8) (pS ru) (pS T) (pS g') (pS s)) (ic (kb rfl s1) rfl) ?_))))));rcases hs with rfl|⟨z,hh,ne⟩;.rfl
 .refine(L4 (z:=true) (T':=y7 gf (pS (.int c)) (pO pd8) (pS ru) (pS T) (pS g') (pS s)) (qr (gE rfl rfl z))).trans ?_;exact L4 (z:=false) (L5 (qr (gE (r:=.pure (.bl false)) (l9 rfl rfl hh) rfl rfl)) (qr (gE (kb (kb rfl gt) s2) rfl ne)))
theorem zh5(ns:List Int)(hn:ns.length<=63):tG [.pure (.lst (ns.map .int))]=some (.pure (.bl true),[.pure (.lst (ns.map .int))]):=by
 obtain⟨c0,e0⟩:=z8D ns;have qaT:∀(ns:List Int)(lo hi:Option Int),e_ (ns.map D.int) lo hi=(e_ ns lo hi).map D.int:=λns lo hi=>by unfold e_;simp[List.map_take,List.map_drop]
 have ha:bD (.lst [.int c0]) (.lst (e_ (ns.map .int) (some 1) (some 4)))=pO (.lst ((c0::e_ ns (some 1) (some 4)).map .int)):=by
  rw[qaT];have hl:(e_ ns (some 1) (some 4)).length<=63:=by unfold e_;simp;lia
  simp only[bD];rw[if_pos (by rw[bV];simp;lia)];simp
 have hs:pR (some 1) (some 4) (.lst (ns.map .int))=pO (.lst (e_ (ns.map .int) (some 1) (some 4))):=rfl;generalize D.lst (ns.map .int)=gf at*;obtain⟨SZ,e,o1,o2,o3,o4,o5,o6,rfl⟩:=forA D.int (g:=ae [] 1) (b:=yB) (λj Z=>∃(o1 o2 o3 o4 o5 o6:Option S),Z=y7 gf o1 o2 o3 o4 o5 o6) (λk as Z hh=>by obtain⟨o1,o2,o3,o4,o5,o6,e⟩:=hh;subst e;obtain⟨q2,q3,q4,q5,q6,e⟩:=ziF gf k o2 o3 o4 o5 o6;exact⟨_,rfl,λy ey=>⟨_,ey.symm.trans e,_,_,_,_,_,_,rfl⟩⟩) (c0::e_ ns (some 1) (some 4)) (y7 gf none none none none none none) ⟨none,none,none,none,none,none,rfl⟩;generalize(c0::e_ ns (some 1) (some 4)).map D.int=cs at*;generalize D.lst (e_ (ns.map .int) (some 1) (some 4))=cl at*;have qi:aU (aB bD (il (aQ (au pT [.val (aa 0),.val 3#0]) bS)) (aj (lM 0 (jO 3#1) (jO 3#4)))) (y7 gf none none none none none none)=.ok cs (y7 gf none none none none none none):=by simp[eF,au,aW,bB,bx,aa,bb,e0,aL,lM,jO,ah,hs,ha,aB,S.d]
 exact gP ((bq ((iy qi).trans e)).trans rfl)
theorem qaU(ns:List Int)(h:ns.length<=63):∃aZ,tG [.pure (.lst (ns.map .int))]=some (.pure (.bl true),aZ):=⟨_,zh5 ns h⟩
end Lake.K23
open PySem PySem.W PyProof.Rows
namespace PySem.W.Fast
def tw4347684067472235042:=0
def tw10895010393571414451:=0
def tw4151424711606515869:=0
def tw4013597010509029227:=0
def tw4331171809529748841:=0
def tw12593750241296836093:=0
def tw14028843536946222687:=0
def tw17176075389832392978:=0
def tw9022600165523539056:=0
def tw9414087919930701578:=0
def tw7242286411624601644:=0
def tw10431416307479740843:=0
def tw13887078619954123939:=0
def tw9881848121797652081:=0
def tw6156626055141664962:=0
def tw15077398292908645440:=0
def tw6807696708675115855:=0
def tw8556308686047980785:=0
def tw5252720450164801623:=0
def tw17007557408098218265:=0
def tw4424446095540821893:=0
def tw5549877032017936370:=0
def tw17805649593151737900:=0
def tw8991836557576204644:=0
def tw13420529502671111319:=0
def tw15522726862605714813:=0
def tw4635012766577166075:=0
def tw8911490673327727159:=0
def tw5027234829191483212:=0
def tw6882064700395866699:=0
def tw4705349848433619061:=0
def tw16621611945439879824:=0
def tw12011046884344007653:=0
def tw14456753614691969529:=0
def tw8452846622997759212:=0
def tw16143807411804814855:=0
def tw894938920984616538:=0
end PySem.W.Fast
set_option maxRecDepth 100000 in
set_option maxHeartbeats 0 in
theorem PySem.Challenge.cw_tilegrow_k23_whole_tiles_come_together_holds : PySem.Challenge.rw_tilegrow_k23_whole_tiles_come_together.Holds := by
 w_on; o_law; k_head; (case hw=>w_witness2)
 k_fill
 refine Lake.yR (l:=PySem.Challenge.rw_tilegrow_k23_whole_tiles_come_together) (k:=6) (G:=Lake.K23.tG) rfl rfl ⟨rfl,U',U'⟩ (λw h Y=>PySem.W.kIn_of Y) ?L Lake.K23.qaU ?F
 case L=>intro p; exact Eq.refl true
 case F =>
  intro w mg fa h KX G qN;refine' Lake.K23.all_mk KX G qN ?d0 ?d1 ?d2 ?d3 ?d4 ?d5 ?d6 ?d7 ?d8 ?d9 ?zY ?zZ ?z5 ?z7 ?z8 ?z9 ?z_ ?Aa ?Ac ?Ad ?Ae ?Af ?Ag ?Ah ?Ai ?Aj ?Al ?Am ?An ?Ao ?Ap ?Aq ?Ar ?As ?Au ?Aw ?Ax ?Ay ?Az ?AB ?AD ?AE ?sJ ?sL ?sM ?sO ?sP ?sQ ?sR ?sS ?sU ?sV ?sW ?sX ?sY ?sZ ?s_ ?tf
  (case d0|d1|d2|d3|d4|d5|d6|d7|d8|d9|zY|zZ|z5|z7|z8|z9|z_|Aa|Ac|Ad|Ae|Af|Ag|Ah|Ai|Aj|Al|Am|An|Ao|Ap|Aq|Ar|As|Au|Aw|Ax|Ay=>exact⟨_,_,_,_,_,_,_,_,_,_,by k_is,by k_is,by k_is,by k_is⟩)
  (case Az|AB|AD|AE|sJ|sL|sM|sO|sP|sQ|sR|sS|sU|sV|sW|sX|sY|sZ|s_|tf=>k_is)
