import PyProof.Rows.All
import Wide.All
import OpenK.AllK
import Lean
import PyProof.FactsAll.zip
import PySem.Challenge.RW_tilegrow_k68_laid_over_one_another
noncomputable section
set_option compiler.extract_closed false
open PySem renaming wpAny_bind→W0,Shared→W1,wpAny→W4,wpAny_pure→W5,starEach→W7,sizeLine→Wa,Spec→Wb,Program→Wg,Around→Wh,mainGlobals→Wn,World→Wp,mem_of_lookup→Wx,wpAny_holding→WB,cLine→WD,wpAny_field→WF,FuncData→WH,compareOp→WJ,backTo→WO,wpAny_mono→WR,rawInt→WZ,wpAny_callSpecial?_slot→Qb,sizeLine_eq→Qf,wpAny_call_entry→Qg,wpAny_seqItems→Ql,assignEach→Qo,wpAny_loadPart_at→Qr,bootBuiltins→Qu,binaryOp→Qv,wpAny_Call_Name_kw→Qw,cellsFrom→Qx,wpAny_setField_rec→Qz,sysModules→QA,wpAny_truthy_bool→QD,wpAny_newObj_type→QE,codeAny→QH,behindInMarks→QK,attributeBase→QL,Addr→QM,swapsWith→QN,builtinLookup_eq_fast→QR,wpAny_rule→QX,wpAny_typeOf→Jc,getattributeRaised→Jd,wpAny_passesOwn→Jf,pyNext→Jk,foldedSetIterable→Jl,call_meets→Jp,strIterType→Jr,codeAny_mono→Js,letOwnedTupleGo→JA,typeLookup_type→JE,keywordEach→JG,codeAny_call_function→JM,typeLookup→JS,codeAny_call_builtin→JT,plainId_quiet→JX,sliceBounds→JZ,wpAny_execs_nil→U4,codeAny_builtin→U5,tupleKind_room_in1→U7,pushCells→U8,noteFrame→U9,wpAny_call→Ud,getItem→Ue,wpAny_setField→Uh,qualnameIn→Uj,wpAny_sequenceKey→Uk
open PySem.W renaming Frag→W2,fnOf→WT,mg_none_of→Q0,kia_one→Qc,keepIn→Qq,kitOne→QO,kitOne→QS,findIn→QY,cellsFrom_some→J9,envX→Ju,codeHdIn→Jv,hasDictIn→JH,mg_of→JK,callWith_K→U6,looks_findIn→Ub,fnMade→Ui
open List renaming getElem?_eq_getElem→W3,getElem?_eq_some_iff→W8,getElem?_set_ne→W9,replicate→Wc,map_cons→Wf,getElem?_set_self→Wl,mem_cons_of_mem→Wm,mem_of_getElem?→Wq,size_toArray→Wr,mem_cons→Ws,mem_cons_self→Wt,getElem?_map→Wu,length_map→Wv,map_map→WC,lookup_cons→WK,getElem?_set→WL,range→WM,nil_append→WQ,mem_map_of_mem→WU,append_nil→WV,find?_cons→WW,getElem_mem→WX,mem_append_right→Q1,nodup_cons→Q2,length_cons→Q4,getD_eq_getElem?_getD→Q5,getElem?_cons_succ→Q6,all_eq_true→Q8,mem_map→Q9,getElem?_append_left→Qi,any_cons→Qj,getElem?_eq_none→Qk,getElem?_cons_zero→Qn,length_set→Qs,drop_eq_getElem_cons→Qt,mem_append→QF,replicate_succ→QI,map_congr_left→QJ,length_append→QP,set_cons_succ→QT,of_mem_zip→QW,map_append→QZ,take_of_length_le→Ja,contains_cons→Je,getElem?_append_right→Jg,flatten_cons→Jm,mem_append_left→Jn,mem_of_find?_eq_some→Jq,ext_getElem→Jw,foldl_cons→JB,forIn_cons→JC,set_cons_zero→JF,take_add_one→JL,forIn_nil→JN,mem_iff_getElem?→JO,getElem_inj→JQ,length_take→JR,getElem_toArray→JU,getElem?_of_mem→JV,length→JY,getElem_of_mem→U1,pairwise_cons→Ua,toArray→Uc,drop_zero→Ug,length_range→Ul,map_take→Um,take_length→Uo,length_nil→Up,find?_some→Uq
open PySem.Heap renaming get?_push_of_some→W6,lt_size→Wi,get?_push_size→Wj,get?_update_other→WN,get?_update_self→Q3,size_push→J4,SameBut→Jb,get?_none_of_le→JP
open Option.some renaming injEq→Wd,inj→WG
open Nat renaming le_refl→We,lt_of_lt_of_le→Wy,ne_of_lt→WA,le_trans→WS,lt_irrefl→Q7,zero_add→Qd,zero_le→Qh,ne_of_gt→Qp,lt_of_le_of_lt→QQ,le_of_lt→QV,le_add_right→JW,add_le_add_left→U2
open Bool renaming and_eq_true→Wo,false_ne_true→WY,false_eq_true→Qe,not_false→J5,not_true→Jh,eq_iff_iff→JD,not_eq_true'→JI
open Option renaming map_eq_some_iff→Ww,bind_some→Wz,map_some→WP,isSome_iff_exists→Qy,bind_eq_some_iff→Jz
open PySem.Builtin.SmallTypes renaming nextOf→WE,ownedTupleIsFree→WI
open PyProof.Rows renaming callWith_type1→Qa,seqObj→Qm,envOfC→QB,slot_tuple_getitem→QU
open PySem.F renaming slot_list_index→QC,plainAttrs_list→J0,slot_tuple_iterator_next→Ji,plain_extend_loop→U3
open PySem.Builtin.Str renaming strSliceIndices→QG
open Array renaming getElem?_eq_some_iff→Jj,length_toList→Jx
open PySem.Builtin.Slice renaming slicePlaces→Jo
open PySem.Builtin.Tuple renaming tupleExact→Jt
open PySem.Builtin.Dict renaming updateFrom→Jy
open Int renaming toNat_natCast→JJ
open PySem.Heap.SameBut renaming update→U0
open PySem.SeqAt renaming EqAt→Uf
set_option Elab.async false
set_option linter.all false
set_option maxRecDepth 100000
set_option maxHeartbeats 4000000
theorem Y'{p:Prop}(h:p:=by lia):p:=h
theorem Z'{p:Prop}(h:p:=by decide):p:=h
theorem U'{p:Prop}(h:p:=by simp):p:=h
theorem V'{p:Prop}(h:p:=by simp;lia):p:=h
theorem Re{p:Prop}(h:p:=by decide+kernel):p:=h
theorem P'{p:Prop}(h:p:=by simp at hl⊢;lia):p:=h
local macro_rules|`(~~~$x)=>`(by simpa using$x)
local macro_rules|`(#v[$xs,*])=>`(by simp[$[$xs:term],*])
local macro_rules|`(%[$xs,*|$k])=>`(by rw[$[$xs:term],*];exact$k)
local macro_rules|`(tactic|obtain $p:rcasesPatMed:=$e)=>`(tactic|first|(refine Classical.byContradiction fun g=>?_;rcases $e:term with $p<;>(try refine g ?_)<;>(try clear g))|rcases $e:term with $p)
set_option backward.eqns.nonrecursive false
set_option genSizeOf false
namespace Lake
open PySem PySem.Spec PyProof.Rows
variable{A:Wh}{B' O O':Addr->Prop}{C L a code dl f fa i1 i2 it:Addr}{Du body uo:List Stmt}{E Q xe:Value->W1->Prop}{K:W2}{M:Model}{N fl loose ls ns ps sn:List Str}{P prog:Wg}{P1 P2:Nat->Value->Prop}{R:Result->W1->Prop}{RR:Value->Addr->Result->W1->Prop}{S1 S2 tn:Nat->Heap->Prop}{T':String}{XP:(Str->Option Value)->Heap->Prop}{YP:Wp->Heap->Prop}{aE cd ct doc oc pm u v0 vl vu:Value}{ab expr hdct m:Bool}{an dd dx od:Option Addr}{apos br j7 nr p0 pos pos' pp py qU qV tpos:Pos}{args:List WData}{base h' hp:Heap}{b₀:Stmt}{cells cl:List (Str×Addr)}{ch f1 f2:List Addr}{cs js np:List Nat}{d':Drawn}{dH sl:Array (Option Value)}{e elt ix tg value:Expr}{env:Env}{ep i j n n1 n2 t':Nat}{es ifs:List Expr}{fd:WH}{first its its' us:List Value}{g':Array GenState}{hi lo:Option Int}{items:Array Value}{kindOf:Str->Option NameKind}{kw:List (Str×Value)}{mA mb mg:Str->Option Value}{name qual tq x:Str}{oa oe:Obj}{op:CmpOp}{os:OsState}{outer:List Env}{params:Arguments}{pins pn:List (Addr×Obj)}{s:W1}{sc scope:Scope}{t0:Tok}{w:Wp}
abbrev Key:=Sum Int Str
def iJ:Key->Value->Bool|.inl k,v=>Value.isInt k v|.inr x,v=>Value.isStrOf x v
def vM(w:Wp):Key->Int|.inl k=>hashInt k|.inr x=>hashStr w x
theorem la:∀{k:Key}{v:Value},iJ k v=true->(∃i t,k=Sum.inl i/\v=Value.int i t)\/∃x t,k=Sum.inr x/\v=Value.str x t|.inl i,v,h=>by obtain⟨t,e⟩:=Value.isInt_shape (k:=i) (v:=v) h;exact .inl ⟨i,t,rfl,e⟩|.inr x,v,h=>by obtain⟨t,e⟩:=Value.isStrOf_shape (x:=x) (v:=v) h;exact .inr ⟨x,t,rfl,e⟩
theorem K5(i:Int)(t:Tok):iJ (.inl i) (.int i t)=true:=#v[iJ,Value.isInt]
theorem K6(x:Str)(t:Tok):iJ (.inr x) (.str x t)=true:=#v[iJ,Value.isStrOf]
theorem K7(a b:Int):decide ((Sum.inl a:Key)=Sum.inl b)=(a==b):=by grind
theorem K8(a b:Str):decide ((Sum.inr a:Key)=Sum.inr b)=decide (a=b):=by grind
theorem K9(a:Int)(b:Str):decide ((Sum.inl a:Key)=Sum.inr b)=false:=by grind
theorem K_(a:Str)(b:Int):decide ((Sum.inr a:Key)=Sum.inl b)=false:=by grind
def fD(prog:Wg)(w:Wp):PySem.KeyKind prog w Key where
 is:=iJ
 hash:=vM w
 inj:=λv a b ha hb=>by grind[la]
 byValue:=λk v h=>by rcases la h with⟨i,t,rfl,rfl⟩|⟨x,t,rfl,rfl⟩<;>rfl
 pyHash:=λhv h=>by
  rcases la hv with⟨i,t,rfl,rfl⟩|⟨x,t,rfl,rfl⟩;.exact wpAny_pyHash_int h
  .exact wpAny_pyHash_str h
 eqBool:=λhu hv h=>by
  rcases la hu with⟨i,t,rfl,rfl⟩|⟨x,t,rfl,rfl⟩
  .rcases la hv with⟨j,u,rfl,rfl⟩|⟨y,u,rfl,rfl⟩;.rw[K7]at h;exact wpAny_eqBool_int h
   .rw[K9]at h;exact SeqAt.EqAt.int_str i t y u _ _ _ _ h
  .rcases la hv with⟨j,u,rfl,rfl⟩|⟨y,u,rfl,rfl⟩;.rw[K_]at h;exact SeqAt.EqAt.str_int x t j u _ _ _ _ h
   .rw[K8]at h;exact wpAny_eqBool_str h
 «strs»:=λk x t v h=>by
  rcases la h with⟨i,u,rfl,e⟩|⟨y,u,rfl,e⟩;.exact nomatch e
  .injection e with e1 _;subst e1;cases v<;>rfl
theorem La(prog:Wg)(w:Wp)(k:Key)(v:Value):(fD prog w).is k v=iJ k v:=rfl
theorem Lb(prog:Wg)(w:Wp)(i:Int)(t:Tok):(fD prog w).is (.inl i) (.int i t)=true:=K5 i t
theorem Lc(prog:Wg)(w:Wp)(x:Str)(t:Tok):(fD prog w).is (.inr x) (.str x t)=true:=K6 x t
inductive V where|aJ|bl(b:Bool)|int(i:Int)|str(x:Str)|byt(b:Array UInt8)|flt(b:UInt64)|ref(a:Addr)|ty(n:String)deriving DecidableEq
variable{Lh:List (Str×V)}{ar kps:List (Key×V)}{fv lq vs:List V}{v:V}
def RelV:V->Value->Prop|.aJ,u=>u=Value.none|.bl b,u=>u=Value.bool b|.int i,u=>∃t,u=Value.int i t|.str x,u=>∃t,u=Value.str x t|.byt b,u=>∃t,u=Value.bytes b t|.flt b,u=>∃t,u=Value.float b t|.ref a,u=>u=Value.ref a|.ty n,u=>u=Value.type n
abbrev Vals:List V->List Value->Prop:=Paired RelV
theorem Vals.length(r:Vals xs us):xs.length=us.length:=Paired.length r
theorem Vals.get:∀{xs:List V}{us:List Value}{i:Nat}{x:V},Vals xs us->xs[i]?=some x->∃u,us[i]?=some u/\RelV x u|_,_,_,_,.nil,e=>by simp at e|_,_,0,_,.cons r _,e=>by simp at e;subst e;exact⟨_,rfl,r⟩|_,_,i+1,x,.cons _ t,e=>by obtain⟨u,h1,h2⟩:=Vals.get (i:=i) (x:=x) t (~~~e);exact⟨u,~~~h1,h2⟩
theorem Vals.set{x}(r:RelV x u):∀{xs:List V}{us:List Value}(i:Nat),Vals xs us->Vals (xs.set i x) (us.set i u)|_,_,_,.nil=>.nil|_,_,0,.cons _ t=>.cons r t|_,_,i+1,.cons q t=>.cons q (Vals.set r i t)
theorem Vals.append:∀{xs ys:List V}{us ws:List Value},Vals xs us->Vals ys ws->Vals (xs++ys) (us++ws)|_,_,_,_,.nil,s=>s|_,_,_,_,.cons r t,s=>.cons r (Vals.append t s)
theorem Vals.take:∀{xs:List V}{us:List Value}(n:Nat),Vals xs us->Vals (xs.take n) (us.take n)|_,_,0,_=>.nil|_,_,_+1,.nil=>.nil|_,_,n+1,.cons r t=>.cons r (Vals.take n t)
theorem Vals.drop:∀{xs:List V}{us:List Value}(n:Nat),Vals xs us->Vals (xs.drop n) (us.drop n)|_,_,0,r=>r|_,_,_+1,.nil=>.nil|_,_,n+1,.cons _ t=>Vals.drop n t
def eF:Option V->Option Value->Prop|some v,some u=>RelV v u|none,none=>True|_,_=>False
def KV{κ:Type}:List (κ×V)->List (κ×Value)->Prop:=Paired λ(p:κ×V)(q:κ×Value)=>p.1=q.1/\RelV p.2 q.2
def kV:Key->V|.inl i=>.int i|.inr x=>.str x
inductive NK where|i(z:Int)|s(x:Str)|t(ks:List NK)
variable{xs:List (NK×Value×Value)}
noncomputable instance nkDec:DecidableEq NK:=λa b=>Classical.propDecidable (a=b)
mutual def fY(w:Wp):NK->Int|.i z=>vM w (.inl z)|.s x=>vM w (.inr x)|.t ks=>reduceHash (Builtin.Tuple.tupleHashOf (r9 w ks))def r9(w:Wp):List NK->List Int|[]=>[]|k::ks=>fY w k::r9 w ks end
inductive HO where|lst(xs:List V)|tup(xs:List V)|dK(ar:List (Key×V))|dT(ar:List (List Key×V))|set(S:Int->Bool)(n:Nat)|ins(C dx:Addr)(fs:List (Str×V))|own(x:Addr)|xd(fs:List (Str×V))|met(f x:Addr)|jD(lo hi:Int)|frz(o:Obj)(u:HO)|tbl(ps:Array Value)|ctab(pos:Pos)(q:Str)|dN(ep:Nat)(ar:List (NK×V×V))|ext(φ:Heap->Prop)
abbrev Hp:=Addr->Option HO
variable{H H' H2:Hp}
def upd(H:Hp)(a:Addr)(o:HO):Hp:=λb=>if b=a then some o else H b
theorem bL:upd H a o a=some o:=by unfold upd;rw[if_pos rfl]
theorem aI(h:b≠a):upd H a o b=H b:=by unfold upd;rw[if_neg h]
theorem mj{u}:upd (upd H a o) a u=upd H a u:=by funext b;unfold upd;split<;>rfl
theorem Ld{b:Addr}{o u:HO}(h:H a=some o)(h':H b=some u)(d:o≠u):a≠b:=by grind
theorem eK{b:Addr}{o:HO}(h:H a=some o)(h':H b=none):a≠b:=by grind
def iK(h:Heap)(a:Addr)(its:Array Value):Prop:=∃n,h.get? a=some {cls:=.type "tuple",dict:=none,data:=.seq its n,slots:=#[]}
theorem iK.tup{h a its}(x:iK h a its):IsTup h a its:=let⟨n,e⟩:=x;⟨_,e,rfl,n,rfl⟩
theorem iK.new(h:Heap)(its:Array Value):iK (h.push {cls:=.type "tuple",data:=.seq its}) h.objs.size its:=⟨_,Wj _ rfl⟩
theorem iK.lt{its}(x:iK h a its):a<h.objs.size:=let⟨_,e⟩:=x;Wi e
section
variable(P:Wg)(w:Wp)
def bE(H:Hp)(h:Heap)(a:Addr):HO->Prop|.lst xs=>xs.length<=Wa/\∃(its:List Value)(n:Nat),Vals xs its/\h.get? a=some {cls:=.type "list",data:=.seq its.toArray n}|.tup xs=>xs.length<=Wa/\∃its:List Value,Vals xs its/\iK h a its.toArray|.dK ar=>ar.length<=Wa/\(a==QA)=false/\∃vs,KV ar vs/\h.DictOf (fD P w) a vs|.dT ar=>ar.length<=Wa/\(a==QA)=false/\∃xs:List (List Key×Addr×Value),Paired (λ(p:List Key×V)(q:List Key×Addr×Value)=>p.1=q.1/\H q.2.1=some (.tup (p.1.map kV))/\RelV p.2 q.2.2) ar xs/\∃o es ep,h.get? a=some o/\o.ExactDict/\o.data=.dict es ep/\es.toList=xs.map (entryOfKey (tupleKind (fD P w)))/\(xs.map (·.1)).Nodup|.set S n=>h.SetOf (intKind P w) a S n|.ins C dx fs=>H dx=some (.own a)/\fs.length<=1000/\dx≠a/\h.get? a=some (PySem.W.instObj C dx)/\∃mA,h.Ns1 dx mA/\(∀f,eF (fs.lookup f) (mA f))/\PySem.Within mA (fs.map (·.1))|.own _=>∃o,h.get? a=some o|.xd fs=>∃mA,h.Ns1 a mA/\∀f,eF (fs.lookup f) (mA f)|.jD lo hi=>∃t u v,h.get? a=some {cls:=.type "range",data:=.fields #[.int lo t,.int hi u,.int 1 v]}|.frz o u=>h.get? a=some o/\bE H h a u|.tbl ps=>h.get? a=some {cls:=.none,data:=.fields ps}|.dN ep ar=>ar.length<=Wa/\(a==QA)=false/\∃o es,h.get? a=some o/\o.ExactDict/\o.data=.dict es ep/\Paired (λ(p:NK×V×V)(e:DictEntry)=>e.hash=fY w p.1/\RelV p.2.1 e.key/\RelV p.2.2 e.val) ar es.toList/\(ar.map (·.1)).Nodup|.ctab pos q=>∃ps,h.get? a=some {cls:=.none,data:=.fields ps}/\TriplesOk ps.toList/\∀cv,codeAmong pos ps.toList=some cv->∃c' oc,cv=.ref c'/\H c'=some (.frz oc (.ext λ_=>True))/\∃vs tq,oc.data=.fields vs/\vs[1]?=some (.str q tq)|.met f x=>h.get? a=some (PySem.W.methodObj (.ref f) (.ref x))|.ext φ=>φ h/\(∃o,h.get? a=some o)/\∀h1 h2:Heap,φ h1->(∀o,h1.get? a=some o->h2.get? a=some o)->φ h2
def cK(H:Hp)(h:Heap):Prop:=∀a o,H a=some o->bE P w H h a o
end
section
variable{h:Heap}{o:HO}
theorem bE.lt(x:bE P w H h a o):a<h.objs.size:=by cases o with|lst xs=>obtain⟨_,_,_,_,e⟩:=x;exact Wi e|tup xs=>obtain⟨_,_,_,p⟩:=x;exact p.lt|dK ar=>obtain⟨_,_,_,_,o,_,_,e,_⟩:=x;exact Wi e|dT ar=>obtain⟨_,_,_,_,o,_,_,e,_⟩:=x;exact Wi e|set S n=>obtain⟨o,_,_,_,e,_⟩:=x;exact Wi e|ins C dx fs=>obtain⟨_,_,_,e,_⟩:=x;exact Wi e|own y=>obtain⟨_,e⟩:=x;exact Wi e|xd fs=>obtain⟨_,⟨_,_,_,e,_⟩,_⟩:=x;exact Wi e|jD lo hi=>obtain⟨_,_,_,e⟩:=x;exact Wi e|frz ob u=>obtain⟨e,_⟩:=x;exact Wi e|tbl ps=>exact Wi (show h.get? a=some _ from x)|ctab pos q=>obtain⟨_,e,_⟩:=x;exact Wi e|dN ep ar=>obtain⟨_,_,_,_,e,_⟩:=x;exact Wi e|met f y=>exact Wi (show h.get? a=some _ from x)|ext φ=>obtain⟨_,⟨_,e⟩,_⟩:=x;exact Wi e
theorem Paired.r_:∀{l₁:List α}{l₂:List β},Paired F l₁ l₂->(∀a b,F a b->G a b)->Paired G l₁ l₂|_,_,.nil,_=>.nil|_,_,.cons r t,f=>.cons (f _ _ r) (Paired.r_ t f)
theorem bE.eG(x:bE P w H h a o)(k:∀b u,b=a\/H b=some (.own a)->h.get? b=some u->h'.get? b=some u)(ho:∀b,H b=some (.own a)->H' b=some (.own a))(ht:∀b xs,H b=some (.tup xs)->H' b=some (.tup xs))(hf:∀b o u,H b=some (.frz o u)->H' b=some (.frz o u)):bE P w H' h' a o:=by induction o with|lst xs=>obtain⟨z,its,n,r,e⟩:=x;exact⟨z,its,n,r,k _ _ (.inl rfl) e⟩|tup xs=>obtain⟨z,its,r,n,e⟩:=x;exact⟨z,its,r,n,k _ _ (.inl rfl) e⟩|dK ar=>obtain⟨z,y,vs,r,ob,es,ep,e,c⟩:=x;exact⟨z,y,vs,r,ob,es,ep,k _ _ (.inl rfl) e,c⟩|dT ar=>obtain⟨z,y,xs,r,ob,es,ep,e,c⟩:=x;exact⟨z,y,xs,Paired.r_ r λp q z=>⟨z.1,ht _ _ z.2.1,z.2.2⟩,ob,es,ep,k _ _ (.inl rfl) e,c⟩|set S n=>obtain⟨ob,es,ep,t,e,c⟩:=x;exact⟨ob,es,ep,t,k _ _ (.inl rfl) e,c⟩|ins C dx fs=>obtain⟨d,z,ne,e,mA,⟨od,es,ep,e2,c⟩,r⟩:=x;exact⟨ho _ d,z,ne,k _ _ (.inl rfl) e,mA,⟨od,es,ep,k _ _ (.inr d) e2,c⟩,r⟩|own y=>obtain⟨ob,e⟩:=x;exact⟨ob,k _ _ (.inl rfl) e⟩|xd fs=>obtain⟨mA,⟨od,es,ep,e,c⟩,r⟩:=x;exact⟨mA,⟨od,es,ep,k _ _ (.inl rfl) e,c⟩,r⟩|jD lo hi=>obtain⟨t,u,v,e⟩:=x;exact⟨t,u,v,k _ _ (.inl rfl) e⟩|frz ob u ih=>obtain⟨e,q⟩:=x;exact⟨k _ _ (.inl rfl) e,ih q⟩|dN ep ar=>obtain⟨z,y,ob,es,e,c⟩:=x;exact⟨z,y,ob,es,k _ _ (.inl rfl) e,c⟩|ctab pos q=>obtain⟨ps,e,t,r⟩:=x;exact⟨ps,k _ _ (.inl rfl) e,t,λcv z=>let⟨c',oc,z1,z2,z3⟩:=r cv z;⟨c',oc,z1,hf _ _ _ z2,z3⟩⟩|tbl ps=>have e:h.get? a=some {cls:=.none,data:=.fields ps}:=x;show h'.get? a=some {cls:=.none,data:=.fields ps};exact k a _ (.inl rfl) e|met f y=>have e:h.get? a=some (PySem.W.methodObj (.ref f) (.ref y)):=x;show h'.get? a=some (PySem.W.methodObj (.ref f) (.ref y));exact k a _ (.inl rfl) e|ext φ=>obtain⟨p,⟨o,e⟩,st⟩:=x;exact⟨st _ _ p λo q=>k _ _ (.inl rfl) q,⟨o,k _ _ (.inl rfl) e⟩,st⟩
theorem cK.lt(x:cK P w H h)(e:H a=some o):a<h.objs.size:=(x a o e).lt
theorem cK.fresh(x:cK P w H h)(e:h.objs.size<=a):H a=none:=by cases q:H a with|none=>rfl|some u=>exact absurd (Wy (x.lt q) e) (Q7 _)
theorem cK.kept(x:cK P w H h)(k:∀b u,h.get? b=some u->h'.get? b=some u):cK P w H h':=λa o e=>(x a o e).eG (λb u _ q=>k b u q) (λ_ q=>q) (λ_ _ q=>q) λ_ _ _ q=>q
theorem cK.laid(x:cK P w H h)(k:∀b u,h.get? b=some u->h'.get? b=some u)(hp:h.objs.size<=a)(new:bE P w (upd H a o) h' a o):cK P w (upd H a o) h':=λb u e=>by
 have hn:=x.fresh hp;by_cases hb:b=a;.grind[bL]
 .rw[aI hb]at e;exact(x b u e).eG (λc v _ q=>k c v q) (λc q=>%[aI (eK q hn)|q]) (λc xs q=>%[aI (eK q hn)|q]) λc o u q=>%[aI (eK q hn)|q]
end
def Rd(H:Hp)(a:Addr)(u:HO):Prop:=H a=some u\/∃o,H a=some (.frz o u)
theorem Rd.ok{u}(r:Rd H a u)(x:cK P w H h):bE P w H h a u:=by
 rcases r with r|⟨o,r⟩;.exact x a u r
 .obtain⟨_,q⟩:=x a _ r;exact q
def pC:Option HO->Prop|some (.lst _)=>True|some (.dK _)=>True|some (.dT _)=>True|some (.dN _ _)=>True|some (.set _ _)=>True|some (.ins _ _ _)=>True|some (.ext _)=>True|_=>False
section
variable{h:Heap}{x e:Addr}{o':HO}
theorem cK.write(ok:cK P w H h)(mu:pC (H x))(he:e=x\/H e=some (.own x))(k:∀b u,b≠e->h.get? b=some u->h'.get? b=some u)(pD:∃u,h'.get? e=some u)(new:bE P w (upd H x o') h' x o'):cK P w (upd H x o') h':=λb u q=>by
 have fP:∀c y,H c=some (.own y)->c≠x:=λc y r z=>by subst z;rw[r]at mu;exact mu
 have Lf:∀c xs,H c=some (.tup xs)->c≠x:=λc xs r z=>by subst z;rw[r]at mu;exact mu
 have Lg:∀c o u,H c=some (.frz o u)->c≠x:=λc o u r z=>by subst z;rw[r]at mu;exact mu
 by_cases hb:b=x;.grind[bL]
 .rw[aI hb]at q;by_cases hbe:b=e
  .have q':H b=some (.own x):=by grind
   rw[q]at q';cases q';obtain⟨v,hv⟩:=pD;exact⟨v,%[hbe|hv]⟩
  .refine(ok b u q).eG (λc v hc r=>k c v ?_ r) (λc r=>%[aI (fP c b r)|r]) (λc xs r=>%[aI (Lf c xs r)|r]) λc o u r=>%[aI (Lg c o u r)|r];grind
end
structure Un(fs ex:List Addr)(H H':Hp)(h h':Heap):Prop where
 keep:∀b o,h.get? b=some o->H b=none->b∉fs->b∉ex->h'.get? b=some o
 slot:∀b o,h.get? b=some o->H b=none->b∈fs->b∉ex->∃sl,h'.get? b=some {o with slots:=sl}free:∀b o,h.get? b=some o->H b=none->b∉ex->H' b=none
 there:∀b o,h.get? b=some o->b∉ex->∃o',h'.get? b=some o'
 iL:∀b xs,H b=some (.tup xs)->H' b=some (.tup xs)gO:∀b o u,H b=some (.frz o u)->H' b=some (.frz o u)jb:∀b ps,H b=some (.tbl ps)->∃more,H' b=some (.tbl (ps++more))
section
variable{fs Lh ex ex':List Addr}{H1:Hp}{h h1 h2:Heap}{x e:Addr}{o:HO}
theorem Un.any(u:Un fs ex H H1 h h1)(q:h.get? b=some ob)(n:H b=none)(hx:b∉ex):∃sl,h1.get? b=some {ob with slots:=sl}:=by
 by_cases hb:b∈fs;.exact u.slot b ob q n hb hx
 .exact⟨ob.slots,u.keep b ob q n hb hx⟩
theorem Un.kept(k:∀b u,h.get? b=some u->h'.get? b=some u):Un fs ex H H h h':=⟨λb ob q _ _ _=>k b ob q,λb ob q _ _ _=>⟨ob.slots,k b ob q⟩,λ_ _ _ n _=>n,λb ob q _=>⟨ob,k b ob q⟩,λ_ _ q=>q,λ_ _ _ q=>q,λ_ ps q=>⟨#[],by rw[q];simp⟩⟩
theorem Un.refl:Un fs ex H H h h:=Un.kept λ_ _ q=>q
theorem Un.laid(k:∀b u,h.get? b=some u->h'.get? b=some u)(hp:h.objs.size<=a)(hn:H a=none):Un fs ex H (upd H a o) h h' where
 keep:=λb u q _ _ _=>k b u q
 slot:=λb u q _ _ _=>⟨u.slots,k b u q⟩
 free:=λb u q n _=>%[aI (WA (Wy (Wi q) hp))|n]
 there:=λb u q _=>⟨u,k b u q⟩
 iL:=λb xs q=>%[aI (eK q hn)|q]
 gO:=λb u xs q=>%[aI (eK q hn)|q]
 jb:=λb ps q=>⟨#[],by rw[aI (eK q hn),q];simp⟩
theorem Un.write(mu:pC (H x))(he:e=x\/H e=some (.own x))(k:∀b u,b≠e->h.get? b=some u->h'.get? b=some u)(pD:∃u,h'.get? e=some u):Un fs ex H (upd H x o) h h':=by
 have hx:∀b,H b=none->b≠x:=λb n z=>by subst z;rw[n]at mu;exact mu
 have hb:∀b,H b=none->b≠e:=λb n z=>by grind
 have hm:∀b u,H b=some u->¬pC (some u)->b≠x:=λb u q nm z=>by grind
 refine⟨λb u q n _ _=>k b u (hb b n) q,λb u q n _ _=>⟨u.slots,k b u (hb b n) q⟩,λb u q n _=>%[aI (hx b n)|n],λb u q _=>?_,λb xs q=>%[aI (hm b _ q λz=>z)|q],λb u xs q=>%[aI (hm b _ q λz=>z)|q],λb ps q=>⟨#[],by rw[aI (hm b _ q λz=>z),q];simp⟩⟩;grind
end
def vN(h:Heap)(H:Hp):List Addr:=(WM h.objs.size).filter λa=>(H a).isSome
def jE(h:Heap)(H:Hp):Heap:=PySem.W.hideAll h (vN h H)
theorem Li(h:Heap)(H:Hp):(jE h H).objs.size=h.objs.size:=PySem.W.hideAll_size _ _
theorem Lj(e:h.get? b=some o)(n:H b=none):(jE h H).get? b=some o:=PySem.W.hideAll_get _ e λhm=>by have q:(H b).isSome=true:=(List.mem_filter.mp hm).2;rw[n]at q;simp at q
theorem Lk(e:(jE h H).get? b=some o):h.get? b=some o/\H b=none:=by have e':h.get? b=some o:=PySem.W.of_hideAll (vN h H) e;refine⟨e',?_⟩;cases q:H b with|none=>rfl|some x=>have hm:b∈vN h H:=List.mem_filter.mpr ⟨List.mem_range.mpr (Wi e'),#v[q]⟩;grind[jE,W.hideAll_none]
def Ll(g h:Heap)(L:Addr):List (Addr×Obj):=(WM h.objs.size).filterMap λa=>if a=L\/(g.get? a).isSome=true then none else(h.get? a).map λo=>(a,o)
def rest(g h:Heap)(L d:Addr):List (Addr×Obj):=(Ll g h L).filter λp=>decide (p.1≠d)
structure Mod(K:W2)(mg:Str->Option Value)(base:Heap):Prop where
 ki:K.In base
 glob:base.Ns Wn mg
 blt:∃mb,base.Ns builtinsNs mb/\∀x:Str,x≠"__name__"->mb x=Qu x
 nolimit:base.NoLimit
structure Cx where
 prog:Wg
 w:Wp
 K:W2
 mg:Str->Option Value
 base:Heap
 A:Wh
 N:List Str
 s₀:W1
 H₀:Hp
 env:Env
 outer:List Env
 stack:List Env
 ex:List Addr
 fn:Str->Bool
 calm:Bool
 pn:List (Addr×Obj)xe:Value->W1->Prop
variable{X:Cx}
def eS(l:List Env):List Addr:=l.filterMap (·.frame)
abbrev Cx.fs(X:Cx):List Addr:=eS X.outer
def se(sc:Scope)(x:Str):Prop:=sc.names.lookup x=some .local\/sc.names.lookup x=some .cell\/sc.names.lookup x=some .free
def Loc(sc:Scope)(x:Str):Prop:=sc.names.lookup x=some .local\/sc.names.lookup x=some .cell
def Look(env:Env)(h:Heap)(m:Str->Option Value)(x:Str)(u:Value):Prop:=env.kindOf x=some .local/\m x=some u\/(env.kindOf x=some .cell\/env.kindOf x=some .free)/\∃c,env.cells.lookup x=some c/\h.IsCell c (some u)
structure Cx.Ok(X:Cx):Prop where
 mod:Mod X.K X.mg X.base
 kind:X.env.scope.kind=.function
 glob:X.env.globals=Wn
 blt:X.env.builtins=builtinsNs
 above:X.s₀.heap.objs.size<=X.env.locals
 inj:∀x y c,X.env.cells.lookup x=some c->X.env.cells.lookup y=some c->x=y
 has:∀x,X.env.kindOf x=some .cell\/X.env.kindOf x=some .free->∃c,X.env.cells.lookup x=some c
 kj:∀x c,X.fn x=true->X.env.cells.lookup x=some c->X.s₀.heap.objs.size<=c
 hd:X.calm=true->X.A.handled=none
 frames:X.A.frames=some X.stack
 ml:X.stack=X.outer\/X.stack=X.env::X.outer/\X.env.frame=some X.env.locals
 mn:∀b∈X.ex,b≠X.env.locals/\∀x c,X.env.cells.lookup x=some c->c≠b
 bs:∀b o,X.base.get? b=some o->X.s₀.heap.get? b=some o/\X.H₀ b=none
 gP:X.base.objs.size<=X.s₀.heap.objs.size
 lb:∀b o,X.base.get? b=some o->b∉X.ex
 lg:∀b∈X.ex,b∉X.fs
 fQ:X.s₀.heap.FunFrames X.base X.outer
 iM:∀b∈X.fs,X.H₀ b=none
structure Inv(X:Cx)(pins:List (Addr×Obj))(σ:List (Option V))(H:Hp)(s:W1):Prop where
 ok:X.Ok
 os:s.os=X.s₀.os
 bare:AllBare s.gens
 base:Un X.fs X.ex X.H₀ H X.s₀.heap s.heap
 loc:∃m,s.heap.Ns X.env.locals m/\∀(i:Nat)(x:Str)(v:V),X.N[i]?=some x->σ[i]?=some (some v)->se X.env.scope x->∃u,RelV v u/\Look X.env s.heap m x u
 cell:∀x c,X.env.cells.lookup x=some c->∃v,s.heap.IsCell c v
 free:H X.env.locals=none
 eU:∀x c,X.env.cells.lookup x=some c->H c=none
 pin:∀p∈X.pn++pins,s.heap.get? p.1=some p.2/\H p.1=none/\p.1≠X.env.locals/\p.1∉X.fs/\∀v,p.2.data≠.cell v
 az:cK X.prog X.w H s.heap
 len:σ.length=X.N.length
section
variable{σ:List (Option V)}
theorem Cx.Ok.Lm(ok:X.Ok)(e:X.base.get? b=some o):b∉X.fs:=λhb=>by have:=(ok.fQ.mem hb).1;grind
theorem Inv.bs(I:Inv X pins σ H s):∀b o,X.base.get? b=some o->s.heap.get? b=some o/\H b=none:=λb o e=>⟨I.base.keep b o (I.ok.bs b o e).1 (I.ok.bs b o e).2 (I.ok.Lm e) (I.ok.lb b o e),I.base.free b o (I.ok.bs b o e).1 (I.ok.bs b o e).2 (I.ok.lb b o e)⟩
theorem Inv.bk(I:Inv X pins σ H s):∀b o,X.base.get? b=some o->s.heap.get? b=some o:=λb o e=>(I.bs b o e).1
theorem Inv.mod(I:Inv X pins σ H s):Mod X.K X.mg X.base:=I.ok.mod
theorem Inv.cO(I:Inv X pins σ H s):X.K.In s.heap:=I.ok.mod.ki.keeps I.bk
theorem Inv.fr(I:Inv X pins σ H s):∃m,Fr X.base X.env.locals s.heap m:=let⟨m,hn,_⟩:=I.loc
 ⟨m,hn,I.bk,WS I.ok.gP I.ok.above⟩
theorem Inv.lt(I:Inv X pins σ H s):X.env.locals<s.heap.objs.size:=let⟨_,hn,_⟩:=I.loc;hn.lt
theorem Inv.sz(I:Inv X pins σ H s):X.s₀.heap.objs.size<=s.heap.objs.size:=WS I.ok.above (QV I.lt)
theorem Inv.Ln{a}(I:Inv X pins σ H s)(h:s.heap.objs.size<=a):a∉X.fs:=λhb=>by obtain⟨_,o,ho,_⟩:=I.ok.fQ.mem hb;exact absurd (Wy (Wi ho) (WS I.sz h)) (Q7 _)
theorem Inv.iN(I:Inv X pins σ H s):∀x c,X.env.cells.lookup x=some c->c≠X.env.locals:=λx c e z=>by obtain⟨v,o,ho,hd⟩:=I.cell x c e;obtain⟨m,⟨o',es,ep,ho',hd',_⟩,_⟩:=I.loc;grind
theorem Inv.fQ(I:Inv X pins σ H s):s.heap.FunFrames X.base X.outer:=by
 have all:∀(l:List Env),(∀b∈eS l,b∈X.fs)->X.s₀.heap.FunFrames X.base l->s.heap.FunFrames X.base l:=by intro l;induction l with|nil=>intro _ _;trivial|cons env r ih=>intro hs hl;obtain⟨hk,⟨L,o,hf,hn,ho,hd⟩,hr⟩:=hl;have hL:L∈X.fs:=hs L (by unfold eS;rw[List.filterMap_cons,hf];exact Wt);obtain⟨sl,e⟩:=I.base.slot L o ho (I.ok.iM L hL) hL λz=>I.ok.lg L z hL;exact⟨hk,⟨L,_,hf,hn,e,hd⟩,ih (λb hb=>hs b (by unfold eS;rw[List.filterMap_cons,hf];exact Wm _ hb)) hr⟩
 exact all X.outer (λ_ hb=>hb) I.ok.fQ
theorem Inv.stack(I:Inv X pins σ H s):s.heap.FunFrames X.base X.stack:=by
 rcases I.ok.ml with e|⟨e,hf⟩;.rw[e];exact I.fQ
 .rw[e];obtain⟨m,hn,_⟩:=I.loc;refine .cons (by rw[I.ok.kind];decide) hf hn ?_ I.fQ;exact JP (WS I.ok.gP I.ok.above)
theorem Inv.pE(I:Inv X pins σ H s):∀b∈eS X.stack,b∈X.env.locals::X.fs:=λb hb=>by
 rcases I.ok.ml with e|⟨e,hf⟩;.rw[e]at hb;exact Wm _ hb
 .rw[e]at hb;unfold eS at hb;rw[List.filterMap_cons,hf]at hb;exact hb
theorem Inv.sf(I:Inv X pins σ H s):∀b∈eS X.stack,H b=none:=λb hb=>by
 rcases Ws.mp (I.pE b hb)with e|hb;.rw[e];exact I.free
 .obtain⟨_,o,ho,_⟩:=I.ok.fQ.mem hb;exact I.base.free b o ho (I.ok.iM b hb) λz=>I.ok.lg b z hb
theorem Inv.step{g':Array GenState}{t':Nat}{d':Drawn}(I:Inv X pins σ H s)(jF:∀b∈ch,(b∈X.ex\/X.s₀.heap.objs.size<=b)/\b≠X.env.locals/\(∀x c,X.env.cells.lookup x=some c->c≠b)/\∀p∈X.pn++pins,p.1≠b)(keep:∀b o,b≠X.env.locals->b∉X.fs->b∉ch->s.heap.get? b=some o->H b=none->h'.get? b=some o)(slot:∀b o,b≠X.env.locals->b∈X.fs->b∉ch->s.heap.get? b=some o->H b=none->∃sl,h'.get? b=some {o with slots:=sl})(free:∀b o,b∉ch->s.heap.get? b=some o->H b=none->H' b=none)(there:∀b o,b∉ch->s.heap.get? b=some o->∃o',h'.get? b=some o')(iL:∀b xs,H b=some (.tup xs)->H' b=some (.tup xs))(gO:∀b o u,H b=some (.frz o u)->H' b=some (.frz o u))(jb:∀b ps,H b=some (.tbl ps)->∃more,H' b=some (.tbl (ps++more)))(ns:∀m,s.heap.Ns X.env.locals m->h'.Ns X.env.locals m)(az:cK X.prog X.w H' h')(hg:AllBare g'):Inv X pins σ H' {s with heap:=h',gens:=g',drawn:=d',toks:=t'}:=by
 have mq:∀b o,X.s₀.heap.get? b=some o->b≠X.env.locals:=λb o e=>WA (Wy (Wi e) I.ok.above);have sg:∀b o,X.s₀.heap.get? b=some o->b∉X.ex->b∉ch:=λb o e hx hb=>by
  rcases(jF b hb).1 with z|z;.exact hx z
  .exact absurd (Wy (Wi e) z) (Q7 _)
 have cellK:∀x c,X.env.cells.lookup x=some c->∀v,s.heap.IsCell c v->h'.IsCell c v:=λx c e v⟨o,ho,hd⟩=>by
  have pF:c∉ch:=λz=>(jF c z).2.2.1 x c e rfl;by_cases hc:c∈X.fs;.obtain⟨sl,q⟩:=slot c o (I.iN x c e) hc pF ho (I.eU x c e);exact⟨_,q,hd⟩
  .exact⟨o,keep c o (I.iN x c e) hc pF ho (I.eU x c e),hd⟩
 refine⟨I.ok,I.os,hg,⟨λb o e n hb hx=>?_,λb o e n hb hx=>?_,λb o e n hx=>?_,λb o e hx=>?_,λb xs e=>iL b xs (I.base.iL b xs e),λb o xs e=>gO b o xs (I.base.gO b o xs e),λb ps e=>?_⟩,?_,λx c e=>?_,?_,λx c e=>?_,λp hp=>?_,az,I.len⟩;.exact keep b o (mq b o e) hb (sg b o e hx) (I.base.keep b o e n hb hx) (I.base.free b o e n hx)
 .obtain⟨sl,e1⟩:=I.base.slot b o e n hb hx;obtain⟨sl',e2⟩:=slot b _ (mq b o e) hb (sg b o e hx) e1 (I.base.free b o e n hx);exact⟨sl',e2⟩
 .obtain⟨o',e1⟩:=I.base.there b o e hx;exact free b o' (sg b o e hx) e1 (I.base.free b o e n hx)
 .obtain⟨o',e1⟩:=I.base.there b o e hx;exact there b o' (sg b o e hx) e1
 .obtain⟨m1,e1⟩:=I.base.jb b ps e;grind
 .obtain⟨m,hn,hl⟩:=I.loc;refine⟨m,ns m hn,λi x v e1 e2 e3=>?_⟩;obtain⟨u,r,l⟩:=hl i x v e1 e2 e3;refine⟨u,r,?_⟩;rcases l with l|⟨k,c,e,z⟩;.exact .inl l
  .exact .inr ⟨k,c,e,cellK x c e _ z⟩
 .obtain⟨v,z⟩:=I.cell x c e;exact⟨v,cellK x c e v z⟩
 .obtain⟨m,⟨o,_,_,ho,_⟩,_⟩:=I.loc;exact free _ o (λz=>(jF _ z).2.1 rfl) ho I.free
 .obtain⟨v,o,ho,hd⟩:=I.cell x c e;exact free c o (λz=>(jF c z).2.2.1 x c e rfl) ho (I.eU x c e)
 .obtain⟨e,n,ne,nf,d⟩:=I.pin p hp;have pF:p.1∉ch:=λz=>(jF p.1 z).2.2.2 p hp rfl;exact⟨keep p.1 p.2 ne nf pF e n,free p.1 p.2 pF e n,ne,nf,d⟩
theorem Inv.un{t':Nat}(I:Inv X pins σ H s)(u:Un X.fs [] H H' s.heap h')(az:cK X.prog X.w H' h'):Inv X pins σ H' {s with heap:=h',toks:=t'}:=by obtain⟨m,⟨o,es,ep,ho,r⟩,_⟩:=id I.loc;obtain⟨sl,hL⟩:=u.any ho I.free U';exact I.step (g':=s.gens) (d':=s.drawn) (ch:=[]) (λ_ z=>nomatch z) (λb o _ hb _ e n=>u.keep b o e n hb U') (λb o _ hb _ e n=>u.slot b o e n hb U') (λb o _ e n=>u.free b o e n U') (λb o _ e=>u.there b o e U') u.iL u.gO u.jb (λm' hm=>by obtain⟨o',km,fq,ho',r'⟩:=hm;rw[ho]at ho';cases ho';exact⟨_,km,fq,hL,r'⟩) az I.bare
theorem Inv.call{t':Nat}{d':Drawn}(I:Inv X pins σ H s)(u:Un (eS X.stack) ch H H' s.heap h')(az:cK X.prog X.w H' h')(hg:AllBare g')(jF:∀b∈ch,(b∈X.ex\/X.s₀.heap.objs.size<=b)/\b≠X.env.locals/\(∀x c,X.env.cells.lookup x=some c->c≠b)/\∀p∈X.pn++pins,p.1≠b):Inv X pins σ H' {s with heap:=h',gens:=g',drawn:=d',toks:=t'}:=by obtain⟨m,⟨o,es,ep,ho,r⟩,_⟩:=id I.loc;obtain⟨sl,hL⟩:=u.any ho I.free λz=>(jF _ z).2.1 rfl;exact I.step (ch:=ch) jF (λb o hL hb hc e n=>u.keep b o e n (λz=>(Ws.mp (I.pE b z)).elim hL hb) hc) (λb o _ _ hc e n=>u.any e n hc) (λb o hc e n=>u.free b o e n hc) (λb o hc e=>u.there b o e hc) u.iL u.gO u.jb (λm' hm=>by obtain⟨o',km,fq,ho',r'⟩:=hm;rw[ho]at ho';cases ho';exact⟨_,km,fq,hL,r'⟩) az hg
theorem Inv.turned{t':Nat}(I:Inv X pins σ H s)(k:∀b o,b≠it->s.heap.get? b=some o->h'.get? b=some o)(hn:H it=none)(hL:it≠X.env.locals)(h1:it∈X.ex\/X.s₀.heap.objs.size<=it)(h2:∀x c,X.env.cells.lookup x=some c->c≠it)(h3:∀p∈X.pn++pins,p.1≠it):Inv X pins σ H {s with heap:=h',toks:=t'}:=by
 have lh:∀b u,H b=some u->b≠it:=λb u e z=>by grind
 refine I.step (g':=s.gens) (d':=s.drawn) (ch:=[it]) (λb hb=>?_) (by grind) (λb o _ _ hc e _=>⟨o.slots,k b o (λz=>hc #v[z]) e⟩) (λ_ _ _ _ n=>n) (by grind) (λ_ _ e=>e) (λ_ _ _ e=>e) (λb ps e=>⟨#[],by rw[e];simp⟩) (λm hm=>?_) (λb u e=>?_) I.bare;.have e:b=it:= ~~~hb;subst e;exact⟨h1,hL,h2,h3⟩
 .obtain⟨o,es,ep,ho,r⟩:=hm;exact⟨o,es,ep,k _ o (Ne.symm hL) ho,r⟩
 .refine(I.az b u e).eG (λc v hc q=>k c v ?_ q) (λ_ q=>q) (λ_ _ q=>q) λ_ _ _ q=>q;rcases hc with z|z;.rw[z];exact lh b u e
  .exact lh c _ z
theorem Inv.tok(I:Inv X pins σ H s)(t:Nat):Inv X pins σ H {s with toks:=t}:=I.un (h':=s.heap) (t':=t) Un.refl I.az
theorem Inv.kept(I:Inv X pins σ H s)(k:∀b u,s.heap.get? b=some u->h'.get? b=some u):Inv X pins σ H {s with heap:=h',toks:=t'}:=I.un (Un.kept k) (I.az.kept k)
theorem Inv.laid{a}(I:Inv X pins σ H s)(k:∀b u,s.heap.get? b=some u->h'.get? b=some u)(hp:s.heap.objs.size<=a)(new:bE X.prog X.w (upd H a o) h' a o):Inv X pins σ (upd H a o) {s with heap:=h',toks:=t'}:=I.un (Un.laid k hp (I.az.fresh hp)) (I.az.laid k hp new)
theorem Inv.write{x e}(I:Inv X pins σ H s)(mu:pC (H x))(he:e=x\/H e=some (.own x))(k:∀b u,b≠e->s.heap.get? b=some u->h'.get? b=some u)(pD:∃u,h'.get? e=some u)(new:bE X.prog X.w (upd H x o) h' x o):Inv X pins σ (upd H x o) {s with heap:=h',toks:=t'}:=I.un (Un.write mu he k pD) (I.az.write mu he k pD new)
theorem Inv.weak(I:Inv X pins σ H s)(hl:σ'.length=σ.length)(w:∀(i:Nat)v,σ'[i]?=some (some v)->σ[i]?=some (some v)):Inv X pins σ' H s:=⟨I.ok,I.os,I.bare,I.base,let⟨m,hn,iO⟩:=I.loc;⟨m,hn,λi x v e1 e2 e3=>iO i x v e1 (w i v e2) e3⟩,I.cell,I.free,I.eU,I.pin,I.az,hl.trans I.len⟩
theorem Inv.Bb(I:Inv X pins σ H s)(h:∀p∈pins',s.heap.get? p.1=some p.2/\H p.1=none/\p.1≠X.env.locals/\p.1∉X.fs/\∀v,p.2.data≠.cell v):Inv X pins' σ H s:=⟨I.ok,I.os,I.bare,I.base,I.loc,I.cell,I.free,I.eU,λp hp=>(QF.mp hp).elim (λz=>I.pin p (Jn _ z)) (h p),I.az,I.len⟩
theorem vO(hN:N.Nodup)(a:N[i]?=some x)(b:N[j]?=some x):i=j:=by obtain⟨h1,e1⟩:=W8.mp a;obtain⟨h2,e2⟩:=W8.mp b;exact(JQ hN).mp (e1.trans e2.symm)
theorem sh{M:Model}{A:Wh}{E:Value->W1->Prop}{Q:Unit->W1->Prop}(I:Inv X pins σ H s)(hN:X.N.Nodup)(hi:X.N[i]?=some x)(hx:Loc X.env.scope x)(r:RelV v u)(h:∀s',Inv X pins (σ.set i (some v)) H s'->(∃a,Jb a s.heap s'.heap/\(a=X.env.locals\/X.env.cells.lookup x=some a))->Q () s')(hf:X.fn x=true\/X.env.scope.names.lookup x=some .local:=by first|exact .inl rfl|exact .inr rfl|assumption):W4 M A (storeName X.env x u) Q E s:=by
 obtain⟨m,hn,hl⟩:=id I.loc;have Lo:(X.env.scope.kind==.class||X.env.scope.kind==.module&&X.env.locals !=X.env.globals)=false:=by rw[I.ok.kind];rfl
 have pG:i<σ.length:=by rw[I.len];exact(W8.mp hi).1
 have iN:=I.iN;have tracked:∀{a:Addr}{h':Heap},(∃o,s.heap.get? a=some o/\H a=none)->Jb a s.heap h'->cK X.prog X.w H h':=λ{a h'}ha hs b ob e=>by obtain⟨_,_,si⟩:=ha;refine(I.az b ob e).eG (λc w' hc q=>(hs.2 c ?_).trans q) (λ_ q=>q) (λ_ _ q=>q) λ_ _ _ q=>q;grind
 rcases hx with hk|hk
 .refine wpAny_storeName_local hk hn (λh' gE hs=>?_) Lo;obtain⟨oL,_,_,pH,_⟩:=id hn;refine h _ ⟨I.ok,I.os,I.bare,⟨λb o e n hb hx=>?_,λb o e n hb hx=>?_,I.base.free,λb o e hx=>?_,I.base.iL,I.base.gO,I.base.jb⟩,⟨_,gE,λj y v' e1 e2 e3=>?_⟩,λy c e=>?_,I.free,I.eU,λp hp=>?_,tracked ⟨oL,pH,I.free⟩ hs,~~~I.len⟩ ⟨_,hs,.inl rfl⟩;.exact(hs.2 b (WA (Wy (Wi e) I.ok.above))).trans (I.base.keep b o e n hb hx)
  .obtain⟨sl,e1⟩:=I.base.slot b o e n hb hx;exact⟨sl,(hs.2 b (WA (Wy (Wi e) I.ok.above))).trans e1⟩
  .obtain⟨o',e1⟩:=I.base.there b o e hx;exact⟨o',(hs.2 b (WA (Wy (Wi e) I.ok.above))).trans e1⟩
  .by_cases hj:j=i;.subst hj;rw[hi]at e1;cases e1;rw[Wl pG]at e2;cases e2;exact⟨u,r,.inl ⟨hk,U'⟩⟩
   .rw[W9 (Ne.symm hj)]at e2;obtain⟨u',r',q⟩:=hl j y v' e1 e2 e3;refine⟨u',r',?_⟩;rcases q with⟨k,e⟩|⟨k,c,e,z⟩;.refine .inl ⟨k,?_⟩;have:y≠x:=λe=>hj (vO hN e1 (e▸hi));simp[this,e]
    .exact .inr ⟨k,c,e,z.sameBut hs (iN y c e)⟩
  .obtain⟨w',z⟩:=I.cell y c e;exact⟨w',z.sameBut hs (iN y c e)⟩
  .obtain⟨e,n,ne,nf,d⟩:=I.pin p hp;exact⟨(hs.2 p.1 ne).trans e,n,ne,nf,d⟩
 .have gF:X.fn x=true:=by grind
  obtain⟨c,hc⟩:=I.ok.has x (.inl hk);obtain⟨w',z⟩:=I.cell x c hc;refine wpAny_storeName_cell I.ok.kind hk hc z λh' fR hs=>?_;obtain⟨oc,hoc,hocd⟩:=id z;refine h {s with heap:=h'} ⟨I.ok,I.os,I.bare,⟨λb o e n hb hx=>?_,λb o e n hb hx=>?_,I.base.free,λb o e hx=>?_,I.base.iL,I.base.gO,I.base.jb⟩,⟨m,hn.sameBut hs (Ne.symm (iN x c hc)),λj y v' e1 e2 e3=>?_⟩,λy c' e=>?_,I.free,I.eU,λp hp=>?_,tracked ⟨oc,hoc,I.eU x c hc⟩ hs,~~~I.len⟩ ⟨c,hs,.inr hc⟩;.exact(hs.2 b (WA (Wy (Wi e) (I.ok.kj x c gF hc)))).trans (I.base.keep b o e n hb hx)
  .obtain⟨sl,e1⟩:=I.base.slot b o e n hb hx;exact⟨sl,(hs.2 b (WA (Wy (Wi e) (I.ok.kj x c gF hc)))).trans e1⟩
  .obtain⟨o',e1⟩:=I.base.there b o e hx;exact⟨o',(hs.2 b (WA (Wy (Wi e) (I.ok.kj x c gF hc)))).trans e1⟩
  .by_cases hj:j=i;.subst hj;rw[hi]at e1;cases e1;rw[Wl pG]at e2;cases e2;exact⟨u,r,.inr ⟨.inl hk,c,hc,fR⟩⟩
   .rw[W9 (Ne.symm hj)]at e2;obtain⟨u',r',q⟩:=hl j y v' e1 e2 e3;refine⟨u',r',?_⟩;rcases q with q|⟨k,c',e,z'⟩;.exact .inl q
    .refine .inr ⟨k,c',e,z'.sameBut hs ?_⟩;rintro rfl;exact hj (vO hN e1 (I.ok.inj _ _ _ e hc▸hi))
  .by_cases hcc:c'=c;.grind
   .obtain⟨w2,z2⟩:=I.cell y c' e;exact⟨w2,z2.sameBut hs hcc⟩
  .obtain⟨e,n,ne,nf,d⟩:=I.pin p hp;refine⟨(hs.2 p.1 ?_).trans e,n,ne,nf,d⟩;grind
theorem vP{Q}(I:Inv X pins σ H s)(hN:X.N.Nodup)(hi:X.N[i]?=some x)(hx:Loc X.env.scope x)(r:RelV v u)(h:∀s',Inv X pins (σ.set i (some v)) H s'->Q () s')(hf:X.fn x=true\/X.env.scope.names.lookup x=some .local:=by first|exact .inl rfl|exact .inr rfl|assumption):W4 M A (storeName X.env x u) Q E s:=sh I hN hi hx r (λs' I' _=>h s' I') hf
theorem Inv.Bc(I:Inv X pins σ H s)(ho:s'.os=s.os)(u:Un (eS X.stack) ch H H' s.heap s'.heap)(az:cK X.prog X.w H' s'.heap)(hg:AllBare s'.gens)(jF:∀b∈ch,(b∈X.ex\/X.s₀.heap.objs.size<=b)/\b≠X.env.locals/\(∀x c,X.env.cells.lookup x=some c->c≠b)/\∀p∈X.pn++pins,p.1≠b):Inv X pins σ H' s':=by obtain⟨h',g',d',t',o'⟩:=s';have e:o'=s.os:=ho;subst e;exact I.call (g':=g') (t':=t') (d':=d') u az hg jF
end
abbrev XK:=Value->Option Addr->Hp->Prop
abbrev St:=List (Option V)
variable{W:Addr->Option Addr->St->Hp->Prop}{σ σ':St}
abbrev VK:=V->Hp->Prop
abbrev TE:=St->Hp->VK->Prop
variable{ta td te tv ty:TE}
abbrev TT:=St->Hp->(Bool->Hp->Prop)->Prop
abbrev TA:=St->Hp->(List V->Hp->Prop)->Prop
structure Ends where
 nx:St->Hp->Prop
 rt:VK
 bk:St->Hp->Prop:=λ_ _=>False
 ct:St->Hp->Prop:=λ_ _=>False
abbrev TS:=Ends->St->Hp->Prop
variable{tb:(Addr->Option Addr->St->Hp->Prop)->TS}{th:Addr->Addr->TS}
def EP(X:Cx)(pins:List (Addr×Obj))(σ:St)(Q:VK)(u:Value)(s':W1):Prop:=∃v H',Inv X pins σ H' s'/\RelV v u/\Q v H'
def TP(X:Cx)(pins:List (Addr×Obj))(σ:St)(Q:Bool->Hp->Prop)(b:Bool)(s':W1):Prop:=∃H',Inv X pins σ H' s'/\Q b H'
def AP(X:Cx)(pins:List (Addr×Obj))(σ:St)(Q:List V->Hp->Prop)(us:List Value)(s':W1):Prop:=∃vs H',Inv X pins σ H' s'/\Vals vs us/\Q vs H'
def SP(X:Cx)(pins:List (Addr×Obj))(D:Ends)(f:Flow)(s':W1):Prop:=match f with|.next=>∃σ' H',Inv X pins σ' H' s'/\D.nx σ' H'|.brk=>∃σ' H',Inv X pins σ' H' s'/\D.bk σ' H'|.cont=>∃σ' H',Inv X pins σ' H' s'/\D.ct σ' H'|.ret u=>∃v σ' H',Inv X pins σ' H' s'/\RelV v u/\D.rt v H'
def PE(X:Cx)(e:Expr)(t:TE):Prop:=∀(pins:List (Addr×Obj))(s:W1)(σ:St)(H:Hp)(Q:VK),Inv X pins σ H s->t σ H Q->W4 (model X.prog X.w) X.A (eval e X.env) (EP X pins σ Q) X.xe s
def PT(X:Cx)(e:Expr)(t:TT):Prop:=∀(pins:List (Addr×Obj))(s:W1)(σ:St)(H:Hp)(Q:Bool->Hp->Prop),Inv X pins σ H s->t σ H Q->W4 (model X.prog X.w) X.A (isTrue e X.env (eval e X.env)) (TP X pins σ Q) X.xe s
def PW(X:Cx)(e:Expr)(t:TT):Prop:=∀(whole:Sem Value)(pins:List (Addr×Obj))(s:W1)(σ:St)(H:Hp)(Q:Bool->Hp->Prop),Inv X pins σ H s->t σ H Q->W4 (model X.prog X.w) X.A (isTrue e X.env whole) (TP X pins σ Q) X.xe s
theorem PW.pt(h:PW X e t):PT X e t:=h _
def PA(X:Cx)(es:List Expr)(t:TA):Prop:=∀(pos:Pos)(pins:List (Addr×Obj))(s:W1)(σ:St)(H:Hp)(Q:List V->Hp->Prop),Inv X pins σ H s->t σ H Q->W4 (model X.prog X.w) X.A (spliced (WO pos (W7 es X.env))) (AP X pins σ Q) X.xe s
def PS(X:Cx)(st:Stmt)(t:TS):Prop:=∀(pins:List (Addr×Obj))(s:W1)(σ:St)(H:Hp)(D:Ends),Inv X pins σ H s->t D σ H->W4 (model X.prog X.w) X.A (exec st X.env) (SP X pins D) X.xe s
def dF(X:Cx)(st:List Stmt)(t:TS):Prop:=∀(pins:List (Addr×Obj))(s:W1)(σ:St)(H:Hp)(D:Ends),Inv X pins σ H s->t D σ H->W4 (model X.prog X.w) X.A (execs st X.env) (SP X pins D) X.xe s
theorem aP{Q}(h:W4 M A t Q E s)(hQ:∀a s,Q a s->Q' a s):W4 M A t Q' E s:=WR h hQ λ_ _ x=>x
section
theorem bin{a b:Expr}{tb:TE}(ha:PE X a ta)(hb:PE X b tb){R:V->V->Hp->Prop}(I:Inv X pins σ H s)(h:ta σ H λx H1=>tb σ H1 λy H2=>R x y H2){α:Type}{Q:α->W1->Prop}{f:Value->Value->Sem α}(hf:∀v u s2 x y H2,Inv X pins σ H2 s2->RelV x v->RelV y u->R x y H2->W4 (model X.prog X.w) X.A (f v u) Q X.xe s2):W4 (model X.prog X.w) X.A (eval a X.env) (λv s₁=>W4 (model X.prog X.w) X.A (eval b X.env) (λu s₂=>W4 (model X.prog X.w) X.A (f v u) Q X.xe s₂) X.xe s₁) X.xe s:=by refine aP (ha pins s σ H _ I h) λv s1⟨x,H1,I1,r1,q1⟩=>?_;refine aP (hb pins s1 σ H1 _ I1 q1) λu s2 hh=>?_;obtain⟨y,H2,I2,r2,q2⟩:=hh;exact hf v u s2 x y H2 I2 r1 r2 q2
def dZ(i:Nat):TE:=λσ H Q=>∃v,σ[i]?=some (some v)/\Q v H
def tC(v:V):TE:=λ_ H Q=>Q v H
theorem Lp(hN:X.N[i]?=some x)(hv:se X.env.scope x)(hd:(x==("__debug__":Str))=false:=by decide)(dR:(x==("__classdict__":Str))=false:=by decide):PE X (.Name x pos) (dZ i):=by
 intro pins s σ H Q I h;obtain⟨v,e,h⟩:=h;obtain⟨m,hn,hl⟩:=I.loc;obtain⟨u,r,l⟩:=hl i x v hN e hv;have fin:EP X pins σ Q u s:=⟨v,H,I,r,h⟩;rcases l with⟨hk,hm⟩|⟨hk,c,hc,hcell⟩;.exact wpAny_Name (wpAny_loadName_local I.ok.kind hk hn hm fin) hd
 .rcases hk with hk|hk;.exact wpAny_Name (wpAny_loadName_cell I.ok.kind hk hc hcell fin) hd
  .exact wpAny_Name (wpAny_loadName_free I.ok.kind hk hc hcell fin dR) hd
theorem Lq{i j pos}:PE X (.Constant (.int i) j pos) (tC (.int i)):=λ_ _ _ H _ I h=>wpAny_Constant_int ⟨.int i,H,I.tok _,⟨_,rfl⟩,h⟩
theorem vQ{b j pos}:PE X (.Constant (.bool b) j pos) (tC (.bl b)):=λ_ _ _ H _ I h=>Constant_bool ⟨.bl b,H,I,rfl,h⟩
theorem Lr{j pos}:PE X (.Constant .none j pos) (tC .aJ):=λ_ _ _ H _ I h=>Constant_none ⟨.aJ,H,I,rfl,h⟩
theorem Be{x j pos}:PE X (.Constant (.str x) j pos) (tC (.str x)):=λ_ _ _ H _ I h=>Calls.Constant_str ⟨.str x,H,I.tok _,⟨_,rfl⟩,h⟩
def Gl(X:Cx)(x:Str):Prop:=X.env.kindOf x=some .globalImplicit
theorem kn(I:Inv X pins σ H s)(hg:Gl X x)(hm:X.mg x=some u)(h:Q u s)(hd:(x==("__debug__":Str))=false:=by decide):W4 (model X.prog X.w) X.A (eval (.Name x pos) X.env) Q E s:=Calls.Name_function_global I.ok.kind hg (Calls.loadGlobal_global %[I.ok.glob|I.mod.glob.keeps I.bk] hm h) hd
theorem ko(I:Inv X pins σ H s)(hg:Gl X x)(hm:X.mg x=none)(hv:Qu x=some u)(h:Q u s)(hn:x≠"__name__":=by decide)(hd:(x==("__debug__":Str))=false:=by decide):W4 (model X.prog X.w) X.A (eval (.Name x pos) X.env) Q E s:=by obtain⟨mb,h1,h2⟩:=I.mod.blt;exact Calls.Name_function_global I.ok.kind hg (Calls.loadGlobal_builtin %[I.ok.glob|I.mod.glob.keeps I.bk] hm %[I.ok.blt|h1.keeps I.bk] ((h2 x hn).trans hv) h) hd
theorem Bf(hg:Gl X x)(hm:X.mg x=some u)(r:RelV v u)(hd:(x==("__debug__":Str))=false:=by decide):PE X (.Name x pos) (tC v):=λ_ _ _ H _ I h=>kn I hg hm ⟨v,H,I,r,h⟩ hd
theorem Bg(hg:Gl X x)(hm:X.mg x=none)(hv:Qu x=some u)(r:RelV v u)(hn:x≠"__name__":=by decide)(hd:(x==("__debug__":Str))=false:=by decide):PE X (.Name x pos) (tC v):=λ_ _ _ H _ I h=>ko I hg hm hv ⟨v,H,I,r,h⟩ hn hd
variable{a b:Expr}{tb:TE}
def PC(X:Cx)(op:CmpOp)(a b:Expr)(t:TE):Prop:=∀(pins:List (Addr×Obj))(s:W1)(σ:St)(H:Hp)(Q:VK),Inv X pins σ H s->t σ H Q->W4 (model X.prog X.w) X.A (eval a X.env) (λv s₁=>W4 (model X.prog X.w) X.A (eval b X.env) (λu s₂=>W4 (model X.prog X.w) X.A (WJ op v u) (EP X pins σ Q) X.xe s₂) X.xe s₁) X.xe s
theorem Ls(b:Expr)(h:op≠.In)(h2:op≠.NotIn):QK op b=false:=by
 have e1:(op==CmpOp.In)=false:=by cases op<;>first|rfl|exact absurd rfl h
 have e2:(op==CmpOp.NotIn)=false:=by cases op<;>first|rfl|exact absurd rfl h2
 cases b<;>simp[QK,e1,e2]
def tB(t:TE):TT:=λσ H Q=>t σ H λx H1=>∃c,x=.bl c/\Q c H1
theorem qaA(h:PC X op a b t)(h1:QK op b=false:=by first|exact Ls _ Z' Z'|rfl):PT X (.Compare a [op] [b] pos) (tB t):=by intro pins s σ H Q I hw;refine wpAny_isTrue_Compare1 (aP (h pins s σ H _ I hw) λv s1 h1=>aP h1 λu s2 h2=>aP h2 λc s3 hh=>?_) h1;obtain⟨x,H1,I1,r1,q1⟩:=hh;obtain⟨d,rfl,q⟩:=q1;cases r1;exact QD ⟨H1,I1,q⟩
theorem Lu(h:PE X e t)(he:∀whole,isTrue e X.env whole=(do let v<-whole;standAt e.pos;holding [v] (truthy v)):=by intro _;rfl):PT X e (tB t):=by intro pins s σ H Q I hw;refine isTrue_plain (aP (h pins s σ H _ I hw) λv s1 hh=>?_) (he _);obtain⟨x,H1,I1,r1,q1⟩:=hh;obtain⟨d,rfl,q⟩:=q1;cases r1;exact QD ⟨H1,I1,q⟩
variable{tA sj:TT}{rest:List Expr}
def Lv(t u:TT):TT:=λσ H Q=>t σ H λc H1=>if c=true then u σ H1 Q else Q false H1
def Lw(t u:TT):TT:=λσ H Q=>t σ H λc H1=>if c=true then Q true H1 else u σ H1 Q
def Lx(t:TT):TT:=λσ H Q=>t σ H λc H1=>Q (!c) H1
theorem Ly(ha:PT X a tA):PW X (.BoolOp .And [a] pos) tA:=by intro wh pins s σ H Q I h;refine isTrue_and (aP (ha pins s σ H Q I h) λc s1 e=>?_);cases c with|true=>exact isTrue_and_nil e|false=>exact e
theorem Lz(ha:PT X a tA):PW X (.BoolOp .Or [a] pos) tA:=by intro wh pins s σ H Q I h;refine isTrue_or (aP (ha pins s σ H Q I h) λc s1 e=>?_);cases c with|false=>exact isTrue_or_nil e|true=>exact e
theorem LA(ha:PT X a tA)(hb:PW X (.BoolOp .And (b::rest) pos) sj):PW X (.BoolOp .And (a::b::rest) pos) (Lv tA sj):=by intro wh pins s σ H Q I h;refine isTrue_and (aP (ha pins s σ H _ I h) λc s1 hh=>?_);obtain⟨H1,I1,q1⟩:=hh;cases c with|true=>exact hb wh pins s1 σ H1 Q I1 q1|false=>exact⟨H1,I1,q1⟩
theorem pw_or(ha:PT X a tA)(hb:PW X (.BoolOp .Or (b::rest) pos) sj):PW X (.BoolOp .Or (a::b::rest) pos) (Lw tA sj):=by intro wh pins s σ H Q I h;refine isTrue_or (aP (ha pins s σ H _ I h) λc s1 hh=>?_);obtain⟨H1,I1,q1⟩:=hh;cases c with|true=>exact⟨H1,I1,q1⟩|false=>exact hb wh pins s1 σ H1 Q I1 q1
theorem LB(ha:PT X a tA):PT X (.UnaryOp .Not a pos) (Lx tA):=by intro pins s σ H Q I h;exact isTrue_not (ha pins s σ H (λc H1=>Q (!c) H1) I h)
def LC(ta tb:TE):TE:=λσ H Q=>ta σ H λx H1=>∃c,x=.bl c/\if c=true then tb σ H1 Q else Q (.bl false) H1
def LF(ta:TE):TE:=λσ H Q=>ta σ H λx H1=>∃c,x=.bl c/\Q (.bl !c) H1
theorem LG{op}(h:PE X a t):PE X (.BoolOp op [a] pos) t:=λpins s σ H Q I hw=>BoolOp_one (h pins s σ H Q I hw)
theorem LH(ha:PE X a ta)(hb:PE X (.BoolOp .And (b::rest) pos) tb):PE X (.BoolOp .And (a::b::rest) pos) (LC ta tb):=by intro pins s σ H Q I h;refine BoolOp_and (aP (ha pins s σ H _ I h) λv s1 hh=>?_);obtain⟨x,H1,I1,r1,q1⟩:=hh;obtain⟨c,rfl,q1⟩:=q1;cases r1;refine QD ?_;cases c with|true=>exact hb pins s1 σ H1 Q I1 q1|false=>exact⟨.bl false,H1,I1,rfl,q1⟩
theorem LI(ha:PE X a ta):PE X (.UnaryOp .Not a pos) (LF ta):=by intro pins s σ H Q I h;refine UnaryOp_ (aP (ha pins s σ H _ I h) λv s1 hh=>?_);obtain⟨x,H1,I1,r1,q1⟩:=hh;obtain⟨c,rfl,q1⟩:=q1;cases r1;exact not_of (QD ⟨.bl !c,H1,I1,rfl,q1⟩)
end
def cU(K:W2)(H:Hp)(a:Addr)(xs:List V):Prop:=Rd H a (.lst xs)\/∃(o:Obj)(its:Array Value)(n:Nat),K.lookup a=some o/\o.cls=.type "list"/\o.dict=none/\o.data=.seq its n/\its.size<=Wa/\Vals xs its.toList
def df(K:W2)(H:Hp)(a:Addr)(xs:List V):Prop:=Rd H a (.tup xs)\/∃(o:Obj)(its:Array Value)(n:Nat),K.lookup a=some o/\o.cls=.type "tuple"/\o.data=.seq its n/\its.size<=Wa/\Vals xs its.toList
def LJ:Value->Option V|.none=>some .aJ|.bool b=>some (.bl b)|.int i _=>some (.int i)|.str x _=>some (.str x)|.bytes b _=>some (.byt b)|.float b _=>some (.flt b)|.ref a=>some (.ref a)|.type n=>some (.ty n)|_=>none
theorem RelV.abs{x}(r:RelV x u):LJ u=some x:=by cases x with|aJ=>cases r;rfl|bl _=>cases r;rfl|int _=>obtain⟨t,rfl⟩:=r;rfl|str _=>obtain⟨t,rfl⟩:=r;rfl|byt _=>obtain⟨t,rfl⟩:=r;rfl|flt _=>obtain⟨t,rfl⟩:=r;rfl|ref _=>cases r;rfl|ty _=>cases r;rfl
theorem RelV.inj{x}(r:RelV x u)(q:RelV y u):x=y:=WG (r.abs.symm.trans q.abs)
theorem Vals.inj:∀{xs ys:List V}{us:List Value},Vals xs us->Vals ys us->xs=ys|_,_,_,.nil,.nil=>rfl|_,_,_,.cons r t,.cons r' t'=>by rw[r.inj r',Vals.inj t t']
section
variable{xs ys:List V}
theorem cU.of(h:H a=some (.lst xs)):cU K H a xs:=.inl (.inl h)
theorem df.of(h:H a=some (.tup xs)):df K H a xs:=.inl (.inl h)
theorem Inv.list(I:Inv X pins σ H s)(h:cU X.K H a xs):∃its:List Value,Vals xs its/\PlainL s.heap a its.toArray/\xs.length<=Wa:=by
 rcases h with h|⟨o,its,n,hk,hc,hd,hs,hz,r⟩;.obtain⟨z,its,n,r,e⟩:=h.ok I.az;exact⟨its,r,⟨_,n,e,rfl,rfl,rfl⟩,z⟩
 .refine⟨its.toList,r,⟨o,n,I.cO a o hk,hc,hd,~~~hs⟩,?_⟩;have e:=r.length;simp only[Jx]at e;lia
theorem Inv.tuple(I:Inv X pins σ H s)(h:df X.K H a xs):∃its:List Value,Vals xs its/\IsTup s.heap a its.toArray/\xs.length<=Wa:=by
 rcases h with h|⟨o,its,n,hk,hc,hs,hz,r⟩;.obtain⟨z,its,r,p⟩:=h.ok I.az;exact⟨its,r,p.tup,z⟩
 .refine⟨its.toList,r,⟨o,I.cO a o hk,hc,n,~~~hs⟩,?_⟩;have e:=r.length;simp only[Jx]at e;lia
theorem Inv.Bh(I:Inv X pins σ H s)(h:cU X.K H a xs)(h':cU X.K H a ys):xs=ys:=by
 obtain⟨its,r,⟨o,n,e,_,_,d⟩,_⟩:=I.list h;obtain⟨its',r',⟨o',n',e',_,_,d'⟩,_⟩:=I.list h';rw[e]at e';cases e';rw[d]at d';injection d' with d1 _;have:its=its':=by grind
 subst this;exact r.inj r'
theorem Inv.Bi(I:Inv X pins σ H s)(h:df X.K H a xs)(h':df X.K H a ys):xs=ys:=by
 obtain⟨its,r,⟨o,e,_,n,d⟩,_⟩:=I.tuple h;obtain⟨its',r',⟨o',e',_,n',d'⟩,_⟩:=I.tuple h';rw[e]at e';cases e';rw[d]at d';injection d' with d1 _;have:its=its':=by grind
 subst this;exact r.inj r'
end
abbrev Cx.ik(X:Cx)(E:Value->W1->Prop):Cx:={X with xe:=E}
abbrev Cx.fE(X:Cx):Cx:=X.ik λ_ _=>False
theorem Cx.Ok.ik(ok:X.Ok)(E:Value->W1->Prop):(X.ik E).Ok:=⟨ok.mod,ok.kind,ok.glob,ok.blt,ok.above,ok.inj,ok.has,ok.kj,ok.hd,ok.frames,ok.ml,ok.mn,ok.bs,ok.gP,ok.lb,ok.lg,ok.fQ,ok.iM⟩
theorem Cx.Ok.kq(ok:(X.ik E).Ok):X.Ok:=⟨ok.mod,ok.kind,ok.glob,ok.blt,ok.above,ok.inj,ok.has,ok.kj,ok.hd,ok.frames,ok.ml,ok.mn,ok.bs,ok.gP,ok.lb,ok.lg,ok.fQ,ok.iM⟩
theorem Inv.ik(I:Inv X pins σ H s)(E:Value->W1->Prop):Inv (X.ik E) pins σ H s:=⟨I.ok.ik E,I.os,I.bare,I.base,I.loc,I.cell,I.free,I.eU,I.pin,I.az,I.len⟩
theorem Inv.kq(I:Inv (X.ik E) pins σ H s):Inv X pins σ H s:=⟨I.ok.kq,I.os,I.bare,I.base,I.loc,I.cell,I.free,I.eU,I.pin,I.az,I.len⟩
theorem SP.kq{f}(h:SP (X.ik E) pins D f s'):SP X pins D f s':=by cases f with|next=>obtain⟨σ',H',I,q⟩:=h;exact⟨σ',H',I.kq,q⟩|brk=>obtain⟨σ',H',I,q⟩:=h;exact⟨σ',H',I.kq,q⟩|cont=>obtain⟨σ',H',I,q⟩:=h;exact⟨σ',H',I.kq,q⟩|ret u=>obtain⟨v,σ',H',I,r,q⟩:=h;exact⟨v,σ',H',I.kq,r,q⟩
theorem PE.fE(h:PE X.fE e t):PE X e t:=λpins s σ H Q I hw=>WR (h pins s σ H Q (I.ik _) hw) (λ_ _⟨v,H',I',r,q⟩=>⟨v,H',I'.kq,r,q⟩) (by grind)
theorem dF.fE{st:List Stmt}{t:TS}(h:dF X.fE st t):dF X st t:=λpins s σ H D I hw=>WR (h pins s σ H D (I.ik _) hw) (λ_ _ q=>q.kq) (by grind)
section
variable{st:Stmt}{rest:List Stmt}{t u:TS}
def LK:TS:=λD σ H=>D.nx σ H
def Bj(t u:TS):TS:=λD σ H=>t {D with nx:=u D} σ H
theorem LM:dF X [] LK:=λ_ _ σ H _ I h=>U4 ⟨σ,H,I,h⟩
theorem Bk(h1:PS X st t)(h2:dF X rest u):dF X (st::rest) (Bj t u):=by intro pins s σ H D I h;refine wpAny_execs_cons (aP (h1 pins s σ H {D with nx:=u D} I h) λf s1 q=>?_);cases f with|next=>obtain⟨σ',H',I',q⟩:=q;exact h2 pins s1 σ' H' D I' q|ret v=>exact q|brk=>exact q|cont=>exact q
theorem Bl(h1:PS X st t):dF X [st] t:=by intro pins s σ H D I h;refine wpAny_execs_cons (aP (h1 pins s σ H D I h) λf s1 q=>?_);cases f with|next=>exact U4 q|ret v=>exact q|brk=>exact q|cont=>exact q
theorem Inv.quiet(I:Inv X pins σ H s):interactive X.env=false:=#v[interactive,I.ok.kind]
def vR(te:TE):TS:=λD σ H=>te σ H λ_ H1=>D.nx σ H1
theorem Bm(he:PE X e te)(hs:QN e none pos.line X.env=pure false:=by rfl):PS X (.Expr e pos) (vR te):=by intro pins s σ H D I h;exact wpAny_Expr_any (aP (he pins s σ H _ I h) λv s1⟨x,H1,I1,r1,q1⟩=>⟨σ,H1,I1,q1⟩) I.quiet hs
def LN(te:TE):TS:=λD σ H=>te σ H D.rt
theorem Bn(he:PE X e te):PS X (.Return (some e) pos) (LN te):=by intro pins s σ H D I h;exact wpAny_Return_some (aP (he pins s σ H _ I h) λv s1⟨x,H1,I1,r1,q1⟩=>⟨x,σ,H1,I1,r1,q1⟩)
def LO(c:TT)(t u:TS):TS:=λD σ H=>c σ H λb H1=>if b=true then t D σ H1 else u D σ H1
theorem LP{a}(hc:PT X c tc)(ha:dF X a t)(hb:dF X b u):PS X (.If c a b pos) (LO tc t u):=by intro pins s σ H D I h;refine wpAny_If (aP (hc pins s σ H _ I h) λd s1 hh=>?_);obtain⟨H1,I1,q1⟩:=hh;cases d with|true=>exact ha pins s1 σ H1 D I1 q1|false=>exact hb pins s1 σ H1 D I1 q1
def LQ:TS:=λ_ _ _=>False
theorem LR:PS X st LQ:=λ_ _ _ _ _ _ h=>h.elim
end
abbrev TG:=V->St->Hp->(St->Hp->Prop)->Prop
abbrev lj:=List V->St->Hp->(St->Hp->Prop)->Prop
def PG(X:Cx)(target:Expr)(t:TG):Prop:=∀(pins:List (Addr×Obj))(s:W1)(σ:St)(H:Hp)(v:V)(u:Value)(Q:St->Hp->Prop),Inv X pins σ H s->RelV v u->t v σ H Q->W4 (model X.prog X.w) X.A (assign target X.env u) (λ_ s'=>∃σ' H',Inv X pins σ' H' s'/\Q σ' H') X.xe s
def gQ(X:Cx)(ts:List Expr)(t:lj):Prop:=∀(pins:List (Addr×Obj))(s:W1)(σ:St)(H:Hp)(vs:List V)(us:List Value)(Q:St->Hp->Prop),Inv X pins σ H s->Vals vs us->t vs σ H Q->W4 (model X.prog X.w) X.A (assignInOrder ((Qo ts X.env).map (·.2)) us) (λ_ s'=>∃σ' H',Inv X pins σ' H' s'/\Q σ' H') X.xe s
abbrev Bo:=V->V->V->Hp->(Hp->Prop)->Prop
def Bp(X:Cx)(t:Bo):Prop:=∀(pins:List (Addr×Obj))(s:W1)(σ:St)(H:Hp)(o i v:V)(ov iv u:Value)(Q:Hp->Prop),Inv X pins σ H s->RelV o ov->RelV i iv->RelV v u->t o i v H Q->W4 (model X.prog X.w) X.A (setItem ov iv u) (λ_ s'=>∃H',Inv X pins σ H' s'/\Q H') X.xe s
def sk(i:Nat):TG:=λv σ H Q=>Q (σ.set i (some v)) H
theorem Bq(hN:X.N.Nodup)(hi:X.N[i]?=some x)(hx:Loc X.env.scope x)(hf:X.fn x=true\/X.env.scope.names.lookup x=some .local:=by first|exact .inl rfl|exact .inr rfl|assumption):PG X (.Name x pos) (sk i):=by intro pins s σ H v u Q I r h;exact wpAny_assign_Name (vP I hN hi hx r (λs' I'=>⟨_,H,I',h⟩) hf)
def LS:lj:=λvs σ H Q=>vs=[]/\Q σ H
def LU(t:TG)(u:lj):lj:=λvs σ H Q=>∃v r,vs=v::r/\t v σ H λσ' H'=>u r σ' H' Q
theorem Br:gQ X [] LS:=by intro pins s σ H vs us Q I r h;obtain⟨e,h⟩:=h;subst e;cases r;exact assignInOrder_nil ⟨σ,H,I,h⟩
theorem Bs{u}(h1:PG X e t)(h2:gQ X es u)(hs:(Qo (e::es) X.env).map (·.2)=assign e X.env::(Qo es X.env).map (·.2):=by rfl):gQ X (e::es) (LU t u):=by intro pins s σ H vs us Q I r h;obtain⟨v,vr,e1,h⟩:=h;subst e1;cases r with|cons r rr=>rw[hs];refine assignInOrder_cons (aP (h1 pins s σ H _ _ _ I r h) λ_ s1 hh=>?_);obtain⟨σ1,H1,I1,q1⟩:=hh;exact h2 pins s1 σ1 H1 _ _ Q I1 rr q1
def LV(K:W2)(n:Nat)(t:lj):TG:=λv σ H Q=>∃a xs,v=.ref a/\df K H a xs/\xs.length=n/\t xs σ H Q
theorem Bt(hc:X.calm=true)(h:gQ X es t)(hn:(Qo es X.env).length=n:=by rfl)(cP:(Qo es X.env).findIdx? (·.1)=none:=by rfl):PG X (.Tuple es k pos) (LV X.K n t):=by intro pins s σ H v u Q I r hw;obtain⟨a,xs,e1,hq,hl,hw⟩:=hw;subst e1;cases r;obtain⟨its,rv,ht,hz⟩:=I.tuple hq;refine assign_Tuple_tuple (I.ok.hd hc) ht (by simp[hn,<-hl,rv.length]) cP λh' hx=>?_;have I1:Inv X pins σ H {s with heap:=h'}:=I.kept (t':=s.toks) λb o e=>hx b o (WA (Wi e)) e;exact h pins _ σ H xs _ Q I1 (~~~rv) hw
def LW(to ti:TE)(t:Bo):TG:=λv σ H Q=>to σ H λo H1=>ti σ H1 λi H2=>t o i v H2 λH3=>Q σ H3
theorem LX{i}(ho:PE X o to)(hi:PE X i ti)(hs:Bp X t)(ha:∀v,assign (.Subscript o i pos) X.env v=(do
 let ov<-holding [v] (eval o X.env)let iv<-holding [v,ov] (eval i X.env)standAt pos
 holding [v,ov,iv] (setItem ov iv v)release [v,ov,iv] []):=by intro _;rfl):PG X (.Subscript o i pos) (LW to ti t):=by intro pins s σ H v u Q I r h;rw[ha];refine W0 (WB (aP (ho pins s σ H _ I h) λov s1⟨x,H1,I1,r1,q1⟩=>?_));refine W0 (WB (aP (hi pins s1 σ H1 _ I1 q1) λiv s2⟨y,H2,I2,r2,q2⟩=>?_));refine W0 (wpAny_standAt (W0 (WB (aP (hs pins s2 σ H2 x y v ov iv u _ I2 r1 r2 r q2) λ_ s3⟨H3,I3,q3⟩=>?_))));exact wpAny_release ⟨σ,H3,I3,q3⟩
def sm(te:TE)(g:TG):TS:=λD σ H=>te σ H λx H1=>g x σ H1 D.nx
theorem Bu(he:PE X e te)(hg:PG X tg g)(hs:swapsWithSole [tg] e pos.line X.env=pure false:=by rfl)(hw:swappedStores [tg] e X.env=pure none:=by rfl)(h1:(Qo [tg] X.env).map (·.2)=[assign tg X.env]:=by rfl):PS X (.Assign [tg] e pos) (sm te g):=by intro pins s σ H D I h;refine wpAny_Assign_stores (aP (he pins s σ H _ I h) λv s1 hh=>?_) hs hw;obtain⟨x,H1,I1,r1,q1⟩:=hh;rw[h1];exact aP (hg pins s1 σ H1 x v _ I1 r1 q1) λ_ s2 q=>q
theorem LY(hN:X.N.Nodup)(hi:X.N[i]?=some x)(hx:Loc X.env.scope x)(he:PE X e te)(hs:QN e (some (.Name x pos')) pos.line X.env=pure false:=by rfl)(hf:X.fn x=true\/X.env.scope.names.lookup x=some .local:=by first|exact .inl rfl|exact .inr rfl|assumption):PS X (.Assign [.Name x pos'] e pos) (sm te (sk i)):=by intro pins s σ H D I h;refine wpAny_Assign_Name (aP (he pins s σ H _ I h) λv s1 hh=>?_) hs;obtain⟨y,H1,I1,r1,q1⟩:=hh;exact vP I1 hN hi hx r1 (λs2 I2=>⟨_,H1,I2,q1⟩) hf
def Bv(c:TT)(tb:TS):TS:=λD σ H=>∃W:Nat->St->Hp->Prop,(∃m,W m σ H)/\∀m σ H,W m σ H->c σ H λb H1=>if b=true then∃N:St->Hp->Prop,(∀σ' H',N σ' H'->∃m',m'<m/\W m' σ' H')/\tb {D with nx:=N,ct:=N,bk:=D.nx} σ H1 else D.nx σ H1
theorem LZ{tb}(hp:PassesOwn (model X.prog X.w) X.A X.env X.xe)(hc:PT X c tc)(hb:dF X body tb):PS X (.While c body [] pos) (Bv tc tb):=by intro pins s σ H D I h;obtain⟨W,⟨m0,w0⟩,turn⟩:=h;refine wpAny_While (codeAny_whileLoop (λn s'=>∃σ' H',Inv X pins σ' H' s'/\W n σ' H') ?_ m0 ⟨σ,H,I,w0⟩);rintro n s1⟨σ1,H1,I1,w1⟩;refine Jf hp (aP (hc pins s1 σ1 H1 _ I1 (turn n σ1 H1 w1)) λb s2 hh=>?_);obtain⟨H2,I2,q2⟩:=hh;cases b with
 |true=>obtain⟨N,hN,q2⟩:=q2;rw[if_pos rfl];refine Jf hp (aP (hb pins s2 σ1 H2 _ I2 q2) λf s3 q3=>?_);cases f with|next=>obtain⟨σ3,H3,I3,n3⟩:=q3;obtain⟨m',hm,w3⟩:=hN σ3 H3 n3;exact⟨m',hm,σ3,H3,I3,w3⟩|cont=>obtain⟨σ3,H3,I3,n3⟩:=q3;obtain⟨m',hm,w3⟩:=hN σ3 H3 n3;exact⟨m',hm,σ3,H3,I3,w3⟩|brk=>exact q3|ret v=>exact q3
 |false=>rw[if_neg WY];exact U4 ⟨σ1,H2,I2,q2⟩
structure It where
 go:Nat->Hp->Prop
 pJ:Nat->Hp->V->Hp->Prop
 stop:Nat->Hp->Prop
def fw(X:Cx)(pins:List (Addr×Obj))(H:Hp)(b:Addr):Prop:=H b=none/\b≠X.env.locals/\b∉X.fs/\(b∈X.ex\/X.s₀.heap.objs.size<=b)/\(∀x c,X.env.cells.lookup x=some c->c≠b)/\∀p∈X.pn++pins,p.1≠b
theorem Inv.jG(I:Inv X pins σ H s)(hb:s.heap.objs.size<=b)(hn:H' b=none):fw X pins H' b:=by
 refine⟨hn,Qp (Wy I.lt hb),I.Ln hb,.inr (WS I.sz hb),λx c e z=>?_,λp hp z=>?_⟩;.obtain⟨v,q⟩:=I.cell x c e;exact absurd (Wy q.lt %[z|hb]) (Q7 _)
 .exact absurd (Wy (Wi (I.pin p hp).1) %[z|hb]) (Q7 _)
structure Turn(P:Wg)(w:Wp)(K:W2)(tg:Expr)(J:It)(fp:List Addr)(it:Addr)(tn:Nat->Heap->Prop):Prop where
 mem:it∈fp
 obj:∀i h,tn i h->∀b∈fp,∃o,h.get? b=some o/\∀v,o.data≠.cell v
 keep:∀i h h',tn i h->(∀b∈fp,∀o,h.get? b=some o->h'.get? b=some o)->tn i h'
 item:∀(X:Cx),X.prog=P->X.w=w->X.K=K->X.calm=true->∀(i:Nat)(pins:List (Addr×Obj))(s:W1)(σ:St)(H:Hp)(E:Value->W1->Prop),Inv X pins σ H s->(∀b∈fp,fw X pins H b)->tn i s.heap->J.go i H->W4 (model P w) X.A (Jk (.ref it)) (λr s1=>∃u,r=some u/\W4 (model P w) X.A (JA tg (.ref it) u) (λ_ s2=>∃x H',Inv X pins σ H' s2/\RelV x u/\J.pJ i H x H'/\tn (i+1) s2.heap/\∀b∈fp,H' b=none) E s1) E s
 done:∀(X:Cx),X.prog=P->X.w=w->X.K=K->X.calm=true->∀(i:Nat)(pins:List (Addr×Obj))(s:W1)(σ:St)(H:Hp)(E:Value->W1->Prop),Inv X pins σ H s->(∀b∈fp,fw X pins H b)->tn i s.heap->J.stop i H->W4 (model P w) X.A (Jk (.ref it)) (λr s1=>r=none/\Inv X pins σ H s1) E s
 self:∀(A:Wh)(i:Nat)(s:W1)(Q:Value->W1->Prop)(E:Value->W1->Prop),tn i s.heap->Q (.ref it) s->W4 (model P w) A (pyIter (.ref it)) Q E s
abbrev TI:=St->Hp->(It->Hp->Prop)->Prop
def Bw(X:Cx)(pins:List (Addr×Obj))(σ:St)(tg:Expr)(R:It->Hp->Prop)(so:Value)(s2:W1):Prop:=∃(it:Addr)(fp:List Addr)(tn:Nat->Heap->Prop)(J:It)(H':Hp),so=.ref it/\Inv X pins σ H' s2/\Turn X.prog X.w X.K tg J fp it tn/\tn 0 s2.heap/\(∀b∈fp,fw X pins H' b)/\R J H'
def PI(X:Cx)(tg iter:Expr)(wi:TI):Prop:=∀(pins:List (Addr×Obj))(s:W1)(σ:St)(H:Hp)(R:It->Hp->Prop),Inv X pins σ H s->wi σ H R->W4 (model X.prog X.w) X.A (eval iter X.env) (λv s1=>W4 (model X.prog X.w) X.A (pyIter v) (Bw X pins σ tg R) X.xe s1) X.xe s
theorem sr{n Q vs}(ho:s.heap.get? it=some o)(hc:o.cls=.type n)(hd:o.data=.fields vs)(hn:["enumerate","zip","dict_itemiterator","dict_reverseitemiterator","odict_iterator","itertools.zip_longest","itertools.pairwise"].contains n=false)(hQ:Q () s):W4 M A (JA tg (.ref it) u) Q E s:=by unfold JA;cases tg<;>first|exact W5 hQ|(cases u<;>first|exact W5 hQ|(refine W0 (wpAny_load ho ?_);rw[hc,hd];show W4 M A (if(["enumerate","zip","dict_itemiterator","dict_reverseitemiterator","odict_iterator","itertools.zip_longest","itertools.pairwise"].contains n&&vs[0]?==some (WZ _))=true then _ else _) Q E s;rw[if_neg (by intro h;rw[hn,Bool.false_and]at h;cases h)];exact W5 hQ))
def vS(K:W2)(a:Addr):It:=⟨λi H=>∃xs x,cU K H a xs/\xs[i]?=some x,λi H x H'=>H'=H/\∀xs,cU K H a xs->xs[i]?=some x,λi H=>∃xs,cU K H a xs/\xs.length<=i⟩
def vU(K:W2)(a:Addr):It:=⟨λi H=>∃xs x,df K H a xs/\xs[i]?=some x,λi H x H'=>H'=H/\∀xs,df K H a xs->xs[i]?=some x,λi H=>∃xs,df K H a xs/\xs.length<=i⟩
def su(lo:Int)(n:Nat):It:=⟨λi _=>i<n,λi H x H'=>H'=H/\x=.int (lo+i),λi _=>n<=i⟩
theorem L5(a it:Addr):Turn P w K tg (vS K a) [it] it λi h=>h.IsListIter it a i where
 mem:=by simp
 obj:=λi h st b hb=>by have e:b=it:= ~~~hb;subst e;obtain⟨o,e,c,d⟩:=st;exact⟨o,e,λv z=>by rw[d]at z;cases z⟩
 keep:=λi h h' st k=>st.at λo e=>k it U' o e
 item:=by intro X hP hw hK hc i pins s σ H E I hf st hg;subst hP hw hK;obtain⟨xs,x,hq,hx⟩:=hg;obtain⟨its,rv,p,hz⟩:=I.list hq;obtain⟨u,hu,ru⟩:=rv.get hx;obtain⟨f0,f1,f2,f3,f4,f5⟩:=hf it U';refine wpAny_pyNext_list_item st p.isList (x:=u) (~~~hu) λh' cL sb=>?_;have I1:Inv X pins σ H {s with heap:=h'}:=I.turned (t':=s.toks) (λb o hb e=>(sb.2 b hb).trans e) f0 f1 f3 f4 f5;obtain⟨o,e,c,d⟩:=id cL;exact⟨u,rfl,sr (s:={s with heap:=h'}) e c d Z' ⟨x,H,I1,ru,⟨rfl,λys hy=>%[I.Bh hy hq|hx]⟩,cL,λb hb=>(hf b hb).1⟩⟩
 done:=by intro X hP hw hK hc i pins s σ H E I hf st hg;subst hP hw hK;obtain⟨xs,hq,hx⟩:=hg;obtain⟨its,rv,p,hz⟩:=I.list hq;obtain⟨f0,f1,f2,f3,f4,f5⟩:=hf it U';have hl:=rv.length;exact wpAny_pyNext_list_end (I.ok.hd hc) st p.isList V' λh' eb=>⟨rfl,I.turned (t':=s.toks) (λb o hb e=>eb b o hb e) f0 f1 f3 f4 f5⟩
 self:=λ_ _ _ _ _ st h=>wpAny_pyIter_listiter st h
theorem L6(a it:Addr):Turn P w K tg (vU K a) [it] it λi h=>h.IsTupleIter it a i where
 mem:=by simp
 obj:=λi h st b hb=>by have e:b=it:= ~~~hb;subst e;obtain⟨o,e,c,d⟩:=st;exact⟨o,e,λv z=>by rw[d]at z;cases z⟩
 keep:=λi h h' st k=>st.at λo e=>k it U' o e
 item:=by intro X hP hw hK hc i pins s σ H E I hf st hg;subst hP hw hK;obtain⟨xs,x,hq,hx⟩:=hg;obtain⟨its,rv,p,hz⟩:=I.tuple hq;obtain⟨u,hu,ru⟩:=rv.get hx;obtain⟨f0,f1,f2,f3,f4,f5⟩:=hf it U';refine wpAny_pyNext_tuple_item st (show s.heap.IsTuple a its.toArray from p) (x:=u) (~~~hu) λh' cL sb=>?_;have I1:Inv X pins σ H {s with heap:=h'}:=I.turned (t':=s.toks) (λb o hb e=>(sb.2 b hb).trans e) f0 f1 f3 f4 f5;obtain⟨o,e,c,d⟩:=id cL;exact⟨u,rfl,sr (s:={s with heap:=h'}) e c d Z' ⟨x,H,I1,ru,⟨rfl,λys hy=>%[I.Bi hy hq|hx]⟩,cL,λb hb=>(hf b hb).1⟩⟩
 done:=by intro X hP hw hK hc i pins s σ H E I hf st hg;subst hP hw hK;obtain⟨xs,hq,hx⟩:=hg;obtain⟨its,rv,p,hz⟩:=I.tuple hq;obtain⟨f0,f1,f2,f3,f4,f5⟩:=hf it U';have hl:=rv.length;exact wpAny_pyNext_tuple_end (I.ok.hd hc) st (show s.heap.IsTuple a its.toArray from p) V' λh' eb=>⟨rfl,I.turned (t':=s.toks) (λb o hb e=>eb b o hb e) f0 f1 f3 f4 f5⟩
 self:=λ_ _ _ _ _ st h=>wpAny_pyIter_tupleiter st h
theorem L7(it:Addr)(lo:Int)(n:Nat):Turn P w K tg (su lo n) [it] it λi h=>IsRangeIter h it (lo+(i:Nat)*1) ((n:Int)-(i:Nat)) 1where
 mem:=by simp
 obj:=λi h st b hb=>by have e:b=it:= ~~~hb;subst e;exact⟨_,st,λv z=>by have z':Data.fields _=Data.cell v:=z;cases z'⟩
 keep:=λi h h' st k=>k it U' _ st
 item:=by intro X hP hw hK hc i pins s σ H E I hf st hg;subst hP hw hK;obtain⟨f0,f1,f2,f3,f4,f5⟩:=hf it U';have W:=Walks.range (prog:=X.prog) (w:=X.w) (I.ok.hd hc) it lo 1 n;refine W.item i s _ _ hg st λv h' tk hv cL kk=>?_;obtain⟨t,rfl⟩:=hv;have I1:Inv X pins σ H {s with heap:=h',toks:=tk}:=I.turned (λb o hb e=>kk b o (~~~hb) e) f0 f1 f3 f4 f5;refine⟨_,rfl,sr (s:={s with heap:=h',toks:=tk}) (n:="range_iterator") cL rfl rfl Z' ⟨.int (lo+i),H,I1,⟨t,?_⟩,⟨rfl,rfl⟩,cL,λb hb=>(hf b hb).1⟩⟩;rw[Int.mul_one]
 done:=by intro X hP hw hK hc i pins s σ H E I hf st hg;subst hP hw hK;obtain⟨f0,f1,f2,f3,f4,f5⟩:=hf it U';exact wpAny_pyNext_range_end (I.ok.hd hc) st (by have:n<=i:=hg;lia) λh' eb=>⟨rfl,I.turned (t':=s.toks) (λb o hb e=>eb b o hb e) f0 f1 f3 f4 f5⟩
 self:=λ_ _ _ _ _ st h=>wpAny_pyIter_rangeiter st h
theorem L8{R:It->Hp->Prop}{lo hi:Int}{t u v:Tok}{tk:Nat}(I:Inv X pins σ H s)(h1:-2^62<=lo)(h2:lo<2^62)(h3:-2^62<=hi)(h4:hi<2^62)(q:R (su lo (hi-lo).toNat) H):W4 (model X.prog X.w) X.A (pyIter (.ref s.heap.objs.size)) (Bw X pins σ tg R) E {s with heap:=s.heap.push {cls:=.type "range",data:=.fields #[.int lo t,.int hi u,.int 1 v]},toks:=tk}:=by
 refine wpAny_pyIter_range (IsRange.new ..) (small_one h1 h2 h3 h4) ?_;have I1:Inv X pins σ H {s with heap:=s.heap.push {cls:=.type "range",data:=.fields #[.int lo t,.int hi u,.int 1 v]},toks:=tk}:=I.kept λb o e=>W6 _ e;refine⟨(s.heap.push {cls:=.type "range",data:=.fields #[.int lo t,.int hi u,.int 1 v]}).objs.size,[(s.heap.push {cls:=.type "range",data:=.fields #[.int lo t,.int hi u,.int 1 v]}).objs.size],_,_,H,rfl,I1.kept (t':=tk) λb o e=>W6 _ e,L7 _ lo (hi-lo).toNat,?_,λb hb=>?_,q⟩
 .have e1:lo+((0:Nat):Int)*1=lo:=by simp
  have e2:(((hi-lo).toNat:Nat):Int)-((0:Nat):Int)=Builtin.Range.rangeSize lo hi 1:=by rw[rangeSize_one];split<;>lia
  show IsRangeIter _ _ (lo+((0:Nat):Int)*1) ((((hi-lo).toNat:Nat):Int)-((0:Nat):Int)) 1;rw[e1,e2];exact Wj _ rfl
 .have e:b=(s.heap.push {cls:=.type "range",data:=.fields #[.int lo t,.int hi u,.int 1 v]}).objs.size:=by grind
  subst e;exact I1.jG (We _) (I1.az.fresh (We _))
def L9(ta:TA):TI:=λσ H R=>ta σ H λvs H1=>∃j:Int,vs=[.int j]/\-2^62<=j/\j<2^62/\R (su 0 j.toNat) H1
theorem L_{a:Expr}{ta:TA}{p pos:Pos}(hg:Gl X "range")(hm:X.mg "range"=none)(ha:PA X [a] ta)(hs:W7 [a] X.env=[(false,eval a X.env)]:=by rfl):PI X tg (.Call (.Name "range" p) [a] [] pos) (L9 ta):=by intro pins s σ H R I h;refine Call_ (ko I hg hm boot_range (Qa (aP (ha pos pins s σ H _ I h) λus s1 hh=>?_) hs rfl));obtain⟨vs,H1,I1,r1,q1⟩:=hh;obtain⟨j,e,q1,q2,q⟩:=q1;subst e;cases r1 with|cons r rr=>cases rr;obtain⟨t,rfl⟩:=r;exact call_range_1 (L8 I1 Y' Y' q1 q2 (~~~q))
def Ma(wi:TI)(g:TG)(tb:TS):TS:=λD σ H=>wi σ H λJ H1=>∃W:Nat->Nat->St->Hp->Prop,(∃m,W 0 m σ H1)/\∀i m σ H,W i m σ H->J.stop i H/\D.nx σ H\/J.go i H/\∃N:St->Hp->Prop,(∀σ' H',N σ' H'->∃m',m'<m/\W (i+1) m' σ' H')/\∀x H',J.pJ i H x H'->g x σ H' λσ2 H2=>tb {D with nx:=N,ct:=N,bk:=D.nx} σ2 H2
def pK(fp:List Addr)(h:Heap):List (Addr×Obj):=fp.filterMap λb=>(h.get? b).map λo=>(b,o)
theorem sv(hb:b∈fp)(e:h.get? b=some o):(b,o)∈pK fp h:=List.mem_filterMap.mpr ⟨b,hb,by rw[e];rfl⟩
theorem Mb(hp:p∈pK fp h):p.1∈fp/\h.get? p.1=some p.2:=by obtain⟨b,hb,e⟩:=List.mem_filterMap.mp hp;cases q:h.get? b<;>grind
theorem Inv.pinned(I:Inv X pins σ H s)(hf:∀b∈fp,fw X pins H b)(ho:∀b∈fp,∃o,s.heap.get? b=some o/\∀v,o.data≠.cell v):Inv X (pins++pK fp s.heap) σ H s:=I.Bb λp hp=>(QF.mp hp).elim (λz=>I.pin p (Q1 _ z)) λz=>by obtain⟨hb,e⟩:=Mb z;obtain⟨f0,f1,f2,_⟩:=hf p.1 hb;obtain⟨o,e',d⟩:=ho p.1 hb;rw[e]at e';cases e';exact⟨e,f0,f1,f2,d⟩
theorem Inv.sx(I:Inv X (pins++pl) σ H s):Inv X pins σ H s:=I.Bb λp hp=>I.pin p (Q1 _ (Jn _ hp))
theorem Mc{tb}(hp:PassesOwn (model X.prog X.w) X.A X.env X.xe)(hc:X.calm=true)(hi:PI X tg iter wi)(hg:PG X tg g)(hb:dF X body tb)(hs:∀x,Jl iter X.env x=pure x:=by intro _;rfl):PS X (.For tg iter body [] pos) (Ma wi g tb):=by
 intro pins s σ H D I h;refine wpAny_For (aP (hi pins s σ H _ I h) λv s1 h1=>aP h1 λso s2 h2=>?_) hs;obtain⟨it,fp,tn,J,H2,e,I2,T,st2,f2,W,⟨m0,w0⟩,turn⟩:=h2;subst e;have vV:∀{H':Hp},(∀b∈fp,H' b=none)->∀b∈fp,fw X pins H' b:=λhn b hb=>⟨hn b hb,(f2 b hb).2⟩;refine codeAny_forLoop_any (λn s'=>∃i σ' H',Inv X pins σ' H' s'/\tn i s'.heap/\(∀b∈fp,H' b=none)/\W i n σ' H') ?_ m0 ⟨0,σ,H2,I2,st2,λb hb=>(f2 b hb).1,w0⟩;rintro n s3⟨i,σ3,H3,I3,ll,fr3,w3⟩;rcases turn i n σ3 H3 w3 with⟨stop,qn⟩|⟨go,N,hN,step⟩;.refine Jf hp (aP (T.done X rfl rfl rfl hc i pins s3 σ3 H3 X.xe I3 (vV fr3) ll stop) λr s4 hh=>?_);obtain⟨hr,I4⟩:=hh;subst hr;exact U4 ⟨σ3,H3,I4,qn⟩
 .refine Jf hp (aP (T.item X rfl rfl rfl hc i pins s3 σ3 H3 X.xe I3 (vV fr3) ll go) λr s4 hh=>?_);obtain⟨u,hr,h4⟩:=hh;subst hr;refine Jf hp (aP h4 λ_ s5 hh=>?_);obtain⟨x,H5,I5,r5,y5,st5,fr5⟩:=hh;have Md:=I5.pinned (vV fr5) (T.obj _ _ st5);refine Jf hp (aP (hg _ s5 σ3 H5 x u _ Md r5 (step x H5 y5)) λ_ s6 hh=>?_);obtain⟨σ6,H6,I6,q6⟩:=hh;refine Jf hp (aP (hb _ s6 σ6 H6 _ I6 q6) λf s7 q7=>?_);have again:∀{σ7:St}{H7:Hp},Inv X (pins++pK fp s5.heap) σ7 H7 s7->N σ7 H7->∃m,m<n/\∃i σ' H',Inv X pins σ' H' s7/\tn i s7.heap/\(∀b∈fp,H' b=none)/\W i m σ' H':=λ{σ7 H7}I7 n7=>by obtain⟨m',hm,w7⟩:=hN σ7 H7 n7;refine⟨m',hm,i+1,σ7,H7,I7.sx,T.keep _ _ _ st5 λb hb o e=>(I7.pin (b,o) (Q1 _ (Q1 _ (sv hb e)))).1,λb hb=>?_,w7⟩;obtain⟨o,e,d⟩:=T.obj _ _ st5 b hb;exact(I7.pin (b,o) (Q1 _ (Q1 _ (sv hb e)))).2.1
  cases f with|next=>obtain⟨σ7,H7,I7,n7⟩:=q7;exact again I7 n7|cont=>obtain⟨σ7,H7,I7,n7⟩:=q7;exact again I7 n7|brk=>obtain⟨σ7,H7,I7,q7⟩:=q7;exact⟨σ7,H7,I7.sx,q7⟩|ret v=>obtain⟨x7,σ7,H7,I7,r7,q7⟩:=q7;exact⟨x7,σ7,H7,I7.sx,r7,q7⟩
abbrev R2:=V->V->Hp->VK->Prop
def bZ(X:Cx)(f:Value->Value->Sem Value)(r:R2):Prop:=∀(pins:List (Addr×Obj))(s:W1)(σ:St)(H:Hp)(x y:V)(v u:Value)(Q:VK),Inv X pins σ H s->RelV x v->RelV y u->r x y H Q->W4 (model X.prog X.w) X.A (f v u) (EP X pins σ Q) X.xe s
def fF(X:Cx)(f:Value)(r:List V->Hp->VK->Prop):Prop:=∀(pins:List (Addr×Obj))(s:W1)(σ:St)(H:Hp)(xs:List V)(us:List Value)(Q:VK),Inv X pins σ H s->Vals xs us->r xs H Q->W4 (model X.prog X.w) X.A (call f us) (EP X pins σ Q) X.xe s
def mr(r:R2)(ta tb:TE):TE:=λσ H Q=>ta σ H λx H1=>tb σ H1 λy H2=>r x y H2 Q
def Me(r:V->Hp->VK->Prop)(ta:TE):TE:=λσ H Q=>ta σ H λx H1=>r x H1 Q
def rI(C:Int->Int->Prop)(g:Int->Int->V):R2:=λx y H Q=>∃i j,x=.int i/\y=.int j/\C i j/\Q (g i j) H
def jc(g:Int->Int->V):R2:=λx y H Q=>∃i j,x=.int i/\y=.int j/\Q (g i j) H
section
variable{a b c:Expr}{tb tc:TE}
theorem vW(ha:PE X a ta)(hb:PE X b tb){R:V->V->Hp->Prop}(I:Inv X pins σ H s)(h:ta σ H λx H1=>tb σ H1 λy H2=>R x y H2){f:Value->Value->Sem Value}(hf:∀v u s2 x y H2,Inv X pins σ H2 s2->RelV x v->RelV y u->R x y H2->W4 (model X.prog X.w) X.A (f v u) Q X.xe s2):W4 (model X.prog X.w) X.A (eval a X.env) (λv s₁=>W4 (model X.prog X.w) X.A (eval b X.env) (λu s₂=>W4 (model X.prog X.w) X.A (f v u) Q X.xe s₂) X.xe s₁) X.xe s:=by refine aP (ha pins s σ H _ I h) λv s1⟨x,H1,I1,r1,q1⟩=>?_;refine aP (hb pins s1 σ H1 _ I1 q1) λu s2 hh=>?_;obtain⟨y,H2,I2,r2,q2⟩:=hh;exact hf v u s2 x y H2 I2 r1 r2 q2
theorem Bx{op:Operator}{r:R2}(ho:bZ X (Qv op) r)(ha:PE X a ta)(hb:PE X b tb):PE X (.BinOp a op b pos) (mr r ta tb):=by intro pins s σ H Q I h;exact wpAny_BinOp (vW ha hb I h λv u s2 x y H2 I2 rx ry q=>ho pins s2 σ H2 x y v u Q I2 rx ry q)
theorem sy{f:Value->Value->Sem Value}{C:Int->Int->Prop}{g:Int->Int->Int}(rule:∀(i j:Int)(t u:Tok)(s:W1)(Q:Value->W1->Prop)(E:Value->W1->Prop),C i j->Q (.int (g i j) s.toks) {s with toks:=s.toks+1}->W4 (model X.prog X.w) X.A (f (.int i t) (.int j u)) Q E s):bZ X f (rI C λi j=>.int (g i j)):=by intro pins s σ H x y v u Q I rx ry h;obtain⟨i,j,rfl,rfl,hc,q⟩:=h;obtain⟨t,rfl⟩:=rx;obtain⟨t',rfl⟩:=ry;exact rule i j t t' s _ _ hc ⟨.int (g i j),H,I.tok _,⟨_,rfl⟩,q⟩
theorem By{f:Value->Value->Sem Value}{g:Int->Int->Int}(rule:∀(i j:Int)(t u:Tok)(s:W1)(Q:Value->W1->Prop)(E:Value->W1->Prop),Q (.int (g i j) s.toks) {s with toks:=s.toks+1}->W4 (model X.prog X.w) X.A (f (.int i t) (.int j u)) Q E s):bZ X f (jc λi j=>.int (g i j)):=by intro pins s σ H x y v u Q I rx ry h;obtain⟨i,j,rfl,rfl,q⟩:=h;obtain⟨t,rfl⟩:=rx;obtain⟨t',rfl⟩:=ry;exact rule i j t t' s _ _ ⟨.int (g i j),H,I.tok _,⟨_,rfl⟩,q⟩
theorem pL{f:Value->Value->Sem Value}{g:Int->Int->Bool}(rule:∀(i j:Int)(t u:Tok)(s:W1)(Q:Value->W1->Prop)(E:Value->W1->Prop),Q (.bool (g i j)) s->W4 (model X.prog X.w) X.A (f (.int i t) (.int j u)) Q E s):bZ X f (jc λi j=>.bl (g i j)):=by intro pins s σ H x y v u Q I rx ry h;obtain⟨i,j,rfl,rfl,q⟩:=h;obtain⟨t,rfl⟩:=rx;obtain⟨t',rfl⟩:=ry;exact rule i j t t' s _ _ ⟨.bl (g i j),H,I,rfl,q⟩
def Bz(i j:Int):Prop:=0<j/\j<1073741824
def BA(i j:Int):Prop:=0<=j/\j<=1000000/\i.natAbs<2^64
def pM(i j:Int):Prop:=-2^64<i/\i<2^64\/-2^64<j/\j<2^64
theorem pM.ok{i j}(h:pM i j):IntMulOk i j:=by
 rcases h with⟨h1,h2⟩|⟨h1,h2⟩;.exact .of_left (intBits_le_64 h1 h2)
 .exact .of_right (intBits_le_64 h1 h2)
theorem Mf:bZ X (Qv .Add) (jc λi j=>.int (i+j)):=By λ_ _ _ _ _ _ _ q=>add_int q
theorem Mg:bZ X (Qv .Sub) (jc λi j=>.int (i-j)):=By λ_ _ _ _ _ _ _ q=>sub_int q
theorem Mh:bZ X (Qv .Mult) (rI pM λi j=>.int (i*j)):=sy λ_ _ _ _ _ _ _ hc q=>mul_int q hc.ok
theorem Mi:bZ X (Qv .FloorDiv) (rI Bz λi j=>.int (i/j)):=sy λi j _ _ _ _ _ hc q=>by have h1:(0:Int)<j:=hc.1;have h2:j<1073741824:=hc.2;exact floordiv_int Y' %[Int.fdiv_eq_ediv_of_nonneg i Y'|q] (.inl (PyProof.noPylong_small Y'))
theorem BC:bZ X (Qv .Mod) (rI (λ_ j=>0<j) λi j=>.int (i%j)):=sy λi j _ _ _ _ _ hc q=>by have h1:(0:Int)<j:=hc;exact mod_int' Y' %[Int.fmod_eq_emod_of_nonneg i Y'|q]
theorem Mj:bZ X (Qv .Pow) (rI BA λi j=>.int (i^j.toNat)):=sy λ_ _ _ _ _ _ _ hc q=>pow_int_small hc.1 hc.2.1 hc.2.2 q
theorem BD{Q}(I:Inv X pins σ H s)(q:Q (.bl k) H)(e:k=k'):EP X pins σ Q (.bool k') s:=by subst e;exact⟨.bl k,H,I,rfl,q⟩
theorem Mk:bZ X (WJ .Lt) (jc λi j=>.bl (decide (i<j))):=pL λ_ _ _ _ _ _ _ q=>lt_int q
theorem Ml:bZ X (WJ .Gt) (jc λi j=>.bl (decide (j<i))):=pL λ_ _ _ _ _ _ _ q=>gt_int q
theorem Mm:bZ X (WJ .GtE) (jc λi j=>.bl (decide (j<=i))):=pL λ_ _ _ _ _ _ _ q=>ge_int q
theorem Mn:bZ X (WJ .Lt) λx y H Q=>∃i j,x=.str i/\y=.str j/\Q (.bl (decide (i.cps.toList<j.cps.toList))) H:=by intro pins s σ H x y v u Q I rx ry h;obtain⟨i,j,rfl,rfl,q⟩:=h;obtain⟨t,rfl⟩:=rx;obtain⟨t',rfl⟩:=ry;exact lt_str (BD I q rfl)
theorem Mo:bZ X (WJ .NotIn) λx y H Q=>∃i j,x=.str i/\y=.str j/\Q (.bl !!(Builtin.Str.occurrences j i 0 j.length 1).isEmpty) H:=by intro pins s σ H x y v u Q I rx ry h;obtain⟨i,j,rfl,rfl,q⟩:=h;obtain⟨t,rfl⟩:=rx;obtain⟨t',rfl⟩:=ry;exact notIn_str (BD I q rfl)
theorem bZ.or{f}(h:bZ X f r)(h':bZ X f r'):bZ X f λx y H Q=>r x y H Q\/r' x y H Q:=by
 intro pins s σ H x y v u Q I rx ry q;rcases q with q|q;.exact h pins s σ H x y v u Q I rx ry q
 .exact h' pins s σ H x y v u Q I rx ry q
theorem fG(b:Expr)(h:op≠.In:=by decide)(h2:op≠.NotIn:=by decide):QK op b=false:=by
 have e1:(op==CmpOp.In)=false:=by cases op<;>first|rfl|exact absurd rfl h
 have e2:(op==CmpOp.NotIn)=false:=by cases op<;>first|rfl|exact absurd rfl h2
 cases b<;>simp[QK,e1,e2]
theorem Mp{r:R2}(ho:bZ X (WJ op) r)(ha:PE X a ta)(hb:PE X b tb)(hm:QK op b=false):PE X (.Compare a [op] [b] pos) (mr r ta tb):=by intro pins s σ H Q I h;exact wpAny_Compare1 (vW ha hb I h λv u s2 x y H2 I2 rx ry q=>ho pins s2 σ H2 x y v u Q I2 rx ry q) hm
def Mq(t:TE):TT:=λσ H Q=>t σ H λx H'=>∃k,x=.bl k/\Q k H'
theorem BF(ho:bZ X (WJ op) r)(ha:PE X a ta)(hb:PE X b tb)(hm:QK op b=false):PT X (.Compare a [op] [b] pos) (Mq (mr r ta tb)):=by intro pins s σ H Q I h;refine wpAny_isTrue_Compare1 (aP (ha pins s σ H _ I h) λv s1⟨x,H1,I1,r1,q1⟩=>aP (hb pins s1 σ H1 _ I1 q1) λu s2⟨y,H2,I2,r2,q2⟩=>aP (ho pins s2 σ H2 x y v u _ I2 r1 r2 q2) λc s3 hh=>?_) hm;obtain⟨z,H3,I3,r3,k,e,q3⟩:=hh;subst e;cases r3;exact QD ⟨H3,I3,q3⟩
theorem nG:(Wa:Nat)<2^63:=by rw[Qf];decide
theorem Mr:bZ X (Qv .Add) λx y H Q=>∃i j,x=.str i/\y=.str j/\i.length+j.length<=Wa/\Q (.str (i++j)) H:=by intro pins s σ H x y v u Q I rx ry h;obtain⟨i,j,rfl,rfl,hz,q⟩:=h;obtain⟨t,rfl⟩:=rx;obtain⟨t',rfl⟩:=ry;exact add_str (λt' tk=>⟨.str (i++j),H,I.tok _,⟨_,rfl⟩,q⟩) hz
theorem gS{x}(r:Vals [x] us):∃u,us=[u]/\RelV x u:=by cases r with|cons r1 r2=>cases r2;exact⟨_,rfl,r1⟩
theorem vX{x}(r:Vals [x,y] us):∃u w',us=[u,w']/\RelV x u/\RelV y w':=by cases r with|cons r1 r2=>cases r2 with|cons r3 r4=>cases r4;exact⟨_,_,rfl,r1,r3⟩
theorem Ms(hc:X.calm=true):fF X (.builtin "max") λxs H Q=>∃i j,xs=[.int i,.int j]/\Q (.int (if j>i then j else i)) H:=by
 intro pins s σ H xs us Q I r h;obtain⟨i,j,rfl,q⟩:=h;obtain⟨u,w',rfl,⟨t,rfl⟩,⟨t',rfl⟩⟩:=vX r;refine max_two_ints (I.ok.hd hc) λh' tk k=>⟨_,H,I.kept k,?_,q⟩;by_cases hj:j>i;.rw[if_pos hj,if_pos hj];exact⟨_,rfl⟩
 .rw[if_neg hj,if_neg hj];exact⟨_,rfl⟩
theorem Mt:fF X (.type "int") λxs H Q=>(∃i,xs=[.int i]/\Q (.int i) H)\/∃k,xs=[.bl k]/\Q (.int (if k then 1 else 0)) H:=by
 intro pins s σ H xs us Q I r h;rcases h with⟨i,rfl,q⟩|⟨k,rfl,q⟩;.obtain⟨u,rfl,t,rfl⟩:=gS r;exact call_int_int ⟨.int i,H,I,⟨_,rfl⟩,q⟩
 .obtain⟨u,rfl,r1⟩:=gS r;cases r1;exact call_int_bool ⟨.int (if k then 1 else 0),H,I.tok _,⟨_,rfl⟩,q⟩
end
structure vY(h:Heap)(x dx C:Addr)(mA:Str->Option Value):Prop where
 obj:h.get? x=some (PySem.W.instObj C dx)ns:h.Ns1 dx mA
 ne:dx≠x
theorem v3{h:Heap}{dx:Addr}(n:h.Ns1 dx mA):∃od,h.get? dx=some od/\∀name,PySem.W.lookIn name od=some (mA name):=by
 obtain⟨o,es,ep,ho,hd,hk,_,hm⟩:=n;refine⟨o,ho,λname=>?_⟩;have e:=hm name;unfold nsFind findBy at e;rw[<-Array.find?_toList]at e;unfold PySem.W.lookIn;rw[hd];dsimp only;split;.rename_i y q;rw[q]at e;exact congrArg some e
 .rename_i q;rw[q]at e;have a:es.toList.any (·.refKey)=false:=by rw[List.any_eq_false];intro y hy;obtain⟨z,t,hkey⟩:=hk y (Array.mem_toList_iff.mp hy);simp[DictEntry.refKey,hkey]
  grind
theorem vY.look{x dx}(I:vY h x dx C mA):∃od,PySem.W.InstAt h x (PySem.W.instObj C dx) C (some od)/\∀name,PySem.W.lookIn name od=some (mA name):=let⟨od,ho,hl⟩:=v3 I.ns
 ⟨od,⟨I.obj,rfl,rfl,ho⟩,hl⟩
theorem eF.some_of(r:eF (some v) o):∃u,o=some u/\RelV v u:=by cases o with|none=>exact(show False from r).elim|some u=>exact⟨u,rfl,r⟩
theorem eF.none_of(r:eF none o):o=none:=by cases o with|none=>rfl|some u=>exact(show False from r).elim
theorem Mu(r:RelV v u):PySem.W.handedIn u=true:=by cases v with|aJ=>cases show u=Value.none from r;rfl|bl b=>cases show u=Value.bool b from r;rfl|int i=>obtain⟨t,e⟩:=show∃t,u=Value.int i t from r;cases e;rfl|str x=>obtain⟨t,e⟩:=show∃t,u=Value.str x t from r;cases e;rfl|byt b=>obtain⟨t,e⟩:=show∃t,u=Value.bytes b t from r;cases e;rfl|flt b=>obtain⟨t,e⟩:=show∃t,u=Value.float b t from r;cases e;rfl|ref a=>cases show u=Value.ref a from r;rfl|ty n=>cases show u=Value.type n from r;rfl
section
variable{h:Heap}{dx:Addr}{fs:List (Str×V)}
theorem Mv(az:cK P w H h)(e:H a=some (.ins C dx fs)):∃mA,vY h a dx C mA/\(∀f,eF (fs.lookup f) (mA f))/\PySem.Within mA (fs.map (·.1))/\fs.length<=1000/\H dx=some (.own a):=by obtain⟨d,z,ne,ob,mA,n,r,q⟩:=show bE P w H h a (.ins C dx fs)from az a _ e;exact⟨mA,⟨ob,n,ne⟩,r,q,z,d⟩
end
structure v5(K:W2)(C:Addr):Prop where
 pg:PySem.W.plainGet K C Str.empty=true
 hd:JH K C=true
 po:PySem.W.plainOver K C=true
 sa:PySem.W.findIn K (.ref C) "__setattr__"=some (some (.builtin "object.__setattr__"))
theorem v5.get(c:v5 K C)(f:Str):PySem.W.plainGet K C f=true:=c.pg
section
variable{dx:Addr}{fs:List (Str×V)}{f:Str}
theorem Mw(hb:QL e f env (eval e env)=eval e env)(h:W4 (model prog w) A (eval e env) (λo s₁=>W4 (model prog w) A (getAttr o f true) Q E s₁) E s):W4 (model prog w) A (eval (.Attribute e f pos) env) Q E s:=Attribute_any_ h (by rw[arm_eval_Attribute,hb])
end
section
variable{c:Value}{b:Bool}
inductive iP(K:W2)(H:Hp):V->Value->Prop where|aJ:iP K H .aJ (.type "NoneType")|bl(x:Bool):iP K H (.bl x) (.type "bool")|int(i:Int):iP K H (.int i) (.type "int")|str(x:Str):iP K H (.str x) (.type "str")|flt(x:UInt64):iP K H (.flt x) (.type "float")|lst{a:Addr}{xs:List V}(e:H a=some (.lst xs)):iP K H (.ref a) (.type "list")|frz{a:Addr}{o:Obj}{xs:List V}(e:H a=some (.frz o (.lst xs))):iP K H (.ref a) (.type "list")|tup{a:Addr}{xs:List V}(e:H a=some (.tup xs)):iP K H (.ref a) (.type "tuple")|dK{a:Addr}{ar:List (Key×V)}(e:H a=some (.dK ar)):iP K H (.ref a) (.type "dict")|dT{a:Addr}{ar:List (List Key×V)}(e:H a=some (.dT ar)):iP K H (.ref a) (.type "dict")|ins{a C dx:Addr}{fs:List (Str×V)}(e:H a=some (.ins C dx fs))(cl:v5 K C)(ha:PySem.W.findIn K (.ref C) "__class__"=some (some (.builtin "object.__class__")))(hn:PySem.W.specialIn K (.builtin "object.__class__") "__get__"=some (some (.builtin "getset_descriptor.__get__")))(BG:PySem.W.takesIn K (.builtin "object.__class__")=some true)(hm:PySem.W.mroIn K C (.type "object")=some true):iP K H (.ref a) (.ref C)
theorem lp{x}(I:Inv X pins σ H s)(rx:RelV x u)(ty:iP X.K H x t)(e:QO X.K t c=some b)(h:∀tk,Q (.bool b) {s with toks:=tk}):W4 (model X.prog X.w) A (call (.builtin "isinstance") [u,c]) Q E s:=by cases ty with|aJ=>cases show u=Value.none from rx;exact Qc PySem.W.kitx_none I.cO True.intro e (by grind) h|bl y=>cases show u=Value.bool y from rx;exact Qc PySem.W.kitx_bool I.cO True.intro e (by grind) h|int i=>obtain⟨t,q⟩:=show∃t,u=Value.int i t from rx;cases q;exact Qc PySem.W.kitx_int I.cO True.intro e (by grind) h|str y=>obtain⟨t,q⟩:=show∃t,u=Value.str y t from rx;cases q;exact Qc PySem.W.kitx_str I.cO True.intro e (by grind) h|flt y=>obtain⟨t,q⟩:=show∃t,u=Value.float y t from rx;cases q;exact Qc PySem.W.kitx_float I.cO True.intro e (by grind) h|@lst a xs ea=>cases show u=Value.ref a from rx;obtain⟨_,_,n,_,h1⟩:=show bE X.prog X.w H s.heap a (.lst xs)from I.az a _ ea;exact Qc PySem.W.kitx_list I.cO ⟨_,h1,rfl⟩ e (by grind) h|@frz a ob xs ea=>cases show u=Value.ref a from rx;obtain⟨_,_,_,n,_,h1⟩:=show bE X.prog X.w H s.heap a (.frz ob (.lst xs))from I.az a _ ea;exact Qc PySem.W.kitx_list I.cO ⟨_,h1,rfl⟩ e (by grind) h|@tup a xs ea=>cases show u=Value.ref a from rx;obtain⟨_,_,_,p⟩:=show bE X.prog X.w H s.heap a (.tup xs)from I.az a _ ea;obtain⟨o,h1,h2,_⟩:=p.tup;exact Qc PySem.W.kitx_tuple I.cO ⟨o,h1,h2⟩ e (by grind) h|@dK a ar ea=>cases show u=Value.ref a from rx;obtain⟨_,_,vs,_,p⟩:=show bE X.prog X.w H s.heap a (.dK ar)from I.az a _ ea;obtain⟨o,es,ep,h1,h2,_⟩:=p;exact Qc PySem.W.kitx_dict I.cO ⟨o,h1,h2.1⟩ e (by grind) h|@dT a ar ea=>cases show u=Value.ref a from rx;obtain⟨_,_,xs,_,o,es,ep,h1,h2,_⟩:=show bE X.prog X.w H s.heap a (.dT ar)from I.az a _ ea;exact Qc PySem.W.kitx_dict I.cO ⟨o,h1,h2.1⟩ e (by grind) h|@ins a C dx fs ea cl ha hn BG hm=>cases show u=Value.ref a from rx;obtain⟨mA,O,_⟩:=Mv I.az ea;obtain⟨od,J,_⟩:=O.look;exact Qc (PySem.W.kitx_own (cl.get _) cl.hd ha hn BG hm) I.cO J e (by grind) h
end
structure b_(k:Nat)(A:Wh):Prop where
 hd:A.handled=none
 dp:A.depth+3*k+5<recursionLimit
 un:A.units+16*k+200<WD
theorem b_.mono(r:b_ k A)(h:j<=k):b_ j A:=⟨r.hd,by have:=r.dp;lia,by have:=r.un;lia⟩
theorem b_.deeper(r:b_ (k+1) A)(env:Env):b_ k (A.deeper env):=⟨r.hd,by have:=r.dp;show A.depth+1+3*k+5<_;lia,by have:=r.un;show A.units+3+16*k+200<_;lia⟩
theorem Mx:(A.under (.builtin "type.__call__" ⟨.ref C::us,kw⟩)).depth=A.depth+1:=by first|rfl|simp[Around.under,Code.weight,Code.isCreation,Code.isGuard,Code.isCaller,Code.frames,Code.isFrame,guardIds]
theorem My:(A.under (.builtin "type.__call__" ⟨.ref C::us,kw⟩)).units=A.units+1:=by first|rfl|simp[Around.under,Code.cUnits,Code.frames,Code.isFrame]
theorem b_.make(r:b_ (k+1) A)(C:Addr)(us:List Value)(kw:List (Str×Value)):b_ k (A.under (.builtin "type.__call__" ⟨.ref C::us,kw⟩)):=⟨r.hd,by have:=r.dp;rw[Mx];lia,by have:=r.un;rw[My];lia⟩
theorem b_.depth(r:b_ k A):A.depth<recursionLimit:=by have:=r.dp;lia
def BH:TA:=λ_ H Q=>Q [] H
def BI(ta:TE)(tr:TA):TA:=λσ H Q=>ta σ H λx H1=>tr σ H1 λxs H2=>Q (x::xs) H2
section
variable{t:TA}
theorem fH:PA X [] BH:=λ_ _ _ _ H Q I h=>Calls.spliced_nil ⟨[],H,I,.nil,h⟩
theorem dU(ha:PE X e te)(hr:PA X es t)(hs:W7 (e::es) X.env=(false,eval e X.env)::W7 es X.env:=by rfl):PA X (e::es) (BI te t):=by intro pos pins s σ H Q I h;rw[hs];show W4 _ _ (spliced ((false,eval e X.env)::WO pos (W7 es X.env))) _ _ s;refine Calls.spliced_cons (aP (ha pins s σ H _ I h) λu s1 hh=>?_);obtain⟨x,H1,I1,r1,q1⟩:=hh;exact aP (hr pos pins s1 σ H1 _ I1 q1) λus s2⟨xs,H2,I2,r2,q2⟩=>⟨x::xs,H2,I2,.cons r1 r2,q2⟩
def Mz(t:TA):TE:=λσ H Q=>t σ H λxs H1=>xs.length<=Wa/\∀p,H1 p=none->Q (.ref p) (upd H1 p (.tup xs))
def MA(t:TA):TE:=λσ H Q=>t σ H λxs H1=>xs.length<=Wa/\∀p,H1 p=none->Q (.ref p) (upd H1 p (.lst xs))
theorem MB{x1}(h:PA X es t):PE X (.Tuple es x1 pos) (Mz t):=by intro pins s σ H Q I hq;refine wpAny_Tuple_spliced (aP (h pos pins s σ H _ I hq) λus s1⟨xs,H1,I1,r,z,q⟩=>⟨by rw[<-r.length];exact z,?_⟩);have hf:H1 s1.heap.objs.size=none:=I1.az.fresh (We _);refine⟨.ref s1.heap.objs.size,upd H1 s1.heap.objs.size (.tup xs),I1.laid (t':=s1.toks) (λb u e=>W6 _ e) (We _) ?_,rfl,q _ hf⟩;exact⟨z,us,r,⟨_,Wj _ rfl⟩⟩
theorem MC(h:PA X es t):PE X (.List es pos) (MA t):=by intro pins s σ H Q I hq;refine wpAny_List_spliced (aP (h pos pins s σ H _ I hq) λus s1⟨xs,H1,I1,r,z,q⟩=>⟨by rw[<-r.length];exact z,?_⟩);have hf:H1 s1.heap.objs.size=none:=I1.az.fresh (We _);refine⟨.ref s1.heap.objs.size,upd H1 s1.heap.objs.size (.lst xs),I1.laid (t':=s1.toks) (λb u e=>W6 _ e) (We _) ?_,rfl,q _ hf⟩;exact⟨z,us,0,r,Wj _ rfl⟩
end
abbrev Sp:=List V->Hp->VK->XK->Prop
variable{sp:Sp}
abbrev jH:=List Env->Hp->W1->XK->Value->W1->Prop
variable{CX:jH}
structure jI(P:Wg)(w:Wp)(K:W2)(mg:Str->Option Value)(base:Heap)(A:Wh)(outer:List Env)(s:W1)(H:Hp):Prop where
 frames:A.frames=some outer
 mod:Mod K mg base
 bs:∀b o,base.get? b=some o->s.heap.get? b=some o/\H b=none
 gP:base.objs.size<=s.heap.objs.size
 fQ:s.heap.FunFrames base outer
 iM:∀b∈eS outer,H b=none
 az:cK P w H s.heap
 bare:AllBare s.gens
def CE(outer:List Env)(P:Wg)(w:Wp)(H:Hp)(s:W1)(Q:VK)(u:Value)(s':W1):Prop:=∃v H',s'.os=s.os/\AllBare s'.gens/\Un (eS outer) [] H H' s.heap s'.heap/\cK P w H' s'.heap/\RelV v u/\Q v H'
def CR(CX:jH)(outer:List Env)(P:Wg)(w:Wp)(H:Hp)(s:W1)(Q:VK)(E:XK)(r:Result)(s':W1):Prop:=match r with|.ok (.ret u)=>CE outer P w H s Q u s'|.ok _=>False|.error e=>CX outer H s E e s'
structure fz(P:Wg)(w:Wp)(K:W2)(mg:Str->Option Value)(base:Heap)(CX:jH)(k:Nat)(f:Addr)(fd:WH)(ps:List Str)(sp:Sp):Prop where
 len:∀vs H Q E,sp vs H Q E->vs.length=ps.length
 run:∀(A:Wh)(outer:List Env)(s:W1)(H:Hp)(args:Args)(us:List Value)(vs:List V)(Q:VK)(E:XK),b_ k A->jI P w K mg base A outer s H->BindsTo s fd args (ps.zip us)->Vals vs us->sp vs H Q E->QH (model P w) A (.call (.ref f) args) (CR CX outer P w H s Q E) s
theorem jI.make(e:jI P w K mg base A outer s H)(C:Addr)(us:List Value)(kw:List (Str×Value)):jI P w K mg base (A.under (.builtin "type.__call__" ⟨.ref C::us,kw⟩)) outer s H:=⟨by first|exact e.frames|(simpa[Around.under,Code.envs,Code.isFrame,pushEnvs]using e.frames),e.mod,e.bs,e.gP,e.fQ,e.iM,e.az,e.bare⟩
section
variable{s':W1}
theorem Inv.nH(I:Inv X pins σ H s):jI X.prog X.w X.K X.mg X.base X.A X.stack s H:=⟨I.ok.frames,I.ok.mod,I.bs,WS I.ok.gP I.sz,I.stack,I.sf,I.az,I.bare⟩
theorem Inv.after{Q}(I:Inv X pins σ H s)(h:CE X.stack X.prog X.w H s Q u s'):EP X pins σ Q u s':=by obtain⟨v,H',os,bare,un,az,r,q⟩:=h;obtain⟨hh,g,d,t,os'⟩:=s';obtain rfl:os'=s.os:=os;exact⟨v,H',I.call (h':=hh) (g':=g) (d':=d) (t':=t) (ch:=[]) un az bare λb z=>absurd z U',r,q⟩
end
def v7(sp:Sp)(lq:List V)(E:XK)(t:TA):TE:=λσ H Q=>t σ H λvs H1=>sp (vs++lq) H1 Q E
def Binds(K:W2)(fd:WH)(ps:List Str)(ds:List Value):Prop:=∀(s:W1)(us:List Value),K.In s.heap->(us++ds).length=ps.length->BindsTo s fd ⟨us,[]⟩ (ps.zip (us++ds))
theorem Binds.all(h:∀us:List Value,us.length=ps.length->bindArgs fd ⟨us,[]⟩=pure (ps.zip us)):Binds K fd ps []:=λs us _ hl=>by rw[WV]at hl⊢;exact .of_eq (h us hl)
def v8(CX:jH)(X:Cx)(E:XK):Prop:=∀(pins:List (Addr×Obj))(σ:St)(H:Hp)(s:W1)(e:Value)(s':W1),Inv X pins σ H s->CX X.stack H s E e s'->X.xe e s'
section
variable{k:Nat}{ds:List Value}{E:XK}{m:Str}{p:Pos}{o:Expr}{t:TA}
theorem MD{Q}(F:fz X.prog X.w X.K X.mg X.base CX k f fd ps sp)(hr:b_ k X.A)(hb:Binds X.K fd ps ds)(hd:Vals lq ds)(hx:v8 CX X E)(I:Inv X pins σ H s)(r:Vals vs us)(h:sp (vs++lq) H Q E):W4 (model X.prog X.w) X.A (call (.ref f) us) (EP X pins σ Q) X.xe s:=by
 have r2:Vals (vs++lq) (us++ds):=r.append hd;have hl:(us++ds).length=ps.length:=by rw[<-r2.length];exact F.len _ _ _ _ h
 refine Ud (Js (F.run X.A X.stack s H ⟨us,[]⟩ (us++ds) (vs++lq) Q E hr I.nH (hb s us I.cO hl) r2 h) λr s' hq=>?_);cases r with|error e=>exact hx pins σ H s e s' I hq|ok fl=>cases fl with|ret u=>exact I.after hq|next=>exact False.elim hq|brk=>exact False.elim hq|cont=>exact False.elim hq
theorem BJ(F:fz X.prog X.w X.K X.mg X.base CX k f fd ps sp)(hr:b_ k X.A)(hg:Gl X x)(hm:X.mg x=some (.ref f))(hk:Qq X.K (.ref f)=true)(hb:Binds X.K fd ps ds)(hd:Vals lq ds)(hx:v8 CX X E)(ha:PA X (e::es) t)(dm:(x==("__debug__":Str))=false:=by decide)(he:W7 (e::es) X.env=(false,eval e X.env)::W7 es X.env:=by rfl)(bu:(WO pos (W7 es X.env)).any (·.1)=false:=by rfl):PE X (.Call (.Name x p) (e::es) [] pos) (v7 sp lq E t):=by intro pins s σ H Q I h;refine Qw (kn I hg hm ?_ dm);refine U6 (h₀:=X.base) I.ok.mod.ki hk (aP (ha pos pins s σ H _ I h) λus s1⟨vs,H1,I1,r,q⟩=>⟨I1.cO,?_⟩) he bu;exact MD F hr hb hd hx I1 r q
end
def PK(X:Cx)(BK:List Keyword)(t:TA):Prop:=∀(pos:Pos)(pins:List (Addr×Obj))(s:W1)(σ:St)(H:Hp)(Q:List V->Hp->Prop),Inv X pins σ H s->t σ H Q->W4 (model X.prog X.w) X.A (evalAll ((backToKw pos (JG BK X.env)).map (·.2))) (AP X pins σ Q) X.xe s
structure eL(N P:List Str)(sc:Scope):Prop where
 kind:sc.kind=.function
 co:sc.isCoroutine=false
 gen:sc.isGenerator=false
 nd:N.Nodup
 pre:N.take P.length=P
 par:∀x∈P,sc.names.lookup x=some .local\/sc.names.lookup x=some .cell
 v9:∀y∈sc.names,y.2≠.free
theorem scc{N P:List Str}(kind:sc.kind=.function:=by rfl)(co:sc.isCoroutine=false:=by rfl)(gen:sc.isGenerator=false:=by rfl)(nd:N.Nodup:=by decide+kernel)(pre:N.take P.length=P:=by rfl)(par:∀x∈P,sc.names.lookup x=some .local\/sc.names.lookup x=some .cell:=by decide+kernel)(v9:∀y∈sc.names,y.2≠.free:=by decide+kernel):eL N P sc:=⟨kind,co,gen,nd,pre,par,v9⟩
theorem BM:∀{binds:List (Str×Value)}{m:Str->Option Value},(∀v,(x,v)∉binds)->bindL kindOf binds m x=m x|[],_,_=>rfl|(n,v)::r,m,h=>by unfold bindL;rw[BM λw hw=>h w (Wm _ hw)];split;all_goals grind
theorem BN:∀{binds:List (Str×Value)}{m:Str->Option Value},(∀v,(x,v)∉binds)->bindC kindOf binds m x=m x|[],_,_=>rfl|(n,v)::r,m,h=>by unfold bindC;rw[BN λw hw=>h w (Wm _ hw)];split;all_goals grind
theorem BO{kindOf:Str->Option NameKind}{x:Str}{v:Value}:∀{P:List Str}{vs:List Value}{i:Nat}{m:Str->Option Value},P.Nodup->P[i]?=some x->vs[i]?=some v->kindOf x=some .local->bindL kindOf (P.zip vs) m x=some v|[],_,_,_,_,h,_,_=>by simp at h|_::_,[],_,_,_,_,h,_=>by simp at h|p::P,w::vs,0,m,nd,h1,h2,hk=>by simp at h1 h2;subst h1;subst h2;show bindL kindOf ((p,w)::P.zip vs) m p=_;unfold bindL;rw[BM λv hv=>(Q2.mp nd).1 (QW hv).1,if_pos hk];simp|p::P,w::vs,i+1,m,nd,h1,h2,hk=>by show bindL kindOf ((p,w)::P.zip vs) m x=_;unfold bindL;exact BO (i:=i) (Q2.mp nd).2 (~~~h1) (~~~h2) hk
theorem BP{kindOf:Str->Option NameKind}{x:Str}{v:Value}:∀{P:List Str}{vs:List Value}{i:Nat}{m:Str->Option Value},P.Nodup->P[i]?=some x->vs[i]?=some v->kindOf x≠some .local->bindC kindOf (P.zip vs) m x=some v|[],_,_,_,_,h,_,_=>by simp at h|_::_,[],_,_,_,_,h,_=>by simp at h|p::P,w::vs,0,m,nd,h1,h2,hk=>by simp at h1 h2;subst h1;subst h2;show bindC kindOf ((p,w)::P.zip vs) m p=_;unfold bindC;rw[BN λv hv=>(Q2.mp nd).1 (QW hv).1,if_neg hk];simp|p::P,w::vs,i+1,m,nd,h1,h2,hk=>by show bindC kindOf ((p,w)::P.zip vs) m x=_;unfold bindC;exact BP (i:=i) (Q2.mp nd).2 (~~~h1) (~~~h2) hk
def start(N:List Str)(vs:List V):St:=vs.map some++Wc (N.length-vs.length) none
def dG(CX:jH)(P:Wg)(w:Wp)(K:W2)(mg:Str->Option Value)(base:Heap)(N:List Str)(qual:Str)(scope:Scope)(f:Addr)(cd:Value)(A:Wh)(outer:List Env)(s:W1)(H:Hp)(E:XK):Cx where
 prog:=P
 w:=w
 K:=K
 mg:=mg
 base:=base
 A:=A.deeper (QB qual scope s.heap.objs.size f cd)
 N:=N
 s₀:=s
 H₀:=H
 env:=QB qual scope s.heap.objs.size f cd
 outer:=outer
 stack:=QB qual scope s.heap.objs.size f cd::outer
 ex:=[]
 calm:=true
 fn:=λ_=>true
 pn:=[]
 xe:=λe s'=>W4 (model P w) (A.deeper (QB qual scope s.heap.objs.size f cd)) (leaving (QB qual scope s.heap.objs.size f cd) e) (λ_ mv=>CX outer H s E e mv) (λe' mv=>CX outer H s E e' mv) s'
theorem BQ(h:sc.names.lookup x=some .cell):∃c,(Qx n sc.names []).lookup x=some c:=by have q:=J9 sc.names n [] (.inl h);exact Qy.mp q
theorem v_{s1:W1}{E:XK}(S:eL N ps scope)(hd:A.handled=none)(e0:jI P w K mg base A outer s H)(hl:vs.length=ps.length)(r:Vals vs us)(x:InCallC s s.heap.objs.size (bindL (QB qual scope s.heap.objs.size f cd).kindOf (ps.zip us) λ_=>none) (Qx (s.heap.objs.size+1) scope.names []) (bindC (QB qual scope s.heap.objs.size f cd).kindOf (ps.zip us) λ_=>none) s1):Inv (dG CX P w K mg base N qual scope f cd A outer s H E) [] (start N vs) H s1:=by
 have bu:ps.length<=N.length:=by have:=congrArg JY S.pre;rw[JR]at this;lia
 obtain⟨h1,tk,rfl,hk⟩:=x.done;have kr:∀b:Addr,b∉(dG CX P w K mg base N qual scope f cd A outer s H E).ex:=λb z=>absurd (show b∈([]:List Addr)from z) U';refine⟨⟨e0.mod,S.kind,rfl,rfl,We _,λy z c h1 h2=>?_,λy hy=>?_,λy c _ h=>?_,λ_=>hd,Around.frames_deeper e0.frames,.inr ⟨rfl,rfl⟩,λb z=>absurd z (kr b),e0.bs,e0.gP,λb _ _=>kr b,λb z=>absurd z (kr b),e0.fQ,e0.iM⟩,rfl,e0.bare,Un.kept hk,⟨_,x.toInCall.ns,λi y v h1 h2 h3=>?_⟩,λy c h=>⟨_,x.cell y c h⟩,e0.az.fresh (We _),λy c h=>?_,λp hp=>absurd (show p∈([]:List (Addr×Obj))from hp) U',e0.az.kept hk,?_⟩;.exact name_of_addr x.apart (Wx h1) (Wx h2)
 .have hy:scope.names.lookup y=some .cell\/scope.names.lookup y=some .free:=hy;rcases hy with hy|hy;.exact BQ hy
  .exact absurd rfl (S.v9 _ (Wx hy))
 .exact QV (x.above y c (Wx h))
 .have hi:i<vs.length:=by
   unfold start at h2;by_cases hi:i<vs.length;.exact hi
   .rw[Jg (~~~hi)]at h2;rw[List.getElem?_replicate]at h2;split at h2<;>cases h2
  have ha:vs[i]?=some v:=by unfold start at h2;rw[Qi (~~~hi),Wu]at h2;cases e:vs[i]? with|none=>rw[e]at h2;cases h2|some a=>rw[e]at h2;cases h2;rfl
  obtain⟨u,hu,rv⟩:=r.get ha;have hp:ps[i]?=some y:=by rw[<-S.pre,List.getElem?_take_of_lt Y'];exact h1
  have BR:ps.Nodup:=by rw[<-S.pre];exact S.nd.sublist (List.take_sublist _ _)
  refine⟨u,rv,?_⟩;rcases S.par y (Wq hp)with k|k;.exact .inl ⟨k,BO BR hp hu k⟩
  .obtain⟨c,e⟩:=BQ (n:=s.heap.objs.size+1) k;refine .inr ⟨.inl k,c,e,?_⟩;have q:=x.cell y c e;rw[BP BR hp hu (by show scope.names.lookup y≠_;rw[k];decide)]at q;exact q
 .exact e0.az.fresh (QV (x.above y c (Wx h)))
 .unfold start;show _=N.length;rw[QP,Wv,List.length_replicate];lia
theorem wa{k:Nat}{dV kV:Value}(lk:K.lookup f=some ⟨oc,od,.func (WT name qual params body scope dV kV doc pm an aE ct),dH⟩)(dR:PySem.W.codeIn K aE qual=true)(S:eL N ps scope)(len:∀vs H Q E,sp vs H Q E->vs.length=ps.length)(cG:∀(A:Wh)(outer:List Env)(s:W1)(H:Hp)(vs:List V)(Q:VK)(E:XK),b_ k (A.deeper (QB qual scope s.heap.objs.size f aE))->sp vs H Q E->∃t,dF (dG CX P w K mg base N qual scope f aE A outer s H E) body t/\t {nx:=λ_ H'=>Q .aJ H',rt:=Q} (start N vs) H):fz P w K mg base CX (k+1) f (WT name qual params body scope dV kV doc pm an aE ct) ps sp:=by
 refine⟨len,λA outer s H args us vs Q E hr e0 hb r jJ=>?_⟩;have hl:=len _ _ _ _ jJ;have KX:K.In s.heap:=e0.mod.ki.keeps λb o e=>(e0.bs b o e).1;have lim:s.heap.NoLimit:=e0.mod.nolimit.keeps λb o e=>(e0.bs b o e).1;have pN:∀y∈ps.zip us,scope.names.lookup y.1=some .local\/scope.names.lookup y.1=some .cell/\((Qx (s.heap.objs.size+1) scope.names []).lookup y.1).isSome=true:=λ⟨n,v⟩hy=>by
  rcases S.par n (QW hy).1 with q|q;.exact .inl q
  .exact .inr ⟨q,J9 _ _ _ (.inl q)⟩
 refine JM hr.depth (KX _ _ lk) rfl S.co S.gen rfl (PySem.W.codeRec_of KX dR) (hb _ _ _ _ ?_);refine wpAny_newFunctionEnv_cells S.kind pN λenv he s1 x=>?_;subst he;refine⟨lim.keeps x.toInCall.keep,codeAny_func ?_⟩;obtain⟨t,ht,hq⟩:=cG A outer s H vs Q E (hr.deeper _) jJ;have I:Inv (dG CX P w K mg base N qual scope f aE A outer s H E) [] (start N vs) H s1:=v_ S hr.hd e0 hl r x;refine WR (ht [] s1 (start N vs) H _ I hq) (λfl s' hs=>?_) λe s' hs=>hs;have fin:∀{σ':St}{H':Hp}{v:V}{u:Value},Inv (dG CX P w K mg base N qual scope f aE A outer s H E) [] σ' H' s'->RelV v u->Q v H'->CE outer P w H s Q u s':=λ{σ' H' v u}J rv q=>⟨v,H',J.os,J.bare,J.base,J.az,rv,q⟩;cases fl with|ret u=>obtain⟨v,σ',H',J,rv,q⟩:=hs;exact fin J rv q|next=>obtain⟨σ',H',J,q⟩:=hs;exact fin (v:=V.aJ) (u:=Value.none) J rfl q|brk=>obtain⟨_,_,_,q⟩:=hs;exact False.elim q|cont=>obtain⟨_,_,_,q⟩:=hs;exact False.elim q
section
variable{p:Pos}{t:TA}{id T:String}{r:List V->Hp->VK->Prop}
def BS(r:List V->Hp->VK->Prop)(t:TA):TE:=λσ H Q=>t σ H λvs H1=>r vs H1 Q
theorem pP(hc:fF X (.builtin id) r)(hg:Gl X x)(hm:X.mg x=none)(hv:Qu x=some (.builtin id))(ha:PA X (e::es) t)(hn:x≠"__name__":=by decide)(dm:(x==("__debug__":Str))=false:=by decide)(he:W7 (e::es) X.env=(false,eval e X.env)::W7 es X.env:=by rfl)(bu:(WO pos (W7 es X.env)).any (·.1)=false:=by rfl):PE X (.Call (.Name x p) (e::es) [] pos) (BS r t):=by intro pins s σ H Q I h;refine Qw (ko I hg hm hv ?_ hn dm);exact PyProof.Rows.callWith_builtin1 (aP (ha pos pins s σ H _ I h) λus s1⟨vs,H1,I1,r1,q1⟩=>hc pins s1 σ H1 vs us Q I1 r1 q1) he bu
theorem ME(hc:fF X (.type T) r)(hg:Gl X x)(hm:X.mg x=none)(hv:Qu x=some (.type T))(ha:PA X (e::es) t)(hn:x≠"__name__":=by decide)(dm:(x==("__debug__":Str))=false:=by decide)(he:W7 (e::es) X.env=(false,eval e X.env)::W7 es X.env:=by rfl)(bu:(WO pos (W7 es X.env)).any (·.1)=false:=by rfl):PE X (.Call (.Name x p) (e::es) [] pos) (BS r t):=by intro pins s σ H Q I h;refine Qw (ko I hg hm hv ?_ hn dm);exact Qa (aP (ha pos pins s σ H _ I h) λus s1⟨vs,H1,I1,r1,q1⟩=>hc pins s1 σ H1 vs us Q I1 r1 q1) he bu
end
theorem MF{vs}(ht:IsTup s.heap t vs.toArray)(hb:IsTup s.heap b ws.toArray)(hv:vs≠[])(h1:ws=[]->Q (.ref t) s)(h2:ws≠[]->Q (.ref s.heap.objs.size) {s with heap:=s.heap.push {cls:=.type "tuple",data:=.seq (vs++ws).toArray}})(hsz:vs.length+ws.length<=Wa):W4 (model prog w) A (Qv .Add (.ref t) (.ref b)) Q E s:=by
 obtain⟨⟨cls,dd,data,sl⟩,ho,hc,n,hd⟩:=id ht;obtain⟨⟨cls2,dd2,data2,gu⟩,ho2,hc2,n2,hd2⟩:=id hb;simp only at hc hd hc2 hd2;subst hc hd hc2 hd2;have e:vs.toArray++ws.toArray=(vs++ws).toArray:=by simp
 by_cases hw:ws=[]
 .exact concat_meets ⟨_,ho,rfl⟩ ⟨_,ho2,rfl⟩ noFill_tuple_add seq_tuple_add PySem.F.slot_tuple_add PySem.F.entry_tuple_add (PySem.F.args_tuple_add_2 _ _) (tuple_addW1 t b vs.toArray ws.toArray n n2 dd dd2 sl gu (~~~hv) #v[hw]) ⟨ho,ho2,h1 hw⟩
 .refine concat_meets ⟨_,ho,rfl⟩ ⟨_,ho2,rfl⟩ noFill_tuple_add seq_tuple_add PySem.F.slot_tuple_add PySem.F.entry_tuple_add (PySem.F.args_tuple_add_2 _ _) (tuple_addW2 t b vs.toArray ws.toArray n n2 dd dd2 sl gu (~~~hv) (~~~hw) %[Wr,Wr|hsz]) ⟨ho,ho2,?_⟩;rw[e];exact h2 hw
def aU(n d:Nat):Option Int->Nat|none=>d|some v=>if v<0 then(v+(n:Int)).toNat else min v.toNat n
theorem wb(n d:Nat)(hd:d<=n)(o:Option Int):aU n d o<=n:=by cases o with|none=>exact hd|some v=>
 show(if v<0 then(v+(n:Int)).toNat else min v.toNat n)<=n;by_cases hv:v<0;.rw[if_pos hv];lia
 .rw[if_neg hv];exact Nat.min_le_right _ _
theorem BU(v:Int)(n d:Nat):(if v<0 then max (v+(n:Int)) 0 else min v (n:Int))=((aU n d (some v):Nat):Int):=by
 show(if v<0 then max (v+(n:Int)) 0 else min v (n:Int))=(((if v<0 then(v+(n:Int)).toNat else min v.toNat n):Nat):Int);by_cases hv:v<0;.simp only[if_pos hv];lia
 .simp only[if_neg hv];lia
theorem MG(lo hi:Option Int)(n:Nat):Builtin.Slice.sliceAdjust lo hi 1 (n:Int)=(((aU n 0 lo:Nat):Int),((aU n n hi:Nat):Int)):=by
 have h1:¬(1:Int)<0:=by lia
 unfold Builtin.Slice.sliceAdjust;simp only[h1,if_false];refine Prod.ext ?_ ?_;.cases lo with|none=>rfl|some v=>exact BU v n 0
 .cases hi with|none=>rfl|some v=>exact BU v n n
theorem MH(i j:Nat):Jo (i:Int) (j:Int) 1=j-i:=by
 unfold Jo;have h1:(1:Int)>0:=by lia
 simp only[h1,if_true,Int.ediv_one];split<;>lia
theorem BV{v Q}(p:IsPart v o)(h:Q o s):W4 (model prog w) A (Builtin.Slice.slicePartIndex v) Q E s:=by cases p with|none=>exact slicePart_none h|int i t=>exact slicePart_int h
theorem BW{sl:Addr}{Q:Int×Int×Nat->W1->Prop}(hs:s.heap.IsSliceOf sl vl vu .none)(pl:IsPart vl lo)(pu:IsPart vu hi)(h:Q (((aU n 0 lo:Nat):Int),1,aU n n hi-aU n 0 lo) s):W4 (model prog w) A (Builtin.Slice.sliceApplied (.ref sl) (pure (n:Int))) Q E s:=by obtain⟨os,hos,hcs,hds⟩:=id hs;unfold Builtin.Slice.sliceApplied Builtin.Slice.sliceFields;refine W0 (W0 (WF hos hds (x:=vl) rfl (W0 (WF hos hds (x:=vu) rfl (W0 (WF hos hds (x:=.none) rfl (W5 ?_)))))));refine W0 (slicePart_none ?_);show W4 _ _ (if((1:Int)==0)=true then _ else _) _ _ s;rw[if_neg Z'];refine W0 (BV pl (W0 (BV pu (W0 (W5 ?_)))));show W4 _ _ (match Builtin.Slice.sliceAdjust lo hi 1 (n:Int)with|(lo,hi)=>pure (lo,(1:Int),Jo lo hi 1)) _ _ s;rw[MG lo hi n];show W4 _ _ (pure (((aU n 0 lo:Nat):Int),(1:Int),Jo ((aU n 0 lo:Nat):Int) ((aU n n hi:Nat):Int) 1)) _ _ s;rw[MH];exact W5 h
theorem MI(xs:Array Value)(i k:Nat):((WM k).filterMap λ(m:Nat)=>xs[((i:Int)+(m:Int)*1).toNat]?).toArray=((xs.toList.drop i).take k).toArray:=by
 have e:(λ(m:Nat)=>xs[((i:Int)+(m:Int)*1).toNat]?)=λm=>xs[i+m]?:=by
  funext m;have:((i:Int)+(m:Int)*1).toNat=i+m:=by lia
  rw[this]
 rw[e];have:=pick_run xs i k;rw[List.filterMap_map]at this;have e2:((λx=>xs[x]?)∘λx=>i+x)=λm=>xs[i+m]?:=rfl;rw[e2]at this;rw[this]
theorem MJ{t sl:Addr}(ht:IsTup s.heap t items)(hs:s.heap.IsSliceOf sl vl vu .none)(pl:IsPart vl lo)(pu:IsPart vu hi)(hw:¬(aU items.size 0 lo=0/\aU items.size items.size hi=items.size))(h:Q (.ref s.heap.objs.size) {s with heap:=s.heap.push {cls:=.type "tuple",data:=.seq ((items.toList.drop (aU items.size 0 lo)).take (aU items.size items.size hi-aU items.size 0 lo)).toArray}})(hsz:items.size<=Wa):W4 (model prog w) A (Ue (.ref t) (.ref sl)) Q E s:=by
 have sA:sizeOk (.seq ((items.toList.drop (aU items.size 0 lo)).take (aU items.size items.size hi-aU items.size 0 lo)).toArray):=by show((items.toList.drop (aU items.size 0 lo)).take (aU items.size items.size hi-aU items.size 0 lo)).toArray.size<=Wa;rw[Wr,JR,List.length_drop,Jx];lia
 have hj:aU items.size items.size hi<=items.size:=wb _ _ (We _) hi;obtain⟨os,hos,hcs,hds⟩:=id hs;have wc:s.TypeIs (.ref sl) "slice":=⟨os,hos,hcs⟩;unfold Ue;try with_reducible refine WB ?_
 first|refine W0 (W5 ?_)|skip
 refine W0 (Uk ht.typeIs Z' ?_);refine W0 (Qb (name:=Str.ofString "__getitem__") ht.typeIs QU (Qg QU ht.typeIs entry_tuple_getitem ?_ (args_tuple_getitem _ _)));show W4 _ _ (Builtin.Tuple.tupleItemsOf (.ref t)>>=_) _ _ s;refine W0 (tupleItemsOf_ ht ?_);refine W0 (Jc wc ?_);rw[if_pos Z'];refine W0 (BW hs pl pu ?_);have ip:¬(((aU items.size 0 lo:Nat):Int)==0&&(1:Int)==1&&aU items.size items.size hi-aU items.size 0 lo==items.size)=true:=by intro q;rw[Wo,Wo]at q;have q1:((aU items.size 0 lo:Nat):Int)=0:=eq_of_beq q.1.1;have q2:aU items.size items.size hi-aU items.size 0 lo=items.size:=eq_of_beq q.2;exact hw ⟨Y',Y'⟩
 show W4 _ _ (if(((aU items.size 0 lo:Nat):Int)==0&&(1:Int)==1&&aU items.size items.size hi-aU items.size 0 lo==items.size)=true then _ else _) _ _ s;rw[if_neg ip,MI];first|exact W0 (m:=Jt _) (QE (W5 ⟨_,rfl,W5 h⟩) sA)|exact W0 (m:=Jt _) (QE (W0 (W5 (W5 ⟨_,rfl,W5 h⟩))) sA)|exact W0 (W0 (m:=Jt _) (QE (W5 (W5 ⟨_,rfl,W5 h⟩)) sA))|exact W0 (W0 (m:=Jt _) (QE (W5 ⟨_,rfl,W5 h⟩) sA))
abbrev TO:=St->Hp->(Option Int->Hp->Prop)->Prop
def PO(X:Cx)(e:Option Expr)(t:TO):Prop:=∀(pins:List (Addr×Obj))(s:W1)(σ:St)(H:Hp)(Q:Option Int->Hp->Prop),Inv X pins σ H s->t σ H Q->W4 (model X.prog X.w) X.A (evalPart e X.env) (λu s'=>∃o H',Inv X pins σ H' s'/\IsPart u o/\Q o H') X.xe s
def MK:TO:=λ_ H Q=>Q none H
def ML(t:TE):TO:=λσ H Q=>t σ H λx H1=>∃i,x=.int i/\Q (some i) H1
section
variable{lo hi:Option Expr}{tl th:TO}{p2:Pos}
theorem MM:PO X none MK:=by intro pins s σ H Q I h;rw[evalPart_none];exact W5 ⟨none,H,I,.none,h⟩
theorem MN(h:PE X e te):PO X (some e) (ML te):=by intro pins s σ H Q I hw;rw[evalPart_some];refine aP (h pins s σ H _ I hw) λu s1 hh=>?_;obtain⟨x,H1,I1,r1,q1⟩:=hh;obtain⟨i,rfl,q⟩:=q1;obtain⟨t,rfl⟩:=r1;exact⟨some i,H1,I1,.int i t,q⟩
def jK(X:Cx)(r:V->Option Int->Option Int->Hp->VK->Prop):Prop:=∀(pins:List (Addr×Obj))(s:W1)(σ:St)(H:Hp)(x:V)(v vl vu:Value)(lo hi:Option Int)(sl:Addr)(Q:VK),Inv X pins σ H s->RelV x v->s.heap.IsSliceOf sl vl vu .none->IsPart vl lo->IsPart vu hi->r x lo hi H Q->∃T id,JS (.type T) "__getitem__"=pure (some (.builtin id))/\s.TypeIs v T/\W4 (model X.prog X.w) X.A (Ue v (.ref sl)) (EP X pins σ Q) X.xe s
theorem jK.or(h:jK X r)(h':jK X r'):jK X λx lo hi H Q=>r x lo hi H Q\/r' x lo hi H Q:=by
 intro pins s σ H x v vl vu lo hi sl Q I rx hs pl pu q;rcases q with q|q;.exact h pins s σ H x v vl vu lo hi sl Q I rx hs pl pu q
 .exact h' pins s σ H x v vl vu lo hi sl Q I rx hs pl pu q
def MO(r:V->Option Int->Option Int->Hp->VK->Prop)(te:TE)(tl th:TO):TE:=λσ H Q=>te σ H λx H1=>tl σ H1 λl H2=>th σ H2 λu H3=>r x l u H3 Q
theorem BX(hr:jK X r)(he:PE X e te)(hl:PO X lo tl)(hu:PO X hi th):PE X (.Subscript e (.Slice lo hi none p2) pos) (MO r te tl th):=by intro pins s σ H Q I h;refine Subscript_ (aP (he pins s σ H _ I h) λv s1 hh=>?_);obtain⟨x,H1,I1,r1,q1⟩:=hh;refine wpAny_Slice (aP (hl pins s1 σ H1 _ I1 q1) λvl s2⟨l,H2,I2,pl,q2⟩=>aP (hu pins s2 σ H2 _ I2 q2) λvu s3 hh=>?_);obtain⟨u,H3,I3,pu,q3⟩:=hh;rw[evalPart_none];refine W5 ?_;have I4:Inv X pins σ H3 {s3 with heap:=s3.heap.push {cls:=.type "slice",data:=.fields #[vl,vu,.none]}}:=I3.kept (t':=s3.toks) λb ob q=>W6 _ q;obtain⟨T,id,hT,ht,hg⟩:=hr pins {s3 with heap:=s3.heap.push {cls:=.type "slice",data:=.fields #[vl,vu,.none]}} σ H3 x v vl vu l u s3.heap.objs.size Q I4 r1 (Heap.IsSliceOf.new ..) pl pu q3;show W4 (model X.prog X.w) X.A (subscriptTail e (.Slice lo hi none p2) v (.ref s3.heap.objs.size)) (EP X pins σ Q) X.xe {s3 with heap:=s3.heap.push {cls:=.type "slice",data:=.fields #[vl,vu,.none]}};exact tail_any (ops:=[.ref s3.heap.objs.size,v]) ht hT hg (by with_unfolding_all rfl)
def lr(xs:List V)(lo hi:Option Int):List V:=(xs.drop (aU xs.length 0 lo)).take (aU xs.length xs.length hi-aU xs.length 0 lo)
theorem BY(xs:List V)(lo hi:Option Int):(lr xs lo hi).length<=xs.length:=by unfold lr;rw[JR,List.length_drop];lia
def MP(K:W2):V->Option Int->Option Int->Hp->VK->Prop:=λx lo hi H Q=>∃a xs,x=.ref a/\df K H a xs/\¬(aU xs.length 0 lo=0/\aU xs.length xs.length hi=xs.length)/\∀p,H p=none->Q (.ref p) (upd H p (.tup (lr xs lo hi)))
theorem pQ:jK X (MP X.K):=by intro pins s σ H x v vl vu lo hi sl Q I rx hs pl pu h;obtain⟨a,xs,rfl,hx,hw,q⟩:=h;cases rx;obtain⟨its,r,ht,hz⟩:=I.tuple hx;have hlen:its.toArray.size=xs.length:=%[Wr|r.length.symm];refine⟨"tuple",_,PyProof.Rows.slot_tuple_getitem.lookup,ht.typeIs,?_⟩;refine MJ ht hs pl pu %[hlen|hw] ?_ %[hlen|hz];rw[hlen];refine⟨.ref s.heap.objs.size,_,I.laid (t':=s.toks) (o:=.tup (lr xs lo hi)) (λb ob q=>W6 _ q) (We _) ?_,rfl,q _ (I.az.fresh (We _))⟩;exact⟨WS (BY xs lo hi) hz,_,(r.drop (aU xs.length 0 lo)).take (aU xs.length xs.length hi-aU xs.length 0 lo),iK.new _ _⟩
def BZ(K:W2):R2:=λx y H Q=>∃a b xs ys,x=.ref a/\y=.ref b/\df K H a xs/\df K H b ys/\xs≠[]/\xs.length+ys.length<=Wa/\(ys=[]->Q (.ref a) H)/\(ys≠[]->∀p,H p=none->Q (.ref p) (upd H p (.tup (xs++ys))))
theorem Vals.sC{xs}(r:Vals xs us):us=[]↔xs=[]:=by cases r with|nil=>simp|cons _ _=>simp
theorem MQ:bZ X (Qv .Add) (BZ X.K):=by intro pins s σ H x y v u Q I rx ry h;obtain⟨a,b,xs,ys,rfl,rfl,ha,hb,hx,hz,q1,q2⟩:=h;cases rx;cases ry;obtain⟨its,r1,p1,_⟩:=I.tuple ha;obtain⟨its2,r2,p2,_⟩:=I.tuple hb;refine MF p1 p2 (λz=>hx (r1.sC.mp z)) (λz=>⟨.ref a,H,I,rfl,q1 (r2.sC.mp z)⟩) (λz=>?_) (by rw[<-r1.length,<-r2.length];exact hz);refine⟨.ref s.heap.objs.size,_,I.laid (t':=s.toks) (o:=.tup (xs++ys)) (λb ob q=>W6 _ q) (We _) ?_,rfl,q2 (λw=>z (r2.sC.mpr w)) _ (I.az.fresh (We _))⟩;exact⟨%[QP|hz],_,r1.append r2,iK.new _ _⟩
end
def fI(n:Nat)(i:Int):Option Nat:=if 0<=i then if i<n then some i.toNat else none else if-(n:Int)<=i then some (i+n).toNat else none
def di{α:Type}(xs:List α)(i:Int):Option α:=(fI xs.length i).bind λj=>xs[j]?
theorem B0{i}(h:fI n i=some j):seqIndex? i n=some j/\j<n/\-(n:Int)<=i/\i<n:=by
 unfold fI at h;by_cases h0:0<=i
 .rw[if_pos h0]at h;by_cases h1:i<n;.rw[if_pos h1]at h;have e:i.toNat=j:=WG h;exact⟨by rw[seqIndex_of h0 h1,e],Y',Y',h1⟩
  .rw[if_neg h1]at h;cases h
 .rw[if_neg h0]at h;by_cases h1:-(n:Int)<=i;.rw[if_pos h1]at h;have e:(i+n).toNat=j:=WG h;exact⟨by rw[seqIndex_neg Y' h1,e],Y',h1,Y'⟩
  .rw[if_neg h1]at h;cases h
theorem wd{α:Type}{xs:List α}{i v}(h:di xs i=some v):∃j,seqIndex? i xs.length=some j/\xs[j]?=some v/\j<xs.length/\-(xs.length:Int)<=i/\i<xs.length:=by unfold di at h;cases e:fI xs.length i with|none=>rw[e]at h;cases h|some j=>rw[e]at h;obtain⟨h1,h2,h3,h4⟩:=B0 e;exact⟨j,h1,h,h2,h3,h4⟩
def we(b:Expr):Prop:=∀o i,subscripted b false o i=operate [o,i] (Ue o i)
def gU(X:Cx)(r:R2):Prop:=∀(value slice:Expr)(pins:List (Addr×Obj))(s:W1)(σ:St)(H:Hp)(x y:V)(v u:Value)(Q:VK),Inv X pins σ H s->RelV x v->RelV y u->r x y H Q->subscripted slice false v u=operate [v,u] (Ue v u)->W4 (model X.prog X.w) X.A (subscriptTail value slice v u) (EP X pins σ Q) X.xe s
def nJ(X:Cx)(id:String)(r:V->List V->Hp->VK->Prop):Prop:=∀(pins:List (Addr×Obj))(s:W1)(σ:St)(H:Hp)(x:V)(xs:List V)(v:Value)(us:List Value)(Q:VK),Inv X pins σ H s->RelV x v->Vals xs us->r x xs H Q->W4 (model X.prog X.w) X.A (call (.builtin id) (v::us)) (EP X pins σ Q) X.xe s
section
variable{a b:Expr}{tb:TE}
theorem gU.or(h:gU X r)(h':gU X r'):gU X λx y H Q=>r x y H Q\/r' x y H Q:=by
 intro value slice pins s σ H x y v u Q I rx ry q hs;rcases q with q|q;.exact h value slice pins s σ H x y v u Q I rx ry q hs
 .exact h' value slice pins s σ H x y v u Q I rx ry q hs
theorem B1(hr:gU X r)(ha:PE X a ta)(hb:PE X b tb)(hs:we b):PE X (.Subscript a b pos) (mr r ta tb):=by intro pins s σ H Q I h;exact Subscript_ (vW ha hb I h λv u s2 x y H2 I2 rx ry q=>hr a b pins s2 σ H2 x y v u Q I2 rx ry q (hs _ _))
def B2(K:W2):R2:=λx y H Q=>∃p xs i v,x=.ref p/\y=.int i/\cU K H p xs/\di xs i=some v/\Q v H
def B3(K:W2):R2:=λx y H Q=>∃p xs i v,x=.ref p/\y=.int i/\df K H p xs/\di xs i=some v/\Q v H
def B4:R2:=λx y H Q=>∃z i c,x=.str z/\y=.int i/\z.length<=Wa/\di z.cps.toList i=some c/\Q (.str ⟨#[c]⟩) H
theorem MR:gU X (B2 X.K):=by
 intro value slice pins s σ H x y v u Q I rx ry h hs;obtain⟨p,xs,i,z,rfl,rfl,hq,he,q⟩:=h;cases rx;obtain⟨t,rfl⟩:=ry;obtain⟨its,r,pl,hz⟩:=I.list hq;obtain⟨j,h1,h2,h3,h4,h5⟩:=wd he;obtain⟨w,ew,cp⟩:=r.get h2;have hl:=r.length;have hn:=nG;have fin:EP X pins σ Q w s:=⟨z,H,I,cp,q⟩;by_cases h0:0<=i
 .have hj:i.toNat=j:=by rw[seqIndex_of h0 h5]at h1;exact WG h1
  exact item_listR pl.isList h0 Y' (by rw[hj];simpa using ew) fin hs
 .have hj:(i+(its.toArray.size:Int)).toNat=j:=by rw[seqIndex_neg Y' h4]at h1;rw[Wr,<-hl];exact WG h1
  exact subscriptTail_builtinR (x:=w) pl.isList.typeIs slot_list_getitem.lookup (wpAny_getItem_list_neg (Q:=λr s'=>r=w/\EP X pins σ Q r s') pl.isList Y' (by rw[Wr]<;>lia) Y' (by rw[hj];simpa using ew) ⟨rfl,fin⟩) hs
theorem MS:gU X (B3 X.K):=by intro value slice pins s σ H x y v u Q I rx ry h hs;obtain⟨p,xs,i,z,rfl,rfl,hq,he,q⟩:=h;cases rx;obtain⟨t,rfl⟩:=ry;obtain⟨its,r,pl,hz⟩:=I.tuple hq;obtain⟨j,h1,h2,h3,h4,h5⟩:=wd he;obtain⟨w,ew,cp⟩:=r.get h2;have hl:=r.length;have hn:=nG;have fin:EP X pins σ Q w s:=⟨z,H,I,cp,q⟩;exact subscriptTail_builtinR (x:=w) pl.typeIs slot_tuple_getitem.lookup (getItem_tuple (j:=j) (Q:=λr s'=>r=w/\EP X pins σ Q r s') pl Y' Y' (by rw[Wr,<-hl];exact h1) (~~~ew) ⟨rfl,fin⟩) hs
theorem MT:gU X B4:=by intro value slice pins s σ H x y v u Q I rx ry h hs;obtain⟨z,i,c,rfl,rfl,hz,he,q⟩:=h;obtain⟨t,rfl⟩:=rx;obtain⟨t',rfl⟩:=ry;obtain⟨j,h1,h2,h3,h4,h5⟩:=wd he;have hl:z.cps.toList.length=z.length:=#v[Str.length];rw[hl]at h1 h4 h5;have hn:=nG;exact tail_any (typeIs_str s z t) slot_str_getitem.lookup (getItem_str (c:=c) (by have e1:decide (i< -(2^63:Int))=false:=decide_eq_false Y';have e2:decide (i≥2^63)=false:=decide_eq_false Y';rw[e1,e2,Bool.or_false]) (by rw[h1];simpa using h2) ⟨.str ⟨#[c]⟩,H,I.tok _,⟨_,rfl⟩,q⟩) hs
def sE(K:W2):R2:=λx y H Q=>B2 K x y H Q\/B3 K x y H Q\/B4 x y H Q
theorem wg:gU X (sE X.K):=MR.or (MS.or MT)
theorem MU(its:List Value)(n j:Nat)(u:Value):Obj.mapSeq (·.setIfInBounds j u) {cls:=.type "list",data:=.seq its.toArray n}={cls:=.type "list",data:=.seq (its.set j u).toArray n}:=by simp[Obj.mapSeq]
theorem Inv.lst{X pins σ H s p xs}(I:Inv X pins σ H s)(h:H p=some (.lst xs)):∃(its:List Value)(n:Nat),Vals xs its/\s.heap.get? p=some {cls:=.type "list",data:=.seq its.toArray n}/\xs.length<=Wa:=by obtain⟨z,its,n,r,e⟩:=I.az p _ h;exact⟨its,n,r,e,z⟩
theorem Inv.MV{p:Addr}{xs ys:List V}{its its':List Value}{n n':Nat}{f:Obj->Obj}(I:Inv X pins σ H s)(h:H p=some (.lst xs))(ho:s.heap.get? p=some {cls:=.type "list",data:=.seq its.toArray n})(hf:f {cls:=.type "list",data:=.seq its.toArray n}={cls:=.type "list",data:=.seq its'.toArray n'})(r:Vals ys its')(hz:ys.length<=Wa)(t:Nat):Inv X pins σ (upd H p (.lst ys)) {s with heap:=s.heap.update p f,toks:=t}:=by
 have e:(s.heap.update p f).get? p=some {cls:=.type "list",data:=.seq its'.toArray n'}:=by rw[Q3 f ho (by rw[hf]<;>rfl),hf]
 refine I.write (x:=p) (e:=p) (by rw[h];trivial) (.inl rfl) (λb u hb q=>(WN _ _ (Ne.symm hb)).trans q) ⟨_,e⟩ ?_;exact⟨hz,its',n',r,e⟩
def MW:V->V->V->Hp->(Hp->Prop)->Prop:=λo i v H Q=>∃p xs k j,o=.ref p/\i=.int k/\H p=some (.lst xs)/\fI xs.length k=some j/\Q (upd H p (.lst (xs.set j v)))
theorem MX:Bp X MW:=by
 intro pins s σ H o i v ov iv u Q I ro ri rv h;obtain⟨p,xs,k,j,rfl,rfl,hp,hj,q⟩:=h;cases ro;obtain⟨t,rfl⟩:=ri;obtain⟨its,n,r,ho,hz⟩:=I.lst hp;obtain⟨h1,h2,h3,h4⟩:=B0 hj;have hl:=r.length;have hn:=nG;have I':Inv X pins σ (upd H p (.lst (xs.set j v))) {s with heap:=s.heap.update p (Obj.mapSeq (·.setIfInBounds j u))}:=I.MV hp ho (MU its n j u) (r.set rv j) %[Qs|hz] s.toks;by_cases h0:0<=k
 .have hk:k.toNat=j:=by rw[seqIndex_of h0 h4]at h1;exact WG h1
  exact PySem.W.ki_setAt ho h0 Y' (by rw[Wr,<-hl];exact h4) (by rw[hk];exact⟨_,I',q⟩)
 .have hk:(k+(its.toArray.size:Int)).toNat=j:=by rw[seqIndex_neg Y' h3]at h1;rw[Wr,<-hl];exact WG h1
  exact PySem.W.ki_setBack ho Y' (by rw[Wr,<-hl];exact h3) Y' (by rw[hk];exact⟨_,I',q⟩)
theorem MY(lo hi:Option Int)(n:Nat):(JZ lo hi none n).1=((aU n 0 lo:Nat):Int)/\(JZ lo hi none n).2.1=((aU n n hi:Nat):Int)/\(JZ lo hi none n).2.2=1:=by
 refine⟨?_,?_,rfl⟩;.cases lo with|none=>simp[JZ,aU]|some i=>
   simp only[JZ,aU,Option.getD_none,show(1:Int)>0 by decide,if_true];by_cases h:i<0;.simp only[h,if_true]<;>lia
   .simp only[h,if_false]<;>lia
 .cases hi with|none=>simp[JZ,aU]|some i=>
 simp only[JZ,aU,Option.getD_none,show(1:Int)>0 by decide,if_true];by_cases h:i<0;.simp only[h,if_true]<;>lia
 .simp only[h,if_false]<;>lia
theorem MZ(its:List Value)(lo hi:Option Int):slicePick its.toArray lo hi none=((its.drop (aU its.length 0 lo)).take (aU its.length its.length hi-aU its.length 0 lo)).toArray:=by obtain⟨h1,h2,h3⟩:=MY lo hi its.toArray.size;unfold slicePick;rw[h1,h2,h3];simp only[sliceRange_one,pick_run,Wr]<;>rfl
def B5(K:W2):V->Option Int->Option Int->Hp->VK->Prop:=λx lo hi H Q=>∃a xs,x=.ref a/\cU K H a xs/\∀p,H p=none->Q (.ref p) (upd H p (.lst (lr xs lo hi)))
theorem M0:jK X (B5 X.K):=by intro pins s σ H x v vl vu lo hi sl Q I rx hs pl pu h;obtain⟨a,xs,rfl,hx,q⟩:=h;cases rx;obtain⟨its,r,ht,hz⟩:=I.list hx;have hlen:=r.length;refine⟨"list",_,slot_list_getitem.lookup,ht.isList.typeIs,?_⟩;refine wpAny_getItem_list_slice ht.isList hs pl pu .none U' ?_ (by rw[Wr]<;>lia);rw[MZ,<-hlen];refine⟨.ref s.heap.objs.size,_,I.laid (t':=s.toks) (o:=.lst (lr xs lo hi)) (λb ob q=>W6 _ q) (We _) ?_,rfl,q _ (I.az.fresh (We _))⟩;exact⟨WS (BY xs lo hi) hz,_,0,(r.drop (aU xs.length 0 lo)).take (aU xs.length xs.length hi-aU xs.length 0 lo),Wj _ rfl⟩
def ku:V->Bool|.aJ=>true|.bl _=>true|.int _=>true|.str _=>true|_=>false
def lu:V->V->Bool|.aJ,.aJ=>true|.bl a,.bl b=>a==b|.bl a,.int b=>(if a then 1 else 0)==b|.int a,.bl b=>a==if b then 1 else 0|.int a,.int b=>a==b|.str a,.str b=>a==b|_,_=>false
theorem M1{x v}(ry:RelV y u)(rx:RelV x v)(fy:ku y=true)(fx:ku x=true):Uf A s u v (lu y x):=by cases y with
 |aJ=>cases ry;cases x with|aJ=>cases rx;exact SeqAt.EqAt.same _|bl b=>cases rx;exact SeqAt.EqAt.none_bool b|int b=>obtain⟨t,rfl⟩:=rx;exact SeqAt.EqAt.none_int b t|str b=>obtain⟨t,rfl⟩:=rx;exact SeqAt.EqAt.none_str b t|_=>exact absurd (show false=true from fx) WY
 |bl a=>cases ry;cases x with|aJ=>cases rx;exact SeqAt.EqAt.bool_none a|bl b=>cases rx;exact SeqAt.EqAt.bool_bool a b|int b=>obtain⟨t,rfl⟩:=rx;exact SeqAt.EqAt.bool_int a b t|str b=>obtain⟨t,rfl⟩:=rx;exact SeqAt.EqAt.bool_str a b t|_=>exact absurd (show false=true from fx) WY
 |int a=>obtain⟨t',rfl⟩:=ry;cases x with|aJ=>cases rx;exact SeqAt.EqAt.int_none a t'|bl b=>cases rx;exact SeqAt.EqAt.int_bool a t' b|int b=>obtain⟨t,rfl⟩:=rx;exact SeqAt.EqAt.int_int a t' b t|str b=>obtain⟨t,rfl⟩:=rx;exact SeqAt.EqAt.int_str a t' b t|_=>exact absurd (show false=true from fx) WY
 |str a=>obtain⟨t',rfl⟩:=ry;cases x with|aJ=>cases rx;exact SeqAt.EqAt.str_none a t'|bl b=>cases rx;exact SeqAt.EqAt.str_bool a t' b|int b=>obtain⟨t,rfl⟩:=rx;exact SeqAt.EqAt.str_int a t' b t|str b=>obtain⟨t,rfl⟩:=rx;exact SeqAt.EqAt.str_str a t' b t|_=>exact absurd (show false=true from fx) WY
 |_=>exact absurd (show false=true from fy) WY
def kz(x:V)(u:Value):Bool:=match u with|.none=>lu .aJ x|.bool b=>lu (.bl b) x|.int i _=>lu (.int i) x|.str z _=>lu (.str z) x|_=>false
theorem B6{x}(r:RelV y u)(f:ku y=true):kz x u=lu y x:=by cases y with|aJ=>cases r;rfl|bl b=>cases r;rfl|int i=>obtain⟨t,rfl⟩:=r;rfl|str z=>obtain⟨t,rfl⟩:=r;rfl|_=>exact absurd (show false=true from f) WY
theorem wj{x}:∀{xs:List V}{us:List Value},Vals xs us->xs.all ku=true->us.any (kz x)=xs.any λy=>lu y x|_,_,.nil,_=>rfl|y::xs,u::us,.cons r t,f=>by rw[List.all_cons,Wo]at f;rw[Qj,Qj,B6 r f.1,wj t f.2]
theorem wk{x v}(rx:RelV x v)(fx:ku x=true):∀{xs:List V}{us:List Value},Vals xs us->xs.all ku=true->∀u∈us,Uf A s u v (kz x u)
 |_,_,.nil,_=>by grind|y::xs,u::us,.cons r t,f=>λu' hu=>by
  rw[List.all_cons,Wo]at f;rcases Ws.mp hu with rfl|hu;.rw[B6 r f.1];exact M1 r rx f.1 fx
  .exact wk rx fx t f.2 u' hu
def sF(x:V)(xs:List V):Bool:=xs.any λy=>lu y x
def B7(K:W2)(neg:Bool):R2:=λx y H Q=>∃p xs,y=.ref p/\(cU K H p xs\/df K H p xs)/\ku x=true/\xs.all ku=true/\Q (.bl (if neg then !sF x xs else sF x xs)) H
theorem M3:bZ X (WJ .NotIn) (B7 X.K true):=by
 intro pins s σ H x y v u Q I rx ry h;obtain⟨p,xs,rfl,hq,fx,fs,q⟩:=h;cases ry;rcases hq with hq|hq;.obtain⟨its,r,pl,hz⟩:=I.list hq;refine SeqAt.notIn_listAt (kz x) pl.isList (λw hw=>wk rx fx r fs w (~~~hw)) ⟨.bl _,H,I,rfl,?_⟩;rw[show its.toArray.any (kz x)=its.any (kz x)by simp,wj r fs];exact q
 .obtain⟨its,r,pl,hz⟩:=I.tuple hq;refine SeqAt.notIn_tupleAt (kz x) pl (λw hw=>wk rx fx r fs w (~~~hw)) ⟨.bl _,H,I,rfl,?_⟩;rw[show its.toArray.any (kz x)=its.any (kz x)by simp,wj r fs];exact q
theorem M4:fF X (.builtin "len") λxs H Q=>∃p ys,xs=[.ref p]/\(cU X.K H p ys\/df X.K H p ys)/\Q (.int ys.length) H:=by
 intro pins s σ H xs us Q I r h;obtain⟨p,ys,rfl,hq,q⟩:=h;obtain⟨u,rfl,rx⟩:=gS r;cases rx;have hn:=nG;rcases hq with hq|hq;.obtain⟨its,r',pl,hz⟩:=I.list hq;have hlen:=r'.length;exact Calls.call_len_list pl.isList (by simp only[Wr]<;>lia) ⟨.int ys.length,H,I.tok _,⟨s.toks+1,by rw[Wr,hlen]⟩,q⟩
 .obtain⟨its,r',pl,hz⟩:=I.tuple hq;have hlen:=r'.length;exact len_tuple pl (by simp only[Wr]<;>lia) ⟨.int ys.length,H,I.tok _,⟨s.toks+1,by rw[Wr,hlen]⟩,q⟩
theorem M5:fF X (.builtin "len") λxs H Q=>∃z,xs=[.str z]/\z.length<=Wa/\Q (.int z.length) H:=by intro pins s σ H xs us Q I r h;obtain⟨z,rfl,hz,q⟩:=h;obtain⟨u,rfl,t,rfl⟩:=gS r;have hn:=nG;exact len_str Y' ⟨.int z.length,H,I.tok _,⟨_,rfl⟩,q⟩
theorem fF.or{f}(h:fF X f r)(h':fF X f r'):fF X f λxs H Q=>r xs H Q\/r' xs H Q:=by
 intro pins s σ H xs us Q I rs q;rcases q with q|q;.exact h pins s σ H xs us Q I rs q
 .exact h' pins s σ H xs us Q I rs q
theorem M6:fF X (.type "tuple") λxs H Q=>∃p ys,xs=[.ref p]/\((cU X.K H p ys/\∀l,H l=none->Q (.ref l) (upd H l (.tup ys)))\/df X.K H p ys/\Q (.ref p) H):=by
 intro pins s σ H xs us Q I r h;obtain⟨p,ys,rfl,h⟩:=h;obtain⟨u,rfl,rx⟩:=gS r;cases rx;rcases h with⟨hq,q⟩|⟨hq,q⟩;.obtain⟨its,r',pl,hz⟩:=I.list hq;have hlen:=r'.length;refine call_tuple_list pl.isList (λh' kp=>?_) (by simp only[Wr]<;>lia);have I1:Inv X pins σ H {s with heap:=h'}:=I.kept (t':=s.toks) kp;have I2:Inv X pins σ (upd H h'.objs.size (.tup ys)) {s with heap:=h'.push {cls:=.type "tuple",data:=.seq its.toArray}}:=I1.laid (t':=s.toks) (λb o e=>W6 _ e) (We _) (show bE X.prog X.w _ _ _ (.tup ys)from⟨hz,its,r',iK.new _ _⟩);exact⟨.ref h'.objs.size,_,I2,rfl,q _ (I1.az.fresh (We _))⟩
 .obtain⟨its,r',pl,hz⟩:=I.tuple hq;exact call_tuple_same pl ⟨.ref p,H,I,rfl,q⟩
def nK(K:W2)(T:String)(x:V)(H:Hp):Prop:=match x with|.str _=>T="str"|.int _=>T="int"|.ref p=>(T="list"/\∃xs,cU K H p xs)\/(T="tuple"/\∃o,K.lookup p=some o/\o.cls=.type "tuple"/\o.dict=none)\/T="dict"/\((∃ar,H p=some (.dK ar))\/∃ar,H p=some (.dT ar))\/T="set"/\∃S n,H p=some (.set S n)|_=>False
theorem M7{x v}(I:Inv X pins σ H s)(r:RelV x v)(ty:nK X.K T x H):s.TypeIs v T/\∀a,v=.ref a->∃ob,s.heap.get? a=some ob/\ob.dict=none:=by
 cases x with|str z=>obtain⟨t,rfl⟩:=r;cases show T="str"from ty;exact⟨typeIs_str s z t,λ_ e=>nomatch e⟩|int i=>obtain⟨t,rfl⟩:=r;cases show T="int"from ty;exact⟨typeIs_int s i t,λ_ e=>nomatch e⟩|ref p=>
  cases r;rcases ty with⟨rfl,xs,hq⟩|⟨rfl,o,hk,hc,hd⟩|⟨rfl,hk⟩|⟨rfl,S,n,hk⟩;.obtain⟨its,_,pl,_⟩:=I.list hq;refine⟨pl.isList.typeIs,λa e=>?_⟩;cases e;obtain⟨o,n,e,c,hd,_⟩:=pl;exact⟨o,e,hd⟩
  .refine⟨⟨o,I.cO p o hk,hc⟩,λa e=>?_⟩;cases e;exact⟨o,I.cO _ o hk,hd⟩
  .have z:∃o,s.heap.get? p=some o/\o.ExactDict:=by
    rcases hk with⟨ar,hk⟩|⟨ar,hk⟩;.obtain⟨_,_,_,_,o,_,_,e,ex,_⟩:=I.az p _ hk;exact⟨o,e,ex⟩
    .obtain⟨_,_,_,_,o,_,_,e,ex,_⟩:=I.az p _ hk;exact⟨o,e,ex⟩
   obtain⟨o,e,ex⟩:=z;refine⟨⟨o,e,ex.1⟩,λa e2=>?_⟩;cases e2;exact⟨o,e,ex.2.1⟩
  .obtain⟨o,_,_,_,e,ex,_⟩:=I.az p _ hk;refine⟨⟨o,e,ex.1⟩,λa e2=>?_⟩;cases e2;exact⟨o,e,ex.2.1⟩|_=>exact False.elim ty
def B8(K:W2)(T:String)(r:V->List V->Hp->VK->Prop)(to:TE)(t:TA):TE:=λσ H Q=>to σ H λx H1=>nK K T x H1/\t σ H1 λxs H2=>r x xs H2 Q
variable{o:Expr}{to:TE}{t:TA}{T id:String}{r:V->List V->Hp->VK->Prop}
theorem nM(pa:PlainAttrs T)(slot:Slot T name id)(M8:typeOf (.builtin id)=pure (.type "method_descriptor"))(hm:nJ X id r)(ho:PE X o to)(ha:PA X (e::es) t)(iq:QL o name X.env (eval o X.env)=eval o X.env:=by rfl)(ir:((WO br (W7 (e::es) X.env)).all (λx=>!x.1)&&(backToKw br (JG [] X.env)).all (λx=>x.1.isSome)&&decide ((e::es).length+([]:List Keyword).length+(if([]:List Keyword).isEmpty then 0 else 1)<30))=true:=by rfl)(fA:(apos.endLine==br.line)=true:=by rfl)(hs:W7 (e::es) X.env=(false,eval e X.env)::W7 es X.env:=by rfl)(wm:(WO br (W7 es X.env)).any (·.1)=false:=by rfl):PE X (.Call (.Attribute o name apos) (e::es) [] br) (B8 X.K T r to t):=by intro pins s σ H Q I h;refine wpAny_Call_method_late iq ir fA rfl (aP (ho pins s σ H _ I h) λv s1 hh=>?_);obtain⟨x,H1,I1,r1,ty,q1⟩:=hh;obtain⟨h1,h2⟩:=M7 I1 r1 ty;refine⟨T,id,pa,slot,M8,h1,h2,?_⟩;have hA:=ha br pins s1 σ H1 _ I1 q1;rw[hs]at hA⊢;refine Calls.callWith_builtin (by show(false||(WO br (W7 es X.env)).any (·.1))=false;rw[wm]<;>rfl) (Calls.evalArgs_plain ?_);exact aP hA λus s2⟨vs,H2,I2,r2,q2⟩=>hm pins s2 σ H2 x vs v us Q I2 r1 r2 q2
end
def M9(X:Cx)(id:String)(r:V->List V->Hp->VK->Prop):Prop:=∀(pins:List (Addr×Obj))(s:W1)(σ:St)(H:Hp)(x:V)(xs:List V)(v:Value)(us:List Value)(Q:VK),Inv X pins σ H s->RelV x v->Vals xs us->r x xs H Q->W4 (model X.prog X.w) X.A (call (.builtin id) (v::us)) (EP X pins σ Q) X.xe s
theorem en1{α:Type}{l:List α}(h:l.length=1):∃a,l=[a]:=List.length_eq_one_iff.mp h
theorem en2{α:Type}{l:List α}(h:l.length=2):∃a b,l=[a,b]:=by cases l with|nil=>cases h|cons a l=>obtain⟨b,rfl⟩:=en1 (Nat.succ.inj h);exact⟨a,b,rfl⟩
theorem en3{α:Type}{l:List α}(h:l.length=3):∃a b c,l=[a,b,c]:=by cases l with|nil=>cases h|cons a l=>obtain⟨b,c,rfl⟩:=en2 (Nat.succ.inj h);exact⟨a,b,c,rfl⟩
theorem en4{α:Type}{l:List α}(h:l.length=4):∃a b c d,l=[a,b,c,d]:=by cases l with|nil=>cases h|cons a l=>obtain⟨b,c,d,rfl⟩:=en3 (Nat.succ.inj h);exact⟨a,b,c,d,rfl⟩
theorem Vals.one{x:V}{us:List Value}(h:Vals [x] us):∃u,us=[u]/\RelV x u:=by cases h;next r h=>cases h;exact⟨_,rfl,r⟩
theorem Vals.two{x y:V}{us:List Value}(h:Vals [x,y] us):∃u v,us=[u,v]/\RelV x u/\RelV y v:=by cases h;next r h=>obtain⟨u,rfl,q⟩:=Vals.one h;exact⟨_,_,rfl,r,q⟩
theorem Vals.rep{xs}(h:Vals xs us):∀k:Nat,Vals (Wc k xs).flatten (Wc k us).flatten|0=>.nil|k+1=>by rw[QI,QI,Jm,Jm];exact Vals.append h (Vals.rep h k)
theorem B9(its:List Value):∀(k:Nat)(acc:List Value),List.foldl (λx1 x2=>x1++x2) acc.toArray (Wc k its.toArray)=(acc++(Wc k its).flatten).toArray
 |0,acc=>by simp|k+1,acc=>by
  have e:acc.toArray++its.toArray=(acc++its).toArray:=by simp
  have e2:acc++its++(Wc k its).flatten=acc++(Wc (k+1) its).flatten:=by grind
  rw[<-e2,<-B9 its k (acc++its),<-e,QI,JB]
section
variable{l b:Addr}{xs ys zs:List V}
theorem Inv.pR{its its':List Value}{n:Nat}{f:Array Value->Array Value}{t':Nat}(I:Inv X pins σ H s)(hH:H l=some (.lst xs))(e:s.heap.get? l=some {cls:=.type "list",data:=.seq its.toArray n})(hf:f its.toArray=its'.toArray)(hv:Vals ys its')(hz:ys.length<=Wa):Inv X pins σ (upd H l (.lst ys)) {s with heap:=s.heap.update l (Obj.mapSeq f),toks:=t'}:=by have q:=PySem.IsL.update e f;rw[hf]at q;refine I.write (x:=l) (e:=l) %[hH|trivial] (.inl rfl) (λb' u hb hu=>(WN s.heap (Obj.mapSeq f) (Ne.symm hb)).trans hu) ⟨_,q⟩ ?_;exact⟨hz,its',_,hv,q⟩
theorem Inv.B_(I:Inv X pins σ H s)(hv:Vals ys its)(hz:ys.length<=Wa):Inv X pins σ (upd H s.heap.objs.size (.lst ys)) {s with heap:=s.heap.push {cls:=.type "list",data:=.seq its.toArray},toks:=t'}:=I.laid (λ_ _ q=>W6 _ q) (We _) ⟨hz,its,0,hv,Wj _ rfl⟩
theorem Inv.fresh(I:Inv X pins σ H s):H s.heap.objs.size=none:=I.az.fresh (We _)
theorem Inv.M_(I:Inv X pins σ H s)(hH:H l=some (.lst xs)):xs.length<=Wa/\∃(its:List Value)(n:Nat),Vals xs its/\xs.length=its.length/\s.heap.get? l=some {cls:=.type "list",data:=.seq its.toArray n}:=by obtain⟨z,its,n,r,e⟩:=I.az l _ hH;exact⟨z,its,n,r,r.length,e⟩
end
def Ca:V->List V->Hp->VK->Prop:=λx vs H Q=>∃l xs y,x=.ref l/\vs=[y]/\H l=some (.lst xs)/\xs.length<Wa/\Q .aJ (upd H l (.lst (xs++[y])))
theorem Cb:M9 X "list.append" Ca:=by intro pins s σ H x vs v us Q I rx rv h;obtain⟨l,xs,y,rfl,rfl,hH,hz,q⟩:=h;cases rx;obtain⟨u,rfl,ru⟩:=rv.one;obtain⟨z,its,n,r,hl,e⟩:=I.M_ hH;refine Jp F.slot_list_append ⟨_,e,rfl⟩ F.entry_list_append (F.args_list_append_2 _ _) (PySem.list_append l its.toArray n u (by rw[Wr];lia)) ⟨e,?_⟩;refine⟨.aJ,_,I.pR (its':=its++[u]) hH e U' (r.append (.cons ru .nil)) ?_,rfl,q⟩;rw[QP,List.length_singleton];lia
theorem wo(xs:List α)(k:Nat):(Wc k xs).flatten.length=k*xs.length:=by simp_all
section
variable{κ:Type}[DecidableEq κ]
def fZ(ar:List (κ×V))(k:κ):Option V:=(ar.find? λkv=>decide (kv.1=k)).map (·.2)
def putK(ar:List (κ×V))(k:κ)(v:V):List (κ×V):=if(ar.any λkv=>decide (kv.1=k))=true then ar.map λkv=>if kv.1=k then(kv.1,v)else kv else ar++[(k,v)]
theorem sG{p:κ×V}{r:List (κ×V)}{k:κ}(e:p.1=k):fZ (p::r) k=some p.2:=#v[fZ,WW,e]
theorem sH{p:κ×V}{r:List (κ×V)}{k:κ}(e:¬p.1=k):fZ (p::r) k=fZ r k:=#v[fZ,WW,e]
theorem Cc(k:κ):∀ar:List (κ×V),(ar.any λkv=>decide (kv.1=k))=(fZ ar k).isSome
 |[]=>rfl|p::r=>by
  rw[Qj];by_cases e:p.1=k;.simp only[sG e,decide_eq_true e,Bool.true_or,Option.isSome_some]
  .rw[sH e,decide_eq_false e,Bool.false_or];exact Cc k r
theorem sI(ar:List (κ×V))(k:κ)(v:V):(putK ar k v).length<=ar.length+1:=by
 unfold putK;split;.rw[Wv];lia
 .rw[QP,Q4,Up];lia
theorem eF.pU{u}(r:eF o u):o.isSome=u.isSome:=by cases o with
 |none=>cases u with|none=>rfl|some _=>exact(show False from r).elim
 |some _=>cases u with|none=>exact(show False from r).elim|some _=>rfl
theorem KV.val{ar:List (κ×V)}{vs:List (κ×Value)}(r:KV ar vs)(k:κ):eF (fZ ar k) (valueAt vs k):=by unfold KV at r;induction r with|nil=>exact True.intro|@cons p q ps qs h t ih=>
 obtain⟨h1,h2⟩:=h;by_cases e:p.1=k;.have e':q.1=k:=h1.symm.trans e;have b:valueAt (q::qs) k=some q.2:=#v[valueAt,WW,e'];rw[sG e,b];exact h2
 .have e':¬q.1=k:=λz=>e (h1.trans z);have b:valueAt (q::qs) k=valueAt qs k:=#v[valueAt,WW,e'];rw[sH e,b];exact ih
theorem KV.any{ar vs}(r:KV ar vs)(k:κ):(ar.any λkv=>decide (kv.1=k))=vs.any λkv=>decide (kv.1=k):=by unfold KV at r;induction r with|nil=>rfl|cons h t ih=>rw[Qj,Qj,ih,h.1]
theorem KV.wq{ar vs}(r:KV ar vs)(k:κ)(ry:RelV y u):KV (ar.map λkv=>if kv.1=k then(kv.1,y)else kv) (vs.map λkv=>if kv.1=k then(kv.1,u)else kv):=by unfold KV at r⊢;induction r with|nil=>exact .nil|@cons p q ps qs h t ih=>rw[Wf,Wf];refine .cons ?_ ih;grind
theorem KV.put{ar vs}(r:KV ar vs)(k:κ)(ry:RelV y u):KV (putK ar k y) (stored vs k u):=by
 unfold putK stored;rw[r.any k];by_cases e:(vs.any λkv=>decide (kv.1=k))=true;.rw[if_pos e,if_pos e];exact r.wq k ry
 .rw[if_neg e,if_neg e];exact Paired.snoc r ⟨rfl,ry⟩
theorem KV.length{κ:Type}{ar:List (κ×V)}{vs:List (κ×Value)}(r:KV ar vs):ar.length=vs.length:=Paired.length r
end
theorem mw(r:RelV (kV k) u):(fD P w).is k u=true:=by cases k with|inl i=>obtain⟨t,e⟩:=show∃t,u=Value.int i t from r;subst e;exact Lb P w i t|inr x=>obtain⟨t,e⟩:=show∃t,u=Value.str x t from r;subst e;exact Lc P w x t
theorem Cd:∀{ks:List Key}{us:List Value},Vals (ks.map kV) us->ItemsAre (fD P w) ks us|[],_,r=>by rw[List.map_nil]at r;cases r;exact .nil|k::ks,_,r=>by rw[Wf]at r;cases r with|cons h t=>exact .cons (mw h) (Cd t)
abbrev KT(H:Hp):List (List Key×V)->List (List Key×Addr×Value)->Prop:=Paired λp q=>p.1=q.1/\H q.2.1=some (.tup (p.1.map kV))/\RelV p.2 q.2.2
theorem KT.val{H:Hp}{ar:List (List Key×V)}{xs:List (List Key×Addr×Value)}(r:KT H ar xs)(k:List Key):eF (fZ ar k) ((atKey xs k).map (·.2)):=by induction r with|nil=>exact True.intro|@cons p q ps qs h t ih=>
 obtain⟨h1,_,h2⟩:=h;by_cases e:p.1=k;.have e':q.1=k:=h1.symm.trans e;have b:atKey (q::qs) k=some q.2:=#v[atKey,WW,e'];rw[sG e,b];exact h2
 .have e':¬q.1=k:=λz=>e (h1.trans z);have b:atKey (q::qs) k=atKey qs k:=#v[atKey,WW,e'];rw[sH e,b];exact ih
theorem KT.wq{ar xs}(r:KT H ar xs)(k:List Key)(ry:RelV y u):KT H (ar.map λkv=>if kv.1=k then(kv.1,y)else kv) (xs.map (putAt k u)):=by induction r with|nil=>exact .nil|@cons p q ps qs h t ih=>
 rw[Wf,Wf];refine .cons ?_ ih;obtain⟨h1,h2,h3⟩:=h;unfold putAt;by_cases e:p.1=k;.rw[if_pos e,if_pos (h1.symm.trans e)];exact⟨h1,h2,ry⟩
 .rw[if_neg e,if_neg λz=>e (h1.trans z)];exact⟨h1,h2,h3⟩
theorem KT.put{ar xs}(r:KT H ar xs)(k:List Key)(hb:H b=some (.tup (k.map kV)))(ry:RelV y u):KT H (putK ar k y) (storedH xs k b u):=by
 have e:(ar.any λkv=>decide (kv.1=k))=(atKey xs k).isSome:=by rw[Cc,(r.val k).pU,Option.isSome_map]
 unfold putK storedH;rw[e];by_cases q:(atKey xs k).isSome=true;.rw[if_pos q,if_pos q];exact r.wq k ry
 .rw[if_neg q,if_neg q];exact Paired.snoc r ⟨rfl,hb,ry⟩
theorem KT.keeps{ar xs}(r:KT H ar xs)(ht:∀b ys,H b=some (.tup ys)->H' b=some (.tup ys)):KT H' ar xs:=Paired.r_ r λ_ _ z=>⟨z.1,ht _ _ z.2.1,z.2.2⟩
section
variable{h:Heap}
theorem Ce{u}(ok:cK P w H h)(e:Rd H a u):bE P w H h a u:=e.ok ok
theorem pV(ok:cK P w H h)(e:Rd H a (.dK ar)):ar.length<=Wa/\(a==QA)=false/\∃vs,KV ar vs/\h.DictOf (fD P w) a vs:=show bE P w H h a (.dK ar)from Ce ok e
theorem wu(ok:cK P w H h)(e:H a=some (.dK ar)):ar.length<=Wa/\(a==QA)=false/\∃vs,KV ar vs/\h.DictOf (fD P w) a vs:=pV ok (.inl e)
theorem pX(ok:cK P w H h)(e:H a=some (.tup (ks.map kV))):(tupleKind (fD P w)).is h ks a:=by obtain⟨_,its,r,p⟩:=show bE P w H h a (.tup (ks.map kV))from ok a _ e;obtain⟨o,h1,h2,n,h3⟩:=p.tup;exact⟨o,its.toArray,n,h1,h2,h3,by simpa using Cd r⟩
theorem sJ{ar}(ok:cK P w H h)(e:Rd H a (.dT ar)):ar.length<=Wa/\(a==QA)=false/\∃xs,KT H ar xs/\h.DictOfH (tupleKind (fD P w)) a xs:=by
 obtain⟨z,y,xs,r,o,es,ep,h1,h2,h3,h4,h5⟩:=show bE P w H h a (.dT ar)from Ce ok e;refine⟨z,y,xs,r,o,es,ep,h1,h2,h3,h4,λx hx=>?_,h5⟩;have all:∀{l:List (List Key×V)}{m:List (List Key×Addr×Value)},KT H l m->∀x∈m,(tupleKind (fD P w)).is h x.1 x.2.1:=by intro l m q;induction q with|nil=>intro x hx;exact nomatch hx|@cons p q ps qs hq t ih=>
   intro x hx;rcases Ws.mp hx with e|hx;.subst e;exact pX ok (by rw[<-hq.1];exact hq.2.1)
   .exact ih x hx
 exact all r x hx
theorem Na{ar}(ok:cK P w H h)(e:H a=some (.dT ar)):ar.length<=Wa/\(a==QA)=false/\∃xs,KT H ar xs/\h.DictOfH (tupleKind (fD P w)) a xs:=sJ ok (.inl e)
end
def lx(H:Hp)(a:Addr)(y:V)(r:Option V):Prop:=(∃ar k,Rd H a (.dK ar)/\y=kV k/\r=fZ ar k)\/∃ar k b,Rd H a (.dT ar)/\y=.ref b/\H b=some (.tup (k.map kV))/\r=fZ ar k
def pY(H:Hp)(a:Addr)(y v:V)(H':Hp):Prop:=(∃ar k,H a=some (.dK ar)/\y=kV k/\ar.length<Wa/\H'=upd H a (.dK (putK ar k v)))\/∃ar k b,H a=some (.dT ar)/\y=.ref b/\H b=some (.tup (k.map kV))/\ar.length<Wa/\H'=upd H a (.dT (putK ar k v))
theorem lx.k{k:Key}(e:H a=some (.dK ar)):lx H a (kV k) (fZ ar k):=.inl ⟨ar,k,.inl e,rfl,rfl⟩
theorem pY.k{k:Key}(e:H a=some (.dK ar))(hl:ar.length<Wa):pY H a (kV k) v (upd H a (.dK (putK ar k v))):=.inl ⟨ar,k,e,rfl,hl,rfl⟩
section
variable{y:V}{r:Value}{o:Option V}
theorem Inv.big(I:Inv X pins σ H s):QA<s.heap.objs.size:=by have h:Wn<s.heap.objs.size:=(I.mod.glob.keeps I.bk).lt;exact Nat.lt_trans Z' h
theorem Nb(hu:A.units+1<WD)(I:Inv X pins σ H s)(g:lx H a y (some v))(ry:RelV y u)(h:∀w' s',Inv X pins σ H s'->RelV v w'->Q w' s'):W4 (model X.prog X.w) A (Ue (.ref a) u) Q E s:=by
 rcases g with⟨ar,k,e,ey,l⟩|⟨ar,k,b,e,ey,eb,l⟩;.subst ey;obtain⟨z,hd,vs,rel,dd⟩:=pV I.az e;obtain⟨w',hw,cp⟩:=eF.some_of (v:=v) (o:=valueAt vs k) %[l|rel.val k];exact wpAny_getItem_of (mw ry) dd.mapOf hw (h w' _ (I.tok _) cp)
 .subst ey;cases show u=Value.ref b from ry;obtain⟨z,hd,xs,rel,dd⟩:=sJ I.az e;obtain⟨w',hw,cp⟩:=eF.some_of (v:=v) (o:=(atKey xs k).map (·.2)) %[l|rel.val k];obtain⟨p,hp,hp2⟩:=Ww.mp hw;refine wpAny_getItem_heap (U7 hu) (pX I.az eb) dd hp ?_;rw[hp2];exact h w' _ (I.tok _) cp
theorem Nc(hu:A.units+1<WD)(I:Inv X pins σ H s)(g:lx H a y o)(ry:RelV y u)(h:∀s',Inv X pins σ H s'->Q (.bool o.isSome) s'):W4 (model X.prog X.w) A (WJ .In u (.ref a)) Q E s:=by
 rcases g with⟨ar,k,e,ey,l⟩|⟨ar,k,b,e,ey,eb,l⟩;.subst ey;obtain⟨z,hd,vs,rel,dd⟩:=pV I.az e;refine wpAny_in_of (mw ry) hd dd.mapOf ?_;rw[<-(rel.val k).pU,<-l];exact h _ (I.tok _)
 .subst ey;cases show u=Value.ref b from ry;obtain⟨z,hd,xs,rel,dd⟩:=sJ I.az e;refine wpAny_in_heap (U7 hu) (pX I.az eb) hd dd ?_;have q:=(rel.val k).pU;rw[Option.isSome_map]at q;rw[<-q,<-l];exact h _ (I.tok _)
theorem Nd(hu:A.units+1<WD)(I:Inv X pins σ H s)(g:lx H a y o)(ry:RelV y u)(h:∀s',Inv X pins σ H s'->Q (.bool !o.isSome) s'):W4 (model X.prog X.w) A (WJ .NotIn u (.ref a)) Q E s:=by
 rcases g with⟨ar,k,e,ey,l⟩|⟨ar,k,b,e,ey,eb,l⟩;.subst ey;obtain⟨z,hd,vs,rel,dd⟩:=pV I.az e;refine wpAny_notIn_of (mw ry) hd dd.mapOf ?_;rw[<-(rel.val k).pU,<-l];exact h _ (I.tok _)
 .subst ey;cases show u=Value.ref b from ry;obtain⟨z,hd,xs,rel,dd⟩:=sJ I.az e;refine wpAny_notIn_heap (U7 hu) (pX I.az eb) hd dd ?_;have q:=(rel.val k).pU;rw[Option.isSome_map]at q;rw[<-q,<-l];exact h _ (I.tok _)
theorem pZ(I:Inv X pins σ H s)(mu:pC (H a))(hs:Jb a s.heap h')(he:∃q,h'.get? a=some q)(new:bE X.prog X.w (upd H a ob) h' a ob):Inv X pins σ (upd H a ob) {s with heap:=h',toks:=t'}:=I.write (x:=a) (e:=a) mu (.inl rfl) (λb q hb z=>(hs.2 b hb).trans z) he new
theorem Cf{vs}(z:ar.length<=Wa)(hd:(a==QA)=false)(rel:KV ar vs)(dd:h'.DictOf (fD P w) a vs):bE P w H' h' a (.dK ar):=⟨z,hd,vs,rel,dd⟩
theorem Nf{Q}(hu:A.units+1<WD)(I:Inv X pins σ H s)(g:pY H a y v H')(ry:RelV y u)(rv:RelV v r)(h:∀s',Inv X pins σ H' s'->Q () s'):W4 (model X.prog X.w) A (setItem (.ref a) u r) Q E s:=by
 rcases g with⟨ar,k,e,ey,l,eH⟩|⟨ar,k,b,e,ey,eb,l,eH⟩
 .subst ey eH;obtain⟨z,hd,vs,rel,dd⟩:=wu I.az e;have hz:vs.length<=Wa:=by rw[<-rel.length];exact z
  have hl:(putK ar k v).length<=Wa:=by have:=sI ar k v;lia
  refine wpAny_setItem_pairs (hsz:=hz) (mw ry) dd λh' mx hs=>h _ ?_;have he:∃q,h'.get? a=some q:=let⟨q,_,_,hq,_⟩:=mx;⟨q,hq⟩;exact pZ I %[e|True.intro] hs he (Cf hl hd (rel.put k rv) mx)
 .subst ey eH;cases show u=Value.ref b from ry;obtain⟨z,hd,xs,rel,dd⟩:=Na I.az e;have hz:xs.length<=Wa:=by rw[<-Paired.length rel];exact z
  have hl:(putK ar k v).length<=Wa:=by have:=sI ar k v;lia
  refine wpAny_setItem_heap (hsz:=hz) (U7 hu) (pX I.az eb) dd λh' mx hs=>h _ ?_;obtain⟨q,es,ep,hq,h2,h3,h4,_,h5⟩:=mx;refine pZ I %[e|True.intro] hs ⟨q,hq⟩ ⟨hl,hd,_,(rel.put k eb rv).keeps λc ys ec=>?_,q,es,ep,hq,h2,h3,h4,h5⟩;rw[aI (Ld ec e λz=>nomatch z)];exact ec
end
section
variable{k:Key}
theorem Ng(I:Inv X pins σ H s)(e:Rd H a (.dK ar))(h:∀t s',Inv X pins σ H s'->Q (.int ar.length t) s'):W4 (model X.prog X.w) A (call (.builtin "len") [.ref a]) Q E s:=by obtain⟨z,hd,vs,rel,dd⟩:=pV I.az e;refine call_len_dict hd dd (by rw[<-rel.length];rw[Qf]at z;lia) ?_;rw[<-rel.length];exact h _ _ (I.tok _)
end
def Nh(td ty tv:TE):TS:=λD σ H=>tv σ H λv H1=>td σ H1 λx H2=>ty σ H2 λy H3=>∃a H4,x=.ref a/\pY H3 a y v H4/\D.nx σ H4
section
variable{o i:Expr}
theorem Ni(hu:X.A.units+1<WD)(ho:PE X o td)(hi:PE X i ty)(hv:PE X value tv)(hs:QN value (some (.Subscript o i pos')) pos.line X.env=pure false):PS X (.Assign [.Subscript o i pos'] value pos) (Nh td ty tv):=by intro pins s σ H D I h;refine wpAny_Assign_Subscript (aP (hv pins s σ H _ I h) λr s1⟨v,H1,I1,rv,q1⟩=>aP (ho pins s1 σ H1 _ I1 q1) λu s2⟨x,H2,I2,rx,q2⟩=>aP (hi pins s2 σ H2 _ I2 q2) λiv s3 hh=>?_) hs;obtain⟨y,H3,I3,ry,a,H4,ex,g,q3⟩:=hh;subst ex;obtain rfl:u=Value.ref a:=rx;exact Nf hu I3 g ry rv λs4 I4=>⟨σ,H4,I4,q3⟩
end
theorem Cg(h:Heap)(hb:QA<h.objs.size):bE P w H (h.push {cls:=.type "dict",data:=.dict #[]}) h.objs.size (.dK []):=⟨Qh _,beq_eq_false_iff_ne.mpr (Ne.symm (WA hb)),[],.nil,Heap.DictOf.new h⟩
def Nj:TE:=λ_ H Q=>∀p,H p=none->Q (.ref p) (upd H p (.dK []))
theorem Nk:PE X (.Dict [] [] pos) Nj:=λpins s σ H Q I h=>wpAny_Dict_empty ⟨.ref s.heap.objs.size,_,I.laid (a:=s.heap.objs.size) (o:=.dK []) (t':=s.toks) (λ_ _ q=>W6 _ q) (We _) (Cg s.heap I.big),rfl,h _ (I.az.fresh (We _))⟩
section
open PySem.W PySem.Calls
theorem Nl{P}:∀(ns:List Int)(vs:List Value),WellAll P h vs (ns.map WData.int)->IntsAre vs ns:=by intro ns;induction ns with|nil=>intro vs w;rw[List.map_nil]at w;cases w;exact .nil|cons n ns ih=>intro vs w;rw[Wf]at w;cases w with|cons a b=>cases a;exact .cons _ _ (ih _ b)
theorem Nm{l:OpenLaw}(hn:l.most=some n){P:Params}{h:Heap}{vals:List Value}(sL:l.row.toRowW.claim.pre args=true)(wx:WellAll P h vals args):∃a vs ns,vals=[Value.ref a]/\args=[WData.list (ns.map WData.int)]/\h.get? a=some {cls:=.type "list",data:=.seq vs.toArray}/\IntsAre vs ns/\ns.length<=n:=by
 have Nn:WShape.hasAll [] args [.list .int]=true:=(pre_splitW sL).1;have hc:l.pre.holds [] {args:=args}=true:=(pre_splitW sL).2;obtain⟨d,r,rfl,h1,h2⟩:=hasAllW_cons Nn;obtain rfl:=hasAllW_nil h2;obtain⟨xs,rfl,h3⟩:=hasW_list h1;obtain⟨ns,rfl⟩:=items_int h3;have hlen:ns.length<=n:=by
  unfold OpenLaw.pre at hc;have h4:(WTm.not (.lt (.lit (.int (n:Int))) (.len (.arg 0)))).holds [] {args:=[.list (ns.map .int)]}=true:=by have h4:=(holds_andW hc).1;rw[hn]at h4;exact h4
  have h5:=condW_of h4 (w_not (w_lt w_lit (w_len_list (w_arg rfl))));rw[Wv]at h5;refine Nat.le_of_not_lt λq=>?_;have q':(n:Int)<((ns.length:Nat):Int):=by lia
  first|(rw[decide_eq_true q']at h5;exact absurd h5 Z')|(simp at h5;lia)
 cases wx with|cons w1 w2=>cases w2;cases w1 with|list ho hall=>exact⟨_,_,ns,rfl,rfl,ho,Nl ns _ hall,hlen⟩
theorem Nq(l:OpenLaw)(args:List WData):l.row.toRowW.claim.post args (.bool true) args=true:=postW_of (r:=l.row.toRowW) (X:=true==true) (show WShape.has [] (.bool true) .bool=true by first|rfl|decide|simp[WShape.has,WShape.arms,WShape.armsAll]) (show(WTm.eq .res (.lit (.bool true))).value [] {args:=args,res:=some (.bool true),after:=args}=some (.bool (true==true))from w_eq_bool (w_res rfl) w_lit) rfl
theorem Nr{l:OpenLaw}{q:Wg}{d:DefRec}(hn:l.most=some n)(wz:d.params.defaults=[])(call:∀(w:Wp)(s₀ s₁:W1)(mg mb:Str->Option Value)(fa:Addr)(o:Obj)(pm cd doc:Value)(a:Addr)(vs:List Value)(ns:List Int),Ground q loose [] XP w s₀ mg mb s₁.heap->YP w s₁.heap->s₁.heap.get? fa=some o->o.data=.func (docDef d.name d.params d.body d.scope pm cd doc)->s₁.heap.CodeRec cd d.name->mg d.name=some (.ref fa)->s₁.heap.get? a=some {cls:=.type "list",data:=.seq vs.toArray}->IntsAre vs ns->ns.length<=n->s₁.gens=#[]->QH (model l.prog w) callerA (.call (.ref fa) ⟨[.ref a],[]⟩) (λr s'=>r=.ok (.ret (.bool true))/\OldK s₁.heap s'.heap/\s'.os=s₁.os/\AllBare s'.gens) s₁):WalkO q loose XP YP l.row.toRowW d [] λf vs=>PySem.call f vs:=by intro w s₀ s₁ mg mb G Y fa o pm cd doc dV kV ho hd dR hD my hg args vals as sL hlay hrd wx Ci;obtain rfl:dV=.none:=Dflts.none hD wz;obtain rfl:kV=.none:=Dflts.noKw hD;obtain⟨a,vs,ns,rfl,rfl,wA,hints,hlen⟩:=Nm hn sL wx;refine enter_call (Js (call w s₀ s₁ mg mb fa o pm cd doc a vs ns G Y ho (fd_plain hd) dR my wA hints hlen hg) λr s' hq=>?_);obtain⟨rfl,h2,h3,h4⟩:=hq;exact⟨.inl ⟨.bool true,.bool true,[],rfl,λ_=>rfl,.bool true,Nq l _,λ_=>⟨List.Pairwise.nil,λ_ hm=>nomatch hm⟩⟩,h2,h3,h4⟩
end
theorem Cj:∀{vs:List Value}{ns:List Int},IntsAre vs ns->Vals (ns.map V.int) vs|_,_,.nil=>.nil|_,_,.cons n t h=>.cons ⟨t,rfl⟩ (Cj h)
def qaC(H:Hp):Prop:=∀b,H b=none\/∃o xs,H b=some (.frz o (.lst xs))
abbrev KOf{h:Heap}(_:K.In h):W2:=K
def f6(s:Stmt):Arguments:=match s with|.FunctionDef _ a _ _ _ _ _ _ _ _=>a|_=>{posonlyargs:=[],args:=[],vararg:=none,kwonlyargs:=[],kw_defaults:=[],kwarg:=none,defaults:=[]}
def cZ(s:Stmt):List Stmt:=match s with|.FunctionDef _ _ b _ _ _ _ _ _ _=>b|_=>[]
def aV(s:Stmt):Scope:=match s with|.FunctionDef _ _ _ _ _ _ sc _ _ _=>sc|_=>{kind:=.function,names:=[],isGenerator:=false,isCoroutine:=false}
abbrev cH:jH:=λ_ _ _ _ _ _=>False
abbrev E0:XK:=λ_ _ _=>False
theorem Ck:v8 cH X E0:=λ_ _ _ _ _ _ _ h=>h.elim
structure dq(K:W2)(x qual:Str)(st:Stmt)(f:Addr)(fd:WH):Prop where
 ex:∃(oc:Value)(od:Option Addr)(kV doc pm:Value)(an:Option Addr)(aE ct:Value)(dH:Array (Option Value)),fd=WT x qual (f6 st) (cZ st) (aV st) .none kV doc pm an aE ct/\K.lookup f=some ⟨oc,od,.func fd,dH⟩/\PySem.W.codeIn K aE qual=true
 kp:Qq K (.ref f)=true
theorem dq.ok{st:Stmt}{k:Nat}(F:dq K x qual st f fd)(S:eL N ps (aV st))(len:∀vs H Q E,sp vs H Q E->vs.length=ps.length)(cG:∀(aE:Value)(A:Wh)(outer:List Env)(s:W1)(H:Hp)(vs:List V)(Q:VK)(E:XK),b_ k (A.deeper (QB qual (aV st) s.heap.objs.size f aE))->sp vs H Q E->∃t,dF (dG cH P w K mg base N qual (aV st) f aE A outer s H E).fE (cZ st) t/\t {nx:=λ_ H'=>Q .aJ H',rt:=Q} (start N vs) H):fz P w K mg base cH (k+1) f fd ps sp:=by obtain⟨oc,od,kV,doc,pm,an,aE,ct,dH,rfl,lk,dR⟩:=F.ex;refine wa lk dR S len λA outer s H vs Q E hr jJ=>?_;obtain⟨t,h,q⟩:=cG aE A outer s H vs Q E hr jJ;exact⟨t,h.fE,q⟩
theorem dq.binds{st:Stmt}(F:dq K x qual st f fd)(h:∀(kV doc pm:Value)(an:Option Addr)(aE ct:Value)(us:List Value),us.length=ps.length->bindArgs (WT x qual (f6 st) (cZ st) (aV st) .none kV doc pm an aE ct) ⟨us,[]⟩=pure (ps.zip us)):Binds K fd ps []:=by obtain⟨oc,od,kV,doc,pm,an,aE,ct,dH,rfl,lk,dR⟩:=F.ex;exact .all (h kV doc pm an aE ct)
theorem sM{st:Stmt}{kV:Value}(l:K.lookup f=some ⟨oc,od,.func (WT x qual (f6 st) (cZ st) (aV st) .none kV doc pm an aE ct),dH⟩)(c:PySem.W.codeIn K aE qual=true)(k:Qq K (.ref f)=true):dq K x qual st f (WT x qual (f6 st) (cZ st) (aV st) .none kV doc pm an aE ct):=⟨⟨oc,od,kV,doc,pm,an,aE,ct,dH,rfl,l,c⟩,k⟩
theorem Nt(h:n<=1000):n<Wa:=QQ h Z'
theorem pv(i:Nat)(hN:X.N[i]?=some x:=by rfl)(hv:se X.env.scope x:=by first|exact Or.inl rfl|exact Or.inr (Or.inl rfl)|exact Or.inr (Or.inr rfl))(hd:(x==("__debug__":Str))=false:=by decide)(dR:(x==("__classdict__":Str))=false:=by decide):PE X (.Name x pos) (dZ i):=Lp hN hv hd dR
theorem Nu:fF X (.builtin "len") λxs H Q=>∃a ar,xs=[V.ref a]/\H a=some (.dK ar)/\Q (.int ar.length) H:=by intro pins s σ H xs us Q I r h;obtain⟨a,ar,rfl,ha,q⟩:=h;obtain⟨u,rfl,ru⟩:=gS r;cases ru;exact Ng I (.inl ha) λt s' I'=>⟨.int ar.length,H,I',⟨t,rfl⟩,q⟩
def f7(cells:List (Str×Addr)):List (Str×NameKind)->List (Str×Addr)->List (Str×Addr)|[],acc=>acc|(n,k)::r,acc=>f7 cells r (if k==.free then match cells.lookup n with|some a=>(n,a)::acc|none=>acc else acc)
theorem wB(f:Str×NameKind->List (Str×Addr)->Sem (ForInStep (List (Str×Addr))))(hf:∀name kind cs,f (name,kind) cs=if kind==.free then do let a<-cellOf env name;pure (.yield ((name,a)::cs))else pure (.yield cs)):∀(names:List (Str×NameKind))(acc:List (Str×Addr)),(∀x∈names,x.2=NameKind.free->∃c,env.cells.lookup x.1=some c)->(forIn names acc f:Sem (List (Str×Addr)))=pure (f7 env.cells names acc)
 |[],acc,_=>by rw[JN];rfl|(n,k)::r,acc,h=>by
  rw[JC,hf];unfold f7;by_cases hk:(k==NameKind.free)=true
  .obtain⟨c,hc⟩:=h (n,k) Wt (~~~hk);have fR:env.cells.lookup n=some c:=hc;have e:cellOf env n=pure c:=by unfold cellOf;rw[fR]
   rw[if_pos hk,if_pos hk,e,fR];exact wB f hf r _ λx hx=>h x (Wm _ hx)
  .rw[if_neg hk,if_neg hk];exact wB f hf r _ λx hx=>h x (Wm _ hx)
theorem Cm(h:∀x∈scope.names,x.2=NameKind.free->∃c,env.cells.lookup x.1=some c):closureFor scope env=pure (f7 env.cells scope.names []):=by unfold closureFor;dsimp only;rw[wB (env:=env) _ λname kind cs=>by all_goals grind scope.names [] h];rfl
theorem Cn{n}:∀(names:List (Str×NameKind))(acc:List (Str×Addr)),(n,c)∈f7 cells names acc->(n,c)∈acc\/(n,NameKind.free)∈names/\cells.lookup n=some c|[],acc,h=>.inl h|(y,k)::r,acc,h=>by unfold f7 at h;rcases Cn r _ h with q|⟨q,e⟩;all_goals grind
theorem Co{n}:∀(names:List (Str×NameKind))(acc:List (Str×Addr)),(acc.lookup n).isSome=true\/(n,NameKind.free)∈names/\(cells.lookup n).isSome=true->((f7 cells names acc).lookup n).isSome=true
 |[],acc,h=>h.elim id (by grind)|(y,k)::r,acc,h=>by
  unfold f7;apply Co r;by_cases hk:(k==NameKind.free)=true;.rw[if_pos hk];cases e:cells.lookup y with
 |none=>
    rcases h with h|⟨h1,h2⟩;.exact .inl h
    .rcases Ws.mp h1 with z|z;.cases z;rw[e]at h2;cases h2
     .exact .inr ⟨z,h2⟩|some a=>
    by_cases hn:(n==y)=true;.refine .inl ?_;show(List.lookup n ((y,a)::acc)).isSome=true;rw[WK,hn];rfl
    .rcases h with h|⟨h1,h2⟩;.refine .inl ?_;show(List.lookup n ((y,a)::acc)).isSome=true;have gE:(n==y)=false:= ~~~hn;rw[WK,gE];exact h
     .rcases Ws.mp h1 with z|z;.cases z;exact absurd U' hn
      .exact .inr ⟨z,h2⟩
  .rw[if_neg hk];rcases h with h|⟨h1,h2⟩;.exact .inl h
   .rcases Ws.mp h1 with z|z;.cases z;exact absurd rfl hk
    .exact .inr ⟨z,h2⟩
theorem wC{n}:∀(names:List (Str×NameKind))(h:Heap)(acc:List (Str×Addr)),(n,c)∈Qx h.objs.size names acc->(n,c)∈acc\/(n,NameKind.cell)∈names/\h.objs.size<=c/\(U8 h names).IsCell c none
 |[],_,_,h=>.inl h|(y,k)::r,h,acc,hm=>by
  unfold Qx at hm;unfold U8;by_cases hk:(k==NameKind.cell)=true
  .rw[if_pos hk]at hm;rw[if_pos hk];have ly:k=NameKind.cell:= ~~~hk;have sz:(h.push {cls:=.type "cell",data:=.cell none}).objs.size=h.objs.size+1:=J4 ..;rw[<-sz]at hm;rcases wC r _ _ hm with q|⟨q1,q2,q3⟩
   .rcases Ws.mp q with z|z;.cases z;refine .inr ⟨%[ly|Wt],We _,?_⟩;exact Heap.IsCell.keeps ⟨_,Wj _ rfl,rfl⟩ (pushCells_keeps r _)
    .exact .inl z
   .exact .inr ⟨Wm _ q1,by rw[sz]at q2;lia,q3⟩
  .rw[if_neg hk]at hm;rw[if_neg hk];rcases wC r _ _ hm with q|⟨q1,q2,q3⟩;.exact .inl q
   .exact .inr ⟨Wm _ q1,q2,q3⟩
theorem wF:∀(names:List (Str×NameKind))(k:Nat)(acc:List (Str×Addr)),(∀n n' c,(n,c)∈acc->(n',c)∈acc->n=n')->(∀n c,(n,c)∈acc->c<k)->∀n n' c,(n,c)∈Qx k names acc->(n',c)∈Qx k names acc->n=n'
 |[],_,_,h,_=>h|(y,kd)::r,k,acc,h,hb=>by
  unfold Qx;by_cases hk:(kd==NameKind.cell)=true;.rw[if_pos hk];refine wF r (k+1) _ (λn n' c h1 h2=>?_) λn c hm=>?_;all_goals grind
  .rw[if_neg hk];exact wF r k acc h hb
theorem mz{env:Env}{x:Str}:∀{names:List (Str×NameKind)}{k:NameKind},(names.map λ(y:Str×NameKind)=>if y.2==NameKind.free&&env.scope.kind==.function&&env.kindOf y.1==some .cell then(y.1,NameKind.cell)else(y.1,y.2)).lookup x=some k->names.lookup x=some k\/k=NameKind.cell/\names.lookup x=some .free
 |[],_,h=>by simp at h|(n,kd)::r,k,h=>by
  rw[Wf]at h;have ih:=@mz env x r k;cases hx:x==n with|true=>
 by_cases hc:(kd==NameKind.free&&env.scope.kind==.function&&env.kindOf n==some .cell)=true;.rw[if_pos hc,WK,hx]at h;cases h;simp only[Wo]at hc;have:kd=NameKind.free:= ~~~hc.1.1;exact .inr ⟨rfl,by rw[WK,hx,this]⟩
 .rw[if_neg hc,WK,hx]at h;cases h;exact .inl (by rw[WK,hx])|false=>
   have h':(r.map λ(y:Str×NameKind)=>if y.2==NameKind.free&&env.scope.kind==.function&&env.kindOf y.1==some .cell then(y.1,NameKind.cell)else(y.1,y.2)).lookup x=some k:=by
    by_cases hc:(kd==NameKind.free&&env.scope.kind==.function&&env.kindOf n==some .cell)=true;.rw[if_pos hc,WK,hx]at h;exact h
    .rw[if_neg hc,WK,hx]at h;exact h
   rw[WK,hx];exact ih h'
def fJ(X:Cx)(scope:Scope)(s₀:W1)(H₀:Hp)(ex:List Addr):Cx:={X with
 env:={scope:=relabel scope X.env,locals:=s₀.heap.objs.size,globals:=X.env.globals,cells:=Qx (s₀.heap.objs.size+1) scope.names (f7 X.env.cells scope.names []),qual:=X.env.qual,func:=none,code:=X.env.code,frame:=X.env.frame,builtins:=X.env.builtins}
 s₀:=s₀
 H₀:=H₀
 outer:=X.stack
 ex:=ex
 fn:=λx=>scope.names.lookup x==some .cell
 pn:=[]
 xe:=λ_ _=>False}
structure mB(X:Cx)(scope:Scope)(cs:List Nat):Prop where
 kind:scope.kind=.function
 names:∀x∈scope.names,x.2=.local->scope.names.lookup x.1=some .local
 free:∀x∈scope.names,x.2=.free->X.env.kindOf x.1=some .cell\/X.env.kindOf x.1=some .free
 nd:(scope.names.map (·.1)).Nodup
 own:∀(i:Nat)x,X.N[i]?=some x->scope.names.lookup x=some .local\/scope.names.lookup x=some .cell->i∈cs
def bP(cs:List Nat)(σ:St):St:=cs.foldl (λσ i=>σ.set i none) σ
theorem sP(cs:List Nat):∀σ:St,(bP cs σ).length=σ.length:=by induction cs with|nil=>intro σ;rfl|cons i r ih=>intro σ;show(bP r (σ.set i none)).length=_;rw[ih];simp
theorem lz:∀(cs:List Nat)(σ:St)(i:Nat)(v:V),(bP cs σ)[i]?=some (some v)->σ[i]?=some (some v)/\i∉cs:=by intro cs;induction cs with|nil=>intro σ i v h;exact⟨h,U'⟩|cons j r ih=>
 intro σ i v h;have h':(bP r (σ.set j none))[i]?=some (some v):=h;obtain⟨h1,h2⟩:=ih _ i v h';by_cases e:j=i;.subst e;rw[WL]at h1;simp at h1
 .rw[W9 e]at h1;exact⟨h1,by simp only[Ws,not_or];exact⟨Ne.symm e,h2⟩⟩
theorem wG:∀{l:List (Str×α)},(l.map (·.1)).Nodup->(x,k)∈l->(x,k')∈l->k=k'
 |(y,j)::r,nd,h1,h2=>by
  rw[Wf,Q2]at nd;rcases Ws.mp h1 with e|g1<;>rcases Ws.mp h2 with e'|g2;.grind
  .grind
  .grind
  .exact wG nd.2 g1 g2
section
variable{fp:List Addr}
theorem Nv(I:Inv X pins σ H s)(S:mB X scope cs)(hf:∀b∈fp,fw X pins H b)(bq:∀b∈fp,b<s.heap.objs.size):Inv (fJ X scope s H fp) [] (bP cs σ) H {s with heap:=U8 (s.heap.push {cls:=.type "dict",data:=.dict #[]}) scope.names}:=by
 have sz:(s.heap.push {cls:=.type "dict",data:=.dict #[]}).objs.size=s.heap.objs.size+1:=J4 ..;have kp:∀b o,s.heap.get? b=some o->(U8 (s.heap.push {cls:=.type "dict",data:=.dict #[]}) scope.names).get? b=some o:=λb o e=>pushCells_keeps _ _ b o (W6 _ e);have mC:∀n c,(n,c)∈f7 X.env.cells scope.names []->(n,NameKind.free)∈scope.names/\X.env.cells.lookup n=some c:=λn c h=>(Cn _ _ h).elim (by grind) id;have Nw:∀n c,(n,c)∈f7 X.env.cells scope.names []->c<s.heap.objs.size:=λn c h=>by obtain⟨v,q⟩:=I.cell n c (mC n c h).2;exact q.lt
 have jL:∀n c,(n,c)∈Qx (s.heap.objs.size+1) scope.names (f7 X.env.cells scope.names [])->(n,NameKind.free)∈scope.names/\X.env.cells.lookup n=some c\/(n,NameKind.cell)∈scope.names/\s.heap.objs.size+1<=c/\(U8 (s.heap.push {cls:=.type "dict",data:=.dict #[]}) scope.names).IsCell c none:=λn c h=>by
  rw[<-sz]at h;rcases wC _ _ _ h with q|q;.exact .inl (mC n c q)
  .rw[sz]at q;exact .inr q
 have Nx:=wF scope.names (s.heap.objs.size+1) (f7 X.env.cells scope.names []) (λn n' c h1 h2=>I.ok.inj n n' c (mC n c h1).2 (mC n' c h2).2) λn c h=>Nat.lt_succ_of_lt (Nw n c h);have p_:∀x∈scope.names,x.2=.free->∃c,X.env.cells.lookup x.1=some c:=λx hx hk=>I.ok.has x.1 (S.free x hx hk);have Ny:∀b∈fp,b∉eS X.stack:=λb hb z=>by
  obtain⟨_,f1,f2,_⟩:=hf b hb;rcases Ws.mp (I.pE b z)with e|e;.exact f1 e
  .exact f2 e
 have Nz:∀x,(fJ X scope s H fp).env.kindOf x=some .cell\/(fJ X scope s H fp).env.kindOf x=some .free->scope.names.lookup x=some .cell\/scope.names.lookup x=some .free:=λx h=>by
  rcases h with h|h
  .have h':(relabel scope X.env).names.lookup x=some .cell:=h;rcases mz (env:=X.env) (names:=scope.names) h' with q|⟨_,q⟩;.exact .inl q
   .exact .inr q
  .have h':(relabel scope X.env).names.lookup x=some .free:=h;rcases mz (env:=X.env) (names:=scope.names) h' with q|⟨q,_⟩;.exact .inr q
   .cases q
 have Cp:∀x,scope.names.lookup x=some .cell\/scope.names.lookup x=some .free->∃c,(Qx (s.heap.objs.size+1) scope.names (f7 X.env.cells scope.names [])).lookup x=some c:=λx h=>by
  refine Qy.mp (J9 scope.names _ _ ?_);rcases h with h|h;.exact .inl h
  .refine .inr (Co _ _ (.inr ⟨Wx h,?_⟩));obtain⟨c,hc⟩:=p_ _ (Wx h) rfl;grind
 have NA:(U8 (s.heap.push {cls:=.type "dict",data:=.dict #[]}) scope.names).Ns s.heap.objs.size λ_=>none:=(Heap.Ns.new s.heap (.type "dict")).keeps (pushCells_keeps _ _);refine⟨⟨I.ok.mod,S.kind,I.ok.glob,I.ok.blt,We _,λy z c h1 h2=>Nx y z c (Wx h1) (Wx h2),λx hx=>Cp x (Nz x hx),λx c gF h=>?_,I.ok.hd,I.ok.frames,.inl rfl,λb hb=>⟨WA (bq b hb),λx c h e=>?_⟩,I.bs,WS I.ok.gP I.sz,λb o e hb=>?_,Ny,I.stack,I.sf⟩,rfl,I.bare,Un.kept kp,⟨λ_=>none,NA,λi x v h1 h2 h3=>?_⟩,λx c h=>?_,I.az.fresh (We _),λx c h=>?_,λp hp=>absurd (show p∈([]:List (Addr×Obj))from hp) U',I.az.kept kp,(sP cs σ).trans I.len⟩
 .rcases jL x c (Wx h)with q|q
  .have NC:scope.names.lookup x=some .cell:=by have:(scope.names.lookup x==some .cell)=true:=gF;exact eq_of_beq this
   have:=wG S.nd q.1 (Wx NC);cases this
  .exact Nat.le_of_succ_le q.2.1
 .subst e;rcases jL x c (Wx h)with q|q;.exact(hf c hb).2.2.2.2.1 x c q.2 rfl
  .exact absurd (Wy (bq c hb) (Nat.le_of_succ_le q.2.1)) (Q7 _)
 .obtain⟨_,_,_,f3,_⟩:=hf b hb;rcases f3 with z|z;.exact I.ok.lb b o e z
  .exact absurd (Wy (Wi (I.ok.bs b o e).1) z) (Q7 _)
 .obtain⟨h2',hni⟩:=lz cs σ i v h2;have NF:¬(scope.names.lookup x=some .local\/scope.names.lookup x=some .cell):=λz=>hni (S.own i x h1 z);have si:scope.names.lookup x=some .free:=by
   rcases h3 with h3|h3|h3;.rcases mz (env:=X.env) (names:=scope.names) h3 with q|⟨q,_⟩;all_goals grind
   .rcases mz (env:=X.env) (names:=scope.names) h3 with q|⟨_,q⟩;.exact absurd (.inr q) NF
    .exact q
   .rcases mz (env:=X.env) (names:=scope.names) h3 with q|⟨q,_⟩;.exact q
    .cases q
  have hk:=S.free _ (Wx si) rfl;obtain⟨m,hn,hl⟩:=I.loc;have NG:se X.env.scope x:=by
   rcases hk with hk|hk;.exact .inr (.inl hk)
   .exact .inr (.inr hk)
  obtain⟨u,r,l⟩:=hl i x v h1 h2' NG;refine⟨u,r,?_⟩;rcases l with⟨k,_⟩|⟨_,c,hc,hcell⟩;.grind
  .obtain⟨c',fR⟩:=Cp x (.inr si);have e:c'=c:=by
    rcases jL x c' (Wx fR)with q|q;.have q2:=q.2;rw[hc]at q2;exact(WG q2).symm
    .have:=wG S.nd q.1 (Wx si);cases this
   subst e;refine .inr ⟨?_,c',fR,hcell.keeps kp⟩;rcases h3 with h3|h3|h3;.rcases mz (env:=X.env) (names:=scope.names) h3 with q|⟨q,_⟩;all_goals grind
   .exact .inl h3
   .exact .inr h3
 .rcases jL x c (Wx h)with q|q;.obtain⟨v,z⟩:=I.cell x c q.2;exact⟨v,z.keeps kp⟩
  .exact⟨none,q.2.2⟩
 .rcases jL x c (Wx h)with q|q;.exact I.eU x c q.2
  .exact I.az.fresh (Nat.le_of_succ_le q.2.1)
end
abbrev kA:Value->W1->Prop:=λ_ _=>False
def Cq(ifs:List Expr)(env:Env):Sem Bool:=forIn ifs true λc r=>if r=true then do let ok<-isTrue c env (eval c env);pure (ForInStep.yield ok)else pure (ForInStep.yield r)
theorem NH{it}(I:Nat->W1->Prop)(turn:∀n s,I n s->W4 (model prog w) A (Jk it) (λr s₁=>match r with|none=>R (.ok .next) s₁|some v=>W4 (model prog w) A (JA target it v) (λ_ Cr=>W4 (model prog w) A (assign target env v) (λ_ s₂=>W4 (model prog w) A (Cq ifs env) (λok s₃=>if ok=true then W4 (model prog w) A (eval elt env) (λx s₄=>W4 (model prog w) A (call (.builtin "list.append") [acc,x]) (λ_ s₅=>∃m,m<n/\I m s₅) kA s₄) kA s₃ else∃m,m<n/\I m s₃) kA s₂) kA Cr) kA s₁) kA s)(n:Nat)(h:I n s):QH (model prog w) A (.compLoop (.ListComp elt [⟨target,iter,ifs,0⟩] scope pos) 0 it acc env) R s:=by refine codeAny_loop rfl I (λn s hI=>?_) n h;show W4 _ A ((compTurn (.ListComp elt [⟨target,iter,ifs,0⟩] scope pos) 0 it acc env).onRaise λx=>do U9 x env;theTreesLotGoes x) _ _ s;refine wpAny_noted ?_;rw[compTurn_list];refine W0 (wpAny_standAt (W0 (WR (turn n s hI) (λr s₁ h₁=>?_) (by grind))));cases r with|none=>exact W5 h₁|some v=>refine W0 (WR h₁ (λ_ Cr NI=>?_) (by grind));refine W0 (WR NI (λ_ s₂ h₂=>W0 (WR h₂ (λok s₃ h₃=>?_) (by grind))) (by grind));cases ok with|false=>exact W5 ⟨rfl,h₃⟩|true=>exact W0 (W0 (WR h₃ (λx s₄ h₄=>W0 (WR h₄ (λ_ s₅ h₅=>W5 (W5 ⟨rfl,h₅⟩)) (by grind))) (by grind)))
theorem NJ{Q}(h:Q {scope,locals:=s.heap.objs.size,globals,cells:=Qx (s.heap.objs.size+1) scope.names cl,qual,func:=none,code:=env.code,frame:=env.frame,builtins:=env.builtins} {s with heap:=U8 (s.heap.push {cls:=.type "dict",data:=.dict #[]}) scope.names}):W4 M A (newFunctionEnv scope globals cl [] qual none .none (some env)) Q E s:=by simp only[newFunctionEnv,Option.isSome_some,if_true];refine W0 (wpAny_alloc ?_);refine W0 (wpAny_layCells _ λname kind cells=>by all_goals grind _ _ _ _ ?_);rw[show({s with heap:=s.heap.push {cls:=.type "dict",data:=.dict #[]}}:W1).heap.objs.size=s.heap.objs.size+1 from J4 ..];exact W0 (W5 (W5 h))
def mD(X:Cx)(ifs:List Expr)(t:TT):Prop:=∀(pins:List (Addr×Obj))(s:W1)(σ:St)(H:Hp)(Q:Bool->Hp->Prop),Inv X pins σ H s->t σ H Q->W4 (model X.prog X.w) X.A (Cq ifs X.env) (TP X pins σ Q) X.xe s
def NM:TT:=λ_ H Q=>Q true H
theorem NN:mD X [] NM:=λpins s σ H Q I h=>wpAny_tests_nil ⟨H,I,h⟩
theorem NO(h:PT X c t):mD X [c] t:=λpins s σ H Q I q=>wpAny_tests_one (h pins s σ H Q I q)
def Le(σ σ':St):Prop:=σ'.length=σ.length/\∀(i:Nat)(v:V),σ[i]?=some (some v)->σ'[i]?=some (some v)
def Cs(cs:List Nat)(g:TG)(tt:TT)(te:TE)(σ:St)(Q:VK)(J:It)(H1:Hp):Prop:=∀l,H1 l=none->∃W:Nat->Nat->Hp->Prop,(∃m,W 0 m (upd H1 l (.lst [])))/\∀i m H2,W i m H2->J.stop i H2/\Q (.ref l) H2\/J.go i H2/\∀x H3,J.pJ i H2 x H3->g x (bP cs σ) H3 λσ4 H4=>Le (bP cs σ) σ4/\tt σ4 H4 λb H5=>if b=true then te σ4 H5 λv H6=>∃ys m',H6 l=some (.lst ys)/\ys.length<Wa/\m'<m/\W (i+1) m' (upd H6 l (.lst (ys++[v])))else∃m',m'<m/\W (i+1) m' H5
def wH(cs:List Nat)(wi:TI)(g:TG)(tt:TT)(te:TE):TE:=λσ H Q=>wi σ H λJ H1=>Cs cs g tt te σ Q J H1
section
variable{iter:Expr}{g:TG}{tt:TT}
theorem Ct{fp:List Addr}{J:It}{Q:VK}{E:Value->W1->Prop}(hc:X.calm=true)(I:Inv X pins σ H s)(S:mB X scope cs)(T:Turn X.prog X.w X.K tg J fp it tn)(st:tn 0 s.heap)(hf:∀b∈fp,fw X pins H b)(hg:∀s₀ H₀ ex,PG (fJ X scope s₀ H₀ ex) tg g)(ht:∀s₀ H₀ ex,mD (fJ X scope s₀ H₀ ex) ifs tt)(he:∀s₀ H₀ ex,PE (fJ X scope s₀ H₀ ex) elt te)(q:Cs cs g tt te σ Q J H)(NP:∀l C s' H',Inv X pins σ H' s'->fw X pins H' C->(∃m,s'.heap.Ns C m)->Q (.ref l) H'->RR (.ref l) C (.ok .next) s'):W4 (model X.prog X.w) X.A (newList []) (λacc s₃=>W4 (model X.prog X.w) X.A (newFunctionEnv scope X.env.globals (f7 X.env.cells scope.names []) [] X.env.qual none .none (some X.env)) (λCu s₄=>QH (model X.prog X.w) X.A (.compStart (.ListComp elt [⟨tg,iter,ifs,0⟩] scope pos) 0 (.ref it) acc {Cu with scope:=relabel scope X.env}) (RR acc Cu.locals) s₄) E s₃) E s:=by
 refine QE ?_;have fK:H s.heap.objs.size=none:=I.az.fresh (We _);obtain⟨W,⟨m0,w0⟩,turn⟩:=q s.heap.objs.size fK;generalize hl:s.heap.objs.size=l at*;have I3:Inv X pins σ (upd H l (.lst [])) {s with heap:=s.heap.push {cls:=.type "list",dict:=none,data:=.seq ([]:List Value).toArray}}:=I.laid (t':=s.toks) (λb u e=>W6 _ e) (Nat.le_of_eq hl) ⟨Qh _,[],0,.nil,by rw[<-hl];exact Wj _ rfl⟩;have sS:∀b o,s.heap.get? b=some o->(s.heap.push {cls:=.type "list",dict:=none,data:=.seq ([]:List Value).toArray}).get? b=some o:=λb o e=>W6 _ e;have gW:∀b∈fp,b≠l:=λb hb e=>by obtain⟨o,ho,_⟩:=T.obj 0 _ st b hb;exact absurd (Wi ho) %[e,hl|Q7 _]
 have wI:∀b∈fp,fw X pins (upd H l (.lst [])) b:=λb hb=>⟨by rw[aI (gW b hb)];exact(hf b hb).1,(hf b hb).2⟩;have ll:tn 0 (s.heap.push {cls:=.type "list",dict:=none,data:=.seq ([]:List Value).toArray}):=T.keep 0 _ _ st λb _ o e=>sS b o e;generalize hs3:({s with heap:=s.heap.push {cls:=.type "list",dict:=none,data:=.seq ([]:List Value).toArray}}:W1)=s3 at I3;have Cv:tn 0 s3.heap:=by rw[<-hs3];exact ll
 have NQ:∀b∈fp,b<s3.heap.objs.size:=λb hb=>by obtain⟨o,ho,_⟩:=T.obj 0 _ Cv b hb;exact Wi ho
 refine NJ ?_;have I4:=Nv I3 S wI NQ;generalize hX:fJ X scope s3 (upd H l (.lst [])) fp=X' at I4;generalize hs4:({s3 with heap:=U8 (s3.heap.push {cls:=.type "dict",data:=.dict #[]}) scope.names}:W1)=s4 at I4⊢;have sW:=hg s3 (upd H l (.lst [])) fp;have Cw:=ht s3 (upd H l (.lst [])) fp;have Cy:=he s3 (upd H l (.lst [])) fp;rw[hX]at sW Cw Cy;have Cz:tn 0 s4.heap:=T.keep 0 _ _ Cv λb _ o e=>by rw[<-hs4];exact pushCells_keeps _ _ b o (W6 _ e)
 have hP:X'.prog=X.prog:=by rw[<-hX];rfl
 have hw:X'.w=X.w:=by rw[<-hX];rfl
 have hA:X'.A=X.A:=by rw[<-hX];rfl
 have hK:X'.K=X.K:=by rw[<-hX];rfl
 have fR:X'.calm=true:=by rw[<-hX];exact hc
 have lA:X'.xe=kA:=by rw[<-hX];rfl
 have CA:X'.env.locals=s3.heap.objs.size:=by rw[<-hX];rfl
 have NR:({scope:=relabel scope X.env,locals:=s3.heap.objs.size,globals:=X.env.globals,cells:=Qx (s3.heap.objs.size+1) scope.names (f7 X.env.cells scope.names []),qual:=X.env.qual,func:=none,code:=X.env.code,frame:=X.env.frame,builtins:=X.env.builtins}:Env)=X'.env:=by rw[<-hX];rfl
 have wJ:∀{H':Hp},(∀b∈fp,H' b=none)->∀b∈fp,fw X' [] H' b:=λ{H'}hn b hb=>by
  have ex:X'.ex=fp:=by rw[<-hX];rfl
  have pn:X'.pn=[]:=by rw[<-hX];rfl
  refine⟨hn b hb,(I4.ok.mn b %[ex|hb]).1,I4.ok.lg b %[ex|hb],.inl %[ex|hb],(I4.ok.mn b %[ex|hb]).2,λp hp=>?_⟩;rw[pn]at hp;simp at hp
 show QH (model X.prog X.w) X.A (.compStart (.ListComp elt [⟨tg,iter,ifs,0⟩] scope pos) 0 (.ref it) (.ref l) ({scope:=relabel scope X.env,locals:=s3.heap.objs.size,globals:=X.env.globals,cells:=Qx (s3.heap.objs.size+1) scope.names (f7 X.env.cells scope.names []),qual:=X.env.qual,func:=none,code:=X.env.code,frame:=X.env.frame,builtins:=X.env.builtins}:Env)) (RR (.ref l) s3.heap.objs.size) s4;rw[NR];have loop:QH (model X.prog X.w) X.A (.compLoop (.ListComp elt [⟨tg,iter,ifs,0⟩] scope pos) 0 (.ref it) (.ref l) X'.env) (RR (.ref l) s3.heap.objs.size) s4:=by
  refine NH (λn s'=>∃i H',Inv X' [] (bP cs σ) H' s'/\tn i s'.heap/\(∀b∈fp,H' b=none)/\W i n H') ?_ m0 ⟨0,_,I4,Cz,λb hb=>(wI b hb).1,w0⟩;rintro n s5⟨i,H5,I5,st5,fr5,w5⟩;rcases turn i n H5 w5 with⟨stop,qn⟩|⟨go,step⟩
  .have:=T.done X' hP hw hK fR i [] s5 (bP cs σ) H5 kA I5 (wJ fr5) st5 stop;rw[hA]at this;refine aP this λr s6 hh=>?_;obtain⟨hr,I6⟩:=hh;subst hr;have b6:=I6.base;have e1:X'.fs=eS X.stack:=by rw[<-hX];rfl
   have e2:X'.ex=fp:=by rw[<-hX];rfl
   have e3:X'.H₀=upd H l (.lst []):=by rw[<-hX];rfl
   have e4:X'.s₀=s3:=by rw[<-hX];rfl
   rw[e1,e2,e3,e4]at b6;have o6:s6.os=s3.os:=by rw[<-e4];exact I6.os
   have NS:cK X.prog X.w H5 s6.heap:=by rw[<-hP,<-hw];exact I6.az
   have J6:Inv X pins σ H5 s6:=I3.Bc o6 b6 NS I6.bare λb hb=>by obtain⟨_,f1,_,f3,f4,f5⟩:=wI b hb;exact⟨f3,f1,f4,f5⟩
   obtain⟨m6,n6,_⟩:=I6.loc;rw[CA]at n6;refine NP l s3.heap.objs.size s6 H5 J6 (I3.jG (We _) ?_) ⟨m6,n6⟩ qn;rw[<-CA];exact I6.free
  .have:=T.item X' hP hw hK fR i [] s5 (bP cs σ) H5 kA I5 (wJ fr5) st5 go;rw[hA]at this;refine aP this λr s6 hh=>?_;obtain⟨u,hr,h6⟩:=hh;subst hr;refine aP h6 λ_ s7 hh=>?_;obtain⟨x,H7,I7,r7,y7,st7,fr7⟩:=hh;have NT:=I7.pinned (wJ fr7) (T.obj _ _ st7);have a8:=sW _ s7 (bP cs σ) H7 x u _ NT r7 (step x H7 y7);rw[hP,hw,hA,lA]at a8;refine aP a8 λ_ s8 hh=>?_;obtain⟨σ8,H8,I8,le8,q8⟩:=hh;have a9:=Cw _ s8 σ8 H8 _ I8 q8;rw[hP,hw,hA,lA]at a9;refine aP a9 λok s9 hh=>?_;obtain⟨H9,I9,q9⟩:=hh;have back:∀{H':Hp}{s':W1},Inv X' ([]++pK fp s7.heap) σ8 H' s'->Inv X' [] (bP cs σ) H' s'/\tn (i+1) s'.heap/\∀b∈fp,H' b=none:=λ{H' s'}J=>by refine⟨J.sx.weak le8.1.symm le8.2,T.keep _ _ _ st7 λb hb o e=>(J.pin (b,o) (Q1 _ (Q1 _ (sv hb e)))).1,λb hb=>?_⟩;obtain⟨o,e,d⟩:=T.obj _ _ st7 b hb;exact(J.pin (b,o) (Q1 _ (Q1 _ (sv hb e)))).2.1
   cases ok with|false=>rw[if_neg WY]at q9⊢;obtain⟨m',hm,w9⟩:=q9;obtain⟨b1,b2,b3⟩:=back I9;exact⟨m',hm,i+1,H9,b1,b2,b3,w9⟩|true=>rw[if_pos rfl]at q9⊢;have sX:=Cy _ s9 σ8 H9 _ I9 q9;rw[hP,hw,hA,lA]at sX;refine aP sX λx10 s10 hh=>?_;obtain⟨v,H10,I10,r10,ys,m',hy,hz,hm,w10⟩:=hh;have s_:=Cb (X:=X') _ s10 σ8 H10 (.ref l) [v] (.ref l) [x10] (λ_ H'=>W (i+1) m' H') I10 rfl (.cons r10 .nil) ⟨l,ys,v,rfl,rfl,hy,hz,w10⟩;rw[hP,hw,hA,lA]at s_;refine aP s_ λ_ s11 hh=>?_;obtain⟨_,H11,I11,_,w11⟩:=hh;obtain⟨b1,b2,b3⟩:=back I11;exact⟨m',hm,i+1,H11,b1,b2,b3,w11⟩
 exact codeAny_compStart_list loop (T.self X.A 0 s4 _ _ Cz loop)
theorem NU(hc:X.calm=true)(S:mB X scope cs)(hi:PI X tg iter wi)(hg:∀s₀ H₀ ex,PG (fJ X scope s₀ H₀ ex) tg g)(ht:∀s₀ H₀ ex,mD (fJ X scope s₀ H₀ ex) ifs tt)(he:∀s₀ H₀ ex,PE (fJ X scope s₀ H₀ ex) elt te)(hs:∀x,Jl iter X.env x=pure x:=by intro _;rfl):PE X (.ListComp elt [⟨tg,iter,ifs,0⟩] scope pos) (wH cs wi g tt te):=by intro pins s σ H Q I h;have p_:∀x∈scope.names,x.2=.free->∃c,X.env.cells.lookup x.1=some c:=λx hx hk=>I.ok.has x.1 (S.free x hx hk);rw[eval_ListComp];refine wpAny_comprehension_free (use:=none) rfl hs (Cm p_) S.kind S.names (aP (hi pins s σ H _ I h) λxv s1 h1=>aP h1 λso s2 h2=>?_);obtain⟨it,fp,tn,J,H2,e,I2,T,st2,f2,q2⟩:=h2;subst e;refine Ct (RR:=λacc C=>compPost (model X.prog X.w) X.A X.xe none (EP X pins σ Q) acc C) hc I2 S T st2 f2 hg ht he q2 ?_;intro l C s' H' I' fC⟨m,n⟩q;exact⟨m,n,λh' lC=>⟨.ref l,H',I'.turned (t':=s'.toks) (λb o hb e=>(lC.2 b hb).trans e) fC.1 fC.2.1 fC.2.2.2.1 fC.2.2.2.2.1 fC.2.2.2.2.2,rfl,q⟩⟩
theorem NV(hc:X.calm=true)(S:mB X scope cs)(hN:X.N.Nodup)(fS:X.N[i]?=some y)(hy:X.env.scope.names.lookup y=some .local)(hi:PI X tg iter wi)(hg:∀s₀ H₀ ex,PG (fJ X scope s₀ H₀ ex) tg g)(ht:∀s₀ H₀ ex,mD (fJ X scope s₀ H₀ ex) ifs tt)(he:∀s₀ H₀ ex,PE (fJ X scope s₀ H₀ ex) elt te)(qa:QN (.ListComp elt [⟨tg,iter,ifs,0⟩] scope pos) (some (.Name y py)) tf.line X.env=pure true:=by rfl)(hs:∀x,Jl iter X.env x=pure x:=by intro _;rfl):PS X (.Assign [.Name y py] (.ListComp elt [⟨tg,iter,ifs,0⟩] scope pos) tf) (sm (wH cs wi g tt te) (sk i)):=by
 intro pins s σ H D I h;have p_:∀x∈scope.names,x.2=.free->∃c,X.env.cells.lookup x.1=some c:=λx hx hk=>I.ok.has x.1 (S.free x hx hk);rw[exec_Assign_Name_used _ _ _ _ qa];refine W0 (wpAny_standAt (W0 ?_));show W4 _ X.A (do let _<-comprehension (.ListComp elt [⟨tg,iter,ifs,0⟩] scope pos) scope X.env _ (newList []) false (eval iter X.env) (some (assign (.Name y py) X.env))) _ _ s;refine W0 (WR (wpAny_comprehension_free (use:=some (assign (.Name y py) X.env)) (Q:=λ_ s'=>SP X pins D .next s') rfl hs (Cm p_) S.kind S.names (aP (hi pins s σ H _ I h) λxv s1 h1=>aP h1 λso s2 h2=>?_)) (λ_ s' hq=>W5 (W5 hq)) λ_ _ e=>e);obtain⟨it,fp,tn,J,H2,e,I2,T,st2,f2,q2⟩:=h2;subst e;refine Ct (RR:=λacc C=>compPost (model X.prog X.w) X.A X.xe (some (assign (.Name y py) X.env)) (λ_ s'=>SP X pins D .next s') acc C) hc I2 S T st2 f2 hg ht he q2 ?_;intro l C s' H' I' fC⟨m,n⟩q;show W4 _ X.A (assign (.Name y py) X.env (.ref l)) _ _ _;refine wpAny_assign_Name (sh I' hN fS (.inl hy) (v:=.ref l) rfl (λmv I'' hh=>?_) (.inr hy));obtain⟨a,wK,ha⟩:=hh;have cQ:C≠a:=by
  rcases ha with rfl|ha;.exact fC.2.1
  .exactλe=>fC.2.2.2.2.1 y a ha e.symm
 refine⟨m,n.sameBut wK cQ,λh' lC=>⟨_,H',I''.turned (t':=mv.toks) (λb o hb e=>(lC.2 b hb).trans e) fC.1 fC.2.1 fC.2.2.2.1 fC.2.2.2.2.1 fC.2.2.2.2.2,q⟩⟩
end
abbrev Tx:=List Nat
variable{ce:Tx->Nat}{ks:List Tx}{tab:Tx->Bool}
def toS(x:Tx):Str:=⟨x.toArray⟩
theorem nN(x:Tx):(toS x).cps.toList=x:=#v[toS]
theorem jM(x:Tx):(toS x).length=x.length:=#v[toS,Str.length]
theorem qb{x}(h:toS x=toS y):x=y:=by have:=congrArg (λz:Str=>z.cps.toList) h;simpa[toS]using this
theorem CB(z:Str):z=toS z.cps.toList:=#v[toS]
abbrev cy:=Sum Int Tx
def eM:cy->Key|.inl i=>.inl i|.inr x=>.inr (toS x)
inductive D where|aJ|bl(b:Bool)|int(i:Int)|str(x:Tx)|tup(xs:List D)|lst(xs:List D)|bU(ar:List (cy×D))|exc(n:Nat)(fl:D)|xd(fs:List (Tx×D))|fn(a:Nat)|dic(ar:List (D×D))
variable{F:D->Option D}{ds dv:List D}
mutual noncomputable def cR:Nat->D->Option NK|_,.int i=>some (.i i)|_,.bl b=>some (.i (if b then 1 else 0))|_,.str x=>some (.s (toS x))|n+1,.tup xs=>(gX n xs).map .t|_,_=>none noncomputable def gX:Nat->List D->Option (List NK)|_,[]=>some []|n,x::xs=>(cR n x).bind λk=>(gX n xs).map λks=>k::ks end
def excAt(C:Addr)(v:V)(a:Addr):Heap->Prop:=λh=>∃o,h.get? a=some o/\o.cls=.ref C/\(∀x,v=.ref x->o.dict=some x)/\∃vs,o.data=.fields vs
def gY(fs:List (Str×V))(x:Addr):Heap->Prop:=λh=>∃mA,h.Ns1 x mA/\∀f,eF (fs.lookup f) (mA f)
inductive S where|pure(d:D)|own(d:D)
variable{ss:List S}
def S.d:S->D|.pure d=>d|.own d=>d
abbrev Dl:=List (Option S)
variable{δ δ':Dl}
inductive Rep(H:Hp)(O:Addr->Prop):V->D->Prop|aJ:Rep H O .aJ .aJ|bl(b:Bool):Rep H O (.bl b) (.bl b)|int(i:Int):Rep H O (.int i) (.int i)|str(x:Tx):Rep H O (.str (toS x)) (.str x)|tup{a:Addr}{vs:List V}{ds:List D}:¬O a->H a=some (.tup vs)->vs.length=ds.length->(∀(i:Nat)v d,vs[i]?=some v->ds[i]?=some d->Rep H O v d)->Rep H O (.ref a) (.tup ds)|lst{a:Addr}{vs:List V}{ds:List D}:¬O a->Rd H a (.lst vs)->vs.length=ds.length->(∀(i:Nat)v d,vs[i]?=some v->ds[i]?=some d->Rep H O v d)->Rep H O (.ref a) (.lst ds)|bU{a:Addr}{ws:List (Key×V)}{ds:List (cy×D)}:¬O a->H a=some (.dK ws)->ws.map (·.1)=ds.map (λp=>eM p.1)->(∀(i:Nat)p q,ws[i]?=some p->ds[i]?=some q->Rep H O p.2 q.2)->Rep H O (.ref a) (.bU ds)|exc{a:Addr}{n:Nat}{v:V}{fl:D}:¬O a->H a=some (.ext (excAt n v a))->Rep H O v fl->Rep H O (.ref a) (.exc n fl)|xd{x:Addr}{fs:List (Str×V)}{ds:List (Tx×D)}:¬O x->H x=some (.ext (gY fs x))->fs.map (·.1)=ds.map (λp=>toS p.1)->(∀(i:Nat)p q,fs[i]?=some p->ds[i]?=some q->Rep H O p.2 q.2)->Rep H O (.ref x) (.xd ds)|fn(a:Addr):Rep H O (.ref a) (.fn a)|dic{a:Addr}{ep:Nat}{ws:List (NK×V×V)}{ds:List (D×D)}:¬O a->H a=some (.dN ep ws)->ws.length=ds.length->(∀(i:Nat)p q,ws[i]?=some p->ds[i]?=some q->Rep H O p.2.1 q.1)->(∀(i:Nat)p q,ws[i]?=some p->ds[i]?=some q->Rep H O p.2.2 q.2)->(∀(i:Nat)p q,ws[i]?=some p->ds[i]?=some q->cR 6 q.1=some p.1)->Rep H O (.ref a) (.dic ds)
abbrev aF(H:Hp)(O:Addr->Prop)(vs:List V)(ds:List D):Prop:=vs.length=ds.length/\∀(i:Nat)v d,vs[i]?=some v->ds[i]?=some d->Rep H O v d
structure DN(H:Hp)(O:Addr->Prop)(ws:List (NK×V×V))(ds:List (D×D)):Prop where
 len:ws.length=ds.length
 key:∀(i:Nat)p q,ws[i]?=some p->ds[i]?=some q->Rep H O p.2.1 q.1val:∀(i:Nat)p q,ws[i]?=some p->ds[i]?=some q->Rep H O p.2.2 q.2mE:∀(i:Nat)p q,ws[i]?=some p->ds[i]?=some q->cR 6 q.1=some p.1
def f9(H:Hp)(O:Addr->Prop)(a:Addr):D->Prop|.lst ds=>∃vs,H a=some (.lst vs)/\aF H O vs ds|.bU ds=>∃ws:List (Key×V),H a=some (.dK ws)/\ws.map (·.1)=ds.map (λp=>eM p.1)/\∀(i:Nat)p q,ws[i]?=some p->ds[i]?=some q->Rep H O p.2 q.2|.dic ds=>∃(ep:Nat)(ws:List (NK×V×V)),H a=some (.dN ep ws)/\DN H O ws ds|_=>False
section
variable{d:D}
theorem Rd.keep{u}(h:Rd H a u)(k:∀o,H a=Option.some o->H' a=Option.some o):Rd H' a u:=by
 rcases h with h|⟨o,h⟩;.exact .inl (k _ h)
 .exact .inr ⟨o,k _ h⟩
theorem Rd.some{u}(h:Rd H a u):∃o,H a=some o:=by
 rcases h with h|⟨o,h⟩;.exact⟨_,h⟩
 .exact⟨_,h⟩
theorem Rep.keep(h:Rep H O v d)(k:∀a o,H a=some o->¬O a->H' a=some o):Rep H' O v d:=by induction h with|aJ=>exact .aJ|bl b=>exact .bl b|int i=>exact .int i|str x=>exact .str x|tup h1 h2 h3 _ ih=>exact .tup h1 (k _ _ h2 h1) h3 ih|lst h1 h2 h3 _ ih=>exact .lst h1 (Rd.keep h2 λo e=>k _ o e h1) h3 ih|bU h1 h2 h3 _ ih=>exact .bU h1 (k _ _ h2 h1) h3 ih|exc h1 h2 _ ih=>exact .exc h1 (k _ _ h2 h1) ih|xd h1 h2 h3 _ ih=>exact .xd h1 (k _ _ h2 h1) h3 ih|fn a=>exact .fn a|dic h1 h2 h3 _ _ h6 ih ih'=>exact .dic h1 (k _ _ h2 h1) h3 ih ih' h6
theorem Rep.aM(h:Rep H O v d)(k:∀a,O' a->O a\/H a=none):Rep H O' v d:=by
 have no:∀{a:Addr}{u:HO},¬O a->Rd H a u->¬O' a:=λ{a u}h1 h2 z=>by grind[Rd.some]
 induction h with|aJ=>exact .aJ|bl b=>exact .bl b|int i=>exact .int i|str x=>exact .str x|tup h1 h2 h3 _ ih=>exact .tup (no h1 (.inl h2)) h2 h3 ih|lst h1 h2 h3 _ ih=>exact .lst (no h1 h2) h2 h3 ih|bU h1 h2 h3 _ ih=>exact .bU (no h1 (.inl h2)) h2 h3 ih|exc h1 h2 _ ih=>exact .exc (no h1 (.inl h2)) h2 ih|xd h1 h2 h3 _ ih=>exact .xd (no h1 (.inl h2)) h2 h3 ih|fn a=>exact .fn a|dic h1 h2 h3 _ _ h6 ih ih'=>exact .dic (no h1 (.inl h2)) h2 h3 ih ih' h6
theorem DN.keep{ws:List (NK×V×V)}{ds:List (D×D)}(h:DN H O ws ds)(k:∀a o,H a=some o->¬O a->H' a=some o):DN H' O ws ds:=⟨h.len,λi p q e1 e2=>(h.key i p q e1 e2).keep k,λi p q e1 e2=>(h.val i p q e1 e2).keep k,h.mE⟩
theorem DN.aM{ws:List (NK×V×V)}{ds:List (D×D)}(h:DN H O ws ds)(k:∀a,O' a->O a\/H a=none):DN H O' ws ds:=⟨h.len,λi p q e1 e2=>(h.key i p q e1 e2).aM k,λi p q e1 e2=>(h.val i p q e1 e2).aM k,h.mE⟩
theorem aF.keep(h:aF H O vs ds)(k:∀a o,H a=some o->¬O a->H' a=some o):aF H' O vs ds:=⟨h.1,λi v d e1 e2=>(h.2 i v d e1 e2).keep k⟩
theorem aF.aM(h:aF H O vs ds)(k:∀a,O' a->O a\/H a=none):aF H O' vs ds:=⟨h.1,λi v d e1 e2=>(h.2 i v d e1 e2).aM k⟩
theorem aF.nil:aF H O [] []:=⟨rfl,λi v d e _=>by simp at e⟩
theorem aF.cons{H O v d vs ds}(h:Rep H O v d)(r:aF H O vs ds):aF H O (v::vs) (d::ds):=by refine⟨#v[r.1],λi v' d' e1 e2=>?_⟩;cases i with|zero=>simp at e1 e2;subst e1;subst e2;exact h|succ i=>exact r.2 i v' d' (~~~e1) (~~~e2)
theorem aF.head(r:aF H O (v::vs) (d::ds)):Rep H O v d:=r.2 0 v d rfl rfl
theorem aF.tail(r:aF H O (v::vs) (d::ds)):aF H O vs ds:=⟨~~~r.1,λi v' d' e1 e2=>r.2 (i+1) v' d' (~~~e1) (~~~e2)⟩
theorem aF.append(h:aF H O vs ds)(h':aF H O iu en):aF H O (vs++iu) (ds++en):=by induction vs generalizing ds with
 |nil=>cases ds with|nil=>exact h'|cons d r=>have:=h.1;simp at this
 |cons v r ih=>cases ds with|nil=>have:=h.1;simp at this|cons d q=>exact .cons h.head (ih h.tail)
theorem aF.get(h:aF H O vs ds)(e:ds[i]?=some d):∃v,vs[i]?=some v/\Rep H O v d:=by have hi:i<ds.length:=(W8.mp e).1;have hv:i<vs.length:=%[h.1|hi];exact⟨vs[i],#v[hv],h.2 i _ d #v[hv] e⟩
theorem aF.take(n:Nat)(h:aF H O vs ds):aF H O (vs.take n) (ds.take n):=by
 refine⟨#v[h.1],λi v d e1 e2=>?_⟩;by_cases hi:i<n;.rw[List.getElem?_take_of_lt hi]at e1 e2;exact h.2 i v d e1 e2
 .rw[List.getElem?_take_eq_none Y']at e1;cases e1
theorem aF.drop(n:Nat)(h:aF H O vs ds):aF H O (vs.drop n) (ds.drop n):=by refine⟨#v[h.1],λi v d e1 e2=>?_⟩;rw[List.getElem?_drop]at e1 e2;exact h.2 (n+i) v d e1 e2
theorem aF.set(h:aF H O vs ds)(r:Rep H O v d)(j:Nat):aF H O (vs.set j v) (ds.set j d):=by
 refine⟨#v[h.1],λi v' d' e1 e2=>?_⟩;by_cases hi:j=i;.subst hi;rw[WL]at e1 e2;simp at e1 e2;obtain⟨_,rfl⟩:=e1;obtain⟨_,rfl⟩:=e2;exact r
 .rw[W9 hi]at e1 e2;exact h.2 i v' d' e1 e2
theorem f9.keep(h:f9 H O a d)(hk:∀b o,H b=Option.some o->¬O b->H' b=Option.some o)(ha:∀o,H a=Option.some o->H' a=Option.some o):f9 H' O a d:=by cases d<;>first|exact h.elim|(obtain⟨vs,e,r⟩:=h;exact⟨vs,ha _ e,aF.keep r hk⟩)|(obtain⟨ws,e,r,q⟩:=h;exact⟨ws,ha _ e,r,λi p p' e1 e2=>(q i p p' e1 e2).keep hk⟩)|(obtain⟨ep,ws,e,r⟩:=h;exact⟨ep,ws,ha _ e,r.keep hk⟩)
theorem f9.aM(h:f9 H O a d)(k:∀a,O' a->O a\/H a=none):f9 H O' a d:=by cases d<;>first|exact h.elim|(obtain⟨vs,e,r⟩:=h;exact⟨vs,e,aF.aM r k⟩)|(obtain⟨ws,e,r,q⟩:=h;exact⟨ws,e,r,λi p p' e1 e2=>(q i p p' e1 e2).aM k⟩)|(obtain⟨ep,ws,e,r⟩:=h;exact⟨ep,ws,e,r.aM k⟩)
theorem f9.some(h:f9 H O a d):∃o,H a=some o:=by cases d<;>first|exact h.elim|(obtain⟨vs,e,r⟩:=h;exact⟨_,e⟩)|(obtain⟨ep,vs,e,r⟩:=h;exact⟨_,e⟩)
theorem f9.rep(h:f9 H O a d)(ho:¬O a):Rep H O (.ref a) d:=by cases d with|lst ds=>obtain⟨vs,e,r⟩:=h;exact .lst ho (.inl e) r.1 r.2|bU ds=>obtain⟨ws,e,r,q⟩:=h;exact .bU ho e r q|dic ds=>obtain⟨ep,ws,e,r⟩:=h;exact .dic ho e r.len r.key r.val r.mE|_=>exact h.elim
end
structure Xc where
 cls:Tx
 jd:D
structure Fc where
 H₀:Hp
 B:Addr->Prop
 pin:List (Nat×Addr)xc:Xc->Dl->Prop:=λ_ _=>False
variable{c:Fc}
def Fc.plus(c:Fc)(p:Addr):Fc:={c with B:=λa=>c.B a\/a=p}
def Fc.I(c:Fc)(a:Addr):Prop:=∃i,(i,a)∈c.pin
def Own(σ:St)(δ:Dl)(a:Addr):Prop:=∃(i:Nat)(d:D),δ[i]?=some (some (.own d))/\σ[i]?=some (some (.ref a))
def Av(c:Fc)(σ:St)(δ:Dl)(a:Addr):Prop:=c.B a\/Own σ δ a
structure Ok(c:Fc)(σ:St)(δ:Dl)(H:Hp):Prop where
 keep:∀a o,c.H₀ a=some o->¬c.I a->H a=some o
 bd:∀a,c.B a->∃o,H a=some o
 du:∀a,c.I a->∃o,H a=some o
 len:δ.length=σ.length
 slot:∀(i:Nat)d,δ[i]?=some (some (.pure d))->∃v,σ[i]?=some (some v)/\Rep H (Av c σ δ) v d
 own:∀(i:Nat)d,δ[i]?=some (some (.own d))->∃a,σ[i]?=some (some (.ref a))/\f9 H (Av c σ δ) a d/\(c.I a\/c.H₀ a=none)/\¬c.B a
 inj:∀(i j:Nat)a d d',δ[i]?=some (some (.own d))->δ[j]?=some (some (.own d'))->σ[i]?=some (some (.ref a))->σ[j]?=some (some (.ref a))->i=j
 pinned:∀p∈c.pin,σ[p.1]?=some (some (.ref p.2))
structure aK(c:Fc)(σ:St)(δ:Dl)(H:Hp)(σ':St)(δ':Dl)(H':Hp):Prop where
 ok:Ok c σ' δ' H'
 keep:∀a o,H a=some o->¬Own σ δ a->H' a=some o
 own:∀a,Own σ' δ' a->Own σ δ a\/H a=none
 there:∀a o,H a=some o->∃o',H' a=some o'
section
variable{σ'':St}{δ'':Dl}{CD:Hp}{d:D}{p:Addr}
theorem Ok.NW(k:Ok c σ δ H)(h:c.B a):∃o,H a=some o:=k.bd a h
theorem Ok.qc(k:Ok c σ δ H)(h:Own σ δ a):∃o,H a=some o:=by obtain⟨i,d,e1,e2⟩:=h;obtain⟨b,e3,q,_⟩:=k.own i d e1;rw[e2]at e3;cases e3;exact q.some
theorem Ok.tj(k:Ok c σ δ H)(h:Av c σ δ a):∃o,H a=some o:=h.elim k.NW k.qc
theorem Ok.gZ(k:Ok c σ δ H)(h:H a=none):¬Av c σ δ a:=λz=>by obtain⟨o,e⟩:=k.tj z;grind
theorem aK.refl(k:Ok c σ δ H):aK c σ δ H σ δ H:=⟨k,λ_ _ e _=>e,λ_ h=>.inl h,λ_ o e=>⟨o,e⟩⟩
theorem aK.trans(x:aK c σ δ H σ' δ' H')(y:aK c σ' δ' H' σ'' δ'' CD):aK c σ δ H σ'' δ'' CD:=by
 refine⟨y.ok,λa o e n=>?_,λa h=>?_,λa o e=>?_⟩;.refine y.keep a o (x.keep a o e n) λz=>?_;rcases x.own a z with q|q;all_goals grind
 .rcases y.own a h with q|q;.exact x.own a q
  .right;cases e:H a with|none=>rfl|some o=>obtain⟨o',e'⟩:=x.there a o e;grind
 .obtain⟨o',e'⟩:=x.there a o e;exact y.there a o' e'
theorem aK.av(x:aK c σ δ H σ' δ' H'):∀a,Av c σ' δ' a->Av c σ δ a\/H a=none:=λa h=>by
 rcases h with h|h;.exact .inl (.inl h)
 .rcases x.own a h with q|q;.exact .inl (.inr q)
  .exact .inr q
theorem Rep.dw(h:Rep H (Av c σ δ) v d)(x:aK c σ δ H σ' δ' H'):Rep H' (Av c σ' δ') v d:=by have h1:Rep H (λa=>Av c σ δ a\/Av c σ' δ' a) v d:=Rep.aM h λa z=>z.elim .inl (x.av a);exact(h1.keep λa o e n=>x.keep a o e λz=>n (.inl (.inr z))).aM λa z=>.inl (.inr z)
theorem aF.dw(h:aF H (Av c σ δ) vs ds)(x:aK c σ δ H σ' δ' H'):aF H' (Av c σ' δ') vs ds:=⟨h.1,λi v d e1 e2=>Rep.dw (h.2 i v d e1 e2) x⟩
def aY(c:Fc)(σ:St)(δ:Dl)(Hs H:Hp)(v:V):S->Prop|.pure d=>Rep H (Av c σ δ) v d|.own d=>∃a,v=.ref a/\f9 H (Av (c.plus a) σ δ) a d/\¬c.B a/\c.H₀ a=none/\Ok (c.plus a) σ δ H/\Hs a=none
theorem tm(k:Ok (c.plus a) σ δ H):¬Own σ δ a:=λ⟨i,d,e1,e2⟩=>by obtain⟨b,e3,_,_,n⟩:=k.own i d e1;rw[e2]at e3;cases e3;exact n (.inr rfl)
theorem aY.rep(h:aY c σ δ Hs H v r):Rep H (Av c σ δ) v r.d:=by cases r with|pure d=>exact h|own d=>obtain⟨a,rfl,o,n,f,k,_⟩:=h;refine(o.aM λb z=>.inl ?_).rep λz=>z.elim n (tm k);exact z.elim (λz=>.inl (.inl z)) .inr
theorem aY.back(h:aY c σ δ Hs H v r)(x:aK c σ₀ δ₀ H' σ' δ' Hs):aY c σ δ H' H v r:=by cases r with|pure d=>exact h|own d=>obtain⟨a,e,o,n,f,k,hs⟩:=h;refine⟨a,e,o,n,f,k,?_⟩;cases q:H' a with|none=>rfl|some o=>obtain⟨o',e'⟩:=x.there a o q;grind
theorem aY.NX(h:aY c σ δ Hs H v r):aY c σ δ c.H₀ H v r:=by cases r with|pure d=>exact h|own d=>obtain⟨a,e,o,n,f,k,hs⟩:=h;exact⟨a,e,o,n,f,k,f⟩
theorem Ok.alloc(k:Ok c σ δ H)(hp:H p=none)(o:HO):Ok c σ δ (upd H p o):=by
 have up:∀a w,H a=some w->upd H p o a=some w:=λa w e=>by rw[aI (eK e hp)];exact e
 refine⟨λa w e n=>up a w (k.keep a w e n),λa z=>(k.bd a z).elim λw e=>⟨w,up a w e⟩,λa z=>(k.du a z).elim λw e=>⟨w,up a w e⟩,k.len,λi d e=>?_,λi d e=>?_,k.inj,k.pinned⟩;.obtain⟨v,e1,r⟩:=k.slot i d e;exact⟨v,e1,r.keep λa w q _=>up a w q⟩
 .obtain⟨a,e1,r,q⟩:=k.own i d e;exact⟨a,e1,r.keep (λb w q _=>up b w q) λw q=>up a w q,q⟩
theorem aK.alloc(k:Ok c σ δ H)(hp:H p=none)(o:HO):aK c σ δ H σ δ (upd H p o):=by
 have up:∀a w,H a=some w->upd H p o a=some w:=λa w e=>by rw[aI (eK e hp)];exact e
 exact⟨k.alloc hp o,λa w e _=>up a w e,λa h=>.inl h,λa w e=>⟨w,up a w e⟩⟩
theorem Ok.jN(k:Ok c σ δ H)(hp:H p=none):c.H₀ p=none:=by cases e:c.H₀ p with|none=>rfl|some o=>
 by_cases q:c.I p;.obtain⟨w,e'⟩:=k.du p q;grind
 .have:=k.keep p o e q;grind
theorem Ok.plus(k:Ok c σ δ H)(hp:H p=none)(o:HO):Ok (c.plus p) σ δ (upd H p o):=by
 have k':=k.alloc hp o;have sub:∀b,Av (c.plus p) σ δ b->Av c σ δ b\/b=p:=λb z=>by
  rcases z with(z|z)|z;.exact .inl (.inl z)
  .exact .inr z
  .exact .inl (.inr z)
 have tu:∀b,Av (c.plus p) σ δ b->Av c σ δ b\/H b=none:=λb z=>(sub b z).elim .inl λe=>.inr %[e|hp];have up:∀a w,H a=some w->upd H p o a=some w:=λa w e=>by rw[aI (eK e hp)];exact e
 refine⟨k'.keep,λa z=>?_,k'.du,k.len,λi d e=>?_,λi d e=>?_,k.inj,k.pinned⟩
 .rcases z with z|z;.exact k'.bd a z
  .exact⟨o,%[z|bL]⟩
 .obtain⟨v,e1,r⟩:=k.slot i d e;exact⟨v,e1,(r.aM tu).keep λa w q _=>up a w q⟩
 .obtain⟨a,e1,r,q,nb⟩:=k.own i d e;refine⟨a,e1,(r.aM tu).keep (λb w q _=>up b w q) λw q=>up a w q,q,λz=>?_⟩;rcases z with z|z;all_goals grind[f9.some]
theorem aY.nO(k:Ok c σ δ H)(r:aF H (Av c σ δ) vs ds)(hp:H p=none):aY c σ δ H (upd H p (.lst vs)) (.ref p) (.own (.lst ds)):=by
 have up:∀a w,H a=some w->upd H p (.lst vs) a=some w:=λa w e=>by rw[aI (eK e hp)];exact e
 refine⟨p,rfl,⟨vs,bL,?_⟩,λz=>k.gZ hp (.inl z),k.jN hp,k.plus hp _,hp⟩;have r1:aF H (Av (c.plus p) σ δ) vs ds:=aF.aM r λb z=>by
  rcases z with(z|z)|z;.exact .inl (.inl z)
  .exact .inr %[z|hp]
  .exact .inl (.inr z)
 exact aF.keep r1 λb w e _=>up b w e
theorem aY.nQ(k:Ok c σ δ H)(r:aF H (Av c σ δ) vs ds)(hp:H p=none):aY c σ δ H (upd H p (.tup vs)) (.ref p) (.pure (.tup ds)):=by
 have up:∀a w,H a=some w->upd H p (.tup vs) a=some w:=λa w e=>by rw[aI (eK e hp)];exact e
 have r1:=aF.keep r (H':=upd H p (.tup vs)) λb w e _=>up b w e;exact .tup (k.gZ hp) bL r1.1 r1.2
end
inductive Rs(α:Type)where|ok(a:α)(δ:Dl)|exc(x:Xc)(δ:Dl)|stuck
noncomputable def Rs.bind{α β:Type}(r:Rs α)(f:α->Dl->Rs β):Rs β:=match r with|.ok a δ=>f a δ|.exc x δ=>.exc x δ|.stuck=>.stuck
abbrev DE:=Dl->Rs S
variable{el fe fi:DE}
def XC(c:Fc)(x:Xc)(δ:Dl):Prop:=c.xc x δ
def post{α:Type}(c:Fc)(r:Rs α)(k:α->Dl->Prop):Prop:=match r with|.ok a δ=>k a δ|.exc x δ=>XC c x δ|.stuck=>False
theorem bh{f}:post c (r.bind f) k↔post c r λa δ=>post c (f a δ) k:=by cases r<;>exact Iff.rfl
theorem aN(h:post c r k)(m:∀a δ,k a δ->k' a δ):post c r k':=by cases r with|ok a δ=>exact m a δ h|exc x δ=>exact h|stuck=>exact h
def tD(c:Fc)(f:DE):TE:=λσ H Q=>∃δ,Ok c σ δ H/\post c (f δ) λr δ'=>∀v H',aK c σ δ H σ δ' H'->aY c σ δ' H H' v r->Q v H'
abbrev SE(X:Cx)(c:Fc)(e:Expr)(f:DE):Prop:=PE X e (tD c f)
def c7(c:Fc)(σ:St)(δ:Dl)(H:Hp)(v:V)(d:D):Prop:=Rep H (Av c σ δ) v d\/∃a,v=.ref a/\f9 H (Av c σ δ) a d
abbrev BE:=Dl->Rs D
variable{fb:BE}
def UF(c:Fc)(f:BE):TE:=λσ H Q=>∃δ,Ok c σ δ H/\post c (f δ) λd δ'=>∀v H',aK c σ δ H σ δ' H'->c7 c σ δ' H' v d->Q v H'
abbrev SB(X:Cx)(c:Fc)(e:Expr)(f:BE):Prop:=PE X e (UF c f)
theorem PE.weak{t'}(h:PE X e t)(w:∀σ H Q,t' σ H Q->t σ H Q):PE X e t':=λpins s σ H Q I q=>h pins s σ H Q I (w σ H Q q)
def ah(f:DE):BE:=λδ=>(f δ).bind λr δ'=>.ok r.d δ'
theorem aY.b(h:aY c σ δ Hs H v r):c7 c σ δ H v r.d:=.inl h.rep
theorem NY{f:DE}(h:SE X c e f):SB X c e (ah f):=PE.weak h λσ H Q⟨δ,k,p⟩=>⟨δ,k,by unfold ah at p;rw[bh]at p;exact aN p λr δ' q v H' a s=>q v H' a s.b⟩
def aj(i:Nat):BE:=λδ=>match δ[i]? with|some (some r)=>.ok r.d δ|_=>.stuck
def aa(i:Nat):DE:=λδ=>match δ[i]? with|some (some (.pure d))=>.ok (.pure d) δ|some (some (.own d))=>.ok (.pure d) (δ.set i (some (.pure d)))|_=>.stuck
def eD(d:D):DE:=λδ=>.ok (.pure d) δ
theorem NZ(h:PE X e (dZ i)):SB X c e (aj i):=PE.weak h λσ H Q⟨δ,k,p⟩=>by unfold aj at p;cases e:δ[i]? with|none=>rw[e]at p;exact p.elim|some o=>cases o with|none=>rw[e]at p;exact p.elim|some r=>rw[e]at p;cases r with|pure d=>obtain⟨v,e1,r⟩:=k.slot i d e;exact⟨v,e1,p v H (.refl k) (.inl r)⟩|own d=>obtain⟨a,e1,r,_⟩:=k.own i d e;exact⟨.ref a,e1,p _ H (.refl k) (.inr ⟨a,rfl,r⟩)⟩
theorem Own.sub(h:Own σ (δ.set i (some (.pure d))) a):Own σ δ a:=by
 obtain⟨j,d',e1,e2⟩:=h;by_cases hj:i=j;.subst hj;rw[WL]at e1;simp at e1
 .rw[W9 hj]at e1;exact⟨j,d',e1,e2⟩
theorem Ok.give(k:Ok c σ δ H)(e:δ[i]?=some (some (.own d))):∃a,σ[i]?=some (some (.ref a))/\aK c σ δ H σ (δ.set i (some (.pure d))) H/\Rep H (Av c σ (δ.set i (some (.pure d)))) (.ref a) d:=by
 obtain⟨a,e1,r,q,nb⟩:=k.own i d e;have hi:i<δ.length:=(W8.mp e).1;have sub:∀b,Av c σ (δ.set i (some (.pure d))) b->Av c σ δ b:=λb z=>z.elim .inl λz=>.inr z.sub;have na:¬Av c σ (δ.set i (some (.pure d))) a:=by
  rintro(z|⟨j,d',f1,f2⟩);.exact nb z
  .by_cases hj:i=j;.subst hj;rw[WL]at f1;simp at f1
   .rw[W9 hj]at f1;exact hj (k.inj i j a d d' e f1 e1 f2)
 have rep:Rep H (Av c σ (δ.set i (some (.pure d)))) (.ref a) d:=(r.aM λb z=>.inl (sub b z)).rep na;refine⟨a,e1,⟨⟨k.keep,k.bd,k.du,%[Qs|k.len],λj d' f=>?_,λj d' f=>?_,λj l b d1 d2 f1 f2=>?_,k.pinned⟩,λ_ _ w _=>w,λb z=>.inl z.sub,λ_ o w=>⟨o,w⟩⟩,rep⟩
 .by_cases hj:i=j;.subst hj;rw[Wl hi]at f;cases f;exact⟨.ref a,e1,rep⟩
  .rw[W9 hj]at f;obtain⟨v,g1,g2⟩:=k.slot j d' f;exact⟨v,g1,g2.aM λb z=>.inl (sub b z)⟩
 .by_cases hj:i=j;.subst hj;rw[Wl hi]at f;cases f
  .rw[W9 hj]at f;obtain⟨b,g1,g2,g3⟩:=k.own j d' f;exact⟨b,g1,g2.aM λb z=>.inl (sub b z),g3⟩
 .have h1:δ[j]?=some (some (.own d1)):=by
   by_cases hj:i=j;.subst hj;rw[Wl hi]at f1;cases f1
   .rw[W9 hj]at f1;exact f1
  have h2:δ[l]?=some (some (.own d2)):=by
   by_cases hj:i=l;.subst hj;rw[Wl hi]at f2;cases f2
   .rw[W9 hj]at f2;exact f2
  exact k.inj j l b d1 d2 h1 h2
theorem N0(h:PE X e (dZ i)):SE X c e (aa i):=PE.weak h λσ H Q⟨δ,k,p⟩=>by unfold aa at p;cases e:δ[i]? with|none=>rw[e]at p;exact p.elim|some o=>cases o with|none=>rw[e]at p;exact p.elim|some r=>rw[e]at p;cases r with|pure d=>obtain⟨v,e1,r⟩:=k.slot i d e;exact⟨v,e1,p v H (.refl k) r⟩|own d=>obtain⟨a,e1,x,r⟩:=k.give e;exact⟨.ref a,e1,p _ H x r⟩
theorem CF{i j pos}:SE X c (.Constant (.int i) j pos) (eD (.int i)):=PE.weak Lq λσ H Q⟨δ,k,p⟩=>p _ H (.refl k) (.int i)
theorem CG{b j pos}:SE X c (.Constant (.bool b) j pos) (eD (.bl b)):=PE.weak vQ λσ H Q⟨δ,k,p⟩=>p _ H (.refl k) (.bl b)
theorem CI{j pos}:SE X c (.Constant .none j pos) (eD .aJ):=PE.weak Lr λσ H Q⟨δ,k,p⟩=>p _ H (.refl k) .aJ
theorem CJ{x j pos}(y:Tx)(h:x=toS y:=by decide+kernel):SE X c (.Constant (.str x) j pos) (eD (.str y)):=by subst h;exact PE.weak Be λσ H Q⟨δ,k,p⟩=>p _ H (.refl k) (.str y)
theorem N1{i}(hg:Gl X x)(hm:X.mg x=some (.int i t))(hd:(x==("__debug__":Str))=false:=by decide):SE X c (.Name x pos) (eD (.int i)):=PE.weak (Bf (v:=.int i) hg hm ⟨t,rfl⟩ hd) λσ H Q⟨δ,k,p⟩=>p _ H (.refl k) (.int i)
open PySem.SeqAt
mutual noncomputable def aW:D->D->Bool|.aJ,.aJ=>true|.bl a,.bl b=>a==b|.int a,.int b=>a==b|.bl a,.int b=>(if a then 1 else 0)==b|.int a,.bl b=>a==if b then 1 else 0|.str a,.str b=>a==b|.tup xs,.tup ys=>e_ xs ys|.lst xs,.lst ys=>e_ xs ys|_,_=>false noncomputable def e_:List D->List D->Bool|[],[]=>true|x::xs,y::ys=>aW x y&&e_ xs ys|_,_=>false end
mutual noncomputable def flat:Nat->D->Bool|_,.aJ=>true|_,.bl _=>true|_,.int _=>true|_,.str _=>true|0,.tup _=>false|n+1,.tup xs=>eV n xs|0,.lst _=>false|n+1,.lst xs=>eV n xs|_,.bU _=>false|_,.exc _ _=>false|_,.xd _=>false|_,.fn _=>false|_,.dic _=>false noncomputable def eV:Nat->List D->Bool|_,[]=>true|n,x::xs=>flat n x&&eV n xs end
theorem mF:∀{xs:List D}{x:D},eV n xs=true->x∈xs->flat n x=true
 |[],_,_,h=>by simp at h|y::ys,x,h,hm=>by
  simp only[eV,Wo]at h;rcases Ws.mp hm with e|hm;.rw[e];exact h.1
  .exact mF h.2 hm
theorem tE:∀{xs ys:List D}{f:Nat->Bool},xs.length=ys.length->(∀(j:Nat)x y,xs[j]?=some x->ys[j]?=some y->f j=aW x y)->(WM xs.length).all f=e_ xs ys|[],[],f,_,_=>rfl|[],y::ys,f,h,_=>by simp at h|x::xs,[],f,h,_=>by simp at h|x::xs,y::ys,f,h,hf=>by simp only[e_];rw[Q4,List.range_succ_eq_map,List.all_cons,hf 0 x y rfl rfl,List.all_map];rw[<-tE (f:=λj=>f (j+1)) (~~~h) λj a b e1 e2=>hf (j+1) a b (~~~e1) (~~~e2)];rfl
theorem tF:∀{xs ys:List D},xs.length≠ys.length->e_ xs ys=false|[],[],h=>absurd rfl h|[],y::ys,_=>rfl|x::xs,[],_=>rfl|x::xs,y::ys,h=>by simp only[e_];rw[tF (xs:=xs) (ys:=ys) (by intro e;exact h #v[e])];simp
mutual theorem tG:∀{n:Nat}{d:D},flat n d=true->aW d d=true|_,.aJ,_=>rfl|_,.bl b,_=>#v[aW]|_,.int i,_=>#v[aW]|_,.str x,_=>#v[aW]|0,.tup xs,h=>by simp[flat]at h|n+1,.tup xs,h=>by simp only[aW];exact wL (n:=n) (by simpa[flat]using h)|0,.lst xs,h=>by simp[flat]at h|n+1,.lst xs,h=>by simp only[aW];exact wL (n:=n) (by simpa[flat]using h)|_,.bU xs,h=>by simp[flat]at h|_,.exc n _,h=>by simp[flat]at h|_,.xd n,h=>by simp[flat]at h;theorem wL:∀{n:Nat}{ds:List D},eV n ds=true->e_ ds ds=true|_,[],_=>rfl|n,x::xs,h=>by simp only[eV,Wo]at h;simp only[e_];rw[tG h.1,wL h.2];rfl;end
abbrev c8:Addr->Prop:=λ_=>False
theorem Rep.un(h:Rep H O v d):Rep H c8 v d:=Rep.aM h λ_ z=>z.elim
theorem c7.un(h:c7 c σ δ H v d):Rep H c8 v d:=by
 rcases h with h|⟨a,rfl,o⟩;.exact Rep.un h
 .exact(o.aM (O':=c8) λ_ z=>z.elim).rep λz=>z
theorem Inv.lD(I:Inv X pins σ H s)(h:Rd H a (.lst vs)):∃its:List Value,Vals vs its/\s.heap.IsList a its.toArray:=by obtain⟨its,r,p,_⟩:=I.list (.inl h);exact⟨its,r,p.isList⟩
theorem Inv.lE(I:Inv X pins σ H s)(h:H a=some (.tup vs)):∃its:List Value,Vals vs its/\s.heap.IsTuple a its.toArray:=by obtain⟨its,r,p,_⟩:=I.tuple (.of h);exact⟨its,r,p⟩
theorem nR(x y:Tx):((toS x:Str)==toS y)=(x==y):=by rw[JD];simp only[beq_iff_eq];exact⟨qb,λe=>by rw[e]⟩
theorem N2(A:Wh):A.in1.units=A.units+1:=rfl
theorem Rd.inj{u w}(h:Rd H a u)(k:Rd H a w)(hu:∀o z,u≠.frz o z)(hw:∀o z,w≠.frz o z):u=w:=by
 rcases h with h|⟨o,h⟩<;>rcases k with k|⟨o',k⟩;.rw[h]at k;exact WG k
 .rw[h]at k;exact absurd (WG k) (hu _ _)
 .rw[h]at k;exact absurd (WG k).symm (hw _ _)
 .rw[h]at k;have:=WG k;injection this
theorem aF.inj:∀{ds es:List D},vs.length=ds.length->vs.length=es.length->(∀(i:Nat)v d e,vs[i]?=some v->ds[i]?=some d->es[i]?=some e->d=e)->ds=es:=by
 intro ds es h1 h2 h;apply List.ext_getElem?;intro i;by_cases hi:i<vs.length
 .have a1:i<ds.length:=by lia
  have a2:i<es.length:=by lia
  rw[W3 a1,W3 a2];rw[h i vs[i] ds[i] es[i] #v[hi] #v[a1] #v[a2]]
 .rw[Qk Y',Qk Y']
theorem Rep.inj{d:D}(h:Rep H O v d):∀{n:Nat}{e:D},flat n d=true->flat n e=true->Rep H O v e->d=e:=by induction h with
 |aJ=>intro n e _ _ k;cases k;rfl|bl b=>intro n e _ _ k;cases k;rfl|int i=>intro n e _ _ k;cases k;rfl|str x=>intro n e _ _ k;generalize hz:V.str (toS x)=z at k;cases k with|str y=>injection hz with hz;rw[qb hz]|_=>cases hz
 |@tup a vs ds h1 h2 h3 h4 ih=>intro n e fd fe k;cases n with|zero=>simp[flat]at fd|succ n=>simp only[flat]at fd;cases k with|@tup _ ws es k1 k2 k3 k4=>simp only[flat]at fe;have e1:=Rd.inj (.inl h2) (.inl k2) (λ_ _ z=>by cases z) (λ_ _ z=>by cases z);injection e1 with e1;subst e1;rw[aF.inj h3 k3 λi v d e q1 q2 q3=>ih i v d q1 q2 (mF fd (Wq q2)) (mF fe (Wq q3)) (k4 i v e q1 q3)]|lst k1 k2=>exact absurd (Rd.inj (.inl h2) k2 (λ_ _ z=>by cases z) λ_ _ z=>by cases z) λz=>by cases z|bU k1 k2=>exact absurd (Rd.inj (.inl h2) (.inl k2) (λ_ _ z=>by cases z) λ_ _ z=>by cases z) λz=>by cases z|exc k1 k2=>simp[flat]at fe|xd k1 k2=>simp[flat]at fe|fn _=>simp[flat]at fe|dic _=>simp[flat]at fe
 |@lst a vs ds h1 h2 h3 h4 ih=>intro n e fd fe k;cases n with|zero=>simp[flat]at fd|succ n=>simp only[flat]at fd;cases k with|@lst _ ws es k1 k2 k3 k4=>simp only[flat]at fe;have e1:=Rd.inj h2 k2 (λ_ _ z=>by cases z) (λ_ _ z=>by cases z);injection e1 with e1;subst e1;rw[aF.inj h3 k3 λi v d e q1 q2 q3=>ih i v d q1 q2 (mF fd (Wq q2)) (mF fe (Wq q3)) (k4 i v e q1 q3)]|tup k1 k2=>exact absurd (Rd.inj h2 (.inl k2) (λ_ _ z=>by cases z) λ_ _ z=>by cases z) λz=>by cases z|bU k1 k2=>exact absurd (Rd.inj h2 (.inl k2) (λ_ _ z=>by cases z) λ_ _ z=>by cases z) λz=>by cases z|exc k1 k2=>simp[flat]at fe|xd k1 k2=>simp[flat]at fe|fn _=>simp[flat]at fe|dic _=>simp[flat]at fe
 |bU h1 h2 h3 h4 ih=>intro n e fd _ _;cases n<;>simp[flat]at fd|exc h1 h2=>intro n e fd _ _;cases n<;>simp[flat]at fd|xd h1 h2=>intro n e fd _ _;cases n<;>simp[flat]at fd|fn _=>intro n e fd _ _;cases n<;>simp[flat]at fd|dic h1 h2=>intro n e fd _ _;cases n<;>simp[flat]at fd
def wM(H:Hp)(s:W1)(n:Nat):Prop:=∀(A:Wh)(x y:V)(u w:Value)(d e:D),A.units+n+1<WD->flat n d=true->flat n e=true->Rep H c8 x d->Rep H c8 y e->RelV x u->RelV y w->EqAt A s u w (aW d e)
def mG(H:Hp)(s:W1)(A:Wh)(n:Nat):Prop:=match n with|0=>True|m+1=>A.units+m+2<WD/\wM H s m
def tJ(ds es:List D)(j:Nat):Bool:=match ds[j]?,es[j]? with|some p,some q=>aW p q|_,_=>false
theorem tK{es}(j:Nat)(p q:D)(e1:ds[j]?=some p)(e2:es[j]?=some q):tJ ds es j=aW p q:=by unfold tJ;rw[e1,e2]
theorem tL{ws:List V}{es:List D}{g0:List Value}(hu:A.units+n+2<WD)(ih:wM H s n)(r1:Vals vs its)(r2:Vals ws g0)(l1:vs.length=ds.length)(l2:ws.length=es.length)(g1:∀(i:Nat)v d,vs[i]?=some v->ds[i]?=some d->Rep H c8 v d)(g2:∀(i:Nat)v d,ws[i]?=some v->es[i]?=some d->Rep H c8 v d)(f1:eV n ds=true)(f2:eV n es=true):∀j(h1:j<its.toArray.size)(h2:j<g0.toArray.size),EqAt A.in1 s its.toArray[j] g0.toArray[j] (tJ ds es j):=by
 intro j h1 h2;have e1:=r1.length;have e2:=r2.length;simp at h1 h2;have hd:j<ds.length:=by lia
 have he:j<es.length:=by lia
 have hv:j<vs.length:=by lia
 have hw:j<ws.length:=by lia
 obtain⟨u',wN,ru'⟩:=r1.get (i:=j) (x:=vs[j]) #v[hv];obtain⟨w',hw',rw''⟩:=r2.get (i:=j) (x:=ws[j]) #v[hw];have eu:its.toArray[j]=u':=by simpa[h1]using wN
 have ew:g0.toArray[j]=w':=by simpa[h2]using hw'
 rw[eu,ew,tK j ds[j] es[j] #v[hd] #v[he]];exact ih A.in1 vs[j] ws[j] u' w' ds[j] es[j] (by rw[N2];lia) (mF f1 (WX hd)) (mF f2 (WX he)) (g1 j _ _ #v[hv] #v[hd]) (g2 j _ _ #v[hw] #v[he]) ru' rw''
theorem CK{m es}(h1:n=ds.length)(h2:m=es.length):((WM (min n m)).all (tJ ds es)&&n==m)=e_ ds es:=by
 subst h1 h2;by_cases hl:ds.length=es.length;.rw[<-hl,Nat.min_self,tE hl tK];simp
 .rw[tF hl];simp[hl]
theorem N3{es}(I:Inv X pins σ H s)(n:Nat)(A:Wh)(bQ:A.units<WD)(t1:s.heap.IsTuple a its.toArray)(t2:s.heap.IsTuple b g0.toArray)(r1:Vals vs its)(r2:Vals ws g0)(l1:vs.length=ds.length)(l2:ws.length=es.length)(g1:∀(i:Nat)v d,vs[i]?=some v->ds[i]?=some d->Rep H c8 v d)(g2:∀(i:Nat)v d,ws[i]?=some v->es[i]?=some d->Rep H c8 v d)(f1:flat n (.tup ds)=true)(f2:flat n (.tup es)=true)(ih:mG H s A n):RcAt A s (.ref a) (.ref b) (e_ ds es):=by cases n with|zero=>simp[flat]at f1|succ n=>simp only[flat]at f1 f2;obtain⟨hu,ih⟩:=ih;have q:=RcAt.tuples (A:=A) (s:=s) t1 t2 bQ (tL hu ih r1 r2 l1 l2 g1 g2 f1 f2);rw[CK (by have:=r1.length;simp;lia) (by have:=r2.length;simp;lia)]at q;exact q
theorem N4{es}(I:Inv X pins σ H s)(n:Nat)(A:Wh)(bQ:A.units<WD)(t1:s.heap.IsTuple a its.toArray)(t2:s.heap.IsTuple b g0.toArray)(r1:Vals vs its)(r2:Vals ws g0)(l1:vs.length=ds.length)(l2:ws.length=es.length)(g1:∀(i:Nat)v d,vs[i]?=some v->ds[i]?=some d->Rep H c8 v d)(g2:∀(i:Nat)v d,ws[i]?=some v->es[i]?=some d->Rep H c8 v d)(f1:flat n (.tup ds)=true)(f2:flat n (.tup es)=true)(ih:mG H s A n):RcNeAt A s (.ref a) (.ref b) !e_ ds es:=by cases n with|zero=>simp[flat]at f1|succ n=>simp only[flat]at f1 f2;obtain⟨hu,ih⟩:=ih;have q:=RcNeAt.tuples (A:=A) (s:=s) t1 t2 bQ (tL hu ih r1 r2 l1 l2 g1 g2 f1 f2);rw[CK (by have:=r1.length;simp;lia) (by have:=r2.length;simp;lia)]at q;exact q
theorem N5{es}(I:Inv X pins σ H s)(n:Nat)(A:Wh)(bQ:A.units<WD)(t1:s.heap.IsList a its.toArray)(t2:s.heap.IsList b g0.toArray)(r1:Vals vs its)(r2:Vals ws g0)(l1:vs.length=ds.length)(l2:ws.length=es.length)(g1:∀(i:Nat)v d,vs[i]?=some v->ds[i]?=some d->Rep H c8 v d)(g2:∀(i:Nat)v d,ws[i]?=some v->es[i]?=some d->Rep H c8 v d)(f1:flat n (.lst ds)=true)(f2:flat n (.lst es)=true)(ih:mG H s A n):RcAt A s (.ref a) (.ref b) (e_ ds es):=by cases n with|zero=>simp[flat]at f1|succ n=>
 simp only[flat]at f1 f2;obtain⟨hu,ih⟩:=ih;have z1:its.toArray.size=ds.length:=by have:=r1.length;simp;lia
 have z2:g0.toArray.size=es.length:=by have:=r2.length;simp;lia
 by_cases hl:ds.length=es.length;.have q:=RcAt.lists (A:=A) (s:=s) t1 t2 %[z1,z2|hl] bQ (tL hu ih r1 r2 l1 l2 g1 g2 f1 f2);rw[z1,tE hl tK]at q;exact q
 .rw[tF hl];exact RcAt.lists_lengths (A:=A) (s:=s) t1 t2 (by rw[z1,z2];simpa using hl) bQ
theorem N6{es}(I:Inv X pins σ H s)(n:Nat)(A:Wh)(bQ:A.units<WD)(t1:s.heap.IsList a its.toArray)(t2:s.heap.IsList b g0.toArray)(r1:Vals vs its)(r2:Vals ws g0)(l1:vs.length=ds.length)(l2:ws.length=es.length)(g1:∀(i:Nat)v d,vs[i]?=some v->ds[i]?=some d->Rep H c8 v d)(g2:∀(i:Nat)v d,ws[i]?=some v->es[i]?=some d->Rep H c8 v d)(f1:flat n (.lst ds)=true)(f2:flat n (.lst es)=true)(ih:mG H s A n):RcNeAt A s (.ref a) (.ref b) !e_ ds es:=by cases n with|zero=>simp[flat]at f1|succ n=>
 simp only[flat]at f1 f2;obtain⟨hu,ih⟩:=ih;have z1:its.toArray.size=ds.length:=by have:=r1.length;simp;lia
 have z2:g0.toArray.size=es.length:=by have:=r2.length;simp;lia
 by_cases hl:ds.length=es.length;.have q:=RcNeAt.lists (A:=A) (s:=s) t1 t2 %[z1,z2|hl] bQ (tL hu ih r1 r2 l1 l2 g1 g2 f1 f2);rw[z1,tE hl tK]at q;exact q
 .rw[tF hl];exact RcNeAt.lists_lengths (A:=A) (s:=s) t1 t2 (by rw[z1,z2];simpa using hl) bQ
theorem wO(I:Inv X pins σ H s)(n:Nat)(A:Wh)(x y:V)(u w:Value)(d e:D)(bQ:A.units<WD)(fd:flat n d=true)(fe:flat n e=true)(ih:mG H s A n)(rx:Rep H c8 x d)(ry:Rep H c8 y e)(ru:RelV x u)(cp:RelV y w):RcAt A s u w (aW d e):=by cases rx with
 |tup h1 h2 h3 h4=>cases ru;obtain⟨its1,r1,t1⟩:=Inv.lE I h2;cases ry with|tup k1 k2 k3 k4=>cases cp;obtain⟨its2,r2,t2⟩:=Inv.lE I k2;simp only[aW];exact N3 I n A bQ t1 t2 r1 r2 h3 k3 h4 k4 fd fe ih|lst k1 k2 k3 k4=>cases cp;obtain⟨its2,r2,t2⟩:=Inv.lD I k2;simp only[aW];exact RcAt.tuple_list t1 t2 bQ|_=>first|(cases n<;>simp[flat]at fe;done)|((first|obtain⟨t2,rfl⟩:=cp|cases cp);simp only[aW];with_reducible first|exact RcAt.tuple_none t1 bQ|exact RcAt.tuple_bool _ t1 bQ|exact RcAt.tuple_int _ _ t1 bQ|exact RcAt.tuple_str _ _ t1 bQ)
 |lst h1 h2 h3 h4=>cases ru;obtain⟨its1,r1,t1⟩:=Inv.lD I h2;cases ry with|tup k1 k2 k3 k4=>cases cp;obtain⟨its2,r2,t2⟩:=Inv.lE I k2;simp only[aW];exact RcAt.list_tuple t1 t2 bQ|lst k1 k2 k3 k4=>cases cp;obtain⟨its2,r2,t2⟩:=Inv.lD I k2;simp only[aW];exact N5 I n A bQ t1 t2 r1 r2 h3 k3 h4 k4 fd fe ih|_=>first|(cases n<;>simp[flat]at fe;done)|((first|obtain⟨t2,rfl⟩:=cp|cases cp);simp only[aW];with_reducible first|exact RcAt.list_none t1 bQ|exact RcAt.list_bool _ t1 bQ|exact RcAt.list_int _ _ t1 bQ|exact RcAt.list_str _ _ t1 bQ)
 |_=>
 first|(cases n<;>simp[flat]at fd;done)|skip
 all_goals first|obtain⟨t1,rfl⟩:=ru|cases ru
 all_goals cases ry with
 |tup k1 k2 k3 k4=>cases cp;obtain⟨its2,r2,t2⟩:=Inv.lE I k2;simp only[aW];with_reducible first|exact RcAt.none_tuple t2 bQ|exact RcAt.bool_tuple _ t2 bQ|exact RcAt.int_tuple _ _ t2 bQ|exact RcAt.str_tuple _ _ t2 bQ
 |lst k1 k2 k3 k4=>cases cp;obtain⟨its2,r2,t2⟩:=Inv.lD I k2;simp only[aW];with_reducible first|exact RcAt.none_list t2 bQ|exact RcAt.bool_list _ t2 bQ|exact RcAt.int_list _ _ t2 bQ|exact RcAt.str_list _ _ t2 bQ
 |_=>first|(cases n<;>simp[flat]at fe;done)|((first|obtain⟨t2,rfl⟩:=cp|cases cp);simp only[aW];with_reducible first|exact RcAt.none_none|exact RcAt.none_bool _|exact RcAt.none_int _ _|exact RcAt.none_str _ _|exact RcAt.bool_none _|exact RcAt.bool_bool _ _|exact RcAt.bool_int _ _ _|exact RcAt.bool_str _ _ _|exact RcAt.int_none _ _|exact RcAt.int_bool _ _ _|exact RcAt.int_int _ _ _ _|exact RcAt.int_str _ _ _ _|exact RcAt.str_none _ _|exact RcAt.str_bool _ _ _|exact RcAt.str_int _ _ _ _|(rw[<-nR];exact RcAt.str_str _ _ _ _))
theorem N7(I:Inv X pins σ H s)(n:Nat)(A:Wh)(x y:V)(u w:Value)(d e:D)(bQ:A.units<WD)(fd:flat n d=true)(fe:flat n e=true)(ih:mG H s A n)(rx:Rep H c8 x d)(ry:Rep H c8 y e)(ru:RelV x u)(cp:RelV y w):RcNeAt A s u w !aW d e:=by cases rx with
 |tup h1 h2 h3 h4=>cases ru;obtain⟨its1,r1,t1⟩:=Inv.lE I h2;cases ry with|tup k1 k2 k3 k4=>cases cp;obtain⟨its2,r2,t2⟩:=Inv.lE I k2;simp only[aW];exact N4 I n A bQ t1 t2 r1 r2 h3 k3 h4 k4 fd fe ih|lst k1 k2 k3 k4=>cases cp;obtain⟨its2,r2,t2⟩:=Inv.lD I k2;simp only[aW,J5];exact RcNeAt.tuple_list t1 t2 bQ|_=>first|(cases n<;>simp[flat]at fe;done)|((first|obtain⟨t2,rfl⟩:=cp|cases cp);simp only[aW,J5,Jh];with_reducible first|exact RcNeAt.tuple_none t1 bQ|exact RcNeAt.tuple_bool _ t1 bQ|exact RcNeAt.tuple_int _ _ t1 bQ|exact RcNeAt.tuple_str _ _ t1 bQ)
 |lst h1 h2 h3 h4=>cases ru;obtain⟨its1,r1,t1⟩:=Inv.lD I h2;cases ry with|tup k1 k2 k3 k4=>cases cp;obtain⟨its2,r2,t2⟩:=Inv.lE I k2;simp only[aW,J5];exact RcNeAt.list_tuple t1 t2 bQ|lst k1 k2 k3 k4=>cases cp;obtain⟨its2,r2,t2⟩:=Inv.lD I k2;simp only[aW];exact N6 I n A bQ t1 t2 r1 r2 h3 k3 h4 k4 fd fe ih|_=>first|(cases n<;>simp[flat]at fe;done)|((first|obtain⟨t2,rfl⟩:=cp|cases cp);simp only[aW,J5,Jh];with_reducible first|exact RcNeAt.list_none t1 bQ|exact RcNeAt.list_bool _ t1 bQ|exact RcNeAt.list_int _ _ t1 bQ|exact RcNeAt.list_str _ _ t1 bQ)
 |_=>
 first|(cases n<;>simp[flat]at fd;done)|skip
 all_goals first|obtain⟨t1,rfl⟩:=ru|cases ru
 all_goals cases ry with
 |tup k1 k2 k3 k4=>cases cp;obtain⟨its2,r2,t2⟩:=Inv.lE I k2;simp only[aW,J5,Jh];with_reducible first|exact RcNeAt.none_tuple t2 bQ|exact RcNeAt.bool_tuple _ t2 bQ|exact RcNeAt.int_tuple _ _ t2 bQ|exact RcNeAt.str_tuple _ _ t2 bQ
 |lst k1 k2 k3 k4=>cases cp;obtain⟨its2,r2,t2⟩:=Inv.lD I k2;simp only[aW,J5,Jh];with_reducible first|exact RcNeAt.none_list t2 bQ|exact RcNeAt.bool_list _ t2 bQ|exact RcNeAt.int_list _ _ t2 bQ|exact RcNeAt.str_list _ _ t2 bQ
 |_=>first|(cases n<;>simp[flat]at fe;done)|((first|obtain⟨t2,rfl⟩:=cp|cases cp);simp only[aW,J5,Jh];with_reducible first|exact RcNeAt.none_none|exact RcNeAt.none_bool _|exact RcNeAt.none_int _ _|exact RcNeAt.none_str _ _|exact RcNeAt.bool_none _|exact RcNeAt.bool_bool _ _|exact RcNeAt.bool_int _ _ _|exact RcNeAt.bool_str _ _ _|exact RcNeAt.int_none _ _|exact RcNeAt.int_bool _ _ _|exact RcNeAt.int_int _ _ _ _|exact RcNeAt.int_str _ _ _ _|exact RcNeAt.str_none _ _|exact RcNeAt.str_bool _ _ _|exact RcNeAt.str_int _ _ _ _|(rw[<-nR];exact RcNeAt.str_str _ _ _ _))
theorem CL{w}(h:RcAt A s u w k)(hs:u=w->k=true)(hf:∀b t,u≠Value.float b t):EqAt A s u w k:=λprog w' E Q hq=>by
 unfold eqBool;refine WB ?_;refine wpAny_ite_split (λje=>?_) λ_=>?_;.have e:=eq_of_beq je;rw[hs e]at hq;exact W0 (QX (W5 hq))
 .cases u with|float b t=>exact absurd rfl (hf b t)|_=>exact W0 (h prog w' E _ (QD hq))
theorem CM{x}(r:Rep H c8 x d)(ru:RelV x u)(b:UInt64)(t:Tok):u≠Value.float b t:=by intro e;subst e;cases r<;>first|(cases ru;done)|(obtain⟨t',e⟩:=ru;cases e)
theorem N8(I:Inv X pins σ H s)(n:Nat):wM H s n:=by induction n with|zero=>intro A x y u w d e hu fd fe rx ry ru cp;refine CL (wO I 0 A x y u w d e Y' fd fe trivial rx ry ru cp) (λh=>?_) (CM rx ru);subst h;have:=ru.inj cp;subst this;rw[Rep.inj rx fd fe ry];exact tG fe|succ n ih=>intro A x y u w d e hu fd fe rx ry ru cp;refine CL (wO I (n+1) A x y u w d e Y' fd fe ⟨Y',ih⟩ rx ry ru cp) (λh=>?_) (CM rx ru);subst h;have:=ru.inj cp;subst this;rw[Rep.inj rx fd fe ry];exact tG fe
theorem tM(I:Inv X pins σ H s):∀n:Nat,A.units+n+1<WD->mG H s A n|0,_=>trivial|n+1,h=>⟨Y',N8 I n⟩
def CN:R2:=λx y H Q=>∃d e,Rep H c8 x d/\Rep H c8 y e/\flat 50 d=true/\flat 50 e=true/\Q (.bl (aW d e)) H
def CO:R2:=λx y H Q=>∃d e,Rep H c8 x d/\Rep H c8 y e/\flat 50 d=true/\flat 50 e=true/\Q (.bl !aW d e) H
theorem CP(hu:X.A.units+64<WD):bZ X (WJ .Eq) CN:=by intro pins s σ H x y v u Q I rx ry h;obtain⟨d,e,r1,r2,f1,f2,q⟩:=h;exact wO I 50 X.A x y v u d e Y' f1 f2 (tM I 50 Y') r1 r2 rx ry X.prog X.w X.xe _ ⟨.bl _,H,I,rfl,q⟩
theorem tN(hu:X.A.units+64<WD):bZ X (WJ .NotEq) CO:=by intro pins s σ H x y v u Q I rx ry h;obtain⟨d,e,r1,r2,f1,f2,q⟩:=h;exact N7 I 50 X.A x y v u d e Y' f1 f2 (tM I 50 Y') r1 r2 rx ry X.prog X.w X.xe _ ⟨.bl _,H,I,rfl,q⟩
def cD{α:Type}(xs:List α)(lo hi:Option Int):List α:=(xs.drop (aU xs.length 0 lo)).take (aU xs.length xs.length hi-aU xs.length 0 lo)
theorem CQ(xs:List V)(lo hi:Option Int):cD xs lo hi=lr xs lo hi:=rfl
theorem N9(xs:List α)(lo hi:Option Int):(cD xs lo hi).length<=xs.length:=by unfold cD;rw[JR,List.length_drop];lia
theorem aF.cut(lo hi:Option Int)(h:aF H O vs ds):aF H O (cD vs lo hi) (cD ds lo hi):=by unfold cD;rw[h.1];exact aF.take _ (aF.drop _ h)
theorem N_{α:Type}{xs:List α}(h:aU xs.length 0 lo=0/\aU xs.length xs.length hi=xs.length):cD xs lo hi=xs:=by unfold cD;rw[h.1,h.2];simp
theorem Oa{t sl:Addr}(ht:IsTup s.heap t items)(hs:s.heap.IsSliceOf sl vl vu .none)(pl:IsPart vl lo)(pu:IsPart vu hi)(hw:aU items.size 0 lo=0/\aU items.size items.size hi=items.size)(h:Q (.ref t) s):W4 (model prog w) A (Ue (.ref t) (.ref sl)) Q E s:=by
 obtain⟨os,hos,hcs,hds⟩:=id hs;have wc:s.TypeIs (.ref sl) "slice":=⟨os,hos,hcs⟩;unfold Ue;try with_reducible refine WB ?_
 first|refine W0 (W5 ?_)|skip
 refine W0 (Uk ht.typeIs Z' ?_);refine W0 (Qb (name:=Str.ofString "__getitem__") ht.typeIs QU (Qg QU ht.typeIs entry_tuple_getitem ?_ (args_tuple_getitem _ _)));show W4 _ _ (Builtin.Tuple.tupleItemsOf (.ref t)>>=_) _ _ s;refine W0 (tupleItemsOf_ ht ?_);refine W0 (Jc wc ?_);rw[if_pos Z'];refine W0 (BW hs pl pu ?_);show W4 _ _ (if(((aU items.size 0 lo:Nat):Int)==0&&(1:Int)==1&&aU items.size items.size hi-aU items.size 0 lo==items.size)=true then _ else _) _ _ s;rw[hw.1,hw.2];rw[if_pos U'];refine W0 (m:=Builtin.Tuple.tupleIsExact (.ref t)) ?_;unfold Builtin.Tuple.tupleIsExact;refine W0 (Jc ht.typeIs (W5 ?_));rw[if_pos Z'];exact W0 (QX (W0 (W5 (W5 ⟨_,rfl,W5 h⟩))))
def CS(K:W2):V->Option Int->Option Int->Hp->VK->Prop:=λx lo hi H Q=>∃a xs,x=.ref a/\df K H a xs/\((aU xs.length 0 lo=0/\aU xs.length xs.length hi=xs.length)->Q (.ref a) H)/\(¬(aU xs.length 0 lo=0/\aU xs.length xs.length hi=xs.length)->∀p,H p=none->Q (.ref p) (upd H p (.tup (lr xs lo hi))))
theorem Ob:jK X (CS X.K):=by
 intro pins s σ H x v vl vu lo hi sl Q I rx hs pl pu h;obtain⟨a,xs,rfl,hx,q1,q2⟩:=h;by_cases hw:aU xs.length 0 lo=0/\aU xs.length xs.length hi=xs.length;.cases rx;obtain⟨its,r,ht,hz⟩:=I.tuple hx;have hlen:its.toArray.size=xs.length:=%[Wr|r.length.symm];refine⟨"tuple",_,PyProof.Rows.slot_tuple_getitem.lookup,ht.typeIs,?_⟩;exact Oa ht hs pl pu %[hlen|hw] ⟨.ref a,H,I,rfl,q1 hw⟩
 .exact pQ pins s σ H (.ref a) v vl vu lo hi sl Q I rx hs pl pu ⟨a,xs,rfl,hx,hw,q2 hw⟩
theorem Oc(a b:Nat):sliceRange (a:Int) (b:Int) 1=(WM (b-a)).map λk=>a+k:=by
 have h0:((1:Int)>0)=True:=by simp
 unfold sliceRange;simp only[h0,if_true];by_cases bq:(a:Int)<(b:Int)
 .rw[if_pos bq];have e3:(((b:Int)-(a:Int)+1-1)/1).toNat=b-a:=by rw[Int.ediv_one];lia
  rw[e3];refine QJ λk _=>?_;lia
 .rw[if_neg bq];have:b-a=0:=by lia
  rw[this];rfl
theorem CT(lo hi:Option Int)(n:Nat):QG lo hi 1 n=(WM (aU n n hi-aU n 0 lo)).map λk=>aU n 0 lo+k:=by
 have c:∀(i:Int)(d:Nat),max 0 (min (if i<0 then i+(n:Int)else i) (n:Int))=((aU n d (some i):Nat):Int):=by
  intro i d;show max 0 (min (if i<0 then i+(n:Int)else i) (n:Int))=(((if i<0 then(i+(n:Int)).toNat else min i.toNat n):Nat):Int);by_cases hi:i<0;.simp only[if_pos hi];lia
  .simp only[if_neg hi];lia
 have h0:((1:Int)>0)=True:=by simp
 rw[<-Oc];unfold QG;simp only[h0,if_true];cases lo with
 |none=>cases hi with|none=>rfl|some j=>show sliceRange 0 (max 0 (min (if j<0 then j+(n:Int)else j) (n:Int))) 1=_;rw[c j n];rfl
 |some i=>cases hi with|none=>show sliceRange (max 0 (min (if i<0 then i+(n:Int)else i) (n:Int))) (n:Int) 1=_;rw[c i 0];rfl|some j=>grind
theorem Od(x:Tx)(lo hi:Option Int):(⟨((QG lo hi 1 (toS x).length).filterMap ((toS x).cps[.]?)).toArray⟩:Str)=toS (cD x lo hi):=by unfold toS;congr 1;rw[CT];have:=pick_run x.toArray (aU x.length 0 lo) (aU x.length x.length hi-aU x.length 0 lo);have hl:({cps:=x.toArray}:Str).length=x.length:=#v[Str.length];rw[hl];rw[this];rfl
def CU:V->Option Int->Option Int->Hp->VK->Prop:=λx lo hi H Q=>∃z:Tx,x=.str (toS z)/\z.length<=Wa/\Q (.str (toS (cD z lo hi))) H
theorem CV{v}(p:IsPart v o):∃q:Option (Int×Tok),v=partValue q/\q.map (·.1)=o:=by cases p with|none=>exact⟨none,rfl,rfl⟩|int i t=>exact⟨some (i,t),rfl,rfl⟩
theorem tO:jK X CU:=by
 intro pins s σ H x v vl vu lo hi sl Q I rx hs pl pu h;obtain⟨z,rfl,hz,q⟩:=h;obtain⟨t,rfl⟩:=rx;obtain⟨l,rfl,el⟩:=CV pl;obtain⟨u,rfl,eu⟩:=CV pu;obtain⟨o,ho,hc,hd⟩:=hs;refine⟨"str",_,F.slot_str_getitem.lookup,typeIs_str s _ t,?_⟩;refine wpAny_getItem_str_slice (l:=l) (u:=u) (st:=none) ⟨o,ho,hc,hd⟩ rfl ?_;unfold sliceMade;have e:slicePicked (toS z) l u none=QG lo hi 1 (toS z).length:=by unfold slicePicked;rw[el,eu];rfl
 rw[e];by_cases hw:(((none:Option (Int×Tok)).map (·.1)).getD 1==1&&(QG lo hi 1 (toS z).length).length==(toS z).length)=true
 .rw[if_pos hw];refine⟨.str (toS (cD z lo hi)),H,I,⟨t,?_⟩,q⟩;congr 1;rw[Wo]at hw;have wQ:=eq_of_beq hw.2;rw[CT,Wv,Ul,jM]at wQ;have h1:=wb z.length 0 (Qh _) lo;have h2:=wb z.length z.length (We _) hi;unfold cD;congr 1;by_cases h0:z.length=0;.grind
  .have a1:aU z.length 0 lo=0:=by lia
   rw[a1]at wQ⊢;rw[wQ];simp
 .rw[if_neg hw];show Made.post (.str _) _ _;rw[Od];exact⟨%[jM|WS (N9 z lo hi) hz],.str (toS (cD z lo hi)),H,I.tok _,⟨_,rfl⟩,q⟩
theorem Oe:bZ X (Qv .Add) λx y H Q=>∃a b ys,x=.ref a/\y=.ref b/\df X.K H a []/\df X.K H b ys/\Q (.ref b) H:=by intro pins s σ H x y v u Q I rx ry h;obtain⟨a,b,ys,rfl,rfl,ha,hb,q⟩:=h;cases rx;cases ry;obtain⟨its,r1,p1,_⟩:=I.tuple ha;obtain⟨its2,r2,p2,_⟩:=I.tuple hb;cases r1;obtain⟨⟨cls,dd,data,sl⟩,ho,hc,n,hd⟩:=id p1;obtain⟨⟨cls2,dd2,data2,gu⟩,ho2,hc2,n2,hd2⟩:=id p2;simp only at hc hd hc2 hd2;subst hc hd hc2 hd2;exact concat_meets ⟨_,ho,rfl⟩ ⟨_,ho2,rfl⟩ noFill_tuple_add seq_tuple_add PySem.F.slot_tuple_add PySem.F.entry_tuple_add (PySem.F.args_tuple_add_2 _ _) (tuple_addW0 a b #[] its2.toArray n n2 dd dd2 sl gu rfl) ⟨ho,ho2,.ref b,H,I,rfl,q⟩
def CW(K:W2):R2:=λx y H Q=>∃l b xs zs,x=.ref l/\y=.ref b/\cU K H l xs/\cU K H b zs/\xs.length+zs.length<=Wa/\∀p,H p=none->Q (.ref p) (upd H p (.lst (xs++zs)))
theorem Of:bZ X (Qv .Add) (CW X.K):=by
 intro pins s σ H x y v u Q I rx ry h;obtain⟨l,b,xs,zs,rfl,rfl,hH,hB,hz,q⟩:=h;cases rx;cases ry;obtain⟨its,r,⟨⟨cls,dd,data,sl⟩,n,e,hc,hdd,hd⟩,z⟩:=I.list hH;obtain⟨its2,r2,⟨⟨cls2,dd2,data2,gu⟩,n2,e2,hc2,hdd2,hd2⟩,z2⟩:=I.list hB;simp only at hc hd hdd hc2 hd2 hdd2;subst hc hd hdd hc2 hd2 hdd2;have hl:=r.length;have mH:=r2.length;refine concat_meets ⟨_,e,rfl⟩ ⟨_,e2,rfl⟩ noFill_list_add seq_list_add PySem.F.slot_list_add PySem.F.entry_list_add (PySem.F.args_list_add_2 _ _) (list_addW l b its.toArray its2.toArray n n2 none none sl gu (by rw[Wr,Wr];lia)) ⟨e,e2,?_⟩;have ea:its.toArray++its2.toArray=(its++its2).toArray:=by simp
 rw[ea];exact⟨.ref _,_,I.B_ (t':=s.toks) (r.append r2) (by rw[QP];lia),rfl,q _ I.fresh⟩
theorem tP:∀{ys:List Str}{us:List Value},Vals (ys.map V.str) us->StrsAre us ys|[],us,r=>by cases r;exact .nil|y::ys,us,r=>by cases r with|cons r1 r2=>obtain⟨t,rfl⟩:=r1;exact .cons y t (tP r2)
theorem CY:∀{ys:List Str}{us:List Value},StrsAre us ys->Vals (ys.map V.str) us|_,_,.nil=>.nil|_,_,.cons y t h=>.cons ⟨t,rfl⟩ (CY h)
def tQ(K:W2):V->List V->Hp->VK->Prop:=λx vs H Q=>∃(z:Str)(a:Addr)(ys:List Str),x=.str z/\vs=[.ref a]/\(cU K H a (ys.map V.str)\/df K H a (ys.map V.str))/\(ys.map (·.length)).sum+ys.length*z.length<=16777216/\Q (.str (Txt.join z ys)) H
theorem Og:nJ X "str.join" (tQ X.K):=by
 intro pins s σ H x vs v us Q I rx rv h;obtain⟨z,a,ys,rfl,rfl,hq,hz,q⟩:=h;obtain⟨t,rfl⟩:=rx;obtain⟨u,rfl,ru⟩:=rv.one;cases ru;rcases hq with hq|hq;.obtain⟨its,r,p,_⟩:=I.list hq;exact join_list p.isList (by simpa using tP r) hz λt' k=>⟨.str _,H,I.tok _,⟨t',rfl⟩,q⟩
 .obtain⟨its,r,p,_⟩:=I.tuple hq;exact join_tuple p (by simpa using tP r) hz λt' k=>⟨.str _,H,I.tok _,⟨t',rfl⟩,q⟩
def kB(x:Tx):List Tx->List Tx|[]=>[x]|y::r=>if y<x then y::kB x r else x::y::r
def iw:List Tx->List Tx|[]=>[]|x::r=>kB x (iw r)
theorem wR(x:Tx):∀l:List Tx,(kB x l).Perm (x::l)
 |[]=>.refl _|y::r=>by
  unfold kB;split;.exact((wR x r).cons y).trans (.swap x y r)
  .exact .refl _
theorem wU:∀l:List Tx,(iw l).Perm l|[]=>.refl _|x::r=>(wR x _).trans ((wU r).cons x)
abbrev iQ(a b:Tx):Prop:=¬b<a
theorem Oh{a c}(h1:iQ a b)(h2:iQ b c):iQ a c:=by grind
theorem Oi{a}(h1:iQ a b)(h2:iQ b a):a=b:=by grind
theorem CZ(x:Tx):∀l:List Tx,l.Pairwise iQ->(kB x l).Pairwise iQ
 |[],_=>#v[kB]|y::r,h=>by
  unfold kB;obtain⟨h1,h2⟩:=List.pairwise_cons.mp h;split;.rename_i bq;refine List.pairwise_cons.mpr ⟨λz hz=>?_,CZ x r h2⟩;grind[wR]
  grind[Ua]
theorem C0:∀l:List Tx,(iw l).Pairwise iQ|[]=>.nil|x::r=>CZ x _ (C0 r)
theorem Oj(hp:l'.Perm l)(hs:l'.Pairwise iQ):l'=iw l:=List.Perm.eq_of_pairwise (λ_ _ _ _ h1 h2=>Oi h1 h2) hs (C0 l) (hp.trans (wU l).symm)
theorem C3:∀(x:Str)(r:List Str),risingS x r=true->((x::r).map λz:Str=>z.cps.toList).Pairwise iQ
 |x,[],_=>by simp|x,y::r,h=>by
  have h':(!ltCps y.cps.toList x.cps.toList&&risingS y r)=true:=h;rw[Wo]at h';have ih:=C3 y r h'.2;have C4:iQ x.cps.toList y.cps.toList:=by grind[ltCps_eq]
  rw[Wf];refine List.pairwise_cons.mpr ⟨λz hz=>?_,ih⟩;rw[Wf]at hz ih;rcases Ws.mp hz with e|hz;.subst e;exact C4
  .exact Oh C4 ((List.pairwise_cons.mp ih).1 z hz)
theorem Ol:fF X (.builtin "sorted") λxs H Q=>∃(a:Addr)(ts:List Tx),xs=[.ref a]/\cU X.K H a (ts.map λz=>V.str (toS z))/\ts.length<64/\∀p,H p=none->Q (.ref p) (upd H p (.lst ((iw ts).map λz=>V.str (toS z)))):=by
 intro pins s σ H xs us Q I r h;obtain⟨a,ts,rfl,hq,hz,q⟩:=h;obtain⟨u,rfl,ru⟩:=gS r;cases ru;obtain⟨its,r',p,_⟩:=I.list hq;have r2:Vals ((ts.map toS).map V.str) its:=%[WC|r'];have hlen:=r'.length;rw[Wv]at hlen;refine sorted_strs p.isList (tP r2) Y' λout ss hS hp hs=>?_;have e:ss=(iw ts).map toS:=by
  have Om:(ss.map λz:Str=>z.cps.toList).Pairwise iQ:=by cases ss with|nil=>simp|cons x r=>exact C3 x r hs
  have wV:(ss.map λz:Str=>z.cps.toList).Perm ts:=by
   have:=hp.map λz:Str=>z.cps.toList;rw[WC]at this;have e2:ts.map ((λz:Str=>z.cps.toList)∘toS)=ts:=by rw[show(λz:Str=>z.cps.toList)∘toS=id from funext λz=>nN z,List.map_id]
   rw[e2]at this;exact this
  rw[<-Oj wV Om,WC];have:(toS∘λz:Str=>z.cps.toList)=id:=funext λz=>(CB z).symm;simp_all
 obtain⟨ep,he⟩:=sortedAll_at s.heap its out;have hv:Vals ((iw ts).map λz=>V.str (toS z)) out.toList:=by have:=CY hS;rw[e,WC]at this;exact this
 have mH:((iw ts).map λz=>V.str (toS z)).length<=Wa:=by rw[Wv,(wU ts).length_eq];exact WS (QV hz) (by rw[Qf];decide)
 refine⟨.ref (s.heap.objs.size+1),_,I.laid (a:=s.heap.objs.size+1) (o:=.lst ((iw ts).map λz=>V.str (toS z))) (t':=s.toks) (λb u e=>sortedAll_old e) (Nat.le_succ _) ?_,rfl,q _ (I.az.fresh (Nat.le_succ _))⟩;exact⟨mH,out.toList,ep,hv,by simp_all⟩
noncomputable def p2(p:D->D->Option S)(x y:D)(δ:Dl):Rs S:=match p x y with|some s=>.ok s δ|none=>.stuck
def ax(p:D->D->Option S)(fa:DE)(fb:BE):DE:=λδ=>(fa δ).bind λx δ1=>(fb δ1).bind λy δ2=>p2 p x.d y δ2
def aO(p:D->D->Option S)(i:Nat)(fb:BE):DE:=λδ=>(fb δ).bind λy δ1=>(aj i δ1).bind λx δ2=>p2 p x y δ2
def da(r:R2)(p:D->D->Option S):Prop:=∀(c:Fc)(σ:St)(δ:Dl)(H:Hp)(x y:V)(d e:D)(s:S)(Q:VK),Ok c σ δ H->c7 c σ δ H x d->c7 c σ δ H y e->p d e=some s->(∀v H',aK c σ δ H σ δ H'->aY c σ δ H H' v s->Q v H')->r x y H Q
section
variable{a b:Expr}{fa:DE}{r:R2}{p:D->D->Option S}
theorem tR{x e Q}(hp:da r p)(k:Ok c σ δ H)(rx:c7 c σ δ H x d)(ry:c7 c σ δ H y e)(h:post c (p2 p d e δ) λs δ'=>∀v H',aK c σ δ H σ δ' H'->aY c σ δ' H H' v s->Q v H'):r x y H Q:=by unfold p2 at h;cases e1:p d e with|none=>rw[e1]at h;exact h.elim|some s=>rw[e1]at h;exact hp c σ δ H x y d e s Q k rx ry e1 h
theorem wW{Q}(hp:da r p)(h:tD c (ax p fa fb) σ H Q):mr r (tD c fa) (UF c fb) σ H Q:=by obtain⟨δ,k,q⟩:=h;refine⟨δ,k,?_⟩;unfold ax at q;rw[bh]at q;refine aN q λx δ1 q1 v H1 a1 r1=>⟨δ1,a1.ok,?_⟩;rw[bh]at q1;refine aN q1 λy δ2 q2 u H2 a2 r2=>?_;exact tR hp a2.ok (.inl (Rep.dw r1.rep a2)) r2 (aN q2 λs δ3 q3 v' H3 a3 r3=>q3 v' H3 (a1.trans (a2.trans a3)) (aY.back r3 (a1.trans a2)))
theorem Oo{Q}(hp:da r p)(h:tD c (aO p i fb) σ H Q)(hv:∀δ,Ok c σ δ H->post c (fb δ) (λ_ _=>True)->∃v,σ[i]?=some (some v)):mr r (dZ i) (UF c fb) σ H Q:=by obtain⟨δ,k,q⟩:=h;unfold aO at q;rw[bh]at q;obtain⟨v,ev⟩:=hv δ k (aN q λ_ _ _=>trivial);refine⟨v,ev,δ,k,aN q λy δ1 q1 u H1 a1 r1=>?_⟩;rw[bh]at q1;unfold aj at q1;cases e:δ1[i]? with|none=>rw[e]at q1;exact q1.elim|some o=>cases o with|none=>rw[e]at q1;exact q1.elim|some w=>
 rw[e]at q1;have Oq:post c (p2 p w.d y δ1) λs δ'=>∀v H',aK c σ δ H σ δ' H'->aY c σ δ' H H' v s->Q v H':=q1;have rb:c7 c σ δ1 H1 v w.d:=by cases w with|pure d=>obtain⟨v',e1,r⟩:=a1.ok.slot i d e;rw[ev]at e1;cases e1;exact .inl r|own d=>obtain⟨a,e1,r,_⟩:=a1.ok.own i d e;rw[ev]at e1;cases e1;exact .inr ⟨a,rfl,r⟩
 exact tR hp a1.ok rb r1 (aN Oq λs δ3 q3 v' H3 a3 r3=>q3 v' H3 (a1.trans a3) (aY.back r3 a1))
theorem qd(k:Ok c σ δ H){w:S}(e:δ[i]?=some (some w)):∃v,σ[i]?=some (some v):=by cases w with|pure d=>obtain⟨v,e1,_⟩:=k.slot i d e;exact⟨v,e1⟩|own d=>obtain⟨a,e1,_⟩:=k.own i d e;exact⟨_,e1⟩
end
noncomputable def ae(p:D->D->Option S)(i:Nat)(fb:BE):DE:=λδ=>match δ[i]? with|some (some _)=>aO p i fb δ|_=>.stuck
section
variable{a b:Expr}{fa:DE}{r:R2}{p:D->D->Option S}
theorem tS(hp:da r p){Q:VK}(h:tD c (ae p i fb) σ H Q):mr r (dZ i) (UF c fb) σ H Q:=by obtain⟨δ,k,q⟩:=h;unfold ae at q;cases e:δ[i]? with|none=>rw[e]at q;exact q.elim|some o=>cases o with|none=>rw[e]at q;exact q.elim|some w=>rw[e]at q;obtain⟨v,ev⟩:=qd k e;exact Oo hp (i:=i) ⟨δ,k,q⟩ λ_ _ _=>⟨v,ev⟩
theorem nS{op:Operator}(ho:bZ X (Qv op) r)(hp:da r p)(ha:SE X c a fa)(hb:SB X c b fb):SE X c (.BinOp a op b pos) (ax p fa fb):=PE.weak (Bx ho ha hb) λ_ _ _ h=>wW hp h
theorem wX{op:Operator}(ho:bZ X (Qv op) r)(hp:da r p)(ha:PE X a (dZ i))(hb:SB X c b fb):SE X c (.BinOp a op b pos) (ae p i fb):=PE.weak (Bx ho ha hb) λ_ _ _ h=>tS hp h
theorem qe(ho:bZ X (WJ op) r)(hp:da r p)(ha:PE X a (dZ i))(hb:SB X c b fb)(hm:QK op b=false):SE X c (.Compare a [op] [b] pos) (ae p i fb):=PE.weak (Mp ho ha hb hm) λ_ _ _ h=>tS hp h
theorem C5(hr:gU X r)(hp:da r p)(ha:SE X c a fa)(hb:SB X c b fb)(hs:we b):SE X c (.Subscript a b pos) (ax p fa fb):=PE.weak (B1 hr ha hb hs) λ_ _ _ h=>wW hp h
theorem wY(hr:gU X r)(hp:da r p)(ha:PE X a (dZ i))(hb:SB X c b fb)(hs:we b):SE X c (.Subscript a b pos) (ae p i fb):=PE.weak (B1 hr ha hb hs) λ_ _ _ h=>tS hp h
end
abbrev DT:=Dl->Rs Bool
def tT(c:Fc)(f:DT):TT:=λσ H Q=>∃δ,Ok c σ δ H/\post c (f δ) λb δ'=>∀H',aK c σ δ H σ δ' H'->Q b H'
abbrev ST(X:Cx)(c:Fc)(e:Expr)(f:DT):Prop:=PT X e (tT c f)
theorem PT.weak{t'}(h:PT X e t)(w:∀σ H Q,t' σ H Q->t σ H Q):PT X e t':=λpins s σ H Q I q=>h pins s σ H Q I (w σ H Q q)
def aD(f:DE):DT:=λδ=>(f δ).bind λr δ'=>match r with|.pure (.bl b)=>.ok b δ'|_=>.stuck
section
variable{a b:Expr}{fa f:DE}{r:R2}{p:D->D->Option S}
theorem wZ{Q}(h:tT c (aD f) σ H Q):tD c f σ H λx H'=>∃k,x=.bl k/\Q k H':=by obtain⟨δ,k,q⟩:=h;refine⟨δ,k,?_⟩;unfold aD at q;rw[bh]at q;refine aN q λr δ1 q1 v H1 a1 r1=>?_;cases r with|own d=>exact q1.elim|pure d=>
 cases d<;>first|exact q1.elim|skip
 rename_i b;cases r1;exact⟨b,rfl,q1 H1 a1⟩
theorem lF(ho:bZ X (WJ op) r)(hp:da r p)(ha:SE X c a fa)(hb:SB X c b fb)(hm:QK op b=false):ST X c (.Compare a [op] [b] pos) (aD (ax p fa fb)):=PT.weak (BF ho ha hb hm) λσ H Q h=>wW hp (wZ h)
theorem tU(ho:bZ X (WJ op) r)(hp:da r p)(ha:PE X a (dZ i))(hb:SB X c b fb)(hm:QK op b=false):ST X c (.Compare a [op] [b] pos) (aD (ae p i fb)):=PT.weak (BF ho ha hb hm) λσ H Q h=>tS hp (wZ h)
theorem Ot(h:SE X c e f)(he:∀whole,isTrue e X.env whole=(do let v<-whole;standAt e.pos;holding [v] (truthy v)):=by intro _;rfl):ST X c e (aD f):=PT.weak (Lu h he) λσ H Q h=>wZ h
def f_(t u:DT):DT:=λδ=>(t δ).bind λb δ1=>if b then u δ1 else .ok false δ1
def nU(t u:DT):DT:=λδ=>(t δ).bind λb δ1=>if b then .ok true δ1 else u δ1
def kC(t:DT):DT:=λδ=>(t δ).bind λb δ1=>.ok (!b) δ1
abbrev SW(X:Cx)(c:Fc)(e:Expr)(f:DT):Prop:=PW X e (tT c f)
theorem PW.weak{t'}(h:PW X e t)(w:∀σ H Q,t' σ H Q->t σ H Q):PW X e t':=λwh pins s σ H Q I q=>h wh pins s σ H Q I (w σ H Q q)
variable{t u:DT}{rest:List Expr}
theorem Ou(ha:ST X c a t):SW X c (.BoolOp .And [a] pos) t:=Ly ha
theorem Ov(ha:ST X c a t):SW X c (.BoolOp .Or [a] pos) t:=Lz ha
theorem Ow(ha:ST X c a t)(hb:SW X c (.BoolOp .And (b::rest) pos) u):SW X c (.BoolOp .And (a::b::rest) pos) (f_ t u):=PW.weak (LA ha hb) λσ H Q⟨δ,k,q⟩=>by unfold f_ at q;rw[bh]at q;refine⟨δ,k,aN q λx δ1 q1 H1 a1=>?_⟩;cases x with|true=>exact⟨δ1,a1.ok,aN q1 λy δ2 q2 H2 a2=>q2 H2 (a1.trans a2)⟩|false=>exact q1 H1 a1
theorem Ox(ha:ST X c a t)(hb:SW X c (.BoolOp .Or (b::rest) pos) u):SW X c (.BoolOp .Or (a::b::rest) pos) (nU t u):=PW.weak (pw_or ha hb) λσ H Q⟨δ,k,q⟩=>by unfold nU at q;rw[bh]at q;refine⟨δ,k,aN q λx δ1 q1 H1 a1=>?_⟩;cases x with|false=>exact⟨δ1,a1.ok,aN q1 λy δ2 q2 H2 a2=>q2 H2 (a1.trans a2)⟩|true=>exact q1 H1 a1
theorem Oy(h:SW X c a t):ST X c a t:=PW.pt h
theorem Oz(ha:ST X c a t):ST X c (.UnaryOp .Not a pos) (kC t):=PT.weak (LB ha) λσ H Q⟨δ,k,q⟩=>by unfold kC at q;rw[bh]at q;exact⟨δ,k,q⟩
def qf(f g:DE):DE:=λδ=>(f δ).bind λr δ1=>match r with|.pure (.bl true)=>g δ1|.pure (.bl false)=>.ok (.pure (.bl false)) δ1|_=>.stuck
def tV(f:DE):DE:=λδ=>(f δ).bind λr δ1=>match r with|.pure (.bl b)=>.ok (.pure (.bl !b)) δ1|_=>.stuck
def OA(t:DT)(f g:DE):DE:=λδ=>(t δ).bind λb δ1=>if b then f δ1 else g δ1
variable{g:DE}
theorem OB{op}(h:SE X c a f):SE X c (.BoolOp op [a] pos) f:=LG h
theorem OC(ha:SE X c a f)(hb:SE X c (.BoolOp .And (b::rest) pos) g):SE X c (.BoolOp .And (a::b::rest) pos) (qf f g):=PE.weak (LH ha hb) λσ H Q⟨δ,k,q⟩=>by unfold qf at q;rw[bh]at q;refine⟨δ,k,aN q λr δ1 q1 v H1 a1 r1=>?_⟩;cases r with|own d=>exact q1.elim|pure d=>
 cases d<;>first|exact q1.elim|skip
 rename_i b;cases r1;refine⟨b,rfl,?_⟩;cases b with|true=>exact⟨δ1,a1.ok,aN q1 λy δ2 q2 v H2 a2 r2=>q2 v H2 (a1.trans a2) (aY.back r2 a1)⟩|false=>exact q1 _ H1 a1 (.bl false)
theorem OD(ha:SE X c a f):SE X c (.UnaryOp .Not a pos) (tV f):=PE.weak (LI ha) λσ H Q⟨δ,k,q⟩=>by unfold tV at q;rw[bh]at q;refine⟨δ,k,aN q λr δ1 q1 v H1 a1 r1=>?_⟩;cases r with|own d=>exact q1.elim|pure d=>
 cases d<;>first|exact q1.elim|skip
 rename_i b;cases r1;exact⟨b,rfl,q1 _ H1 a1 (.bl _)⟩
end
section
variable{x:V}
theorem c7.int{i}(h:c7 c σ δ H x (.int i)):x=.int i:=by
 rcases h with h|⟨_,_,h⟩;.cases h;rfl
 .exact h.elim
theorem c7.bl(h:c7 c σ δ H x (.bl b)):x=.bl b:=by
 rcases h with h|⟨_,_,h⟩;.cases h;rfl
 .exact h.elim
theorem c7.str(h:c7 c σ δ H x (.str z)):x=.str (toS z):=by
 rcases h with h|⟨_,_,h⟩;.cases h;rfl
 .exact h.elim
theorem c7.tup{c σ δ H x ds}(h:c7 c σ δ H x (.tup ds)):∃a vs,x=.ref a/\H a=some (.tup vs)/\aF H (Av c σ δ) vs ds:=by
 rcases h with h|⟨_,_,h⟩;.cases h with|tup h1 h2 h3 h4=>exact⟨_,_,rfl,h2,h3,h4⟩
 .exact h.elim
theorem c7.lst{c σ δ H x ds}(h:c7 c σ δ H x (.lst ds)):∃a vs,x=.ref a/\Rd H a (.lst vs)/\aF H (Av c σ δ) vs ds:=by
 rcases h with h|⟨a,e,h⟩;.cases h with|lst h1 h2 h3 h4=>exact⟨_,_,rfl,h2,h3,h4⟩
 .obtain⟨vs,h1,h2⟩:=h;exact⟨a,vs,e,.inl h1,h2⟩
theorem c7.bU{ds}(h:c7 c σ δ H x (.bU ds)):∃a ws,x=.ref a/\H a=some (.dK ws)/\ws.map (·.1)=ds.map (λp=>eM p.1)/\∀(i:Nat)p q,ws[i]?=some p->ds[i]?=some q->Rep H (Av c σ δ) p.2 q.2:=by
 rcases h with h|⟨a,e,h⟩;.cases h with|bU h1 h2 h3 h4=>exact⟨_,_,rfl,h2,h3,h4⟩
 .obtain⟨ws,h1,h2,h3⟩:=h;exact⟨a,ws,e,h1,h2,h3⟩
end
theorem C6(h:z.length<=Wa):(toS z).length<=Wa:=%[jM|h]
theorem OE(x y:Tx):toS x++toS y=toS (x++y):=by show Str.append (toS x) (toS y)=_;simp[toS,Str.append]
noncomputable def a7:D->D->Option S|.int i,.int j=>some (.pure (.int (i+j)))|.str x,.str y=>if x.length+y.length<=Wa then some (.pure (.str (x++y)))else none|.tup xs,.tup ys=>if xs.length+ys.length<=Wa then some (.pure (.tup (xs++ys)))else none|.lst xs,.lst ys=>if xs.length+ys.length<=Wa then some (.own (.lst (xs++ys)))else none|_,_=>none
def C7(K:W2):R2:=λx y H Q=>jc (λi j=>V.int (i+j)) x y H Q\/(∃i j,x=.str i/\y=.str j/\i.length+j.length<=Wa/\Q (.str (i++j)) H)\/(∃a b ys,x=.ref a/\y=.ref b/\df K H a []/\df K H b ys/\Q (.ref b) H)\/BZ K x y H Q\/CW K x y H Q
theorem C8:bZ X (Qv .Add) (C7 X.K):=Mf.or (Mr.or (Oe.or (MQ.or Of)))
theorem C9:da (C7 K) a7:=by
 intro c σ δ H x y d e s Q k rx ry hp q;cases d<;>cases e<;>first|(simp[a7]at hp;done)|skip
 .rename_i i j;simp only[a7,Wd]at hp;subst hp;exact .inl ⟨i,j,rx.int,ry.int,q _ H (.refl k) (.int _)⟩
 .rename_i u w;simp only[a7]at hp;split at hp;.rename_i hz;simp only[Wd]at hp;subst hp;refine .inr (.inl ⟨toS u,toS w,rx.str,ry.str,%[jM,jM|hz],?_⟩);rw[OE];exact q _ H (.refl k) (.str _)
  .cases hp
 .rename_i us ws;simp only[a7]at hp;split at hp
  .rename_i hz;simp only[Wd]at hp;subst hp;obtain⟨a,vs,ea,ha,ra⟩:=rx.tup;obtain⟨b,zs,eb,hb,rb⟩:=ry.tup
   cases vs with|nil=>
    have:us=[]:=by have:=ra.1;simpa using this.symm
    subst this;refine .inr (.inr (.inl ⟨a,b,zs,ea,eb,.of ha,.of hb,?_⟩));rw[eb]at ry;rcases ry with ry|⟨_,_,ry⟩;.exact q _ H (.refl k) ry
    .exact ry.elim|cons v0 vr=>
    refine .inr (.inr (.inr (.inl ⟨a,b,_,zs,ea,eb,.of ha,.of hb,U',%[ra.1,rb.1|hz],λe0=>?_,λ_ p hp=>?_⟩)))
    .subst e0;have:ws=[]:=by have:=rb.1;simpa using this.symm
     subst this;rw[ea]at rx;rcases rx with rx|⟨_,_,rx⟩;.rw[WV]at q;exact q _ H (.refl k) rx
     .exact rx.elim
    .exact q _ _ (.alloc k hp _) (aY.nQ k (ra.append rb) hp)
  .cases hp
 .rename_i us ws;simp only[a7]at hp;split at hp;.rename_i hz;simp only[Wd]at hp;subst hp;obtain⟨a,vs,ea,ha,ra⟩:=rx.lst;obtain⟨b,zs,eb,hb,rb⟩:=ry.lst;exact .inr (.inr (.inr (.inr ⟨a,b,vs,zs,ea,eb,.inl ha,.inl hb,%[ra.1,rb.1|hz],λp hp=>q _ _ (.alloc k hp _) (aY.nO k (ra.append rb) hp)⟩)))
  .cases hp
noncomputable def fL(C:Int->Int->Bool)(g:Int->Int->D):D->D->Option S|.int i,.int j=>if C i j then some (.pure (g i j))else none|_,_=>none
theorem tW{C g'}(hC:∀i j,C' i j=true->C i j)(hg:∀i j H O,Rep H O (g i j) (g' i j)):da (rI C g) (fL C' g'):=by
 intro c σ δ H x y d e s Q k rx ry hp q;cases d<;>cases e<;>first|(simp[fL]at hp;done)|skip
 rename_i i j;simp only[fL]at hp;split at hp;.rename_i hc;simp only[Wd]at hp;subst hp;exact⟨i,j,rx.int,ry.int,hC i j hc,q _ H (.refl k) (hg i j H _)⟩
 .cases hp
theorem OF{g'}(hg:∀i j H O,Rep H O (g i j) (g' i j)):da (jc g) (fL (λ_ _=>true) g'):=by
 intro c σ δ H x y d e s Q k rx ry hp q;cases d<;>cases e<;>first|(simp[fL]at hp;done)|skip
 rename_i i j;simp only[fL,if_true,Wd]at hp;subst hp;exact⟨i,j,rx.int,ry.int,q _ H (.refl k) (hg i j H _)⟩
def qg:=fL (λ_ _=>true) λi j=>.int (i-j)
theorem OG:da (jc λi j=>V.int (i-j)) qg:=OF λ_ _ _ _=>.int _
def iR(i j:Int):Bool:=decide (-2^64<i)&&decide (i<2^64)||decide (-2^64<j)&&decide (j<2^64)
def nV:=fL iR λi j=>.int (i*j)
theorem OH:da (rI pM λi j=>V.int (i*j)) nV:=tW (λi j h=>by unfold iR at h;simp only[Bool.or_eq_true,Wo,decide_eq_true_eq]at h;exact h) λ_ _ _ _=>.int _
def qi(_ j:Int):Bool:=decide (0<j)&&decide (j<1073741824)
def nW:=fL qi λi j=>.int (i/j)
theorem OI:da (rI Bz λi j=>V.int (i/j)) nW:=tW (λi j h=>by unfold qi at h;simp only[Wo,decide_eq_true_eq]at h;exact h) λ_ _ _ _=>.int _
def fU:=fL (λ_ j=>decide (0<j)) λi j=>.int (i%j)
theorem C_:da (rI (λ_ j=>0<j) λi j=>V.int (i%j)) fU:=tW (λi j h=>~~~h) λ_ _ _ _=>.int _
def w4(i j:Int):Bool:=decide (0<=j)&&decide (j<=1000000)&&decide (i.natAbs<2^64)
def tY:=fL w4 λi j=>.int (i^j.toNat)
theorem OJ:da (rI BA λi j=>V.int (i^j.toNat)) tY:=tW (λi j h=>by unfold w4 at h;simp only[Wo,decide_eq_true_eq]at h;exact⟨h.1.1,h.1.2,h.2⟩) λ_ _ _ _=>.int _
noncomputable def kE(d e:D):Option S:=if flat 50 d&&flat 50 e then some (.pure (.bl (aW d e)))else none
noncomputable def gb(d e:D):Option S:=if flat 50 d&&flat 50 e then some (.pure (.bl !aW d e))else none
theorem Dc:da CN kE:=by
 intro c σ δ H x y d e s Q k rx ry hp q;unfold kE at hp;split at hp;.rename_i hf;rw[Wo]at hf;simp only[Wd]at hp;subst hp;exact⟨d,e,rx.un,ry.un,hf.1,hf.2,q _ H (.refl k) (.bl _)⟩
 .cases hp
theorem tZ:da CO gb:=by
 intro c σ δ H x y d e s Q k rx ry hp q;unfold gb at hp;split at hp;.rename_i hf;rw[Wo]at hf;simp only[Wd]at hp;subst hp;exact⟨d,e,rx.un,ry.un,hf.1,hf.2,q _ H (.refl k) (.bl _)⟩
 .cases hp
noncomputable def cz(f:Int->Int->Bool)(g:Tx->Tx->Bool):D->D->Option S|.int i,.int j=>some (.pure (.bl (f i j)))|.str x,.str y=>some (.pure (.bl (g x y)))|_,_=>none
def mI(f:Int->Int->Bool)(g:List Nat->List Nat->Bool):R2:=λx y H Q=>jc (λi j=>V.bl (f i j)) x y H Q\/∃i j,x=.str i/\y=.str j/\Q (.bl (g i.cps.toList j.cps.toList)) H
theorem g7{f}:da (mI f g) (cz f g):=by
 intro c σ δ H x y d e s Q k rx ry hp q;cases d<;>cases e<;>first|(simp[cz]at hp;done)|skip
 .rename_i i j;simp only[cz,Wd]at hp;subst hp;exact .inl ⟨i,j,rx.int,ry.int,q _ H (.refl k) (.bl _)⟩
 .rename_i i j;simp only[cz,Wd]at hp;subst hp;refine .inr ⟨toS i,toS j,rx.str,ry.str,?_⟩;rw[nN,nN];exact q _ H (.refl k) (.bl _)
theorem t4{g:List Nat->List Nat->Bool}(rule:∀(i j:Str)(t u:Tok)(Q:Value->W1->Prop)(s:W1),Q (.bool (g i.cps.toList j.cps.toList)) s->W4 (model X.prog X.w) X.A (WJ op (.str i t) (.str j u)) Q X.xe s):bZ X (WJ op) λx y H Q=>∃i j,x=.str i/\y=.str j/\Q (.bl (g i.cps.toList j.cps.toList)) H:=by intro pins s σ H x y v u Q I rx ry h;obtain⟨i,j,rfl,rfl,q⟩:=h;obtain⟨t,rfl⟩:=rx;obtain⟨t',rfl⟩:=ry;exact rule i j t t' _ s ⟨.bl _,H,I,rfl,q⟩
def iy:=cz (λi j=>decide (i<j)) λx y=>decide (x<y)
theorem Dd:bZ X (WJ .Lt) (mI (λi j=>decide (i<j)) λx y=>decide (x<y)):=Mk.or Mn
theorem De:da (mI (λi j=>decide (i<j)) λx y=>decide (x<y)) iy:=g7
noncomputable def ao:D->D->Option S|.lst ds,.int i=>(di ds i).map .pure|.tup ds,.int i=>(di ds i).map .pure|.str x,.int i=>if x.length<=Wa then(di x i).map λn=>.pure (.str [n])else none|_,_=>none
theorem Df{i}(r:aF H O vs ds)(h:di ds i=some d):∃v,di vs i=some v/\Rep H O v d:=by unfold di at h⊢;rw[r.1];cases e:fI ds.length i with|none=>rw[e]at h;cases h|some j=>rw[e]at h;exact r.get h
theorem w6:da (sE K) ao:=by
 intro c σ δ H x y d e s Q k rx ry hp q;cases d<;>cases e<;>first|(simp[ao]at hp;done)|skip
 .rename_i z i;simp only[ao]at hp;split at hp;.rename_i hz;cases e1:di z i with|none=>rw[e1]at hp;cases hp|some n=>rw[e1]at hp;simp only[WP,Wd]at hp;subst hp;refine .inr (.inr ⟨toS z,i,n,rx.str,ry.int,C6 hz,%[nN|e1],?_⟩);exact q (.str (toS [n])) H (.refl k) (.str [n])
  .cases hp
 .rename_i ds i;simp only[ao]at hp;cases e1:di ds i with|none=>rw[e1]at hp;cases hp|some n=>rw[e1]at hp;simp only[WP,Wd]at hp;subst hp;obtain⟨a,vs,ea,ha,ra⟩:=rx.tup;obtain⟨v,e2,r2⟩:=Df ra e1;exact .inr (.inl ⟨a,vs,i,v,ea,ry.int,.of ha,e2,q v H (.refl k) r2⟩)
 .rename_i ds i;simp only[ao]at hp;cases e1:di ds i with|none=>rw[e1]at hp;cases hp|some n=>rw[e1]at hp;simp only[WP,Wd]at hp;subst hp;obtain⟨a,vs,ea,ha,ra⟩:=rx.lst;obtain⟨v,e2,r2⟩:=Df ra e1;exact .inl ⟨a,vs,i,v,ea,ry.int,.inl ha,e2,q v H (.refl k) r2⟩
def d_:=cz (λi j=>decide (j<i)) λx y=>decide (y<x)
def w8:=cz (λi j=>decide (j<=i)) λx y=>!decide (x<y)
theorem t5:bZ X (WJ .Gt) (mI (λi j=>decide (j<i)) λx y=>decide (y<x)):=Ml.or (t4 (g:=λx y=>decide (y<x)) λ_ _ _ _ _ _ h=>PySem.P.gt_str h)
theorem OK:bZ X (WJ .GtE) (mI (λi j=>decide (j<=i)) λx y=>!decide (x<y)):=Mm.or (t4 (g:=λx y=>!decide (x<y)) λ_ _ _ _ _ _ h=>PySem.P.ge_str h)
abbrev DA:=Dl->Rs (List D)
def OL(c:Fc)(f:DA):TA:=λσ H Q=>∃δ,Ok c σ δ H/\post c (f δ) λds δ'=>∀vs H',aK c σ δ H σ δ' H'->aF H' (Av c σ δ') vs ds->Q vs H'
structure SA(X:Cx)(c:Fc)(es:List Expr)(f:DA):Prop where pa:PA X es (OL c f)len:∀δ ds δ',f δ=.ok ds δ'->ds.length=es.length
theorem PA.weak{t'}(h:PA X es t)(w:∀σ H Q,t' σ H Q->t σ H Q):PA X es t':=λpos pins s σ H Q I q=>h pos pins s σ H Q I (w σ H Q q)
def ay:DA:=λδ=>.ok [] δ
def ak(f:DE)(g:DA):DA:=λδ=>(f δ).bind λx δ1=>(g δ1).bind λxs δ2=>.ok (x.d::xs) δ2
section
variable{f:DE}{g:DA}
theorem Dg:SA X c [] ay:=⟨PA.weak fH λσ H Q⟨δ,k,q⟩=>q [] H (.refl k) .nil,λδ ds δ' h=>by cases h;rfl⟩
theorem Dh(ha:SE X c e f)(hr:SA X c es g)(hs:W7 (e::es) X.env=(false,eval e X.env)::W7 es X.env:=by rfl):SA X c (e::es) (ak f g):=by
 refine⟨PA.weak (dU ha hr.pa hs) λσ H Q⟨δ,k,q⟩=>?_,λδ ds δ' h=>?_⟩;.unfold ak at q;rw[bh]at q;refine⟨δ,k,aN q λx δ1 q1 v H1 a1 r1=>⟨δ1,a1.ok,?_⟩⟩;rw[bh]at q1;exact aN q1 λxs δ2 q2 vs H2 a2 r2=>q2 (v::vs) H2 (a1.trans a2) (.cons (Rep.dw r1.rep a2) r2)
 .unfold ak at h;cases h1:f δ with
 |ok x δ1=>rw[h1]at h;cases h2:g δ1 with|ok xs δ2=>simp only[Rs.bind,h2]at h;cases h;simp[hr.len _ _ _ h2]|exc x δx=>simp only[Rs.bind,h2]at h;cases h|stuck=>simp only[Rs.bind,h2]at h;cases h
 |exc x δx=>rw[h1]at h;cases h|stuck=>rw[h1]at h;cases h
def aG(f:DA):DE:=λδ=>(f δ).bind λds δ'=>.ok (.pure (.tup ds)) δ'
def cj(f:DA):DE:=λδ=>(f δ).bind λds δ'=>.ok (.own (.lst ds)) δ'
theorem Di(h:n<=1000):n<=Wa:=QV (Nt h)
theorem Dj(h:post c r k):post c r λa δ=>r=.ok a δ/\k a δ:=by cases r with|ok a δ=>exact⟨rfl,h⟩|exc x δx=>exact h|stuck=>exact h
theorem Dk{x1}(h:SA X c es g)(hz:es.length<=1000:=by decide):SE X c (.Tuple es x1 pos) (aG g):=PE.weak (MB h.pa) λσ H Q⟨δ,k,q⟩=>by unfold aG at q;rw[bh]at q;refine⟨δ,k,aN (Dj q) λds δ1⟨e1,q1⟩vs H1 a1 r1=>?_⟩;have hl:=h.len _ _ _ e1;exact⟨%[r1.1,hl|Di hz],λp hp=>q1 _ _ (a1.trans (.alloc a1.ok hp _)) (aY.back (aY.nQ a1.ok r1 hp) a1)⟩
theorem Dm(h:SA X c es g)(hz:es.length<=1000:=by decide):SE X c (.List es pos) (cj g):=PE.weak (MC h.pa) λσ H Q⟨δ,k,q⟩=>by unfold cj at q;rw[bh]at q;refine⟨δ,k,aN (Dj q) λds δ1⟨e1,q1⟩vs H1 a1 r1=>?_⟩;have hl:=h.len _ _ _ e1;exact⟨%[r1.1,hl|Di hz],λp hp=>q1 _ _ (a1.trans (.alloc a1.ok hp _)) (aY.back (aY.nO a1.ok r1 hp) a1)⟩
end
noncomputable def p1(p:D->Option S)(x:D)(δ:Dl):Rs S:=match p x with|some s=>.ok s δ|none=>.stuck
def aC(p:D->Option S)(fb:BE):DE:=λδ=>(fb δ).bind λx δ1=>p1 p x δ1
def jf(r:V->Hp->VK->Prop)(p:D->Option S):Prop:=∀(c:Fc)(σ:St)(δ:Dl)(H:Hp)(x:V)(d:D)(s:S)(Q:VK),Ok c σ δ H->c7 c σ δ H x d->p d=some s->(∀v H',aK c σ δ H σ δ H'->aY c σ δ H H' v s->Q v H')->r x H Q
section
variable{r:V->Hp->VK->Prop}{p:D->Option S}{id T:String}
theorem w_{Q}(hp:jf r p)(k:Ok c σ δ H)(rx:c7 c σ δ H v d)(h:post c (p1 p d δ) λs δ'=>∀v H',aK c σ δ H σ δ' H'->aY c σ δ' H H' v s->Q v H'):r v H Q:=by unfold p1 at h;cases e1:p d with|none=>rw[e1]at h;exact h.elim|some s=>rw[e1]at h;exact hp c σ δ H v d s Q k rx e1 h
theorem qj{Q}(hp:jf r p)(h:tD c (aC p fb) σ H Q):Me r (UF c fb) σ H Q:=by obtain⟨δ,k,q⟩:=h;unfold aC at q;rw[bh]at q;exact⟨δ,k,aN q λy δ1 q1 v H1 a1 r1=>w_ hp a1.ok r1 (aN q1 λs δ2 q2 w H2 a2 r2=>q2 w H2 (a1.trans a2) (aY.back r2 a1))⟩
theorem xa(hc:fF X (.builtin id) rl)(hl:∀v H Q,r v H Q->rl [v] H Q)(hp:jf r p)(hg:Gl X x)(hm:X.mg x=none)(hv:Qu x=some (.builtin id))(he:SB X c e fb)(hn:x≠"__name__":=by decide)(dm:(x==("__debug__":Str))=false:=by decide)(hs:W7 [e] X.env=(false,eval e X.env)::W7 [] X.env:=by rfl)(bu:(WO pos (W7 [] X.env)).any (·.1)=false:=by rfl):SE X c (.Call (.Name x pp) [e] [] pos) (aC p fb):=PE.weak (pP hc hg hm hv (dU he fH hs) hn dm hs bu) λσ H Q h=>by obtain⟨δ,k,q⟩:=qj hp h;exact⟨δ,k,aN q λy δ1 q1 v H1 a1 r1=>hl _ _ _ (q1 v H1 a1 r1)⟩
theorem xf(hc:fF X (.type T) rl)(hl:∀v H Q,r v H Q->rl [v] H Q)(hp:jf r p)(hg:Gl X x)(hm:X.mg x=none)(hv:Qu x=some (.type T))(he:SB X c e fb)(hn:x≠"__name__":=by decide)(dm:(x==("__debug__":Str))=false:=by decide)(hs:W7 [e] X.env=(false,eval e X.env)::W7 [] X.env:=by rfl)(bu:(WO pos (W7 [] X.env)).any (·.1)=false:=by rfl):SE X c (.Call (.Name x pp) [e] [] pos) (aC p fb):=PE.weak (ME hc hg hm hv (dU he fH hs) hn dm hs bu) λσ H Q h=>by obtain⟨δ,k,q⟩:=qj hp h;exact⟨δ,k,aN q λy δ1 q1 v H1 a1 r1=>hl _ _ _ (q1 v H1 a1 r1)⟩
noncomputable def bB:D->Option S|.lst ds=>some (.pure (.int ds.length))|.tup ds=>some (.pure (.int ds.length))|.str z=>if z.length<=Wa then some (.pure (.int z.length))else none|.bU ds=>some (.pure (.int ds.length))|_=>none
def OM(K:W2):V->Hp->VK->Prop:=λv H Q=>((∃p ys,v=.ref p/\(cU K H p ys\/df K H p ys)/\Q (.int ys.length) H)\/∃z,v=.str z/\z.length<=Wa/\Q (.int z.length) H)\/∃a ar,v=V.ref a/\H a=some (.dK ar)/\Q (.int ar.length) H
theorem ON:jf (OM K) bB:=by intro c σ δ H x d s Q k rx hp q;cases d with
 |lst ds=>simp only[bB,Wd]at hp;subst hp;obtain⟨a,vs,ea,ha,ra⟩:=rx.lst;exact .inl (.inl ⟨a,vs,ea,.inl (.inl ha),%[ra.1|q _ H (.refl k) (.int _)]⟩)|tup ds=>simp only[bB,Wd]at hp;subst hp;obtain⟨a,vs,ea,ha,ra⟩:=rx.tup;exact .inl (.inl ⟨a,vs,ea,.inr (.of ha),%[ra.1|q _ H (.refl k) (.int _)]⟩)|str z=>
 simp only[bB]at hp;split at hp;.rename_i hz;simp only[Wd]at hp;subst hp;exact .inl (.inr ⟨toS z,rx.str,C6 hz,%[jM|q _ H (.refl k) (.int _)]⟩)
 .cases hp|bU ds=>
 simp only[bB,Wd]at hp;subst hp;obtain⟨a,ws,ea,ha,h1,h2⟩:=rx.bU;have hl:ws.length=ds.length:=by have:=congrArg JY h1;simpa using this
 exact .inr ⟨a,ws,ea,ha,%[hl|q _ H (.refl k) (.int _)]⟩|_=>simp[bB]at hp
theorem OO(hg:Gl X "len")(hm:X.mg "len"=none)(he:SB X c e fb)(hs:W7 [e] X.env=(false,eval e X.env)::W7 [] X.env:=by rfl):SE X c (.Call (.Name "len" pp) [e] [] pos) (aC bB fb):=xa ((M4.or M5).or Nu) (λv H Q h=>by
 rcases h with(⟨p,ys,e,h⟩|⟨z,e,h⟩)|⟨a,ar,e,h⟩;.exact .inl (.inl ⟨p,ys,by rw[e],h⟩)
 .exact .inl (.inr ⟨z,by rw[e],h⟩)
 .exact .inr ⟨a,ar,by rw[e],h⟩) (ON (K:=X.K)) hg hm PySem.boot_len he Z' Z' hs
noncomputable def cq:D->Option S|.lst ds=>some (.pure (.tup ds))|.tup ds=>some (.pure (.tup ds))|_=>none
def OP(K:W2):V->Hp->VK->Prop:=λv H Q=>∃p ys,v=.ref p/\((cU K H p ys/\∀l,H l=none->Q (.ref l) (upd H l (.tup ys)))\/df K H p ys/\Q (.ref p) H)
theorem OQ:jf (OP K) cq:=by
 intro c σ δ H x d s Q k rx hp q
 cases d with|lst ds=>simp only[cq,Wd]at hp;subst hp;obtain⟨a,vs,ea,ha,ra⟩:=rx.lst;exact⟨a,vs,ea,.inl ⟨.inl ha,λl hl=>q _ _ (.alloc k hl _) (aY.nQ k ra hl)⟩⟩|tup ds=>
 simp only[cq,Wd]at hp;subst hp;obtain⟨a,vs,ea,ha,ra⟩:=rx.tup;refine⟨a,vs,ea,.inr ⟨.of ha,?_⟩⟩;rw[ea]at rx;rcases rx with rx|⟨_,_,rx⟩;.exact q _ H (.refl k) rx
 .exact rx.elim|_=>simp[cq]at hp
theorem OR(hg:Gl X "tuple")(hm:X.mg "tuple"=none)(he:SB X c e fb)(hs:W7 [e] X.env=(false,eval e X.env)::W7 [] X.env:=by rfl):SE X c (.Call (.Name "tuple" pp) [e] [] pos) (aC cq fb):=xf M6 (λv H Q⟨p,ys,e,h⟩=>⟨p,ys,by rw[e],h⟩) (OQ (K:=X.K)) hg hm PyProof.Rows.boot_tuple he Z' Z' hs
noncomputable def mJ:D->Option S|.int i=>some (.pure (.int i))|.bl b=>some (.pure (.int (if b then 1 else 0)))|_=>none
theorem OS(hg:Gl X "int")(hm:X.mg "int"=none)(he:SB X c e fb)(hs:W7 [e] X.env=(false,eval e X.env)::W7 [] X.env:=by rfl):SE X c (.Call (.Name "int" pp) [e] [] pos) (aC mJ fb):=xf (r:=λv H Q=>(∃i,v=.int i/\Q (.int i) H)\/∃k,v=.bl k/\Q (.int (if k then 1 else 0)) H) Mt (λv H Q h=>by
 rcases h with⟨i,e,q⟩|⟨k,e,q⟩;.exact .inl ⟨i,by rw[e],q⟩
 .exact .inr ⟨k,by rw[e],q⟩) (λc σ δ H x d s Q k rx hp q=>by cases d with|int i=>simp only[mJ,Wd]at hp;subst hp;exact .inl ⟨i,rx.int,q _ H (.refl k) (.int _)⟩|bl b=>simp only[mJ,Wd]at hp;subst hp;exact .inr ⟨b,rx.bl,q _ H (.refl k) (.int _)⟩|_=>simp[mJ]at hp) hg hm PyProof.Rows.boot_int he Z' Z' hs
noncomputable def jg:List D->Option (List Bool)|[]=>some []|.bl b::r=>(jg r).map (b::.)|_::_=>none
noncomputable def gc:List D->Option (List Tx)|[]=>some []|.str x::r=>(gc r).map (x::.)|_::_=>none
theorem xg:∀{ds:List D}{vs:List V}{bs:List Bool},jg ds=some bs->aF H O vs ds->vs=bs.map V.bl|[],vs,bs,h,r=>by simp only[jg,Wd]at h;subst h;have:=r.1;simpa using this|d::ds,[],bs,h,r=>by have:=r.1;simp at this|d::ds,v::vs,bs,h,r=>by cases d with
 |bl b=>simp only[jg]at h;cases e:jg ds with|none=>rw[e]at h;cases h|some bw=>rw[e]at h;simp only[WP,Wd]at h;subst h;have:=r.head;cases this;rw[xg e r.tail];rfl
 |_=>simp[jg]at h
theorem nX:∀{ds:List D}{vs:List V}{bs:List Tx},gc ds=some bs->aF H O vs ds->vs=bs.map λz=>V.str (toS z)|[],vs,bs,h,r=>by simp only[gc,Wd]at h;subst h;have:=r.1;simpa using this|d::ds,[],bs,h,r=>by have:=r.1;simp at this|d::ds,v::vs,bs,h,r=>by cases d with
 |str b=>simp only[gc]at h;cases e:gc ds with|none=>rw[e]at h;cases h|some bw=>rw[e]at h;simp only[WP,Wd]at h;subst h;have:=r.head;cases this;rw[nX e r.tail];rfl
 |_=>simp[gc]at h
theorem Dn:∀ts:List Tx,aF H O (ts.map λz=>V.str (toS z)) (ts.map D.str)|[]=>.nil|t::ts=>.cons (.str t) (Dn ts)
noncomputable def qaD:D->Option S|.lst ds=>(jg ds).map λbs=>.pure (.bl (bs.all λb=>b))|_=>none
noncomputable def mK:D->Option S
 |.lst ds=>match gc ds with|some ts=>if ts.length<64 then some (.own (.lst ((iw ts).map D.str)))else none|none=>none
 |_=>none
theorem OT(hg:Gl X "sorted")(hm:X.mg "sorted"=none)(he:SB X c e fb)(hs:W7 [e] X.env=(false,eval e X.env)::W7 [] X.env:=by rfl):SE X c (.Call (.Name "sorted" pp) [e] [] pos) (aC mK fb):=xa (r:=λv H Q=>∃(a:Addr)(ts:List Tx),v=.ref a/\cU X.K H a (ts.map λz=>V.str (toS z))/\ts.length<64/\∀p,H p=none->Q (.ref p) (upd H p (.lst ((iw ts).map λz=>V.str (toS z))))) Ol (λv H Q⟨a,bs,e,h⟩=>⟨a,bs,by rw[e],h⟩) (λc σ δ H x d s Q k rx hp q=>by cases d with
 |lst ds=>simp only[mK]at hp;cases e:gc ds with|none=>rw[e]at hp;cases hp|some ts=>
 rw[e]at hp;simp only at hp;split at hp;.rename_i hz;simp only[Wd]at hp;subst hp;obtain⟨a,vs,ea,ha,ra⟩:=rx.lst;have:=nX e ra;subst this;exact⟨a,ts,ea,.inl ha,hz,λp hp=>q _ _ (.alloc k hp _) (aY.nO k (Dn _) hp)⟩
 .cases hp|_=>simp[mK]at hp) hg hm PyProof.Rows.boot_sorted he Z' Z' hs
noncomputable def xh:D->D->Option S|.int i,.int j=>some (.pure (.int (if j>i then j else i)))|_,_=>none
def qk(f g:DE):DE:=λδ=>(f δ).bind λx δ1=>(g δ1).bind λy δ2=>p2 xh x.d y.d δ2
theorem OU{a b:Expr}{f g:DE}(hc:X.calm=true)(hg:Gl X "max")(hm:X.mg "max"=none)(ha:SE X c a f)(hb:SE X c b g)(hs:W7 [a,b] X.env=(false,eval a X.env)::W7 [b] X.env:=by rfl)(lG:W7 [b] X.env=(false,eval b X.env)::W7 [] X.env:=by rfl)(bu:(WO pos (W7 [b] X.env)).any (·.1)=false:=by rfl):SE X c (.Call (.Name "max" pp) [a,b] [] pos) (qk f g):=PE.weak (pP (Ms hc) hg hm PyProof.Rows.boot_max (dU ha (dU hb fH lG) hs) Z' Z' hs bu) λσ H Q⟨δ,k,q⟩=>by
 unfold qk at q;rw[bh]at q;refine⟨δ,k,aN q λx δ1 q1 v H1 a1 r1=>⟨δ1,a1.ok,?_⟩⟩;rw[bh]at q1;refine aN q1 λy δ2 q2 u H2 a2 r2=>?_;unfold p2 at q2;have hx:c7 c σ δ2 H2 v x.d:=.inl (Rep.dw r1.rep a2);have hy:=r2.b;generalize x.d=dx at q2 hx;generalize y.d=dy at q2 hy;cases dx<;>cases dy<;>first|exact q2.elim|skip
 rename_i i j;exact⟨i,j,by rw[hx.int,hy.int],q2 _ H2 (a1.trans a2) (.int _)⟩
noncomputable def qo(T:String):D->Option Bool|.aJ=>some (T=="NoneType")|.bl _=>some (T=="bool"||T=="int")|.int _=>some (T=="int")|.str _=>some (T=="str")|.tup _=>some (T=="tuple")|.lst _=>some (T=="list")|.bU _=>some (T=="dict")|.exc _ _=>none|.xd _=>none|.fn _=>none|.dic _=>none
structure kF(K:W2)(T:String):Prop where aJ:QO K (.type "NoneType") (.type T)=some (T=="NoneType")bl:QO K (.type "bool") (.type T)=some (T=="bool"||T=="int")int:QO K (.type "int") (.type T)=some (T=="int")str:QO K (.type "str") (.type T)=some (T=="str")tup:QO K (.type "tuple") (.type T)=some (T=="tuple")lst:QO K (.type "list") (.type T)=some (T=="list")bU:QO K (.type "dict") (.type T)=some (T=="dict")
def jO(T:String)(fb:BE):DE:=λδ=>(fb δ).bind λd δ'=>match qo T d with|some b=>.ok (.pure (.bl b)) δ'|none=>.stuck
theorem OV{Q}(ty:kF X.K T)(I:Inv X pins σ H s)(ru:RelV v u)(r:Rep H c8 v d)(e:qo T d=some b)(q:Q (.bl b) H):W4 (model X.prog X.w) X.A (call (.builtin "isinstance") [u,.type T]) (EP X pins σ Q) X.xe s:=by
 have fin:∀tk,EP X pins σ Q (.bool b) {s with toks:=tk}:=λtk=>⟨.bl b,H,I.tok tk,rfl,q⟩
 cases r with|aJ=>exact lp I ru .aJ (ty.aJ.trans e) fin|bl x=>exact lp I ru (.bl x) (ty.bl.trans e) fin|int x=>exact lp I ru (.int x) (ty.int.trans e) fin|str x=>exact lp I ru (.str _) (ty.str.trans e) fin|tup _ h2 _ _=>exact lp I ru (.tup h2) (ty.tup.trans e) fin|lst _ h2 _ _=>
 rcases h2 with h2|⟨o,h2⟩;.exact lp I ru (.lst h2) (ty.lst.trans e) fin
 .exact lp I ru (.frz h2) (ty.lst.trans e) fin|bU _ h2 _ _=>exact lp I ru (.dK h2) (ty.bU.trans e) fin|exc _ _=>cases e|xd _ _=>cases e|fn _=>cases e|dic _=>cases e
theorem OW(ty:kF X.K T):fF X (.builtin "isinstance") λxs H Q=>∃v d b,xs=[v,.ty T]/\Rep H c8 v d/\qo T d=some b/\Q (.bl b) H:=by intro pins s σ H xs us Q I r h;obtain⟨v,d,b,rfl,rp,e,q⟩:=h;obtain⟨u,w',rfl,r1,r2⟩:=vX r;cases r2;exact OV ty I r1 rp e q
theorem xi{y:Str}{py:Pos}(ty:kF X.K T)(hg:Gl X "isinstance")(hm:X.mg "isinstance"=none)(qp:Gl X y)(qr:X.mg y=none)(xj:Qu y=some (.type T))(he:SB X c e fb)(xk:y≠"__name__":=by decide)(qt:(y==("__debug__":Str))=false:=by decide)(hs:W7 [e,.Name y py] X.env=(false,eval e X.env)::W7 [.Name y py] X.env:=by rfl)(bu:(WO pos (W7 [.Name y py] X.env)).any (·.1)=false:=by rfl):SE X c (.Call (.Name "isinstance" pp) [e,.Name y py] [] pos) (jO T fb):=PE.weak (pP (OW ty) hg hm PyProof.Rows.boot_isinstance (dU he (dU (Bg (v:=.ty T) qp qr xj rfl xk qt) fH) hs) Z' Z' hs bu) λσ H Q⟨δ,k,q⟩=>by unfold jO at q;rw[bh]at q;refine⟨δ,k,aN q λd δ1 q1 v H1 a1 r1=>?_⟩;cases e1:qo T d with|none=>rw[e1]at q1;exact q1.elim|some b=>rw[e1]at q1;exact⟨v,d,b,rfl,r1.un,e1,q1 _ H1 a1 (.bl _)⟩
end
abbrev lH:=Dl->Rs (Option Int)
def Dp(c:Fc)(f:lH):TO:=λσ H Q=>∃δ,Ok c σ δ H/\post c (f δ) λo δ'=>∀H',aK c σ δ H σ δ' H'->Q o H'
abbrev SO(X:Cx)(c:Fc)(e:Option Expr)(f:lH):Prop:=PO X e (Dp c f)
theorem PO.weak{e t'}(h:PO X e t)(w:∀σ H Q,t' σ H Q->t σ H Q):PO X e t':=λpins s σ H Q I q=>h pins s σ H Q I (w σ H Q q)
def de:lH:=λδ=>.ok none δ
def cu(f:DE):lH:=λδ=>(f δ).bind λr δ'=>match r with|.pure (.int i)=>.ok (some i) δ'|_=>.stuck
section
variable{f:DE}{fl fh:lH}{lo hi:Option Expr}{p2:Pos}
theorem OX:SO X c none de:=PO.weak MM λσ H Q⟨δ,k,q⟩=>q H (.refl k)
theorem OY(h:SE X c e f):SO X c (some e) (cu f):=PO.weak (MN h) λσ H Q⟨δ,k,q⟩=>by unfold cu at q;rw[bh]at q;refine⟨δ,k,aN q λr δ1 q1 v H1 a1 r1=>?_⟩;cases r with|own d=>exact q1.elim|pure d=>
 cases d<;>first|exact q1.elim|skip
 rename_i i;cases r1;exact⟨i,rfl,q1 H1 a1⟩
noncomputable def eJ(lo hi:Option Int):D->Option S|.str x=>if x.length<=Wa then some (.pure (.str (cD x lo hi)))else none|.tup ds=>some (.pure (.tup (cD ds lo hi)))|.lst ds=>some (.own (.lst (cD ds lo hi)))|_=>none
def Dq(K:W2):V->Option Int->Option Int->Hp->VK->Prop:=λx lo hi H Q=>CU x lo hi H Q\/CS K x lo hi H Q\/B5 K x lo hi H Q
theorem Dr:jK X (Dq X.K):=tO.or (Ob.or M0)
theorem Ds(lo hi:Option Int):jf (λx H Q=>Dq K x lo hi H Q) (eJ lo hi):=by intro c σ δ H x d s Q k rx hp q;cases d with
 |str z=>
  simp only[eJ]at hp;split at hp;.rename_i hz;simp only[Wd]at hp;subst hp;exact .inl ⟨z,rx.str,hz,q _ H (.refl k) (.str _)⟩
  .cases hp|tup ds=>
  simp only[eJ,Wd]at hp;subst hp;obtain⟨a,vs,ea,ha,ra⟩:=rx.tup;refine .inr (.inl ⟨a,vs,ea,.of ha,λhw=>?_,λ_ p hp=>?_⟩)
  .rw[ra.1]at hw;rw[N_ hw]at q;rw[ea]at rx;rcases rx with rx|⟨_,_,rx⟩;.exact q _ H (.refl k) rx
   .exact rx.elim
  .rw[<-CQ];exact q _ _ (.alloc k hp _) (aY.nQ k (ra.cut lo hi) hp)|lst ds=>simp only[eJ,Wd]at hp;subst hp;obtain⟨a,vs,ea,ha,ra⟩:=rx.lst;refine .inr (.inr ⟨a,vs,ea,.inl ha,λp hp=>?_⟩);rw[<-CQ];exact q _ _ (.alloc k hp _) (aY.nO k (ra.cut lo hi) hp)|_=>simp[eJ]at hp
def dI(f:DE)(fl fh:lH):DE:=λδ=>(f δ).bind λx δ1=>(fl δ1).bind λl δ2=>(fh δ2).bind λh δ3=>p1 (eJ l h) x.d δ3
theorem OZ(he:SE X c e f)(hl:SO X c lo fl)(hh:SO X c hi fh):SE X c (.Subscript e (.Slice lo hi none p2) pos) (dI f fl fh):=PE.weak (BX Dr he hl hh) λσ H Q⟨δ,k,q⟩=>by unfold dI at q;rw[bh]at q;refine⟨δ,k,aN q λx δ1 q1 v H1 a1 r1=>⟨δ1,a1.ok,?_⟩⟩;rw[bh]at q1;refine aN q1 λl δ2 q2 H2 a2=>⟨δ2,a2.ok,?_⟩;rw[bh]at q2;refine aN q2 λh δ3 q3 H3 a3=>?_;exact w_ (Ds l h) a3.ok (.inl (Rep.dw r1.rep (a2.trans a3))) (aN q3 λs δ4 q4 w H4 a4 r4=>q4 w H4 (a1.trans (a2.trans (a3.trans a4))) (aY.back r4 (a1.trans (a2.trans a3))))
def fM(i:Nat)(fl fh:lH):DE:=λδ=>match δ[i]? with|some (some _)=>(fl δ).bind λl δ2=>(fh δ2).bind λh δ3=>(aj i δ3).bind λx δ4=>p1 (eJ l h) x δ4|_=>.stuck
theorem xl{w:S}(k:Ok c σ δ H)(e:δ[i]?=some (some w))(ev:σ[i]?=some (some v)):c7 c σ δ H v w.d:=by cases w with|pure d=>obtain⟨v',e1,r⟩:=k.slot i d e;rw[ev]at e1;cases e1;exact .inl r|own d=>obtain⟨a,e1,r,_⟩:=k.own i d e;rw[ev]at e1;cases e1;exact .inr ⟨a,rfl,r⟩
theorem O0(h:post c ((aj i δ).bind g) kk):∃w,δ[i]?=some (some w)/\post c (g w.d δ) kk:=by unfold aj at h;cases e:δ[i]? with|none=>rw[e]at h;exact h.elim|some o=>cases o with|none=>rw[e]at h;exact h.elim|some w=>rw[e]at h;exact⟨w,rfl,h⟩
theorem O1(he:PE X e (dZ i))(hl:SO X c lo fl)(hh:SO X c hi fh):SE X c (.Subscript e (.Slice lo hi none p2) pos) (fM i fl fh):=PE.weak (BX Dr he hl hh) λσ H Q⟨δ,k,q⟩=>by unfold fM at q;cases e:δ[i]? with|none=>rw[e]at q;exact q.elim|some o=>cases o with|none=>rw[e]at q;exact q.elim|some w=>rw[e]at q;obtain⟨v,ev⟩:=qd k e;have q':post c ((fl δ).bind λl δ2=>(fh δ2).bind λh δ3=>(aj i δ3).bind λx δ4=>p1 (eJ l h) x δ4) λr δ'=>∀v H',aK c σ δ H σ δ' H'->aY c σ δ' H H' v r->Q v H':=q;rw[bh]at q';refine⟨v,ev,δ,k,aN q' λl δ2 q2 H2 a2=>⟨δ2,a2.ok,?_⟩⟩;rw[bh]at q2;refine aN q2 λh δ3 q3 H3 a3=>?_;obtain⟨w3,e3,q4⟩:=O0 q3;exact w_ (Ds l h) a3.ok (xl a3.ok e3 ev) (aN q4 λs δ4 q4 w H4 a4 r4=>q4 w H4 (a2.trans (a3.trans a4)) (aY.back r4 (a2.trans a3)))
def jh(z:Tx):List Tx->Tx|[]=>[]|[x]=>x|x::y::r=>x++z++jh z (y::r)
theorem Dt(z:Tx):∀(r:List Tx)(acc:Tx),(r.map toS).foldl (λ(acc:Array Nat)p=>acc++(toS z).cps++p.cps) acc.toArray=(match r with|[]=>acc|x::r'=>acc++z++jh z (x::r')).toArray|[],acc=>rfl|x::r,acc=>by rw[Wf,JB];have e:acc.toArray++(toS z).cps++(toS x).cps=(acc++z++x).toArray:=#v[toS];rw[e,Dt z r (acc++z++x)];cases r with|nil=>simp[jh]|cons y r'=>simp[jh]
theorem O2(z:Tx)(ts:List Tx):Txt.join (toS z) (ts.map toS)=toS (jh z ts):=by show Builtin.Str.glued _ _=_;unfold Builtin.Str.glued;cases ts with|nil=>rfl|cons x r=>rw[Wf];show(⟨List.foldl _ (toS x).cps (r.map toS)⟩:Str)=_;have:=Dt z r x;have e:(toS x).cps=x.toArray:=rfl;rw[e,this];cases r with|nil=>rfl|cons y r'=>rfl
def g8(ts:List Tx):Nat:=(ts.map (·.length)).sum
noncomputable def cE(z:Tx):D->Option S
 |.lst ds=>match gc ds with|some ts=>if g8 ts+ts.length*z.length<=16777216 then some (.pure (.str (jh z ts)))else none|none=>none
 |.tup ds=>match gc ds with|some ts=>if g8 ts+ts.length*z.length<=16777216 then some (.pure (.str (jh z ts)))else none|none=>none
 |_=>none
theorem O3(z:Tx):jf (λx H Q=>tQ K (.str (toS z)) [x] H Q) (cE z):=by
 intro c σ δ H x d s Q k rx hp q;have key:∀(a:Addr)(vs:List V)(ds:List D),x=.ref a->cU K H a vs\/df K H a vs->aF H (Av c σ δ) vs ds->(match gc ds with|some ts=>if g8 ts+ts.length*z.length<=16777216 then some (S.pure (.str (jh z ts)))else none|none=>none)=some s->tQ K (.str (toS z)) [x] H Q:=by intro a vs ds ea ha ra hp;cases e:gc ds with|none=>rw[e]at hp;cases hp|some ts=>
   rw[e]at hp;simp only at hp;split at hp
   .rename_i hz;simp only[Wd]at hp;subst hp;have:=nX e ra;subst this;refine⟨toS z,a,ts.map toS,rfl,by rw[ea],?_,?_,?_⟩;.rw[WC];exact ha
    .rw[WC,Wv,jM];have:(λx:Str=>x.length)∘toS=λx:Tx=>x.length:=funext λx=>jM x;rw[this];exact hz
    .rw[O2];exact q _ H (.refl k) (.str _)
   .cases hp
 cases d with|lst ds=>obtain⟨a,vs,ea,ha,ra⟩:=rx.lst;exact key a vs ds ea (.inl (.inl ha)) ra hp|tup ds=>obtain⟨a,vs,ea,ha,ra⟩:=rx.tup;exact key a vs ds ea (.inr (.of ha)) ra hp|_=>simp[cE]at hp
theorem O4{j}{p0 apos br:Pos}(z:Tx)(he:SB X c e fb)(hx:x=toS z:=by decide+kernel)(iq:QL (.Constant (.str x) j p0) "join" X.env (eval (.Constant (.str x) j p0) X.env)=eval (.Constant (.str x) j p0) X.env:=by rfl)(ir:((WO br (W7 [e] X.env)).all (λx=>!x.1)&&(backToKw br (JG [] X.env)).all (λx=>x.1.isSome)&&decide ([e].length+([]:List Keyword).length+(if([]:List Keyword).isEmpty then 0 else 1)<30))=true:=by rfl)(fA:(apos.endLine==br.line)=true:=by rfl)(hs:W7 [e] X.env=(false,eval e X.env)::W7 [] X.env:=by rfl):SE X c (.Call (.Attribute (.Constant (.str x) j p0) "join" apos) [e] [] br) (aC (cE z) fb):=by subst hx;refine PE.weak (nM PySem.F.plainAttrs_str PySem.F.slot_str_join PySem.F.type_str_join Og Be (dU he fH hs) iq ir fA hs rfl) λσ H Q h=>?_;obtain⟨δ,k,q⟩:=qj (r:=λx H Q=>tQ X.K (.str (toS z)) [x] H Q) (O3 z) h;refine⟨?_,δ,k,q⟩;show("str":String)="str";rfl
end
inductive Fl where|next|ret(r:S)|brk|cont
abbrev DS:=Dl->Rs Fl
variable{ib:Addr->(D->Option D)->DS}
def fin(c:Fc)(D:Ends)(σ:St)(δ:Dl)(H:Hp):Fl->Prop|.next=>D.nx σ H|.ret r=>∀v,aY c σ δ c.H₀ H v r->D.rt v H|.brk=>D.bk σ H|.cont=>D.ct σ H
def dJ(c:Fc)(D:Ends)(σ:St)(δ:Dl)(H:Hp)(r:Rs Fl):Prop:=post c r λfl δ'=>∀σ' H',aK c σ δ H σ' δ' H'->fin c D σ' δ' H' fl
def iS(c:Fc)(f:DS):TS:=λD σ H=>∃δ,Ok c σ δ H/\dJ c D σ δ H (f δ)
abbrev SS(X:Cx)(c:Fc)(st:Stmt)(f:DS):Prop:=PS X st (iS c f)
abbrev dA(X:Cx)(c:Fc)(st:List Stmt)(f:DS):Prop:=dF X st (iS c f)
theorem PS.weak{st:Stmt}{t t':TS}(h:PS X st t)(w:∀D σ H,t' D σ H->t D σ H):PS X st t':=λpins s σ H D I q=>h pins s σ H D I (w D σ H q)
theorem dF.weak{st:List Stmt}{t t':TS}(h:dF X st t)(w:∀D σ H,t' D σ H->t D σ H):dF X st t':=λpins s σ H D I q=>h pins s σ H D I (w D σ H q)
def cA:DS:=λδ=>.ok .next δ
def au(f g:DS):DS:=λδ=>(f δ).bind λfl δ1=>match fl with|.next=>g δ1|.ret r=>.ok (.ret r) δ1|.brk=>.ok .brk δ1|.cont=>.ok .cont δ1
def kG(f:DE):DS:=λδ=>(f δ).bind λ_ δ1=>.ok .next δ1
def bt(f:DE):DS:=λδ=>(f δ).bind λr δ1=>.ok (.ret r) δ1
def ck(t:DT)(f g:DS):DS:=λδ=>(t δ).bind λb δ1=>if b then f δ1 else g δ1
def qu:DS:=λ_=>.stuck
def qaE(np:List Nat)(i:Nat):DE:=λδ=>match δ[i]? with|some (some (.own d))=>if np.contains i then .ok (.pure d) (δ.set i (some (.pure d)))else .ok (.own d) (δ.set i none)|some (some (.pure d))=>.ok (.pure d) δ|_=>.stuck
section
variable{st:Stmt}{a:Expr}{f g:DS}{t:DT}
theorem O5:dA X c [] cA:=dF.weak LM λD σ H⟨δ,k,q⟩=>q σ H (.refl k)
theorem O6(h1:SS X c st f)(h2:dA X c Du g):dA X c (st::Du) (au f g):=dF.weak (Bk h1 h2) λD σ H⟨δ,k,q⟩=>by unfold au dJ at q;rw[bh]at q;refine⟨δ,k,aN q λfl δ1 q1 σ1 H1 a1=>?_⟩;cases fl with|next=>exact⟨δ1,a1.ok,aN q1 λfl2 δ2 q2 σ2 H2 a2=>q2 σ2 H2 (a1.trans a2)⟩|ret r=>exact q1 σ1 H1 a1|brk=>exact q1 σ1 H1 a1|cont=>exact q1 σ1 H1 a1
theorem O7(h1:SS X c st f):dA X c [st] f:=dF.weak (Bl h1) λD σ H h=>h
theorem O8:SS X c st qu:=PS.weak LR λD σ H⟨δ,k,q⟩=>q
theorem O9(he:SE X c e fe):SS X c (.Return (some e) pos) (bt fe):=PS.weak (Bn he) λD σ H⟨δ,k,q⟩=>by unfold bt dJ at q;rw[bh]at q;exact⟨δ,k,aN q λr δ1 q1 v H1 a1 r1=>q1 σ H1 a1 v r1.NX⟩
theorem O_{b1 b2:List Stmt}(ht:ST X c e t)(h1:dA X c b1 f)(h2:dA X c b2 g):SS X c (.If e b1 b2 pos) (ck t f g):=PS.weak (LP ht h1 h2) λD σ H⟨δ,k,q⟩=>by unfold ck dJ at q;rw[bh]at q;refine⟨δ,k,aN q λb δ1 q1 H1 a1=>?_⟩;cases b with|true=>exact⟨δ1,a1.ok,aN q1 λfl δ2 q2 σ2 H2 a2=>q2 σ2 H2 (a1.trans a2)⟩|false=>exact⟨δ1,a1.ok,aN q1 λfl δ2 q2 σ2 H2 a2=>q2 σ2 H2 (a1.trans a2)⟩
theorem Own.qv(h:Own (σ.set i (some v)) (δ.set i (some r)) b):Own σ δ b\/v=.ref b/\∃d,r=.own d:=by
 obtain⟨j,d,e1,e2⟩:=h;by_cases hj:i=j;.subst hj;right;rw[WL]at e1 e2;simp at e1 e2;obtain⟨_,h1⟩:=e1;obtain⟨_,h2⟩:=e2;exact⟨h2,d,h1⟩
 .rw[W9 hj]at e1 e2;exact .inl ⟨j,d,e1,e2⟩
theorem Ok.set(x:aK c σ₀ δ₀ H₁ σ δ H)(hr:aY c σ δ H₁ H v r)(hp:∀p∈c.pin,p.1≠i):aK c σ₀ δ₀ H₁ (σ.set i (some v)) (δ.set i (some r)) H:=by
 have k:=x.ok;have all:∃c':Fc,c'.H₀=c.H₀/\c'.pin=c.pin/\Ok c' σ δ H/\∀b,Av c (σ.set i (some v)) (δ.set i (some r)) b->Av c' σ δ b:=by cases r with
 |pure d=>
   refine⟨c,rfl,rfl,k,λb z=>?_⟩;rcases z with z|z;.exact .inl z
   .rcases z.qv with z|⟨_,d',e⟩;.exact .inr z
    .cases e|own d=>
   obtain⟨a,ea,o,n,f,k2,_⟩:=hr;refine⟨c.plus a,rfl,rfl,k2,λb z=>?_⟩;rcases z with z|z;.exact .inl (.inl z)
   .rcases z.qv with z|⟨e,_⟩;.exact .inr z
    .rw[ea]at e;cases e;exact .inl (.inr rfl)
 obtain⟨c',eH,eP,k2,sub⟩:=all;have eI:∀a,c'.I a↔c.I a:=λa=>by unfold Fc.I;rw[eP]
 have Pb:Rep H (Av c (σ.set i (some v)) (δ.set i (some r))) v r.d\/∃d,r=.own d:=by cases r with
 |pure d=>
   left;refine Rep.aM hr λb z=>?_;rcases z with z|z;.exact .inl (.inl z)
   .rcases z.qv with z|⟨_,d',e⟩;.exact .inl (.inr z)
    .cases e|own d=>exact .inr ⟨d,rfl⟩
 refine⟨⟨k.keep,k.bd,k.du,%[Qs,Qs|k.len],λj d e=>?_,λj d e=>?_,λj l a d d' e1 e2 e3 e4=>?_,λp hm=>?_⟩,x.keep,λb z=>?_,x.there⟩
 .by_cases hj:i=j
  .subst hj;rw[WL]at e;simp at e;obtain⟨hi,rfl⟩:=e;have fS:i<σ.length:=by rw[<-k.len];exact hi
   rcases Pb with h|⟨_,h⟩;.exact⟨v,by rw[Wl fS],h⟩
   .cases h
  .rw[W9 hj]at e;obtain⟨w,e1,q⟩:=k2.slot j d e;exact⟨w,%[W9 hj|e1],q.aM λb z=>.inl (sub b z)⟩
 .by_cases hj:i=j
  .subst hj;rw[WL]at e;simp at e;obtain⟨hi,rfl⟩:=e;have fS:i<σ.length:=by rw[<-k.len];exact hi
   obtain⟨a,ea,o,n,f,k3,_⟩:=hr;refine⟨a,by rw[Wl fS,ea],o.aM λb z=>.inl ?_,.inr f,n⟩;rcases z with z|z;.exact .inl (.inl z)
   .rcases z.qv with z|⟨e,_⟩;.exact .inr z
    .rw[ea]at e;cases e;exact .inl (.inr rfl)
  .rw[W9 hj]at e;obtain⟨a,e1,q,q2,q3⟩:=k.own j d e;obtain⟨a',e1',q',_,_⟩:=k2.own j d e;rw[e1]at e1';cases e1';exact⟨a,%[W9 hj|e1],q'.aM λb z=>.inl (sub b z),q2,q3⟩
 .by_cases hj:i=j
  .subst hj;by_cases hl:i=l;.exact hl
   .rw[W9 hl]at e2 e4;rw[WL]at e1 e3;simp at e1 e3;obtain⟨_,rfl⟩:=e1;obtain⟨_,rfl⟩:=e3;obtain⟨a',ea,o,n,f,k3,_⟩:=hr;cases ea;exact absurd ⟨l,d',e2,e4⟩ (tm k3)
  .rw[W9 hj]at e1 e3;by_cases hl:i=l;.subst hl;rw[WL]at e2 e4;simp at e2 e4;obtain⟨_,rfl⟩:=e2;obtain⟨_,rfl⟩:=e4;obtain⟨a',ea,o,n,f,k3,_⟩:=hr;cases ea;exact absurd ⟨j,d,e1,e3⟩ (tm k3)
   .rw[W9 hl]at e2 e4;exact k.inj j l a d d' e1 e2 e3 e4
 .rw[W9 (Ne.symm (hp p hm))];exact k.pinned p hm
 .rcases z.qv with z|⟨e,d,ed⟩;.exact x.own b z
  .subst ed;obtain⟨a,ea,_,_,_,_,hs⟩:=hr;grind
abbrev DG:=S->Dl->Option Dl
def t7(c:Fc)(g:DG):TG:=λv σ H Q=>∃σ₀ δ₀ H₁ δ r δ',aK c σ₀ δ₀ H₁ σ δ H/\aY c σ δ H₁ H v r/\g r δ=some δ'/\∀σ',aK c σ₀ δ₀ H₁ σ' δ' H->Q σ' H
abbrev SG(X:Cx)(c:Fc)(tg:Expr)(g:DG):Prop:=PG X tg (t7 c g)
def ag(np:List Nat)(i:Nat):DG:=λr δ=>if np.contains i then none else some (δ.set i (some r))
def Np(c:Fc)(np:List Nat):Prop:=∀p∈c.pin,np.contains p.1=true
theorem xm{Q}(hp:Np c np)(h:t7 c (ag np i) v σ H Q):sk i v σ H Q:=by
 obtain⟨σ₀,δ₀,H₁,δ,r,δ',x,rr,e,q⟩:=h;unfold ag at e;split at e;.cases e
 .rename_i hn;cases e;exact q _ (Ok.set x rr λp hm e=>hn (by rw[<-e];exact hp p hm))
theorem PG.weak{t t':TG}(h:PG X tg t)(w:∀v σ H Q,t' v σ H Q->t v σ H Q):PG X tg t':=λpins s σ H v u Q I r q=>h pins s σ H v u Q I r (w v σ H Q q)
theorem gQ.weak{tg:List Expr}{t t':lj}(h:gQ X tg t)(w:∀v σ H Q,t' v σ H Q->t v σ H Q):gQ X tg t':=λpins s σ H v u Q I r q=>h pins s σ H v u Q I r (w v σ H Q q)
theorem Pc(hp:Np c np)(hN:X.N.Nodup)(hi:X.N[i]?=some x)(hx:Loc X.env.scope x)(hf:X.fn x=true\/X.env.scope.names.lookup x=some .local):SG X c (.Name x pos) (ag np i):=PG.weak (Bq hN hi hx hf) λv σ H Q h=>xm hp h
abbrev iT:=List D->Dl->Option Dl
def Dv(c:Fc)(g:iT):lj:=λvs σ H Q=>∃δ ds δ',Ok c σ δ H/\aF H (Av c σ δ) vs ds/\g ds δ=some δ'/\∀σ',aK c σ δ H σ' δ' H->Q σ' H
abbrev mL(X:Cx)(c:Fc)(tg:List Expr)(g:iT):Prop:=gQ X tg (Dv c g)
def cn:iT:=λds δ=>match ds with|[]=>some δ|_=>none
def aQ(g:DG)(gs:iT):iT:=λds δ=>match ds with|[]=>none|d::r=>(g (.pure d) δ).bind λδ1=>gs r δ1
theorem Pd:mL X c [] cn:=gQ.weak Br λvs σ H Q hh=>by
 obtain⟨δ,ds,δ',k,r,e,q⟩:=hh
 cases ds with|nil=>
 cases e;have:vs=[]:=by have:=r.1;simpa using this
 exact⟨this,q σ (.refl k)⟩|cons d r=>cases e
theorem Pe{g:DG}{gs:iT}(h1:SG X c e g)(h2:mL X c es gs)(hs:(Qo (e::es) X.env).map (·.2)=assign e X.env::(Qo es X.env).map (·.2):=by rfl):mL X c (e::es) (aQ g gs):=gQ.weak (Bs h1 h2 hs) λvs σ H Q hh=>by obtain⟨δ,ds,δ',k,r,e,q⟩:=hh;cases ds with|nil=>cases e|cons d ds=>cases vs with|nil=>have:=r.1;simp at this|cons v vs=>simp only[aQ]at e;cases e1:g (.pure d) δ with|none=>rw[e1]at e;cases e|some δ1=>rw[e1]at e;refine⟨v,vs,rfl,σ,δ,H,δ,.pure d,δ1,.refl k,r.head,e1,λσ1 a1=>?_⟩;exact⟨δ1,ds,δ',a1.ok,aF.dw r.tail a1,e,λσ2 a2=>q σ2 (a1.trans a2)⟩
def bV(n:Nat)(gs:iT):DG:=λr δ=>match r.d with|.tup ds=>if ds.length=n then gs ds δ else none|_=>none
theorem Pf{k:Nat}{gs:iT}(hc:X.calm=true)(h:mL X c es gs)(hn:(Qo es X.env).length=n:=by rfl)(cP:(Qo es X.env).findIdx? (·.1)=none:=by rfl):SG X c (.Tuple es k pos) (bV n gs):=PG.weak (Bt hc h hn cP) λv σ H Q hw=>by
 obtain⟨σ₀,δ₀,H₁,δ,r,δ',x,rr,e,q⟩:=hw;have hb:=rr.b;unfold bV at e;generalize r.d=d at e hb;cases d<;>first|(cases e;done)|skip
 rename_i ds;simp only at e;split at e;.rename_i hl;obtain⟨a,vs,ea,ha,ra⟩:=hb.tup;exact⟨a,vs,ea,.of ha,%[ra.1|hl],δ,ds,δ',x.ok,ra,e,λσ' a1=>q σ' (x.trans a1)⟩
 .cases e
def aw(f:DE)(g:DG):DS:=λδ=>(f δ).bind λr δ1=>match g r δ1 with|some δ2=>.ok .next δ2|none=>.stuck
theorem xn{g:DG}{D:Ends}{tg:TG}(he:∀σ H Q,tD c fe σ H Q->te σ H Q)(hg:∀v σ H Q,t7 c g v σ H Q->tg v σ H Q)(h:iS c (aw fe g) D σ H):sm te tg D σ H:=by obtain⟨δ,k,q⟩:=h;unfold aw dJ at q;rw[bh]at q;refine he _ _ _ ⟨δ,k,aN q λr δ1 q1 v H1 a1 r1=>hg _ _ _ _ ?_⟩;cases e:g r δ1 with|none=>rw[e]at q1;exact q1.elim|some δ2=>rw[e]at q1;exact⟨σ,δ,H,δ1,r,δ2,a1,r1,e,λσ' a2=>q1 σ' H1 a2⟩
theorem Pg{g:DG}(he:SE X c e fe)(hg:SG X c tg g)(hs:swapsWithSole [tg] e pos.line X.env=pure false:=by rfl)(hw:swappedStores [tg] e X.env=pure none:=by rfl)(h1:(Qo [tg] X.env).map (·.2)=[assign tg X.env]:=by rfl):SS X c (.Assign [tg] e pos) (aw fe g):=PS.weak (Bu he hg hs hw h1) λD σ H h=>xn (λ_ _ _ h=>h) (λ_ _ _ _ h=>h) h
theorem Ph(hp:Np c np)(hN:X.N.Nodup)(hi:X.N[i]?=some x)(hx:Loc X.env.scope x)(he:SE X c e fe)(hs:QN e (some (.Name x pos')) pos.line X.env=pure false)(hf:X.fn x=true\/X.env.scope.names.lookup x=some .local):SS X c (.Assign [.Name x pos'] e pos) (aw fe (ag np i)):=PS.weak (LY hN hi hx he hs hf) λD σ H h=>xn (λ_ _ _ h=>h) (λ_ _ _ _ h=>xm hp h) h
theorem Pj(he:SE X c e fe)(hs:∀(x:Value),QN e none pos.line X.env=pure false:=by intro _;rfl)(hd:True:=trivial)(h:PS X (.Expr e pos) (vR (tD c fe))):SS X c (.Expr e pos) (kG fe):=PS.weak h λD σ H⟨δ,k,q⟩=>by unfold kG dJ at q;rw[bh]at q;exact⟨δ,k,aN q λr δ1 q1 v H1 a1 r1=>q1 σ H1 a1⟩
theorem Ok.Dw{en:List D}{a:Addr}{iu:List V}(k:Ok c σ δ H)(e:δ[i]?=some (some (.own (.lst ds))))(ea:σ[i]?=some (some (.ref a)))(r:aF H (Av c σ δ) iu en):aK c σ δ H σ (δ.set i (some (.own (.lst en)))) (upd H a (.lst iu)):=by
 have hi:i<δ.length:=(W8.mp e).1;obtain⟨a',ea',oa,ia,nb⟩:=k.own i _ e;rw[ea]at ea';cases ea';obtain⟨vs,ha,_⟩:=oa;have qw:Own σ δ a:=⟨i,_,e,ea⟩;have qx:Av c σ δ a:=.inr qw;have lI:∀b,Own σ (δ.set i (some (.own (.lst en)))) b↔Own σ δ b:=λb=>by
  constructor
  .rintro⟨j,d,e1,e2⟩;by_cases hj:i=j;.subst hj;exact⟨i,_,e,e2⟩
   .rw[W9 hj]at e1;exact⟨j,d,e1,e2⟩
  .rintro⟨j,d,e1,e2⟩;by_cases hj:i=j;.subst hj;exact⟨i,_,by rw[Wl hi],e2⟩
   .exact⟨j,d,%[W9 hj|e1],e2⟩
 have jk:∀b,Av c σ (δ.set i (some (.own (.lst en)))) b->Av c σ δ b:=λb z=>z.elim .inl λz=>.inr ((lI b).mp z);have ne:∀b,¬Av c σ δ b->b≠a:=λb n z=>n %[z|qx];have kp:∀b o,H b=some o->¬Av c σ δ b->upd H a (.lst iu) b=some o:=λb o h n=>%[aI (ne b n)|h];have g9:∀b o,H b=some o->∃o',upd H a (.lst iu) b=some o':=λb o h=>by
  by_cases hb:b=a;.exact⟨_,%[hb|bL]⟩
  .exact⟨o,%[aI hb|h]⟩
 refine⟨⟨λb o h n=>?_,λb z=>?_,λb z=>?_,%[Qs|k.len],λj d h=>?_,λj d h=>?_,λj l b d d' h1 h2 h3 h4=>?_,k.pinned⟩,λb o h n=>?_,λb z=>.inl ((lI b).mp z),g9⟩
 .have hb:b≠a:=λz=>by grind
  rw[aI hb];exact k.keep b o h n
 .obtain⟨o,h⟩:=k.bd b z;exact g9 b o h
 .obtain⟨o,h⟩:=k.du b z;exact g9 b o h
 .have hj:i≠j:=λz=>by subst z;rw[Wl hi]at h;cases h
  rw[W9 hj]at h;obtain⟨v,h1,h2⟩:=k.slot j d h;exact⟨v,h1,(h2.keep kp).aM λb z=>.inl (jk b z)⟩
 .by_cases hj:i=j;.subst hj;rw[Wl hi]at h;cases h;exact⟨a,ea,⟨iu,bL,aF.aM (aF.keep r kp) λb z=>.inl (jk b z)⟩,ia,nb⟩
  .rw[W9 hj]at h;obtain⟨b,h1,h2,h3,h4⟩:=k.own j d h;have hb:b≠a:=λz=>by subst z;exact hj (k.inj i j b _ d e h ea h1)
   exact⟨b,h1,(h2.keep kp λo q=>%[aI hb|q]).aM λb z=>.inl (jk b z),h3,h4⟩
 .have f1:∃d,δ[j]?=some (some (.own d)):=by
   by_cases hj:i=j;.subst hj;exact⟨_,e⟩
   .rw[W9 hj]at h1;exact⟨d,h1⟩
  have f2:∃d,δ[l]?=some (some (.own d)):=by
   by_cases hj:i=l;.subst hj;exact⟨_,e⟩
   .rw[W9 hj]at h2;exact⟨d',h2⟩
  obtain⟨_,f1⟩:=f1;obtain⟨_,f2⟩:=f2;exact k.inj j l b _ _ f1 f2 h3 h4
 grind[aI]
def eW(δ:Dl)(i:Nat):Bool:=match δ[i]? with|some (some (.own (.lst _)))=>true|_=>false
noncomputable def putL(δ:Dl)(i:Nat)(f:List D->Option (List D)):Rs Fl:=match δ[i]? with
 |some (some (.own (.lst ds)))=>match f ds with|some en=>.ok .next (δ.set i (some (.own (.lst en))))|none=>.stuck
 |_=>.stuck
theorem Dx(h:eW δ i=true):∃ds,δ[i]?=some (some (.own (.lst ds))):=by
 unfold eW at h;split at h;.rename_i ds e;exact⟨ds,e⟩
 .cases h
theorem Dy{g:List D->Option (List D)}{kk:Fl->Dl->Prop}(h:post c (putL δ i g) kk):∃ds en,δ[i]?=some (some (.own (.lst ds)))/\g ds=some en/\kk .next (δ.set i (some (.own (.lst en)))):=by
 unfold putL at h;split at h
 .rename_i ds e;split at h;.rename_i en e2;exact⟨ds,en,e,e2,h⟩
  .exact h.elim
 .exact h.elim
def bG(i:Nat)(f:DE):DS:=λδ=>if eW δ i then(f δ).bind λr δ1=>putL δ1 i λds=>if ds.length<Wa then some (ds++[r.d])else none else .stuck
theorem Pk{o:Expr}{p0:Pos}(ho:PE X o (dZ i))(he:SE X c e fe)(h:PS X (.Expr (.Call (.Attribute o "append" apos) [e] [] br) pos) (vR (B8 X.K "list" Ca (dZ i) (BI (tD c fe) BH)))):SS X c (.Expr (.Call (.Attribute o "append" apos) [e] [] br) pos) (bG i fe):=PS.weak h λD σ H⟨δ,k,q⟩=>by
  unfold bG dJ at q;split at q
  .rename_i hown;obtain⟨ds0,e0⟩:=Dx hown;rw[bh]at q;obtain⟨a,ea,oa,_⟩:=k.own i _ e0;refine⟨.ref a,ea,?_,δ,k,aN q λr δ1 q1 v H1 a1 r1=>?_⟩;.obtain⟨vs,ha,_⟩:=oa;exact .inl ⟨rfl,vs,.of ha⟩
   .obtain⟨ds,en,e1,e2,q2⟩:=Dy q1;split at e2;.rename_i hz;cases e2;obtain⟨a',ea',oa1,_⟩:=a1.ok.own i _ e1;rw[ea]at ea';cases ea';obtain⟨vs,ha,ra⟩:=id oa1;refine⟨a,vs,v,rfl,rfl,ha,%[ra.1|hz],?_⟩;exact q2 σ _ (a1.trans (Ok.Dw a1.ok e1 ea (ra.append (.cons r1.rep .nil))))
    .cases e2
  .exact q.elim
def lJ(i:Nat)(fi:DE)(fe:DE):DS:=λδ=>if eW δ i then(fe δ).bind λr δ1=>(fi δ1).bind λk δ2=>match k with|.pure (.int j)=>putL δ2 i λds=>(fI ds.length j).map λn=>ds.set n r.d|_=>.stuck else .stuck
theorem Pl{o:Expr}{sp:Pos}(ho:PE X o (dZ i))(hi:SE X c ix fi)(he:SE X c e fe)(ha:∀v,assign (.Subscript o ix sp) X.env v=(do
   let ov<-holding [v] (eval o X.env)let iv<-holding [v,ov] (eval ix X.env)standAt sp
   holding [v,ov,iv] (setItem ov iv v)release [v,ov,iv] []):=by intro _;rfl)(hs:swapsWithSole [.Subscript o ix sp] e pos.line X.env=pure false:=by rfl)(hw:swappedStores [.Subscript o ix sp] e X.env=pure none:=by rfl)(h1:(Qo [.Subscript o ix sp] X.env).map (·.2)=[assign (.Subscript o ix sp) X.env]:=by rfl):SS X c (.Assign [.Subscript o ix sp] e pos) (lJ i fi fe):=PS.weak (Bu he (LX ho hi MX ha) hs hw h1) λD σ H⟨δ,k,q⟩=>by
  unfold lJ dJ at q;split at q;.rename_i hown;obtain⟨ds0,e0⟩:=Dx hown;rw[bh]at q;obtain⟨a,ea,_,_⟩:=k.own i _ e0;refine⟨δ,k,aN q λr δ1 q1 v H1 a1 r1=>⟨.ref a,ea,δ1,a1.ok,?_⟩⟩;rw[bh]at q1;refine aN q1 λkx δ2 q2 u H2 a2 r2=>?_;cases kx with|own d=>exact q2.elim|pure d=>
    cases d<;>first|exact q2.elim|skip
    rename_i j;cases r2;obtain⟨ds,en,e1,e2,q3⟩:=Dy q2;cases e3:fI ds.length j with|none=>rw[e3]at e2;cases e2|some n=>rw[e3]at e2;cases e2;obtain⟨a',ea',oa1,_⟩:=a2.ok.own i _ e1;rw[ea]at ea';cases ea';obtain⟨vs,ha,ra⟩:=id oa1;refine⟨a,vs,j,n,rfl,rfl,ha,%[ra.1|e3],?_⟩;exact q3 σ _ (a1.trans (a2.trans (Ok.Dw a2.ok e1 ea (ra.set (Rep.dw r1.rep a2) n))))
  .exact q.elim
end
variable{gs:iT}
abbrev DI:=Dl->Rs (List D)
def mM(c:Fc)(σ:St)(δ:Dl)(H:Hp)(J:It)(ds:List D):Prop:=∀H2,(∀a o,H a=some o->¬Own σ δ a->H2 a=some o)->J.stop ds.length H2/\∀(i:Nat)d,ds[i]?=some d->J.go i H2/\∀x H3,J.pJ i H2 x H3->H3=H2/\Rep H (Av c σ δ) x d\/∃p vs es,H2 p=none/\H3=upd H2 p (.tup vs)/\x=.ref p/\d=.tup es/\aF H (Av c σ δ) vs es
def tI(c:Fc)(f:DI):TI:=λσ H R=>∃δ,Ok c σ δ H/\post c (f δ) λds δ'=>∀J H',aK c σ δ H σ δ' H'->mM c σ δ' H' J ds->R J H'
abbrev SI(X:Cx)(c:Fc)(tg iter:Expr)(f:DI):Prop:=PI X tg iter (tI c f)
theorem PI.weak{t'}(h:PI X tg iter t)(w:∀σ H R,t' σ H R->t σ H R):PI X tg iter t':=λpins s σ H R I q=>h pins s σ H R I (w σ H R q)
theorem qaF(K:W2)(h:Rd H a (.lst vs))(n:¬Own σ δ a)(r:aF H (Av c σ δ) vs ds)(hK:∀H2 ws,Rd H2 a (.lst vs)->cU K H2 a ws->ws=vs):mM c σ δ H (vS K a) ds:=by intro H2 kp;have h2:Rd H2 a (.lst vs):=Rd.keep h λo e=>kp a o e n;refine⟨⟨vs,.inl h2,%[r.1|We _]⟩,λi d e=>?_⟩;obtain⟨v,ev,rv⟩:=r.get e;refine⟨⟨vs,v,.inl h2,ev⟩,λx H3⟨e3,y⟩=>.inl ⟨e3,?_⟩⟩;have:=y vs (.inl h2);grind
theorem Pm(K:W2)(h:H a=some (.tup vs))(n:¬Own σ δ a)(r:aF H (Av c σ δ) vs ds):mM c σ δ H (vU K a) ds:=by intro H2 kp;have h2:=kp a _ h n;refine⟨⟨vs,.of h2,%[r.1|We _]⟩,λi d e=>?_⟩;obtain⟨v,ev,rv⟩:=r.get e;refine⟨⟨vs,v,.of h2,ev⟩,λx H3⟨e3,y⟩=>.inl ⟨e3,?_⟩⟩;have:=y vs (.of h2);grind
def cI(lo:Int)(n:Nat):List D:=(WM n).map λk:Nat=>D.int (lo+k)
theorem Pn{lo:Int}{d:D}(h:(cI lo n)[i]?=some d):i<n/\d=.int (lo+i):=by
 unfold cI at h;rw[Wu]at h;by_cases hi:i<n;.rw[List.getElem?_range hi]at h;simp at h;exact⟨hi,h.symm⟩
 .rw[Qk (~~~hi)]at h;cases h
theorem Po(lo:Int)(n:Nat):mM c σ δ H (su lo n) (cI lo n):=by intro H2 kp;refine⟨by show n<=(cI lo n).length;simp[cI],λi d e=>?_⟩;obtain⟨hi,rfl⟩:=Pn e;exact⟨hi,λx H3⟨e3,ex⟩=>.inl ⟨e3,%[ex|.int _]⟩⟩
def nY(j:Int):Bool:=decide (-2^62<=j)&&decide (j<2^62)
def c9(f:DE):DI:=λδ=>(f δ).bind λr δ1=>match r with|.pure (.int j)=>if nY j then .ok (cI 0 j.toNat) δ1 else .stuck|_=>.stuck
theorem Pp(hg:Gl X "range")(hm:X.mg "range"=none)(he:SE X c e fe)(hs:W7 [e] X.env=[(false,eval e X.env)]:=by rfl):SI X c tg (.Call (.Name "range" pp) [e] [] pos) (c9 fe):=PI.weak (L_ hg hm (dU he fH hs) hs) λσ H R⟨δ,k,q⟩=>by unfold c9 at q;rw[bh]at q;refine⟨δ,k,aN q λr δ1 q1 v H1 a1 r1=>?_⟩;cases r with|own d=>exact q1.elim|pure d=>
 cases d<;>first|exact q1.elim|skip
 rename_i j;cases r1;simp only at q1;split at q1;.rename_i hj;unfold nY at hj;simp only[Wo,decide_eq_true_eq]at hj;exact⟨j,rfl,hj.1,hj.2,q1 _ H1 a1 (Po 0 j.toNat)⟩
 .exact q1.elim
noncomputable def forL(g:DG)(b:DS):List D->DS|[],δ=>.ok .next δ|d::r,δ=>match g (.pure d) δ with|none=>.stuck|some δ1=>(b δ1).bind λfl δ2=>match fl with|.next=>forL g b r δ2|.cont=>forL g b r δ2|.brk=>.ok .next δ2|.ret v=>.ok (.ret v) δ2
def bM(it:DI)(g:DG)(b:DS):DS:=λδ=>(it δ).bind λds δ1=>forL g b ds δ1
theorem Dz{x}(io:mM c σ δ H J ds)(a:aK c σ δ H σ2 δ2 H2)(e:ds[i]?=some d)(y:J.pJ i H2 x H3):aK c σ2 δ2 H2 σ2 δ2 H3/\Rep H3 (Av c σ2 δ2) x d:=by
 obtain⟨_,t⟩:=io H2 a.keep;rcases(t i d e).2 x H3 y with⟨e3,r⟩|⟨p,vs,es,hp,e3,ex,ed,r⟩;.subst e3;exact⟨.refl a.ok,Rep.dw r a⟩
 .subst e3 ex ed;have:=aY.nQ a.ok (aF.dw r a) hp;exact⟨.alloc a.ok hp _,this⟩
theorem Pq{iter:Expr}{it:DI}{g:DG}{b:DS}(hp:PassesOwn (model X.prog X.w) X.A X.env X.xe)(hc:X.calm=true)(hi:SI X c tg iter it)(hg:SG X c tg g)(hb:dA X c body b)(hs:∀x,Jl iter X.env x=pure x:=by intro _;rfl):SS X c (.For tg iter body [] pos) (bM it g b):=PS.weak (Mc hp hc hi hg hb hs) λD σ H⟨δ,k,q⟩=>by
 unfold bM dJ at q;rw[bh]at q;refine⟨δ,k,aN q λds δ1 q1 J H1 a1 io=>?_⟩;refine⟨λi m σ2 H2=>∃δ2,m=ds.length-i/\i<=ds.length/\aK c σ δ1 H1 σ2 δ2 H2/\dJ c D σ2 δ2 H2 (forL g b (ds.drop i) δ2),⟨ds.length,δ1,U',Qh _,.refl a1.ok,?_⟩,?_⟩;.rw[Ug];exact aN q1 λfl δ2 q2 σ2 H2 a2=>q2 σ2 H2 (a1.trans a2)
 .rintro i m σ2 H2⟨δ2,rfl,xo,a2,p2⟩;by_cases bq:i<ds.length;.right;have e:ds[i]?=some ds[i]:=#v[bq];rw[Qt bq]at p2;refine⟨((io H2 a2.keep).2 i _ e).1,λσ4 H4=>∃δ4,aK c σ δ1 H1 σ4 δ4 H4/\dJ c D σ4 δ4 H4 (forL g b (ds.drop (i+1)) δ4),λσ4 H4⟨δ4,a4,p4⟩=>⟨ds.length-(i+1),Y',δ4,rfl,bq,a4,p4⟩,λx H3 y=>?_⟩;obtain⟨a3,r3⟩:=Dz io a2 e y;simp only[forL,dJ]at p2;cases eg:g (.pure ds[i]) δ2 with|none=>rw[eg]at p2;exact p2.elim|some δ3=>rw[eg]at p2;refine⟨σ2,δ2,H3,δ2,.pure ds[i],δ3,.refl a3.ok,r3,eg,λσ3 a3'=>?_⟩;have p3:post c ((b δ3).bind λfl δ2=>match fl with|.next=>forL g b (ds.drop (i+1)) δ2|.cont=>forL g b (ds.drop (i+1)) δ2|.brk=>.ok .next δ2|.ret v=>.ok (.ret v) δ2) λfl δ'=>∀σ' H',aK c σ2 δ2 H2 σ' δ' H'->fin c D σ' δ' H' fl:=p2;rw[bh]at p3;have Pr:aK c σ2 δ2 H2 σ3 δ3 H3:=a3.trans a3';refine⟨δ3,a3'.ok,aN p3 λfl δ4 p4 σ4 H4 a4=>?_⟩;have iA:=Pr.trans a4;cases fl with|next=>exact⟨δ4,a2.trans iA,aN p4 λfl δ5 p5 σ5 H5 a5=>p5 σ5 H5 (iA.trans a5)⟩|cont=>exact⟨δ4,a2.trans iA,aN p4 λfl δ5 p5 σ5 H5 a5=>p5 σ5 H5 (iA.trans a5)⟩|brk=>exact p4 σ4 H4 iA|ret r=>exact p4 σ4 H4 iA
  .left;have mO:i=ds.length:=by lia
   subst mO;rw[List.drop_length]at p2;exact⟨(io H2 a2.keep).1,p2 σ2 H2 (.refl a2.ok)⟩
def gf(t:DT)(b:DS):Nat->DS|0,_=>.stuck|n+1,δ=>(t δ).bind λx δ1=>if x then(b δ1).bind λfl δ2=>match fl with|.next=>gf t b n δ2|.cont=>gf t b n δ2|.brk=>.ok .next δ2|.ret v=>.ok (.ret v) δ2 else .ok .next δ1
theorem Pt{t:DT}{b:DS}(n:Nat)(hw:∀{tt:TT}{tb:TS},PT X e tt->dF X body tb->PS X (.While e body [] pos) (Bv tt tb))(ht:ST X c e t)(hb:dA X c body b):SS X c (.While e body [] pos) (gf t b n):=PS.weak (hw ht hb) λD σ H⟨δ,k,q⟩=>by refine⟨λm σ2 H2=>∃δ2,Ok c σ2 δ2 H2/\dJ c D σ2 δ2 H2 (gf t b m δ2),⟨n,δ,k,q⟩,?_⟩;rintro m σ2 H2⟨δ2,k2,q2⟩;cases m with|zero=>exact q2.elim|succ m=>simp only[gf,dJ]at q2;rw[bh]at q2;refine⟨δ2,k2,aN q2 λx δ3 q3 H3 a3=>?_⟩;cases x with|false=>exact q3 σ2 H3 a3|true=>have p3:post c ((b δ3).bind λfl δ2=>match fl with|.next=>gf t b m δ2|.cont=>gf t b m δ2|.brk=>.ok .next δ2|.ret v=>.ok (.ret v) δ2) λfl δ'=>∀σ' H',aK c σ2 δ2 H2 σ' δ' H'->fin c D σ' δ' H' fl:=q3;rw[bh]at p3;refine⟨λσ4 H4=>∃δ4,Ok c σ4 δ4 H4/\dJ c D σ4 δ4 H4 (gf t b m δ4),λσ4 H4 w=>⟨m,Nat.lt_succ_self _,w⟩,δ3,a3.ok,aN p3 λfl δ4 p4 σ4 H4 a4=>?_⟩;have iA:=a3.trans a4;cases fl with|next=>exact⟨δ4,a4.ok,aN p4 λfl δ5 p5 σ5 H5 a5=>p5 σ5 H5 (iA.trans a5)⟩|cont=>exact⟨δ4,a4.ok,aN p4 λfl δ5 p5 σ5 H5 a5=>p5 σ5 H5 (iA.trans a5)⟩|brk=>exact p4 σ4 H4 iA|ret r=>exact p4 σ4 H4 iA
def bC(cs:List Nat)(δ:Dl):Dl:=cs.foldl (λδ i=>δ.set i none) δ
def dC(cs:List Nat)(δ₁ δ:Dl):Dl:=cs.foldl (λδ i=>match δ₁[i]? with|some o=>δ.set i o|none=>δ) δ
def bH(δ:Dl)(i:Nat):Bool:=match δ[i]? with|some (some (.own _))=>true|_=>false
theorem DC(cs:List Nat):∀δ:Dl,(bC cs δ).length=δ.length:=by induction cs with|nil=>intro δ;rfl|cons i r ih=>intro δ;show(bC r (δ.set i none)).length=_;rw[ih];simp
theorem iU:∀(cs:List Nat)(δ:Dl)(i:Nat)(v:S),(bC cs δ)[i]?=some (some v)->δ[i]?=some (some v)/\i∉cs:=by intro cs;induction cs with|nil=>intro δ i v h;exact⟨h,U'⟩|cons j r ih=>
 intro δ i v h;have h':(bC r (δ.set j none))[i]?=some (some v):=h;obtain⟨h1,h2⟩:=ih _ i v h';by_cases e:j=i;.subst e;rw[WL]at h1;simp at h1
 .rw[W9 e]at h1;exact⟨h1,by simp only[Ws,not_or];exact⟨Ne.symm e,h2⟩⟩
theorem kH:∀(cs:List Nat)(σ:St)(i:Nat),i∉cs->(bP cs σ)[i]?=σ[i]?:=by intro cs;induction cs with|nil=>intro σ i _;rfl|cons j r ih=>intro σ i h;simp only[Ws,not_or]at h;show(bP r (σ.set j none))[i]?=_;rw[ih _ _ h.2,W9 (Ne.symm h.1)]
theorem Pu:∀(cs:List Nat)(δ:Dl)(i:Nat),i∉cs->(bC cs δ)[i]?=δ[i]?:=by intro cs;induction cs with|nil=>intro σ i _;rfl|cons j r ih=>intro σ i h;simp only[Ws,not_or]at h;show(bC r (σ.set j none))[i]?=_;rw[ih _ _ h.2,W9 (Ne.symm h.1)]
theorem Pw(cs:List Nat)(δ₁:Dl):∀δ:Dl,(dC cs δ₁ δ).length=δ.length:=by induction cs with|nil=>intro δ;rfl|cons i r ih=>intro δ;unfold dC;rw[JB];have:=ih (match δ₁[i]? with|some o=>δ.set i o|none=>δ);unfold dC at this;rw[this];cases δ₁[i]?<;>simp
theorem t8:∀(cs:List Nat)(δ₁ δ:Dl)(i:Nat),i∉cs->(dC cs δ₁ δ)[i]?=δ[i]?:=by intro cs δ₁;induction cs with|nil=>intro δ i _;rfl|cons j r ih=>intro δ i h;simp only[Ws,not_or]at h;unfold dC;rw[JB];have:=ih (match δ₁[j]? with|some o=>δ.set j o|none=>δ) i h.2;unfold dC at this;rw[this];cases δ₁[j]? with|none=>rfl|some o=>simp only;rw[W9 (Ne.symm h.1)]
theorem xp:∀(cs:List Nat)(δ₁ δ:Dl)(i:Nat),δ₁.length=δ.length->i∈cs->(dC cs δ₁ δ)[i]?=δ₁[i]?:=by intro cs δ₁;induction cs with|nil=>intro δ i _ h;simp at h|cons j r ih=>
  intro δ i hl h;unfold dC;rw[JB];have mH:δ₁.length=(match δ₁[j]? with|some o=>δ.set j o|none=>δ).length:=by cases δ₁[j]?<;>simp[hl]
  by_cases hr:i∈r;.have:=ih (match δ₁[j]? with|some o=>δ.set j o|none=>δ) i mH hr;unfold dC at this;exact this
  .have e:i=j:=by grind
   subst e;have:=t8 r δ₁ (match δ₁[i]? with|some o=>δ.set i o|none=>δ) i hr;unfold dC at this;rw[this];cases e:δ₁[i]? with|none=>simp only;have:=List.getElem?_eq_none_iff.mp e;exact Qk Y'|some o=>simp only;have:=(W8.mp e).1;rw[Wl Y']
section
variable{l:Addr}
theorem Ok.less(k:Ok (c.plus l) σ δ H):Ok c σ δ H:=by
 have sub:∀b,Av c σ δ b->Av (c.plus l) σ δ b:=λb z=>z.elim (λz=>.inl (.inl z)) .inr;refine⟨k.keep,λa z=>k.bd a (.inl z),k.du,k.len,λi d e=>?_,λi d e=>?_,k.inj,k.pinned⟩;.obtain⟨v,h1,h2⟩:=k.slot i d e;exact⟨v,h1,h2.aM λb z=>.inl (sub b z)⟩
 .obtain⟨a,h1,h2,h3,h4⟩:=k.own i d e;exact⟨a,h1,h2.aM λb z=>.inl (sub b z),h3,λz=>h4 (.inl z)⟩
theorem Ok.Px(k:Ok c σ δ H)(hb:c.B l)(h0:c.H₀ l=none)(o:HO):Ok c σ δ (upd H l o):=by
 have kp:∀b w,H b=some w->¬Av c σ δ b->upd H l o b=some w:=λb w e n=>by rw[aI λz=>n %[z|.inl hb]];exact e
 have g9:∀b w,H b=some w->∃w',upd H l o b=some w':=λb w h=>by
  by_cases hb:b=l;.exact⟨_,%[hb|bL]⟩
  .exact⟨w,%[aI hb|h]⟩
 refine⟨λa w e n=>?_,λa z=>?_,λa z=>?_,k.len,λi d e=>?_,λi d e=>?_,k.inj,k.pinned⟩
 .have:a≠l:=λz=>by grind
  rw[aI this];exact k.keep a w e n
 .obtain⟨w,e⟩:=k.bd a z;exact g9 a w e
 .obtain⟨w,e⟩:=k.du a z;exact g9 a w e
 .obtain⟨v,h1,h2⟩:=k.slot i d e;exact⟨v,h1,h2.keep kp⟩
 .obtain⟨a,h1,h2,h3,h4⟩:=k.own i d e;have:a≠l:=λz=>h4 %[z|hb];exact⟨a,h1,h2.keep kp λw q=>%[aI this|q],h3,h4⟩
theorem Own.bP(h:Own (bP cs σ) (bC cs δ) l):Own σ δ l:=by obtain⟨i,d,e1,e2⟩:=h;exact⟨i,d,(iU cs δ i _ e1).1,(lz cs σ i _ e2).1⟩
theorem Ok.bP(k:Ok c σ δ H)(hp:∀p∈c.pin,p.1∉cs):Ok c (Lake.bP cs σ) (bC cs δ) H:=by
 have sub:∀b,Av c (Lake.bP cs σ) (bC cs δ) b->Av c σ δ b:=λb z=>z.elim .inl λz=>.inr z.bP;refine⟨k.keep,k.bd,k.du,%[DC,sP|k.len],λi d e=>?_,λi d e=>?_,λi j a d d' e1 e2 e3 e4=>?_,λp hm=>?_⟩;.obtain⟨e',hi⟩:=iU cs δ i _ e;obtain⟨v,h1,h2⟩:=k.slot i d e';exact⟨v,%[kH cs σ i hi|h1],h2.aM λb z=>.inl (sub b z)⟩
 .obtain⟨e',hi⟩:=iU cs δ i _ e;obtain⟨a,h1,h2,h3⟩:=k.own i d e';exact⟨a,%[kH cs σ i hi|h1],h2.aM λb z=>.inl (sub b z),h3⟩
 .exact k.inj i j a d d' (iU cs δ i _ e1).1 (iU cs δ j _ e2).1 (lz cs σ i _ e3).1 (lz cs σ j _ e4).1
 .rw[kH cs σ _ (hp p hm)];exact k.pinned p hm
theorem aK.back(k:Ok c₀ σ δ H)(kI:c.pin=c₀.pin)(hB:∀b,c.B b->c₀.B b\/H b=none)(ip:cs.any (bH δ)=false)(x:aK c (Lake.bP cs σ) (bC cs δ) H (Lake.bP cs σ) δ' H'):aK c σ δ H σ (dC cs δ δ') H':=by
 have len:δ.length=δ'.length:=by have:=x.ok.len;rw[sP]at this;rw[this];exact k.len
 have fP:∀i d,i∈cs->δ[i]?≠some (some (.own d)):=λi d hi e=>by have:=List.any_eq_false.mp ip i hi;unfold bH at this;rw[e]at this;simp at this
 have ownOut:∀i d,(dC cs δ δ')[i]?=some (some (.own d))->i∉cs/\δ'[i]?=some (some (.own d)):=λi d e=>by
  by_cases hi:i∈cs;.rw[xp cs δ δ' i len hi]at e;exact absurd e (fP i d hi)
  .rw[t8 cs δ δ' i hi]at e;exact⟨hi,e⟩
 have sub:∀b,Own σ (dC cs δ δ') b->Own (Lake.bP cs σ) δ' b:=λb⟨i,d,e1,e2⟩=>by obtain⟨hi,e⟩:=ownOut i d e1;exact⟨i,d,e,%[kH cs σ i hi|e2]⟩
 have mP:∀b,Av c σ (dC cs δ δ') b->Av c (Lake.bP cs σ) δ' b:=λb z=>z.elim .inl λz=>.inr (sub b z);have ownEq:∀b,Own σ δ b->Own (Lake.bP cs σ) (bC cs δ) b:=λb⟨i,d,e1,e2⟩=>by have hi:i∉cs:=λz=>fP i d z e1;exact⟨i,d,%[Pu cs δ i hi|e1],%[kH cs σ i hi|e2]⟩
 refine⟨⟨x.ok.keep,x.ok.bd,x.ok.du,by rw[Pw,<-len];exact k.len,λi d e=>?_,λi d e=>?_,λi j a d d' e1 e2 e3 e4=>?_,%[kI|k.pinned]⟩,λa o e n=>?_,λa z=>?_,x.there⟩
 .by_cases hi:i∈cs
  .rw[xp cs δ δ' i len hi]at e;obtain⟨v,h1,h2⟩:=k.slot i d e;have h3:Rep H (Av c (Lake.bP cs σ) (bC cs δ)) v d:=h2.aM λb z=>by
    rcases z with z|z;.exact(hB b z).elim (λz=>.inl (.inl z)) .inr
    .exact .inl (.inr z.bP)
   exact⟨v,h1,(Rep.dw h3 x).aM λb z=>.inl (mP b z)⟩
  .rw[t8 cs δ δ' i hi]at e;obtain⟨v,h1,h2⟩:=x.ok.slot i d e;exact⟨v,(lz cs σ i v h1).1,h2.aM λb z=>.inl (mP b z)⟩
 .obtain⟨hi,e'⟩:=ownOut i d e;obtain⟨a,h1,h2,h3⟩:=x.ok.own i d e';exact⟨a,(lz cs σ i _ h1).1,h2.aM λb z=>.inl (mP b z),h3⟩
 .obtain⟨hi,f1⟩:=ownOut i d e1;obtain⟨hj,f2⟩:=ownOut j d' e2;exact x.ok.inj i j a d d' f1 f2 %[kH cs σ i hi|e3] %[kH cs σ j hj|e4]
 .exact x.keep a o e λz=>n z.bP
 .rcases x.own a (sub a z)with q|q;.exact .inl q.bP
  .exact .inr q
end
noncomputable def dW(cs:List Nat)(g:DG)(t:DT)(el:DE):List D->Dl->List D->Rs (List D)|[],δ,acc=>.ok acc δ|d::r,δ,acc=>match g (.pure d) δ with|none=>.stuck|some δ1=>(t δ1).bind λb δ2=>if b then(el δ2).bind λx δ3=>if acc.length<Wa then dW cs g t el r (bC cs δ3) (acc++[x.d])else .stuck else dW cs g t el r (bC cs δ2) acc
def bR(cs:List Nat)(it:DI)(g:DG)(t:DT)(el:DE):DE:=λδ=>(it δ).bind λds δ1=>if cs.any (bH δ1)then .stuck else(dW cs g t el ds (bC cs δ1) []).bind λacc δ2=>.ok (.own (.lst acc)) (dC cs δ1 δ2)
def bz:DT:=λδ=>.ok true δ
abbrev nZ(X:Cx)(c:Fc)(ifs:List Expr)(t:DT):Prop:=mD X ifs (tT c t)
theorem Py:nZ X c [] bz:=λpins s σ H Q I⟨δ,k,q⟩=>NN pins s σ H Q I (q H (.refl k))
theorem Pz{t:DT}(h:ST X c e t):nZ X c [e] t:=NO h
section
variable{iter:Expr}{it:DI}{g:DG}{t:DT}
theorem aK.clear(x:aK c (Lake.bP cs σ) δ H σ4 δ4 H4)(le:Le (Lake.bP cs σ) σ4)(hp:∀p∈c.pin,p.1∉cs)(hs:∀(i:Nat)v,σ4[i]?=some (some v)->i∉cs->σ[i]?=some (some v)):aK c (Lake.bP cs σ) δ H (Lake.bP cs σ) (bC cs δ4) H4:=by
 have eq:∀i,i∉cs->∀v,σ4[i]?=some (some v)->(Lake.bP cs σ)[i]?=some (some v):=λi hi v e=>%[kH cs σ i hi|hs i v e hi];have own:∀b,Own (Lake.bP cs σ) (bC cs δ4) b->Own σ4 δ4 b:=λb⟨i,d,e1,e2⟩=>by exact⟨i,d,(iU cs δ4 i _ e1).1,le.2 i _ e2⟩
 have sub:∀b,Av c (Lake.bP cs σ) (bC cs δ4) b->Av c σ4 δ4 b:=λb z=>z.elim .inl λz=>.inr (own b z);have k:=x.ok;refine⟨⟨k.keep,k.bd,k.du,%[DC,k.len|le.1],λi d e=>?_,λi d e=>?_,λi j a d d' e1 e2 e3 e4=>?_,λp hm=>?_⟩,x.keep,λa z=>x.own a (own a z),x.there⟩;.obtain⟨e',hi⟩:=iU cs δ4 i _ e;obtain⟨v,h1,h2⟩:=k.slot i d e';exact⟨v,eq i hi v h1,h2.aM λb z=>.inl (sub b z)⟩
 .obtain⟨e',hi⟩:=iU cs δ4 i _ e;obtain⟨a,h1,h2,h3⟩:=k.own i d e';exact⟨a,eq i hi _ h1,h2.aM λb z=>.inl (sub b z),h3⟩
 .exact k.inj i j a d d' (iU cs δ4 i _ e1).1 (iU cs δ4 j _ e2).1 (le.2 i _ e3) (le.2 j _ e4)
 .exact eq p.1 (hp p hm) _ (k.pinned p hm)
def Out(cs:List Nat)(σ σ':St):Prop:=σ'.length=σ.length/\∀i,i∉cs->σ'[i]?=σ[i]?
theorem Out.trans(a:Out cs σ σ')(b:Out cs σ' σ''):Out cs σ σ'':=⟨b.1.trans a.1,λi h=>(b.2 i h).trans (a.2 i h)⟩
def qy(cs:List Nat)(c:Fc)(g:DG):TG:=λv σ H Q=>∃σ₀ δ₀ H₁ δ r δ',aK c σ₀ δ₀ H₁ σ δ H/\aY c σ δ H₁ H v r/\g r δ=some δ'/\∀σ',aK c σ₀ δ₀ H₁ σ' δ' H->Out cs σ σ'->Q σ' H
abbrev lK(X:Cx)(c:Fc)(cs:List Nat)(tg:Expr)(g:DG):Prop:=PG X tg (qy cs c g)
theorem PB(hp:Np c np)(hN:X.N.Nodup)(hi:X.N[i]?=some x)(hx:Loc X.env.scope x)(hf:X.fn x=true\/X.env.scope.names.lookup x=some .local)(hc:i∈cs):lK X c cs (.Name x pos) (ag np i):=PG.weak (Bq hN hi hx hf) λv σ H Q hh=>by
 obtain⟨σ₀,δ₀,H₁,δ,r,δ',x,rr,e,q⟩:=hh
 unfold ag at e;split at e;.cases e
 .rename_i hn;cases e;refine q _ (Ok.set x rr λp hm e=>hn (by rw[<-e];exact hp p hm)) ⟨U',λj hj=>?_⟩;rw[W9 λz=>hj (by rw[<-z];exact hc)]
def DH(cs:List Nat)(c:Fc)(g:iT):lj:=λvs σ H Q=>∃δ ds δ',Ok c σ δ H/\aF H (Av c σ δ) vs ds/\g ds δ=some δ'/\∀σ',aK c σ δ H σ' δ' H->Out cs σ σ'->Q σ' H
abbrev mQ(X:Cx)(c:Fc)(cs:List Nat)(tg:List Expr)(g:iT):Prop:=gQ X tg (DH cs c g)
theorem PF:mQ X c cs [] cn:=gQ.weak Br λvs σ H Q hh=>by
 obtain⟨δ,ds,δ',k,r,e,q⟩:=hh
 cases ds with|nil=>
 cases e;have:vs=[]:=by have:=r.1;simpa using this
 exact⟨this,q σ (.refl k) ⟨rfl,λ_ _=>rfl⟩⟩|cons d r=>cases e
theorem PH{g:DG}(h1:lK X c cs e g)(h2:mQ X c cs es gs)(hs:(Qo (e::es) X.env).map (·.2)=assign e X.env::(Qo es X.env).map (·.2):=by rfl):mQ X c cs (e::es) (aQ g gs):=gQ.weak (Bs h1 h2 hs) λvs σ H Q hh=>by obtain⟨δ,ds,δ',k,r,e,q⟩:=hh;cases ds with|nil=>cases e|cons d ds=>cases vs with|nil=>have:=r.1;simp at this|cons v vs=>simp only[aQ]at e;cases e1:g (.pure d) δ with|none=>rw[e1]at e;cases e|some δ1=>rw[e1]at e;refine⟨v,vs,rfl,σ,δ,H,δ,.pure d,δ1,.refl k,r.head,e1,λσ1 a1 o1=>?_⟩;exact⟨δ1,ds,δ',a1.ok,aF.dw r.tail a1,e,λσ2 a2 o2=>q σ2 (a1.trans a2) (o1.trans o2)⟩
theorem PJ{k:Nat}(hc:X.calm=true)(h:mQ X c cs es gs)(hn:(Qo es X.env).length=n:=by rfl)(cP:(Qo es X.env).findIdx? (·.1)=none:=by rfl):lK X c cs (.Tuple es k pos) (bV n gs):=PG.weak (Bt hc h hn cP) λv σ H Q hw=>by
 obtain⟨σ₀,δ₀,H₁,δ,r,δ',x,rr,e,q⟩:=hw;have hb:=rr.b;unfold bV at e;generalize r.d=d at e hb;cases d<;>first|(cases e;done)|skip
 rename_i ds;simp only at e;split at e;.rename_i hl;obtain⟨a,vs,ea,ha,ra⟩:=hb.tup;exact⟨a,vs,ea,.of ha,%[ra.1|hl],δ,ds,δ',x.ok,ra,e,λσ' a1 o1=>q σ' (x.trans a1) o1⟩
 .cases e
theorem aK.less(x:aK (c.plus l) σ δ H σ' δ' H'):aK c σ δ H σ' δ' H':=⟨x.ok.less,x.keep,x.own,x.there⟩
theorem DJ{Q}(DK:∀σ H R,tI c it σ H R->wi σ H R)(hg:∀l v σ H Q,qy cs (c.plus l) g v σ H Q->gt v σ H Q)(ht:∀l σ H Q,tT (c.plus l) t σ H Q->tt σ H Q)(he:∀l σ H Q,tD (c.plus l) el σ H Q->te σ H Q)(hp:∀p∈c.pin,p.1∉cs)(h:tD c (bR cs it g t el) σ H Q):wH cs wi gt tt te σ H Q:=by
 obtain⟨δ,k,q⟩:=h;unfold bR at q;rw[bh]at q;refine DK _ _ _ ⟨δ,k,aN q λds δ1 q1 J H1 a1 io=>?_⟩;intro l hl;split at q1;.exact q1.elim
 .rename_i ip;have DL:cs.any (bH δ1)=false:=by grind
  rw[bh]at q1;have k1:=a1.ok;have kp:=k1.plus hl (.lst []);have k0:Ok (c.plus l) (Lake.bP cs σ) (bC cs δ1) (upd H1 l (.lst [])):=kp.bP hp;have up:∀a w,H1 a=some w->upd H1 l (.lst []) a=some w:=λa w e=>by rw[aI (eK e hl)];exact e
  have h0:c.H₀ l=none:=k1.jN hl;have xq:mM (c.plus l) (Lake.bP cs σ) (bC cs δ1) H1 J ds:=by
   intro H2 kp2;obtain⟨s1,s2⟩:=io H2 λa o e n=>kp2 a o e λz=>n z.bP;have cv:∀{x:V}{d:D},Rep H1 (Av c σ δ1) x d->Rep H1 (Av (c.plus l) (Lake.bP cs σ) (bC cs δ1)) x d:=λ{x d}r=>r.aM λb z=>by
     rcases z with(z|z)|z;.exact .inl (.inl z)
     .exact .inr %[z|hl]
     .exact .inl (.inr z.bP)
   refine⟨s1,λi d e=>⟨(s2 i d e).1,λx H3 y=>?_⟩⟩;rcases(s2 i d e).2 x H3 y with⟨e3,r⟩|⟨p,vs,es,hp,e3,ex,ed,r⟩;.exact .inl ⟨e3,cv r⟩
   .exact .inr ⟨p,vs,es,hp,e3,ex,ed,r.1,λi v d e1 e2=>cv (r.2 i v d e1 e2)⟩
  let Fin:List D->Dl->Prop:=λacc δ'=>∀H' vs,aK (c.plus l) (Lake.bP cs σ) (bC cs δ1) H1 (Lake.bP cs σ) δ' H'->H' l=some (.lst vs)->aF H' (Av (c.plus l) (Lake.bP cs σ) δ') vs acc->Q (.ref l) H';have q2:post c (dW cs g t el ds (bC cs δ1) []) Fin:=aN q1 λacc δ2 q2 H' vs x hv r=>by
   have b1:aK (c.plus l) σ δ1 H1 σ (dC cs δ1 δ2) H':=aK.back k1 rfl (λb z=>z.elim .inl λz=>.inr %[z|hl]) DL x;have b2:aK c σ δ1 H1 σ (dC cs δ1 δ2) H':=b1.less;have len:δ1.length=δ2.length:=by have:=x.ok.len;rw[sP]at this;rw[this];exact k1.len
   have PL:H l=none:=by cases e:H l with|none=>rfl|some o=>obtain⟨o',e'⟩:=a1.there l o e;grind
   refine q2 _ H' (a1.trans b2) ⟨l,rfl,⟨vs,hv,aF.aM r λb z=>.inl ?_⟩,λz=>k1.gZ hl (.inl z),h0,b1.ok,PL⟩;rcases z with z|⟨i,d,e1,e2⟩;.exact .inl z
   .have hi:i∉cs:=λhi=>by rw[xp cs δ1 δ2 i len hi]at e1;have:=List.any_eq_false.mp DL i hi;unfold bH at this;rw[e1]at this;simp at this
    rw[t8 cs δ1 δ2 i hi]at e1;exact .inr ⟨i,d,e1,%[kH cs σ i hi|e2]⟩
  refine⟨λi m H2=>∃δ2 acc vs,m=ds.length-i/\i<=ds.length/\aK (c.plus l) (Lake.bP cs σ) (bC cs δ1) H1 (Lake.bP cs σ) δ2 H2/\H2 l=some (.lst vs)/\aF H2 (Av (c.plus l) (Lake.bP cs σ) δ2) vs acc/\post c (dW cs g t el (ds.drop i) δ2 acc) Fin,⟨ds.length,bC cs δ1,[],[],U',Qh _,⟨k0,λa w e _=>up a w e,λa z=>.inl z,λa w e=>⟨w,up a w e⟩⟩,bL,.nil,%[Ug|q2]⟩,?_⟩;rintro i m H2⟨δ2,acc,vs,rfl,xo,a2,hv,rv,p2⟩;by_cases bq:i<ds.length;.right;have e:ds[i]?=some ds[i]:=#v[bq];rw[Qt bq]at p2;refine⟨((xq H2 a2.keep).2 i _ e).1,λx H3 y=>hg l _ _ _ _ ?_⟩;obtain⟨a3,r3⟩:=Dz xq a2 e y;simp only[dW]at p2;cases eg:g (.pure ds[i]) δ2 with|none=>rw[eg]at p2;exact p2.elim|some δ3=>
    rw[eg]at p2;have p3:post c ((t δ3).bind λb δ2=>if b then(el δ2).bind λx δ3=>if acc.length<Wa then dW cs g t el (ds.drop (i+1)) (bC cs δ3) (acc++[x.d])else .stuck else dW cs g t el (ds.drop (i+1)) (bC cs δ2) acc) Fin:=p2;refine⟨Lake.bP cs σ,δ2,H3,δ2,.pure ds[i],δ3,.refl a3.ok,r3,eg,λσ4 a4 o4=>?_⟩;have le:Le (Lake.bP cs σ) σ4:=⟨o4.1,λj v ej=>by rw[o4.2 j (lz cs σ j v ej).2];exact ej⟩;have hs:∀(j:Nat)v,σ4[j]?=some (some v)->j∉cs->σ[j]?=some (some v):=λj v ej hj=>by rw[o4.2 j hj]at ej;exact(lz cs σ j v ej).1
    refine⟨le,ht l _ _ _ ⟨δ3,a4.ok,?_⟩⟩;rw[bh]at p3;have DM:∀p∈(c.plus l).pin,p.1∉cs:=hp;have iA:=a2.trans (a3.trans a4);have ln:∀{σ':St}{δ':Dl}{H':Hp},Ok (c.plus l) σ' δ' H'->¬Own σ' δ' l:=λ{σ' δ' H'}k=>tm k;have PM:post (c.plus l) (t δ3) λb δ5=>post c (if b then(el δ5).bind λx δ3=>if acc.length<Wa then dW cs g t el (ds.drop (i+1)) (bC cs δ3) (acc++[x.d])else .stuck else dW cs g t el (ds.drop (i+1)) (bC cs δ5) acc) Fin:=p3;refine aN PM λb δ5 p5 H5 a5=>?_;have DO:=iA.trans a5;have PN:H3 l=some (.lst vs):=a3.keep l _ hv (ln a2.ok);have DP:H5 l=some (.lst vs):=a5.keep l _ PN (ln a4.ok);have DQ:=aF.dw (aF.dw (aF.dw rv a3) a4) a5;cases b with|false=>have c5:=DO.clear le DM hs;refine⟨ds.length-(i+1),Y',bC cs δ5,acc,vs,rfl,bq,c5,DP,aF.aM DQ λb z=>.inl ?_,p5⟩;exact z.elim .inl λ⟨j,d,e1,e2⟩=>.inr ⟨j,d,(iU cs δ5 j _ e1).1,le.2 j _ e2⟩|true=>
     have DU:post c ((el δ5).bind λx δ3=>if acc.length<Wa then dW cs g t el (ds.drop (i+1)) (bC cs δ3) (acc++[x.d])else .stuck) Fin:=p5;rw[bh]at DU;refine he l _ _ _ ⟨δ5,a5.ok,?_⟩;have p6:post (c.plus l) (el δ5) λx δ6=>post c (if acc.length<Wa then dW cs g t el (ds.drop (i+1)) (bC cs δ6) (acc++[x.d])else .stuck) Fin:=DU;refine aN p6 λx δ6 p7 v H6 a6 r6=>?_;split at p7
     .rename_i hz;have PQ:=DO.trans a6;have PR:H6 l=some (.lst vs):=a6.keep l _ DP (ln a5.ok);have DW:=aF.dw DQ a6;have rr:aF H6 (Av (c.plus l) σ4 δ6) (vs++[v]) (acc++[x.d]):=DW.append (.cons r6.rep .nil);have c6:=PQ.clear le DM hs;have t9:∀b o,H6 b=some o->¬Av (c.plus l) σ4 δ6 b->upd H6 l (.lst (vs++[v])) b=some o:=λb o e n=>by rw[aI λz=>n %[z|.inl (.inr rfl)]];exact e
      have PU:∀b,Av (c.plus l) (Lake.bP cs σ) (bC cs δ6) b->Av (c.plus l) σ4 δ6 b:=λb z=>z.elim .inl λ⟨j,d,e1,e2⟩=>.inr ⟨j,d,(iU cs δ6 j _ e1).1,le.2 j _ e2⟩;refine⟨vs,ds.length-(i+1),PR,%[DW.1|hz],Y',bC cs δ6,acc++[x.d],vs++[v],rfl,bq,?_,bL,aF.aM (aF.keep rr t9) λb z=>.inl (PU b z),p7⟩;refine⟨c6.ok.Px (.inr rfl) h0 _,λa o ea n=>?_,λa z=>c6.own a z,λa o ea=>?_⟩
      .have gv:a≠l:=λz=>by grind
       rw[aI gv];exact c6.keep a o ea n
      .by_cases gv:a=l;.grind
       .obtain⟨o',e'⟩:=c6.there a o ea;exact⟨o',%[aI gv|e']⟩
     .exact p7.elim
  .left;have mO:i=ds.length:=by lia
   subst mO;rw[List.drop_length]at p2;exact⟨(xq H2 a2.keep).1,p2 H2 vs a2 hv rv⟩
theorem PX(hc:X.calm=true)(S:mB X scope cs)(hi:SI X c tg iter it)(hg:∀l s₀ H₀ ex,lK (fJ X scope s₀ H₀ ex) (c.plus l) cs tg g)(ht:∀l s₀ H₀ ex,nZ (fJ X scope s₀ H₀ ex) (c.plus l) ifs t)(he:∀l s₀ H₀ ex,SE (fJ X scope s₀ H₀ ex) (c.plus l) elt el)(hp:∀p∈c.pin,p.1∉cs)(hs:∀x,Jl iter X.env x=pure x:=by intro _;rfl):SE X c (.ListComp elt [⟨tg,iter,ifs,0⟩] scope pos) (bR cs it g t el):=PE.weak (NU (g:=λv σ H Q=>∃l,qy cs (c.plus l) g v σ H Q) (tt:=λσ H Q=>∃l,tT (c.plus l) t σ H Q) (te:=λσ H Q=>∃l,tD (c.plus l) el σ H Q) hc S hi (λs₀ H₀ ex pins s σ H v u Q I r⟨l,q⟩=>hg l s₀ H₀ ex pins s σ H v u Q I r q) (λs₀ H₀ ex pins s σ H Q I⟨l,q⟩=>ht l s₀ H₀ ex pins s σ H Q I q) (λs₀ H₀ ex pins s σ H Q I⟨l,q⟩=>he l s₀ H₀ ex pins s σ H Q I q) hs) λσ H Q h=>DJ (λ_ _ _ h=>h) (λl _ _ _ _ h=>⟨l,h⟩) (λl _ _ _ h=>⟨l,h⟩) (λl _ _ _ h=>⟨l,h⟩) hp h
theorem PY{y:Str}{tf:Pos}(dD:Np c np)(hc:X.calm=true)(S:mB X scope cs)(hN:X.N.Nodup)(fS:X.N[i]?=some y)(hy:X.env.scope.names.lookup y=some .local)(hi:SI X c tg iter it)(hg:∀l s₀ H₀ ex,lK (fJ X scope s₀ H₀ ex) (c.plus l) cs tg g)(ht:∀l s₀ H₀ ex,nZ (fJ X scope s₀ H₀ ex) (c.plus l) ifs t)(he:∀l s₀ H₀ ex,SE (fJ X scope s₀ H₀ ex) (c.plus l) elt el)(hp:∀p∈c.pin,p.1∉cs)(qa:QN (.ListComp elt [⟨tg,iter,ifs,0⟩] scope pos) (some (.Name y py)) tf.line X.env=pure true:=by rfl)(hs:∀x,Jl iter X.env x=pure x:=by intro _;rfl):SS X c (.Assign [.Name y py] (.ListComp elt [⟨tg,iter,ifs,0⟩] scope pos) tf) (aw (bR cs it g t el) (ag np i)):=PS.weak (NV (g:=λv σ H Q=>∃l,qy cs (c.plus l) g v σ H Q) (tt:=λσ H Q=>∃l,tT (c.plus l) t σ H Q) (te:=λσ H Q=>∃l,tD (c.plus l) el σ H Q) hc S hN fS hy hi (λs₀ H₀ ex pins s σ H v u Q I r⟨l,q⟩=>hg l s₀ H₀ ex pins s σ H v u Q I r q) (λs₀ H₀ ex pins s σ H Q I⟨l,q⟩=>ht l s₀ H₀ ex pins s σ H Q I q) (λs₀ H₀ ex pins s σ H Q I⟨l,q⟩=>he l s₀ H₀ ex pins s σ H Q I q) qa hs) λD σ H h=>xn (λσ H Q h=>DJ (λ_ _ _ h=>h) (λl _ _ _ _ h=>⟨l,h⟩) (λl _ _ _ h=>⟨l,h⟩) (λl _ _ _ h=>⟨l,h⟩) hp h) (λ_ _ _ _ h=>xm dD h) h
end
abbrev DF:=List S->Option (S×List S)
variable{G:DF}
def bN:Nat->List S->List V->List (Nat×Addr)|n,.own _::ss,.ref a::vs=>(n,a)::bN (n+1) ss vs|n,_::ss,_::vs=>bN (n+1) ss vs|_,_,_=>[]
theorem jl:∀{n:Nat}{ss:List S}{vs:List V}{i:Nat}{a:Addr},(i,a)∈bN n ss vs->∃j d,i=n+j/\ss[j]?=some (.own d)/\vs[j]?=some (.ref a)
 |n,[],vs,i,a,h=>by simp[bN]at h|n,s::ss,[],i,a,h=>by cases s<;>simp[bN]at h|n,s::ss,v::vs,i,a,h=>by
  have xr:(i,a)∈bN (n+1) ss vs->∃j d,i=n+j/\(s::ss)[j]?=some (.own d)/\(v::vs)[j]?=some (.ref a):=λh=>by obtain⟨j,d,e,h1,h2⟩:=jl h;exact⟨j+1,d,Y',~~~h1,~~~h2⟩
  cases s with|pure d=>exact xr h|own d=>
 cases v with|ref b=>
    rcases Ws.mp h with e|h;.cases e;exact⟨0,d,rfl,rfl,rfl⟩
    .exact xr h|_=>exact xr h
theorem t_:∀{n:Nat}{ss:List S}{vs:List V}{j:Nat}{d:D}{a:Addr},ss[j]?=some (.own d)->vs[j]?=some (.ref a)->(n+j,a)∈bN n ss vs
 |n,[],vs,j,d,a,h,_=>by simp at h|n,s::ss,[],j,d,a,_,h=>by simp at h|n,s::ss,v::vs,0,d,a,h1,h2=>by simp at h1 h2;subst h1 h2;exact Wt|n,s::ss,v::vs,j+1,d,a,h1,h2=>by
  have ih:=t_ (n:=n+1) (ss:=ss) (vs:=vs) (j:=j) (d:=d) (a:=a) (~~~h1) (~~~h2);have e:n+1+j=n+(j+1):=by lia
  rw[e]at ih;cases s with|pure d=>exact ih|own d=>cases v with|ref b=>exact Wm _ ih|_=>exact ih
abbrev bS(vs:List V):St:=vs.map some
abbrev cb(ss:List S):Dl:=ss.map some
theorem eX{r:S}:(cb ss)[i]?=some (some r)↔ss[i]?=some r:=by rw[Wu];cases ss[i]?<;>simp
theorem fc:(bS vs)[i]?=some (some v)↔vs[i]?=some v:=by rw[Wu];cases vs[i]?<;>simp
def qz(n:Nat)(G:DF):Sp:=λvs H Q _=>∃ss B,vs.length=n/\Ok ⟨H,B,bN 0 ss vs,λ_ _=>False⟩ (bS vs) (cb ss) H/\∃r aH,G ss=some (r,aH)/\∀v H',aK ⟨H,B,bN 0 ss vs,λ_ _=>False⟩ (bS vs) (cb ss) H (bS vs) (cb aH) H'->aY ⟨H,B,bN 0 ss vs,λ_ _=>False⟩ (bS vs) (cb aH) H H' v r->Q v H'
def bJ(P:Wg)(w:Wp)(K:W2)(mg:Str->Option Value)(base:Heap)(k:Nat)(x:Str)(n:Nat)(G:DF):Prop:=∃(f:Addr)(fd:WH)(ps:List Str),mg x=some (.ref f)/\Qq K (.ref f)=true/\Binds K fd ps []/\fz P w K mg base cH k f fd ps (qz n G)
def aX(n:Nat)(ss:List S):Dl:=cb ss++Wc (n-ss.length) none
def bj:Nat->List S->Dl->Option (List S)|_,[],_=>some []|n,.pure d::ss,δ=>(bj (n+1) ss δ).map (.pure d::.)|n,.own _::ss,δ=>match δ[n]? with|some (some (.own d'))=>(bj (n+1) ss δ).map (.own d'::.)|_=>none
noncomputable def bW:Fl->Option S|.next=>some (.pure .aJ)|.ret r=>some r|_=>none
def eC(f:DS)(n:Nat)(ss:List S):Option (S×List S):=match f (aX n ss)with|.ok fl δ=>(bW fl).bind λr=>(bj 0 ss δ).map λaH=>(r,aH)|_=>none
def bO(np:List Nat):Nat->List S->Bool|_,[]=>true|n,.own _::ss=>np.contains n&&bO np (n+1) ss|n,.pure _::ss=>bO np (n+1) ss
theorem qA:∀{n:Nat}{ss:List S}{j:Nat}{d:D},bO np n ss=true->ss[j]?=some (.own d)->np.contains (n+j)=true
 |n,[],j,d,_,h=>by simp at h|n,s::ss,0,d,h,e=>by simp at e;subst e;simp only[bO,Wo]at h;exact h.1|n,s::ss,j+1,d,h,e=>by
  have h':bO np (n+1) ss=true:=by cases s with|pure d=>exact h|own d=>simp only[bO,Wo]at h;exact h.2
  have:=qA (n:=n+1) (j:=j) h' (~~~e);rw[show n+(j+1)=n+1+j by lia];exact this
theorem qC:∀{n:Nat}{ss aH:List S}{δ:Dl},bj n ss δ=some aH->aH.length=ss.length/\∀(i:Nat)s,ss[i]?=some s->(∃d,s=.pure d/\aH[i]?=some (.pure d))\/∃d d',s=.own d/\δ[n+i]?=some (some (.own d'))/\aH[i]?=some (.own d')
 |n,[],aH,δ,h=>by simp only[bj,Wd]at h;subst h;exact⟨rfl,λi s e=>by simp at e⟩|n,.pure d::ss,aH,δ,h=>by simp only[bj]at h;cases e:bj (n+1) ss δ with|none=>rw[e]at h;cases h|some os=>rw[e]at h;simp only[WP,Wd]at h;subst h;obtain⟨h1,h2⟩:=qC e;refine⟨#v[h1],λi s es=>?_⟩;cases i with|zero=>simp at es;subst es;exact .inl ⟨d,rfl,rfl⟩|succ i=>
    rcases h2 i s (~~~es)with⟨d,z1,z2⟩|⟨d,d',z1,z2,z3⟩;.exact .inl ⟨d,z1,~~~z2⟩
    .exact .inr ⟨d,d',z1,%[show n+(i+1)=n+1+i by lia|z2],~~~z3⟩
 |n,.own d::ss,aH,δ,h=>by
  simp only[bj]at h;split at h;.rename_i d' ed;cases e:bj (n+1) ss δ with|none=>rw[e]at h;cases h|some os=>rw[e]at h;simp only[WP,Wd]at h;subst h;obtain⟨h1,h2⟩:=qC e;refine⟨#v[h1],λi s es=>?_⟩;cases i with|zero=>simp at es;subst es;exact .inr ⟨d,d',rfl,ed,rfl⟩|succ i=>
     rcases h2 i s (~~~es)with⟨d,z1,z2⟩|⟨d,d',z1,z2,z3⟩;.exact .inl ⟨d,z1,~~~z2⟩
     .exact .inr ⟨d,d',z1,%[show n+(i+1)=n+1+i by lia|z2],~~~z3⟩
  .cases h
section
variable{aH:List S}
theorem lM{α:Type}{l:List (Option α)}{k:Nat}{v:α}(h:(l++Wc k none)[i]?=some (some v)):l[i]?=some (some v):=by
 by_cases hi:i<l.length;.rw[Qi hi]at h;exact h
 .rw[Jg Y',List.getElem?_replicate]at h;split at h<;>cases h
theorem kJ{α:Type}{l:List (Option α)}{k:Nat}{v:α}(h:l[i]?=some (some v)):(l++Wc k none)[i]?=some (some v):=by have hi:i<l.length:=(W8.mp h).1;rw[Qi hi];exact h
theorem Own.ext{k:Nat}:Own (σ++Wc k none) (δ++Wc k none) a↔Own σ δ a:=⟨λ⟨i,d,e1,e2⟩=>⟨i,d,lM e1,lM e2⟩,λ⟨i,d,e1,e2⟩=>⟨i,d,kJ e1,kJ e2⟩⟩
theorem Ok.ext(k:Ok c σ δ H)(n:Nat):Ok c (σ++Wc n none) (δ++Wc n none) H:=by
 have sub:∀b,Av c (σ++Wc n none) (δ++Wc n none) b->Av c σ δ b:=λb z=>z.elim .inl λz=>.inr (Own.ext.mp z);refine⟨k.keep,k.bd,k.du,#v[k.len],λi d e=>?_,λi d e=>?_,λi j a d d' e1 e2 e3 e4=>k.inj i j a d d' (lM e1) (lM e2) (lM e3) (lM e4),λp hm=>kJ (k.pinned p hm)⟩;.obtain⟨v,h1,h2⟩:=k.slot i d (lM e);exact⟨v,kJ h1,h2.aM λb z=>.inl (sub b z)⟩
 .obtain⟨a,h1,h2,h3⟩:=k.own i d (lM e);exact⟨a,kJ h1,h2.aM λb z=>.inl (sub b z),h3⟩
theorem iV{B:Addr->Prop}(hc:c=⟨H,B,bN 0 ss vs,λ_ _=>False⟩)(k:Ok c (bS vs) (cb ss) H)(x:aK c (bS vs++Wc n none) (cb ss++Wc n none) H σ' δ' H')(ho:bj 0 ss δ'=some aH):aK c (bS vs) (cb ss) H (bS vs) (cb aH) H'/\∀v r,aY c σ' δ' H H' v r->aY c (bS vs) (cb aH) H H' v r:=by
 obtain⟨hlen,n4⟩:=qC ho;have iB:ss.length=vs.length:=by have:=k.len;simpa using this
 have pin:∀(i:Nat)(a:Addr)(d:D),ss[i]?=some (.own d)->vs[i]?=some (.ref a)->σ'[i]?=some (some (.ref a)):=λi a d h1 h2=>by have:=t_ (n:=0) h1 h2;rw[Qd]at this;exact x.ok.pinned (i,a) %[hc|this]
 have ua:∀(i:Nat)(d:D),aH[i]?=some (.own d)->(∃d₀,ss[i]?=some (.own d₀))/\δ'[i]?=some (some (.own d)):=λi d e=>by
  have hi:i<ss.length:=by rw[<-hlen];exact(W8.mp e).1
  rcases n4 i ss[i] #v[hi]with⟨d₁,z1,z2⟩|⟨d₁,d',z1,z2,z3⟩;all_goals grind
 have sub:∀b,Own (bS vs) (cb aH) b->Own σ' δ' b:=λb⟨i,d,e1,e2⟩=>by obtain⟨⟨d₀,h0⟩,h1⟩:=ua i d (eX.mp e1);exact⟨i,d,h1,pin i b d₀ h0 (fc.mp e2)⟩
 have mP:∀b,Av c (bS vs) (cb aH) b->Av c σ' δ' b:=λb z=>z.elim .inl λz=>.inr (sub b z);have DY:∀{c':Fc},c'.pin=c.pin->Ok c' σ' δ' H'->(∀b,c.B b->c'.B b)->(∀(i:Nat)d v,ss[i]?=some (.pure d)->vs[i]?=some v->Rep H' (Av c' σ' δ') v d)->Ok c' (bS vs) (cb aH) H':=λ{c'}ep k' hB hsl=>by
  have DZ:∀b,Av c' (bS vs) (cb aH) b->Av c' σ' δ' b:=λb z=>z.elim .inl λz=>.inr (sub b z);refine⟨k'.keep,k'.bd,k'.du,#v[hlen,iB],λi d e=>?_,λi d e=>?_,λi j a d d' e1 e2 e3 e4=>?_,λp hm=>?_⟩
  .have e':=eX.mp e;have hi:i<ss.length:=by rw[<-hlen];exact(W8.mp e').1
   have hv:i<vs.length:=by lia
   rcases n4 i ss[i] #v[hi]with⟨d₁,z1,z2⟩|⟨d₁,d',z1,z2,z3⟩;.rw[e']at z2;cases z2;exact⟨vs[i],#v[hv],(hsl i d vs[i] (by rw[W3 hi,z1]) #v[hv]).aM λb z=>.inl (DZ b z)⟩
   grind
  .have e':=eX.mp e;obtain⟨⟨d₀,h0⟩,h1⟩:=ua i d e';obtain⟨a₀,h2,_⟩:=k.own i d₀ (eX.mpr h0);obtain⟨a,h3,h4,h5⟩:=k'.own i d h1;rw[pin i a₀ d₀ h0 (fc.mp h2)]at h3;cases h3;exact⟨a₀,h2,h4.aM λb z=>.inl (DZ b z),h5⟩
  .obtain⟨⟨d₀,h0⟩,h1⟩:=ua i d (eX.mp e1);obtain⟨⟨d₁,h2⟩,h3⟩:=ua j d' (eX.mp e2);exact k'.inj i j a d d' h1 h3 (pin i a d₀ h0 (fc.mp e3)) (pin j a d₁ h2 (fc.mp e4))
  .exact k.pinned p (by rw[<-ep];exact hm)
 have slots:∀(i:Nat)d v,ss[i]?=some (.pure d)->vs[i]?=some v->Rep H' (Av c σ' δ') v d:=λi d v h1 h2=>by obtain⟨w,e1,r⟩:=(k.ext n).slot i d (kJ (eX.mpr h1));rw[kJ (fc.mpr h2)]at e1;cases e1;exact Rep.dw r x
 refine⟨⟨DY rfl x.ok (λ_ z=>z) slots,λa o e m=>x.keep a o e λz=>m (Own.ext.mp z),λa z=>(x.own a (sub a z)).elim (λz=>.inl (Own.ext.mp z)) .inr,x.there⟩,λv r hr=>?_⟩;cases r with|pure d=>exact Rep.aM hr λb z=>.inl (mP b z)|own d=>
  obtain⟨a,ea,o,nb,h0,kp,hs⟩:=hr;refine⟨a,ea,o.aM λb z=>.inl (z.elim .inl λz=>.inr (sub b z)),nb,h0,DY rfl kp (λ_ z=>.inl z) λi d v h1 h2=>?_,hs⟩;obtain⟨w,e1,r⟩:=(k.ext n).slot i d (kJ (eX.mpr h1));rw[kJ (fc.mpr h2)]at e1;cases e1;have n5:H a=none:=hs;have r1:Rep H (Av c (bS vs++Wc n none) (cb ss++Wc n none)) v d:=r;have r2:Rep H (λb=>Av c (bS vs++Wc n none) (cb ss++Wc n none) b\/Av (c.plus a) σ' δ' b) v d:=r1.aM λb z=>by
   rcases z with z|(z|z)|z;.exact .inl z
   .exact .inl (.inl z)
   .exact .inr %[z|n5]
   .rcases x.own b z with q|q;.exact .inl (.inr q)
    .exact .inr q
  exact(r2.keep λb o e m=>x.keep b o e λz=>m (.inl (.inr z))).aM λb z=>.inl (.inr z)
end
theorem PZ{st:Stmt}{k:Nat}{fb:DS}(F:dq K x qual st f fd)(S:eL N ps (aV st))(cG:∀(c:Fc)(aE:Value)(A:Wh)(outer:List Env)(s:W1)(H:Hp)(E:XK),b_ k (A.deeper (QB qual (aV st) s.heap.objs.size f aE))->Np c np->dA (dG cH P w K mg base N qual (aV st) f aE A outer s H E).fE c (cZ st) fb)(hG:∀ss y,G ss=some y->bO np 0 ss=true/\eC fb N.length ss=some y):fz P w K mg base cH (k+1) f fd ps (qz ps.length G):=by
 refine F.ok S (λvs H Q E h=>?_) λaE A outer s H vs Q E hr h=>?_;.obtain⟨ss,B,hl,_⟩:=h;exact hl
 .obtain⟨ss,B,hl,ok,r,aH,hg,q⟩:=h;obtain⟨eN,hrun⟩:=hG ss _ hg;have iB:ss.length=vs.length:=by have:=ok.len;simpa using this
  have mR:Np ⟨H,B,bN 0 ss vs,λ_ _=>False⟩ np:=λp hp=>by obtain⟨j,d,e,h1,_⟩:=jl (i:=p.1) (a:=p.2) hp;rw[e];exact qA eN h1
  refine⟨iS ⟨H,B,bN 0 ss vs,λ_ _=>False⟩ fb,cG ⟨H,B,bN 0 ss vs,λ_ _=>False⟩ aE A outer s H E hr mR,?_⟩;have cP:start N vs=bS vs++Wc (N.length-ss.length) none:=by rw[iB];rfl
  refine⟨aX N.length ss,%[cP|ok.ext _],?_⟩;unfold eC at hrun;unfold dJ;cases e:fb (aX N.length ss)with|exc x δx=>rw[e]at hrun;cases hrun|stuck=>rw[e]at hrun;cases hrun|ok fl δ'=>rw[e]at hrun;show∀σ' H',aK _ (start N vs) (aX N.length ss) H σ' δ' H'->fin _ _ σ' δ' H' fl;intro σ' H' a;rw[cP]at a;simp only at hrun;cases fl with
 |brk=>cases hrun|cont=>cases hrun|next=>simp only[bW,Wz]at hrun;cases eo:bj 0 ss δ' with|none=>rw[eo]at hrun;cases hrun|some os=>rw[eo]at hrun;cases hrun;obtain⟨l1,l2⟩:=iV rfl ok a eo;exact q .aJ H' l1 .aJ
 |ret r'=>simp only[bW,Wz]at hrun;cases eo:bj 0 ss δ' with|none=>rw[eo]at hrun;cases hrun|some os=>rw[eo]at hrun;cases hrun;obtain⟨l1,l2⟩:=iV rfl ok a eo;exactλv rv=>q v H' l1 (l2 v _ rv)
theorem P0{st:Stmt}{k:Nat}{fb:DS}(F:dq K x qual st f fd)(hm:mg x=some (.ref f))(hb:Binds K fd ps [])(S:eL N ps (aV st))(cG:∀(c:Fc)(aE:Value)(A:Wh)(outer:List Env)(s:W1)(H:Hp)(E:XK),b_ k (A.deeper (QB qual (aV st) s.heap.objs.size f aE))->Np c np->dA (dG cH P w K mg base N qual (aV st) f aE A outer s H E).fE c (cZ st) fb)(hG:∀ss y,G ss=some y->bO np 0 ss=true/\eC fb N.length ss=some y):bJ P w K mg base (k+1) x ps.length G:=⟨f,fd,ps,hm,F.kp,hb,PZ F S cG hG⟩
inductive Ak where|val(f:DE)|io(i:Nat)
variable{as:List Ak}
def bI:List Ak->Dl->Rs (List (Option D))|[],δ=>.ok [] δ|.val f::r,δ=>(f δ).bind λx δ1=>(bI r δ1).bind λxs δ2=>.ok (some x.d::xs) δ2|.io _::r,δ=>(bI r δ).bind λxs δ2=>.ok (none::xs) δ2
inductive jP(c:Fc)(σ:St)(δ:Dl)(H:Hp):List V->List Ak->List (Option D)->Prop|nil:jP c σ δ H [] [] []|val{v:V}{d:D}{f:DE}{vs:List V}{as:List Ak}{ds:List (Option D)}:Rep H (Av c σ δ) v d->jP c σ δ H vs as ds->jP c σ δ H (v::vs) (.val f::as) (some d::ds)|io{v:V}{i:Nat}{vs:List V}{as:List Ak}{ds:List (Option D)}:σ[i]?=some (some v)->jP c σ δ H vs as ds->jP c σ δ H (v::vs) (.io i::as) (none::ds)
def tX(c:Fc)(as:List Ak):TA:=λσ H Q=>∃δ,Ok c σ δ H/\(∀i,Ak.io i∈as->∃v,σ[i]?=some (some v))/\post c (bI as δ) λds δ'=>∀vs H',aK c σ δ H σ δ' H'->jP c σ δ' H' vs as ds->Q vs H'
abbrev SX(X:Cx)(c:Fc)(es:List Expr)(as:List Ak):Prop:=PA X es (tX c as)
theorem P4:SX X c [] []:=PA.weak fH λσ H Q⟨δ,k,_,q⟩=>q [] H (.refl k) .nil
theorem P5(ha:SE X c e fe)(hr:SX X c es as)(hs:W7 (e::es) X.env=(false,eval e X.env)::W7 es X.env:=by rfl):SX X c (e::es) (.val fe::as):=PA.weak (dU ha hr hs) λσ H Q⟨δ,k,eN,q⟩=>by unfold bI at q;rw[bh]at q;refine⟨δ,k,aN q λx δ1 q1 v H1 a1 r1=>⟨δ1,a1.ok,λi hi=>eN i (Wm _ hi),?_⟩⟩;rw[bh]at q1;exact aN q1 λxs δ2 q2 vs H2 a2 r2=>q2 (v::vs) H2 (a1.trans a2) (.val (Rep.dw r1.rep a2) r2)
theorem P6(ha:PE X e (dZ i))(hr:SX X c es as)(hs:W7 (e::es) X.env=(false,eval e X.env)::W7 es X.env:=by rfl):SX X c (e::es) (.io i::as):=PA.weak (dU ha hr hs) λσ H Q⟨δ,k,eN,q⟩=>by obtain⟨v,ev⟩:=eN i Wt;unfold bI at q;rw[bh]at q;exact⟨v,ev,δ,k,λi hi=>eN i (Wm _ hi),aN q λxs δ2 q2 vs H2 a2 r2=>q2 (v::vs) H2 a2 (.io ev r2)⟩
def bD:List Ak->List (Option D)->Dl->Option (List S)
 |[],[],_=>some []|.val _::as,some d::ds,δ=>(bD as ds δ).map (.pure d::.)|.io i::as,none::ds,δ=>match δ[i]? with|some (some (.own d))=>(bD as ds δ).map (.own d::.)|_=>none
 |_,_,_=>none
def bo:List Ak->List Nat|[]=>[]|.val _::as=>bo as|.io i::as=>i::bo as
def aR:List Ak->List S->Dl->Dl|.io i::as,r::rs,δ=>aR as rs (δ.set i (some r))|.val _::as,_::rs,δ=>aR as rs δ|_,_,δ=>δ
def bX:List Nat->Bool|[]=>true|i::r=>!r.contains i&&bX r
def aA(G:DF)(as:List Ak):DE:=λδ=>if(bo as).all (bH δ)&&bX (bo as)then(bI as δ).bind λds δ1=>match bD as ds δ1 with|none=>.stuck|some ss=>match G ss with|none=>.stuck|some (r,aH)=>.ok r (aR as aH δ1)else .stuck
theorem xt:∀{l:List Nat},bX l=true->l.Nodup|[],_=>.nil|i::r,h=>by simp only[bX,Wo,JI]at h;exact List.nodup_cons.mpr ⟨λhm=>by have:=h.1;simp at this;exact this hm,xt h.2⟩
theorem lN:∀{as:List Ak}{i:Nat},i∈bo as↔Ak.io i∈as|[],i=>#v[bo]|.val f::as,i=>#v[bo,lN (as:=as)]|.io j::as,i=>#v[bo,lN (as:=as)]
theorem xu:∀{as:List Ak}{i j k:Nat},(bo as).Nodup->as[j]?=some (.io i)->as[k]?=some (.io i)->j=k
 |[],i,j,k,_,h,_=>by simp at h|.val f::as,i,j,k,nd,h1,h2=>by cases j with|zero=>simp at h1|succ j=>cases k with|zero=>simp at h2|succ k=>exact congrArg (.+1) (xu (as:=as) nd (~~~h1) (~~~h2))
 |.io n::as,i,j,k,nd,h1,h2=>by have n8:=Q2.mp nd;cases j with|zero=>grind[lN]|succ j=>cases k with|zero=>grind[lN]|succ k=>exact congrArg (.+1) (xu (as:=as) n8.2 (~~~h1) (~~~h2))
section
variable{ds:List (Option D)}
theorem ub(h:jP c σ δ H vs as ds):∀{ss:List S},bD as ds δ=some ss->ss.length=vs.length/\as.length=vs.length/\∀(j:Nat)s v,ss[j]?=some s->vs[j]?=some v->(∃d f,s=.pure d/\as[j]?=some (.val f)/\Rep H (Av c σ δ) v d)\/∃d i,s=.own d/\as[j]?=some (.io i)/\σ[i]?=some (some v)/\δ[i]?=some (some (.own d)):=by induction h with
 |nil=>intro ss h;simp only[bD,Wd]at h;subst h;exact⟨rfl,rfl,λj s v e _=>by simp at e⟩|@val v d f vs as ds r _ ih=>intro ss h;simp only[bD]at h;cases e:bD as ds δ with|none=>rw[e]at h;cases h|some rs=>rw[e]at h;simp only[WP,Wd]at h;subst h;obtain⟨h1,h2,h3⟩:=ih e;refine⟨#v[h1],#v[h2],λj s v' e1 e2=>?_⟩;cases j with|zero=>simp at e1 e2;subst e1 e2;exact .inl ⟨d,f,rfl,rfl,r⟩|succ j=>simpa using h3 j s v' (~~~e1) (~~~e2)
 |@io v i vs as ds ev _ ih=>
 intro ss h;simp only[bD]at h;split at h;.rename_i d ed;cases e:bD as ds δ with|none=>rw[e]at h;cases h|some rs=>rw[e]at h;simp only[WP,Wd]at h;subst h;obtain⟨h1,h2,h3⟩:=ih e;refine⟨#v[h1],#v[h2],λj s v' e1 e2=>?_⟩;cases j with|zero=>simp at e1 e2;subst e1 e2;exact .inr ⟨d,i,rfl,rfl,ev,ed⟩|succ j=>simpa using h3 j s v' (~~~e1) (~~~e2)
 .cases h
theorem xw:∀(as:List Ak)(rs:List S)(δ:Dl),(aR as rs δ).length=δ.length|[],rs,δ=>#v[aR]|.val f::as,[],δ=>#v[aR]|.io i::as,[],δ=>#v[aR]|.val f::as,r::rs,δ=>#v[aR,xw as rs δ]|.io i::as,r::rs,δ=>#v[aR,xw as rs]
theorem qD:∀(as:List Ak)(rs:List S)(δ:Dl)(i:Nat),i∉bo as->(aR as rs δ)[i]?=δ[i]?|[],rs,δ,i,_=>#v[aR]|.val f::as,[],δ,i,_=>#v[aR]|.io j::as,[],δ,i,_=>#v[aR]|.val f::as,r::rs,δ,i,h=>%[aR|qD as rs δ i h]|.io j::as,r::rs,δ,i,h=>by simp only[bo,Ws,not_or]at h;rw[aR,qD as rs _ i h.2,W9 (Ne.symm h.1)]
theorem uc:∀(as:List Ak)(rs:List S)(δ:Dl)(i j:Nat)(r:S),(bo as).Nodup->as[j]?=some (.io i)->rs[j]?=some r->i<δ.length->(aR as rs δ)[i]?=some (some r)
 |[],rs,δ,i,j,r,_,h,_,_=>by simp at h|a::as,[],δ,i,j,r,_,_,h,_=>by simp at h|.val f::as,r0::rs,δ,i,j,r,nd,h1,h2,hi=>by cases j with|zero=>simp at h1|succ j=>rw[aR];exact uc as rs δ i j r nd (~~~h1) (~~~h2) hi
 |.io k::as,r0::rs,δ,i,j,r,nd,h1,h2,hi=>by have n8:=Q2.mp nd;cases j with|zero=>simp at h1 h2;subst h1 h2;rw[aR,qD as rs _ k n8.1,Wl hi]|succ j=>rw[aR];exact uc as rs _ i j r n8.2 (~~~h1) (~~~h2) (~~~hi)
theorem D0(k:Ok c σ δ H)(hr:jP c σ δ H vs as ds)(hm:bD as ds δ=some ss)(nd:(bo as).Nodup):Ok ⟨H,λa=>Av c σ δ a/\¬∃(j:Nat)(d:D),ss[j]?=some (S.own d)/\vs[j]?=some (V.ref a),bN 0 ss vs,λ_ _=>False⟩ (bS vs) (cb ss) H:=by
 obtain⟨h1,h2,h3⟩:=ub hr hm;have at':∀(j:Nat)s,ss[j]?=some s->∃v,vs[j]?=some v:=λj s e=>by
  have:j<vs.length:=by rw[<-h1];exact(W8.mp e).1
  simp_all
 have D3:∀a,Own (bS vs) (cb ss) a↔∃(j:Nat)(d:D),ss[j]?=some (S.own d)/\vs[j]?=some (V.ref a):=λa=>⟨λ⟨j,d,e1,e2⟩=>⟨j,d,eX.mp e1,fc.mp e2⟩,λ⟨j,d,e1,e2⟩=>⟨j,d,eX.mpr e1,fc.mpr e2⟩⟩;have D4:∀a,Own (bS vs) (cb ss) a->Own σ δ a:=λa z=>by
  obtain⟨j,d,e1,e2⟩:=(D3 a).mp z;rcases h3 j _ _ e1 e2 with⟨d',f,e,_⟩|⟨d',i,e,_,es,ed⟩;.cases e
  .exact⟨i,d',ed,es⟩
 have sub:∀a,Av ⟨H,λa=>Av c σ δ a/\¬∃(j:Nat)(d:D),ss[j]?=some (S.own d)/\vs[j]?=some (V.ref a),bN 0 ss vs,λ_ _=>False⟩ (bS vs) (cb ss) a->Av c σ δ a:=λa z=>z.elim (λz=>z.1) λz=>.inr (D4 a z);refine⟨λa o e _=>e,λa z=>k.tj z.1,λa⟨i,hi⟩=>?_,#v[h1],λj d e=>?_,λj d e=>?_,λi j a d d' e1 e2 e3 e4=>?_,λp hp=>?_⟩;.obtain⟨j,d,_,e1,e2⟩:=jl hi;exact k.qc (D4 a ((D3 a).mpr ⟨j,d,e1,e2⟩))
 .have e':=eX.mp e;obtain⟨v,ev⟩:=at' j _ e';rcases h3 j _ v e' ev with⟨d',f,e,_,r⟩|⟨d',i,e,_⟩;.cases e;exact⟨v,fc.mpr ev,r.aM λb z=>.inl (sub b z)⟩
  .cases e
 .have e':=eX.mp e;obtain⟨v,ev⟩:=at' j _ e';rcases h3 j _ v e' ev with⟨d',f,e,_,r⟩|⟨d',i,e,_,es,ed⟩;.cases e
  .cases e;obtain⟨a,g1,g2,g3⟩:=k.own i d ed;rw[es]at g1;cases g1;refine⟨a,fc.mpr ev,g2.aM λb z=>.inl (sub b z),.inl ⟨0+j,t_ e' ev⟩,λz=>z.2 ⟨j,d,e',ev⟩⟩
 .have f1:=eX.mp e1;have f2:=eX.mp e2;rcases h3 i _ _ f1 (fc.mp e3)with⟨_,_,e,_⟩|⟨d1,i1,e,a1,s1,x1⟩;.cases e
  .rcases h3 j _ _ f2 (fc.mp e4)with⟨_,_,e',_⟩|⟨d2,i2,e',a2,s2,x2⟩;.cases e'
   .have:=k.inj i1 i2 a d1 d2 x1 x2 s1 s2;subst this;exact xu nd a1 a2
 .obtain⟨j,d,e,e1,e2⟩:=jl (i:=p.1) (a:=p.2) hp;rw[Qd]at e;rw[e];exact fc.mpr e2
theorem xy(k:Ok c σ δ H)(hr:jP c σ δ H vs as ds)(hm:bD as ds δ=some ss)(nd:(bo as).Nodup)(hB:B=λa=>Av c σ δ a/\¬∃(j:Nat)(d:D),ss[j]?=some (S.own d)/\vs[j]?=some (V.ref a))(x:aK ⟨H,B,bN 0 ss vs,λ_ _=>False⟩ (bS vs) (cb ss) H (bS vs) (cb aH) H')(eN:∀(j:Nat)d,ss[j]?=some (.own d)->∃d',aH[j]?=some (.own d'))(hpo:∀(j:Nat)d,ss[j]?=some (.pure d)->∃d',aH[j]?=some (.pure d')):aK c σ δ H σ (aR as aH δ) H'/\∀v r,aY ⟨H,B,bN 0 ss vs,λ_ _=>False⟩ (bS vs) (cb aH) H H' v r->aY c σ (aR as aH δ) H H' v r:=by
 obtain⟨h1,h2,h3⟩:=ub hr hm;have ud:∀i,i∈bo as->∃(j:Nat)(d:D)(a:Addr),as[j]?=some (.io i)/\ss[j]?=some (.own d)/\vs[j]?=some (.ref a)/\σ[i]?=some (some (.ref a))/\δ[i]?=some (some (.own d)):=λi hi=>by
  obtain⟨j,hj,ej⟩:=List.mem_iff_getElem.mp (lN.mp hi);have hv:j<vs.length:=by lia
  have hs:j<ss.length:=by lia
  have D5:as[j]?=some (.io i):=by rw[W3 hj,ej]
  rcases h3 j ss[j] vs[j] #v[hs] #v[hv]with⟨d,f,e,a1,_⟩|⟨d,i',e,a1,s1,x1⟩;.grind
  .rw[D5]at a1;cases a1;obtain⟨a,g1,_⟩:=k.own i d x1;rw[s1]at g1;have g2:vs[j]=.ref a:=by have:=WG g1;exact WG this
   exact⟨j,d,a,D5,by rw[W3 hs,e],by rw[W3 hv,g2],by rw[s1,g2],x1⟩
 have ue:∀a,(∃(j:Nat)(d:D),ss[j]?=some (S.own d)/\vs[j]?=some (V.ref a))->Own σ δ a:=λa⟨j,d,e1,e2⟩=>by
  rcases h3 j _ _ e1 e2 with⟨d',f,e,_⟩|⟨d',i,e,_,es,ed⟩;.cases e
  .exact⟨i,d',ed,es⟩
 have qaG:∀a,(⟨H,B,bN 0 ss vs,λ_ _=>False⟩:Fc).I a↔∃(j:Nat)(d:D),ss[j]?=some (S.own d)/\vs[j]?=some (V.ref a):=λa=>⟨λ⟨i,hi⟩=>by obtain⟨j,d,_,e1,e2⟩:=jl hi;exact⟨j,d,e1,e2⟩,λ⟨j,d,e1,e2⟩=>⟨0+j,t_ e1 e2⟩⟩;have ownIn:∀a,Own (bS vs) (cb ss) a->∃(j:Nat)(d:D),ss[j]?=some (S.own d)/\vs[j]?=some (V.ref a):=λa⟨j,d,e1,e2⟩=>⟨j,d,eX.mp e1,fc.mp e2⟩;have uf:∀(i:Nat)(d:D),(aR as aH δ)[i]?=some (some (.own d))->i∉bo as/\δ[i]?=some (some (.own d))\/i∈bo as/\∃(j:Nat)(d0:D)(a:Addr),as[j]?=some (.io i)/\ss[j]?=some (.own d0)/\vs[j]?=some (.ref a)/\σ[i]?=some (some (.ref a))/\aH[j]?=some (.own d):=λi d e=>by
  by_cases hi:i∈bo as;.right;obtain⟨j,d0,a,a1,a2,a3,a4,a5⟩:=ud i hi;obtain⟨d',ed'⟩:=eN j d0 a2;have bq:i<δ.length:=(W8.mp a5).1;have:=uc as aH δ i j (.own d') nd a1 ed' bq;rw[e]at this;cases this;exact⟨hi,j,d0,a,a1,a2,a3,a4,ed'⟩
  .rw[qD as aH δ i hi]at e;exact .inl ⟨hi,e⟩
 have lO:∀b,Own σ (aR as aH δ) b->Own σ δ b:=λb⟨i,d,e1,e2⟩=>by
  rcases uf i d e1 with⟨_,e⟩|⟨hi,j,d0,a,_,a2,a3,a4,_⟩;.exact⟨i,d,e,e2⟩
  grind
 have P7:∀(i:Nat)(d:D),(aR as aH δ)[i]?=some (some (.pure d))->i∉bo as/\δ[i]?=some (some (.pure d)):=λi d e=>by
  by_cases hi:i∈bo as;.obtain⟨j,d0,a,a1,a2,a3,a4,a5⟩:=ud i hi;obtain⟨d',ed'⟩:=eN j d0 a2;have bq:i<δ.length:=(W8.mp a5).1;have:=uc as aH δ i j (.own d') nd a1 ed' bq;rw[e]at this;cases this
  .rw[qD as aH δ i hi]at e;exact⟨hi,e⟩
 have D6:∀a o,H a=some o->¬Av c σ δ a->H' a=some o:=λa o e n=>x.keep a o e λz=>n (.inr (ue a (ownIn a z)));have mP:∀b,Av c σ (aR as aH δ) b->Av c σ δ b:=λb z=>z.elim .inl λz=>.inr (lO b z);have big:∀{c':Fc},c'.B=B->∀b,Av c σ δ b->Av c' (bS vs) (cb aH) b:=λ{c'}hB' b z=>by
  by_cases hp:∃(j:Nat)(d:D),ss[j]?=some (S.own d)/\vs[j]?=some (V.ref b);.obtain⟨j,d,e1,e2⟩:=hp;obtain⟨d',ed'⟩:=eN j d e1;exact .inr ⟨j,d',eX.mpr ed',fc.mpr e2⟩
  .exact .inl (by rw[hB',hB];exact⟨z,hp⟩)
 have D7:∀(c1 c2:Fc),c1.H₀=c.H₀->c1.pin=c.pin->(∀b,c1.B b->c.B b\/c2.B b/\H b=none)->c2.pin=bN 0 ss vs->(∀b,B b->c2.B b)->Ok c2 (bS vs) (cb aH) H'->(∀b,c1.B b->∃o,H' b=some o)->Ok c1 σ (aR as aH δ) H':=λc1 c2 e0 e1 e2 e3 e4 k2 hex=>by
  have D8:∀b,Av c1 σ (aR as aH δ) b->Av c σ δ b\/H b=none:=λb z=>by
   rcases z with z|z
   .rcases e2 b z with z|⟨_,z⟩;.exact .inl (.inl z)
    .exact .inr z
   .exact .inl (.inr (lO b z))
  have tu:∀b,Av c1 σ (aR as aH δ) b->Av c2 (bS vs) (cb aH) b:=λb z=>by
   have bg:∀b,Av c σ δ b->Av c2 (bS vs) (cb aH) b:=λb z=>by
    by_cases hp:∃(j:Nat)(d:D),ss[j]?=some (S.own d)/\vs[j]?=some (V.ref b);.obtain⟨j,d,e1,e2⟩:=hp;obtain⟨d',ed'⟩:=eN j d e1;exact .inr ⟨j,d',eX.mpr ed',fc.mpr e2⟩
    .exact .inl (e4 b (by rw[hB];exact⟨z,hp⟩))
   rcases z with z|z
   .rcases e2 b z with z|⟨z,_⟩;.exact bg b (.inl z)
    .exact .inl z
   .exact bg b (.inr (lO b z))
  have P8:∀{v:V}{d:D},Rep H (Av c σ δ) v d->Rep H' (Av c1 σ (aR as aH δ)) v d:=λ{v d}r=>by have r1:Rep H (λb=>Av c σ δ b\/Av c1 σ (aR as aH δ) b) v d:=r.aM λb z=>z.elim .inl (D8 b);exact(r1.keep λb o e n=>D6 b o e λz=>n (.inl z)).aM λb z=>.inl (.inr z)
  refine⟨λa o e n=>?_,hex,λa z=>?_,%[xw|k.len],λi d e=>?_,λi d e=>?_,λi j a d d' f1 f2 f3 f4=>?_,%[e1|k.pinned]⟩;.rw[e0]at e;have n':¬c.I a:=λz=>n (by unfold Fc.I at z⊢;rw[e1];exact z);refine x.keep a o (k.keep a o e n') λz=>?_;obtain⟨i,d,g1,g2⟩:=ue a (ownIn a z);obtain⟨a',g3,_,g4,_⟩:=k.own i d g1;grind
  .have z':c.I a:=by unfold Fc.I at z⊢;rw[<-e1];exact z
   obtain⟨o,e⟩:=k.du a z';exact x.there a o e
  .obtain⟨hi,e'⟩:=P7 i d e;obtain⟨v,g1,g2⟩:=k.slot i d e';exact⟨v,g1,P8 g2⟩
  .rcases uf i d e with⟨hi,e'⟩|⟨hi,j,d0,a,b1,b2,b3,b4,b5⟩
   .obtain⟨a,g1,g2,g3,g4⟩:=k.own i d e';have na:¬Own (bS vs) (cb ss) a:=λz=>by
     obtain⟨j,d1,q1,q2⟩:=ownIn a z;rcases h3 j _ _ q1 q2 with⟨d',f,ee,_⟩|⟨d',i',ee,ai,es,ed⟩;.cases ee
     .have:=k.inj i i' a d d' e' ed g1 es;grind[lN]
    have P9:f9 H' (Av c1 σ (aR as aH δ)) a d:=by have o1:f9 H (λb=>Av c σ δ b\/Av c1 σ (aR as aH δ) b) a d:=g2.aM λb z=>z.elim .inl (D8 b);exact(o1.keep (λb o e n=>D6 b o e λz=>n (.inl z)) λo e=>x.keep a o e na).aM λb z=>.inl (.inr z)
    refine⟨a,g1,P9,by unfold Fc.I at g3⊢;rw[e0,e1];exact g3,λz=>?_⟩;rcases e2 a z with z|⟨_,z⟩;.exact g4 z
    .obtain⟨o,eo⟩:=g2.some;rw[z]at eo;cases eo
   .obtain⟨a',g1,g2,g3,g4⟩:=k2.own j d (eX.mpr b5);rw[fc.mpr b3]at g1;cases g1;obtain⟨i0,d1,q1,q2⟩:=ue a ⟨j,d0,b2,b3⟩;obtain⟨a'',q3,q4,q5,q6⟩:=k.own i0 d1 q1;rw[q2]at q3;cases q3;refine⟨a,b4,g2.aM λb z=>.inl (tu b z),by unfold Fc.I at q5⊢;rw[e0,e1];exact q5,λz=>?_⟩;grind
  .obtain⟨d1,g1⟩:∃d1,δ[i]?=some (some (.own d1)):=by
    rcases uf i d f1 with⟨_,e'⟩|⟨hi,_⟩;.exact⟨d,e'⟩
    .obtain⟨_,d1,_,_,_,_,_,a5⟩:=ud i hi;exact⟨d1,a5⟩
   obtain⟨d2,g2⟩:∃d2,δ[j]?=some (some (.own d2)):=by
    rcases uf j d' f2 with⟨_,e'⟩|⟨hi,_⟩;.exact⟨d',e'⟩
    .obtain⟨_,d1,_,_,_,_,_,a5⟩:=ud j hi;exact⟨d1,a5⟩
   exact k.inj i j a d1 d2 g1 g2 f3 f4
 have P_:Ok c σ (aR as aH δ) H':=D7 c ⟨H,B,bN 0 ss vs,λ_ _=>False⟩ rfl rfl (λb z=>.inl z) rfl (λb z=>z) x.ok λb z=>by obtain⟨o,e⟩:=k.bd b z;exact x.there b o e
 refine⟨⟨P_,λa o e n=>x.keep a o e λz=>n (ue a (ownIn a z)),λa z=>.inl (lO a z),x.there⟩,λv r hr=>?_⟩;cases r with|pure d=>exact Rep.aM hr λb z=>.inl (big rfl b (mP b z))|own d=>
  obtain⟨a,ea,o,nb,h0,kp,hs⟩:=hr;have n5:H a=none:=hs;have gZ:¬Av c σ δ a:=k.gZ n5;refine⟨a,ea,o.aM λb z=>.inl ?_,λz=>gZ (.inl z),k.jN n5,?_,n5⟩
  .rcases z with(z|z)|z;.exact(big rfl b (.inl z)).elim (λz=>.inl (.inl z)) .inr
   .exact .inl (.inr z)
   .exact(big rfl b (.inr (lO b z))).elim (λz=>.inl (.inl z)) .inr
  .refine D7 (c.plus a) (Fc.plus ⟨H,B,bN 0 ss vs,λ_ _=>False⟩ a) rfl rfl (λb z=>?_) rfl (λb z=>.inl z) kp λb z=>?_
   .rcases z with z|z;.exact .inl z
    .exact .inr ⟨.inr z,%[z|n5]⟩
   .rcases z with z|z;.obtain⟨o,e⟩:=k.bd b z;exact x.there b o e
    .rw[z];exact o.some
end
def n9(G:DF):Prop:=∀ss r aH,G ss=some (r,aH)->aH.length=ss.length/\∀(j:Nat),(∀d,ss[j]?=some (.own d)->∃d',aH[j]?=some (.own d'))/\∀d,ss[j]?=some (.pure d)->∃d',aH[j]?=some (.pure d')
theorem Q_{fb}(hG:∀ss y,G ss=some y->eC fb n ss=some y):n9 G:=λss r aH h=>by have:=hG ss _ h;unfold eC at this;cases e:fb (aX n ss)with|exc x δx=>rw[e]at this;cases this|stuck=>rw[e]at this;cases this|ok fl δ=>rw[e]at this;simp only at this;cases e1:bW fl with|none=>rw[e1]at this;cases this|some r'=>rw[e1]at this;simp only[Wz]at this;cases e2:bj 0 ss δ with|none=>rw[e2]at this;cases this|some os=>
    rw[e2]at this;cases this;obtain⟨h1,h2⟩:=qC e2;refine⟨h1,λj=>⟨λd ed=>?_,λd ed=>?_⟩⟩
    .rcases h2 j _ ed with⟨d',z,_⟩|⟨d',d'',_,_,z⟩;.cases z
     .exact⟨d'',z⟩
    .rcases h2 j _ ed with⟨d',z,z'⟩|⟨d',d'',z,_⟩;.exact⟨d',z'⟩
     .cases z
section
variable{k:Nat}
theorem xA{ps:List Str}(hK:n9 G){Q:VK}(hl:as.length=n)(h:tD c (aA G as) σ H Q):v7 (qz n G) [] E0 (tX c as) σ H Q:=by
 obtain⟨δ,kk,q⟩:=h;unfold aA at q;split at q
 .rename_i hc;rw[Wo]at hc;have nd:=xt hc.2;rw[bh]at q;refine⟨δ,kk,λi hi=>?_,aN q λds δ1 q1 vs H1 a1 r1=>?_⟩
  .have:=Q8.mp hc.1 i (lN.mpr hi);unfold bH at this;split at this;.rename_i d ed;exact qd kk ed
   .cases this
  .cases em:bD as ds δ1 with|none=>rw[em]at q1;exact q1.elim|some ss=>rw[em]at q1;simp only at q1;cases eg:G ss with|none=>rw[eg]at q1;exact q1.elim|some y=>obtain⟨r,aH⟩:=y;rw[eg]at q1;have jm:=D0 a1.ok r1 em nd;obtain⟨m1,m2,_⟩:=ub r1 em;obtain⟨g1,g2⟩:=hK ss r aH eg;refine⟨ss,_,by rw[WV,<-m2];exact hl,%[WV|jm],r,aH,eg,λv H2 a2 r2=>?_⟩;rw[WV]at a2 r2;obtain⟨o1,o2⟩:=xy a1.ok r1 em nd rfl a2 (λj d ed=>(g2 j).1 d ed) λj d ed=>(g2 j).2 d ed;exact q1 v H2 (a1.trans o1) (aY.back (o2 v r r2) a1)
 .exact q.elim
theorem Ra(F:bJ X.prog X.w X.K X.mg X.base k x n G)(hK:n9 G)(hr:b_ k X.A)(hg:Gl X x)(ha:SX X c (e::es) as)(hl:as.length=n)(dm:(x==("__debug__":Str))=false:=by decide)(he:W7 (e::es) X.env=(false,eval e X.env)::W7 es X.env:=by rfl)(bu:(WO pos (W7 es X.env)).any (·.1)=false:=by rfl):SE X c (.Call (.Name x pp) (e::es) [] pos) (aA G as):=by obtain⟨f,fd,ps,hm,hk,hb,ok⟩:=F;exact PE.weak (BJ ok hr hg hm hk hb .nil Ck ha dm he bu) λσ H Q h=>xA (ps:=ps) hK hl h
end
def cf(np:List Nat)(n:Nat)(b:DS):DF:=λss=>if bO np 0 ss then eC b n ss else none
theorem qE(h:cf np n b ss=some y):bO np 0 ss=true/\eC b n ss=some y:=by
 unfold cf at h;split at h;.rename_i hi;exact⟨hi,h⟩
 .cases h
theorem xB:n9 (cf np n b):=Q_ λ_ _ h=>(qE h).2
theorem mS(r:b_ k A):A.units+64<WD:=by have:=r.un;lia
theorem D9(h:Np c np)(hc:cs.all (λi=>!np.contains i)=true):∀p∈c.pin,p.1∉cs:=λp hp z=>by have h1:=h p hp;grind
def ug:List Str->Bool|[]=>true|x::r=>!r.contains x&&ug r
theorem D_:∀{l:List Str},ug l=true->l.Nodup|[],_=>.nil|x::r,h=>by simp only[ug,Wo,JI]at h;exact List.nodup_cons.mpr ⟨λhm=>by have:=h.1;simp at this;exact this hm,D_ h.2⟩
def iC(names:List (Str×NameKind))(x:Str)(k:NameKind):Bool:=match names.lookup x with|some j=>j==k|none=>false
theorem xC(h:iC names x k=true):names.lookup x=some k:=by
 unfold iC at h;split at h;.rename_i j e;rw[e,eq_of_beq h]
 .cases h
def Ea(names:List (Str×NameKind))(N:List Str)(sc:List (Str×NameKind))(cs:List Nat):Bool:=sc.all (λx=>!x.2==.local||iC sc x.1 .local)&&sc.all (λx=>!x.2==.free||(iC names x.1 .cell||iC names x.1 .free))&&ug (sc.map (·.1))&&(WM N.length).all λi=>match N[i]? with|some x=>!(iC sc x .local||iC sc x .cell)||cs.contains i|none=>true
theorem Rb(h:names.lookup x=some k):iC names x k=true:=by unfold iC;rw[h];simp
theorem Eb{X:Cx}{scope:Scope}{cs:List Nat}(hk:scope.kind=.function)(h:Ea X.env.scope.names X.N scope.names cs=true):mB X scope cs:=by
 unfold Ea at h;simp only[Wo]at h;obtain⟨⟨⟨h1,h2⟩,h3⟩,h4⟩:=h;refine⟨hk,λx hx hl=>?_,λx hx hf=>?_,D_ h3,λi x hi hl=>?_⟩;.have:=Q8.mp h1 x hx;rw[hl]at this;exact xC (~~~this)
 .have:=Q8.mp h2 x hx;rw[hf]at this;have:iC X.env.scope.names x.1 .cell=true\/iC X.env.scope.names x.1 .free=true:= ~~~this;exact this.elim (λz=>.inl (xC z)) λz=>.inr (xC z)
 .have xo:i<X.N.length:=(W8.mp hi).1;have:=Q8.mp h4 i (List.mem_range.mpr xo);rw[hi]at this;have iO:(iC scope.names x .local||iC scope.names x .cell)=true:=by grind[Rb]
  grind
theorem Rc:kF K "int":=⟨rfl,rfl,rfl,rfl,rfl,rfl,rfl⟩
theorem Rf:kF K "bool":=⟨rfl,rfl,rfl,rfl,rfl,rfl,rfl⟩
theorem Rg:kF K "tuple":=⟨rfl,rfl,rfl,rfl,rfl,rfl,rfl⟩
def n_:Expr->Bool|.Starred ..=>false|_=>true
theorem qF(h:n_ e=true):W7 (e::es) env=(false,eval e env)::W7 es env:=by
 cases e<;>first|(cases h;done)|rw[W7]|rfl
 all_goals(intros;contradiction)
section
variable{f:DE}{g:DA}
theorem Rh(ha:SE X c e f)(hr:SA X c es g)(hs:n_ e=true:=by rfl):SA X c (e::es) (ak f g):=Dh ha hr (qF hs)
theorem Ri(ha:SE X c e fe)(hr:SX X c es as)(hs:n_ e=true:=by rfl):SX X c (e::es) (.val fe::as):=P5 ha hr (qF hs)
theorem Rj(ha:PE X e (dZ i))(hr:SX X c es as)(hs:n_ e=true:=by rfl):SX X c (e::es) (.io i::as):=P6 ha hr (qF hs)
end
mutual def jn:Nat->Expr->Option D|_,.Constant (.int i) _ _=>some (.int i)|_,.Constant (.bool b) _ _=>some (.bl b)|_,.Constant .none _ _=>some .aJ|_,.Constant (.str x) _ _=>some (.str x.cps.toList)|n+1,.Tuple es _ _=>if es.length<=1000 then(lP n es).map .tup else none|_,_=>none def lP:Nat->List Expr->Option (List D)|_,[]=>some []|n,e::es=>match jn n e,lP n es with|some d,some ds=>some (d::ds)|_,_=>none end
theorem Rk:∀{n:Nat}{e:Expr}{d:D},jn n e=some d->n_ e=true:=λ{n e d}h=>by cases e<;>first|rfl|(cases n<;>simp[jn]at h)
theorem Ec{k:Const}{a:Nat}{b:Pos}{d:D}(h:jn n (.Constant k a b)=some d):SE X c (.Constant k a b) (eD d):=by cases k<;>cases n<;>simp[jn]at h<;>subst h<;>first|exact CF|exact CG|exact CI|exact CJ _ (CB _)
theorem xD(ih:∀{e:Expr}{d:D},jn n e=some d->SE X c e (eD d)):∀{es:List Expr}{ds:List D},lP n es=some ds->SA X c es λδ=>.ok ds δ
 |[],ds,h=>by simp only[lP,Wd]at h;subst h;exact Dg|e::es,ds,h=>by
  simp only[lP]at h;split at h;.rename_i d en h1 h2;cases h;exact Dh (ih h1) (xD ih h2) (qF (Rk h1))
  .cases h
theorem Ed:∀{e:Expr}{d:D},jn n e=some d->SE X c e (eD d):=by induction n with
 |zero=>intro e d h;cases e<;>first|exact Ec h|(simp[jn]at h;done)
 |succ n ih=>
 intro e d h;cases e<;>first|exact Ec h|(simp[jn]at h;done)|skip
 simp only[jn]at h;split at h;.rename_i es _ _ hl;cases e:lP n es with|none=>rw[e]at h;cases h|some ds=>rw[e]at h;simp only[WP,Wd]at h;subst h;exact Dk (xD ih e) hl
 .cases h
theorem Rl(h:lP n es=some ds):SA X c es λδ=>.ok ds δ:=xD Ed h
def kK(ds:List D):DE:=λδ=>.ok (.own (.lst ds)) δ
theorem Rm{d:D}(h:jn 9 e=some d):SE X c e (eD d):=Ed h
theorem Rn(h:lP 9 es=some ds)(hl:es.length<=1000):SE X c (.List es pos) (kK ds):=Dm (Rl h) hl
theorem Ro{i:Int}(hg:Gl X x)(hm:∃t,X.mg x=some (.int i t))(hd:(x==("__debug__":Str))=false:=by decide):SE X c (.Name x pos) (eD (.int i)):=by obtain⟨t,h⟩:=hm;exact N1 hg h hd
theorem Rp(he:SE X c e fe)(hs:QN e none pos.line X.env=pure false:=by rfl):SS X c (.Expr e pos) (kG fe):=Pj he (λ_=>hs) trivial (Bm he hs)
theorem Rq{o:Expr}{apos br:Pos}(ho:PE X o (dZ i))(he:SE X c e fe)(iq:QL o "append" X.env (eval o X.env)=eval o X.env:=by rfl)(ir:((WO br (W7 [e] X.env)).all (λx=>!x.1)&&(backToKw br (JG [] X.env)).all (λx=>x.1.isSome)&&decide ([e].length+([]:List Keyword).length+(if([]:List Keyword).isEmpty then 0 else 1)<30))=true:=by rfl)(fA:(apos.endLine==br.line)=true:=by rfl)(hs:W7 [e] X.env=(false,eval e X.env)::W7 [] X.env:=by rfl)(qa:QN (.Call (.Attribute o "append" apos) [e] [] br) none pos.line X.env=pure false:=by rfl):SS X c (.Expr (.Call (.Attribute o "append" apos) [e] [] br) pos) (bG i fe):=Pk (p0:=apos) ho he (Bm (nM J0 PySem.F.slot_list_append PySem.F.type_list_append Cb ho (dU he fH hs) iq ir fA hs rfl) qa)
def xE(K:W2):Bool:=K.all λp=>match p.2.cls with|.type t=>!t=="list"|_=>true
theorem Ee[BEq α][LawfulBEq α]:∀{K:List (α×β)}{a:α}{o:β},K.lookup a=some o->(a,o)∈K|[],a,o,e=>by simp at e|(b,o')::r,a,o,e=>by rw[WK]at e;cases hb:a==b with|true=>rw[hb]at e;have h1:o'=o:=WG e;have h2:a=b:=eq_of_beq hb;rw[h1,h2];exact Wt|false=>rw[hb]at e;exact Wm _ (Ee e)
theorem Rr{o:Obj}(h:xE K=true)(e:K.lookup a=some o)(hc:o.cls=.type "list"):False:=by have hm:(a,o)∈(K:List (Addr×Obj)):=Ee e;have h1:=Q8.mp h (a,o) hm;have h2:(match o.cls with|.type t=>!t=="list"|_=>true)=true:=h1;rw[hc]at h2;have h3:!("list":String)=="list"=true:=h2;rw[beq_self_eq_true]at h3;cases h3
def xF(x:Str):It:=⟨λi _=>i<x.cps.size,λi H y H'=>H'=H/\∃c,x.cps[i]?=some c/\y=.str ⟨#[c]⟩,λi _=>i=x.cps.size⟩
theorem Rt(x:Str)(t:Tok)(it:Addr)(T:String)(hT:T="str_ascii_iterator"\/T="str_iterator"):Turn P w K tg (xF x) [it] it λi h=>h.IsStrIter it T x t i:=by
 have W:∀A:Wh,A.handled=none->Walks P w A it [it] [it] x.cps.size (SignAt x) λi h=>h.IsStrIter it T x t i:=λA hh=>by
  rcases hT with rfl|rfl;.exact Walks.strAscii hh it x t
  .exact Walks.strWide hh it x t
 refine⟨U',λi h st b hb=>?_,λi h h' st k=>?_,?_,?_,λA i s Q E st h=>?_⟩;.have e:b=it:= ~~~hb;subst e;obtain⟨o,e,c,d⟩:=st;exact⟨o,e,λv z=>by rw[d]at z;cases z⟩
 .obtain⟨o,e,r⟩:=st;exact⟨o,k it U' o e,r⟩
 .intro X hP hw hK hc i pins s σ H E I hf st hg;subst hP hw hK;obtain⟨f0,f1,f2,f3,f4,f5⟩:=hf it U';refine(W X.A (I.ok.hd hc)).item i s _ _ hg st λv h' tk hv cL kk=>?_;obtain⟨c,u,hx,rfl⟩:=hv;have I1:Inv X pins σ H {s with heap:=h',toks:=tk}:=I.turned (λb o hb e=>kk b o (~~~hb) e) f0 f1 f3 f4 f5;obtain⟨o,e,c',d⟩:=id cL;refine⟨_,rfl,sr (s:={s with heap:=h',toks:=tk}) e c' d (by rcases hT with rfl|rfl<;>decide) ⟨.str ⟨#[c]⟩,H,I1,⟨u,rfl⟩,⟨rfl,c,hx,rfl⟩,cL,λb hb=>(hf b hb).1⟩⟩
 .intro X hP hw hK hc i pins s σ H E I hf st hg;subst hP hw hK;have sW:i=x.cps.size:=hg;subst sW;obtain⟨f0,f1,f2,f3,f4,f5⟩:=hf it U';exact(W X.A (I.ok.hd hc)).done s _ _ st λh' tk eb=>⟨rfl,I.turned (λb o hb e=>eb b o (~~~hb) e) f0 f1 f3 f4 f5⟩
 grind[wpAny_pyIter_striter_ascii,wpAny_pyIter_striter_wide]
def Ru(K:W2)(tl:TE):TI:=λσ H R=>tl σ H λx H1=>(∃a,x=.ref a/\(∃xs,cU K H1 a xs)/\R (vS K a) H1)\/(∃a,x=.ref a/\(∃xs,df K H1 a xs)/\R (vU K a) H1)\/∃z,x=.str z/\R (xF z) H1
theorem Rv{l:Expr}{tl:TE}(hl:PE X l tl):PI X tg l (Ru X.K tl):=by
 intro pins s σ H R I h;refine aP (hl pins s σ H _ I h) λv s1 hh=>?_;obtain⟨x,H1,I1,r1,q1⟩:=hh;rcases q1 with q1|q1|⟨z,e,q⟩;.obtain⟨a,e,⟨xs,hq⟩,q⟩:=q1;subst e;cases r1;obtain⟨its,rv,p,hz⟩:=I1.list hq;refine wpAny_pyIter_list p.isList ?_;refine⟨s1.heap.objs.size,[s1.heap.objs.size],_,_,H1,rfl,I1.kept (t':=s1.toks) λb o e=>W6 _ e,L5 a _,⟨_,Wj _ rfl,rfl,rfl⟩,λb hb=>?_,q⟩;have e:b=s1.heap.objs.size:= ~~~hb;subst e;exact I1.jG (We _) (I1.az.fresh (We _))
 .obtain⟨a,e,⟨xs,hq⟩,q⟩:=q1;subst e;cases r1;obtain⟨its,rv,p,hz⟩:=I1.tuple hq;refine wpAny_pyIter_tuple (show s1.heap.IsTuple a its.toArray from p) ?_;refine⟨s1.heap.objs.size,[s1.heap.objs.size],_,_,H1,rfl,I1.kept (t':=s1.toks) λb o e=>W6 _ e,L6 a _,⟨_,Wj _ rfl,rfl,rfl⟩,λb hb=>?_,q⟩;have e:b=s1.heap.objs.size:= ~~~hb;subst e;exact I1.jG (We _) (I1.az.fresh (We _))
 .subst e;obtain⟨t,rfl⟩:=r1;refine wpAny_pyIter_strU ?_;have hT:Jr z="str_ascii_iterator"\/Jr z="str_iterator":=by
   unfold Jr;split;.exact .inl rfl
   .exact .inr rfl
  refine⟨s1.heap.objs.size,[s1.heap.objs.size],_,_,H1,rfl,I1.kept (t':=s1.toks) λb o e=>W6 _ e,Rt z t _ _ hT,⟨_,Wj _ rfl,rfl,rfl⟩,λb hb=>?_,q⟩;have e:b=s1.heap.objs.size:= ~~~hb;subst e;exact I1.jG (We _) (I1.az.fresh (We _))
theorem Rw(z:Tx):mM c σ δ H (xF (toS z)) (z.map λn=>D.str [n]):=by intro H2 kp;have hsz:(toS z).cps.size=z.length:=#v[toS];refine⟨by show(z.map _).length=_;rw[hsz];simp,λi d e=>?_⟩;rw[Wu]at e;cases ez:z[i]? with|none=>rw[ez]at e;cases e|some n=>rw[ez]at e;cases e;have hi:i<z.length:=(W8.mp ez).1;refine⟨by show i<_;rw[hsz];exact hi,λx H3⟨e3,cc,hc,hx⟩=>.inl ⟨e3,?_⟩⟩;have:(toS z).cps[i]?=z[i]?:=#v[toS];rw[this,ez]at hc;cases hc;rw[hx];exact .str [n]
def aS(f:DE):DI:=λδ=>(f δ).bind λr δ1=>match r.d with|.lst ds=>.ok ds δ1|.tup ds=>.ok ds δ1|.str x=>.ok (x.map λn=>.str [n]) δ1|_=>.stuck
theorem Rx(he:SE X c e fe):SI X c tg e (aS fe):=PI.weak (Rv he) λσ H R⟨δ,k,q⟩=>by
 unfold aS at q;rw[bh]at q;refine⟨δ,k,aN q λr δ1 q1 v H1 a1 r1=>?_⟩;have rr:=r1.rep;generalize r.d=d at q1 rr;cases d<;>first|exact q1.elim|skip
 .cases rr;exact .inr (.inr ⟨_,rfl,q1 _ H1 a1 (Rw _)⟩)
 .cases rr with|tup h1 h2 h3 h4=>exact .inr (.inl ⟨_,rfl,⟨_,.of h2⟩,q1 _ H1 a1 (Pm _ h2 (λz=>h1 (.inr z)) ⟨h3,h4⟩)⟩)
 .cases rr with|lst h1 h2 h3 h4=>refine .inl ⟨_,rfl,⟨_,.inl h2⟩,q1 _ H1 a1 ?_⟩;intro H2 kp;rename_i a vs;have h5:Rd H2 a (.lst vs):=Rd.keep h2 λo e=>kp a o e λz=>h1 (.inr z);have r':aF H1 (Av c σ δ1) vs _:=⟨h3,h4⟩;refine⟨⟨vs,.inl h5,%[r'.1|We _]⟩,λi d e=>?_⟩;obtain⟨v,ev,rv⟩:=r'.get e;refine⟨⟨vs,v,.inl h5,ev⟩,λx H3⟨e3,y⟩=>.inl ⟨e3,?_⟩⟩;have:=y vs (.inl h5);grind
theorem Ry(a:Int)(t:Tok)(l:Addr)(dd:Option Addr)(items:Array Value)(n:Nat)(sl:Array (Option Value)):Meets (Builtin.«int.__rmul__» ⟨[.int a t,.ref l],[]⟩) λ_ R s=>s.heap.get? l=some {cls:=.type "tuple",dict:=dd,data:=.seq items n,slots:=sl}/\R (.ok (.ret Value.notImplemented)) s:=.of_wp λprog w A R s h=>by obtain⟨hp,g,d,tk,os⟩:=s;obtain⟨hl,h⟩:=h;wp_walk;exact⟨_,rfl,h⟩
theorem Rz:fillsNumberSlot (.type "tuple") "mul"=pure false:=PySem.fillsNumberSlot_seq (id:="tuple.__mul__") (r:=some (.builtin "tuple.__rmul__")) F.slot_tuple_mul.lookup Re F.slot_tuple_rmul.lookup Re
theorem RA:seqRepeat? (.type "tuple")=pure (some (.builtin "tuple.__mul__")):=by unfold seqRepeat?;rw[PySem.seqSlot_of (T:="tuple") (name:="__mul__") (id:="tuple.__mul__") F.slot_tuple_mul.lookup Re,PySem.seqSlot_of (T:="tuple") (name:="__rmul__") (id:="tuple.__rmul__") F.slot_tuple_rmul.lookup Re];rfl
theorem RB(l:Addr)(dd:Option Addr)(items:Array Value)(n:Nat)(sl:Array (Option Value))(x:Int)(u:Tok)(h1:¬(decide (x< -2^63)||decide (x≥2^63))=true)(h2:¬(items.isEmpty||x==1)=true)(h3:¬(decide (x<=0)||items.isEmpty)=true)(h4:¬items.size*x>(2^63-1)/8)(h5:¬Builtin.Tuple.tupleTooMany (items.size*x)=true)(h6:((Wc x.toNat items).foldl (.++.) #[]).size<=Wa):Meets (Builtin.«tuple.__mul__» ⟨[.ref l,.int x u],[]⟩) (λ_ R s=>s.heap.get? l=some {cls:=.type "tuple",dict:=dd,data:=.seq items n,slots:=sl}/\R (.ok (.ret (.ref s.heap.objs.size))) {s with heap:=s.heap.push {cls:=.type "tuple",data:=.seq ((Wc x.toNat items).foldl (.++.) #[])}}):=.of_wp λprog w A R s h=>by
 obtain⟨hp,g,d,tk,os⟩:=s;obtain⟨hl,h⟩:=h;wp_walk;rw[if_neg h1];wp_walk;try rw[if_neg h2]
 try wp_walk
 try rw[if_neg h3]
 try wp_walk
 try rw[if_neg h4]
 try wp_walk
 try rw[if_neg h5]
 try wp_walk
 exact⟨_,rfl,h⟩
theorem xG(its:List α):∀(k:Nat)(acc:List α),List.foldl (λx1 x2:Array α=>x1++x2) acc.toArray (Wc k its.toArray)=(acc++(Wc k its).flatten).toArray|0,acc=>by simp|k+1,acc=>by rw[QI,JB,show acc.toArray++its.toArray=(acc++its).toArray by simp,xG its k];simp[QI]
def Ef(K:W2):R2:=λx y H Q=>∃l k xs,x=.ref l/\y=.int k/\df K H l xs/\xs≠[]/\2<=k/\k<=1000000/\xs.length*k.toNat<=Wa/\∀p,H p=none->Q (.ref p) (upd H p (.tup (Wc k.toNat xs).flatten))
theorem RC:bZ X (Qv .Mult) (Ef X.K):=by
 intro pins s σ H x y v u Q I rx ry h;obtain⟨l,k,xs,rfl,rfl,hH,cQ,h1,h2,hz,q⟩:=h;cases rx;obtain⟨t,rfl⟩:=ry;obtain⟨its,r,pl,hl⟩:=I.tuple hH;obtain⟨⟨cls,dd,data,sl⟩,ho,hc,n,hd⟩:=id pl;simp only at hc hd;subst hc hd;have hlen:its.toArray.size=xs.length:=%[Wr|r.length.symm];have og:its.toArray.isEmpty=false:=by cases its with|nil=>exact absurd (r.sC.mp rfl) cQ|cons a b=>rfl
 have fA:Wa=16777216:=rfl;have hk:(k.toNat:Int)=k:=by lia
 have hmul:((its.toArray.size:Nat):Int)*k=((xs.length*k.toNat:Nat):Int):=by rw[hlen,Int.natCast_mul,hk]
 have Eg:List.foldl (λx1 x2=>x1++x2) #[] (Wc k.toNat its.toArray)=(Wc k.toNat its).flatten.toArray:=by have:=B9 its k.toNat [];rw[WQ]at this;exact this
 refine wpAny_binaryOp_repeat_ref (T:="tuple") (U:="int") Z' ⟨_,ho,rfl⟩ (λs'=>typeIs_int s' k t) Rz F.fills_int_mul F.slot_int_rmul RA F.slot_int_index.lookup (Jp F.slot_int_rmul (typeIs_int s k t) F.entry_int_rmul (F.args_int_rmul_2 _ _) (Ry k t l dd its.toArray n sl) ⟨ho,rfl,⟨_,ho,rfl⟩,Jp F.slot_tuple_mul ⟨_,ho,rfl⟩ F.entry_tuple_mul (F.args_tuple_mul_2 _ _) (RB l dd its.toArray n sl k t ?_ ?_ ?_ ?_ ?_ ?_) ⟨ho,?_⟩⟩);.simp;lia
 .rw[og];simp;lia
 .rw[og];simp;lia
 .rw[hmul];lia
 .rw[hmul];unfold Builtin.Tuple.tupleTooMany;rw[fA]at hz;generalize xs.length*k.toNat=m at hz;simp only[fA,decide_eq_true_eq];lia
 .rw[Eg,Wr,wo,<-r.length,Nat.mul_comm];exact hz
 .rw[Eg];have I1:Inv X pins σ (upd H s.heap.objs.size (.tup (Wc k.toNat xs).flatten)) {s with heap:=s.heap.push {cls:=.type "tuple",data:=.seq (Wc k.toNat its).flatten.toArray}}:=I.laid (t':=s.toks) (λb o e=>W6 _ e) (We _) (show bE X.prog X.w _ _ _ (.tup (Wc k.toNat xs).flatten)from⟨%[wo,Nat.mul_comm|hz],(Wc k.toNat its).flatten,r.rep k.toNat,iK.new _ _⟩);exact⟨.ref _,_,I1,rfl,q _ (I.az.fresh (We _))⟩
def Eh:R2:=λx y H Q=>∃z k,x=.str z/\y=.int k/\2<=k/\k<=1000000/\0<z.length/\z.length*k.toNat<=Wa/\Q (.str ⟨(Wc k.toNat z.cps).foldl (.++.) #[]⟩) H
theorem RD:bZ X (Qv .Mult) Eh:=by
 intro pins s σ H x y v u Q I rx ry h;obtain⟨z,k,rfl,rfl,h1,h2,h0,hz,q⟩:=h;obtain⟨t,rfl⟩:=rx;obtain⟨t',rfl⟩:=ry;have fA:Wa=16777216:=rfl;have c1:¬k<1:=by lia
 have c2:(k==1||z.length==0)=false:=by simp;lia
 refine PySem.P.mul_str V' (λ_ _=>?_) (λ_ _=>?_) ?_
 .have hm:(z.length:Int)*k<=16777216:=by
   have:(z.length:Int)*k=((z.length*k.toNat:Nat):Int):=by rw[Int.natCast_mul,show(k.toNat:Int)=k by lia]
   rw[this];rw[fA]at hz;lia
  have:(z.length:Int)<=(2^63-1)/k:=(Int.le_ediv_iff_mul_le Y').mpr Y';lia
 .unfold Builtin.Str.tooLong;rw[fA]at hz;generalize z.length*k.toNat=m at hz;simp only[fA,decide_eq_false_iff_not];lia
 .rw[if_neg c1,if_neg (by rw[c2];simp)];have hsz:((Wc k.toNat z.cps).foldl (.++.) #[]).size=k.toNat*z.length:=by have h:=xG z.cps.toList k.toNat [];simp only[WQ,Array.toArray_toList]at h;rw[h,Wr,wo];simp[Str.length]
  exact⟨by show((Wc k.toNat z.cps).foldl (.++.) #[]).size<=_;rw[hsz,Nat.mul_comm];exact hz,.str _,H,I.tok _,⟨_,rfl⟩,q⟩
noncomputable def cS:D->D->Option S|.int i,.int j=>nV (.int i) (.int j)|.str x,.int k=>if 2<=k/\k<=1000000/\0<x.length/\x.length*k.toNat<=Wa then some (.pure (.str (Wc k.toNat x).flatten))else none|.tup xs,.int k=>if 2<=k/\k<=1000000/\0<xs.length/\xs.length*k.toNat<=Wa then some (.pure (.tup (Wc k.toNat xs).flatten))else none|_,_=>none
def Ei(K:W2):R2:=λx y H Q=>rI pM (λi j=>V.int (i*j)) x y H Q\/Eh x y H Q\/Ef K x y H Q
theorem Ej:bZ X (Qv .Mult) (Ei X.K):=Mh.or (RD.or RC)
theorem aF.rep(h:aF H O vs ds):∀k:Nat,aF H O (Wc k vs).flatten (Wc k ds).flatten|0=>.nil|k+1=>%[QI,QI,Jm,Jm|h.append (aF.rep h k)]
theorem Ek:da (Ei K) cS:=by
 intro c σ δ H x y d e s Q k rx ry hp q;cases d<;>cases e<;>first|(simp[cS]at hp;done)|skip
 .exact .inl (OH c σ δ H x y _ _ s Q k rx ry hp q)
 .rename_i z n;simp only[cS]at hp;split at hp
  .rename_i h;cases hp;refine .inr (.inl ⟨toS z,n,rx.str,ry.int,h.1,h.2.1,%[jM|h.2.2.1],%[jM|h.2.2.2],?_⟩);have e:(⟨(Wc n.toNat (toS z).cps).foldl (.++.) #[]⟩:Str)=toS (Wc n.toNat z).flatten:=by unfold toS;congr 1;have:=xG z n.toNat [];rw[WQ]at this;exact this
   rw[e];exact q _ H (.refl k) (.str _)
  .cases hp
 .rename_i ds n;simp only[cS]at hp;split at hp
  .rename_i h;cases hp;obtain⟨a,vs,ex,ha,r⟩:=rx.tup;refine .inr (.inr ⟨a,n,vs,ex,ry.int,.of ha,?_,h.1,h.2.1,%[r.1|h.2.2.2],λp g_=>?_⟩);.intro z;rw[z]at r;have:=r.1;simp at this;lia
   .exact q _ _ (.alloc k g_ _) (aY.nQ k (aF.rep r _) g_)
  .cases hp
theorem aY.newD(k:Ok c σ δ H)(hp:H p=none):aY c σ δ H (upd H p (.dK [])) (.ref p) (.own (.bU [])):=by refine⟨p,rfl,⟨[],bL,rfl,λi p q e=>by simp at e⟩,λz=>k.gZ hp (.inl z),k.jN hp,k.plus hp _,hp⟩
def kL:DE:=λδ=>.ok (.own (.bU [])) δ
theorem RE:SE X c (.Dict [] [] pos) kL:=PE.weak Nk λσ H Q⟨δ,k,q⟩=>λp hp=>q _ _ (.alloc k hp _) (aY.newD k hp)
section
variable{a x y:Expr}{f g fa:DE}{p p2:Pos}
def RF(neg:Bool)(fa f g:DE):DE:=λδ=>(fa δ).bind λv δ1=>(f δ1).bind λlo δ2=>(g δ2).bind λhi δ3=>match v.d,lo.d,hi.d with|.int i,.int l,.int h=>.ok (.pure (.bl (if neg then !(decide (l<=i)&&decide (i<h))else decide (l<=i)&&decide (i<h)))) δ3|_,_,_=>.stuck
end
theorem El:entryFor table "dict.update.loop"=some Builtin.«dict.update.loop»:=entryFor_of_tree (by kernel_rfl)
theorem oh:plainId "dict.update.loop"=true:=by decide+kernel
theorem RG:JS (.type "tuple") "keys"=pure none:=by rw[JE,QR];kernel_rfl
theorem RH:JS (.type "list") "keys"=pure none:=by rw[JE,QR];kernel_rfl
set_option maxRecDepth 8000 in theorem RI{Q xs}(hx:s.heap.get? a=some o)(hc:o.cls=.type "tuple")(qG:o.data=.seq xs k)(hd:o.dict=none)(hA:A.handled=none)(h:∀h' tk,(∀b ob,s.heap.get? b=some ob->h'.get? b=some ob)->Q none {s with heap:=h',toks:=tk}):W4 (model prog w) A (getAttr? (.ref a) "keys") Q E s:=by
 obtain⟨c,bU,dat,sl⟩:=o;simp only at hc qG hd;subst hc qG hd;obtain⟨hp,g,d,tk,os⟩:=s;have hT:∀jo,(⟨hp,g,d,jo,os⟩:W1).TypeIs (.ref a) "tuple":=λ_=>⟨_,hx,rfl⟩;have f1:=sub_AttributeError;have f3:=F.slot_tuple_getattribute.lookup;have f4:=F.slot_tuple_getattribute.bind (.ref a);have f5:=am_tuple_getattr_none;have uh:=RG;unfold getAttr? getAttrBy? getAttrBy;repeat(any_goals(first|assumption|exact hT _|((with_reducible show W4 _ _ (call (Value.builtin "tuple.__getattribute__") _ _) _ _ _);refine Jp F.slot_tuple_getattribute (hT _) am_entry_tuple_getattribute (F.args_tuple_getattribute_2 _ _) (meets_getattribute_miss_tuple a xs k sl "keys" _ uh Re) ⟨hx,hA,λh' jo e jQ=>?_⟩)|wp_step))
 obtain⟨t',u',he⟩:=jQ.there;show W4 _ _ (Jd _ _ _ _ _ _ _) _ _ _;unfold Jd;repeat(any_goals(first|assumption|wp_step))
 exact h _ _ jQ.keeps
set_option maxRecDepth 8000 in theorem RJ{Q xs}(hx:s.heap.get? a=some o)(hc:o.cls=.type "list")(qG:o.data=.seq xs k)(hd:o.dict=none)(hA:A.handled=none)(h:∀h' tk,(∀b ob,s.heap.get? b=some ob->h'.get? b=some ob)->Q none {s with heap:=h',toks:=tk}):W4 (model prog w) A (getAttr? (.ref a) "keys") Q E s:=by
 obtain⟨c,bU,dat,sl⟩:=o;simp only at hc qG hd;subst hc qG hd;obtain⟨hp,g,d,tk,os⟩:=s;have hT:∀jo,(⟨hp,g,d,jo,os⟩:W1).TypeIs (.ref a) "list":=λ_=>⟨_,hx,rfl⟩;have f1:=sub_AttributeError;have f3:=F.slot_list_getattribute.lookup;have f4:=F.slot_list_getattribute.bind (.ref a);have f5:=am_list_getattr_none;have uh:=RH;unfold getAttr? getAttrBy? getAttrBy;repeat(any_goals(first|assumption|exact hT _|((with_reducible show W4 _ _ (call (Value.builtin "list.__getattribute__") _ _) _ _ _);refine Jp F.slot_list_getattribute (hT _) am_entry_list_getattribute (F.args_list_getattribute_2 _ _) (meets_getattribute_miss_list a xs k sl "keys" _ uh Re) ⟨hx,hA,λh' jo e jQ=>?_⟩)|wp_step))
 obtain⟨t',u',he⟩:=jQ.there;show W4 _ _ (Jd _ _ _ _ _ _ _) _ _ _;unfold Jd;repeat(any_goals(first|assumption|wp_step))
 exact h _ _ jQ.keeps
def gh(kps:List (Key×V))(acc:List (Key×V)):List (Key×V):=kps.foldl (λa kv=>putK a kv.1 kv.2) acc
theorem Em{R:Result->W1->Prop}{s:W1}{dl:Addr}{i:Int}{t0:Tok}(hn:W4 (model prog w) A.in1 (Jk (.ref it)) (λr s1=>∃(q:Addr)(k v:Value)(n:Nat),r=some (.ref q)/\s1.heap.get? q=some {cls:=.type "tuple",dict:=none,data:=.seq #[k,v] n,slots:=#[]}/\W4 (model prog w) A.in1 (dictSet dl k v) (λ_ s2=>QH (model prog w) A (.builtin "dict.update.loop" ⟨[.ref dl,.ref it,WZ (i+1),.none],[]⟩) R s2) (λ_ _=>False) s1) (λ_ _=>False) s):QH (model prog w) A (.builtin "dict.update.loop" ⟨[.ref dl,.ref it,.int i t0,.none],[]⟩) R s:=by
 refine U5 El ?_;rw[Around.under_plainId oh _];show W4 _ A.in1 (Jk (.ref it)>>=_) _ _ s;refine W0 (WR hn (λr s1 hr=>?_) (by grind));obtain⟨q,k,v,n,rfl,hq,hd⟩:=hr;dsimp only;refine W0 ?_;try with_reducible refine WB ?_
 refine W0 (wpAny_tryCatch ?_);have hT:s1.TypeIs (.ref q) "tuple":=⟨_,hq,rfl⟩;unfold Builtin.Dict.pairItems;refine W0 (Jc hT ?_);rw[if_pos Z'];refine W0 ?_;unfold seqItems?;refine W0 (wpAny_load hq (W5 ?_));refine W5 ?_;show W4 _ A.in1 (holding [k,v] (dictSet dl k v)) _ _ s1;try with_reducible refine WB ?_
 refine WR hd (λ_ s2 h2=>?_) (by grind);exact W5 ⟨JX oh _,h2⟩
theorem En{i:Int}(hn:W4 (model prog w) A.in1 (Jk (.ref it)) (λr s1=>r=none/\R (.ok (.ret .none)) s1) (λ_ _=>False) s):QH (model prog w) A (.builtin "dict.update.loop" ⟨[.ref dl,.ref it,.int i t0,.none],[]⟩) R s:=by refine U5 El ?_;rw[Around.under_plainId oh _];show W4 _ A.in1 (Jk (.ref it)>>=_) _ _ s;refine W0 (WR hn (λr s1 hr=>?_) (by grind));obtain⟨rfl,hd⟩:=hr;dsimp only;show W4 _ A.in1 (Builtin.Dict.addKeywords dl []>>=_) _ _ s1;exact W0 (W5 (W5 hd))
theorem Rd.sub{u}(h:Rd H a u)(k:∀b o,H b=Option.some o->H' b=Option.some o):Rd H' a u:=by
 rcases h with h|⟨o,h⟩;.exact .inl (k _ _ h)
 .exact .inr ⟨o,k _ _ h⟩
def ui(H:Hp)(ys:List V)(kps:List (Key×V)):Prop:=ys.length=kps.length/\∀(i:Nat)y kv,ys[i]?=some y->kps[i]?=some kv->∃q,y=.ref q/\H q=some (.tup [kV kv.1,kv.2])
theorem Eo:∀(kps acc:List (Key×V)),(gh kps acc).length<=acc.length+kps.length|[],acc=>We _|kv::r,acc=>by have h1:=Eo r (putK acc kv.1 kv.2);have h2:=sI acc kv.1 kv.2;show(gh r (putK acc kv.1 kv.2)).length<=_;simp only[Q4];lia
theorem RK(kps:List (Key×V))(kv:Key×V)(acc:List (Key×V)):gh (kps++[kv]) acc=putK (gh kps acc) kv.1 kv.2:=by unfold gh;rw[List.foldl_append];rfl
theorem Ep{ys:List V}(hP:ui H ys kps)(gy:H dl=none)(hz:kps.length<=Wa)(item:∀(i:Nat)(y:V)(H':Hp)(s:W1)(Q:Option Value->W1->Prop),(∀b o,H b=some o->H' b=some o)->H' it=none->Inv X pins σ H' s->tn i s.heap->ys[i]?=some y->(∀u s',RelV y u->Inv X pins σ H' s'->tn (i+1) s'.heap->Q (some u) s')->W4 (model X.prog X.w) A.in1 (Jk (.ref it)) Q (λ_ _=>False) s)(done:∀(H':Hp)(s:W1)(Q:Option Value->W1->Prop),(∀b o,H b=some o->H' b=some o)->H' it=none->Inv X pins σ H' s->tn ys.length s.heap->(∀s',Inv X pins σ H' s'->Q none s')->W4 (model X.prog X.w) A.in1 (Jk (.ref it)) Q (λ_ _=>False) s)(keep:∀(i:Nat)(h h':Heap),tn i h->(∀o,h.get? it=some o->h'.get? it=some o)->tn i h')(hit:H it=none)(cQ:it≠dl)(hR:∀s',Inv X pins σ (upd H dl (.dK (gh kps []))) s'->R (.ok (.ret .none)) s'):∀(k i:Nat)(s:W1)(j:Int)(t0:Tok),ys.length-i=k->i<=ys.length->Inv X pins σ (upd H dl (.dK (gh (kps.take i) []))) s->tn i s.heap->QH (model X.prog X.w) A (.builtin "dict.update.loop" ⟨[.ref dl,.ref it,.int j t0,.none],[]⟩) R s:=by
 have up:∀(acc:List (Key×V))b o,H b=some o->upd H dl (.dK acc) b=some o:=λacc b o e=>%[aI (eK e gy)|e];have lh:∀acc:List (Key×V),upd H dl (.dK acc) it=none:=λacc=>%[aI cQ|hit]
 intro k;induction k with|zero=>
 intro i s j t0 hk hi I st;have e:i=ys.length:=by lia
 subst e;rw[hP.1,Ja (We _)]at I;refine En (done _ s _ (up _) (lh _) I st λs' I'=>⟨rfl,hR s' I'⟩)|succ k ih=>
 intro i s j t0 hk hi I st;have bq:i<ys.length:=by lia
 have hJ:i<kps.length:=by rw[<-hP.1];exact bq
 obtain⟨q,ey,hq⟩:=hP.2 i ys[i] kps[i] #v[bq] #v[hJ];have main:∀s1,Inv X pins σ (upd H dl (.dK (gh (kps.take i) []))) s1->tn (i+1) s1.heap->∃(kk vv:Value)(n:Nat),s1.heap.get? q=some {cls:=.type "tuple",dict:=none,data:=.seq #[kk,vv] n,slots:=#[]}/\RelV (kV kps[i].1) kk/\RelV kps[i].2 vv:=λs1 I1 _=>by obtain⟨_,its,r,n,e⟩:=show bE X.prog X.w _ s1.heap q (.tup [kV kps[i].1,kps[i].2])from I1.az q _ (up _ q _ hq);obtain⟨u,v,rfl,r1,r2⟩:=Vals.two r;exact⟨u,v,n,e,r1,r2⟩
 refine Em (item i ys[i] _ s _ (up _) (lh _) I st #v[bq] λu s' ru I' cL=>?_);rw[ey]at ru;cases ru;obtain⟨kk,vv,n,e,r1,r2⟩:=main s' I' cL;refine⟨q,kk,vv,n,rfl,e,?_⟩;obtain⟨z,hd,vs,rel,dd⟩:=wu I'.az bL;have iB:vs.length<=Wa:=by rw[<-rel.length];exact z
 have hl:(putK (gh (kps.take i) []) kps[i].1 kps[i].2).length<=Wa:=by have h1:=sI (gh (kps.take i) []) kps[i].1 kps[i].2;have h2:=Eo (kps.take i) [];simp at h2;lia
 refine wpAny_dictSet_pairs (hsz:=iB) (mw r1) dd λh' mx hs=>?_;have he:∃q,h'.get? dl=some q:=let⟨q,_,_,hq,_⟩:=mx;⟨q,hq⟩;have I2:=pZ (t':=s'.toks+1) I' %[bL|True.intro] hs he (Cf hl hd (rel.put kps[i].1 r2) mx);rw[mj]at I2;have et:kps.take (i+1)=kps.take i++[kps[i]]:=by simp_all
 rw[show putK (gh (kps.take i) []) kps[i].1 kps[i].2=gh (kps.take (i+1)) []by rw[et,RK]]at I2;exact ih (i+1) _ (j+1) _ Y' bq I2 (keep (i+1) _ _ cL λo eo=>(hs.2 it cQ).trans eo)
theorem RL(hc:X.calm=true):fF X (.type "dict") λxs H Q=>∃p ys kps,xs=[.ref p]/\(H p=some (.tup ys)\/Rd H p (.lst ys))/\ui H ys kps/\kps.length<=Wa/\∀l,H l=none->Q (.ref l) (upd H l (.dK (gh kps []))):=by
 intro pins s σ H xs us Q I r h;obtain⟨p,ys,kps,rfl,hp,hP,hz,q⟩:=h;obtain⟨u,rfl,rx⟩:=gS r;cases rx;have hA:X.A.handled=none:=I.ok.hd hc;refine callType_codes (Q₁:=λobj s₁=>obj=.ref s.heap.objs.size/\s₁={s with heap:=s.heap.push {cls:=.type "dict",data:=.dict #[]}}) F.kt_called_dict (F.kt_typeCall_dict_1 _) F.entry_dict_init (kt_code_dict_new _ ⟨rfl,rfl⟩) ?_;rintro obj s₁⟨rfl,rfl⟩;have gy:H s.heap.objs.size=none:=I.az.fresh (We _);have I1:Inv X pins σ (upd H s.heap.objs.size (.dK [])) {s with heap:=s.heap.push {cls:=.type "dict",data:=.dict #[]}}:=I.laid (t':=s.toks) (λ_ _ q=>W6 _ q) (We _) (Cg s.heap I.big);generalize hdd:s.heap.objs.size=dl at gy I1;have up:∀(acc:List (Key×V))b o,H b=some o->upd H dl (.dK acc) b=some o:=λacc b o e=>%[aI (eK e gy)|e];have qH:({s with heap:=s.heap.push {cls:=.type "dict",data:=.dict #[]}}:W1).TypeIs (.ref dl) "dict":=⟨_,by rw[<-hdd];exact Wj _ rfl,rfl⟩;refine⟨qH,F.args_dict_init_2 _ _,?_⟩;unfold Builtin.«dict.__init__»;refine W0 ?_;unfold Builtin.Dict.selfAndRest;refine W0 (wpAny_notOrdered_dict qH ?_);show W4 _ _ (pure (dl,[Value.ref p])) _ _ _;refine W5 ?_;show W4 _ _ (Jy "dict.__init__" dl (.ref p) [] .none) _ _ _;unfold Jy;have fin:∀s',Inv X pins σ (upd H dl (.dK (gh kps []))) s'->EP X pins σ Q (.ref dl) s':=λs' I'=>⟨.ref dl,_,I',rfl,q dl gy⟩;rcases hp with hp|hp
 .obtain⟨_,its,r,n,e⟩:=show bE X.prog X.w _ (s.heap.push {cls:=.type "dict",data:=.dict #[]}) p (.tup ys)from I1.az p _ (up _ p _ hp);refine W0 (Jc ⟨_,e,rfl⟩ ?_);rw[if_pos Z'];refine W0 (RI e rfl rfl rfl hA λh' tk kp=>?_);rw[if_pos (show(none:Option Value).isNone=true from rfl)];refine W0 (QX ?_);have I2:Inv X pins σ (upd H dl (.dK [])) {s with heap:=h',toks:=tk}:=I1.kept kp;have xH:h'.IsTuple p its.toArray:=⟨_,kp _ _ e,rfl,n,rfl⟩;refine W0 (wpAny_pyIter_tuple (s:={s with heap:=h',toks:=tk}) xH ?_);refine W5 ⟨JX oh _,?_⟩;have fK:upd H dl (.dK []) h'.objs.size=none:=I2.az.fresh (We _);have cQ:h'.objs.size≠dl:=λz=>by grind[bL]
  have hit:H h'.objs.size=none:=by rw[aI cQ]at fK;exact fK
  have fp:∀H':Hp,H' h'.objs.size=none->fw X pins H' h'.objs.size:=λH' hn=>I2.jG (We _) hn;refine Ep (X:=X) (pins:=pins) (σ:=σ) (H:=H) (dl:=dl) (it:=h'.objs.size) (ys:=ys) (kps:=kps) (tn:=λi h=>h.IsTupleIter h'.objs.size p i) hP gy hz ?_ ?_ (λi h h2 st k=>st.at k) hit cQ (λs' I'=>⟨rfl,fin s' I'⟩) ys.length 0 _ 0 _ (Nat.sub_zero _) (Qh _) ?_ ?_;.intro i y H' s' Q' sub hn I' st hy k;obtain⟨_,its2,r2,n2,e2⟩:=show bE X.prog X.w _ s'.heap p (.tup ys)from I'.az p _ (sub p _ hp);obtain⟨v,hv,rv⟩:=r2.get hy;obtain⟨f0,f1,f2,f3,f4,f5⟩:=fp H' hn;refine wpAny_pyNext_tuple_item st (items:=its2.toArray) ⟨_,e2,rfl,n2,rfl⟩ (x:=v) (~~~hv) λh3 ll sb=>?_;exact k v {s' with heap:=h3} rv (I'.turned (t':=s'.toks) (λb o hb e=>(sb.2 b hb).trans e) f0 f1 f3 f4 f5) ll
  .intro H' s' Q' sub hn I' st k;obtain⟨_,its2,r2,n2,e2⟩:=show bE X.prog X.w _ s'.heap p (.tup ys)from I'.az p _ (sub p _ hp);obtain⟨f0,f1,f2,f3,f4,f5⟩:=fp H' hn;have mH:=r2.length;exact wpAny_pyNext_tuple_end (show X.A.in1.in1.handled=none from hA) st (items:=its2.toArray) ⟨_,e2,rfl,n2,rfl⟩ V' λh3 eb=>k {s' with heap:=h3} (I'.turned (t':=s'.toks) (λb o hb e=>eb b o hb e) f0 f1 f3 f4 f5)
  .exact I2.kept (t':=tk) λb o e=>W6 _ e
  .exact⟨_,Wj _ rfl,rfl,rfl⟩
 .obtain⟨_,its,n,r,e⟩:=show bE X.prog X.w _ (s.heap.push {cls:=.type "dict",data:=.dict #[]}) p (.lst ys)from(Rd.sub hp (up _)).ok I1.az;refine W0 (Jc ⟨_,e,rfl⟩ ?_);rw[if_pos Z'];refine W0 (RJ e rfl rfl rfl hA λh' tk kp=>?_);rw[if_pos (show(none:Option Value).isNone=true from rfl)];refine W0 (QX ?_);have I2:Inv X pins σ (upd H dl (.dK [])) {s with heap:=h',toks:=tk}:=I1.kept kp;have xH:h'.IsList p its.toArray:=⟨_,kp _ _ e,rfl,n,rfl⟩;refine W0 (wpAny_pyIter_list (s:={s with heap:=h',toks:=tk}) xH ?_);refine W5 ⟨JX oh _,?_⟩;have fK:upd H dl (.dK []) h'.objs.size=none:=I2.az.fresh (We _);have cQ:h'.objs.size≠dl:=λz=>by grind[bL]
  have hit:H h'.objs.size=none:=by rw[aI cQ]at fK;exact fK
  have fp:∀H':Hp,H' h'.objs.size=none->fw X pins H' h'.objs.size:=λH' hn=>I2.jG (We _) hn;refine Ep (X:=X) (pins:=pins) (σ:=σ) (H:=H) (dl:=dl) (it:=h'.objs.size) (ys:=ys) (kps:=kps) (tn:=λi h=>h.IsListIter h'.objs.size p i) hP gy hz ?_ ?_ (λi h h2 st k=>st.at k) hit cQ (λs' I'=>⟨rfl,fin s' I'⟩) ys.length 0 _ 0 _ (Nat.sub_zero _) (Qh _) ?_ ?_;.intro i y H' s' Q' sub hn I' st hy k;obtain⟨_,its2,n2,r2,e2⟩:=show bE X.prog X.w _ s'.heap p (.lst ys)from(Rd.sub hp sub).ok I'.az;obtain⟨v,hv,rv⟩:=r2.get hy;obtain⟨f0,f1,f2,f3,f4,f5⟩:=fp H' hn;refine wpAny_pyNext_list_item st (items:=its2.toArray) ⟨_,e2,rfl,n2,rfl⟩ (x:=v) (~~~hv) λh3 ll sb=>?_;exact k v {s' with heap:=h3} rv (I'.turned (t':=s'.toks) (λb o hb e=>(sb.2 b hb).trans e) f0 f1 f3 f4 f5) ll
  .intro H' s' Q' sub hn I' st k;obtain⟨_,its2,n2,r2,e2⟩:=show bE X.prog X.w _ s'.heap p (.lst ys)from(Rd.sub hp sub).ok I'.az;obtain⟨f0,f1,f2,f3,f4,f5⟩:=fp H' hn;have mH:=r2.length;exact wpAny_pyNext_list_end (show X.A.in1.in1.handled=none from hA) st (items:=its2.toArray) ⟨_,e2,rfl,n2,rfl⟩ V' λh3 eb=>k {s' with heap:=h3} (I'.turned (t':=s'.toks) (λb o hb e=>eb b o hb e) f0 f1 f3 f4 f5)
  .exact I2.kept (t':=tk) λb o e=>W6 _ e
  .exact⟨_,Wj _ rfl,rfl,rfl⟩
def fB(ar:List (cy×D))(k:cy):Option D:=(ar.find? λkv=>decide (kv.1=k)).map (·.2)
def putD(ar:List (cy×D))(k:cy)(v:D):List (cy×D):=if(ar.any λkv=>decide (kv.1=k))=true then ar.map λkv=>if kv.1=k then(kv.1,v)else kv else ar++[(k,v)]
def mT(kps acc:List (cy×D)):List (cy×D):=kps.foldl (λa kv=>putD a kv.1 kv.2) acc
theorem RM{j}(h:eM k=eM j):k=j:=by
 cases k<;>cases j<;>simp[eM]at h;.rw[h]
 .rw[qb h]
def DR(H:Hp)(O:Addr->Prop):List (Key×V)->List (cy×D)->Prop|[],[]=>True|p::ws,q::ds=>p.1=eM q.1/\Rep H O p.2 q.2/\DR H O ws ds|_,_=>False
theorem DR.of:∀{ws:List (Key×V)}{ds:List (cy×D)},ws.map (·.1)=ds.map (λp=>eM p.1)->(∀(i:Nat)p q,ws[i]?=some p->ds[i]?=some q->Rep H O p.2 q.2)->DR H O ws ds|[],[],_,_=>trivial|[],_::_,h,_=>by simp at h|_::_,[],h,_=>by simp at h|p::ws,q::ds,h,k=>by simp only[Wf,List.cons.injEq]at h;exact⟨h.1,k 0 p q rfl rfl,DR.of h.2 λi p' q' e1 e2=>k (i+1) p' q' (~~~e1) (~~~e2)⟩
theorem DR.keys:∀{ws:List (Key×V)}{ds:List (cy×D)},DR H O ws ds->ws.map (·.1)=ds.map λp=>eM p.1|[],[],_=>rfl|[],_::_,h=>h.elim|_::_,[],h=>h.elim|p::ws,q::ds,h=>by simp only[Wf,h.1,DR.keys h.2.2]
theorem DR.vals:∀{ws:List (Key×V)}{ds:List (cy×D)},DR H O ws ds->∀(i:Nat)p q,ws[i]?=some p->ds[i]?=some q->Rep H O p.2 q.2|[],[],_,i,p,q,e,_=>by simp at e|[],_::_,h,_,_,_,_,_=>h.elim|_::_,[],h,_,_,_,_,_=>h.elim|p::ws,q::ds,h,i,p',q',e1,e2=>by cases i with|zero=>simp at e1 e2;subst e1 e2;exact h.2.1|succ i=>exact DR.vals h.2.2 i p' q' (~~~e1) (~~~e2)
theorem DR.map:∀{ws:List (Key×V)}{ds:List (cy×D)},DR H O ws ds->(∀v d,Rep H O v d->Rep H' O' v d)->DR H' O' ws ds|[],[],_,_=>trivial|[],_::_,h,_=>h.elim|_::_,[],h,_=>h.elim|p::ws,q::ds,h,k=>⟨h.1,k _ _ h.2.1,DR.map h.2.2 k⟩
theorem mU(h:p=eM q):p=eM k↔q=k:=⟨λe=>RM (by rw[<-h];exact e),by grind⟩
theorem DR.any:∀{ws:List (Key×V)}{ds:List (cy×D)}(k:cy),DR H O ws ds->(ws.any λkv=>decide (kv.1=eM k))=ds.any λkv=>decide (kv.1=k)|[],[],_,_=>rfl|[],_::_,_,h=>h.elim|_::_,[],_,h=>h.elim|p::ws,q::ds,k,h=>by rw[Qj,Qj,DR.any k h.2.2];congr 1;exact decide_eq_decide.mpr (mU h.1)
theorem DR.val{H O}:∀{ws:List (Key×V)}{ds:List (cy×D)}(k:cy),DR H O ws ds->fB ds k=none/\fZ ws (eM k)=none\/∃v d,fB ds k=some d/\fZ ws (eM k)=some v/\Rep H O v d
 |[],[],_,_=>.inl ⟨rfl,rfl⟩|[],_::_,_,h=>h.elim|_::_,[],_,h=>h.elim|p::ws,q::ds,k,h=>by
  by_cases e:q.1=k;.have e':=(mU h.1).mpr e;exact .inr ⟨p.2,q.2,#v[fB,WW,e],sG e',h.2.1⟩
  .have e':¬p.1=eM k:=λz=>e ((mU h.1).mp z);have ev:fB (q::ds) k=fB ds k:=#v[fB,WW,e];rw[ev,sH e'];exact DR.val k h.2.2
theorem DR.append:∀{ws Er:List (Key×V)}{ds en:List (cy×D)},DR H O ws ds->DR H O Er en->DR H O (ws++Er) (ds++en)|[],_,[],_,_,h'=>h'|[],_,_::_,_,h,_=>h.elim|_::_,_,[],_,h,_=>h.elim|p::ws,_,q::ds,_,h,h'=>⟨h.1,h.2.1,DR.append h.2.2 h'⟩
theorem DR.store:∀{ws:List (Key×V)}{ds:List (cy×D)}{k:cy}{v:V}{d:D},DR H O ws ds->Rep H O v d->DR H O (ws.map λkv=>if kv.1=eM k then(kv.1,v)else kv) (ds.map λkv=>if kv.1=k then(kv.1,d)else kv)
 |[],[],_,_,_,_,_=>trivial|[],_::_,_,_,_,h,_=>h.elim|_::_,[],_,_,_,h,_=>h.elim|p::ws,q::ds,k,v,d,h,r=>by
  refine⟨?_,?_,DR.store h.2.2 r⟩
  .by_cases e:q.1=k;.dsimp only;rw[if_pos ((mU h.1).mpr e),if_pos e];exact h.1
   .dsimp only;rw[if_neg λz=>e ((mU h.1).mp z),if_neg e];exact h.1
  .by_cases e:q.1=k;.dsimp only;rw[if_pos ((mU h.1).mpr e),if_pos e];exact r
   .dsimp only;rw[if_neg λz=>e ((mU h.1).mp z),if_neg e];exact h.2.1
theorem DR.put{ds}(h:DR H O ws ds)(r:Rep H O v d):DR H O (putK ws (eM k) v) (putD ds k d):=by
 unfold putK putD;rw[DR.any k h];split;.exact DR.store h r
 .exact DR.append h ⟨rfl,r,trivial⟩
theorem DR.kM:∀{kps:List (Key×V)}{uj:List (cy×D)}{ws:List (Key×V)}{ds:List (cy×D)},DR H O kps uj->DR H O ws ds->DR H O (gh kps ws) (mT uj ds)|[],[],_,_,_,h=>h|[],_::_,_,_,h,_=>h.elim|_::_,[],_,_,h,_=>h.elim|p::kps,q::uj,ws,ds,h,h'=>by show DR H O (gh kps (putK ws p.1 p.2)) (mT uj (putD ds q.1 q.2));rw[h.1];exact DR.kM h.2.2 (DR.put h' h.2.1)
noncomputable def eY:D->Option cy|.int i=>some (.inl i)|.str x=>some (.inr x)|_=>none
theorem Es(h:eY d=some k)(r:Rep H O v d):v=kV (eM k):=by cases d<;>simp[eY]at h<;>subst h<;>cases r<;>rfl
theorem xI(h:eY d=some k)(r:c7 c σ δ H v d):v=kV (eM k):=by
 rcases r with r|⟨a,rfl,r⟩;.exact Es h r
 .cases d<;>simp[eY]at h<;>exact r.elim
noncomputable def iW:List D->Option (List (cy×D))
 |[]=>some []|.tup [k,v]::r=>match eY k,iW r with|some k',some r'=>some ((k',v)::r')|_,_=>none
 |_::_=>none
noncomputable def gi:D->Option S|.lst ds=>(iW ds).bind λps=>if ps.length<=Wa then some (.own (.bU (mT ps [])))else none|.tup ds=>(iW ds).bind λps=>if ps.length<=Wa then some (.own (.bU (mT ps [])))else none|_=>none
theorem xJ:∀{ds:List D}{vs:List V}{ps:List (cy×D)},iW ds=some ps->aF H O vs ds->∃kps,ui H vs kps/\DR H O kps ps/\kps.length=ps.length
 |[],[],ps,h,_=>by simp[iW]at h;subst h;exact⟨[],⟨rfl,λi y kv e=>by simp at e⟩,trivial,rfl⟩|[],_::_,_,_,r=>by have:=r.1;simp at this|_::_,[],_,_,r=>by have:=r.1;simp at this|d::ds,v::vs,ps,h,r=>by
  unfold iW at h;split at h;.grind
  .rename_i k w r' heq;cases heq;split at h;.rename_i k' r'' hk hr;cases h;obtain⟨kps,hP,hD,hL⟩:=xJ hr r.tail;have rp:=r.head;cases rp with|tup h1 h2 h3 h4=>rename_i a us;match us,h3,h4,h2 with|[x,y],_,h4,h2=>have rk:=h4 0 x k rfl rfl;have rv:=h4 1 y w rfl rfl;have ek:=Es hk rk;subst ek;refine⟨(eM k',y)::kps,⟨#v[hP.1],λi z kv e1 e2=>?_⟩,⟨rfl,rv,hD⟩,#v[hL]⟩;cases i with|zero=>simp at e1 e2;subst e1 e2;exact⟨a,rfl,h2⟩|succ i=>exact hP.2 i z kv (~~~e1) (~~~e2)
   .cases h
  .cases h
theorem aY.Et{ds}(k:Ok c σ δ H)(hp:H p=none)(r:DR H (Av c σ δ) ws ds):aY c σ δ H (upd H p (.dK ws)) (.ref p) (.own (.bU ds)):=by
 have up:∀a w,H a=some w->upd H p (.dK ws) a=some w:=λa w e=>%[aI (eK e hp)|e];have r1:DR (upd H p (.dK ws)) (Av (c.plus p) σ δ) ws ds:=r.map λv d h=>(h.aM λb z=>by
 rcases z with(z|z)|z;.exact .inl (.inl z)
 .exact .inr %[z|hp]
 .exact .inl (.inr z)).keep λb w e _=>up b w e;exact⟨p,rfl,⟨ws,bL,r1.keys,r1.vals⟩,λz=>k.gZ hp (.inl z),k.jN hp,k.plus hp _,hp⟩
theorem RN:Qu "dict"=some (.type "dict"):=by decide+kernel
theorem RO(hc:X.calm=true)(hg:Gl X "dict")(hm:X.mg "dict"=none)(he:SB X c e fb)(hs:n_ e=true:=by rfl):SE X c (.Call (.Name "dict" pp) [e] [] pos) (aC gi fb):=xf (r:=λv H Q=>∃p ys kps,v=.ref p/\(H p=some (.tup ys)\/Rd H p (.lst ys))/\ui H ys kps/\kps.length<=Wa/\∀l,H l=none->Q (.ref l) (upd H l (.dK (gh kps [])))) (RL hc) (λv H Q⟨p,ys,kps,e,h⟩=>⟨p,ys,kps,by rw[e],h⟩) (λc σ δ H x d s Q k rx hp q=>by cases d with
 |lst ds=>simp only[gi]at hp;cases jq:iW ds with|none=>rw[jq]at hp;cases hp|some ps=>
 rw[jq]at hp;simp only[Wz]at hp;split at hp;.rename_i hz;cases hp;obtain⟨a,vs,ex,ha,r⟩:=rx.lst;obtain⟨kps,hP,hD,hL⟩:=xJ jq r;exact⟨a,vs,kps,ex,.inr ha,hP,%[hL|hz],λl hl=>q _ _ (.alloc k hl _) (aY.Et k hl (DR.kM hD (ws:=[]) (ds:=[]) trivial))⟩
 .cases hp|tup ds=>simp only[gi]at hp;cases jq:iW ds with|none=>rw[jq]at hp;cases hp|some ps=>
 rw[jq]at hp;simp only[Wz]at hp;split at hp;.rename_i hz;cases hp;obtain⟨a,vs,ex,ha,r⟩:=rx.tup;obtain⟨kps,hP,hD,hL⟩:=xJ jq r;exact⟨a,vs,kps,ex,.inl ha,hP,%[hL|hz],λl hl=>q _ _ (.alloc k hl _) (aY.Et k hl (DR.kM hD (ws:=[]) (ds:=[]) trivial))⟩
 .cases hp|_=>simp[gi]at hp) hg hm RN he Z' Z' (qF hs)
theorem Eu{ds}(r:c7 c σ δ H v (.bU ds)):∃a ws,v=.ref a/\H a=some (.dK ws)/\DR H (Av c σ δ) ws ds:=by obtain⟨a,ws,e,h,k1,k2⟩:=r.bU;exact⟨a,ws,e,h,DR.of k1 k2⟩
def xK(neg:Bool):R2:=λx y H Q=>∃a ar k,y=.ref a/\H a=some (.dK ar)/\x=kV k/\Q (.bl (if neg then !(fZ ar k).isSome else(fZ ar k).isSome)) H
theorem qaH(hu:X.A.units+64<WD):bZ X (WJ .In) (xK false):=by intro pins s σ H x y v u Q I rx ry h;obtain⟨a,ar,k,rfl,ha,rfl,q⟩:=h;cases ry;exact Nc Y' I (lx.k ha) rx λs' I'=>⟨.bl _,H,I',rfl,q⟩
theorem RP(hu:X.A.units+64<WD):bZ X (WJ .NotIn) (xK true):=by intro pins s σ H x y v u Q I rx ry h;obtain⟨a,ar,k,rfl,ha,rfl,q⟩:=h;cases ry;exact Nd Y' I (lx.k ha) rx λs' I'=>⟨.bl _,H,I',rfl,q⟩
def Ew(K:W2)(neg:Bool):R2:=λx y H Q=>xK neg x y H Q\/B7 K neg x y H Q\/∃i j,x=.str i/\y=.str j/\Q (.bl (if neg then !!(Builtin.Str.occurrences j i 0 j.length 1).isEmpty else !(Builtin.Str.occurrences j i 0 j.length 1).isEmpty)) H
theorem Ex{X:Cx}(hu:X.A.units+64<WD):bZ X (WJ .NotIn) (Ew X.K true):=(RP hu).or (M3.or Mo)
noncomputable def gG(neg:Bool)(x y:D):Option S:=match y with
 |.bU ds=>(eY x).map λk=>.pure (.bl (if neg then !(fB ds k).isSome else(fB ds k).isSome))|.str y=>match x with|.str [n]=>some (.pure (.bl (if neg then !decide (n∈y)else decide (n∈y))))|_=>none
 |.lst ds=>match x,gc ds with|.str z,some ts=>some (.pure (.bl (if neg then !ts.contains z else ts.contains z)))|_,_=>none
 |.tup ds=>match x,gc ds with|.str z,some ts=>some (.pure (.bl (if neg then !ts.contains z else ts.contains z)))|_,_=>none
 |_=>none
theorem Ey(z:Tx)(ts:List Tx):sF (V.str (toS z)) (ts.map λz=>V.str (toS z))=ts.contains z:=by unfold sF;rw[List.any_map];induction ts with|nil=>rfl|cons t r ih=>rw[Qj,Je,ih];congr 1;show(toS t==toS z)=(z==t);rw[nR,Bool.beq_comm]
theorem Ez(ts:List Tx):(ts.map λz=>V.str (toS z)).all ku=true:=by rw[List.all_map];exact List.all_eq_true.mpr λ_ _=>rfl
theorem EA{K:W2}(neg:Bool):da (Ew K neg) (gG neg):=by
 intro c σ δ H x y d e s Q k rx ry hp q;cases e<;>first|(simp[gG]at hp;done)|skip
 .rename_i z;simp only[gG]at hp;split at hp<;>first|(cases hp;done)|skip
  rename_i n;cases hp;refine .inr (.inr ⟨toS [n],toS z,rx.str,ry.str,?_⟩);rw[show toS [n]=⟨#[n]⟩from rfl,PySem.StrLaws.found_one,show(toS z).cps.toList=z by simp[toS]];exact q _ H (.refl k) (.bl _)
 .rename_i ds;simp only[gG]at hp;split at hp<;>first|(cases hp;done)|skip
  rename_i z ts ht;cases hp;obtain⟨a,vs,ea,ha,r⟩:=ry.tup;have ev:=nX ht r;refine .inr (.inl ⟨a,vs,ea,.inr (.of ha),by rw[rx.str];rfl,%[ev|Ez ts],?_⟩);rw[rx.str,ev,Ey];exact q _ H (.refl k) (.bl _)
 .rename_i ds;simp only[gG]at hp;split at hp<;>first|(cases hp;done)|skip
  rename_i z ts ht;cases hp;obtain⟨a,vs,ea,ha,r⟩:=ry.lst;have ev:=nX ht r;refine .inr (.inl ⟨a,vs,ea,.inl (.inl ha),by rw[rx.str];rfl,%[ev|Ez ts],?_⟩);rw[rx.str,ev,Ey];exact q _ H (.refl k) (.bl _)
 .rename_i ds;simp only[gG]at hp;cases hk:eY d with|none=>rw[hk]at hp;cases hp|some kk=>
   rw[hk]at hp;cases hp;obtain⟨a,ws,ea,ha,dr⟩:=Eu ry;refine .inl ⟨a,ws,eM kk,ea,ha,xI hk rx,?_⟩;have:(fZ ws (eM kk)).isSome=(fB ds kk).isSome:=by
    rcases dr.val kk with⟨e1,e2⟩|⟨v,d,e1,e2,_⟩;.rw[e1,e2];rfl
    .rw[e1,e2];rfl
   rw[this];exact q _ H (.refl k) (.bl _)
def xM:R2:=λx y H Q=>∃a ar k v,x=.ref a/\H a=some (.dK ar)/\y=kV k/\fZ ar k=some v/\Q v H
noncomputable def cx:D->D->Option S|.bU ds,k=>(eY k).bind λk=>(fB ds k).map .pure|x,y=>ao x y
theorem RQ(hu:X.A.units+64<WD):gU X xM:=by intro value slice pins s σ H x y v u Q I rx ry h hs;obtain⟨a,ar,k,w,rfl,ha,rfl,hv,q⟩:=h;cases rx;obtain⟨_,_,vs,_,dd⟩:=wu I.az ha;have hT:s.TypeIs (.ref a) "dict":=dd.typeIs;exact tail_any hT F.slot_dict_getitem.lookup (Nb (v:=w) Y' I (by rw[<-hv];exact lx.k ha) ry λw' s' I' cp=>⟨w,H,I',cp,q⟩) hs
theorem EB:da (λx y H Q=>xM x y H Q\/sE K x y H Q) cx:=by intro c σ δ H x y d e s Q k rx ry hp q;cases d with
 |bU ds=>simp only[cx]at hp;cases hk:eY e with|none=>rw[hk]at hp;cases hp|some kk=>
 rw[hk]at hp;simp only[Wz,Ww]at hp;obtain⟨dv,hv,rfl⟩:=hp;obtain⟨a,ws,ea,ha,dr⟩:=Eu rx;rcases dr.val kk with⟨e1,e2⟩|⟨v,d',e1,e2,r⟩;.grind
 .rw[e1]at hv;cases hv;exact .inl ⟨a,ws,eM kk,v,ea,ha,xI hk ry,e2,q v H (.refl k) r⟩
 |_=>exact .inr (w6 c σ δ H x y _ e s Q k rx ry hp q)
open Sem(wp)
section
open AutoSeq1(wpAny_loadPart')
theorem RS{x}{items}(hit:s.heap.IsTupleIter it l i)(hl:s.heap.IsTuple l items)(hx:items[i]?=some x)(hQ:∀h',h'.IsTupleIter it l (i+1)->Jb it s.heap h'->Q x {s with heap:=h'}):W4 (model prog w) A (WE (.ref it)) Q E s:=by obtain⟨o,ho,hc,hd⟩:=id hit;obtain⟨ol,hol,_,nl,gy⟩:=hl;unfold WE;refine W0 (Qb (name:=Str.ofString "__next__") hit.typeIs Ji (Qg Ji hit.typeIs F.entry_tuple_iterator_next ?_ (F.args_tuple_iterator_next_1 _)));show W4 _ _ (field (.ref it) 0>>=_) _ _ s;refine W0 (WF ho hd (x:=.ref l) rfl ?_);show W4 _ _ (if(Value.ref l==Value.none)=true then _ else _) _ _ s;rw[if_neg (show¬(Value.ref l==Value.none)=true from WY)];show W4 _ _ (field (.ref it) 1>>=_) _ _ s;refine W0 (WF ho hd (x:=.int i 0) rfl ?_);show W4 _ _ (seqItems? (.ref l)>>=_) _ _ s;refine W0 (Ql hol gy ?_);simp only[JJ,hx];refine W0 (Uh ho hd U' (W5 ⟨x,rfl,W5 (hQ _ ?_ (U0 ..))⟩));exact⟨_,Q3 _ ho (Obj.isFreed_of_fields (Obj.data_mapFields hd _)),(Obj.cls_mapFields ..).trans hc,by rw[Obj.data_mapFields hd];simp[WZ]⟩
theorem RT{items}(hh:A.handled=none)(hit:s.heap.IsTupleIter it l i)(hl:s.heap.IsTuple l items)(hx:items[i]?=none)(hE:∀h' e,Heap.ExtBut it s.heap h'->(∃o,h'.get? e=some o/\o.cls=.type "StopIteration")->E (.ref e) {s with heap:=h'}):W4 (model prog w) A (WE (.ref it)) Q E s:=by
 obtain⟨o,ho,hc,hd⟩:=id hit;obtain⟨ol,hol,_,nl,gy⟩:=hl;unfold WE;refine W0 (Qb (name:=Str.ofString "__next__") hit.typeIs Ji (Qg Ji hit.typeIs F.entry_tuple_iterator_next ?_ (F.args_tuple_iterator_next_1 _)));show W4 _ _ (field (.ref it) 0>>=_) _ _ s;refine W0 (WF ho hd (x:=.ref l) rfl ?_);show W4 _ _ (if(Value.ref l==Value.none)=true then _ else _) _ _ s;rw[if_neg (show¬(Value.ref l==Value.none)=true from WY)];show W4 _ _ (field (.ref it) 1>>=_) _ _ s;refine W0 (WF ho hd (x:=.int i 0) rfl ?_);show W4 _ _ (seqItems? (.ref l)>>=_) _ _ s;refine W0 (Ql hol gy ?_);simp only[JJ,hx];refine W0 (QX (W0 (Uh ho hd U' ?_)));show W4 _ _ (newExc (.type "StopIteration") []>>=_) _ _ _;refine W0 ?_;simp only[newExc,newTuple];refine W0 (QE ?_ (by size_fits));refine W0 (m:=firstArgMember _ _) (wpAny_of_eq (a:=Value.none) (by first|rfl|(simp only[firstArgMember];rfl)) ?_);refine QE ?_ (by size_fits);simp only[raiseNew];refine W0 (wpAny_handled ?_);first|rw[show A.in1.handled=none from hh]|rw[hh]
 refine W0 (W5 (wpAny_throw ?_));exact hE _ _ (((U0 ..).extBut.push _).push _) ⟨_,Wj _ rfl,rfl⟩
theorem IsTuple.at'{h:Heap}{l:Addr}(x:h.IsTuple l items)(k:∀o,h.get? l=some o->h'.get? l=some o):h'.IsTuple l items:=by obtain⟨o,ho,r⟩:=x;exact⟨o,k o ho,r⟩
theorem Draws.tuple'(hh:A.handled=none)(it l:Addr)(cQ:l≠it)(items:Array Value):Draws prog w A it [it,l] items.size (λi v=>items[i]?=some v) λi h=>h.IsTupleIter it l i/\h.IsTuple l items where
 live:=λ_ _ st=>let⟨o,ho,_⟩:=st.1;⟨o,ho⟩
 frame:=λ_ _ _ st hk=>⟨st.1.at λo e=>hk it U' o e,IsTuple.at' st.2 λo e=>hk l U' o e⟩
 item:=λi s Q E hi st hQ=>by refine RS st.1 st.2 (x:=items[i]) #v[hi] λh' RU lC=>?_;exact hQ _ h' s.toks #v[hi] ⟨RU,IsTuple.at' st.2 λo e=>(lC.2 l cQ).trans e⟩ lC
 done:=λs Q E st hE=>RT hh st.1 st.2 U' hE
end
theorem Inv.oi(fp:List Addr)(I:Inv X pins σ H s)(k:∀b o,b∉fp->s.heap.get? b=some o->h'.get? b=some o)(hf:∀b∈fp,fw X pins H b):Inv X pins σ H {s with heap:=h',toks:=t'}:=by
 have lh:∀b u,H b=some u->b∉fp:=λb u e z=>by rw[(hf b z).1]at e;cases e
 refine I.step (g':=s.gens) (d':=s.drawn) (ch:=fp) (λb hb=>?_) (λb o _ _ hc e _=>k b o hc e) (λb o _ _ hc e _=>⟨o.slots,k b o hc e⟩) (λ_ _ _ _ n=>n) (λb o hc e=>⟨o,k b o hc e⟩) (λ_ _ e=>e) (λ_ _ _ e=>e) (λb ps e=>⟨#[],by rw[e];simp⟩) (λm hm=>?_) (λb u e=>?_) I.bare;.obtain⟨f0,f1,f2,f3,f4,f5⟩:=hf b hb;exact⟨f3,f1,f4,f5⟩
 .obtain⟨o,es,ep,ho,r⟩:=hm;exact⟨o,es,ep,k _ o (λz=>(hf _ z).2.1 rfl) ho,r⟩
 .refine(I.az b u e).eG (λc v hc q=>k c v ?_ q) (λ_ q=>q) (λ_ _ q=>q) λ_ _ _ q=>q;rcases hc with z|z;.rw[z];exact lh b u e
  .exact lh c _ z
def Fc.xN(c:Fc)(i:Nat)(a:Addr):Fc:=⟨c.H₀,λb=>c.B b\/b=a,(i,a)::c.pin,c.xc⟩
theorem Own.unset(h:Own σ (δ.set i none) b):Own σ δ b:=by
 obtain⟨j,d',e1,e2⟩:=h;by_cases hj:i=j
 .subst hj;rw[WL]at e1;split at e1;.split at e1<;>cases e1
  .rename_i q;exact absurd rfl q
 .rw[W9 hj]at e1;exact⟨j,d',e1,e2⟩
theorem RV(k:Ok c σ δ H)(e:δ[i]?=some (some (.own (.lst ds))))(ea:σ[i]?=some (some (.ref a)))(b:Addr)(z:Av (c.xN i a) σ (δ.set i none) b):Av c σ δ b:=by
 rcases z with(z|z)|z;.exact .inl z
 .subst z;exact .inr ⟨i,_,e,ea⟩
 .exact .inr z.unset
theorem Ok.xN(k:Ok c σ δ H)(e:δ[i]?=some (some (.own (.lst ds))))(ea:σ[i]?=some (some (.ref a))):Ok (c.xN i a) σ (δ.set i none) H:=by
 have sub:=RV k e ea;have ne:∀j d,(δ.set i none)[j]?=some (some d)->i≠j/\δ[j]?=some (some d):=λj d q=>by
  by_cases hj:i=j;.subst hj;rw[Wl (W8.mp e).1]at q;cases q
  .rw[W9 hj]at q;exact⟨hj,q⟩
 refine⟨λb o h n=>k.keep b o h λ⟨j,z⟩=>n ⟨j,Wm _ z⟩,λb z=>?_,λb⟨j,z⟩=>?_,%[Qs|k.len],λj d q=>?_,λj d q=>?_,λj l b d d' q1 q2=>?_,λp hp=>?_⟩
 .rcases z with z|z;.exact k.bd b z
  .subst z;exact k.qc ⟨i,_,e,ea⟩
 .rcases Ws.mp z with z|z;.cases z;exact k.qc ⟨i,_,e,ea⟩
  .exact k.du b ⟨j,z⟩
 .obtain⟨_,q⟩:=ne j _ q;obtain⟨v,g1,g2⟩:=k.slot j d q;exact⟨v,g1,g2.aM λb z=>.inl (sub b z)⟩
 .obtain⟨hj,q⟩:=ne j _ q;obtain⟨b,g1,g2,g3,g4⟩:=k.own j d q;refine⟨b,g1,g2.aM λb z=>.inl (sub b z),g3.imp (λ⟨l,z⟩=>⟨l,Wm _ z⟩) id,λz=>?_⟩;rcases z with z|z;.exact g4 z
  .subst z;exact hj (k.inj i j b _ _ e q ea g1)
 .exact k.inj j l b d d' (ne j _ q1).2 (ne l _ q2).2
 .rcases Ws.mp hp with z|z;.subst z;exact ea
  .exact k.pinned p z
def qaI(i:Nat)(g:DG)(b:DS):DS:=λδ=>match δ[i]? with
 |some (some (.own (.lst ds)))=>(forL g b ds (δ.set i none)).bind λfl δ'=>match fl with|.ret (.own _)=>.stuck|fl=>.ok fl (δ'.set i (some (.own (.lst ds))))
 |_=>.stuck
section
variable{iter:Expr}{g:DG}{b:DS}
def uk(np:List Nat)(i:Nat):DS:=λδ=>match δ[i]? with|some (some (.own d))=>if np.contains i||!np.all (bH δ)then .ok (.ret (.pure d)) (δ.set i (some (.pure d)))else .ok (.ret (.own d)) (δ.set i none)|some (some (.pure d))=>.ok (.ret (.pure d)) δ|_=>.stuck
theorem RX(dD:Np c np)(he:PE X e (dZ i)):SS X c (.Return (some e) pos) (uk np i):=PS.weak (Bn he) λD σ H⟨δ,k,q⟩=>by
 unfold uk dJ at q;split at q
 .rename_i d e;obtain⟨a,ea,oa,ia,nb⟩:=k.own i d e;refine⟨.ref a,ea,?_⟩;split at q;.obtain⟨a',ea',x,r⟩:=k.give e;rw[ea]at ea';cases ea';exact q σ H x _ r
  .rename_i hc;simp only[Bool.or_eq_true,not_or,Bool.not_eq_true,Bool.not_eq_false',Q8]at hc;obtain⟨EC,hc2⟩:=hc;have nI:¬c.I a:=λ⟨j,z⟩=>by
    have z1:=dD (j,a) z;have z2:=k.pinned (j,a) z;have z3:=hc2 j (~~~z1);unfold bH at z3;split at z3;.rename_i d' ej;have:=k.inj i j a _ _ e ej ea z2;grind
    .cases z3
   have h0:c.H₀ a=none:=ia.resolve_left nI;have hi:i<δ.length:=(W8.mp e).1;have ne:∀j d,(δ.set i none)[j]?=some (some d)->i≠j/\δ[j]?=some (some d):=λj d q=>by
    by_cases hj:i=j;.subst hj;rw[Wl hi]at q;cases q
    .rw[W9 hj]at q;exact⟨hj,q⟩
   have sub:∀b,Av (c.plus a) σ (δ.set i none) b->Av c σ δ b:=λb z=>by
    rcases z with(z|z)|z;.exact .inl z
    .subst z;exact .inr ⟨i,_,e,ea⟩
    .exact .inr z.unset
   have kp:Ok (c.plus a) σ (δ.set i none) H:=by
    refine⟨k.keep,λb z=>?_,k.du,%[Qs|k.len],λj d q=>?_,λj d q=>?_,λj l b d d' q1 q2=>k.inj j l b d d' (ne j _ q1).2 (ne l _ q2).2,k.pinned⟩
    .rcases z with z|z;.exact k.bd b z
     .subst z;exact k.qc ⟨i,_,e,ea⟩
    .obtain⟨_,q⟩:=ne j _ q;obtain⟨v,g1,g2⟩:=k.slot j d q;exact⟨v,g1,g2.aM λb z=>.inl (sub b z)⟩
    .obtain⟨hj,q⟩:=ne j _ q;obtain⟨b,g1,g2,g3,g4⟩:=k.own j d q;refine⟨b,g1,g2.aM λb z=>.inl (sub b z),g3,λz=>?_⟩;rcases z with z|z;.exact g4 z
     .subst z;exact hj (k.inj i j b _ _ e q ea g1)
   have x:aK c σ δ H σ (δ.set i none) H:=by
    refine⟨⟨k.keep,k.bd,k.du,%[Qs|k.len],λj d q=>?_,λj d q=>?_,λj l b d d' q1 q2=>k.inj j l b d d' (ne j _ q1).2 (ne l _ q2).2,k.pinned⟩,λ_ _ w _=>w,λb z=>.inl z.unset,λ_ o w=>⟨o,w⟩⟩;.obtain⟨_,q⟩:=ne j _ q;obtain⟨v,g1,g2⟩:=k.slot j d q;exact⟨v,g1,g2.aM λb z=>.inl (z.elim .inl λz=>.inr z.unset)⟩
    .obtain⟨hj,q⟩:=ne j _ q;obtain⟨b,g1,g2,g3,g4⟩:=k.own j d q;exact⟨b,g1,g2.aM λb z=>.inl (z.elim .inl λz=>.inr z.unset),g3,g4⟩
   exact q σ H x _ ⟨a,rfl,oa.aM λb z=>.inl (sub b z),nb,h0,kp,h0⟩
 .rename_i d e;obtain⟨v,e1,r⟩:=k.slot i d e;exact⟨v,e1,q σ H (.refl k) v r⟩
 .exact q.elim
end
theorem ED(hu:X.A.units+64<WD):gU X λx y H Q=>xM x y H Q\/sE X.K x y H Q:=(RQ hu).or wg
open Classical in noncomputable def itAt(δ₀:Dl)(ds:List D):DI:=λδ=>if δ=δ₀ then .ok ds δ else .stuck
theorem Ok.RY{ds}(k:Ok c σ δ H)(e:δ[i]?=some (some (.own (.bU ds))))(ea:σ[i]?=some (some (.ref a)))(r:DR H (Av c σ δ) iu en):aK c σ δ H σ (δ.set i (some (.own (.bU en)))) (upd H a (.dK iu)):=by
 have hi:i<δ.length:=(W8.mp e).1;obtain⟨a',ea',oa,ia,nb⟩:=k.own i _ e;rw[ea]at ea';cases ea';obtain⟨vs,ha,_⟩:=oa;have qw:Own σ δ a:=⟨i,_,e,ea⟩;have qx:Av c σ δ a:=.inr qw;have lI:∀b,Own σ (δ.set i (some (.own (.bU en)))) b↔Own σ δ b:=λb=>by
  constructor
  .rintro⟨j,d,e1,e2⟩;by_cases hj:i=j;.subst hj;exact⟨i,_,e,e2⟩
   .rw[W9 hj]at e1;exact⟨j,d,e1,e2⟩
  .rintro⟨j,d,e1,e2⟩;by_cases hj:i=j;.subst hj;exact⟨i,_,by rw[Wl hi],e2⟩
   .exact⟨j,d,%[W9 hj|e1],e2⟩
 have jk:∀b,Av c σ (δ.set i (some (.own (.bU en)))) b->Av c σ δ b:=λb z=>z.elim .inl λz=>.inr ((lI b).mp z);have ne:∀b,¬Av c σ δ b->b≠a:=λb n z=>n %[z|qx];have kp:∀b o,H b=some o->¬Av c σ δ b->upd H a (.dK iu) b=some o:=λb o h n=>%[aI (ne b n)|h];have g9:∀b o,H b=some o->∃o',upd H a (.dK iu) b=some o':=λb o h=>by
  by_cases hb:b=a;.exact⟨_,%[hb|bL]⟩
  .exact⟨o,%[aI hb|h]⟩
 refine⟨⟨λb o h n=>?_,λb z=>?_,λb z=>?_,%[Qs|k.len],λj d h=>?_,λj d h=>?_,λj l b d d' h1 h2 h3 h4=>?_,k.pinned⟩,λb o h n=>?_,λb z=>.inl ((lI b).mp z),g9⟩
 .have hb:b≠a:=λz=>by grind
  rw[aI hb];exact k.keep b o h n
 .obtain⟨o,h⟩:=k.bd b z;exact g9 b o h
 .obtain⟨o,h⟩:=k.du b z;exact g9 b o h
 .have hj:i≠j:=λz=>by subst z;rw[Wl hi]at h;cases h
  rw[W9 hj]at h;obtain⟨v,h1,h2⟩:=k.slot j d h;exact⟨v,h1,(h2.keep kp).aM λb z=>.inl (jk b z)⟩
 .by_cases hj:i=j;.subst hj;rw[Wl hi]at h;cases h;exact⟨a,ea,let r':=r.map λv d h=>(Rep.keep h kp).aM λb z=>.inl (jk b z);⟨iu,bL,r'.keys,r'.vals⟩,ia,nb⟩
  .rw[W9 hj]at h;obtain⟨b,h1,h2,h3,h4⟩:=k.own j d h;have hb:b≠a:=λz=>by subst z;exact hj (k.inj i j b _ d e h ea h1)
   exact⟨b,h1,(h2.keep kp λo q=>%[aI hb|q]).aM λb z=>.inl (jk b z),h3,h4⟩
 .have f1:∃d,δ[j]?=some (some (.own d)):=by
   by_cases hj:i=j;.subst hj;exact⟨_,e⟩
   .rw[W9 hj]at h1;exact⟨d,h1⟩
  have f2:∃d,δ[l]?=some (some (.own d)):=by
   by_cases hj:i=l;.subst hj;exact⟨_,e⟩
   .rw[W9 hj]at h2;exact⟨d',h2⟩
  obtain⟨_,f1⟩:=f1;obtain⟨_,f2⟩:=f2;exact k.inj j l b _ _ f1 f2 h3 h4
 grind[aI]
def oj(δ:Dl)(i:Nat):Bool:=match δ[i]? with|some (some (.own (.bU _)))=>true|_=>false
def fN(i:Nat)(fi fe:DE):DS:=λδ=>if oj δ i then(fe δ).bind λr δ1=>if oj δ1 i then(fi δ1).bind λk δ2=>match δ2[i]? with
 |some (some (.own (.bU ds)))=>match eY k.d with|some kk=>if ds.length<Wa then .ok .next (δ2.set i (some (.own (.bU (putD ds kk r.d)))))else .stuck|none=>.stuck
 |_=>.stuck else .stuck else .stuck
theorem RZ(h:oj δ i=true):∃ds,δ[i]?=some (some (.own (.bU ds))):=by
 unfold oj at h;split at h;.rename_i ds e;exact⟨ds,e⟩
 .cases h
theorem R0{o:Expr}{sp:Pos}(hu:X.A.units+64<WD)(ho:PE X o (dZ i))(hi:SE X c ix fi)(he:SE X c e fe)(hs:QN e (some (.Subscript o ix sp)) pos.line X.env=pure false:=by rfl):SS X c (.Assign [.Subscript o ix sp] e pos) (fN i fi fe):=PS.weak (Ni Y' ho hi he hs) λD σ H⟨δ,k,q⟩=>by
  unfold fN dJ at q;split at q;case isFalse=>exact q.elim
  rename_i hown;rw[bh]at q;refine⟨δ,k,aN q λr δ1 q1 v H1 a1 r1=>?_⟩;split at q1;case isFalse=>exact q1.elim
  rename_i hown1;obtain⟨ds1,e1⟩:=RZ hown1;obtain⟨a,ea,_,_⟩:=a1.ok.own i _ e1;refine⟨.ref a,ea,δ1,a1.ok,?_⟩;rw[bh]at q1;refine aN q1 λkx δ2 q2 u H2 a2 r2=>?_;split at q2
  .rename_i ds e2;split at q2
   .rename_i kk hk;split at q2
    .rename_i hz;obtain⟨a',ea',oa,_⟩:=a2.ok.own i _ e2;rw[ea]at ea';cases ea';obtain⟨ws,ha,hk1,hk2⟩:=id oa;have dr:DR H2 (Av c σ δ2) ws ds:=DR.of hk1 hk2;have wN:=xI hk r2.b;subst wN;have hlen:ws.length=ds.length:=by have:=congrArg JY hk1;simpa using this
     have rv:Rep H2 (Av c σ δ2) v r.d:=Rep.dw r1.rep a2;refine⟨a,_,rfl,pY.k ha %[hlen|hz],?_⟩;exact q2 σ _ (a1.trans (a2.trans (Ok.RY a2.ok e2 ea (dr.put rv))))
    .exact q2.elim
   .exact q2.elim
  .exact q2.elim
noncomputable def jR:List D->Option (List Int)|[]=>some []|.int i::r=>(jR r).map (i::.)|_::_=>none
theorem ints_map(ns:List Int):jR (ns.map D.int)=some ns:=by induction ns with|nil=>rfl|cons n r ih=>simp[jR,ih]
def iX(h:Heap)(a C T:Addr)(dx:Option Addr)(fl:Value):Prop:=∃vs sl oT ts a0,h.get? a=some ⟨.ref C,dx,.fields vs,sl⟩/\vs[0]?=some a0/\vs[1]?=some (.ref T)/\T≠a/\h.get? T=some oT/\oT.data=.fields ts/\ts[3]?=some fl
structure xO(h h':Heap)(fs:List Addr)(a T:Addr)(old:Value):Prop where
 new:h.get? T=none
 keep:∀b o,h.get? b=some o->b≠a->old≠.ref b->b∉fs->h'.get? b=some o
 frame:∀b o,h.get? b=some o->(∀vs,o.data≠.fields vs)->∃sl,h'.get? b=some {o with slots:=sl}
theorem EE{vs Q}(fK:A.frames=some (env::outer))(hl:s.heap.FunFrames base (env::outer))(hf:env.frame=some L)(he:s.heap.get? a=some ⟨.ref C,dx,.fields vs,sl⟩)(h0:vs[0]?=some a0)(h1:1<vs.size)(q:∀h' T,iX h' a C T dx (WZ L)->xO s.heap h' ((env::outer).filterMap (·.frame)) a T .none->Q () {s with heap:=h'}):W4 M A (do let x<-frameOf env;let pl<-entryPlaceOf L b0;let y<-EntryCells.newEntry head x .none (WZ L) .none pl;setField (.ref a) 1 y) Q E s:=by
 have na:a∉(env::outer).filterMap (·.frame):=λz=>by obtain⟨_,o,g1,g2⟩:=hl.mem z;rw[he]at g1;cases g1;exact g2 vs rfl
 refine W0 (wpAny_frameOf_fun fK hl hf λhA k=>W0 (wpAny_entryPlaceOf λpl bu=>?_));unfold EntryCells.newEntry newFields;refine W0 (QE ?_ (bu.sizeOk5 _ _ _ _ _));have eA:hA.get? a=some ⟨.ref C,dx,.fields vs,sl⟩:=(k.2.1 a na).trans he;generalize dM:([head,.ref L,.none,WZ L,.none]++if pl.isEmpty then Wc 6 Value.none else pl).toArray=ts;have t3:ts[3]?=some (WZ L):=by rw[<-dM];rcases bu with rfl|⟨_,_,_,_,_,_,_,rfl⟩<;>simp
 have eB:=W6 (h:=hA) {cls:=.type "traceback",dict:=none,data:=.fields ts} eA;have nT:hA.objs.size≠a:=Qp (Wi eA);refine Uh eB rfl h1 (q _ hA.objs.size ⟨vs.setIfInBounds 1 (.ref hA.objs.size),sl,{cls:=.type "traceback",dict:=none,data:=.fields ts},ts,a0,?_,?_,?_,nT,?_,rfl,t3⟩ ⟨?_,λb o e n _ nf=>?_,λb o e d=>?_⟩);.exact Q3 _ eB rfl
 .rw[Array.getElem?_setIfInBounds_ne Z'];exact h0
 .simp[h1]
 .rw[WN _ _ (Ne.symm nT)];exact Wj hA rfl
 .cases z:s.heap.get? hA.objs.size with|none=>rfl|some o=>obtain⟨sl',z'⟩:=k.2.2 _ o z;exact absurd (Wi z') (Q7 _)
 .rw[WN _ _ (Ne.symm n)];exact W6 _ ((k.2.1 b nf).trans e)
 .have nb:b≠a:=λz=>by rw[z,he]at e;cases e;exact d vs rfl
  obtain⟨sl',z⟩:=k.2.2 b o e;exact⟨sl',%[WN _ _ (Ne.symm nb)|W6 _ z]⟩
theorem R1{vs Q}(fK:A.frames=some (env::outer))(hl:s.heap.FunFrames base (env::outer))(hf:env.frame=some L)(he:s.heap.get? a=some ⟨.ref C,dx,.fields vs,sl⟩)(h0:vs[0]?=some a0)(h1:vs[1]?=some .none)(q:∀h' T,iX h' a C T dx (WZ L)->xO s.heap h' ((env::outer).filterMap (·.frame)) a T .none->Q () {s with heap:=h'}):W4 M A (U9 (.ref a) env) Q E s:=by unfold U9;simp only[hf];refine W0 (WF he rfl h1 ?_);rw[if_neg Z'];exact EE fK hl hf he h0 (Jj.mp h1).1 q
theorem R3{Q}(fK:A.frames=some (env::outer))(hl:s.heap.FunFrames base (env::outer))(hf:env.frame=some L)(hx:iX s.heap a C T₀ dx .none)(q:∀h' T,iX h' a C T dx (WZ L)->xO s.heap h' ((env::outer).filterMap (·.frame)) a T (.ref T₀)->Q () {s with heap:=h'}):W4 M A (U9 (.ref a) env) Q E s:=by
 obtain⟨vs,sl,oT,ts,a0,e1,e2,e3,e4,e5,e6,e7⟩:=hx;unfold U9;simp only[hf];refine W0 (WF e1 rfl e3 ?_);rw[if_pos U'];refine W0 (WF e5 e6 e7 ?_);rw[if_neg #v[WZ]];refine W0 (Uh e5 e6 (Jj.mp e7).1 ?_);have iD:∀b,b≠T₀->(s.heap.update T₀ (Obj.mapFields (·.setIfInBounds 3 Value.none))).get? b=s.heap.get? b:=λb n=>WN _ _ (Ne.symm n);have EF:∀b o,s.heap.get? b=some o->(∀us,o.data≠.fields us)->b≠T₀:=λb o e d z=>by rw[z,e5]at e;cases e;exact d ts e6
 refine EE (s:={s with heap:=s.heap.update T₀ (Obj.mapFields (·.setIfInBounds 3 Value.none))}) fK (hl.of_keeps λb o e d=>⟨o,(iD b (EF b o e d)).trans e,rfl⟩) hf ((iD a (Ne.symm e4)).trans e1) e2 (Jj.mp e3).1 λh' T f n=>q h' T f ⟨?_,λb o e n1 n2 n3=>?_,λb o e d=>n.frame b o ((iD b (EF b o e d)).trans e) d⟩
 .have:=n.new;by_cases z:T=T₀;.exfalso;rw[z]at this;have g:=Q3 (h:=s.heap) (Obj.mapFields (·.setIfInBounds 3 Value.none)) e5 (Obj.isFreed_of_fields (Obj.data_mapFields e6 _));rw[this]at g;cases g
  .exact(iD T z).symm.trans this
 .exact n.keep b o ((iD b λz=>n2 (by rw[z])).trans e) n1 U' n3
theorem R4{T:Addr}{Q:Unit->W1->Prop}(hf:env.frame=some L)(hx:iX s.heap a C T dx (WZ L))(q:Q () s):W4 M A (U9 (.ref a) env) Q E s:=by obtain⟨vs,sl,oT,ts,a0,e1,e2,e3,e4,e5,e6,e7⟩:=hx;unfold U9;simp only[hf];refine W0 (WF e1 rfl e3 ?_);rw[if_pos U'];refine W0 (WF e5 e6 e7 ?_);rw[if_pos U'];exact W5 q
theorem R5{fl Q}(hx:iX s.heap a C T dx fl)(q:∀h',iX h' a C T dx (o.elim .none λf=>WZ f)->(∀b,b≠T->h'.get? b=s.heap.get? b)->Q () {s with heap:=h'}):W4 M A (setFlight (.ref a) o) Q E s:=by obtain⟨vs,sl,oT,ts,a0,e1,e2,e3,e4,e5,e6,e7⟩:=hx;have hi:=(Jj.mp e7).1;have iD:∀b,b≠T->(s.heap.update T (Obj.mapFields (·.setIfInBounds 3 (o.elim Value.none λf=>WZ f)))).get? b=s.heap.get? b:=λb n=>WN _ _ (Ne.symm n);unfold setFlight;refine W0 (WF e1 rfl e3 ?_);rw[if_pos U'];exact Uh e5 e6 hi (q _ ⟨vs,sl,_,_,a0,(iD a (Ne.symm e4)).trans e1,e2,e3,e4,Q3 _ e5 (Obj.isFreed_of_fields (Obj.data_mapFields e6 _)),Obj.data_mapFields e6 _,#v[hi]⟩ iD)
abbrev jr:List Value:=[.type "ValueError",.type "Exception",.type "BaseException",.type "object"]
def jS(K:W2)(C:Addr):Prop:=PySem.W.excIn K C jr "ValueError.__new__"=true
theorem jS.obj{h:Heap}(q:jS K C)(X:K.In h):∃(bm:List Value)(N:Addr)(nm qn:Str)(bs:List Value)(hdct:Bool)(sn:List Str)(sub:List Value)(ab:Bool)(col:Option Bool)(dd:Option Addr)(k0 k1 k2 k3 k5:Option Value)(mN:Str->Option Value),h.get? C=some (excClassObj nm qn C N bs bm hdct sn sub ab col dd k0 k1 k2 k3 k5 "ValueError.__new__")/\h.Ns N mN/\mN "__init__"=none/\OwnTail h jr bm:=by
 unfold jS PySem.W.excIn at q;split at q;next dd cd sl lk=>
  split at q;next C' bm k0 k1 k2 k3 n k5 e1 e2=>
   simp only[Wo,beq_iff_eq,JI]at q;obtain⟨⟨⟨⟨⟨c1,c2⟩,c3⟩,c4⟩,c5⟩,c6⟩:=q;subst c1;subst c2;have e3:sl=#[k0,k1,k2,k3,some (.builtin "ValueError.__new__"),k5]:=by cases sl;simp only at e2;rw[e2]
   subst e3;cases cd;simp only at e1 c3 c4 c5 c6 lk;subst e1;subst c3;exact⟨bm,_,_,_,_,_,_,_,_,_,dd,k0,k1,k2,k3,k5,_,X _ _ lk,.of_isNs (PySem.W.isNs_of_in X c5),PySem.W.nsMap_none_of_in X c5 c6,PySem.W.tail_of_in X c4⟩
  next=>cases q
 next=>cases q
def kO(P:Wg)(w:Wp):jH:=λouter H s E v s'=>∃(a C T:Addr)(dx:Option Addr)(H':Hp),v=.ref a/\s'.os=s.os/\AllBare s'.gens/\Un (eS outer) [] H H' s.heap s'.heap/\cK P w H' s'.heap/\iX s'.heap a C T dx .none/\s.heap.get? a=none/\s.heap.get? T=none/\H' a=none/\H' T=none/\E (.ref C) dx H'
section
variable{np:Pos}
theorem R6{W:St->Hp->Prop}(q:jS X.K C)(hc:X.calm=true)(hg:Gl X x)(hm:X.mg x=some (.ref C))(hd:(x==("__debug__":Str))=false)(lA:∀pins σ H s h' e,Inv X pins σ H s->W σ H->Heap.MadeExcOf s.heap h' e (.ref C) []->X.xe (.ref e) {s with heap:=h'}):PS X (.Raise (some (.Call (.Name x np) [] [] br)) none pos) λ_ σ H=>W σ H:=by intro pins s σ H D I hw;obtain⟨bm,N,nm,qn,bs,hdct,sn,sub,ab,col,dd,k0,k1,k2,k3,k5,mN,hC,hN,hi,hT⟩:=q.obj I.cO;refine wpAny_Raise_call_subT (C:=C) (nm:=nm) (q:=qn) (N:=N) (bs:=bs) (bm:=bm) (hdct:=hdct) (sn:=sn) (sub:=sub) (ab:=ab) (col:=col) (dd:=dd) (k0:=k0) (k1:=k1) (k2:=k2) (k3:=k3) (k5:=k5) (mN:=mN) PySem.F.excBase_ValueError (hT.hasType rfl) (I.ok.hd hc) rfl hi (kn I hg hm ⟨rfl,?_⟩ hd);exact evalArgs_empty ⟨rfl,Qh _,hC,hN,hT,λh' e hm=>lA pins σ H s h' e I hw hm⟩
end
theorem Inv.gone(I:Inv X pins σ H s)(hx:X.ex=[])(e:s.heap.get? b=none):H b=none/\X.s₀.heap.get? b=none:=by
 constructor;.cases q:H b with|none=>rfl|some o=>
   exfalso;have:∃u,s.heap.get? b=some u:=by have z:=I.az b o q;clear q;induction o with|lst xs=>obtain⟨_,_,_,_,e⟩:=z;exact⟨_,e⟩|tup xs=>obtain⟨_,_,_,_,e⟩:=z;exact⟨_,e⟩|dK ar=>obtain⟨_,_,_,_,_,_,_,e,_⟩:=z;exact⟨_,e⟩|dT ar=>obtain⟨_,_,_,_,_,_,_,e,_⟩:=z;exact⟨_,e⟩|set S n=>obtain⟨_,_,_,_,e,_⟩:=z;exact⟨_,e⟩|ins C dx fs=>obtain⟨_,_,_,e,_⟩:=z;exact⟨_,e⟩|own y=>exact z|xd fs=>obtain⟨_,⟨_,_,_,e,_⟩,_⟩:=z;exact⟨_,e⟩|jD lo hi=>obtain⟨_,_,_,e⟩:=z;exact⟨_,e⟩|frz ob u ih=>exact⟨_,z.1⟩|tbl ps=>exact⟨_,z⟩|ctab pos q=>obtain⟨_,e,_⟩:=z;exact⟨_,e⟩|dN ep ar=>obtain⟨_,_,_,_,e,_⟩:=z;exact⟨_,e⟩|met f y=>exact⟨_,z⟩|ext φ=>exact z.2.1
   obtain⟨u,q⟩:=this;rw[e]at q;cases q
 .cases q:X.s₀.heap.get? b with|none=>rfl|some o=>obtain⟨o',q'⟩:=I.base.there b o q (by rw[hx];simp);rw[e]at q';cases q'
structure Apart(X:Cx)(pins:List (Addr×Obj))(H:Hp)(b:Addr):Prop where
 old:X.s₀.heap.get? b=none
 free:H b=none
 loc:b≠X.env.locals
 jL:∀x c,X.env.cells.lookup x=some c->c≠b
 pin:∀p∈X.pn++pins,p.1≠b
section
variable{T:Addr}
theorem Inv.mq(I:Inv X pins σ H s)(e:X.s₀.heap.get? b=some o):b≠X.env.locals:=WA (Wy (Wi e) I.ok.above)
theorem Inv.xP(I:Inv X pins σ H s)(ha:Apart X pins H a)(hT:Apart X pins H T)(k1:∀b o,s.heap.get? b=some o->b∉eS X.stack->b≠a->b≠T->h'.get? b=some o)(k2:∀b o,s.heap.get? b=some o->b∈eS X.stack->∃sl,h'.get? b=some {o with slots:=sl}):Inv X pins σ H {s with heap:=h'}:=by
 have any:∀b o,s.heap.get? b=some o->b≠a->b≠T->∃sl,h'.get? b=some {o with slots:=sl}:=λb o e n1 n2=>by
  by_cases hb:b∈eS X.stack;.exact k2 b o e hb
  .exact⟨o.slots,k1 b o e hb n1 n2⟩
 have ne:∀b o,X.s₀.heap.get? b=some o->b≠a/\b≠T:=λb o e=>⟨λz=>(by rw[z,ha.old]at e;cases e),λz=>by rw[z,hT.old]at e;cases e⟩;have EG:∀b,b≠X.env.locals->b∉X.fs->b∉eS X.stack:=λb n1 n2 z=>(Ws.mp (I.pE b z)).elim n1 n2;have cellK:∀y c,X.env.cells.lookup y=some c->∀v,s.heap.IsCell c v->h'.IsCell c v:=λy c e v⟨o,ho,hd⟩=>by obtain⟨sl,q⟩:=any c o ho (ha.jL y c e) (hT.jL y c e);exact⟨_,q,hd⟩
 refine⟨I.ok,I.os,I.bare,⟨λb o e n hb hx=>?_,λb o e n hb hx=>?_,I.base.free,λb o e hx=>?_,I.base.iL,I.base.gO,I.base.jb⟩,?_,λy c e=>?_,I.free,I.eU,λp hp=>?_,λb o e=>?_,I.len⟩;.exact k1 b o (I.base.keep b o e n hb hx) (EG b (I.mq e) hb) (ne b o e).1 (ne b o e).2
 .obtain⟨sl,q⟩:=I.base.slot b o e n hb hx;obtain⟨sl',q'⟩:=any b _ q (ne b o e).1 (ne b o e).2;exact⟨sl',q'⟩
 .obtain⟨o',q⟩:=I.base.there b o e hx;obtain⟨sl',q'⟩:=any b _ q (ne b o e).1 (ne b o e).2;exact⟨_,q'⟩
 .obtain⟨m,⟨o,es,ep,ho,hd,r⟩,hl⟩:=I.loc;obtain⟨sl,q⟩:=any _ o ho (λz=>ha.loc z.symm) λz=>hT.loc z.symm;refine⟨m,⟨_,es,ep,q,hd,r⟩,λi y v e1 e2 e3=>?_⟩;obtain⟨u,ru,lk⟩:=hl i y v e1 e2 e3;refine⟨u,ru,lk.elim .inl λ⟨k,c,e,z⟩=>.inr ⟨k,c,e,cellK y c e _ z⟩⟩
 .obtain⟨v,z⟩:=I.cell y c e;exact⟨v,cellK y c e v z⟩
 .obtain⟨e,n,nl,nf,d⟩:=I.pin p hp;exact⟨k1 p.1 p.2 e (EG _ nl nf) (ha.pin p hp) (hT.pin p hp),n,nl,nf,d⟩
 .refine(I.az b o e).eG (λc u hc q=>k1 c u q (λz=>?_) (λz=>?_) λz=>?_) (λ_ q=>q) (λ_ _ q=>q) λ_ _ _ q=>q
  .have:=I.sf c z;rcases hc with rfl|hc;.rw[e]at this;cases this
   .rw[hc]at this;cases this
  .subst z;rcases hc with rfl|hc;.rw[ha.free]at e;cases e
   .rw[ha.free]at hc;cases hc
  .subst z;rcases hc with rfl|hc;.rw[hT.free]at e;cases e
   .rw[hT.free]at hc;cases hc
theorem Inv.xQ(I:Inv X pins σ H s)(ha:Apart X pins H a)(ob:bE X.prog X.w (upd H a o) s.heap a o):Inv X pins σ (upd H a o) s:=by
 have ne:∀{b:Addr}{u:HO},H b=some u->b≠a:=λ{b u}e z=>by rw[z,ha.free]at e;cases e
 have up:∀{b:Addr}{u:HO},H b=some u->upd H a o b=some u:=λ{b u}e=>%[aI (ne e)|e];have no:∀{b:Addr},b≠a->H b=none->upd H a o b=none:=λ{b}n e=>%[aI n|e];refine⟨I.ok,I.os,I.bare,⟨I.base.keep,I.base.slot,λb u e n hx=>no (λz=>by rw[z,ha.old]at e;cases e) (I.base.free b u e n hx),I.base.there,λb xs e=>up (I.base.iL b xs e),λb u z e=>up (I.base.gO b u z e),λb ps e=>?_⟩,I.loc,I.cell,no (Ne.symm ha.loc) I.free,λx c e=>no (ha.jL x c e) (I.eU x c e),λp hp=>?_,λb u e=>?_,I.len⟩;.obtain⟨m,q⟩:=I.base.jb b ps e;exact⟨m,up q⟩
 .obtain⟨e,n,nl,nf,d⟩:=I.pin p hp;exact⟨e,no (ha.pin p hp) n,nl,nf,d⟩
 .by_cases hb:b=a;.subst hb;rw[bL]at e;cases e;exact ob
  .rw[aI hb]at e;exact(I.az b u e).eG (λ_ _ _ q=>q) (λc q=>up q) (λc xs q=>up q) λ_ _ _ q=>up q
theorem R7{Q}(I:Inv X pins σ H s)(hN:X.N.Nodup)(hi:X.N[i]?=some x)(hk:X.env.scope.names.lookup x=some .local)(h:∀s',Inv X pins (σ.set i none) H s'->Q () s'):W4 M A (do bindName X.env x .none;unbindBehindTheSuite X.env x pos) Q E s:=by
 have pG:i<σ.length:=by rw[I.len];exact(W8.mp hi).1
 refine W0 (wpAny_bindName (sh (v:=.aJ) (u:=.none) I hN hi (.inl hk) rfl (λs1 I1 _=>?_) (.inr hk)));obtain⟨m,hn,hl⟩:=id I1.loc;obtain⟨u,ru,lk⟩:=hl i x .aJ hi (Wl pG) (.inl hk);have hv:m x=some u:=by
  rcases lk with⟨_,e⟩|⟨z,_⟩;.exact e
  .have:X.env.kindOf x=some .local:=hk;rw[this]at z;rcases z with z|z<;>cases z
 refine wpAny_onRaise (wpAny_unbindName_local hk hn hv (by rw[I.ok.kind];rfl) λh' w' gE hs=>h _ ?_);obtain⟨oL,_,_,pH,_⟩:=id hn;have iN:=I1.iN;refine⟨I1.ok,I1.os,I1.bare,⟨λb o e n hb hx=>?_,λb o e n hb hx=>?_,I1.base.free,λb o e hx=>?_,I1.base.iL,I1.base.gO,I1.base.jb⟩,⟨_,gE,λj y v' e1 e2 e3=>?_⟩,λy c e=>?_,I1.free,I1.eU,λp hp=>?_,λb ob e=>?_,~~~I.len⟩;.exact(hs.2 b (I1.mq e)).trans (I1.base.keep b o e n hb hx)
 .obtain⟨sl,q⟩:=I1.base.slot b o e n hb hx;exact⟨sl,(hs.2 b (I1.mq e)).trans q⟩
 .obtain⟨o',q⟩:=I1.base.there b o e hx;exact⟨o',(hs.2 b (I1.mq e)).trans q⟩
 .by_cases hj:j=i;.subst hj;rw[Wl pG]at e2;cases e2
  .rw[W9 (Ne.symm hj)]at e2;obtain⟨u',r',q⟩:=hl j y v' e1 %[W9 (Ne.symm hj)|e2] e3;have R8:y≠x:=λz=>hj (vO hN e1 (z▸hi));refine⟨u',r',?_⟩;rcases q with⟨k,e⟩|⟨k,c,e,z⟩;.exact .inl ⟨k,#v[R8,e]⟩
   .exact .inr ⟨k,c,e,z.sameBut hs (iN y c e)⟩
 .obtain⟨w2,z⟩:=I1.cell y c e;exact⟨w2,z.sameBut hs (iN y c e)⟩
 .obtain⟨e,n,nl,nf,d⟩:=I1.pin p hp;exact⟨(hs.2 p.1 nl).trans e,n,nl,nf,d⟩
 .refine(I1.az b ob e).eG (λc u' hc q=>(hs.2 c λz=>?_).trans q) (λ_ q=>q) (λ_ _ q=>q) λ_ _ _ q=>q;subst z;have:=I1.free;rcases hc with rfl|hc;.rw[e]at this;cases this
  .rw[hc]at this;cases this
end
theorem R9{B e:Addr}{h:Heap}{g:Array GenState}{d:Drawn}{t:Nat}{Q:Bool->W1->Prop}(X:K.In h)(qB:jS K B)(qm:PySem.W.mroIn K C (.ref B)=some true)(he:h.get? e=some oe)(hc:oe.cls=.ref C)(hq:Q true ⟨h,g,d,t,os⟩):W4 (model prog w) A (excMatches (.ref e) (.ref B)) Q E ⟨h,g,d,t,os⟩:=by
 obtain⟨bm,N,nm,qn,bs,hdct,sn,sub,ab,col,dd,k0,k1,k2,k3,k5,mN,hB,_,_,hT⟩:=qB.obj X;have cB:(Value.ref B::bm).contains (.type "BaseException")=true:=by rw[Je,hT.hasType (X:="BaseException") (b:=true) rfl,Bool.or_true]
 have lk:=PySem.W.looks_mroIn (M:=model prog w) X qm;have f:=tc_notTuple;unfold excMatches;repeat(first|with_reducible refine PySem.W.Looks.at lk ?_|(with_reducible refine Qr he ?_;rw[hc])|with_reducible refine Qr hB ?_|(with_reducible refine wpAny_isSubtype_exc hB ?_;rw[cB])|wp_step)
 exact hq
def Cx.wt(X:Cx)(pn:List (Addr×Obj))(xe:Value->W1->Prop):Cx:={X with pn:=pn,xe:=xe}
def Cx.hand(X:Cx)(a:Addr):Cx:={X with A:=X.A.mark (some (.ref a)),calm:=false,xe:=λ_ _=>False}
section
variable{ps:List (Addr×Obj)}
theorem Cx.Ok.wt(o:X.Ok):(X.wt pn xe).Ok:=⟨o.mod,o.kind,o.glob,o.blt,o.above,o.inj,o.has,o.kj,o.hd,o.frames,o.ml,o.mn,o.bs,o.gP,o.lb,o.lg,o.fQ,o.iM⟩
theorem Cx.Ok.hand(o:X.Ok):(X.hand a).Ok:=⟨o.mod,o.kind,o.glob,o.blt,o.above,o.inj,o.has,o.kj,λz=>(by cases z),o.frames,o.ml,o.mn,o.bs,o.gP,o.lb,o.lg,o.fQ,o.iM⟩
theorem Inv.wt(I:Inv X pins σ H s):Inv (X.wt (X.pn++pins) xe) [] σ H s:=⟨I.ok.wt,I.os,I.bare,I.base,I.loc,I.cell,I.free,I.eU,λp hp=>I.pin p (by simpa[Cx.wt]using hp),I.az,I.len⟩
theorem Inv.jt(o:X.Ok)(J:Inv (X.wt (X.pn++pins) xe) ps σ H s):Inv X pins σ H s:=⟨o,J.os,J.bare,J.base,J.loc,J.cell,J.free,J.eU,λp hp=>J.pin p (Jn _ hp),J.az,J.len⟩
theorem Inv.hand(I:Inv X pins σ H s):Inv (X.hand a) pins σ H s:=⟨I.ok.hand,I.os,I.bare,I.base,I.loc,I.cell,I.free,I.eU,I.pin,I.az,I.len⟩
theorem Inv.R_(o:X.Ok)(J:Inv (X.hand a) pins σ H s):Inv X pins σ H s:=⟨o,J.os,J.bare,J.base,J.loc,J.cell,J.free,J.eU,J.pin,J.az,J.len⟩
theorem Apart.jt(h:Apart (X.wt (X.pn++pins) xe) ps H a):Apart X pins H a:=⟨h.old,h.free,h.loc,h.jL,λp hp=>h.pin p (Jn _ hp)⟩
theorem SP.jt{D f}(o:X.Ok)(h:SP (X.wt (X.pn++pins) xe) ps D f s):SP X pins D f s:=by cases f with|next=>obtain⟨σ',H',J,q⟩:=h;exact⟨σ',H',Inv.jt o J,q⟩|brk=>obtain⟨σ',H',J,q⟩:=h;exact⟨σ',H',Inv.jt o J,q⟩|cont=>obtain⟨σ',H',J,q⟩:=h;exact⟨σ',H',Inv.jt o J,q⟩|ret u=>obtain⟨v,σ',H',J,r,q⟩:=h;exact⟨v,σ',H',Inv.jt o J,r,q⟩
def qI(X:Cx)(pins:List (Addr×Obj))(H:Hp)(s:W1)(a C:Addr)(dx:Option Addr):Prop:=∃T fl,iX s.heap a C T dx fl/\(fl=.none\/∃L,X.env.frame=some L/\fl=WZ L)/\Apart X pins H a/\Apart X pins H T
def um(X:Cx)(ps:List (Addr×Obj))(H:Hp)(s:W1)(a C:Addr)(dx:Option Addr):Prop:=(∃vs sl a0,s.heap.get? a=some ⟨.ref C,dx,.fields vs,sl⟩/\vs[0]?=some a0/\vs[1]?=some .none)/\Apart X ps H a
theorem Inv.apart(I:Inv X pins σ H s)(hx:X.ex=[])(e:s.heap.get? b=none)(f:H' b=none):Apart X pins H' b:=by
 refine⟨(I.gone hx e).2,f,λz=>?_,λx c hc z=>?_,λp hp z=>?_⟩;.obtain⟨m,⟨o,_,_,ho,_⟩,_⟩:=I.loc;rw[<-z,e]at ho;cases ho
 .obtain⟨v,o,ho,_⟩:=I.cell x c hc;rw[z,e]at ho;cases ho
 .have:=(I.pin p hp).1;rw[z,e]at this;cases this
section
variable{Q:Unit->W1->Prop}
theorem Inv.EH(I:Inv X pins σ H s)(cP:X.stack=X.env::X.outer)(hf:X.env.frame=some L)(hex:X.ex=[])(hc:qI X pins H s a C dx\/um X pins H s a C dx)(q:∀h' T,Inv X pins σ H {s with heap:=h'}->iX h' a C T dx (WZ L)->Apart X pins H a->Apart X pins H T->Q () {s with heap:=h'}):W4 M X.A (U9 (.ref a) X.env) Q E s:=by
 have fK:X.A.frames=some (X.env::X.outer):=by rw[<-cP];exact I.ok.frames
 have hl:s.heap.FunFrames X.base (X.env::X.outer):=by rw[<-cP];exact I.stack
 have mem:∀{b},b∈eS X.stack->∃o,s.heap.get? b=some o/\∀vs,o.data≠.fields vs:=λ{b}z=>let⟨_,o,g1,g2⟩:=I.stack.mem z;⟨o,g1,g2⟩;rcases hc with⟨T,fl,f,gW,pa,pT⟩|⟨⟨vs,sl,a0,e1,e2,e3⟩,pa⟩
 .rcases gW with rfl|⟨L',e,rfl⟩;.refine R3 fK hl hf f λh' T' f' n=>?_;refine q h' T' (I.xP pa pT (λb o z m n1 n2=>n.keep b o z n1 (λw=>n2 (by cases w;rfl)) (by rw[<-cP];exact m)) λb o z m=>?_) f' pa (I.apart hex n.new (I.gone hex n.new).1);obtain⟨o',g1,g2⟩:=mem m;rw[z]at g1;cases g1;exact n.frame b o z g2
  .rw[hf]at e;cases e;exact R4 hf f (q s.heap T I f pa pT)
 .refine R1 fK hl hf e1 e2 e3 λh' T' f' n=>?_;refine q h' T' (I.xP pa pa (λb o z m n1 n2=>n.keep b o z n1 (λw=>by cases w) (by rw[<-cP];exact m)) λb o z m=>?_) f' pa (I.apart hex n.new (I.gone hex n.new).1);obtain⟨o',g1,g2⟩:=mem m;rw[z]at g1;cases g1;exact n.frame b o z g2
theorem Inv.xR{A:Wh}{o:Option Addr}{fl:Value}(I:Inv X pins σ H s)(f:iX s.heap a C T dx fl)(pT:Apart X pins H T)(q:∀h',Inv X pins σ H {s with heap:=h'}->iX h' a C T dx (o.elim .none λf=>WZ f)->Q () {s with heap:=h'}):W4 M A (setFlight (.ref a) o) Q E s:=R5 f λh' f' k=>q h' (I.xP pT pT (λb u z _ n _=>(k b n).trans z) λb u z _=>by
 by_cases n:b=T;.subst n;obtain⟨vs,sl,oT,ts,a0,e1,e2,e3,e4,e5,e6,e7⟩:=f;have:=I.sf b ‹_›;obtain⟨_,o',g1,g2⟩:=I.stack.mem ‹b∈eS X.stack›;rw[e5]at g1;cases g1;exact absurd e6 (g2 ts)
 .exact⟨u.slots,(k b n).trans z⟩) f'
end
def Ends.hand(D:Ends)(i:Nat):Ends where
 nx:=λσ H=>D.nx (σ.set i none) H
 rt:=D.rt
 bk:=λσ H=>D.bk (σ.set i none) H
 ct:=λσ H=>D.ct (σ.set i none) H
theorem Sa{n:Str}{np xS:Pos}{B:Addr}(hex:X.ex=[])(cP:X.stack=X.env::X.outer)(hf:X.env.frame=some X.env.locals)(hN:X.N.Nodup)(hi:X.N[i]?=some n)(hl:X.env.scope.names.lookup n=some .local)(hg:Gl X x)(hm:X.mg x=some (.ref B))(qB:jS X.K B)(dm:(x==("__debug__":Str))=false)(cG:∀(W:Addr->Option Addr->St->Hp->Prop)(pn:List (Addr×Obj))(xe:Value->W1->Prop),(∀ps σ H s a C dx,Inv (X.wt pn xe) ps σ H s->qI (X.wt pn xe) ps H s a C dx\/um (X.wt pn xe) ps H s a C dx->W C dx σ H->xe (.ref a) s)->dF (X.wt pn xe) body (tb W))(Sb:∀C a,dF (X.hand a) (b₀::uo) (th C a)):PS X (.Try body [.ExceptHandler (some (.Name x np)) (some n) (b₀::uo) xS] [] [] pos) λD σ H=>tb (λC dx σ' H'=>PySem.W.mroIn X.K C (.ref B)=some true/\∃v,(∀x,v=.ref x->dx=some x)/\∀a,H' a=none->th C a (D.hand i) (σ'.set i (some (.ref a))) (upd H' a (.ext (excAt C v a)))) D σ H:=by
 intro pins s σ H D I hw;refine wpAny_Try_except (WR (cG _ (X.pn++pins) _ (λps σ1 H1 s1 a C dx J hc hW=>?_) [] s σ H D I.wt hw) (λf s1 hs=>?_) λe s1 he=>he)
 .have J:Inv X pins σ1 H1 s1:=Inv.jt I.ok J;have hc:qI X pins H1 s1 a C dx\/um X pins H1 s1 a C dx:=by
   rcases hc with⟨T,fl,f,gW,pa,pT⟩|⟨y,pa⟩;.exact .inl ⟨T,fl,f,gW,pa.jt,pT.jt⟩
   .exact .inr ⟨y,pa.jt⟩
  refine J.EH cP hf hex hc λh2 T J2 f2 pa pT=>?_;refine J2.xR f2 pT λh3 I3 f3=>?_;obtain⟨vs3,sl3,_,_,_,u3,_⟩:=id f3;obtain⟨qm,v,hv,qh⟩:=hW;refine wpAny_handleBy_cons (codeAny_handlers_test ?_) (by intro z;cases z);have Se:Inv (X.hand a) pins σ1 H1 {s1 with heap:=h3}:=I3.hand;refine kn (X:=X.hand a) Se hg hm ?_ dm;refine R9 I3.cO qB qm u3 rfl ?_;refine codeAny_handlers_suite_as (I3.xR f3 pT λh4 I4 f4=>?_);obtain⟨vs4,sl4,_,_,_,u1,_⟩:=f4;have I5:Inv X pins σ1 (upd H1 a (.ext (excAt C v a))) {s1 with heap:=h4}:=I4.xQ pa ⟨⟨_,u1,rfl,λx z=>hv x z,vs4,rfl⟩,⟨_,u1⟩,λh1 h2⟨o,e1,e2⟩k=>⟨o,k o e1,e2⟩⟩;refine sh (v:=.ref a) (u:=.ref a) (X:=X.hand a) I5.hand hN hi (.inl hl) rfl (λs6 I6 _=>?_) (.inr hl);refine WR (Sb C a pins s6 _ _ (D.hand i) I6 (qh a pa.free)) (λf s7 hs=>?_) λe s7 he=>he.elim;have un:∀{σ':St}{H':Hp}{Q:Flow->W1->Prop},Inv (X.hand a) pins σ' H' s7->(∀s8,Inv X pins (σ'.set i none) H' s8->Q f s8)->W4 (model X.prog X.w) X.A (do bindName X.env n .none;unbindBehindTheSuite X.env n xS) (λ_ s8=>Q f s8) X.xe s7:=λ{σ' H' Q}J7 k=>R7 (Inv.R_ I.ok J7) hN hi hl λs8 J8=>k s8 J8;cases f with|next=>obtain⟨σ',H',J7,q⟩:=hs;exact un J7 λs8 J8=>⟨_,_,J8,q⟩|brk=>obtain⟨σ',H',J7,q⟩:=hs;exact un J7 λs8 J8=>⟨_,_,J8,q⟩|cont=>obtain⟨σ',H',J7,q⟩:=hs;exact un J7 λs8 J8=>⟨_,_,J8,q⟩|ret u=>obtain⟨v,σ',H',J7,r,q⟩:=hs;exact un J7 λs8 J8=>⟨v,_,_,J8,r,q⟩
 .have hs:=SP.jt I.ok hs;cases f with|next=>exact U4 hs|brk=>exact hs|cont=>exact hs|ret u=>exact hs
end
def iY(X:Cx)(W:Addr->Option Addr->St->Hp->Prop):Prop:=∀ps σ H s a C dx,Inv X ps σ H s->qI X ps H s a C dx\/um X ps H s a C dx->W C dx σ H->X.xe (.ref a) s
section
variable{b:Addr}
theorem Inv.Sf{E v}(I:Inv X pins σ H s)(hx:X.ex=[])(h:kO X.prog X.w X.stack H s E v s'):∃a C dx H',v=.ref a/\Inv X pins σ H' s'/\qI X pins H' s' a C dx/\E (.ref C) dx H':=by obtain⟨a,C,T,dx,H',rfl,ho,hb,un,az,fl,na,nT,fa,fT,q⟩:=h;exact⟨a,C,dx,H',rfl,I.Bc (ch:=[]) ho un az hb λb z=>absurd z U',⟨T,.none,fl,.inl rfl,I.apart hx na fa,I.apart hx nT fT⟩,q⟩
end
section
variable{k:Nat}{p:Pos}{t:TA}
theorem Sg(F:fz X.prog X.w X.K X.mg X.base (kO X.prog X.w) k f fd ps sp)(hr:b_ k X.A)(hex:X.ex=[])(hg:Gl X x)(hm:X.mg x=some (.ref f))(hk:Qq X.K (.ref f)=true)(hb:Binds X.K fd ps [])(hx:iY X W)(ha:PA X (e::es) t)(dm:(x==("__debug__":Str))=false:=by decide)(he:W7 (e::es) X.env=(false,eval e X.env)::W7 es X.env:=by rfl)(bu:(WO pos (W7 es X.env)).any (·.1)=false:=by rfl):PE X (.Call (.Name x p) (e::es) [] pos) λσ H Q=>t σ H λvs H1=>sp vs H1 Q λc dx H'=>∃C,c=.ref C/\W C dx σ H':=by
 intro pins s σ H Q I h;refine Qw (kn I hg hm ?_ dm);refine U6 (h₀:=X.base) I.ok.mod.ki hk (aP (ha pos pins s σ H _ I h) λus s1⟨vs,H1,I1,r,q⟩=>⟨I1.cO,?_⟩) he bu;have hl:(us++[]).length=ps.length:=by rw[WV,<-r.length];exact F.len _ _ _ _ q
 refine Ud (Js (F.run X.A X.stack s1 H1 ⟨us,[]⟩ us vs Q _ hr I1.nH (by have:=hb s1 us I1.cO hl;rwa[WV]at this) r q) λr s' hq=>?_);cases r with|error e=>obtain⟨a,C,dx,H',ea,I2,co,C',hC,hW⟩:=I1.Sf (E:=λc dx H'=>∃C,c=.ref C/\W C dx σ H') (v:=e) (s':=s') hex hq;cases hC;subst ea;exact hx pins σ H' s' a C dx I2 (.inl co) hW|ok fl=>cases fl with|ret u=>exact I1.after hq|next=>exact False.elim hq|brk=>exact False.elim hq|cont=>exact False.elim hq
end
section
variable{s₀:W1}{H₀:Hp}{E:XK}
theorem Sh(hW:∀C dx σ H,W C dx σ H->E (.ref C) dx H):iY (dG (kO P w) P w K mg base N qual scope f cd A outer s₀ H₀ E) W:=λps σ H s a C dx I hc q=>by show W4 _ _ (leaving _ _) _ _ _;unfold leaving;refine W0 (I.EH rfl rfl rfl hc λh2 T I2 f2 pa pT=>I2.xR f2 pT λh3 I3 f3=>?_);exact⟨a,C,T,dx,H,rfl,I3.os,I3.bare,I3.base,I3.az,f3,pa.old,pT.old,pa.free,pT.free,hW C dx σ H q⟩
end
def Cx.loop(X:Cx):Cx:={X with xe:=notedBy (model X.prog X.w) X.A X.env (cameBackBy (model X.prog X.w) X.A X.env X.xe)}
section
variable{g:Xc->Dl->Prop}
theorem Ok.since(h0:c.H₀=H)(k:Ok c σ δ H)(hI:∀a,c.I a->Own σ δ a)(k':Ok c σ' δ' H'):aK c σ δ H σ' δ' H':=by
 refine⟨k',λa o e n=>k'.keep a o %[h0|e] λz=>n (hI a z),λa⟨i,d,e1,e2⟩=>?_,λa o e=>?_⟩
 .obtain⟨b,e3,_,q,_⟩:=k'.own i d e1;rw[e2]at e3;cases e3;rcases q with q|q;.exact .inl (hI a q)
  .rw[h0]at q;exact .inr q
 .by_cases z:c.I a;.exact k'.du a z
  .exact⟨o,k'.keep a o %[h0|e] z⟩
end
def wD(mg:Str->Option Value)(c:Fc)(C:Addr)(dx:Option Addr)(σ:St)(H:Hp):Prop:=∃(x:Xc)(δ:Dl)(v:V),mg (toS x.cls)=some (.ref C)/\Ok c σ δ H/\Rep H (Av c σ δ) v x.jd/\(∀y,v=.ref y->dx=some y)/\c.xc x δ
def qJ(x:Tx):DS:=λδ=>.exc ⟨x,.aJ⟩ δ
theorem Si{np br pos:Pos}(y:Tx)(q:jS X.K C)(hc:X.calm=true)(hg:Gl X x)(hm:X.mg x=some (.ref C))(hx:iY X (wD X.mg c))(hy:x=toS y:=by decide+kernel)(hd:(x==("__debug__":Str))=false:=by decide)(hex:X.ex=[]:=by rfl):SS X c (.Raise (some (.Call (.Name x np) [] [] br)) none pos) (qJ y):=PS.weak (R6 (W:=λσ H=>wD X.mg c C none σ H) q hc hg hm hd λps σ H s h' e I w hm=>by obtain⟨t,ht,_⟩:=hm.there;have I1:Inv X ps σ H {s with heap:=h'}:=I.kept (t':=s.toks) hm.keeps;exact hx ps σ H _ e C none I1 (.inr ⟨⟨_,_,_,ht,rfl,rfl⟩,I.apart hex hm.new (I.gone hex hm.new).1⟩) w) λD σ H⟨δ,k,w⟩=>⟨⟨y,.aJ⟩,δ,.aJ,by rw[<-hy];exact hm,k,.aJ,λ_ z=>(by cases z),w⟩
abbrev DX:=List S->Option ((S×List S)⊕Xc×List S)
def mV(f:DS)(n:Nat)(ss:List S):Option ((S×List S)⊕Xc×List S):=match f (aX n ss)with|.ok fl δ=>(bW fl).bind λr=>(bj 0 ss δ).map λaH=>.inl (r,aH)|.exc x δ=>(bj 0 ss δ).map λaH=>.inr (x,aH)|.stuck=>none
def EI(mg:Str->Option Value)(n:Nat)(G:DX):Sp:=λvs H Q E=>∃ss B,vs.length=n/\Ok ⟨H,B,bN 0 ss vs,λ_ _=>False⟩ (bS vs) (cb ss) H/\∃y,G ss=some y/\match y with|.inl (r,aH)=>∀v H',aK ⟨H,B,bN 0 ss vs,λ_ _=>False⟩ (bS vs) (cb ss) H (bS vs) (cb aH) H'->aY ⟨H,B,bN 0 ss vs,λ_ _=>False⟩ (bS vs) (cb aH) H H' v r->Q v H'|.inr (x,aH)=>∀C dx v H',mg (toS x.cls)=some (.ref C)->aK ⟨H,B,bN 0 ss vs,λ_ _=>False⟩ (bS vs) (cb ss) H (bS vs) (cb aH) H'->Rep H' (Av ⟨H,B,bN 0 ss vs,λ_ _=>False⟩ (bS vs) (cb aH)) v x.jd->(∀y,v=.ref y->dx=some y)->E (.ref C) dx H'
theorem Sj(h:(⟨H,B,bN 0 ss vs,g⟩:Fc).I a):Own (bS vs) (cb ss) a:=by obtain⟨i,hi⟩:=h;obtain⟨j,d,_,e1,e2⟩:=jl hi;exact⟨j,d,eX.mpr e1,fc.mpr e2⟩
theorem aY.Sk(h:aY {c with xc:=g} σ δ Hs H v r):aY c σ δ Hs H v r:=by cases r with|pure d=>exact h|own d=>obtain⟨a,e,o,n,f,k,q⟩:=h;exact⟨a,e,o,n,f,⟨k.keep,k.bd,k.du,k.len,k.slot,k.own,k.inj,k.pinned⟩,q⟩
def xT:S×List S⊕Xc×List S->List S|.inl y=>y.2|.inr y=>y.2
def xU(G:DX):Prop:=∀ss y,G ss=some y->∀(j:Nat),(∀d,ss[j]?=some (.own d)->∃d',(xT y)[j]?=some (.own d'))/\∀d,ss[j]?=some (.pure d)->∃d',(xT y)[j]?=some (.pure d')
theorem Sl{os:List S}(e:bj 0 ss δ=some os)(j:Nat):(∀d,ss[j]?=some (.own d)->∃d',os[j]?=some (.own d'))/\∀d,ss[j]?=some (.pure d)->∃d',os[j]?=some (.pure d'):=by
 obtain⟨h1,h2⟩:=qC e;refine⟨λd ed=>?_,λd ed=>?_⟩
 .rcases h2 j _ ed with⟨d',z,_⟩|⟨d',d'',_,_,z⟩;.cases z
  .exact⟨d'',z⟩
 .rcases h2 j _ ed with⟨d',z,z'⟩|⟨d',d'',z,_⟩;.exact⟨d',z'⟩
  .cases z
theorem Sm{fb}(h:mV fb n ss=some y):∃δ,bj 0 ss δ=some (xT y):=by unfold mV at h;cases e:fb (aX n ss)with
 |stuck=>rw[e]at h;cases h|exc x δ=>rw[e]at h;simp only at h;cases e2:bj 0 ss δ with|none=>rw[e2]at h;cases h|some os=>rw[e2]at h;cases h;exact⟨δ,e2⟩
 |ok fl δ=>rw[e]at h;simp only at h;cases e1:bW fl with|none=>rw[e1]at h;cases h|some r=>rw[e1]at h;simp only[Wz]at h;cases e2:bj 0 ss δ with|none=>rw[e2]at h;cases h|some os=>rw[e2]at h;cases h;exact⟨δ,e2⟩
def mW(np:List Nat)(n:Nat)(b:DS):DX:=λss=>if bO np 0 ss then mV b n ss else none
theorem EJ(h:mW np n b ss=some y):bO np 0 ss=true/\mV b n ss=some y:=by
 unfold mW at h;split at h;.exact⟨by assumption,h⟩
 .cases h
theorem Sn{b:DS}:xU (mW np n b):=λss y h j=>by obtain⟨δ,e⟩:=Sm (EJ h).2;exact Sl e j
def ju(G:DX)(as:List Ak):DE:=λδ=>if(bo as).all (bH δ)&&bX (bo as)then(bI as δ).bind λds δ1=>match bD as ds δ1 with|none=>.stuck|some ss=>match G ss with|none=>.stuck|some (.inl (r,aH))=>.ok r (aR as aH δ1)|some (.inr (x,aH))=>.exc x (aR as aH δ1)else .stuck
section
variable{k:Nat}{G:DX}
theorem So{Q}(hK:xU G)(hl:as.length=n)(h:tD c (ju G as) σ H Q):tX c as σ H λvs H1=>EI X.mg n G vs H1 Q λc' dx H'=>∃C,c'=.ref C/\wD X.mg c C dx σ H':=by
 obtain⟨δ,kk,q⟩:=h;unfold ju at q;split at q
 .rename_i hc;rw[Wo]at hc;have nd:=xt hc.2;rw[bh]at q;refine⟨δ,kk,λi hi=>?_,aN q λds δ1 q1 vs H1 a1 r1=>?_⟩
  .have:=Q8.mp hc.1 i (lN.mpr hi);unfold bH at this;split at this;.rename_i d ed;exact qd kk ed
   .cases this
  .cases em:bD as ds δ1 with|none=>rw[em]at q1;exact q1.elim|some ss=>rw[em]at q1;simp only at q1;cases eg:G ss with|none=>rw[eg]at q1;exact q1.elim|some y=>rw[eg]at q1;have jm:=D0 a1.ok r1 em nd;obtain⟨m1,m2,_⟩:=ub r1 em;have g2:=hK ss y eg;refine⟨ss,_,by rw[<-m2];exact hl,jm,y,eg,?_⟩;cases y with|inl y=>obtain⟨r,aH⟩:=y;intro v H2 a2 r2;obtain⟨o1,o2⟩:=xy a1.ok r1 em nd rfl a2 (λj d ed=>(g2 j).1 d ed) λj d ed=>(g2 j).2 d ed;exact q1 v H2 (a1.trans o1) (aY.back (o2 v r r2) a1)|inr y=>obtain⟨z,aH⟩:=y;intro C dx v H2 hm a2 rv hv;obtain⟨o1,o2⟩:=xy a1.ok r1 em nd rfl a2 (λj d ed=>(g2 j).1 d ed) λj d ed=>(g2 j).2 d ed;exact⟨C,rfl,z,aR as aH δ1,v,hm,o1.ok,o2 v (.pure z.jd) rv,hv,q1⟩
 .exact q.elim
end
def uq(δ:Dl):Bool:=δ.all fun|some (.own _)=>false|_=>true
def unset(i:Nat):Rs Fl->Rs Fl|.ok fl δ=>.ok fl (δ.set i none)|r=>r
def om(ce:Tx->Nat)(ys:List Tx)(i:Nat)(fb fh:DS):DS:=λδ=>if uq δ then match fb δ with|.exc x δ'=>if ys.contains x.cls&&decide (i<δ'.length)then unset i (fh (δ'.set i (some (.pure (.exc (ce x.cls) x.jd)))))else .stuck|r=>r else .stuck
theorem EK(h:Np c []):c.pin=[]:=by cases e:c.pin with|nil=>rfl|cons p r=>have:=h p %[e|Wt];simp at this
theorem aK.unset(x:aK c σ₀ δ₀ H₀ σ δ H)(hp:c.pin=[])(i:Nat):aK c σ₀ δ₀ H₀ (σ.set i none) (δ.set i none) H:=by
 have k:=x.ok;have back:∀{α:Type}{l:List (Option α)}{j:Nat}{v:α},(l.set i none)[j]?=some (some v)->l[j]?=some (some v)/\i≠j:=λ{α l j v}e=>by
  by_cases hj:i=j;.subst hj;rw[WL]at e;simp at e
  .rw[W9 hj]at e;exact⟨e,hj⟩
 have own:∀a,Own (σ.set i none) (δ.set i none) a->Own σ δ a:=λa⟨j,d,e1,e2⟩=>⟨j,d,(back e1).1,(back e2).1⟩;have av:∀a,Av c (σ.set i none) (δ.set i none) a->Av c σ δ a:=λa z=>z.elim .inl λz=>.inr (own a z);refine⟨⟨k.keep,k.bd,k.du,#v[k.len],λj d e=>?_,λj d e=>?_,λj1 j2 a d d' e1 e2 e3 e4=>k.inj j1 j2 a d d' (back e1).1 (back e2).1 (back e3).1 (back e4).1,λp hm=>by rw[hp]at hm;simp at hm⟩,x.keep,λa z=>x.own a (own a z),x.there⟩;.obtain⟨e',n⟩:=back e;obtain⟨v,e1,r⟩:=k.slot j d e';exact⟨v,%[W9 n|e1],r.aM λa z=>.inl (av a z)⟩
 .obtain⟨e',n⟩:=back e;obtain⟨a,e1,r,q⟩:=k.own j d e';exact⟨a,%[W9 n|e1],r.aM λa z=>.inl (av a z),q⟩
section
variable{g:Xc->Dl->Prop}
theorem Ok.EL(k:Ok c σ δ H)(h:uq δ=true):Ok ⟨H,c.B,[],g⟩ σ δ H:=⟨λ_ _ e _=>e,k.bd,λa⟨i,z⟩=>by simp at z,k.len,k.slot,λi d e=>(by have:=Q8.mp h _ (Wq e);cases this),k.inj,λp z=>by simp at z⟩
theorem Ok.mX(k:Ok c σ δ H)(hp:c.pin=[])(k':Ok ⟨H,B',[],g⟩ σ' δ' H'):Ok {c with B:=B'} σ' δ' H':=by
 have nI:∀a,¬c.I a:=λa⟨i,z⟩=>by rw[hp]at z;simp at z
 have EM:∀a,¬(⟨H,B',[],g⟩:Fc).I a:=λa⟨i,z⟩=>by simp at z
 refine⟨λa o e n=>k'.keep a o (k.keep a o e n) (EM a),k'.bd,λa z=>absurd z (nI a),k'.len,k'.slot,λi d e=>?_,k'.inj,λp z=>by rw[show({c with B:=B'}:Fc).pin=c.pin from rfl,hp]at z;simp at z⟩;obtain⟨a,e1,r,q,nb⟩:=k'.own i d e;refine⟨a,e1,r,.inr ?_,nb⟩;rcases q with q|q;.exact absurd q (EM a)
 .exact k.jN q
theorem aK.mX(k:Ok c σ δ H)(hp:c.pin=[])(x:aK ⟨H,c.B,[],g⟩ σ δ H σ' δ' H'):aK c σ δ H σ' δ' H':=⟨k.mX hp x.ok,x.keep,x.own,x.there⟩
theorem aY.mX(k:Ok c σ δ H)(hp:c.pin=[])(h:aY ⟨H,c.B,[],g⟩ σ' δ' H H' v r):aY c σ' δ' c.H₀ H' v r:=by cases r with|pure d=>exact h|own d=>obtain⟨a,e,o,n,f,k',q⟩:=h;exact⟨a,e,o,n,k.jN f,k.mX hp k',k.jN f⟩
theorem aY.unset(hp:c.pin=[])(i:Nat)(h:aY c σ δ Hs H v r):aY c (σ.set i none) (δ.set i none) Hs H v r:=by
 have own:∀a,Own (σ.set i none) (δ.set i none) a->Own σ δ a:=λa⟨j,d,e1,e2⟩=>by
  have back:∀{α:Type}{l:List (Option α)}{v:α},(l.set i none)[j]?=some (some v)->l[j]?=some (some v):=λ{α l v}e=>by
   by_cases hj:i=j;.subst hj;rw[WL]at e;simp at e
   .rw[W9 hj]at e;exact e
  exact⟨j,d,back e1,back e2⟩
 cases r with|pure d=>exact Rep.aM h λa z=>.inl (z.elim .inl λz=>.inr (own a z))|own d=>obtain⟨a,e,o,n,f,k,q⟩:=h;exact⟨a,e,o.aM λb z=>.inl (z.elim .inl λz=>.inr (own b z)),n,f,(aK.unset (aK.refl k) hp i).ok,q⟩
end
section
open PySem.W Builtin Builtin.ObjectAttr Builtin.Getset_descriptor
section
variable{e:Addr}{h:Heap}{g:Array GenState}{d:Drawn}{t:Nat}
structure jT(K:W2)(C:Addr):Prop where
 ga:QY K (.ref C) "__getattribute__"=some (some (.builtin "BaseException.__getattribute__"))gt:QY K (.ref C) "__getattr__"=some none
 cl:QY K (.ref C) "__class__"=some (some (.builtin "object.__class__"))sp:specialIn K (.builtin "object.__class__") "__get__"=some (some (.builtin "getset_descriptor.__get__"))tk:takesIn K (.builtin "object.__class__")=some true
 mo:mroIn K C (.type "object")=some true
 mb:mroIn K C (.type "BaseException")=some true
theorem Sq(X:K.In h)(k:jT K C)(he:h.get? e=some oe)(hc:oe.cls=.ref C)(q:R (.ok (.ret (.ref C))) ⟨h,g,d,t,os⟩):QH (model prog w) A (.call (.builtin "getset_descriptor.__get__") ⟨[.builtin "object.__class__",.ref e,tp],[]⟩) R ⟨h,g,d,t,os⟩:=by
 have l1:Looks (model prog w) h (typeOf (.ref e)) (.ref C):=hc▸(Looks.ld he).andThen .now;have l2:=looks_mroIn (M:=model prog w) X k.mo;refine JT KF.slot_gs.plain KF.entry_gs (KF.slot_gs.check _ _ _ _ _ _ _ _ KF.type_class (KF.args_gs _ _ _) ?_);unfold Builtin.«getset_descriptor.__get__» descrGet;rw[dga_obj];refine W0 (W5 ?_);unfold descrGetter descrCheckInstance descrNameAndClass isInstance;simp only[KF.owner_class];repeat lk
 refine⟨Code.quiet_builtin _ Re,U5 KF.entry_class ?_⟩;unfold Builtin.«object.__class__» shownTypeOf;repeat lk
 exact q
theorem Sr{Q}(X:K.In h)(k:jT K C)(he:h.get? e=some oe)(hc:oe.cls=.ref C)(q:Q (.done (.ret (.ref C))) ⟨h,g,d,t,os⟩):W4 (model prog w) A (Builtin.«object.__getattribute__» ⟨[.ref e,.str "__class__" tk],[]⟩) Q E ⟨h,g,d,t,os⟩:=by
 have l0:Looks (model prog w) h (typeOf (.ref e)) (.ref C):=hc▸(Looks.ld he).andThen .now;have l1:=Ub (M:=model prog w) X k.cl;have l2:=KF.type_class;have l3:=F.slot_gs_get.lookup;have l4:=F.slot_gs_set.lookup;repeat(any_goals(first|assumption|with_reducible refine Looks.at l0 ?_|with_reducible refine Looks.at l1 ?_|(with_reducible refine Qr he ?_;rw[hc])|wp_step))
 refine Sq X k he hc ?_;repeat(any_goals(first|assumption|wp_step))
theorem EN{Q}(X:K.In h)(k:jT K C)(he:h.get? e=some oe)(hc:oe.cls=.ref C)(q:Q () ⟨h,g,d,t,os⟩):W4 (model prog w) A (checkBuiltinCall "BaseException.__getattribute__" ⟨[.ref e,nv],[]⟩) Q E ⟨h,g,d,t,os⟩:=by
 have l0:Looks (model prog w) h (typeOf (.ref e)) (.ref C):=hc▸(Looks.ld he).andThen .now;have l1:=looks_mroIn (M:=model prog w) X k.mb;have b1:builtinKind "BaseException.__getattribute__"=some .slot:=by decide+kernel
 have b2:splitId "BaseException.__getattribute__"=some ("BaseException","__getattribute__"):=by decide+kernel
 have b3:=F.args_bexc_ga (.ref e) nv;simp only[checkBuiltinCall,b1,b2];refine W0 ?_;unfold isInstance;repeat(first|with_reducible refine Looks.at l0 ?_|with_reducible refine Looks.at l1 ?_|(with_reducible refine Qr he ?_;rw[hc])|wp_step)
 exact q
theorem Ss{Q}(X:K.In h)(k:jT K C)(he:h.get? e=some oe)(hc:oe.cls=.ref C)(q:Q (some (.ref C)) ⟨h,g,d,t+1,os⟩):W4 (model prog w) A (getAttr? (.ref e) "__class__") Q E ⟨h,g,d,t,os⟩:=by
 have L0:Looks (model prog w) h (typeOf (.ref e)) (.ref C):=hc▸(Looks.ld he).andThen .now;have L1:=Ub (M:=model prog w) X k.ga;have L2:=Ub (M:=model prog w) X k.gt;have L3:=looks_mroIn (M:=model prog w) X k.mb;have Su:(false&&onTheHeap (Value.builtin "BaseException.__getattribute__"))=false:=rfl;have qK:(Value.builtin "BaseException.__getattribute__"==Value.builtin "object.__getattribute__")=false:=by decide+kernel
 have f3:=F.attrBase_ValueError.ga.bind (.ref e);unfold getAttr? getAttrBy? getAttrBy;refine W0 (wpAny_mkText (W0 (wpAny_attempt (WB (W0 (L0.at (W0 (L1.at ?_))))))));dsimp only;rw[qK,Bool.and_false];simp only[Qe,if_false];unfold getAttrByItsOwn hookBefore;repeat(any_goals(first|assumption|with_reducible refine Looks.at L2 ?_|wp_step))
 refine JT F.attrBase_ValueError.ga.plain F.entry_bexc_ga (EN X k he hc (Sr X k he hc ?_));repeat(any_goals(first|assumption|wp_step))
theorem Sv(k:jT K C)(hk:(clsIn K C).isSome=true):KitX K (.ref e) (.ref C) (excAt C v e)where
 ty:=λM h X⟨o,h1,h2,_⟩=>h2▸(Looks.ld h1).andThen .now
 it:=λM h X _=>by
  obtain⟨cd,dR⟩:=Qy.mp hk;unfold clsIn at dR;split at dR;next c' d' cd' sl' ho=>exactλA' Q' E' s' kk q=>by unfold isType loadHead;exact W0 (wpAny_loadPart (kk _ _ (X _ _ ho)) (W5 q))
  next=>cases dR
 ne:=λh tp dd its n sl X Sw=>by
  obtain⟨cd,dR⟩:=Qy.mp hk;refine Bool.eq_false_iff.mpr λq=>?_;obtain rfl:C=tp:=Value.ref.inj (beq_iff_eq.mp q);unfold clsIn at dR;split at dR;next c' d' cd' sl' ho=>have z:=(X _ _ ho).symm.trans Sw;cases z
  next=>cases dR
 ca:=λ{prog w A E Q s}X⟨o,h1,h2,_⟩q=>by obtain⟨hh,gg,dd,tt,oo⟩:=s;exact Ss X k h1 h2 q
end
section
variable{y:Str}{D:Addr}
theorem Sx(hg:Gl X y)(hm:X.mg y=some (.ref D))(hd:(y==("__debug__":Str))=false:=by decide):PE X (.Name y pos) λσ H Q=>Q (.ref D) H:=λpins s σ H Q I h=>kn I hg hm ⟨.ref D,H,I,rfl,h⟩ hd
structure IsT(K:W2)(ce:Tx->Nat)(ys:List Tx)(cv:Value)(tab:Tx->Bool):Prop where
 k:∀z∈ys,jT K (ce z)c:∀z∈ys,(PySem.W.clsIn K (ce z)).isSome=true
 one:∀z∈ys,QO K (.ref (ce z)) cv=some (tab z)
theorem EO(Sy:∀u,RelV cV u->u=cv)(T:IsT X.K ce ys cv tab):fF X (.builtin "isinstance") λxs H Q=>∃(a:Addr)(z:Tx)(v:V),xs=[.ref a,cV]/\H a=some (.ext (excAt (ce z) v a))/\z∈ys/\Q (.bl (tab z)) H:=by intro pins s σ H xs us Q I r h;obtain⟨a,z,v,rfl,ha,hz,q⟩:=h;obtain⟨u,w',rfl,r1,r2⟩:=vX r;cases r1;have e:=Sy _ r2;subst e;obtain⟨p,_,_⟩:=I.az a _ ha;exact Qc (Sv (T.k z hz) (T.c z hz)) I.cO p (T.one z hz) (λz=>nomatch z) λtk=>⟨.bl (tab z),H,I.tok tk,rfl,q⟩
end
structure gj(k:Nat)(A:Wh):Prop where
 dp:A.depth+3*k+5<recursionLimit
 un:A.units+16*k+200<WD
theorem gj.deeper(r:gj (k+1) A)(env:Env):gj k (A.deeper env):=⟨by have:=r.dp;show A.depth+1+3*k+5<_;lia,by have:=r.un;show A.units+3+16*k+200<_;lia⟩
theorem b_.h(r:b_ k A):gj k A:=⟨r.dp,r.un⟩
theorem gj.mono(r:gj k A)(h:j<=k):gj j A:=⟨by have:=r.dp;lia,by have:=r.un;lia⟩
theorem gj.mark(r:gj k A)(v:Option Value):gj k (A.mark v):=⟨r.dp,r.un⟩
def Cx.ur(X:Cx):Cx:={X with calm:=false,xe:=λ_ _=>False}
structure xV(P:Wg)(w:Wp)(K:W2)(mg:Str->Option Value)(base:Heap)(k:Nat)(f:Addr)(fd:WH)(ps:List Str)(sp:Sp):Prop where
 len:∀vs H Q E,sp vs H Q E->vs.length=ps.length
 run:∀(A:Wh)(outer:List Env)(s:W1)(H:Hp)(args:Args)(us:List Value)(vs:List V)(Q:VK),gj k A->jI P w K mg base A outer s H->BindsTo s fd args (ps.zip us)->Vals vs us->sp vs H Q E0->QH (model P w) A (.call (.ref f) args) (CR cH outer P w H s Q E0) s
section
variable{k:Nat}
theorem Sz{st:Stmt}(F:dq K x qual st f fd)(S:eL N ps (aV st))(len:∀vs H Q E,sp vs H Q E->vs.length=ps.length)(cG:∀(aE:Value)(A:Wh)(outer:List Env)(s:W1)(H:Hp)(vs:List V)(Q:VK),gj k (A.deeper (QB qual (aV st) s.heap.objs.size f aE))->sp vs H Q E0->∃t,dF (dG cH P w K mg base N qual (aV st) f aE A outer s H E0).ur (cZ st) t/\t {nx:=λ_ H'=>Q .aJ H',rt:=Q} (start N vs) H):xV P w K mg base (k+1) f fd ps sp:=by
 obtain⟨oc,od,kV,doc,pm,an,aE,ct,dH,rfl,lk,dR⟩:=F.ex;refine⟨len,λA outer s H args us vs Q hr e0 hb r jJ=>?_⟩;have hl:=len _ _ _ _ jJ;have KX:K.In s.heap:=e0.mod.ki.keeps λb o e=>(e0.bs b o e).1;have lim:s.heap.NoLimit:=e0.mod.nolimit.keeps λb o e=>(e0.bs b o e).1;have pN:∀y∈ps.zip us,(aV st).names.lookup y.1=some .local\/(aV st).names.lookup y.1=some .cell/\((Qx (s.heap.objs.size+1) (aV st).names []).lookup y.1).isSome=true:=λ⟨n,v⟩hy=>by
  rcases S.par n (QW hy).1 with q|q;.exact .inl q
  .exact .inr ⟨q,J9 _ _ _ (.inl q)⟩
 have SH:A.depth<recursionLimit:=by have:=hr.dp;lia
 refine JM SH (KX _ _ lk) rfl S.co S.gen rfl (PySem.W.codeRec_of KX dR) (hb _ _ _ _ ?_);refine wpAny_newFunctionEnv_cells S.kind pN λenv he s1 x=>?_;subst he;refine⟨lim.keeps x.toInCall.keep,codeAny_func ?_⟩;obtain⟨t,ht,hq⟩:=cG aE A outer s H vs Q (hr.deeper _) jJ;have e1:jI P w K mg base {A with handled:=none} outer s H:=⟨e0.frames,e0.mod,e0.bs,e0.gP,e0.fQ,e0.iM,e0.az,e0.bare⟩;have J:=v_ (CX:=cH) (E:=E0) (qual:=qual) (f:=f) (cd:=aE) (A:={A with handled:=none}) S rfl e1 hl r x;have I:Inv (dG cH P w K mg base N qual (aV st) f aE A outer s H E0).ur [] (start N vs) H s1:=by have o:=J.ok;exact⟨⟨o.mod,o.kind,o.glob,o.blt,o.above,o.inj,o.has,o.kj,λz=>(by cases z),Around.frames_deeper e0.frames,o.ml,o.mn,o.bs,o.gP,o.lb,o.lg,o.fQ,o.iM⟩,J.os,J.bare,J.base,J.loc,J.cell,J.free,J.eU,J.pin,J.az,J.len⟩
 refine WR (ht [] s1 (start N vs) H _ I hq) (λfl s' hs=>?_) λe s' hs=>hs.elim;cases fl with|ret u=>obtain⟨v,σ',H',J2,rv,q⟩:=hs;exact⟨v,H',J2.os,J2.bare,J2.base,J2.az,rv,q⟩|next=>obtain⟨σ',H',J2,q⟩:=hs;exact⟨V.aJ,H',J2.os,J2.bare,J2.base,J2.az,rfl,q⟩|brk=>obtain⟨_,_,_,q⟩:=hs;exact False.elim q|cont=>obtain⟨_,_,_,q⟩:=hs;exact False.elim q
end
section
variable{k:Nat}{p:Pos}{t:TA}
theorem SJ(F:xV X.prog X.w X.K X.mg X.base k f fd ps sp)(hr:gj k X.A)(hg:Gl X x)(hm:X.mg x=some (.ref f))(hk:Qq X.K (.ref f)=true)(hb:Binds X.K fd ps [])(ha:PA X (e::es) t)(dm:(x==("__debug__":Str))=false:=by decide)(he:W7 (e::es) X.env=(false,eval e X.env)::W7 es X.env:=by rfl)(bu:(WO pos (W7 es X.env)).any (·.1)=false:=by rfl):PE X (.Call (.Name x p) (e::es) [] pos) (v7 sp [] E0 t):=by
 intro pins s σ H Q I h;refine Qw (kn I hg hm ?_ dm);refine U6 (h₀:=X.base) I.ok.mod.ki hk (aP (ha pos pins s σ H _ I h) λus s1⟨vs,H1,I1,r,q⟩=>⟨I1.cO,?_⟩) he bu;have q:sp vs H1 Q E0:=by have q':sp (vs++[]) H1 Q E0:=q;rwa[WV]at q'
 have hl:(us++[]).length=ps.length:=by rw[WV,<-r.length];exact F.len _ _ _ _ q
 refine Ud (Js (F.run X.A X.stack s1 H1 ⟨us,[]⟩ us vs Q hr I1.nH (by have:=hb s1 us I1.cO hl;rwa[WV]at this) r q) λr s' hq=>?_);cases r with|error e=>exact False.elim hq|ok fl=>cases fl with|ret u=>exact I1.after hq|next=>exact False.elim hq|brk=>exact False.elim hq|cont=>exact False.elim hq
end
end
def gm(ce:Tx->Nat)(ys:List Tx)(tab:Tx->Bool)(fb:BE):DE:=λδ=>(fb δ).bind λd δ'=>match d with
 |.exc n _=>match ys.find? λz=>ce z==n with|some z=>.ok (.pure (.bl (tab z))) δ'|none=>.stuck
 |_=>.stuck
section
variable{y:Str}{ys:List Tx}
theorem ER{Q}(h:tD c (gm ce ys tab fb) σ H Q):UF c fb σ H λv H1=>∃(a:Addr)(z:Tx)(w:V),[v,cV]=[.ref a,cV]/\H1 a=some (.ext (excAt (ce z) w a))/\z∈ys/\Q (.bl (tab z)) H1:=by
 obtain⟨δ,k,q⟩:=h;unfold gm at q;rw[bh]at q;refine⟨δ,k,aN q λd δ1 q1 v H1 a1 r1=>?_⟩;cases d<;>first|exact q1.elim|skip
 rename_i n fl;simp only at q1;split at q1
 .rename_i z hz;have h1:=Uq hz;have h2:=Jq hz;have e:ce z=n:= ~~~h1;subst e;rcases r1 with r1|⟨a,_,o⟩;.cases r1 with|exc _ ha _=>exact⟨_,z,_,rfl,ha,h2,q1 _ H1 a1 (.bl _)⟩
  .exact o.elim
 .exact q1.elim
theorem kP{D:Addr}(T:IsT X.K ce ys (.ref D) tab)(hg:Gl X "isinstance")(hm:X.mg "isinstance"=none)(qp:Gl X y)(qr:X.mg y=some (.ref D))(he:SB X c e fb)(qt:(y==("__debug__":Str))=false:=by decide)(hs:W7 [e,.Name y py] X.env=(false,eval e X.env)::W7 [.Name y py] X.env:=by rfl)(bu:(WO pos (W7 [.Name y py] X.env)).any (·.1)=false:=by rfl):SE X c (.Call (.Name "isinstance" pp) [e,.Name y py] [] pos) (gm ce ys tab fb):=PE.weak (pP (EO (cV:=.ref D) λu r=>by cases r;rfl T) hg hm PyProof.Rows.boot_isinstance (dU he (dU (Sx qp qr qt) fH) hs) Z' Z' hs bu) λσ H Q h=>ER h
theorem SK(T:IsT X.K ce ys (.type T') tab)(hg:Gl X "isinstance")(hm:X.mg "isinstance"=none)(qp:Gl X y)(qr:X.mg y=none)(xj:Qu y=some (.type T'))(he:SB X c e fb)(xk:y≠"__name__":=by decide)(qt:(y==("__debug__":Str))=false:=by decide)(hs:W7 [e,.Name y py] X.env=(false,eval e X.env)::W7 [.Name y py] X.env:=by rfl)(bu:(WO pos (W7 [.Name y py] X.env)).any (·.1)=false:=by rfl):SE X c (.Call (.Name "isinstance" pp) [e,.Name y py] [] pos) (gm ce ys tab fb):=PE.weak (pP (EO (cV:=.ty T') λu r=>by cases r;rfl T) hg hm PyProof.Rows.boot_isinstance (dU he (dU (Bg (v:=.ty T') qp qr xj rfl xk qt) fH) hs) Z' Z' hs bu) λσ H Q h=>ER h
end
def mY(P:Wg)(w:Wp)(K:W2)(mg:Str->Option Value)(base:Heap)(k:Nat)(x:Str)(n:Nat)(G:DF):Prop:=∃(f:Addr)(fd:WH)(ps:List Str),mg x=some (.ref f)/\Qq K (.ref f)=true/\Binds K fd ps []/\xV P w K mg base k f fd ps (qz n G)
theorem SM(r:gj k A):A.units+64<WD:=by have:=r.un;lia
theorem SN{st:Stmt}{k:Nat}{fb:DS}(F:dq K x qual st f fd)(hm:mg x=some (.ref f))(hb:Binds K fd ps [])(S:eL N ps (aV st))(cG:∀(c:Fc)(aE:Value)(A:Wh)(outer:List Env)(s:W1)(H:Hp)(E:XK),gj k (A.deeper (QB qual (aV st) s.heap.objs.size f aE))->Np c np->dA (dG cH P w K mg base N qual (aV st) f aE A outer s H E).ur c (cZ st) fb)(hG:∀ss y,G ss=some y->bO np 0 ss=true/\eC fb N.length ss=some y):mY P w K mg base (k+1) x ps.length G:=by
 refine⟨f,fd,ps,hm,F.kp,hb,Sz F S (λvs H Q E h=>?_) λaE A outer s H vs Q hr h=>?_⟩;.obtain⟨ss,B,hl,_⟩:=h;exact hl
 .obtain⟨ss,B,hl,ok,r,aH,hg,q⟩:=h;obtain⟨eN,hrun⟩:=hG ss _ hg;have iB:ss.length=vs.length:=by have:=ok.len;simpa using this
  have mR:Np ⟨H,B,bN 0 ss vs,λ_ _=>False⟩ np:=λp hp=>by obtain⟨j,d,e,h1,_⟩:=jl (i:=p.1) (a:=p.2) hp;rw[e];exact qA eN h1
  refine⟨iS ⟨H,B,bN 0 ss vs,λ_ _=>False⟩ fb,cG ⟨H,B,bN 0 ss vs,λ_ _=>False⟩ aE A outer s H E0 hr mR,?_⟩;have cP:start N vs=bS vs++Wc (N.length-ss.length) none:=by rw[iB];rfl
  refine⟨aX N.length ss,%[cP|ok.ext _],?_⟩;unfold eC at hrun;unfold dJ;cases e:fb (aX N.length ss)with|exc x δx=>rw[e]at hrun;cases hrun|stuck=>rw[e]at hrun;cases hrun|ok fl δ'=>rw[e]at hrun;show∀σ' H',aK _ (start N vs) (aX N.length ss) H σ' δ' H'->fin _ _ σ' δ' H' fl;intro σ' H' a;rw[cP]at a;simp only at hrun;cases fl with
 |brk=>cases hrun|cont=>cases hrun|next=>simp only[bW,Wz]at hrun;cases eo:bj 0 ss δ' with|none=>rw[eo]at hrun;cases hrun|some os=>rw[eo]at hrun;cases hrun;obtain⟨l1,l2⟩:=iV rfl ok a eo;exact q .aJ H' l1 .aJ
 |ret r'=>simp only[bW,Wz]at hrun;cases eo:bj 0 ss δ' with|none=>rw[eo]at hrun;cases hrun|some os=>rw[eo]at hrun;cases hrun;obtain⟨l1,l2⟩:=iV rfl ok a eo;exactλv rv=>q v H' l1 (l2 v _ rv)
section
variable{k:Nat}
theorem SQ(F:mY X.prog X.w X.K X.mg X.base k x n G)(hK:n9 G)(hr:gj k X.A)(hg:Gl X x)(ha:SX X c (e::es) as)(hl:as.length=n)(dm:(x==("__debug__":Str))=false:=by decide)(he:W7 (e::es) X.env=(false,eval e X.env)::W7 es X.env:=by rfl)(bu:(WO pos (W7 es X.env)).any (·.1)=false:=by rfl):SE X c (.Call (.Name x pp) (e::es) [] pos) (aA G as):=by obtain⟨f,fd,ps,hm,hk,hb,ok⟩:=F;exact PE.weak (SJ ok hr hg hm hk hb ha dm he bu) λσ H Q h=>xA (ps:=ps) hK hl h
end
section
open PySem.SeqAt
theorem xW:∀{bs:List Bool}{us:List Value},Vals (bs.map V.bl) us->us=bs.map Value.bool|[],us,r=>by cases r;rfl|b::bs,us,r=>by cases r with|cons r1 r2=>cases r1;rw[xW r2];rfl
def qL:Value->Bool|.bool b=>b|_=>false
theorem ES:∀bs:List Bool,(bs.map Value.bool).countP qL=bs.count true|[]=>rfl|b::bs=>by rw[Wf,List.countP_cons,ES bs,List.count_cons];cases b<;>rfl
def ET(K:W2):V->List V->Hp->VK->Prop:=λx xs H Q=>∃(a:Addr)(bs:List Bool),x=.ref a/\xs=[.bl true]/\cU K H a (bs.map V.bl)/\Q (.int (bs.count true:Nat)) H
def EU(K:W2):V->List V->Hp->VK->Prop:=λx xs H Q=>∃(a:Addr)(bs:List Bool),x=.ref a/\xs=[.bl true]/\cU K H a (bs.map V.bl)/\true∈bs/\bs.length<=1000/\Q (.int (bs.idxOf true:Nat)) H
theorem SR:nJ X "list.count" (ET X.K):=by
 intro pins s σ H x xs v us Q I rx rs h;obtain⟨a,bs,rfl,rfl,hq,q⟩:=h;obtain⟨u,rfl,ru⟩:=gS rs;cases ru;cases rx;obtain⟨its,r',p,_⟩:=I.list hq;obtain rfl:=xW r';obtain⟨⟨cls,dd,data,sl⟩,ho,hc,n,hd⟩:=p.isList;simp only at hc hd;subst hc;subst hd;refine Jp PySem.F.slot_list_count ⟨_,ho,rfl⟩ PySem.F.entry_list_count (PySem.F.args_list_count_2 _ _) (list_countAt a _ n dd sl (.bool true) qL) ⟨ho,λy hy=>?_,?_⟩;.have kQ:y∈bs.map Value.bool:= ~~~hy;obtain⟨b,_,rfl⟩:=Q9.mp kQ;have:=EqAt.bool_bool (A:=X.A.in1) (s:=s) b true;cases b<;>exact this
 .rw[show(bs.map Value.bool).toArray.toList=bs.map Value.bool from rfl,ES];exact⟨.int (bs.count true:Nat),H,I.tok _,⟨_,rfl⟩,q⟩
theorem SV:nJ X "list.index" (EU X.K):=by
 intro pins s σ H x xs v us Q I rx rs h;obtain⟨a,bs,rfl,rfl,hq,hm,hl,q⟩:=h;obtain⟨u,rfl,ru⟩:=gS rs;cases ru;cases rx;obtain⟨its,r',p,_⟩:=I.list hq;obtain rfl:=xW r';obtain⟨⟨cls,dd,data,sl⟩,ho,hc,n,hd⟩:=p.isList;simp only at hc hd;subst hc;subst hd;have hj:bs.idxOf true<bs.length:=List.idxOf_lt_length_iff.mpr hm;refine Jp QC ⟨_,ho,rfl⟩ PySem.F.entry_list_index (PySem.F.args_list_index_2 _ _) (list_indexAt a _ n dd sl (.bool true) qL (bs.idxOf true) (~~~hj) Y' ?_ ?_) ⟨ho,λy hy=>?_,⟨.int (bs.idxOf true:Nat),H,I.tok _,⟨_,rfl⟩,q⟩⟩;.have:=List.getElem_idxOf hj;simp[qL,this]
 .intro m oq bq;have EV:m<bs.length:= ~~~oq;have:bs[m]≠true:=λz=>by have z2:=List.not_of_lt_findIdx (p:=(.==true)) (xs:=bs) (i:=m) bq;rw[z]at z2;cases z2
  simp[qL,this]
 .have kQ:y∈bs.map Value.bool:= ~~~hy;obtain⟨b,_,rfl⟩:=Q9.mp kQ;have:=EqAt.bool_bool (A:=X.A.in1) (s:=s) b true;cases b<;>exact this
end
noncomputable def lQ:D->Option S|.lst ds=>(jg ds).map λbs=>.pure (.int (bs.count true:Nat))|_=>none
noncomputable def lR:D->Option S
 |.lst ds=>match jg ds with|some bs=>if true∈bs/\bs.length<=1000 then some (.pure (.int (bs.idxOf true:Nat)))else none|none=>none
 |_=>none
theorem SY:jf (λx H Q=>nK K "list" x H/\ET K x [.bl true] H Q) lQ:=by intro c σ δ H x d s Q k rx hp q;cases d with
 |lst ds=>simp only[lQ]at hp;cases e:jg ds with|none=>rw[e]at hp;cases hp|some bs=>rw[e]at hp;cases hp;obtain⟨a,vs,ea,ha,ra⟩:=rx.lst;obtain rfl:=xg e ra;subst ea;exact⟨.inl ⟨rfl,_,.inl ha⟩,a,bs,rfl,rfl,.inl ha,q _ H (.refl k) (.int _)⟩
 |_=>simp[lQ]at hp
theorem S3:jf (λx H Q=>nK K "list" x H/\EU K x [.bl true] H Q) lR:=by intro c σ δ H x d s Q k rx hp q;cases d with
 |lst ds=>simp only[lR]at hp;cases e:jg ds with|none=>rw[e]at hp;cases hp|some bs=>
 rw[e]at hp;simp only at hp;split at hp;.rename_i hz;cases hp;obtain⟨a,vs,ea,ha,ra⟩:=rx.lst;obtain rfl:=xg e ra;subst ea;exact⟨.inl ⟨rfl,_,.inl ha⟩,a,bs,rfl,rfl,.inl ha,hz.1,hz.2,q _ H (.refl k) (.int _)⟩
 .cases hp|_=>simp[lR]at hp
theorem S4{j}{p0 apos br:Pos}(he:SB X c e fb)(iq:QL e "count" X.env (eval e X.env)=eval e X.env:=by rfl)(ir:((WO br (W7 [.Constant (.bool true) j p0] X.env)).all (λx=>!x.1)&&(backToKw br (JG [] X.env)).all (λx=>x.1.isSome)&&decide ([Expr.Constant (.bool true) j p0].length+([]:List Keyword).length+(if([]:List Keyword).isEmpty then 0 else 1)<30))=true:=by rfl)(fA:(apos.endLine==br.line)=true:=by rfl)(hs:W7 [.Constant (.bool true) j p0] X.env=(false,eval (.Constant (.bool true) j p0) X.env)::W7 [] X.env:=by rfl):SE X c (.Call (.Attribute e "count" apos) [.Constant (.bool true) j p0] [] br) (aC lQ fb):=by refine PE.weak (nM J0 PySem.F.slot_list_count PySem.F.type_list_count SR he (dU vQ fH hs) iq ir fA hs rfl) λσ H Q h=>?_;obtain⟨δ,k,q⟩:=qj (SY (K:=X.K)) h;exact⟨δ,k,aN q λy δ1 q1 v H1 a1 r1=>q1 v H1 a1 r1⟩
theorem S5{j}{p0 apos br:Pos}(he:SB X c e fb)(iq:QL e "index" X.env (eval e X.env)=eval e X.env:=by rfl)(ir:((WO br (W7 [.Constant (.bool true) j p0] X.env)).all (λx=>!x.1)&&(backToKw br (JG [] X.env)).all (λx=>x.1.isSome)&&decide ([Expr.Constant (.bool true) j p0].length+([]:List Keyword).length+(if([]:List Keyword).isEmpty then 0 else 1)<30))=true:=by rfl)(fA:(apos.endLine==br.line)=true:=by rfl)(hs:W7 [.Constant (.bool true) j p0] X.env=(false,eval (.Constant (.bool true) j p0) X.env)::W7 [] X.env:=by rfl):SE X c (.Call (.Attribute e "index" apos) [.Constant (.bool true) j p0] [] br) (aC lR fb):=by refine PE.weak (nM J0 QC PySem.F.type_list_index SV he (dU vQ fH hs) iq ir fA hs rfl) λσ H Q h=>?_;obtain⟨δ,k,q⟩:=qj (S3 (K:=X.K)) h;exact⟨δ,k,aN q λy δ1 q1 v H1 a1 r1=>q1 v H1 a1 r1⟩
theorem S6:Qu "ValueError"=some (.type "ValueError"):=by decide+kernel
def xX:List (Tx×Nat)->Tx->Nat|[],_=>0|p::r,x=>bif p.1==x then p.2 else xX r x
structure ZA(z TI TO i1 i2:Addr)(f1 f2:List Addr):Prop where
 m1:i1∈f1
 m2:i2∈f2
 z1:z∉f1
 z2:z∉f2
 t1:TO∉f1
 t2:TO∉f2
 k1:i1∉f2
 k2:i2∉f1
 tz:TO≠z
 iz:TI≠z
 io:TI≠TO
 n1:TI≠i1
 n2:TI≠i2
def kR(b:Bool)(h:Heap)(a:Addr)(its:Array Value):Prop:=match b with|true=>h.IsList a its|false=>h.IsTuple a its
def EW(b:Bool)(h:Heap)(it a:Addr)(i:Nat):Prop:=match b with|true=>h.IsListIter it a i|false=>h.IsTupleIter it a i
def EX(b:Bool)(a:Addr):Obj:={cls:=.type (match b with|true=>"list_iterator"|false=>"tuple_iterator"),data:=.fields #[.ref a,.int 0 0]}
theorem kR.lt{its}(q:kR b h a its):a<h.objs.size:=by
 cases b;.obtain⟨o,e,_⟩:=(q:h.IsTuple a its);exact Wi e
 .obtain⟨o,e,_⟩:=(q:h.IsList a its);exact Wi e
theorem kR.push{its}(q:kR b h a its)(o:Obj):kR b (h.push o) a its:=by
 cases b;.obtain⟨o,e,r⟩:=(q:h.IsTuple a its);exact⟨o,W6 _ e,r⟩
 .obtain⟨o,e,r⟩:=(q:h.IsList a its);exact⟨o,W6 _ e,r⟩
theorem S7{its}(h:kR b s.heap a its)(q:Q (.ref s.heap.objs.size) {s with heap:=s.heap.push (EX b a)}):W4 (model prog w) A (pyIter (.ref a)) Q E s:=by
 cases b;.exact wpAny_pyIter_tuple h q
 .exact wpAny_pyIter_list h q
theorem S8(b:Bool)(hh:A.handled=none)(it a:Addr)(cQ:a≠it)(its:Array Value):Draws prog w A it [it,a] its.size (λi v=>its[i]?=some v) λi h=>EW b h it a i/\kR b h a its:=by
 cases b;.exact Draws.tuple' hh it a cQ its
 .exact Draws.list hh it a cQ its
theorem Inv.S9{x v}(fp:List Addr)(I:Inv X pins σ H s)(hf:∀b∈fp,fw X pins H b)(bq:∀b∈fp,b<s.heap.objs.size)(ru:RelV x u)(rv:RelV y v)(hT:h'.get? s.heap.objs.size=some {cls:=.type "tuple",data:=.seq #[u,v]})(k:∀b o,b∉fp->s.heap.get? b=some o->h'.get? b=some o):Inv X pins σ (upd H s.heap.objs.size (.tup [x,y])) {s with heap:=h',toks:=t'}:=by
 have I1:Inv X pins σ (upd H s.heap.objs.size (.tup [x,y])) {s with heap:=s.heap.push {cls:=.type "tuple",data:=.seq #[u,v]},toks:=t'}:=I.laid (t':=t') (λb o e=>W6 _ e) (We _) (show bE X.prog X.w _ _ _ (.tup [x,y])from⟨by simp only[Q4,Up];rw[Qf];decide,[u,v],.cons ru (.cons rv .nil),iK.new _ _⟩);have:=Inv.oi (t':=t') (h':=h') fp I1 (λb o hb eb=>?_) λb hb=>?_;.exact this
 .rcases Heap.get?_push_cases eb with⟨z,z'⟩|eb;.subst z z';exact hT
  .exact k b o hb eb
 .obtain⟨f0,r⟩:=hf b hb;exact⟨%[aI (WA (bq b hb))|f0],r⟩
def mZ(b:Bool)(K:W2)(H:Hp)(a:Addr)(xs:List V):Prop:=match b with|true=>cU K H a xs|false=>df K H a xs
theorem Inv.EY{xs}(I:Inv X pins σ H s)(h:mZ b X.K H a xs):∃its,Vals xs its/\kR b s.heap a its.toArray:=by
 cases b;.obtain⟨its,rv,p,_⟩:=I.tuple (h:df X.K H a xs);exact⟨its,rv,p⟩
 .obtain⟨its,rv,p,_⟩:=I.list (h:cU X.K H a xs);exact⟨its,rv,p.isList⟩
theorem Inv.S_{xs}(I:Inv X pins σ H s)(h:mZ b X.K H a xs)(h':mZ b X.K H a ys):xs=ys:=by
 cases b;.exact I.Bi h h'
 .exact I.Bh h h'
def gz(xs ys:List D):List D:=List.zipWith (λx y=>D.tup [x,y]) xs ys
theorem EZ{xs ys:List D}{d:D}(h:(gz xs ys)[i]?=some d):∃x y,xs[i]?=some x/\ys[i]?=some y/\d=.tup [x,y]:=by unfold gz at h;rw[List.getElem?_zipWith]at h;cases e1:xs[i]? with|none=>rw[e1]at h;cases h|some x=>cases e2:ys[i]? with|none=>rw[e1,e2]at h;cases h|some y=>rw[e1,e2]at h;cases h;exact⟨x,y,rfl,rfl,rfl⟩
theorem aF.two{u x}(r:Rep H O u x)(r':Rep H O v y):aF H O [u,v] [x,y]:=by refine⟨rfl,λj v' d' e1 e2=>?_⟩;match j with|0=>simp at e1 e2;subst e1 e2;exact r|1=>simp at e1 e2;subst e1 e2;exact r'|j+2=>simp at e1
noncomputable def qM:D->Option (List D)|.lst ds=>some ds|.tup ds=>some ds|_=>none
theorem Rep.sq{d:D}(r:Rep H O v d)(e:qM d=some ds):∃(b:Bool)(a:Addr)(vs:List V),v=.ref a/\mZ b K H a vs/\aF H O vs ds/\∀H2,(∀p o,H p=some o->¬O p->H2 p=some o)->mZ b K H2 a vs:=by
 cases d<;>first|(simp[qM]at e;done)|skip
 .cases r with|tup h1 h2 h3 h4=>simp only[qM,Wd]at e;subst e;exact⟨false,_,_,rfl,df.of h2,⟨h3,h4⟩,λH2 k=>df.of (k _ _ h2 h1)⟩
 .cases r with|lst h1 h2 h3 h4=>simp only[qM,Wd]at e;subst e;exact⟨true,_,_,rfl,.inl h2,⟨h3,h4⟩,λH2 k=>.inl (Rd.keep h2 λo e=>k _ o e h1)⟩
section
variable{g:Array GenState}{d:Drawn}{t:Nat}
variable{nm qn:Str}{N:Addr}{bs bm uu:List Value}{sub:List Value}{col:Option Bool}{k0 k1 k2 k3 k5:Option Value}{B newId E3:String}
theorem Ta{vs Q}(F:ExcBaseFacts B newId E3 uu)(T:OwnTail hp uu bm)(hC:hp.get? C=some (excClassObj nm qn C N bs bm hdct sn sub ab col dd k0 k1 k2 k3 k5 newId))(hN:hp.Ns N mN)(hi:mN "__init__"=some (.ref f))(hf:hp.get? f=some o)(qN:o.cls=.type "function")(q:∀h' e,Heap.MadeExcOf hp h' e (.ref C) vs->W4 (model prog w) A (call (.ref f) (.ref e::vs)) (λr s'=>r=.none/\Q (.done (.ret (.ref e))) s') E ⟨h',g,d,t,os⟩)(hl:vs.length<=Wa):W4 (model prog w) A (Builtin.«type.__call__» ⟨.ref C::vs,[]⟩) Q E ⟨hp,g,d,t,os⟩:=by
 repeat(first|with_reducible refine Qr hC ?_|with_reducible refine wpAny_madeBy_exc hC ?_|wp_step)
 refine codeAny_call_builtin_code (Code.quiet_builtin _ F.quiet) (wpAny_check_new_subT F T hC (codeAny_exc_new_subT F T hC ?_ hl));show W4 _ _ _ _ _ _;have up:∀{o1 o2:Obj}{b:Addr}{u:Obj},hp.get? b=some u->((hp.push o1).push o2).get? b=some u:=λe=>W6 _ (W6 _ e);have E4:=up (o1:={cls:=.type "tuple",data:=.seq vs.toArray}) (o2:={cls:=.ref C,data:=.fields #[.ref hp.objs.size,.none,.none,.none,.bool false,.none]}) hC;have Tb:=up (o1:={cls:=.type "tuple",data:=.seq vs.toArray}) (o2:={cls:=.ref C,data:=.fields #[.ref hp.objs.size,.none,.none,.none,.bool false,.none]}) hf;have Tc:((hp.push {cls:=.type "tuple",data:=.seq vs.toArray}).push {cls:=.ref C,data:=.fields #[.ref hp.objs.size,.none,.none,.none,.bool false,.none]}).Ns N mN:=let⟨o,es,ep,e,r⟩:=hN;⟨o,es,ep,up e,r⟩;have he:((hp.push {cls:=.type "tuple",data:=.seq vs.toArray}).push {cls:=.ref C,data:=.fields #[.ref hp.objs.size,.none,.none,.none,.bool false,.none]}).get? (hp.objs.size+1)=some {cls:=.ref C,data:=.fields #[.ref hp.objs.size,.none,.none,.none,.bool false,.none]}:=by heap_get
 have hc:(Value.ref C::bm).contains (.ref C)=true:=by simp
 have T1:=T.keeps (h':=(hp.push {cls:=.type "tuple",data:=.seq vs.toArray}).push {cls:=.ref C,data:=.fields #[.ref hp.objs.size,.none,.none,.none,.bool false,.none]}) λb o e=>up e;unfold isInstance;repeat(first|with_reducible refine Qr he ?_|(with_reducible refine wpAny_isSubtype_exc E4 ?_;rw[hc])|wp_step)
 show W4 _ _ (JS (.ref C) _) _ _ _;refine wpAny_typeLookup_tail E4 Tc T1 F.mroIs F.init.lookup ?_;rw[hi];refine WB (W0 ?_);unfold bindSpecial;refine W0 (Jc (T:="function") ⟨_,Tb,qN⟩ ?_);rw[if_pos Z'];refine W5 (W0 (WR (q _ (hp.objs.size+1) ⟨λb o hb=>up hb,JP (Nat.le_succ _),hp.objs.size,he,JP (We _),W6 _ (Heap.get?_push_at rfl rfl)⟩) (λr s' hr=>?_) λ_ _ x=>x));obtain⟨rfl,hQ⟩:=hr;wp_walk;exact hQ
theorem Td{vs}(F:ExcBaseFacts B newId E3 uu)(T:OwnTail hp uu bm)(hC:hp.get? C=some (excClassObj nm qn C N bs bm hdct sn sub ab col dd k0 k1 k2 k3 k5 newId))(hN:hp.Ns N mN)(hi:mN "__init__"=some (.ref f))(hf:hp.get? f=some o)(qN:o.cls=.type "function")(q:∀h' e,Heap.MadeExcOf hp h' e (.ref C) vs->W4 (model prog w) (A.under (.builtin "type.__call__" ⟨.ref C::vs,[]⟩)) (call (.ref f) (.ref e::vs)) (λr s'=>r=.none/\Q (.ref e) s') E ⟨h',g,d,t,os⟩)(hl:vs.length<=Wa):W4 (model prog w) A (call (.ref C) vs) Q E ⟨hp,g,d,t,os⟩:=by
 have f1:=tc_lookup;have f2:=tc_bind (.ref C);have hT:(⟨hp,g,d,t,os⟩:W1).TypeIs (.ref C) "type":=⟨_,hC,rfl⟩;refine Ud (codeAny_of_tree ?_);show W4 _ _ (callAny (.ref C) _) _ _ _;repeat(any_goals(first|assumption|with_reducible refine Qr hC ?_|wp_step))
 exact⟨rfl,codeAny_call_builtin_at (Code.quiet_builtin _ Re) entry_typeCall (wpAny_check_type_call_sub hC (Ta F T hC hN hi hf qN (λh' e hm=>q h' e hm) hl))⟩
theorem Te{x Q}(hh:A.handled=none)(h:W4 M A x (λv s1=>∃(e C N:Addr)(dx:Option Addr)(vs:Array Value)(sl:Array (Option Value))(nm qn:Str)(bs bm:List Value)(hdct:Bool)(sn:List Str)(sub:List Value)(ab:Bool)(col:Option Bool)(dd:Option Addr)(k0 k1 k2 k3 k5:Option Value)(newId:String),v=.ref e/\bm.contains (.type "BaseException")=true/\s1.heap.get? C=some (excClassObj nm qn C N bs bm hdct sn sub ab col dd k0 k1 k2 k3 k5 newId)/\s1.heap.get? e=some ⟨.ref C,dx,.fields vs,sl⟩/\vs[1]?=some .none/\E (.ref e) s1) E s):W4 M A (raiseStmt env (some x) none) Q E s:=by
 unfold raiseStmt;refine W0 (WR h (λv s1 h1=>?_) λ_ _ x=>x);obtain⟨e,C,N,dx,vs,sl,nm,qn,bs,bm,hdct,sn,sub,ab,col,dd,k0,k1,k2,k3,k5,newId,rfl,hb,hC,he,hv,hE⟩:=h1;have hc:(Value.ref C::bm).contains (.type "BaseException")=true:=by rw[Je,hb,Bool.or_true]
 obtain⟨hp,g,d,tk,os⟩:=s1;repeat(first|with_reducible refine Qr he ?_|with_reducible refine Qr hC ?_|(with_reducible refine wpAny_isSubtype_exc hC ?_;rw[hc])|wp_step)
 rw[hv];repeat(first|wp_step)
 exact wpAny_raiseNew_none hh hE
end
section
open PySem.W PySem.Builtin PySem.Builtin.ObjectAttr
def uv:List Value->Bool|.ref _::r=>uv r|l=>l==jr
theorem xY(self:Value):∀{l:List Value},uv l=true->refuseLoop self "__setattr__" l=pure ()|[],e=>by cases e|.ref c::r,e=>%[refuseLoop_ref|xY self e]|.none::r,e=>by cases e|.type n::r,e=>by have:Value.type n::r=jr:=beq_iff_eq.mp e;rw[this];exact PySem.F.store_ValueError.passes self|.bool b::r,e=>by cases beq_iff_eq.mp (show((Value.bool b::r)==jr)=true from e)|v::r,e=>by cases v<;>first|(rw[refuseLoop_ref];exact xY self e)|(rw[show _=jr from beq_iff_eq.mp e];exact PySem.F.store_ValueError.passes self)
theorem E5:∀{l:List Value},uv l=true->l.contains (.type "object")=true|[],e=>by cases e|v::r,e=>by cases v<;>first|(rw[Je,E5 (l:=r) e,Bool.or_true])|(rw[show _=jr from beq_iff_eq.mp e];decide)
def qO(K:W2)(C:Addr):Bool:=(clsIn K C).any λcd=>uv cd.mro
section
variable{x:Addr}{v:Value}
theorem E6{od}(X:K.In s.heap)(I:InstAt s.heap x ox C od)(hp:qO K C=true)(ht:takerIn K C name=some none)(q:∀b,W4 (model prog w) A.in1 (storeInOwnDict (.ref x) (.ref C) (.str name tk) name v b) (λfin s'=>match fin with|.done f=>R (.ok f) s'|.again c'=>c'.quiet=true/\QH (model prog w) A c' R s') (λe s'=>R (.error e) s') s):QH (model prog w) A (.call (.builtin "object.__setattr__") ⟨[.ref x,.str name tk,v],[]⟩) R s:=by
 have SF:=PySem.F.store_object;obtain⟨cd,hc,ho⟩:=any_some hp;have ne:cd.mro.isEmpty=false:=by cases z:cd.mro with|nil=>rw[z]at ho;cases ho|cons _ _=>rfl
 have sub:Looks (model prog w) s.heap (isInstance (.ref x) (.type "object")) true:=I.type.andThen (looks_mroIn X (by unfold mroIn;rw[hc,Wz,if_neg (by rw[ne];decide),E5 ho]));refine JT SF.slot.plain SF.entry (@check_slot (model prog w) _ _ s "object.__setattr__" "object" "__setattr__" (.ref x) [.str name tk,v] [] _ SF.kind SF.split sub (SF.args (.ref x) (.str name tk) v) ?_);obtain⟨attr,ha,hr⟩:=Option.bind_eq_some_iff.mp ht;have hm:Looks (model prog w) s.heap (mroOf (.ref C)) cd.mro:=(looks_clsIn X hc).andThen .now;have L3:Looks (model prog w) s.heap (storeTaker? attr) none:=by cases attr with|none=>exact .now|some a=>
   obtain⟨b,hb,hn⟩:=Ww.mp hr;refine(looks_takesIn X hb).andThen ?_;cases b;.exact .now
   .cases hn
 rw[osa_eq,refuse_eq];refine W0 (W0 (I.type.here (W0 (hm.here ?_))));rw[xY _ ho];exact W5 (W0 (I.type.here (W0 ((Ub X ha).here (W0 (L3.here (q _)))))))
theorem Tf{vs Q}(X:K.In s.heap)(hx:s.heap.get? x=some ⟨.ref C,none,.fields vs,sl⟩)(hs:QY K (.ref C) "__setattr__"=some (some (.builtin "object.__setattr__")))(hp:qO K C=true)(ht:takerIn K C name=some none)(hh:hasDictIn K C=true)(q:∀h' tk,h'.get? x=some ⟨.ref C,some s.heap.objs.size,.fields vs,sl⟩->(∀b o,b≠x->s.heap.get? b=some o->h'.get? b=some o)->h'.Ns1 s.heap.objs.size (λz=>if z=name then some v else none)->Q () {s with heap:=h',toks:=tk}):W4 (model prog w) A (setAttr (.ref x) name v) Q E s:=by have J:InstAt s.heap x ⟨.ref C,none,.fields vs,sl⟩ C none:=⟨hx,rfl,rfl,trivial⟩;refine set_plain X J hs (E6 (s:={s with toks:=s.toks+1}) X J hp ht λb=>?_);obtain⟨cd,hc,hd'⟩:=any_some hh;have E7:(s.heap.push {cls:=.type "dict",data:=.dict #[]}).get? x=some ⟨.ref C,none,.fields vs,sl⟩:=W6 _ hx;have E8:x≠s.heap.objs.size:=WA (Wi hx);refine W0 (W5 (W0 (W0 (wpAny_loadPart hx (W0 (PySem.W.Looks.here (s:={s with toks:=s.toks+1}) (PySem.W.looks_clsIn X hc) ?_))))));rw[hd'];show W4 _ _ (alloc {cls:=.type "dict",data:=.dict #[]}>>=λd=>(update x λo=>{cls:=o.cls,dict:=some d,data:=o.data,slots:=o.slots})>>=λ_=>dictMade (.ref C) x d) _ _ _;refine W0 (wpAny_alloc' (W0 (wpAny_update' E7 (W5 ?_))));have gd:((s.heap.push {cls:=.type "dict",data:=.dict #[]}).update x λo=>{cls:=o.cls,dict:=some s.heap.objs.size,data:=o.data,slots:=o.slots}).get? s.heap.objs.size=some {cls:=.type "dict",data:=.dict #[]}:=(Heap.get?_update_ne _ _ _ _ E8.symm).trans (Heap.get?_push_at rfl rfl);have nd:((s.heap.push {cls:=.type "dict",data:=.dict #[]}).update x λo=>{cls:=o.cls,dict:=some s.heap.objs.size,data:=o.data,slots:=o.slots}).Ns s.heap.objs.size λ_=>none:=⟨_,#[],_,gd,rfl,λe he=>absurd he U',λ_=>rfl⟩;show W4 _ _ (storeInDict s.heap.objs.size (.str name _) name v) _ _ _;unfold storeInDict newKeyGuard;refine W0 (W5 (W0 (wpAny_nsSet1 (Heap.Ns1.of_empty nd) λh' gE sb=>?_)));obtain⟨oD,esD,epD,hoD,hdD,hcD⟩:=gE.count (Within.cons name v Within.nil);refine W0 (wpAny_lookBehind hoD %[hdD|pastItsLine_dict (WS hcD (by rw[Q4,Up,Qf];lia))] ?_);refine W5 (q h' _ ((sb.2 x E8).trans (Q3 _ E7 rfl)) (λb o hb e=>?_) gE);exact(sb.2 b (WA (Wi e))).trans ((Heap.get?_update_ne _ _ _ _ hb).trans (W6 _ e))
theorem Tg{vs:Array Value}{dx:Addr}{Q:Unit->W1->Prop}(X:K.In s.heap)(hx:s.heap.get? x=some ⟨.ref C,some dx,.fields vs,sl⟩)(hd:s.heap.Ns1 dx mA)(ne:dx≠x)(hs:QY K (.ref C) "__setattr__"=some (some (.builtin "object.__setattr__")))(hp:qO K C=true)(ht:takerIn K C name=some none)(hh:hasDictIn K C=true)(hw:PySem.Within mA ns)(hsz:ns.length<Wa)(q:∀h' tk,Jb dx s.heap h'->h'.Ns1 dx (λz=>if z=name then some v else mA z)->Q () {s with heap:=h',toks:=tk}):W4 (model prog w) A (setAttr (.ref x) name v) Q E s:=by obtain⟨od,ho,hl⟩:=v3 hd;have J:InstAt s.heap x ⟨.ref C,some dx,.fields vs,sl⟩ C (some od):=⟨hx,rfl,rfl,ho⟩;refine set_plain X J hs (E6 (s:={s with toks:=s.toks+1}) X J hp ht λb=>?_);obtain⟨cd,hc,hd'⟩:=any_some hh;refine W0 (W5 (W0 (W0 (wpAny_loadPart hx (W0 (PySem.W.Looks.here (s:={s with toks:=s.toks+1}) (PySem.W.looks_clsIn X hc) ?_))))));rw[hd'];refine W5 (a:=some dx) (W0 (W5 (W0 ?_)));refine wpAny_nsSet1 (s:={s with toks:=s.toks+1}) hd λh' h2 sb=>?_;obtain⟨oD,esD,epD,hoD,hdD,hcD⟩:=h2.count (PySem.Within.cons name v hw);refine W0 (wpAny_lookBehind hoD %[hdD|pastItsLine_dict (WS hcD (by rw[Q4];lia))] ?_);exact W5 (q h' _ sb h2)
theorem Th{vs:Array Value}{dx:Addr}{expr:Bool}(X:K.In s.heap)(hx:s.heap.get? x=some ⟨.ref C,some dx,.fields vs,sl⟩)(hd:s.heap.Ns1 dx mA)(k:jT K C)(n4:QY K (.ref C) name=some none)(hh:hasDictIn K C=true)(hv:mA name=some v)(jm:handedIn v=true)(q:Q v {s with toks:=s.toks+1}):W4 (model prog w) A (getAttr (.ref x) name expr) Q E s:=by
 obtain⟨od,ho,hl⟩:=v3 hd;have J:InstAt s.heap x ⟨.ref C,some dx,.fields vs,sl⟩ C (some od):=⟨hx,rfl,rfl,ho⟩;obtain⟨h,g,d,t,os⟩:=s;have L0:Looks (model prog w) h (typeOf (.ref x)) (.ref C):=J.type;have L1:=Ub (M:=model prog w) X k.ga;have L2:=Ub (M:=model prog w) X k.gt;have L4:=looks_find (M:=model prog w) X J (findObj_own (v:=v) hh n4 rfl (by rw[hl,hv]));have Su:(expr&&onTheHeap (Value.builtin "BaseException.__getattribute__"))=false:=by cases expr<;>rfl
 have qK:(Value.builtin "BaseException.__getattribute__"==Value.builtin "object.__getattribute__")=false:=by decide+kernel
 have f3:=F.attrBase_ValueError.ga.bind (.ref x);unfold getAttr getAttrBy;refine W0 (wpAny_mkText (WB (W0 (L0.at (W0 (L1.at ?_))))));dsimp only;rw[qK,Bool.and_false];simp only[Qe,if_false];unfold getAttrByItsOwn hookBefore;repeat(any_goals(first|assumption|with_reducible refine Looks.at L2 ?_|wp_step))
 refine JT F.attrBase_ValueError.ga.plain F.entry_bexc_ga (EN X k hx rfl ?_);repeat(any_goals(first|assumption|with_reducible refine Looks.at L0 ?_|with_reducible refine Looks.at L4 ?_|wp_step))
 show W4 _ _ (handedOut v) _ _ _;rw[handedOut_of jm];exact W5 q
end
def lS(C a:Addr):Heap->Prop:=λh=>∃vs sl a0,h.get? a=some ⟨.ref C,none,.fields vs,sl⟩/\vs[0]?=some a0/\vs[1]?=some .none
def hV(C:Addr)(dx:Option Addr)(a:Addr):Heap->Prop:=λh=>∃vs sl a0,h.get? a=some ⟨.ref C,dx,.fields vs,sl⟩/\vs[0]?=some a0/\vs[1]?=some .none
section
variable{h:Heap}
theorem Ti(q:lS C a h):bE P w H h a (.ext (lS C a)):=by
 refine⟨q,?_,?_⟩;.obtain⟨vs,sl,a0,e,_⟩:=q;exact⟨_,e⟩
 .rintro h1 h2⟨vs,sl,a0,e,r⟩k;exact⟨vs,sl,a0,k _ e,r⟩
theorem Tj(q:hV C dx a h):bE P w H h a (.ext (hV C dx a)):=by
 refine⟨q,?_,?_⟩;.obtain⟨vs,sl,a0,e,_⟩:=q;exact⟨_,e⟩
 .rintro h1 h2⟨vs,sl,a0,e,r⟩k;exact⟨vs,sl,a0,k _ e,r⟩
theorem E9{fs:List (Str×V)}(q:gY fs a h):bE P w H h a (.ext (gY fs a)):=by
 refine⟨q,?_,?_⟩;.obtain⟨mA,⟨o,_,_,e,_⟩,_⟩:=q;exact⟨_,e⟩
 .rintro h1 h2⟨mA,⟨o,es,ep,e,c⟩,r⟩k;exact⟨mA,⟨o,es,ep,k _ e,c⟩,r⟩
end
structure qP(K:W2)(C:Addr)(f:Str):Prop where
 set:QY K (.ref C) "__setattr__"=some (some (.builtin "object.__setattr__"))over:qO K C=true
 hd:hasDictIn K C=true
 tk:takerIn K C f=some none
section
variable{o:Expr}{f:Str}
def E_(K:W2)(ta tv:TE)(f:Str):TS:=λD σ H=>tv σ H λy H1=>ta σ H1 λx H2=>∃a C,x=.ref a/\H2 a=some (.ext (lS C a))/\qP K C f/\∀dx,H2 dx=none->dx≠a->D.nx σ (upd (upd H2 a (.ext (hV C (some dx) a))) dx (.ext (gY [(f,y)] dx)))
theorem Tn{f g:Str}{y:V}(r:RelV y u):eF (List.lookup g [(f,y)]) (if g=f then some u else none):=by
 by_cases z:g=f;.subst z;simp[eF,r]
 .rw[WK,beq_eq_false_iff_ne.mpr z,if_neg z];trivial
theorem To(hex:X.ex=[])(ha:PE X o ta)(hv:PE X value tv)(hs:QN value (some (.Attribute o f pos')) pos.line X.env=pure false):PS X (.Assign [.Attribute o f pos'] value pos) (E_ X.K ta tv f):=by intro pins s σ H D I h;refine plainObj_wpAny_Assign_Attribute (aP (hv pins s σ H _ I h) λu s1⟨y,H1,I1,ry,q⟩=>aP (ha pins s1 σ H1 _ I1 q) λov s2 hh=>?_) hs;obtain⟨x,H2,I2,rx,a,C,ex,ea,c,q2⟩:=hh;subst ex;obtain rfl:ov=Value.ref a:=rx;obtain⟨⟨vs,sl,a0,e0,e1,e2⟩,_,_⟩:=show bE X.prog X.w H2 s2.heap a (.ext (lS C a))from I2.az a _ ea;have n0:=I2.az.fresh (We s2.heap.objs.size);have ne:s2.heap.objs.size≠a:=Qp (Wi e0);refine Tf I2.cO e0 c.set c.over c.tk c.hd λh' tk g1 g2 g3=>⟨σ,_,?_,q2 _ n0 ne⟩;have Iw:=I2.write (x:=a) (e:=a) (t':=tk) %[ea|True.intro] (.inl rfl) (λb u nb z=>g2 b u nb z) ⟨_,g1⟩ (Tj (P:=X.prog) (w:=X.w) (H:=upd H2 a (.ext (hV C (some s2.heap.objs.size) a))) ⟨vs,sl,a0,g1,e1,e2⟩);exact Iw.xQ (I2.apart hex (JP (We _)) %[aI ne|n0]) (E9 ⟨_,g3,λg=>Tn ry⟩)
def Fb(K:W2)(ta tv:TE)(f:Str):TS:=λD σ H=>tv σ H λy H1=>ta σ H1 λx H2=>∃a C dx fs,x=.ref a/\H2 a=some (.ext (hV C (some dx) a))/\H2 dx=some (.ext (gY fs dx))/\dx≠a/\fs.lookup f=none/\fs.length<=100/\qP K C f/\D.nx σ (upd H2 dx (.ext (gY (fs++[(f,y)]) dx)))
theorem Tp(ha:PE X o ta)(hv:PE X value tv)(hs:QN value (some (.Attribute o f pos')) pos.line X.env=pure false):PS X (.Assign [.Attribute o f pos'] value pos) (Fb X.K ta tv f):=by
 intro pins s σ H D I h;refine plainObj_wpAny_Assign_Attribute (aP (hv pins s σ H _ I h) λu s1⟨y,H1,I1,ry,q⟩=>aP (ha pins s1 σ H1 _ I1 q) λov s2 hh=>?_) hs;obtain⟨x,H2,I2,rx,a,C,dx,fs,ex,ea,ed,ne,lf,ln,c,q2⟩:=hh;subst ex;obtain rfl:ov=Value.ref a:=rx;obtain⟨⟨vs,sl,a0,e0,e1,e2⟩,_,_⟩:=show bE X.prog X.w H2 s2.heap a (.ext (hV C (some dx) a))from I2.az a _ ea;obtain⟨⟨mA,ns,rl⟩,_,_⟩:=show bE X.prog X.w H2 s2.heap dx (.ext (gY fs dx))from I2.az dx _ ed;have wi:PySem.Within mA (fs.map (·.1)):=λz hz=>by cases l:fs.lookup z with|none=>exact absurd (eF.none_of (by rw[<-l];exact rl z)) hz|some w=>obtain⟨l1,l2,e,_⟩:=List.lookup_eq_some_iff.mp l;rw[e];simp
 refine Tg I2.cO e0 ns ne c.set c.over c.tk c.hd wi (by rw[Wv,Qf];lia) λh' tk sb n2=>⟨σ,_,?_,q2⟩;obtain⟨od,es,ep,eo,_⟩:=id n2;refine I2.write (x:=dx) (e:=dx) (t':=tk) %[ed|True.intro] (.inl rfl) (λb u nb z=>(sb.2 b nb).trans z) ⟨_,eo⟩ (E9 ⟨_,n2,λg=>?_⟩);rw[List.lookup_append];by_cases z:g=f;.subst z;rw[lf];simpa[eF]using ry
 .rw[if_neg z];have:List.lookup g [(f,y)]=none:=by rw[WK,beq_eq_false_iff_ne.mpr z];rfl
  rw[this,Option.or_none];exact rl g
end
def lT(K:W2)(C f:Addr):Bool:=match K.lookup C with
 |some ⟨.type "type",_,.cls c,ss⟩=>match c.mro,ss.toList with|.ref C'::bm,[_,_,_,_,some (.builtin n),_]=>C'==C&&n=="ValueError.__new__"&&!c.hasDel&&tailIn K jr bm&&nsOkIn K c.ns&&nsIn K c.ns "__init__"==some (some (.ref f))|_,_=>false
 |_=>false
theorem Tq{h:Heap}{N:Addr}{m:Str->Option Value}{n:Str}{v:Value}(X:K.In h)(G:h.Ns N m)(e:nsIn K N n=some (some v)):m n=some v:=by
 obtain⟨o,es,ep,ho,hd,_,hf⟩:=G;unfold nsIn at e;split at e;next c d km n' sl q=>
  have z:=X _ _ q;rw[ho]at z;cases z;simp only at hd;injection hd with h1 h2;subst h1;split at e;next x hx=>cases e;rw[<-hf n];unfold nsFind findBy;rw[<-Array.find?_toList,hx];rfl
  next=>split at e<;>cases e
 next=>cases e
theorem Fd{h:Heap}(q:lT K C f=true)(X:K.In h):∃(bm:List Value)(N:Addr)(nm qn:Str)(bs:List Value)(hdct:Bool)(sn:List Str)(sub:List Value)(ab:Bool)(col:Option Bool)(dd:Option Addr)(k0 k1 k2 k3 k5:Option Value)(mN:Str->Option Value),h.get? C=some (excClassObj nm qn C N bs bm hdct sn sub ab col dd k0 k1 k2 k3 k5 "ValueError.__new__")/\h.Ns N mN/\mN "__init__"=some (.ref f)/\OwnTail h jr bm:=by
 unfold lT at q;split at q;next dd cd sl lk=>
  split at q;next C' bm k0 k1 k2 k3 n k5 e1 e2=>
   simp only[Wo,beq_iff_eq,JI]at q;obtain⟨⟨⟨⟨⟨c1,c2⟩,c3⟩,c4⟩,c5⟩,c6⟩:=q;subst c1;subst c2;have e3:sl=#[k0,k1,k2,k3,some (.builtin "ValueError.__new__"),k5]:=by cases sl;simp only at e2;rw[e2]
   subst e3;cases cd;simp only at e1 c3 c4 c5 c6 lk;subst e1;subst c3;have hN:=Heap.Ns.of_isNs (isNs_of_in X c5);exact⟨bm,_,_,_,_,_,_,_,_,_,dd,k0,k1,k2,k3,k5,_,X _ _ lk,hN,Tq X hN c6,tail_of_in X c4⟩
  next=>cases q
 next=>cases q
section
variable{k:Nat}{p:Pos}{t:TA}
theorem Tr{h:Heap}(X:K.In h)(q:isFn K (.ref f)=true):∃o,h.get? f=some o/\o.cls=.type "function":=by have z:(K.lookup f).map (·.cls)=some (.type "function"):=beq_iff_eq.mp q;obtain⟨o,lk,e⟩:=Ww.mp z;exact⟨o,X _ _ lk,e⟩
theorem Ts{Q:VK}(q:lT X.K C f=true)(gF:isFn X.K (.ref f)=true)(F:fz X.prog X.w X.K X.mg X.base cH k f fd ps sp)(hr:b_ (k+1) X.A)(hb:Binds X.K fd ps [])(hex:X.ex=[])(I:Inv X pins σ H s)(r:Vals vs us)(hl:us.length<=Wa)(h:∀a,H a=none->X.s₀.heap.get? a=none->sp (.ref a::vs) (upd H a (.ext (lS C a))) (λv H2=>v=.aJ/\Q (.ref a) H2) E0):W4 (model X.prog X.w) X.A (call (.ref C) us) (EP X pins σ Q) X.xe s:=by
 obtain⟨bm,N,nm,qn,bs,hdct,sn,sub,ab,col,dd,k0,k1,k2,k3,k5,mN,hC,hN,hi,hT⟩:=Fd q I.cO;obtain⟨o,hf,qN⟩:=Tr I.cO gF;obtain⟨hp,g,d,tk,os⟩:=s;refine Td PySem.F.excBase_ValueError hT hC hN hi hf qN (λh' a hm=>?_) hl;obtain⟨t0,ht,_,_⟩:=hm.there;have I1:Inv X pins σ H ⟨h',g,d,tk,os⟩:=I.kept (t':=tk) hm.keeps;have g1:=I.gone hex hm.new;have ap:=I.apart hex hm.new g1.1;have I2:Inv X pins σ (upd H a (.ext (lS C a))) ⟨h',g,d,tk,os⟩:=I1.xQ ap (Ti ⟨_,_,_,ht,rfl,rfl⟩);have hq:=h a g1.1 g1.2;have r2:Vals (V.ref a::vs) (Value.ref a::us):=.cons rfl r;have hZ:(Value.ref a::us++[]).length=ps.length:=by rw[WV,<-r2.length];exact F.len _ _ _ _ hq
 refine Ud (Js (F.run _ X.stack _ _ ⟨Value.ref a::us,[]⟩ (Value.ref a::us) _ _ E0 (hr.make C us []) (I2.nH.make C us []) (by have:=hb _ (Value.ref a::us) I2.cO hZ;rwa[WV]at this) r2 hq) λrr s' jv=>?_);cases rr with|error z=>exact jv.elim|ok fl=>cases fl with|ret u=>obtain⟨v,H',I3,rv,ev,q3⟩:=I2.after jv;subst ev;exact⟨rv,⟨V.ref a,H',I3,rfl,q3⟩⟩|next=>exact False.elim jv|brk=>exact False.elim jv|cont=>exact False.elim jv
theorem Tt(q:lT X.K C f=true)(gF:isFn X.K (.ref f)=true)(hk:keepIn X.K (.ref C)=true)(F:fz X.prog X.w X.K X.mg X.base cH k f fd ps sp)(hr:b_ (k+1) X.A)(hb:Binds X.K fd ps [])(hex:X.ex=[])(hg:Gl X x)(hm:X.mg x=some (.ref C))(ha:PA X (e::es) t)(hl:(e::es).length<=100)(dm:(x==("__debug__":Str))=false:=by decide)(he:W7 (e::es) X.env=(false,eval e X.env)::W7 es X.env:=by rfl)(bu:(WO pos (W7 es X.env)).any (·.1)=false:=by rfl):PE X (.Call (.Name x p) (e::es) [] pos) λσ H Q=>t σ H λvs H1=>vs.length<=100/\∀a,H1 a=none->X.s₀.heap.get? a=none->sp (.ref a::vs) (upd H1 a (.ext (lS C a))) (λv H2=>v=.aJ/\Q (.ref a) H2) E0:=by intro pins s σ H Q I h;refine Qw (kn I hg hm ?_ dm);refine callWith_K (h₀:=X.base) I.ok.mod.ki hk (aP (ha pos pins s σ H _ I h) λus s1⟨vs,H1,I1,r,q1⟩=>⟨I1.cO,?_⟩) he bu;exact Ts q gF F hr hb hex I1 r (by rw[WQ,<-r.length,Qf];have:=q1.1;lia) q1.2
end
def xZ(K:W2)(fl:List Str):Sp:=λvs H Q _=>∃a C ys,vs=.ref a::ys/\ys.length=fl.length/\H a=some (.ext (lS C a))/\(∀f∈fl,qP K C f)/\∀dx,H dx=none->dx≠a->Q .aJ (upd (upd H a (.ext (hV C (some dx) a))) dx (.ext (gY (fl.zip ys) dx)))
section
variable{f1 f2:Str}{st:Stmt}{k:Nat}
theorem Tu(F:dq K x qual st f fd)(S:eL N ps (aV st))(cQ:f2≠f1)(jq:ps.length=3)(h0:∀vs:List V,vs.length=3->start N vs=vs.map some)(cG:∀(aE:Value)(A:Wh)(outer:List Env)(s:W1)(H:Hp)(E:XK),b_ k (A.deeper (QB qual (aV st) s.heap.objs.size f aE))->dF (dG cH P w K mg base N qual (aV st) f aE A outer s H E).fE (cZ st) (Bj (E_ K (dZ 0) (dZ 1) f1) (Fb K (dZ 0) (dZ 2) f2))):fz P w K mg base cH (k+1) f fd ps (xZ K [f1,f2]):=by
 refine F.ok S λvs H Q E hh=>by obtain⟨a,C,ys,e,l,_⟩:=hh;rw[e,jq,Q4,l];rfl λaE A outer s H vs Q E hr⟨a,C,ys,e,l,ea,c,q⟩=>⟨_,cG aE A outer s H E hr,?_⟩;subst e;obtain⟨y,z,rfl⟩:=en2 l;rw[h0 _ rfl];refine⟨y,rfl,.ref a,rfl,a,C,rfl,ea,c _ U',λdx n0 ne=>⟨z,rfl,.ref a,rfl,a,C,dx,_,rfl,?_,bL,ne,?_,U',c _ U',?_⟩⟩;.rw[aI (Ne.symm ne),bL]
 .rw[WK,beq_eq_false_iff_ne.mpr cQ];rfl
 .have:=q dx n0 ne;rw[mj];exact this
end
theorem bE.less:∀{b:Addr}{o:HO},bE P w (upd H a (.ext φ)) h b o->bE P w H h b o:=by
 have dn:∀{c:Addr}{u:HO},upd H a (.ext φ) c=some u->(∀ψ,u≠.ext ψ)->H c=some u:=λ{c u}e n=>by
  by_cases hc:c=a;.subst hc;rw[bL]at e;cases e;exact absurd rfl (n φ)
  .rw[aI hc]at e;exact e
 intro b o;induction o generalizing b with|dT ar=>rintro⟨h1,h2,xs,h3,h4⟩;refine⟨h1,h2,xs,Lake.Paired.r_ h3 λp q⟨e1,e2,e3⟩=>⟨e1,dn e2 (λψ z=>by cases z),e3⟩,h4⟩|ins C dx fs=>rintro⟨h1,h2⟩;exact⟨dn h1 (λψ z=>by cases z),h2⟩|frz ob u ih=>exactλ⟨h1,h2⟩=>⟨h1,ih h2⟩|ctab pos q=>exactλ⟨ps,h1,h2,h3⟩=>⟨ps,h1,h2,λcv z=>let⟨c',oc,z1,z2,z3⟩:=h3 cv z;⟨c',oc,z1,dn z2 (λψ z=>by cases z),z3⟩⟩|_=>exactλx=>x
theorem Inv.Tv(I:Inv X pins σ (upd H a (.ext φ)) s)(hn:H a=none):Inv X pins σ H s:=by
 have dn:∀{c:Addr}{u:HO},upd H a (.ext φ) c=some u->(∀ψ,u≠.ext ψ)->H c=some u:=λ{c u}e n=>by
  by_cases hc:c=a;.subst hc;rw[bL]at e;cases e;exact absurd rfl (n φ)
  .rw[aI hc]at e;exact e
 have no:∀{c:Addr},upd H a (.ext φ) c=none->H c=none:=λ{c}e=>by
  by_cases hc:c=a;.subst hc;exact hn
  .rw[aI hc]at e;exact e
 refine⟨I.ok,I.os,I.bare,⟨I.base.keep,I.base.slot,λb o e n hx=>no (I.base.free b o e n hx),I.base.there,λb xs e=>dn (I.base.iL b xs e) (λψ z=>by cases z),λb o u e=>dn (I.base.gO b o u e) (λψ z=>by cases z),λb ps e=>?_⟩,I.loc,I.cell,no I.free,λx c e=>no (I.eU x c e),λp hp=>?_,λb o e=>?_,I.len⟩;.obtain⟨m,q⟩:=I.base.jb b ps e;exact⟨m,dn q λψ z=>by cases z⟩
 .obtain⟨e,n,r⟩:=I.pin p hp;exact⟨e,no n,r⟩
 .have hb:b≠a:=λz=>by rw[z,hn]at e;cases e
  exact(I.az b o %[aI hb|e]).less
section
variable{call:Expr}
theorem Tw{W:Option Addr->St->Hp->Prop}(q:lT X.K C f=true)(hc:X.calm=true)(he:PE X call te)(lA:∀pins σ H s a dx,Inv X pins σ (upd H a (.ext (hV C dx a))) s->H a=none->X.s₀.heap.get? a=none->W dx σ H->X.xe (.ref a) s):PS X (.Raise (some call) none pos) λ_ σ H=>te σ H λv H2=>∃a H1 dx,v=.ref a/\H2=upd H1 a (.ext (hV C dx a))/\H1 a=none/\X.s₀.heap.get? a=none/\W dx σ H1:=by intro pins s σ H D I h;rw[arm_exec_Raise];refine W0 (wpAny_standAt (Te (I.ok.hd hc) (W0 (aP (he pins s σ H _ I h) λv s1⟨x,H2,I2,rx,a,H1,dx,ex,eH,n1,n2,w⟩=>W0 (wpAny_standAt (W5 ?_))))));subst ex eH;obtain rfl:v=Value.ref a:=rx;obtain⟨bm,N,nm,qn,bs,hdct,sn,sub,ab,col,dd,k0,k1,k2,k3,k5,mN,hC,hN,hi,hT⟩:=Fd q I2.cO;obtain⟨⟨vs,sl,a0,e0,e1,e2⟩,_,_⟩:=show bE X.prog X.w (upd H1 a (.ext (hV C dx a))) s1.heap a (.ext (hV C dx a))from I2.az a _ bL;exact⟨a,C,N,dx,vs,sl,nm,qn,bs,bm,hdct,sn,sub,ab,col,dd,k0,k1,k2,k3,k5,_,rfl,hT.hasType rfl,hC,e0,e2,lA pins σ H1 s1 a dx I2 n1 n2 w⟩
end
end
section
open PySem.W
def m3(y:Tx)(fl:List Tx)(fs:DA):DS:=λδ=>(fs δ).bind λds δ1=>if ds.length=fl.length then .exc ⟨y,.xd (fl.zip ds)⟩ δ1 else .stuck
theorem Tz{dx:Addr}{fl:List Tx}(k:Ok c σ δ H)(n:H dx=none)(r:aF H (Av c σ δ) vs ds)(hl:ds.length=fl.length):Ok c σ δ (upd H dx (.ext (gY ((fl.map toS).zip vs) dx)))/\Rep (upd H dx (.ext (gY ((fl.map toS).zip vs) dx))) (Av c σ δ) (.ref dx) (.xd (fl.zip ds)):=by
 have r1:=aF.dw r (aK.alloc k n (.ext (gY ((fl.map toS).zip vs) dx)));refine⟨k.alloc n _,.xd (k.gZ n) bL ?_ λi p q e1 e2=>?_⟩
 .rw[List.map_fst_zip (by rw[Wv,r.1,hl];lia)];have z:(fl.zip ds).map (λp=>toS p.1)=((fl.zip ds).map Prod.fst).map toS:=by rw[WC];rfl
  rw[z,List.map_fst_zip Y']
 .rw[List.getElem?_zip_eq_some]at e1 e2;exact r1.2 i _ _ e1.2 e2.2
theorem TB{k:Nat}{fe:DA}{np br pos:Pos}(y:Tx)(gl:List Tx)(q:lT X.K C f=true)(gF:isFn X.K (.ref f)=true)(hk:keepIn X.K (.ref C)=true)(hS:∀z∈fl,qP X.K C z)(F:fz X.prog X.w X.K X.mg X.base cH k f fd ps (xZ X.K fl))(hr:b_ (k+1) X.A)(hb:Binds X.K fd ps [])(hc:X.calm=true)(hg:Gl X x)(hm:X.mg x=some (.ref C))(he:SA X c (e::es) fe)(hx:iY X (wD X.mg c))(hl:(e::es).length<=100)(lU:fl=gl.map toS:=by decide+kernel)(hZ:fl.length<=100:=by decide)(hy:x=toS y:=by decide+kernel)(hd:(x==("__debug__":Str))=false:=by decide)(hex:X.ex=[]:=by rfl)(hs:W7 (e::es) X.env=(false,eval e X.env)::W7 es X.env:=by rfl)(bu:(WO br (W7 es X.env)).any (·.1)=false:=by rfl):SS X c (.Raise (some (.Call (.Name x np) (e::es) [] br)) none pos) (m3 y gl fe):=PS.weak (Tw (W:=λdx σ H=>wD X.mg c C dx σ H) q hc (Tt (p:=np) (pos:=br) q gF hk F hr hb hex hg hm he.pa hl hd hs bu) λpins σ H s a dx I n1 n2 w=>by
 obtain⟨⟨vs,sl,a0,e0,e1,e2⟩,_,_⟩:=show bE X.prog X.w (upd H a (.ext (hV C dx a))) s.heap a (.ext (hV C dx a))from I.az a _ bL;have ne:∀{b:Addr},upd H a (.ext (hV C dx a)) b=none->a≠b:=λ{b}z e=>by rw[<-e,bL]at z;cases z
 exact hx pins σ H s a C dx (I.Tv n1) (.inr ⟨⟨vs,sl,a0,e0,e1,e2⟩,n2,n1,ne I.free,λx c hc z=>ne (I.eU x c hc) z.symm,λp hp z=>ne (I.pin p hp).2.1 z.symm⟩) w) λD σ H⟨δ,k,q⟩=>by
  unfold m3 dJ at q;rw[bh]at q;refine⟨δ,k,aN q λds δ1 q1 vs H1 a1 r1=>?_⟩;split at q1
  .rename_i hlen;have uw:vs.length=fl.length:=by rw[r1.1,hlen,lU,Wv]
   refine⟨Y',λa n1 n2=>⟨a,C,vs,rfl,uw,bL,hS,λdx d1 d2=>⟨rfl,a,upd H1 dx (.ext (gY (fl.zip vs) dx)),some dx,rfl,?_,?_,n2,?_⟩⟩⟩
   .funext b;unfold upd;by_cases hb:b=a;.subst hb;simp[Ne.symm d2]
    .simp[hb]
   .rw[aI (Ne.symm d2)];exact n1
   .have TC:H1 dx=none:=by rwa[aI d2]at d1
    obtain⟨k1,rx⟩:=Tz (fl:=gl) a1.ok TC r1 hlen;rw[lU];exact⟨⟨y,.xd (gl.zip ds)⟩,δ1,.ref dx,by rw[<-hy];exact hm,k1,rx,λz e=>by cases e;rfl,q1⟩
  .exact q1.elim
def x6(P:Wg)(w:Wp)(K:W2)(mg:Str->Option Value)(base:Heap)(C:Addr)(fl:List Str):Prop:=∃(f:Addr)(fd:WH)(ps:List Str),lT K C f=true/\isFn K (.ref f)=true/\keepIn K (.ref C)=true/\(∀z∈fl,qP K C z)/\Binds K fd ps []/\fz P w K mg base cH 1 f fd ps (xZ K fl)
theorem TF{fe:DA}{np br pos:Pos}(y:Tx)(gl:List Tx)(N:x6 X.prog X.w X.K X.mg X.base C fl)(hr:b_ 2 X.A)(hc:X.calm=true)(hg:Gl X x)(hm:X.mg x=some (.ref C))(he:SA X c (e::es) fe)(hx:iY X (wD X.mg c))(hl:(e::es).length<=100:=by decide)(lU:fl=gl.map toS:=by decide+kernel)(hZ:fl.length<=100:=by decide)(hy:x=toS y:=by decide+kernel)(hd:(x==("__debug__":Str))=false:=by decide)(hex:X.ex=[]:=by rfl)(hs:W7 (e::es) X.env=(false,eval e X.env)::W7 es X.env:=by rfl)(bu:(WO br (W7 es X.env)).any (·.1)=false:=by rfl):SS X c (.Raise (some (.Call (.Name x np) (e::es) [] br)) none pos) (m3 y gl fe):=by obtain⟨f,fd,ps,h1,h2,h3,h4,h5,h6⟩:=N;exact TB y gl h1 h2 h3 h4 h6 hr h5 hc hg hm he hx hl lU hZ hy hd hex hs bu
def TJ:Stmt->List Stmt|.ClassDef _ _ _ b _ _ _ _ _ _ _=>b|_=>[]
end
section
variable{p:Addr}
theorem Ok.TK(k:Ok (c.plus p) σ δ H)(h0:c.H₀ p=none)(o:HO):Ok (c.plus p) σ δ (upd H p o):=by
 have t9:∀b w,H b=some w->¬Av (c.plus p) σ δ b->upd H p o b=some w:=λb w e n=>by rw[aI λz:b=p=>n (.inl (.inr z))];exact e
 have ex:∀b,(∃w,H b=some w)->∃w,upd H p o b=some w:=λb⟨w,e⟩=>by
  by_cases z:b=p;.rw[z];exact⟨o,bL⟩
  .rw[aI z];exact⟨w,e⟩
 refine⟨λa w e n=>?_,λa z=>ex a (k.bd a z),λa z=>ex a (k.du a z),k.len,λi d e=>?_,λi d e=>?_,k.inj,k.pinned⟩;.rw[aI λz:a=p=>by have e':c.H₀ a=some w:=e;grind];exact k.keep a w e n
 .obtain⟨v,e1,r⟩:=k.slot i d e;exact⟨v,e1,r.keep t9⟩
 .obtain⟨a,e1,oa,h1,h2⟩:=k.own i d e;exact⟨a,e1,oa.keep t9 λw e=>%[aI λz:a=p=>h2 (.inr z)|e],h1,h2⟩
theorem Fe(h:post c r k)(m:∀a δ,k a δ->k' a δ):post (c.plus p) r k':=by cases r with|ok a δ=>exact m a δ h|exc x δ=>exact h|stuck=>exact h
end
section
variable{h:Heap}{q:Str}{st:Stmt}
abbrev bK(K:W2)(x:Str)(st:Stmt):Prop:=∃(f:Addr)(oc:Value)(od:Option Addr)(kV dc pm:Value)(an:Option Addr)(cd ct:Value)(sl:Array (Option Value)),PySem.W.nsIn K Wn x=some (some (.ref f))/\K.lookup f=some ⟨oc,od,.func (WT x x (f6 st) (cZ st) (aV st) .none kV dc pm an cd ct),sl⟩/\PySem.W.codeIn K cd x=true/\Qq K (.ref f)=true
theorem qQ(X:K.In h)(G:h.Ns Wn mg)(d:bK K x st):∃f fd,dq K x x st f fd/\mg x=some (.ref f):=by obtain⟨f,oc,od,kV,dc,pm,an,cd,ct,sl,a,l,c,k⟩:=d;exact⟨f,_,sM l c k,PySem.W.mg_of X G a⟩
abbrev Bd(x q:Str)(st:Stmt)(ps:List Str)(us:List Value):Prop:=∀(kV doc pm:Value)(an:Option Addr)(aE ct:Value),bindArgs (WT x q (f6 st) (cZ st) (aV st) .none kV doc pm an aE ct) ⟨us,[]⟩=pure (ps.zip us)
variable{p1 p2 p3 p4 p5 p6:Str}
theorem Ff(F:dq K x q st f fd)(h:∀a,Bd x q st [p1] [a]):Binds K fd [p1] []:=F.binds λ_ _ _ _ _ _ us hl=>by obtain⟨a,rfl⟩:=en1 hl;exact h a _ _ _ _ _ _
theorem qR(F:dq K x q st f fd)(h:∀a b,Bd x q st [p1,p2] [a,b]):Binds K fd [p1,p2] []:=F.binds λ_ _ _ _ _ _ us hl=>by obtain⟨a,b,rfl⟩:=en2 hl;exact h a b _ _ _ _ _ _
theorem ux(F:dq K x q st f fd)(h:∀a b c,Bd x q st [p1,p2,p3] [a,b,c]):Binds K fd [p1,p2,p3] []:=F.binds λ_ _ _ _ _ _ us hl=>by obtain⟨a,b,c,rfl⟩:=en3 hl;exact h a b c _ _ _ _ _ _
theorem Fg(F:dq K x q st f fd)(h:∀a b c d,Bd x q st [p1,p2,p3,p4] [a,b,c,d]):Binds K fd [p1,p2,p3,p4] []:=F.binds λ_ _ _ _ _ _ us hl=>by obtain⟨a,b,c,d,rfl⟩:=en4 hl;exact h a b c d _ _ _ _ _ _
end
theorem Fh{α:Type}{P:α->Prop}{a:α}(x:P a):∀z∈[a],P z:=λ_ h=>by cases h with|head=>exact x|tail _ h=>cases h
theorem cJ{α:Type}{P:α->Prop}{a b:α}(x:P a)(y:P b):∀z∈[a,b],P z:=λ_ h=>by cases h with|head=>exact x|tail _ h=>exact Fh y _ h
section
variable{f:Str}
structure uy(K:W2)(ce:Tx->Nat)(ys:List Tx)(f:Str):Prop where
 k:∀z∈ys,jT K (ce z)no:∀z∈ys,PySem.W.findIn K (.ref (ce z)) f=some none
 hd:∀z∈ys,JH K (ce z)=true
theorem TL(T:uy X.K ce ys f)(he:PE X e ta)(hb:QL e f X.env (eval e X.env)=eval e X.env):PE X (.Attribute e f pos) λσ H Q=>ta σ H λx H1=>∃(a dx:Addr)(z:Tx)(fs:List (Str×V))(v:V),x=.ref a/\z∈ys/\H1 a=some (.ext (excAt (ce z) (.ref dx) a))/\H1 dx=some (.ext (gY fs dx))/\fs.lookup f=some v/\Q v H1:=by intro pins s σ H Q I h;refine Mw hb (aP (he pins s σ H _ I h) λu s1 hh=>?_);obtain⟨x,H1,I1,rx,a,dx,z,fs,v,ex,hz,ea,ed,l,q⟩:=hh;subst ex;obtain rfl:u=Value.ref a:=rx;obtain⟨⟨⟨cls,dd,data,sl⟩,o1,o2,o3,vs,o4⟩,_,_⟩:=show bE X.prog X.w H1 s1.heap a (.ext (excAt (ce z) (.ref dx) a))from I1.az a _ ea;obtain⟨⟨mA,ns,rl⟩,_,_⟩:=show bE X.prog X.w H1 s1.heap dx (.ext (gY fs dx))from I1.az dx _ ed;have o5:dd=some dx:=o3 dx rfl;have o6:cls=.ref (ce z):=o2;have o7:data=.fields vs:=o4;subst o5;subst o6;subst o7;obtain⟨w,hw,cp⟩:=eF.some_of (by rw[<-l];exact rl f);exact Th I1.cO o1 ns (T.k z hz) (T.no z hz) (T.hd z hz) hw (Mu cp) ⟨v,H1,I1.tok _,cp,q⟩
end
def gH(ce:Tx->Nat)(ys:List Tx)(f:Tx)(fb:BE):DE:=λδ=>(fb δ).bind λd δ'=>match d with
 |.exc n (.xd fs)=>match ys.find? λz=>ce z==n,fs.lookup f with|some _,some d=>.ok (.pure d) δ'|_,_=>.stuck
 |_=>.stuck
theorem Fi{f}:∀{fs:List (Str×V)}{ds:List (Tx×D)}{d:D},fs.map (·.1)=ds.map (λp=>toS p.1)->(∀(i:Nat)p q,fs[i]?=some p->ds[i]?=some q->Rep H O p.2 q.2)->ds.lookup f=some d->∃v,fs.lookup (toS f)=some v/\Rep H O v d
 |_,[],_,_,_,h=>by simp at h|[],_::_,_,h,_,_=>by simp at h|p::fs,q::ds,d,h1,h2,h=>by
  obtain⟨n,v⟩:=p;obtain⟨g,e⟩:=q;simp only[Wf,List.cons.injEq]at h1;obtain⟨rfl,h1⟩:=h1;by_cases z:f=g;.subst z;simp only[WK,beq_self_eq_true,Wd]at h;subst h;exact⟨v,U',h2 0 _ _ rfl rfl⟩
  .have zs:toS f≠toS g:=λw=>z (qb w);rw[WK,beq_eq_false_iff_ne.mpr z]at h;rw[WK,beq_eq_false_iff_ne.mpr zs];exact Fi h1 (λi p q e1 e2=>h2 (i+1) p q (~~~e1) (~~~e2)) h
theorem Fj(f:Tx)(T:uy X.K ce ys x)(he:SB X c e fb)(hx:x=toS f:=by decide+kernel)(hb:QL e x X.env (eval e X.env)=eval e X.env:=by rfl):SE X c (.Attribute e x pos) (gH ce ys f fb):=PE.weak (TL T he hb) λσ H Q⟨δ,k,q⟩=>by
  unfold gH at q;rw[bh]at q;refine⟨δ,k,aN q λd δ1 q1 v H1 a1 r1=>?_⟩;cases d<;>first|exact q1.elim|skip
  rename_i n fl;cases fl<;>first|exact q1.elim|skip
  rename_i ds;simp only at q1;split at q1
  .rename_i z d hz hd;have h1:=Uq hz;have h2:=Jq hz;have e:ce z=n:= ~~~h1;subst e;rcases r1 with r1|⟨a,_,o⟩;.cases r1 with|exc _ ha r2=>cases r2 with|xd _ qK h3 h4=>obtain⟨v,l,rv⟩:=Fi h3 h4 hd;exact⟨_,_,z,_,v,rfl,h2,ha,qK,%[hx|l],q1 _ H1 a1 rv⟩
   .exact o.elim
  .exact q1.elim
section
open PySem.SeqAt
def x8(z:Str):Value->Bool|.str x _=>x==z|_=>false
theorem TM{xs}(h:Vals xs us):∀(j:Nat)(u:Value),us[j]?=some u->∃v,xs[j]?=some v/\RelV v u:=by induction h with|nil=>intro j u e;simp at e|cons r rs ih=>intro j u e;cases j with|zero=>simp at e;subst e;exact⟨_,rfl,r⟩|succ j=>simpa using ih j u (~~~e)
def Fm(K:W2):V->List V->Hp->VK->Prop:=λx xs H Q=>∃(a:Addr)(ts:List Tx)(z:Tx),x=.ref a/\xs=[.str (toS z)]/\cU K H a (ts.map λt=>V.str (toS t))/\z∈ts/\ts.length<=1000/\Q (.int (ts.idxOf z:Nat)) H
theorem TN:nJ X "list.index" (Fm X.K):=by
 intro pins s σ H x xs v us Q I rx rs h;obtain⟨a,ts,z,rfl,rfl,hq,hm,hl,q⟩:=h;obtain⟨u,rfl,ru⟩:=gS rs;obtain⟨tk,rfl⟩:=ru;cases rx;obtain⟨its,r',p,_⟩:=I.list hq;obtain⟨⟨cls,dd,data,sl⟩,ho,hc,n,hd⟩:=p.isList;simp only at hc hd;subst hc;subst hd;have at':∀j(hj:j<its.length),∃t tk,ts[j]?=some t/\its[j]=.str (toS t) tk:=λj hj=>by obtain⟨v,e1,r1⟩:=TM r' j _ (W3 hj);rw[Wu]at e1;obtain⟨t,e2,e3⟩:=Ww.mp e1;subst e3;obtain⟨tk,e4⟩:=r1;exact⟨t,tk,e2,e4⟩
 have hlen:its.length=ts.length:=by have:=r'.length;simpa using this.symm
 have hj:ts.idxOf z<ts.length:=List.idxOf_lt_length_iff.mpr hm;have jU:ts.idxOf z<its.length:=by lia
 refine Jp QC ⟨_,ho,rfl⟩ PySem.F.entry_list_index (PySem.F.args_list_index_2 _ _) (list_indexAt a _ n dd sl (.str (toS z) tk) (x8 (toS z)) (ts.idxOf z) (~~~jU) Y' ?_ ?_) ⟨ho,λy hy=>?_,⟨.int (ts.idxOf z:Nat),H,I.tok _,⟨_,rfl⟩,q⟩⟩;.obtain⟨t,jo,e1,e2⟩:=at' _ jU;have e3:ts[ts.idxOf z]=z:=List.getElem_idxOf hj;rw[W3 hj,e3]at e1;cases e1;simp only[JU,e2,x8];exact beq_self_eq_true _
 .intro m oq bq;have uz:m<its.length:= ~~~oq;obtain⟨t,jo,e1,e2⟩:=at' m uz;have cQ:t≠z:=λe=>by
   subst e;have EV:m<ts.length:=by lia
   have z2:=List.not_of_lt_findIdx (p:=(.==t)) (xs:=ts) (i:=m) bq;rw[W3 EV]at e1;cases e1;simp at z2
  simp only[JU,e2,x8];rw[nR];exact beq_false_of_ne cQ
 .have kQ:y∈its:= ~~~hy;obtain⟨j,hjj,rfl⟩:=U1 kQ;obtain⟨t,jo,e1,e2⟩:=at' j hjj;rw[e2];exact EqAt.str_str _ _ _ _
end
noncomputable def uA:D->Bool|.lst _=>true|_=>false
noncomputable def m4(x y:D):Option S:=match x,y with
 |.lst ds,.str z=>match gc ds with|some ts=>if z∈ts/\ts.length<=1000 then some (.pure (.int (ts.idxOf z:Nat)))else none|none=>none
 |_,_=>none
def lV(fa fb:DE):DE:=λδ=>(fa δ).bind λr δ1=>if uA r.d then(fb δ1).bind λy δ2=>p2 m4 r.d y.d δ2 else .stuck
section
variable{o:Expr}{fa fb:DE}
theorem TQ:da (λx y H Q=>Fm K x [y] H Q) m4:=by intro c σ δ H x y d e s Q k rx ry hp q;cases d with
 |lst ds=>cases e with
  |str z=>
   simp only[m4]at hp;split at hp
   .rename_i ts ht;split at hp;.rename_i hz;cases hp;obtain⟨a,vs,ea,ha,r⟩:=rx.lst;have ev:=nX ht r;subst ev;exact⟨a,ts,z,ea,by rw[ry.str],.inl ha,hz.1,hz.2,q _ H (.refl k) (.int _)⟩
    .cases hp
   .cases hp|_=>simp[m4]at hp
 |_=>simp[m4]at hp
theorem TR(he:SE X c o fa)(hx:SE X c e fb)(iq:QL o "index" X.env (eval o X.env)=eval o X.env:=by rfl)(ir:((WO br (W7 [e] X.env)).all (λx=>!x.1)&&(backToKw br (JG [] X.env)).all (λx=>x.1.isSome)&&decide ([e].length+([]:List Keyword).length+(if([]:List Keyword).isEmpty then 0 else 1)<30))=true:=by rfl)(fA:(apos.endLine==br.line)=true:=by rfl)(hs:W7 [e] X.env=(false,eval e X.env)::W7 [] X.env:=by rfl):SE X c (.Call (.Attribute o "index" apos) [e] [] br) (lV fa fb):=by
 refine PE.weak (nM J0 QC PySem.F.type_list_index TN he (dU hx fH hs) iq ir fA hs rfl) λσ H Q h=>?_;obtain⟨δ,k,q⟩:=h;unfold lV at q;rw[bh]at q;refine⟨δ,k,aN q λr δ1 q1 v H1 a1 r1=>?_⟩;split at q1;case isFalse=>exact q1.elim
 rename_i hL;have ty:nK X.K "list" v H1:=by
  have r2:=r1.rep;cases hd:r.d<;>rw[hd]at hL<;>try cases hL
  rw[hd]at r2;obtain⟨a,vs,ea,ha,_⟩:=c7.lst (.inl r2:c7 c σ δ1 H1 v _);subst ea;exact .inl ⟨rfl,_,.inl ha⟩
 rw[bh]at q1;refine⟨ty,δ1,a1.ok,aN q1 λy δ2 q2 u H2 a2 r2=>?_⟩;exact tR TQ a2.ok (.inl (Rep.dw r1.rep a2)) (.inl r2.rep) (aN q2 λs δ3 q3 v' H3 a3 r3=>q3 v' H3 (a1.trans (a2.trans a3)) (aY.back r3 (a1.trans a2)))
end
section
open PySem.W
def Good(n:Nat){α:Type}:KasT α->(α->Prop)->Prop|.ret a,R=>R a|.ask i j k,R=>i<n/\j<n/\i≠j/\∀b,Good n (k b) R
def runK{α:Type}(lt:Nat->Nat->Bool):KasT α->α|.ret a=>a|.ask i j k=>runK lt (k (lt i j))
section
variable{α β:Type}
theorem Good.bind{R f}:∀{t:KasT α},Good n t R->(∀a,R a->Good n (f a) R')->Good n (t.bind f) R'|.ret a,h,k=>k a h|.ask i j g,h,k=>⟨h.1,h.2.1,h.2.2.1,λb=>Good.bind (h.2.2.2 b) k⟩
theorem Good.mono{R}:∀{t:KasT α},Good n t R->(∀a,R a->R' a)->Good n t R'|.ret a,h,k=>k a h|.ask i j g,h,k=>⟨h.1,h.2.1,h.2.2.1,λb=>Good.mono (h.2.2.2 b) k⟩
theorem Good.run{R}(lt:Nat->Nat->Bool):∀{t:KasT α},Good n t R->R (runK lt t)|.ret a,h=>h|.ask i j g,h=>Good.run (t:=g (lt i j)) lt (h.2.2.2 _)
theorem Good.wp{R G}(hc:∀i j,i<n->j<n->i≠j->∀C:Bool->W1->Prop,C (lt i j) s->cmp i j C s):∀{t:KasT α},Good n t R->G (runK lt t) s->t.kasWp cmp G s|.ret a,h,g=>g|.ask i j k,h,g=>hc i j h.1 h.2.1 h.2.2.1 _ (Good.wp hc (h.2.2.2 _) g)
end
section
variable{p:Array Nat}
abbrev dQ(n:Nat)(p:Array Nat):Prop:=p.Perm (Uc (WM n))
theorem dQ.size(h:dQ n p):p.size=n:=by rw[Array.Perm.size_eq h];simp
theorem dQ.list(h:dQ n p):p.toList.Perm (WM n):=by simpa using Array.perm_iff_toList_perm.mp h
theorem dQ.lt(h:dQ n p)(h0:0<n)(i:Nat):p.getD i 0<n:=by
 by_cases hi:i<p.size
 .have:p[i]∈p.toList:=by simp
  have:=(h.list.mem_iff).mp this;simpa[Array.getD,hi]using this
 .simpa[Array.getD,hi]using h0
theorem dQ.ne(h:dQ n p)(hi:i<n)(hj:j<n)(e:i≠j):p.getD i 0≠p.getD j 0:=by
 have hs:=h.size;have nd:p.toList.Nodup:=h.list.nodup_iff.mpr List.nodup_range;have fS:i<p.size:=by lia
 have jU:j<p.size:=by lia
 intro z;have e1:p.getD i 0=p.toList[i]'(~~~fS):=#v[Array.getD,fS];have e2:p.getD j 0=p.toList[j]'(~~~jU):=#v[Array.getD,jU];rw[e1,e2]at z;rcases Nat.lt_or_gt_of_ne e with q|q;.exact(List.pairwise_iff_getElem.mp nd) i j (~~~fS) (~~~jU) q z
 .exact(List.pairwise_iff_getElem.mp nd) j i (~~~jU) (~~~fS) q z.symm
theorem dQ.rev(h:dQ n p)(i j:Nat):dQ n (kas_rev p i j):=(mirror_perm p i j _).trans h
theorem dQ.TU(h:dQ n p)(i j:Nat):dQ n (bubble p i j):=(bubble_perm p i j).trans h
theorem x9(h:dQ n p):∀(f m:Nat),1<=m->m+f<=n->Good n (kas_asc p f m) λr=>m<=r/\r<=n|0,m,h1,h2=>⟨We _,h2⟩|f+1,m,h1,h2=>⟨h.lt Y' _,h.lt Y' _,h.ne Y' Y' Y',λb=>by
 cases b;.exact(x9 h f (m+1) Y' Y').mono λr z=>⟨Y',z.2⟩
 .exact⟨We _,Y'⟩⟩
theorem uB:∀(f:Nat){p:Array Nat}(h:dQ n p)(m q:Nat),1<=m->m+f<=n->Good n (kas_desc f p m q) λr=>dQ n r.1/\1<=r.2.1/\r.2.1<=n|0,p,h,m,q,h1,h2=>⟨h,h1,h2⟩|f+1,p,h,m,q,h1,h2=>⟨h.lt Y' _,h.lt Y' _,h.ne Y' Y' Y',λb=>by
  cases b
  .refine⟨h.lt Y' _,h.lt Y' _,h.ne Y' Y' Y',λd=>?_⟩;cases d;.exact uB f h (m+1) (q+1) Y' Y'
   .exact⟨h,h1,show m<=n by lia⟩
  .show Good n (if q>0 then kas_desc f (kas_rev p (m-(q+1)) m) (m+1) 0 else kas_desc f p (m+1) 0) _;split;.exact uB f (h.rev _ _) (m+1) 0 Y' Y'
   .exact uB f h (m+1) 0 Y' Y'⟩
theorem Fo{m}(h:dQ n p)(h1:1<=m)(h2:m<=n):Good n (kas_tail3 m n p) λr=>dQ n r.2/\1<=r.1/\r.1<=n:=(x9 (h.rev 0 m) (n-m) m h1 Y').bind λr z=>⟨h.rev _ _,by have:=z.1;lia,z.2⟩
theorem Fp{m}(h:dQ n p)(h1:1<=m)(h2:m+1<=n):Good n (kas_descPart m n p) λr=>dQ n r.2/\1<=r.1/\r.1<=n:=(uB (n-(m+1)) h (m+1) 0 Y' Y').bind λr z=>by
 show Good n (if r.2.2>0 then _ else _) _;split;.exact Fo (z.1.rev _ _) z.2.1 z.2.2
 .exact Fo z.1 z.2.1 z.2.2
theorem TV(h:dQ n p)(h2:2<=n):Good n (kas_count n p) λr=>dQ n r.2/\1<=r.1/\r.1<=n:=(x9 h (n-1) 1 Y' Y').bind λm z=>by
  show Good n (if(m==n)=true then _ else _) _;split;.exact⟨h,z.1,z.2⟩
  .rename_i hm;have oq:m≠n:=λe=>hm #v[e];split
   .refine⟨h.lt Y' _,h.lt Y' _,h.ne Y' Y' Y',λc=>?_⟩;cases c;.exact Fp (h.rev _ _) z.1 Y'
    .exact⟨h,z.1,z.2⟩
   .exact Fp h z.1 Y'
theorem x_(h:dQ n p)(hk:k<n):∀(f l r:Nat),r<=k->Good n (kas_place p k f l r) λ_=>True
 |0,l,r,_=>trivial|f+1,l,r,hr=>by
  show Good n (if l≥r then _ else _) _;split;.trivial
  .refine⟨h.lt Y' _,h.lt Y' _,h.ne Y' Y' Y',λc=>?_⟩;cases c;.exact x_ h hk f _ _ hr
   .exact x_ h hk f _ _ Y'
theorem Fq:∀(f:Nat){p:Array Nat}(h:dQ n p)(k:Nat),k+f<=n->Good n (kas_bin f p k) λr=>dQ n r|0,p,h,k,_=>h|f+1,p,h,k,hk=>(x_ h Y' k 0 k (We _)).bind λl _=>Fq f (h.TU _ _) (k+1) Y'
theorem Fs(h2:2<=n):Good n (kas_sort n) λr=>dQ n r:=(TV (.refl _) h2).bind λr z=>by
 show Good n (if r.1<n then _ else _) _;split;.exact Fq _ z.1 _ Y'
 .exact z.1
end
def fV(ks:List Tx):List Nat:=(runK (λi j=>decide (ks.getD i []<ks.getD j [])) (kas_sort ks.length)).toList
theorem uC(h:2<=ks.length):(fV ks).Perm (WM ks.length):=dQ.list (Good.run _ (Fs h))
structure jV(h:Heap)(vs:List Value)(ks:List Tx):Prop where
 len:ks.length=vs.length
 at':∀i v,vs[i]?=some v->∃b o xs m t,v=.ref b/\h.get? b=some o/\o.cls=.type "tuple"/\o.data=.seq xs m/\xs[0]?=some (.str (toS (ks.getD i [])) t)
theorem jV.keeps{vs}(t:jV h vs ks)(k:∀b o,h.get? b=some o->o.cls=.type "tuple"->h'.get? b=some o):jV h' vs ks:=⟨t.len,λi v e=>let⟨b,o,xs,m,tk,e1,e2,e3,r⟩:=t.at' i v e;⟨b,o,xs,m,tk,e1,k b o e2 e3,e3,r⟩⟩
theorem Ft:∀{vs:List Value}{ks:List Tx},jV h vs ks->∃fs,KatTups h vs fs/\fs.length=vs.length/\∀v∈fs,∃x t,v=Value.str x t|[],ks,t=>⟨[],trivial,rfl,λv h=>by simp at h⟩|v::vs,[],t=>by have:=t.len;simp at this|v::vs,k::ks,t=>by obtain⟨fs,a,b,c⟩:=Ft (vs:=vs) (ks:=ks) ⟨by have:=t.len;simpa using this,λi v e=>by have:=t.at' (i+1) v (~~~e);simpa using this⟩;obtain⟨x,o,xs,m,tk,rfl,e2,e3,e4,e5⟩:=t.at' 0 v rfl;exact⟨_::fs,⟨⟨x,o,xs,m,rfl,e2,e3,e4,e5⟩,a⟩,#v[b],λv hv=>by
 rcases Ws.mp hv with rfl|hv;.exact⟨_,_,rfl⟩
 .exact c v hv⟩
section
variable{vs:List Value}
theorem TX{C}(t:jV s.heap vs ks)(nd:ks.Nodup)(hi:i<vs.length)(hj:j<vs.length)(ne:i≠j)(h:C (decide (ks.getD i []<ks.getD j [])) s):kas_ask prog w A (tuples' true) vs i j C s:=by
 obtain⟨a,o,xs,m,tk,e1,e2,e3,e4,e5⟩:=t.at' i vs[i] #v[hi];obtain⟨b,p,ys,n,tl,f1,f2,f3,f4,f5⟩:=t.at' j vs[j] #v[hj];unfold kas_ask;rw[Q5,Q5,W3 hi,W3 hj];simp only[Option.getD_some];rw[e1,f1];refine kat_lt e2 e4 f2 f4 ?_;have hx:∃r,xs.toList=.str (toS (ks.getD i [])) tk::r:=by have:xs.toList[0]?=some (.str (toS (ks.getD i [])) tk):= ~~~e5;cases z:xs.toList with|nil=>rw[z]at this;simp at this|cons u r=>rw[z]at this;simp at this;exact⟨r,by rw[this];simp⟩
 have hy:∃r,ys.toList=.str (toS (ks.getD j [])) tl::r:=by have:ys.toList[0]?=some (.str (toS (ks.getD j [])) tl):= ~~~f5;cases z:ys.toList with|nil=>rw[z]at this;simp at this|cons u r=>rw[z]at this;simp at this;exact⟨r,by rw[this];simp⟩
 obtain⟨r,hr⟩:=hx;obtain⟨q,hq⟩:=hy;rw[hr,hq,List.zip_cons_cons];have TY:i<ks.length:=%[t.len|hi];have TZ:j<ks.length:=%[t.len|hj];have cQ:(toS (ks.getD i [])==toS (ks.getD j []))=false:=by rw[beq_eq_false_iff_ne];intro z;have z:=qb z;rw[Q5,Q5,W3 TY,W3 TZ]at z;exact ne ((JQ nd).mp z)
 refine kat_cons (eqBool_str ?_);rw[cQ];refine kat_no (oneLt_str ?_);rw[nN,nN];exact h
theorem T2{P}(ho:s.heap.get? a=some (Qm "list" vs.toArray n))(t:jV s.heap vs ks)(nd:ks.Nodup)(h2:2<=vs.length)(ot:vs.length<64)(h:P (.done (.ret .none)) {s with heap:=sortedHeap s.heap a vs (Uc ((fV ks).map λi=>vs.getD i Value.none))}):W4 (model prog w) A (Builtin.«list.sort» ⟨[.ref a],[]⟩) P E s:=by
 have bq:a<s.heap.objs.size:=Wi ho;obtain⟨e1,ho1⟩:∃e1,(s.heap.update a (Obj.mapSeq λ_=>(#[]:Array Value))).get? a=some (Qm "list" #[] e1):=⟨_,get?_update_seq ho λ_=>#[]⟩;rw[list_sort_plain];refine W0 (listItems_at ho rfl (W0 (listUpdate_at ho rfl (W0 (seqEpoch_at ho1 rfl (W0 (wpAny_newTuple (W0 (wpAny_newList (WB ?_) (Qh _))) (by show vs.length<=_;rw[Qf];lia))))) (by rw[Wr,Qf];lia) (Qh _))));show W4 (model prog w) A _ P E {s with heap:=((s.heap.update a (Obj.mapSeq λ_=>(#[]:Array Value))).push (Qm "tuple" vs.toArray 0)).push (Qm "list" #[] 0)};have h6:(((s.heap.update a (Obj.mapSeq λ_=>(#[]:Array Value))).push (Qm "tuple" vs.toArray 0)).push (Qm "list" #[] 0)).get? a=some (Qm "list" #[] e1):=W6 _ (W6 _ ho1);have t6:jV (((s.heap.update a (Obj.mapSeq λ_=>(#[]:Array Value))).push (Qm "tuple" vs.toArray 0)).push (Qm "list" #[] 0)) vs ks:=t.keeps λb o e c=>by
  have nb:b≠a:=λz=>by rw[z,ho]at e;cases e;exact absurd (Value.type.inj c) Z'
  refine W6 _ (W6 _ ?_);rw[WN _ _ (Ne.symm nb)];exact e
 dsimp only;have Fu:¬vs.toArray.size<2:=by rw[Wr];lia
 rw[if_neg Fu,if_neg Fu];obtain⟨fs,kt,fl,ft⟩:=Ft t6;refine W0 (kat_kind (s:={s with heap:=((s.heap.update a (Obj.mapSeq λ_=>(#[]:Array Value))).push (Qm "tuple" vs.toArray 0)).push (Qm "list" #[] 0)}) (T:=.type "str") kt Y' (λv hv=>by obtain⟨x,tk,rfl⟩:=ft v hv;exact .now) rfl ?_);refine W0 (WR (kat_run (s:={s with heap:=((s.heap.update a (Obj.mapSeq λ_=>(#[]:Array Value))).push (Qm "tuple" vs.toArray 0)).push (Qm "list" #[] 0)}) (κ:=tuples' true) (ks:=vs) (vs:=vs) (E:=E) (G:=λp s'=>p.toList=fV ks/\s'={s with heap:=((s.heap.update a (Obj.mapSeq λ_=>(#[]:Array Value))).push (Qm "tuple" vs.toArray 0)).push (Qm "list" #[] 0)}) (Q:=λcL s'=>(arrOf cL).map (·.2)=Uc ((fV ks).map λi=>vs.getD i Value.none)/\failedOf cL=none/\s'={s with heap:=((s.heap.update a (Obj.mapSeq λ_=>(#[]:Array Value))).push (Qm "tuple" vs.toArray 0)).push (Qm "list" #[] 0)}) rfl h2 ot (λp cL s' a1 a2 a3 a4=>⟨by rw[kat_snds rfl a2,a4.1],a3,a4.2⟩) ?_) ?_ λ_ _ e=>e);.refine Good.wp (n:=vs.length) (lt:=λi j=>decide (ks.getD i []<ks.getD j [])) (R:=λ_=>True) (λi j hi hj ne C hC=>TX t6 nd hi hj ne hC) ((Fs h2).mono λ_ _=>trivial) ⟨?_,rfl⟩;unfold fV;rw[t.len]
 .rintro⟨⟨⟩,cL⟩s'⟨q1,q2,rfl⟩;dsimp only at q1 q2⊢;have hz:((fV ks).map λi=>vs.getD i Value.none).length=vs.length:=by rw[Wv,(uC (ks:=ks) %[t.len|h2]).length_eq,Ul,t.len]
  rw[q1];refine W0 (seqEpoch_at h6 rfl (W0 (listUpdate_at h6 rfl ?_ (Qh _) (by rw[Wr,hz,Qf];lia))));rw[q2];simp only[bne_self_eq_false,Qe,if_false];exact W5 h
theorem T4(hl:s.heap.IsList l vs.toArray)(t:jV s.heap vs ks)(nd:ks.Nodup)(h2:2<=vs.length)(ot:vs.length<64)(h:Q (.ref (s.heap.objs.size+1)) {s with heap:=sortedAll s.heap vs (Uc ((fV ks).map λi=>vs.getD i Value.none))}):W4 (model prog w) A (call (.builtin "sorted") [.ref l]) Q E s:=by
 refine Calls.call_function_entry kind_sorted plain_sorted entry_sorted (args_sorted1 _) ?_;unfold Builtin.«sorted»;refine W0 (m:=checkCount "sorted" 1 1 _) (W5 (W0 (collect_list hl (W0 (wpAny_newList ?_ (by rw[Qf];lia))) (by rw[Qf];lia))));have hz:((s.heap.push (Qm "list" #[] 0)).update s.heap.objs.size (Obj.mapSeq (.++vs.toArray))).objs.size=s.heap.objs.size+1:=by rw[Heap.size_update,size_push']
 have pH:(((s.heap.push (Qm "list" #[] 0)).update s.heap.objs.size (Obj.mapSeq (.++vs.toArray))).push (Qm "list" vs.toArray 0)).get? (s.heap.objs.size+1)=some (Qm "list" vs.toArray 0):=by rw[<-hz];exact Wj _ rfl
 have t2:jV (((s.heap.push (Qm "list" #[] 0)).update s.heap.objs.size (Obj.mapSeq (.++vs.toArray))).push (Qm "list" vs.toArray 0)) vs ks:=t.keeps λb o e _=>by have hb:b<s.heap.objs.size:=Wi e;refine W6 _ ?_;rw[WN _ _ (Qp hb)];exact W6 _ e
 show W4 _ _ _ _ _ {s with heap:=((s.heap.push (Qm "list" #[] 0)).update s.heap.objs.size (Obj.mapSeq (.++vs.toArray))).push (Qm "list" vs.toArray 0)};rw[hz];refine W0 (WB (Qg slot_list_sort ⟨_,pH,rfl⟩ entry_list_sort (T2 (s:={s with heap:=((s.heap.push (Qm "list" #[] 0)).update s.heap.objs.size (Obj.mapSeq (.++vs.toArray))).push (Qm "list" vs.toArray 0)}) pH t2 nd h2 ot ⟨_,rfl,?_⟩) (args_list_sort _)));exact W5 ⟨_,rfl,h⟩
end
theorem Vals.at2(r:Vals vs its)(e1:vs[i]?=some v)(e2:its[i]?=some u):RelV v u:=by obtain⟨u',e,q⟩:=Vals.get r e1;rw[e2]at e;cases e;exact q
theorem Vals.pick(r:Vals vs its):∀is:List Nat,(∀i∈is,i<vs.length)->Vals (is.map λi=>vs.getD i .aJ) (is.map λi=>its.getD i Value.none)|[],_=>.nil|i::is,h=>by refine .cons ?_ (Vals.pick r is λj hj=>h j (Wm _ hj));have hi:=h i Wt;have hl:=r.length;have e1:vs.getD i .aJ=vs[i]:=#v[hi];have e2:its.getD i Value.none=its[i]' Y':=#v[show i<its.length by lia];show RelV (vs.getD i .aJ) (its.getD i Value.none);rw[e1,e2];exact Vals.at2 (i:=i) r (W3 hi) (W3 Y')
theorem T5:fF X (.builtin "sorted") λxs H Q=>∃(a:Addr)(vs:List V)(ks:List Tx),xs=[.ref a]/\cU X.K H a vs/\ks.length=vs.length/\(∀(i:Nat)v,vs[i]?=some v->∃b ws,v=.ref b/\H b=some (.tup ws)/\ws[0]?=some (.str (toS (ks.getD i []))))/\ks.Nodup/\2<=vs.length/\vs.length<64/\∀p,H p=none->Q (.ref p) (upd H p (.lst ((fV ks).map λi=>vs.getD i .aJ))):=by
 intro pins s σ H xs us Q I r h;obtain⟨a,vs,ks,rfl,hq,hlen,ht,nd,h2,ot,q⟩:=h;obtain⟨u,rfl,ru⟩:=gS r;cases ru;obtain⟨its,r',p,_⟩:=I.list hq;have hl:=r'.length;have t:jV s.heap its ks:=⟨Y',λi v e=>by have hi:i<its.length:=(W8.mp e).1;have hv:vs[i]?=some (vs[i]' Y'):=#v[show i<vs.length by lia];have rv:=Vals.at2 r' hv e;obtain⟨b,ws,eb,hb,h0⟩:=ht i _ hv;rw[eb]at rv;obtain rfl:v=Value.ref b:=rv;obtain⟨_,its',r2,n,eo⟩:=show bE X.prog X.w H s.heap b (.tup ws)from I.az b _ hb;have mH:=r2.length;have hw0:0<ws.length:=(W8.mp h0).1;have r0:=Vals.at2 r2 h0 (show its'[0]?=some (its'[0]' Y')by simp[show 0<its'.length by lia]);obtain⟨tk,e0⟩:=show∃tk,its'[0]' Y'=Value.str (toS (ks.getD i [])) tk from r0;exact⟨b,_,its'.toArray,n,tk,rfl,eo,rfl,rfl,by rw[<-e0];simp[show 0<its'.length by lia]⟩⟩;refine T4 p.isList t nd Y' Y' ?_;have hp:=uC (ks:=ks) Y';have Ci:((fV ks).map λi=>vs.getD i V.aJ).length=vs.length:=by rw[Wv,hp.length_eq,Ul,hlen]
 obtain⟨e,he⟩:=sortedAll_at s.heap its (Uc ((fV ks).map λi=>its.getD i Value.none));have I1:Inv X pins σ (upd H (s.heap.objs.size+1) (.lst ((fV ks).map λi=>vs.getD i .aJ))) {s with heap:=sortedAll s.heap its (Uc ((fV ks).map λi=>its.getD i Value.none))}:=I.laid (t':=s.toks) (λb o z=>sortedAll_old z) (Nat.le_succ _) (show bE X.prog X.w _ _ _ (.lst ((fV ks).map λi=>vs.getD i .aJ))from⟨by rw[Ci,Qf];lia,(fV ks).map λi=>its.getD i Value.none,e,r'.pick _ λi hi=>by have:=hp.mem_iff.mp hi;simp at this;lia,he⟩);exact⟨.ref _,_,I1,rfl,q _ (I.az.fresh (Nat.le_succ _))⟩
end
noncomputable def lW:List D->Option (List Tx)|[]=>some []|.tup (.str x::_)::r=>(lW r).map (x::.)|_::_=>none
theorem Fv:∀{ds:List D}{ks:List Tx},lW ds=some ks->ks.length=ds.length/\∀(i:Nat)d,ds[i]?=some d->∃r,d=.tup (.str (ks.getD i [])::r)
 |[],ks,h=>by cases h;exact⟨rfl,λi d e=>by simp at e⟩|d::r,ks,h=>by
  unfold lW at h;split at h;.rename_i e;cases e
  .rename_i x q r' e;cases e;cases e:lW r with|none=>rw[e]at h;cases h|some ks'=>rw[e]at h;cases h;obtain⟨h1,h2⟩:=Fv e;refine⟨#v[h1],λi d' e'=>?_⟩;cases i with|zero=>simp at e';subst e';exact⟨q,U'⟩|succ i=>simpa using h2 i d' (~~~e')
  .cases h
def ou:List Tx->Bool|[]=>true|x::r=>!r.contains x&&ou r
theorem Fw:∀{ks:List Tx},ou ks=true->ks.Nodup|[],_=>.nil|x::r,h=>by simp only[ou,Wo,JI,List.contains_iff_mem,<-Bool.not_eq_true]at h;exact List.nodup_cons.mpr ⟨~~~h.1,Fw h.2⟩
noncomputable def kS:D->Option S
 |.lst ds=>match lW ds with|some ks=>if 2<=ks.length/\ks.length<64/\ou ks=true then some (.own (.lst ((fV ks).map λi=>ds.getD i .aJ)))else none|none=>none
 |_=>none
theorem aF.pick(r:aF H O vs ds):∀is:List Nat,(∀i∈is,i<vs.length)->aF H O (is.map λi=>vs.getD i .aJ) (is.map λi=>ds.getD i .aJ)
 |[],_=>.nil|i::is,h=>by
  have hi:=h i Wt;have hl:=r.1;refine .cons (r.2 i _ _ ?_ ?_) (aF.pick r is λj hj=>h j (Wm _ hj));.simp[hi]
  .simp[show i<ds.length by lia]
theorem T6:jf (λv H Q=>∃(a:Addr)(vs:List V)(ks:List Tx),v=.ref a/\cU K H a vs/\ks.length=vs.length/\(∀(i:Nat)v,vs[i]?=some v->∃b ws,v=.ref b/\H b=some (.tup ws)/\ws[0]?=some (.str (toS (ks.getD i []))))/\ks.Nodup/\2<=vs.length/\vs.length<64/\∀p,H p=none->Q (.ref p) (upd H p (.lst ((fV ks).map λi=>vs.getD i .aJ)))) kS:=λc σ δ H x d s Q k rx hp q=>by cases d with
 |lst ds=>simp only[kS]at hp;cases e:lW ds with|none=>rw[e]at hp;cases hp|some ks=>
    rw[e]at hp;simp only at hp;split at hp
    .rename_i hh;cases hp;obtain⟨h1,h2⟩:=Fv e;obtain⟨a,vs,ea,ha,ra⟩:=rx.lst;have hl:=ra.1;refine⟨a,vs,ks,ea,.inl ha,Y',λi v ev=>?_,Fw hh.2.2,Y',Y',λp hp=>?_⟩;.have hi:i<vs.length:=(W8.mp ev).1;have hd:ds[i]?=some (ds[i]' Y'):=#v[show i<ds.length by lia];obtain⟨r,er⟩:=h2 i _ hd;have rv:=ra.2 i v _ ev hd;rw[er]at rv;cases rv with|@tup b ws _ _ hb hlen n4=>
 have h0:0<ws.length:=by rw[hlen];simp
 have r0:=n4 0 (ws[0]'h0) (.str (ks.getD i [])) #v[h0] rfl;refine⟨b,ws,rfl,hb,?_⟩;generalize hz:ws[0]'h0=z at r0;cases r0;rw[W3 h0,hz]
     .refine q _ _ (.alloc k hp _) (aY.nO k (aF.pick ra _ λi hi=>?_) hp);have:=(uC (ks:=ks) hh.1).mem_iff.mp hi;simp at this;lia
    .cases hp|_=>simp[kS]at hp
theorem T7(hg:Gl X "sorted")(hm:X.mg "sorted"=none)(he:SB X c e fb)(hs:W7 [e] X.env=(false,eval e X.env)::W7 [] X.env:=by rfl):SE X c (.Call (.Name "sorted" pp) [e] [] pos) (aC kS fb):=xa (r:=λv H Q=>∃(a:Addr)(vs:List V)(ks:List Tx),v=.ref a/\cU X.K H a vs/\ks.length=vs.length/\(∀(i:Nat)v,vs[i]?=some v->∃b ws,v=.ref b/\H b=some (.tup ws)/\ws[0]?=some (.str (toS (ks.getD i []))))/\ks.Nodup/\2<=vs.length/\vs.length<64/\∀p,H p=none->Q (.ref p) (upd H p (.lst ((fV ks).map λi=>vs.getD i .aJ)))) T5 (λv H Q⟨a,vs,ks,e,h⟩=>⟨a,vs,ks,by rw[e],h⟩) T6 hg hm PyProof.Rows.boot_sorted he Z' Z' hs
section
open PySem.W
section
variable{lt:Nat->Nat->Bool}{r:Nat->Nat}{α β:Type}
structure Lt(lt:Nat->Nat->Bool)(r:Nat->Nat)(n:Nat):Prop where lt:∀i j,i<n->j<n->lt i j=decide (r i<r j)inj:∀i j,i<n->j<n->i≠j->r i≠r j
end
end
section
variable{α β:Type}
@[simp]theorem eZ(a:α)(δ:Dl)(f:α->Dl->Rs β):(Rs.ok a δ).bind f=f a δ:=id rfl
@[simp]theorem zcC(f:α->Dl->Rs β):(Rs.stuck:Rs α).bind f=.stuck:=id rfl
@[simp]theorem ow(d:D):(S.pure d).d=d:=id rfl
@[simp]theorem ya(d:D):(S.own d).d=d:=id rfl
end
section
variable(δ:Dl)(i:Nat)(d e:D)(f g:DE)(fb:BE)(t u:DT)(p:D->D->Option S)
@[simp]theorem T8:eD d δ=.ok (.pure d) δ:=id rfl
@[simp]theorem yb:ah f δ=(f δ).bind λr δ'=>.ok r.d δ':=id rfl
@[simp]theorem T9:ax p f fb δ=(f δ).bind λx δ1=>(fb δ1).bind λy δ2=>p2 p x.d y δ2:=id rfl
@[simp]theorem qaJ:f_ t u δ=(t δ).bind λb δ1=>if b then u δ1 else .ok false δ1:=id rfl
@[simp]theorem qaK:nU t u δ=(t δ).bind λb δ1=>if b then .ok true δ1 else u δ1:=id rfl
@[simp]theorem qaL:kC t δ=(t δ).bind λb δ1=>.ok (!b) δ1:=id rfl
@[simp]theorem qaM:OA t f g δ=(t δ).bind λb δ1=>if b then f δ1 else g δ1:=id rfl
@[simp]theorem qaN:cA δ=.ok .next δ:=id rfl
@[simp]theorem qaO:bz δ=.ok true δ:=id rfl
@[simp]theorem qaP:kG f δ=(f δ).bind λ_ δ1=>.ok .next δ1:=id rfl
@[simp]theorem qaQ:bt f δ=(f δ).bind λr δ1=>.ok (.ret r) δ1:=id rfl
@[simp]theorem T_(a b:DS):ck t a b δ=(t δ).bind λx δ1=>if x then a δ1 else b δ1:=id rfl
@[simp]theorem qS(it:DI)(gg:DG)(b:DS):bM it gg b δ=(it δ).bind λds δ1=>forL gg b ds δ1:=id rfl
@[simp]theorem qaR(a:DA):aG a δ=(a δ).bind λds δ'=>.ok (.pure (.tup ds)) δ':=id rfl
@[simp]theorem qaS(a:DA):cj a δ=(a δ).bind λds δ'=>.ok (.own (.lst ds)) δ':=id rfl
@[simp]theorem qaT(ds:List D):kK ds δ=.ok (.own (.lst ds)) δ:=id rfl
@[simp]theorem qaU:ay δ=.ok [] δ:=id rfl
@[simp]theorem qaV(a:DA):ak f a δ=(f δ).bind λx δ1=>(a δ1).bind λxs δ2=>.ok (x.d::xs) δ2:=id rfl
@[simp]theorem qaW(q:D->Option S):aC q fb δ=(fb δ).bind λx δ1=>p1 q x δ1:=id rfl
@[simp]theorem qaX:qk f g δ=(f δ).bind λx δ1=>(g δ1).bind λy δ2=>p2 xh x.d y.d δ2:=id rfl
@[simp]theorem qaY(fl fh:lH):dI f fl fh δ=(f δ).bind λx δ1=>(fl δ1).bind λl δ2=>(fh δ2).bind λh δ3=>p1 (eJ l h) x.d δ3:=id rfl
@[simp]theorem qaZ:de δ=.ok none δ:=id rfl
@[simp]theorem qa0(cs:List Nat)(it:DI)(gg:DG)(el:DE):bR cs it gg t el δ=(it δ).bind λds δ1=>if cs.any (bH δ1)then .stuck else(dW cs gg t el ds (bC cs δ1) []).bind λacc δ2=>.ok (.own (.lst acc)) (dC cs δ1 δ2):=id rfl
@[simp]theorem Ur(np:List Nat)(r:S):ag np i r δ=if np.contains i then none else some (δ.set i (some r)):=id rfl
@[simp]theorem zft(gg:DG)(b:DS):forL gg b [] δ=.ok .next δ:=id rfl
end
section
variable(δ:Dl)(i:Nat)(d e:D)(f g:DE)(fb:BE)(p:D->D->Option S)(s:S)
@[simp]theorem uD(x y:D):p2 p x y δ=match p x y with|some s=>.ok s δ|none=>.stuck:=id rfl
@[simp]theorem qa1(q:D->Option S)(x:D):p1 q x δ=match q x with|some s=>.ok s δ|none=>.stuck:=id rfl
@[simp]theorem Us(a b:DS):au a b δ=(a δ).bind λfl δ1=>match fl with|.next=>b δ1|.ret r=>.ok (.ret r) δ1|.brk=>.ok .brk δ1|.cont=>.ok .cont δ1:=id rfl
@[simp]theorem zfQ{α β:Type}(c:Prop)[Decidable c](x y:Rs α)(k:α->Dl->Rs β):(if c then x else y).bind k=if c then x.bind k else y.bind k:=by split<;>rfl
end
theorem cT:Wa=16777216:=rfl
theorem h9(xs:List α)(i:Nat):di xs (i:Int)=xs[i]?:=by
 unfold di fI;by_cases h:i<xs.length;.rw[if_pos Y',if_pos Y'];simp
 .rw[if_pos Y',if_neg Y'];simp[Qk (Nat.le_of_not_lt h)]
theorem yc(xs:List α):di xs 2=xs[2]?:=h9 xs 2
theorem kT(xs:List α):di xs 0=xs[0]?:=h9 xs 0
theorem uE(xs:List α):di xs 1=xs[1]?:=h9 xs 1
theorem uF{el}(I:Dl->Prop)(R:D->D->Prop):∀(ds:List D)(δ:Dl)(acc:List D),I δ->acc.length+ds.length<=Wa->(∀d∈ds,∀δ,I δ->∃δ1 δ2 x δ3,g (.pure d) δ=some δ1/\t δ1=.ok true δ2/\el δ2=.ok x δ3/\I (bC cs δ3)/\R d x.d)->∃xs δ',dW cs g t el ds δ acc=.ok (acc++xs) δ'/\I δ'/\xs.length=ds.length/\∀(i:Nat)d x,ds[i]?=some d->xs[i]?=some x->R d x
 |[],δ,acc,h,_,_=>⟨[],δ,#v[dW],h,rfl,λi d x e=>by simp at e⟩|d::r,δ,acc,h,hl,hs=>by
  obtain⟨δ1,δ2,x,δ3,e1,e2,e3,h3,hr⟩:=hs d Wt δ h;have iO:acc.length<Wa:=by simp at hl;lia
  obtain⟨xs,δ',e4,h4,hn,hf⟩:=uF (g:=g) (t:=t) (el:=el) I R r (bC cs δ3) (acc++[x.d]) h3 P' λd hd=>hs d (Wm _ hd);refine⟨x.d::xs,δ',?_,h4,#v[hn],λi d' x' f1 f2=>?_⟩;.unfold dW;simp_all
  .cases i with|zero=>simp at f1 f2;subst f1 f2;exact hr|succ i=>exact hf i d' x' (~~~f1) (~~~f2)
theorem Ut(F:D->D)(δ:Dl):∀(ds:List D)(acc:List D),acc.length+ds.length<=Wa->(∀d∈ds,∃δ1 δ2 x δ3,g (.pure d) δ=some δ1/\t δ1=.ok true δ2/\el δ2=.ok x δ3/\bC cs δ3=δ/\x.d=F d)->dW cs g t el ds δ acc=.ok (acc++ds.map F) δ:=by
 intro ds acc hl hs;obtain⟨xs,δ',e,h,hn,hf⟩:=uF (cs:=cs) (g:=g) (t:=t) (el:=el) (λδ'=>δ'=δ) (λd x=>x=F d) ds δ acc rfl hl λd hd δ' h=>by subst h;obtain⟨δ1,δ2,x,δ3,a,b,c,d,e⟩:=hs d hd;exact⟨δ1,δ2,x,δ3,a,b,c,d,e⟩
 subst h;rw[e];congr 2;apply List.ext_getElem?;intro i;by_cases hi:i<ds.length;.have:=hf i ds[i] (xs[i]' Y') #v[hi] #v[hn,hi];simp[hn,hi,this]
 .rw[Qk Y',Qk V']
theorem jW(I:Nat->Dl->Prop):∀(ds:List D)(n:Nat)(δ:Dl),I n δ->(∀(i:Nat)d δ,ds[i]?=some d->I (n+i) δ->∃δ1 δ2,g (.pure d) δ=some δ1/\b δ1=.ok .next δ2/\I (n+i+1) δ2)->∃δ',forL g b ds δ=.ok .next δ'/\I (n+ds.length) δ'
 |[],n,δ,h,_=>⟨δ,rfl,h⟩|d::r,n,δ,h,hs=>by
  obtain⟨δ1,δ2,e1,e2,h2⟩:=hs 0 d δ rfl h;obtain⟨δ',e3,h3⟩:=jW (g:=g) (b:=b) I r (n+1) δ2 h2 λi d' δ' e hi=>by have:=hs (i+1) d' δ' (~~~e) %[show n+(i+1)=n+1+i by lia|hi];rw[show n+(i+1)+1=n+1+i+1 by lia]at this;exact this
  refine⟨δ',?_,%[Q4,show n+(r.length+1)=n+1+r.length by lia|h3]⟩;unfold forL;rw[e1];simp only[e2,eZ,e3]
theorem oy(xs:List Tx):gc (xs.map .str)=some xs:=by induction xs with|nil=>rfl|cons x r ih=>simp[gc,ih]
theorem uG:∀ts:List Tx,jh [] ts=ts.flatten|[]=>rfl|[x]=>#v[jh]|x::y::r=>by rw[jh,uG (y::r)];simp
theorem Uu(xs:List Nat):g8 (xs.map λn=>[n])=xs.length:=by unfold g8;induction xs with|nil=>rfl|cons x r ih=>simp at ih⊢;lia
theorem Uv(xs:List Nat):(xs.map λn=>[n]).flatten=xs:=by induction xs with|nil=>rfl|cons x r ih=>simp[ih]
theorem Fx(xs:List Nat)(h:xs.length<=16777216):cE [] (.lst (xs.map λn=>.str [n]))=some (.pure (.str xs)):=by
 have e:(xs.map λn=>D.str [n])=(xs.map λn=>[n]).map D.str:=by simp
 unfold cE;simp only[e,oy,Uu,uG,Uv];rw[if_pos (~~~h)]
theorem Uw(r:Tx)(c:Nat)(h:c<r.length)(hl:r.length<=64):ao (.str r) (.int c)=some (.pure (.str [r.getD c 0])):=by unfold ao;have:Wa=16777216:=rfl;simp only;rw[if_pos Y',h9];simp[h]
abbrev bA(fl:List Tx):D:=.tup (fl.map .str)
def jD(r:S)(δ1:Dl):Rs (List D):=match r with|.pure (.int j)=>if nY j then .ok (cI 0 j.toNat) δ1 else .stuck|_=>.stuck
@[simp]theorem yd(f:DE)(δ:Dl):c9 f δ=(f δ).bind λr δ1=>jD r δ1:=id rfl
theorem Ux(w:Nat)(hw:w<=1000000):nY (w:Int)=true:=by
 have h1:-(4611686018427387904:Int)<=(w:Int):=by lia
 have h2:(w:Int)<4611686018427387904:=by lia
 unfold nY;rw[Wo];exact⟨decide_eq_true h1,decide_eq_true h2⟩
theorem Uy(j:Int)(hs:nY j=true)(δ:Dl):jD (.pure (.int j)) δ=.ok (cI 0 j.toNat) δ:=by unfold jD;grind
theorem m5(w:Nat)(hw:w<=1000000)(δ:Dl):jD (.pure (.int w)) δ=.ok (cI 0 w) δ:=by have:=Uy (w:Int) (Ux w hw) δ;rwa[JJ]at this
theorem qT(h:(cI 0 n)[i]?=some d):i<n/\d=.int (i:Int):=by
 unfold cI at h;rw[Wu]at h;by_cases hi:i<n;.rw[List.getElem?_range hi]at h;simp at h;exact⟨hi,h.symm⟩
 .rw[Qk (~~~hi)]at h;cases h
theorem Fy(h:d∈cI 0 n):∃i:Nat,i<n/\d=.int (i:Int):=by obtain⟨i,hi⟩:=JV h;exact⟨i,qT hi⟩
@[simp]theorem Fz(lo:Int)(n:Nat):(cI lo n).length=n:=#v[cI]
def iZ(x:Nat):List Nat->List Nat|[]=>[x]|y::r=>if y<x then y::iZ x r else x::y::r
def iE:List Nat->List Nat|[]=>[]|x::r=>iZ x (iE r)
theorem FA(a b:Nat):([a]:Tx)<[b]↔a<b:=by
 constructor;.intro h;cases h<;>simp_all
 .intro h;exact List.Lex.rel h
theorem FC(x:Nat):∀xs:List Nat,kB [x] (xs.map λn=>[n])=(iZ x xs).map λn=>[n]
 |[]=>rfl|y::r=>by
  simp only[Wf,kB,iZ];by_cases h:y<x;.rw[if_pos ((FA y x).mpr h),if_pos h,FC x r];rfl
  .rw[if_neg λz=>h ((FA y x).mp z),if_neg h];rfl
theorem FD:∀xs:List Nat,iw (xs.map λn=>[n])=(iE xs).map λn=>[n]|[]=>rfl|x::r=>by rw[Wf,iw,FD r,FC];rfl
theorem ye{x}:∀{xs:List Nat},y∈iZ x xs↔y=x\/y∈xs
 |[]=>#v[iZ]|z::r=>by
  unfold iZ;split;.simp[ye (xs:=r)];all_goals grind
  .simp
theorem yf:∀{xs:List Nat},y∈iE xs↔y∈xs|[]=>#v[iE]|x::r=>by rw[iE,ye,yf (xs:=r)];simp
theorem FE(x:Nat):∀xs:List Nat,(iZ x xs).length=xs.length+1|[]=>rfl|y::r=>by unfold iZ;split<;>simp[FE x r]
theorem FF:∀xs:List Nat,(iE xs).length=xs.length|[]=>rfl|x::r=>by rw[iE,FE,FF r];rfl
theorem FG{x}:∀{xs:List Nat},xs.Pairwise (.<.)->x∉xs->(iZ x xs).Pairwise (.<.)
 |[],_,_=>#v[iZ]|y::r,h,hx=>by
  rw[Ua]at h;simp at hx;unfold iZ;split
  .rename_i hl;rw[Ua];refine⟨λz hz=>?_,FG h.2 hx.2⟩;rcases ye.mp hz with rfl|hz;.exact hl
   .exact h.1 z hz
  .rename_i hl;rw[Ua];refine⟨λz hz=>?_,List.pairwise_cons.mpr h⟩;rcases Ws.mp hz with rfl|hz;.lia
   .have:=h.1 z hz;lia
theorem FH:∀{xs:List Nat},xs.Nodup->(iE xs).Pairwise (.<.)|[],_=>#v[iE]|x::r,h=>by rw[Q2]at h;exact FG (FH h.2) λz=>h.1 (yf.mp z)
theorem yg{P:Nat->Prop}:∀{xs:List D},(∀x∈xs,∃n,P n/\x=.str [n])->∃row:List Nat,xs=row.map (λn=>.str [n])/\∀n∈row,P n|[],_=>⟨[],rfl,U'⟩|x::r,h=>by obtain⟨n,hn,rfl⟩:=h x Wt;obtain⟨row,rfl,hr⟩:=yg (xs:=r) λy hy=>h y (Wm _ hy);exact⟨n::row,rfl,by simpa using⟨hn,hr⟩⟩
theorem FI{R:D->D->Prop}{xs:List D}{Q:D->Prop}(hn:xs.length=ds.length)(hf:∀(i:Nat)d x,ds[i]?=some d->xs[i]?=some x->R d x)(hq:∀d x,d∈ds->R d x->Q x):∀x∈xs,Q x:=λx hx=>by obtain⟨i,hi⟩:=JV hx;have h1:=(W8.mp hi).1;have h2:ds[i]?=some (ds[i]' Y'):=#v[show i<ds.length by lia];exact hq _ x (WX _) (hf i _ x h2 hi)
theorem FJ(w:Nat)(hw:w<=100000)(δ:Dl):jD (.pure (.int (1+(w:Int)))) δ=.ok (cI 0 (1+w)) δ:=by have:=m5 (1+w) Y' δ;rwa[show((1+w:Nat):Int)=1+(w:Int)by lia]at this
abbrev aT(b:Nat×List Tx):D:=.tup [.str [b.1],bA b.2]
abbrev aq(h w:Nat)(bs:List (Nat×List Tx)):D:=.tup [.int h,.int w,.tup (bs.map aT)]
structure FK(h w:Nat)(bs:List (Nat×List Tx)):Prop where
 h0:0<h
 h1:h<=4w0:0<w
 w1:w<=4hw:2<h+w
 n0:0<bs.length
 n1:bs.length<=26up:(bs.map (·.1)).Pairwise (.<.)qa2:∀b∈bs,97<=b.1/\b.1<=122cW:∀b∈bs,b.2.length=h/\∀r∈b.2,r.length=w/\∀n∈r,n∈bs.map (·.1)
theorem m7{el cs A}(f F:A->D)(δ:Dl):∀(as:List A)(acc:List D),acc.length+as.length<=Wa->(∀a∈as,∃δ1 δ2 x δ3,g (.pure (f a)) δ=some δ1/\t δ1=.ok true δ2/\el δ2=.ok x δ3/\bC cs δ3=δ/\x.d=F a)->dW cs g t el (as.map f) δ acc=.ok (acc++as.map F) δ
 |[],acc,_,_=>#v[dW]|a::r,acc,hl,hs=>by
  obtain⟨δ1,δ2,x,δ3,e1,e2,e3,e4,e5⟩:=hs a Wt;have iO:acc.length<Wa:=by simp at hl;lia
  have ih:=m7 (cs:=cs) (g:=g) (t:=t) (el:=el) f F δ r (acc++[x.d]) P' λa ha=>hs a (Wm _ ha);rw[Wf];unfold dW;simp_all
abbrev oz(h:Heap)(z TI TO a:Addr)(f:Bool):Prop:=h.get? z=some {cls:=.type "zip",dict:=none,data:=.fields #[WZ a,.bool f,.bool false,.ref TI,.ref TO],slots:=#[]}
theorem Uz{Q}(ho:s.heap.get? a=some o)(h:Q (some o) s):W4 (model prog w) A (loadIfAlive a) Q E s:=by have h':Q (s.heap.get? a) s:=%[ho|h];exactλ_ _ _=>h'
theorem FL{TI TO f Q}(hz:oz s.heap z TI TO a f)(ha:s.heap.get? a=some oa)(h:∀h',oz h' z TI TO a true->Jb z s.heap h'->Q false {s with heap:=h'}):W4 (model prog w) A (WI (.ref z)) Q E s:=by unfold WI;refine W0 (WF hz rfl (x:=WZ a) rfl ?_);show W4 _ _ (loadIfAlive (a:Int).toNat>>=_) _ _ _;rw[JJ];refine W0 (Uz ha ?_);simp only[Option.isNone_some,Qe,if_false];refine W0 (WF hz rfl (x:=.bool f) rfl ?_);cases f with|true=>rw[if_neg (show¬(Value.bool true !=Value.bool true)=true from WY)];exact W5 (h s.heap hz (Heap.SameBut.refl _ _))|false=>rw[if_pos (show(Value.bool false !=Value.bool true)=true from rfl)];exact W0 (Qz hz U' λh₃ UA UB=>W5 (h h₃ UA UB))
theorem UC{z TI TO:Addr}{f:Bool}(D1:Draws prog w A i1 f1 n1 P1 S1)(D2:Draws prog w A i2 f2 n2 P2 S2)(C:ZA z TI TO i1 i2 f1 f2)(hz:oz s.heap z TI TO a f)(ha:s.heap.get? a=some oa)(hI:IsPair s.heap TI (.ref i1) (.ref i2))(g1:S1 i s.heap)(g2:S2 i s.heap)(l1:i<n1)(l2:i<n2)(q:∀x y h' tk,P1 i x->P2 i y->oz h' z TI TO a true->S1 (i+1) h'->S2 (i+1) h'->IsPair h' s.heap.objs.size x y->h'.objs.size=s.heap.objs.size+1->(∀c o,c≠z->c≠i1->c≠i2->s.heap.get? c=some o->h'.get? c=some o)->Q (.ref s.heap.objs.size) {s with heap:=h',toks:=tk}):W4 (model prog w) A (Builtin.«zip.__next__» ⟨[.ref z],[]⟩) (λfin s'=>∃v,fin=.done (.ret v)/\Q v s') E s:=by
 have i1z:i1≠z:=λe=>C.z1 (e▸C.m1);have i2z:i2≠z:=λe=>C.z2 (e▸C.m2);have i12:i1≠i2:=λe=>C.k1 (e▸C.m2);show W4 _ _ (field (.ref z) 2>>=_) _ _ _;refine W0 (WF hz rfl (x:=.bool false) rfl ?_);show W4 _ _ (field (.ref z) 3>>=_) _ _ _;refine W0 (WF hz rfl (x:=.ref TI) rfl (W0 (Ql hI rfl ?_)));show W4 _ _ (WI (.ref z)>>=_) _ _ _;refine W0 (FL hz ha λh1 gn s1=>?_);simp only[Qe,if_false];refine W0 ?_;simp only[List.forIn_toArray,JC,JN];refine W0 (W0 (WB ?_));show W4 _ _ (WE (.ref i1)>>=_) _ _ _;have e1:S1 i h1:=D1.frame _ _ _ g1 λc hc o e=>s1.extBut _ _ (λx=>C.z1 (x▸hc)) e;refine W0 (D1.item i _ _ _ l1 e1 λx h2 yh p1 e2 s2=>W5 ?_);refine W5 (W0 (W0 (WB ?_)));show W4 _ _ (WE (.ref i2)>>=_) _ _ _;have e3:S2 i h2:=D2.frame _ _ _ g2 λc hc o e=>s2.extBut _ _ (λx=>C.k1 (x▸hc)) (s1.extBut _ _ (λx=>C.z2 (x▸hc)) e);refine W0 (D2.item i _ _ _ l2 e3 λy h4 UD p2 e4 s4=>W5 ?_);refine W5 (W5 (W0 (wpAny_newTuple ?_ (by show 2<=Wa;decide))));have hsz:h4.objs.size=s.heap.objs.size:=by rw[s4.1,s2.1,s1.1]
 have uH:oz h4 z TI TO a true:=s4.extBut _ _ i2z.symm (s2.extBut _ _ i1z.symm gn);have r1:S1 (i+1) h4:=D1.frame _ _ _ e2 λc hc o e=>s4.extBut _ _ (λx=>C.k2 (x▸hc)) e;refine W5 ⟨_,rfl,?_⟩;show Q (.ref h4.objs.size) _;rw[hsz];refine q x y _ _ p1 p2 (W6 _ uH) (D1.frame _ _ _ r1 λc _ o e=>W6 _ e) (D2.frame _ _ _ e4 λc _ o e=>W6 _ e) ?_ (by rw[J4,hsz]) λc o c1 c3 c4 e=>W6 _ (s4.extBut _ _ c4 (s2.extBut _ _ c3 (s1.extBut _ _ c1 e)));rw[<-hsz];exact Wj _ rfl
theorem UE{TI TO f Q}(D1:Draws prog w A i1 f1 n1 P1 S1)(D2:Draws prog w A i2 f2 n2 P2 S2)(C:ZA z TI TO i1 i2 f1 f2)(hz:oz s.heap z TI TO a f)(ha:s.heap.get? a=some oa)(hI:IsPair s.heap TI (.ref i1) (.ref i2))(g1:S1 i s.heap)(g2:S2 i s.heap)(l:i=n1\/i<n1/\i=n2)(q:∀h' tk e,(∀c o,c≠z->c≠i1->c≠i2->s.heap.get? c=some o->h'.get? c=some o)->(∃o,h'.get? e=some o/\o.cls=.type "StopIteration")->E (.ref e) {s with heap:=h',toks:=tk}):W4 (model prog w) A (Builtin.«zip.__next__» ⟨[.ref z],[]⟩) Q E s:=by
 have i1z:i1≠z:=λe=>C.z1 (e▸C.m1);have i2z:i2≠z:=λe=>C.z2 (e▸C.m2);show W4 _ _ (field (.ref z) 2>>=_) _ _ _;refine W0 (WF hz rfl (x:=.bool false) rfl ?_);show W4 _ _ (field (.ref z) 3>>=_) _ _ _;refine W0 (WF hz rfl (x:=.ref TI) rfl (W0 (Ql hI rfl ?_)));show W4 _ _ (WI (.ref z)>>=_) _ _ _;refine W0 (FL hz ha λh1 gn s1=>?_);simp only[Qe,if_false];refine W0 ?_;simp only[List.forIn_toArray,JC,JN];refine W0 (W0 (WB ?_));show W4 _ _ (WE (.ref i1)>>=_) _ _ _;have e1:S1 i h1:=D1.frame _ _ _ g1 λc hc o e=>s1.extBut _ _ (λx=>C.z1 (x▸hc)) e;rcases l with l|⟨l,l'⟩;.subst l;refine W0 (D1.done _ _ _ e1 λh2 e s2 hh=>?_);obtain⟨oe,he,ce⟩:=hh;exact q h2 _ e (λc o c1 c3 _ x=>s2 _ _ c3 (s1.extBut _ _ c1 x)) ⟨oe,he,ce⟩
 .refine W0 (D1.item i _ _ _ l e1 λx h2 yh p1 e2 s2=>W5 ?_);refine W5 (W0 (W0 (WB ?_)));show W4 _ _ (WE (.ref i2)>>=_) _ _ _;have e3:S2 i h2:=D2.frame _ _ _ g2 λc hc o e=>s2.extBut _ _ (λx=>C.k1 (x▸hc)) (s1.extBut _ _ (λx=>C.z2 (x▸hc)) e);subst l';refine W0 (D2.done _ _ _ e3 λh4 e s4 hh=>?_);obtain⟨oe,he,ce⟩:=hh;exact q h4 _ e (λc o c1 c3 c4 x=>s4 _ _ c4 (s2.extBut _ _ c3 (s1.extBut _ _ c1 x))) ⟨oe,he,ce⟩
theorem UG:JS (.type "zip") "__len__"=pure none:=by rw[JE,QR];kernel_rfl
theorem UH:JS (.type "zip") "__length_hint__"=pure none:=by rw[JE,QR];kernel_rfl
theorem Inv.adopt(I:Inv X pins σ H s)(hf:fw X pins H b)(new:bE X.prog X.w (upd H b o) s.heap b o):Inv X pins σ (upd H b o) s:=by
 obtain⟨hn,f1,f2,f3,f4,f5⟩:=hf;have ne:∀{c u},H c=some u->c≠b:=λe=>eK e hn;refine I.step (g':=s.gens) (d':=s.drawn) (t':=s.toks) (h':=s.heap) (ch:=[b]) (λc hc=>?_) (λc u _ _ _ e _=>e) (λc u _ _ _ e _=>⟨u.slots,e⟩) (λc u hc _ e=>?_) (λc u _ e=>⟨u,e⟩) (λc xs e=>%[aI (ne e)|e]) (λc u xs e=>%[aI (ne e)|e]) (λc ps e=>⟨#[],by rw[aI (ne e),e];simp⟩) (λm h=>h) (λc u e=>?_) I.bare;.have z:c=b:= ~~~hc;subst z;exact⟨f3,f1,f4,f5⟩
 .rw[aI λz=>hc #v[z]];exact e
 .by_cases hb:c=b;.subst hb;rw[bL]at e;cases e;exact new
  .rw[aI hb]at e;exact(I.az c u e).eG (λ_ _ _ q=>q) (λ_ q=>%[aI (ne q)|q]) (λ_ _ q=>%[aI (ne q)|q]) λ_ _ _ q=>%[aI (ne q)|q]
structure yi(P:Wg)(w:Wp)(K:W2)(mg:Str->Option Value)(base:Heap)(k:Nat)(f:Addr)(fd:WH)(ps:List Str)(sp:List Env->W1->Sp):Prop where
 len:∀outer s vs H Q E,sp outer s vs H Q E->vs.length=ps.length
 run:∀(A:Wh)(outer:List Env)(s:W1)(H:Hp)(args:Args)(us:List Value)(vs:List V)(Q:VK)(E:XK),b_ k A->jI P w K mg base A outer s H->BindsTo s fd args (ps.zip us)->Vals vs us->sp outer s vs H Q E->QH (model P w) A (.call (.ref f) args) (CR cH outer P w H s Q E) s
theorem dq.UI{st:Stmt}{k:Nat}{sp:List Env->W1->Sp}(F:dq K x qual st f fd)(S:eL N ps (aV st))(len:∀outer s vs H Q E,sp outer s vs H Q E->vs.length=ps.length)(cG:∀(aE:Value)(A:Wh)(outer:List Env)(s:W1)(H:Hp)(vs:List V)(Q:VK)(E:XK),b_ k (A.deeper (QB qual (aV st) s.heap.objs.size f aE))->A.frames=some outer->sp outer s vs H Q E->∃t,dF (dG cH P w K mg base N qual (aV st) f aE A outer s H E).fE (cZ st) t/\t {nx:=λ_ H'=>Q .aJ H',rt:=Q} (start N vs) H):yi P w K mg base (k+1) f fd ps sp:=by
 obtain⟨oc,od,kV,doc,pm,an,aE,ct,dH,rfl,lk,dR⟩:=F.ex;refine⟨len,λA outer s H args us vs Q E hr e0 hb r jJ=>?_⟩;have hl:=len _ _ _ _ _ _ jJ;have KX:K.In s.heap:=e0.mod.ki.keeps λb o e=>(e0.bs b o e).1;have lim:s.heap.NoLimit:=e0.mod.nolimit.keeps λb o e=>(e0.bs b o e).1;have pN:∀y∈ps.zip us,(aV st).names.lookup y.1=some .local\/(aV st).names.lookup y.1=some .cell/\((Qx (s.heap.objs.size+1) (aV st).names []).lookup y.1).isSome=true:=λ⟨n,v⟩hy=>by
  rcases S.par n (QW hy).1 with q|q;.exact .inl q
  .exact .inr ⟨q,J9 _ _ _ (.inl q)⟩
 refine JM hr.depth (KX _ _ lk) rfl S.co S.gen rfl (PySem.W.codeRec_of KX dR) (hb _ _ _ _ ?_);refine wpAny_newFunctionEnv_cells S.kind pN λenv he s1 x=>?_;subst he;refine⟨lim.keeps x.toInCall.keep,codeAny_func ?_⟩;obtain⟨t,ht0,hq⟩:=cG aE A outer s H vs Q E (hr.deeper _) e0.frames jJ;have ht:=ht0.fE;have I:Inv (dG cH P w K mg base N qual (aV st) f aE A outer s H E) [] (start N vs) H s1:=v_ S hr.hd e0 hl r x;refine WR (ht [] s1 (start N vs) H _ I hq) (λfl s' hs=>?_) λe s' hs=>hs;have fin:∀{σ':St}{H':Hp}{v:V}{u:Value},Inv (dG cH P w K mg base N qual (aV st) f aE A outer s H E) [] σ' H' s'->RelV v u->Q v H'->CE outer P w H s Q u s':=λ{σ' H' v u}J rv q=>⟨v,H',J.os,J.bare,J.base,J.az,rv,q⟩;cases fl with|ret u=>obtain⟨v,σ',H',J,rv,q⟩:=hs;exact fin J rv q|next=>obtain⟨σ',H',J,q⟩:=hs;exact fin (v:=V.aJ) (u:=Value.none) J rfl q|brk=>obtain⟨_,_,_,q⟩:=hs;exact False.elim q|cont=>obtain⟨_,_,_,q⟩:=hs;exact False.elim q
def oA(P:Wg)(w:Wp)(K:W2)(mg:Str->Option Value)(base:Heap)(N:List Str)(qual:Str)(scope:Scope)(f:Addr)(cd:Value)(cl:List (Str×Addr))(A:Wh)(outer:List Env)(s:W1)(H:Hp):Cx where
 prog:=P
 w:=w
 K:=K
 mg:=mg
 base:=base
 A:=A.deeper (Ju qual scope s.heap.objs.size f cd cl)
 N:=N
 s₀:=s
 H₀:=H
 env:=Ju qual scope s.heap.objs.size f cd cl
 outer:=outer
 stack:=Ju qual scope s.heap.objs.size f cd cl::outer
 ex:=[]
 calm:=true
 fn:=λ_=>false
 pn:=[]
 xe:=λ_ _=>False
structure uI(p:Str)(fr:List Str)(sc:Scope):Prop where
 kind:sc.kind=.function
 co:sc.isCoroutine=false
 gen:sc.isGenerator=false
 loc:sc.names.lookup p=some .local
 FN:∀y∈sc.names,y.2≠.cell
 free:∀x,sc.names.lookup x=some .free->x∈fr
 UJ:∀x∈fr,sc.names.lookup x=some .free
theorem Ok.mono(k:Ok c σ δ H)(up:∀a o,H a=some o->H' a=some o):Ok c σ δ H':=⟨λa o e n=>up _ _ (k.keep a o e n),λa z=>(k.bd a z).elim λw e=>⟨w,up _ _ e⟩,λa z=>(k.du a z).elim λw e=>⟨w,up _ _ e⟩,k.len,λi d e=>let⟨v,e1,r⟩:=k.slot i d e;⟨v,e1,r.keep λa o q _=>up a o q⟩,λi d e=>let⟨a,e1,r,q⟩:=k.own i d e;⟨a,e1,r.keep (λb o q _=>up b o q) λo q=>up a o q,q⟩,k.inj,k.pinned⟩
theorem aK.mono(k:Ok c σ δ H)(up:∀a o,H a=some o->H' a=some o):aK c σ δ H σ δ H':=⟨k.mono up,λa o e _=>up a o e,λa h=>.inl h,λa o e=>⟨o,up a o e⟩⟩
structure uJ(X:Cx)(c:Fc)(fa:Addr)(F:D->Option D):Prop where there:∀pins σ H s,Inv X pins σ H s->∃fd,s.heap.get? fa=some {cls:=.type "function",data:=.func fd}run:∀pins s σ δ H v u d d' Q,Inv X pins σ H s->Ok c σ δ H->Rep H (Av c σ δ) v d->RelV v u->F d=some d'->(∀v' H',aK c σ δ H σ δ H'->Rep H' (Av c σ δ) v' d'->Q v' H')->W4 (model X.prog X.w) X.A (call (.ref fa) [u]) (EP X pins σ Q) X.xe s
noncomputable def jw(fa:Addr)(F:D->Option D)(i:Nat)(fe:DE):DE:=λδ=>match δ[i]? with|some (some (.pure (.fn a)))=>if a=fa then(fe δ).bind λr δ1=>match F r.d with|some d'=>.ok (.pure d') δ1|none=>.stuck else .stuck|_=>.stuck
theorem UK{E:Value->W1->Prop}{s:W1}{first:List Value}{Q:Value->W1->Prop}{rest:List Expr}(h:W4 M A (spliced (WO pos (W7 (e::rest) env))) (λvs s₁=>(∃fd,s₁.heap.get? a=some {cls:=.type "function",data:=.func fd})/\W4 M A (call (.ref a) (first++vs)) Q E s₁) E s)(he:W7 (e::rest) env=(false,eval e env)::W7 rest env:=by rfl)(wm:(WO pos (W7 rest env)).any (·.1)=false:=by rfl):W4 M A (callWith pos (.ref a) first (WO pos (W7 (e::rest) env)) []) Q E s:=by rw[he]at h⊢;exact PySem.W.callWith_of (P:=λh=>∃fd,h.get? a=some {cls:=.type "function",data:=.func fd}) (by show((false||(WO pos (W7 rest env)).any (·.1))||false)=false;rw[wm];rfl) (λh⟨fd,hf⟩=>⟨.frame,.inl rfl,(PySem.W.Looks.ld (part:=none) hf).andThen .now⟩) (Calls.evalArgs_plain h)
theorem UL{p pos:Pos}(hc:uJ X c fa F)(hv:PE X (.Name x p) (dZ i))(he:SE X c e fe)(hs:W7 [e] X.env=(false,eval e X.env)::W7 [] X.env:=by rfl):SE X c (.Call (.Name x p) [e] [] pos) (jw fa F i fe):=by
 intro pins s σ H Q I⟨δ,k,q⟩;unfold jw at q;split at q
 .rename_i a e1;split at q
  .rename_i ea;subst ea;obtain⟨v,e2,r⟩:=k.slot i (.fn a) e1;cases r;refine Qw (WR (hv pins s σ H (λv' H'=>v'=.ref a/\H'=H) I ⟨.ref a,e2,rfl,rfl⟩) (λu s1 hh=>?_) λ_ _ z=>z);obtain⟨v',H',I1,ru,ev,eH⟩:=hh;subst ev eH;obtain rfl:u=Value.ref a:=ru;have ha:=dU he fH hs;refine UK (aP (ha pos pins s1 σ H' (λvs H2=>∃r δ1 d',vs.length=1/\F r=some d'/\(∀v∈vs,Rep H2 (Av c σ δ1) v r)/\aK c σ δ H' σ δ1 H2/\∀v' H3,aK c σ δ H' σ δ1 H3->Rep H3 (Av c σ δ1) v' d'->Q v' H3) I1 ⟨δ,k,?_⟩) λus s2⟨vs,H2,I2,rr,r,δ1,d',hl,hF,hr,af,hq⟩=>⟨hc.there _ _ _ _ I2,?_⟩) hs rfl;.rw[bh]at q;refine aN q λr δ1 q1 v H1 a1 r1=>?_;cases hF:F r.d with|none=>rw[hF]at q1;exact q1.elim|some d'=>rw[hF]at q1;exact⟨r.d,δ1,d',rfl,hF,λv' UM=>by have:v'=v:= ~~~UM;subst this;exact r1.rep,a1,λv' H3 a3 r3=>q1 v' H3 a3 r3⟩
   .obtain⟨v,rfl⟩:=en1 hl
    obtain⟨u,rfl,ru⟩:=gS rr;exact hc.run pins s2 σ δ1 H2 v u r d' Q I2 af.ok (hr v U') ru hF λv' H3 a3 r3=>hq v' H3 (af.trans a3) r3
  .exact q.elim
 .exact q.elim
theorem FO{a b:Value}{x y:Int}{t u:Tok}:∀{l:List Value},TriplesOk l->TriplesOk (l++[.int x t,.int y u,b])|[],_=>trivial|.int _ _::.int _ _::_::r,h=>FO (a:=a) (l:=r) h
theorem FP{x u}:∀{l:List Value},TriplesOk l->codeAmong pos l=none->codeAmong pos (l++[.int x t,.int y u,b])=some cv->cv=b
 |[],_,_,h=>by
  simp only[WQ,codeAmong]at h;split at h;.exact(WG h).symm
  .cases h|.int i _::.int j _::c::r,h,hn,e=>by
  simp only[codeAmong]at hn;split at hn;.cases hn
  .rename_i q;simp only[List.cons_append,codeAmong]at e;rw[if_neg q]at e;exact FP (l:=r) h hn e
section
variable{body:Expr}{c P:Addr}{fr:List Str}
theorem Inv.UN(I:Inv X pins σ H s)(gF:∀x,X.fn x=true)(h:X.env.cells.lookup x=some c):c∉eS X.stack:=λz=>by
 rcases Ws.mp (I.pE c z)with e|e;.exact I.iN x c h e
 .obtain⟨_,o,ho,_⟩:=I.ok.fQ.mem e;exact absurd (Wy (Wi ho) (I.ok.kj x c (gF x) h)) (Q7 _)
end
abbrev h_:=List (Addr×Pos×Str)
variable{ts:h_}
def TH(ts:h_)(H:Hp):Prop:=∀t∈ts,H t.1=some (.ctab t.2.1 t.2.2)
structure FT(ts:h_)(c:Fc):Prop where
 h:TH ts c.H₀
 n:∀t∈ts,¬c.I t.1
theorem FT.now(f:FT ts c)(k:Ok c σ δ H):TH ts H:=λt ht=>k.keep _ _ (f.h t ht) (f.n t ht)
def m8(ts:h_)(n:Nat)(G:DF):Sp:=λvs H Q E=>TH ts H/\qz n G vs H Q E
def uK(P:Wg)(w:Wp)(K:W2)(mg:Str->Option Value)(base:Heap)(ts:h_)(k:Nat)(x:Str)(n:Nat)(G:DF):Prop:=∃(f:Addr)(fd:WH)(ps:List Str),mg x=some (.ref f)/\Qq K (.ref f)=true/\Binds K fd ps []/\fz P w K mg base cH k f fd ps (m8 ts n G)
theorem FQ{st:Stmt}{k:Nat}{fb:DS}(F:dq K x qual st f fd)(S:eL N ps (aV st))(cG:∀(c:Fc)(aE:Value)(A:Wh)(outer:List Env)(s:W1)(H:Hp)(E:XK),b_ k (A.deeper (QB qual (aV st) s.heap.objs.size f aE))->Np c np->FT ts c->(∃oc od kV doc pm an ct dH,K.lookup f=some ⟨oc,od,.func (WT x qual (f6 st) (cZ st) (aV st) .none kV doc pm an aE ct),dH⟩)->dA (dG cH P w K mg base N qual (aV st) f aE A outer s H E).fE c (cZ st) fb)(hG:∀ss y,G ss=some y->bO np 0 ss=true/\eC fb N.length ss=some y):fz P w K mg base cH (k+1) f fd ps (m8 ts ps.length G):=by
 obtain⟨oc,od,kV,doc,pm,an,aE,ct,dH,rfl,lk,dR⟩:=F.ex;refine wa lk dR S (λvs H Q E h=>?_) λA outer s H vs Q E hr h=>?_;.obtain⟨_,ss,B,hl,_⟩:=h;exact hl
 .obtain⟨hT,ss,B,hl,ok,r,aH,hg,q⟩:=h;obtain⟨eN,hrun⟩:=hG ss _ hg;have iB:ss.length=vs.length:=by have:=ok.len;simpa using this
  have mR:Np ⟨H,B,bN 0 ss vs,λ_ _=>False⟩ np:=λp hp=>by obtain⟨j,d,e,h1,_⟩:=jl (i:=p.1) (a:=p.2) hp;rw[e];exact qA eN h1
  have ft:FT ts ⟨H,B,bN 0 ss vs,λ_ _=>False⟩:=⟨hT,λt ht⟨i,z⟩=>by obtain⟨j,d,_,h1,h2⟩:=jl z;obtain⟨a,e1,o,_⟩:=ok.own j d (eX.mpr h1);rw[fc.mpr h2]at e1;cases e1;have:=hT t ht;cases d with|lst ds=>obtain⟨_,e,_⟩:=o;grind|bU ds=>obtain⟨_,e,_⟩:=o;grind|dic ds=>obtain⟨_,_,e,_⟩:=o;grind|_=>exact o.elim⟩;have hb:=cG ⟨H,B,bN 0 ss vs,λ_ _=>False⟩ aE A outer s H E hr mR ft ⟨oc,od,kV,doc,pm,an,ct,dH,lk⟩;refine⟨iS ⟨H,B,bN 0 ss vs,λ_ _=>False⟩ fb,hb.fE,?_⟩;have cP:start N vs=bS vs++Wc (N.length-ss.length) none:=by rw[iB];rfl
  refine⟨aX N.length ss,%[cP|ok.ext _],?_⟩;unfold eC at hrun;unfold dJ;cases e:fb (aX N.length ss)with|exc x δx=>rw[e]at hrun;cases hrun|stuck=>rw[e]at hrun;cases hrun|ok fl δ'=>rw[e]at hrun;show∀σ' H',aK _ (start N vs) (aX N.length ss) H σ' δ' H'->fin _ _ σ' δ' H' fl;intro σ' H' a;rw[cP]at a;simp only at hrun;cases fl with
 |brk=>cases hrun|cont=>cases hrun|next=>simp only[bW,Wz]at hrun;cases eo:bj 0 ss δ' with|none=>rw[eo]at hrun;cases hrun|some os=>rw[eo]at hrun;cases hrun;obtain⟨l1,l2⟩:=iV rfl ok a eo;exact q .aJ H' l1 .aJ
 |ret r'=>simp only[bW,Wz]at hrun;cases eo:bj 0 ss δ' with|none=>rw[eo]at hrun;cases hrun|some os=>rw[eo]at hrun;cases hrun;obtain⟨l1,l2⟩:=iV rfl ok a eo;exactλv rv=>q v H' l1 (l2 v _ rv)
section
variable{k:Nat}
theorem UO(F:uK X.prog X.w X.K X.mg X.base ts k x n G)(ft:FT ts c)(hK:n9 G)(hr:b_ k X.A)(hg:Gl X x)(ha:SX X c (e::es) as)(hl:as.length=n)(dm:(x==("__debug__":Str))=false:=by decide)(he:W7 (e::es) X.env=(false,eval e X.env)::W7 es X.env:=by rfl)(bu:(WO pos (W7 es X.env)).any (·.1)=false:=by rfl):SE X c (.Call (.Name x pp) (e::es) [] pos) (aA G as):=by obtain⟨f,fd,ps,hm,hk,hb,ok⟩:=F;refine PE.weak (BJ ok hr hg hm hk hb .nil Ck ha dm he bu) λσ H Q h=>?_;obtain⟨δ,kk,eN,q⟩:=xA (ps:=ps) hK hl h;exact⟨δ,kk,eN,aN q λds δ1 q1 vs H1 a1 r1=>⟨ft.now a1.ok,q1 vs H1 a1 r1⟩⟩
end
theorem UP(h:∀q∈cl,cells.lookup q.1=some q.2):∀x a,cl.lookup x=some a->cells.lookup x=some a:=λx a e=>h (x,a) (Wx e)
theorem UQ(h1:sc.kind=.function:=by rfl)(h2:sc.isCoroutine=false:=by rfl)(h3:sc.isGenerator=false:=by rfl)(h4:sc.names.lookup p=some .local:=by rfl)(h5:∀y∈sc.names,y.2≠.cell:=by decide+kernel)(h6:∀y∈sc.names,y.2=.free->y.1∈fr:=by decide+kernel)(h7:∀x∈fr,sc.names.lookup x=some .free:=by decide+kernel):uI p fr sc:=⟨h1,h2,h3,h4,h5,λx e=>h6 _ (Wx e) rfl,h7⟩
theorem UR{P:Wg}{w:Wp}{k:Nat}{fa T c:Addr}{tpos:Pos}{tq:Str}{fd:WH}{G:DF}{s₁:W1}{vs:List Value}{ns:List Int}(KX:K.In s₁.heap)(qW:s₁.heap.Ns Wn mg)(hb:s₁.heap.Ns builtinsNs mb)(US:∀x:Str,x≠"__name__"->mb x=Qu x)(UT:s₁.heap.NoLimit)(hg:s₁.gens=#[])(ha:s₁.heap.get? a=some {cls:=.type "list",data:=.seq vs.toArray})(hi:IntsAre vs ns)(hl:ns.length<=Wa)(hr:b_ k callerA)(hL:xE K=true)(hT:s₁.heap.get? T=some (PySem.W.tabObj #[]))(hC:PySem.W.CodeHd s₁.heap c T)(hB:∃bm o,mg "__builtins__"=some (.ref bm)/\bm≠builtinsNs/\s₁.heap.get? bm=some o/\o.cls=.type "module"/\o.dict=some builtinsNs/\o.data=.plain)(FR:K.lookup T=none)(F:∀base:Heap,K.In base->base.Ns Wn mg->base.BuiltinsAt mg T->fz P w K mg base cH k fa fd [x] (m8 [(T,tpos,tq)] 1 G))(UU:∀(s:W1)(u:Value),BindsTo s fd ⟨[u],[]⟩ [(x,u)])(hG:∃aH,G [.pure (.lst (ns.map .int))]=some (.pure (.bl true),aH)):QH (model P w) callerA (.call (.ref fa) ⟨[.ref a],[]⟩) (λr s'=>r=.ok (.ret (.bool true))/\OldK s₁.heap s'.heap/\s'.os=s₁.os/\AllBare s'.gens) s₁:=by
 have rv:=Lake.Cj hi;have qa4:=hi.length;have UW:T≠a:=λz=>by grind
 have hka:K.lookup a=none:=by cases hk:K.lookup a with|none=>rfl|some o=>have e:=KX a o hk;rw[ha]at e;cases e;exact(Rr hL hk rfl).elim
 let H:Hp:=λb=>if b=a then some (.frz {cls:=.type "list",data:=.seq vs.toArray} (.lst (ns.map V.int)))else if b=T then some (.ctab tpos tq)else none;have Ha:H a=some (.frz {cls:=.type "list",data:=.seq vs.toArray} (.lst (ns.map V.int))):=if_pos rfl;have HT:H T=some (.ctab tpos tq):=by show(if T=a then _ else _)=_;rw[if_neg UW,if_pos rfl]
 have Hn:∀b,b≠a->b≠T->H b=none:=λb h1 h2=>by show(if b=a then _ else _)=_;rw[if_neg h1,if_neg h2]
 have az:cK P w H s₁.heap:=λb u z=>by
  by_cases h1:b=a;.subst h1;rw[Ha]at z;cases z;exact⟨ha,%[Wv|hl],vs,_,rv,ha⟩
  .by_cases h2:b=T;.subst h2;rw[HT]at z;cases z;exact⟨#[],hT,trivial,λcv q=>by cases q⟩
   .rw[Hn b h1 h2]at z;cases z
 have yj:∀{b:Addr}{o:Obj},s₁.heap.get? b=some o->H b=none->(jE s₁.heap H).get? b=some o:=λe n=>Lj e n;have kr:∀{b:Addr}{o:Obj}{es:Array DictEntry}{ep:Nat},s₁.heap.get? b=some o->o.data=.dict es ep->H b=none:=λ{b o es ep}e d=>by grind
 have uL:∀{b:Addr}{m:Str->Option Value},s₁.heap.Ns b m->(jE s₁.heap H).Ns b m:=λ{b m}⟨o,es,ep,e,d,r⟩=>⟨o,es,ep,yj e (kr e d),d,r⟩;have FU:K.In (jE s₁.heap H):=λb o e=>yj (KX b o e) (Hn b λz=>by grind λz=>by grind);have hM:Mod K mg (jE s₁.heap H):=⟨FU,uL qW,⟨mb,uL hb,US⟩,let⟨mc,h1,h2⟩:=UT;⟨mc,uL h1,h2⟩⟩;have e0:jI P w K mg (jE s₁.heap H) callerA [] s₁ H:=⟨rfl,hM,λb o e=>Lk e,Nat.le_of_eq (Li _ _),trivial,λb hb=>absurd (show b∈([]:List Addr)from hb) U',az,.of_eq hg⟩;have UX:TH [(T,tpos,tq)] H:=λt ht=>by have:t=(T,tpos,tq):= ~~~ht;subst this;exact HT
 have hR:Rd H a (.lst (ns.map V.int)):=.inr ⟨_,Ha⟩;have sp:m8 [(T,tpos,tq)] 1 G [.ref a] H (λv H'=>v=.bl true/\H' T=some (.ctab tpos tq)) E0:=by
  obtain⟨aH,hg⟩:=hG;have rep:∀O:Addr->Prop,¬O a->Rep H O (.ref a) (.lst (ns.map D.int)):=λO hO=>.lst hO hR U' λi v d e1 e2=>by rw[Wu]at e1 e2;cases e:ns[i]? with|none=>rw[e]at e1;cases e1|some k=>rw[e]at e1 e2;cases e1;cases e2;exact .int k
  refine⟨UX,[.pure (.lst (ns.map .int))],λ_=>False,rfl,⟨λb o e _=>e,λb z=>z.elim,λb⟨i,z⟩=>?_,rfl,λi d e=>?_,λi d e=>?_,λi j b d d' e1 e2 e3 e4=>?_,λp z=>?_⟩,_,aH,hg,λv H' x r=>?_⟩;.simp[bN]at z
  .cases i with
 |zero=>
 simp at e;subst e;refine⟨.ref a,rfl,rep _ λz=>?_⟩;rcases z with z|⟨j,d',z1,z2⟩;.exact z
 .cases j with|zero=>simp at z1|succ j=>simp at z1
 |succ i=>simp at e
  .cases i with|zero=>simp at e|succ i=>simp at e
  .cases i with|zero=>simp at e1|succ i=>simp at e1
  .simp[bN]at z
  .cases r;exact⟨rfl,x.ok.keep T _ HT λ⟨i,z⟩=>by simp[bN]at z⟩
 have UY:(jE s₁.heap H).BuiltinsAt mg T:=by
  obtain⟨bm,o,b1,b2,b3,b4,b5,b6⟩:=hB;refine⟨bm,o,b1,b2,λz=>?_,λz=>?_,yj b3 (Hn bm (λz=>?_) λz=>?_),b4,b5,b6⟩;.obtain⟨o2,es,ep,e,d,_⟩:=qW;grind
  all_goals grind
 refine Js ((F _ FU (uL qW) UY).run callerA [] s₁ H ⟨[.ref a],[]⟩ [.ref a] [.ref a] _ _ hr e0 (UU s₁ (.ref a)) (.cons rfl .nil) sp) λr s' h=>?_;cases r with|error e=>exact h.elim|ok fl=>cases fl with|next=>exact False.elim h|brk=>exact False.elim h|cont=>exact False.elim h|ret u=>
   obtain⟨v,H',os,bare,un,hok',r',q⟩:=h;obtain⟨q1,q2⟩:=q;subst q1;obtain rfl:u=Value.bool true:=r';have old:∀b o,s₁.heap.get? b=some o->asItWas s₁.heap s'.heap b o/\∃o',s'.heap.get? b=some o':=λb o e=>by
    by_cases h1:b=a;.subst h1;have z2:=un.gO b _ _ Ha;obtain⟨e2,_⟩:=hok' b _ z2;rw[ha]at e;cases e;exact⟨.inl e2,_,e2⟩
    .by_cases h2:b=T;.subst h2;obtain⟨ps,e2,_⟩:=hok' b _ q2;rw[hT]at e;cases e;exact⟨.inr (.inl ⟨(hC.tab hT).isCodeTable,rfl,#[],ps,rfl,by rw[e2];simp⟩),_,e2⟩
     .have:=un.keep b o e (Hn b h1 h2) (by intro z;exact absurd (show b∈([]:List Addr)from z) U') U';exact⟨.inl this,_,this⟩
   exact⟨rfl,⟨λb o e=>(old b o e).1,λb o e=>(old b o e).2⟩,os,bare⟩
theorem UZ{l:PySem.W.OpenLaw}{q:Wg}{d:DefRec}{K:Params->W2}{k:Nat}{T:Addr}(hn:l.most=some 63)(wz:d.params.defaults=[])(hr:b_ k callerA)(hY:∀(w:Wp)(h:Heap),YP w h->(K w.params).In h/\h.get? T=some (PySem.W.tabObj #[]))(hL:∀p:Params,xE (K p)=true)(FR:∀p:Params,(K p).lookup T=none)(hG:∀ns:List Int,ns.length<=63->∃aH,G [.pure (.lst (ns.map .int))]=some (.pure (.bl true),aH))(F:∀(w:Wp)(mg:Str->Option Value)(fa:Addr)(h:Heap),(K w.params).In h->h.Ns Wn mg->mg d.name=some (.ref fa)->(∃c,Jv (K w.params) c T=true)/\∃fd:WH,(∀(s:W1)(u:Value),BindsTo s fd ⟨[u],[]⟩ [("script",u)])/\∀base:Heap,(K w.params).In base->base.Ns Wn mg->base.BuiltinsAt mg T->fz l.prog w (K w.params) mg base cH k fa fd ["script"] (m8 [(T,tpos,tq)] 1 G)):PySem.W.WalkO q loose XP YP l.row.toRowW d [] λf vs=>PySem.call f vs:=by refine Nr hn wz λw s₀ s₁ mg mb fa o pm cd doc a vs ns G' Y ho hd dR my wA hints hlen hg=>?_;obtain⟨KX,hT⟩:=hY w _ Y;obtain⟨⟨c,hC⟩,fd,hb,hF⟩:=F w mg fa _ KX G'.T.g my;exact UR KX G'.T.g G'.T.b G'.T.builtins G'.T.nolimit hg wA hints (WS hlen Z') hr (hL _) hT (PySem.W.codeHd_of_K KX hC) G'.T.bmain (FR _) hF hb (hG ns hlen)
theorem U_(hT:TH ts H)(ok:Ok ⟨H,B,bN 0 ss vs,λ_ _=>False⟩ (bS vs) (cb ss) H):FT ts ⟨H,B,bN 0 ss vs,g⟩:=⟨hT,λt ht⟨i,z⟩=>by obtain⟨j,d,_,h1,h2⟩:=jl z;obtain⟨a,e1,o,_⟩:=ok.own j d (eX.mpr h1);rw[fc.mpr h2]at e1;cases e1;have:=hT t ht;cases d with|lst ds=>obtain⟨_,e,_⟩:=o;rw[this]at e;cases e|bU ds=>obtain⟨_,e,_⟩:=o;rw[this]at e;cases e|dic ds=>obtain⟨_,_,e,_⟩:=o;rw[this]at e;cases e|_=>exact o.elim⟩
def FV(ts:h_)(mg:Str->Option Value)(n:Nat)(G:DX):Sp:=λvs H Q E=>TH ts H/\EI mg n G vs H Q E
def uM(P:Wg)(w:Wp)(K:W2)(mg:Str->Option Value)(base:Heap)(ts:h_)(k:Nat)(x:Str)(n:Nat)(G:DX):Prop:=∃(f:Addr)(fd:WH)(ps:List Str),mg x=some (.ref f)/\Qq K (.ref f)=true/\Binds K fd ps []/\fz P w K mg base (kO P w) k f fd ps (FV ts mg n G)
theorem Va{st:Stmt}{k:Nat}{fb:DS}{G:DX}(F:dq K x qual st f fd)(S:eL N ps (aV st))(cG:∀(c:Fc)(aE:Value)(A:Wh)(outer:List Env)(s:W1)(H:Hp)(E:XK),b_ k (A.deeper (QB qual (aV st) s.heap.objs.size f aE))->Np c np->FT ts c->(∃oc od kV doc pm an ct dH,K.lookup f=some ⟨oc,od,.func (WT x qual (f6 st) (cZ st) (aV st) .none kV doc pm an aE ct),dH⟩)->iY (dG (kO P w) P w K mg base N qual (aV st) f aE A outer s H E) (wD mg c)->dA (dG (kO P w) P w K mg base N qual (aV st) f aE A outer s H E) c (cZ st) fb)(hG:∀ss y,G ss=some y->bO np 0 ss=true/\mV fb N.length ss=some y):fz P w K mg base (kO P w) (k+1) f fd ps (FV ts mg ps.length G):=by
 obtain⟨oc,od,kV,doc,pm,an,aE,ct,dH,rfl,lk,dR⟩:=F.ex;refine wa lk dR S (λvs H Q E h=>?_) λA outer s H vs Q E hr h=>?_;.obtain⟨_,ss,B,hl,_⟩:=h;exact hl
 .obtain⟨hT,ss,B,hl,ok,y,hg,q⟩:=h;obtain⟨eN,hrun⟩:=hG ss _ hg;have iB:ss.length=vs.length:=by have:=ok.len;simpa using this
  let g:Xc->Dl->Prop:=λx δ'=>∃aH,bj 0 ss δ'=some aH/\y=.inr (x,aH);have mR:Np ⟨H,B,bN 0 ss vs,g⟩ np:=λp hp=>by obtain⟨j,d,e,h1,_⟩:=jl (i:=p.1) (a:=p.2) hp;rw[e];exact qA eN h1
  have cP:start N vs=bS vs++Wc (N.length-ss.length) none:=by rw[iB];rfl
  have jX:Ok ⟨H,B,bN 0 ss vs,λ_ _=>False⟩ (start N vs) (aX N.length ss) H:=%[cP|ok.ext _];have ik:∀C dx σ' H',wD mg ⟨H,B,bN 0 ss vs,g⟩ C dx σ' H'->E (.ref C) dx H':=λC dx σ' H' hh=>by obtain⟨z,δ',v,hm,k',rv,hv,aH,ho,hy⟩:=hh;rw[hy]at q;have k1:Ok ⟨H,B,bN 0 ss vs,λ_ _=>False⟩ σ' δ' H':=⟨k'.keep,k'.bd,k'.du,k'.len,k'.slot,k'.own,k'.inj,k'.pinned⟩;have a:aK ⟨H,B,bN 0 ss vs,λ_ _=>False⟩ (bS vs++Wc (N.length-ss.length) none) (cb ss++Wc (N.length-ss.length) none) H σ' δ' H':=Ok.since rfl (by rw[cP]at jX;exact jX) (λa z=>Own.ext.mpr (Sj z)) k1;exact q C dx v H' hm (iV rfl ok a ho).1 ((iV rfl ok a ho).2 v (.pure z.jd) rv) hv
  refine⟨iS ⟨H,B,bN 0 ss vs,g⟩ fb,cG ⟨H,B,bN 0 ss vs,g⟩ aE A outer s H E hr mR (U_ hT ok) ⟨oc,od,kV,doc,pm,an,ct,dH,lk⟩ (Sh ik),aX N.length ss,⟨jX.keep,jX.bd,jX.du,jX.len,jX.slot,jX.own,jX.inj,jX.pinned⟩,?_⟩;unfold mV at hrun;unfold dJ;cases e:fb (aX N.length ss)with
 |stuck=>rw[e]at hrun;cases hrun|exc x δx=>rw[e]at hrun;simp only at hrun;cases eo:bj 0 ss δx with|none=>rw[eo]at hrun;cases hrun|some os=>rw[eo]at hrun;cases hrun;exact⟨os,eo,rfl⟩
 |ok fl δ'=>rw[e]at hrun;show∀σ' H',aK _ (start N vs) (aX N.length ss) H σ' δ' H'->fin _ _ σ' δ' H' fl;intro σ' H' a;rw[cP]at a;have k1:=a.ok;have a1:aK ⟨H,B,bN 0 ss vs,λ_ _=>False⟩ (bS vs++Wc (N.length-ss.length) none) (aX N.length ss) H σ' δ' H':=⟨⟨k1.keep,k1.bd,k1.du,k1.len,k1.slot,k1.own,k1.inj,k1.pinned⟩,a.keep,a.own,a.there⟩;simp only at hrun;cases fl with
 |brk=>cases hrun|cont=>cases hrun|next=>simp only[bW,Wz]at hrun;cases eo:bj 0 ss δ' with|none=>rw[eo]at hrun;cases hrun|some os=>rw[eo]at hrun;cases hrun;obtain⟨l1,l2⟩:=iV rfl ok a1 eo;exact q .aJ H' l1 .aJ
 |ret r'=>simp only[bW,Wz]at hrun;cases eo:bj 0 ss δ' with|none=>rw[eo]at hrun;cases hrun|some os=>rw[eo]at hrun;cases hrun;obtain⟨l1,l2⟩:=iV rfl ok a1 eo;exactλv rv=>q v H' l1 (l2 v _ (aY.Sk (c:=⟨H,B,bN 0 ss vs,λ_ _=>False⟩) (g:=g) rv))
theorem Vb{st:Stmt}{k:Nat}{fb:DS}(F:dq K x qual st f fd)(hm:mg x=some (.ref f))(hb:Binds K fd ps [])(S:eL N ps (aV st))(cG:∀(c:Fc)(aE:Value)(A:Wh)(outer:List Env)(s:W1)(H:Hp)(E:XK),b_ k (A.deeper (QB qual (aV st) s.heap.objs.size f aE))->Np c np->FT ts c->(∃oc od kV doc pm an ct dH,K.lookup f=some ⟨oc,od,.func (WT x qual (f6 st) (cZ st) (aV st) .none kV doc pm an aE ct),dH⟩)->dA (dG cH P w K mg base N qual (aV st) f aE A outer s H E).fE c (cZ st) fb)(hG:∀ss y,G ss=some y->bO np 0 ss=true/\eC fb N.length ss=some y):uK P w K mg base ts (k+1) x ps.length G:=⟨f,fd,ps,hm,F.kp,hb,FQ F S cG hG⟩
theorem Vc{st:Stmt}{k:Nat}{fb:DS}{G:DX}(F:dq K x qual st f fd)(hm:mg x=some (.ref f))(hb:Binds K fd ps [])(S:eL N ps (aV st))(cG:∀(c:Fc)(aE:Value)(A:Wh)(outer:List Env)(s:W1)(H:Hp)(E:XK),b_ k (A.deeper (QB qual (aV st) s.heap.objs.size f aE))->Np c np->FT ts c->(∃oc od kV doc pm an ct dH,K.lookup f=some ⟨oc,od,.func (WT x qual (f6 st) (cZ st) (aV st) .none kV doc pm an aE ct),dH⟩)->iY (dG (kO P w) P w K mg base N qual (aV st) f aE A outer s H E) (wD mg c)->dA (dG (kO P w) P w K mg base N qual (aV st) f aE A outer s H E) c (cZ st) fb)(hG:∀ss y,G ss=some y->bO np 0 ss=true/\mV fb N.length ss=some y):uM P w K mg base ts (k+1) x ps.length G:=⟨f,fd,ps,hm,F.kp,hb,Va F S cG hG⟩
theorem Vd{st:Stmt}(h1:∃oc od kV doc pm an ct dH,K.lookup f=some ⟨oc,od,.func (WT x qual (f6 st) (cZ st) (aV st) .none kV doc pm an aE ct),dH⟩)(h2:∃oc od kV doc pm an ct dH,K.lookup f=some ⟨oc,od,.func (WT x qual (f6 st) (cZ st) (aV st) .none kV doc pm an (.ref code) ct),dH⟩):aE=.ref code:=by obtain⟨_,_,_,_,_,_,_,_,e1⟩:=h1;obtain⟨_,_,_,_,_,_,_,_,e2⟩:=h2;rw[e1]at e2;cases e2;rfl
section
variable{k:Nat}{G:DX}
theorem Ve(F:uM X.prog X.w X.K X.mg X.base ts k x n G)(ft:FT ts c)(hK:xU G)(hr:b_ k X.A)(hex:X.ex=[])(hx:iY X (wD X.mg c))(hg:Gl X x)(ha:SX X c (e::es) as)(hl:as.length=n)(dm:(x==("__debug__":Str))=false:=by decide)(he:W7 (e::es) X.env=(false,eval e X.env)::W7 es X.env:=by rfl)(bu:(WO pos (W7 es X.env)).any (·.1)=false:=by rfl):SE X c (.Call (.Name x pp) (e::es) [] pos) (ju G as):=by obtain⟨f,fd,ps,hm,hk,hb,ok⟩:=F;refine PE.weak (Sg ok hr hex hg hm hk hb hx ha dm he bu) λσ H Q h=>?_;obtain⟨δ,kk,eN,q⟩:=So (X:=X) hK hl h;exact⟨δ,kk,eN,aN q λds δ1 q1 vs H1 a1 r1=>⟨ft.now a1.ok,q1 vs H1 a1 r1⟩⟩
end
theorem Vf{n fb np}(ft:FT ts c)(hex:X.ex=[])(dD:Np c [])(cP:X.stack=X.env::X.outer)(hf:X.env.frame=some X.env.locals)(hN:X.N.Nodup)(hi:X.N[i]?=some n)(hl:X.env.scope.names.lookup n=some .local)(hg:Gl X x)(hm:X.mg x=some (.ref B))(qB:jS X.K B)(Vg:∀y∈ys,X.mg (toS y)=some (.ref (ce y))/\PySem.W.mroIn X.K (ce y) (.ref B)=some true)(hb:∀(c':Fc)(pn:List (Addr×Obj))(xe:Value->W1->Prop),Np c' []->FT ts c'->iY (X.wt pn xe) (wD X.mg c')->dA (X.wt pn xe) c' body fb)(hh:∀a,dA (X.hand a) c (b₀::uo) fh)(dm:(x==("__debug__":Str))=false:=by decide):SS X c (.Try body [.ExceptHandler (some (.Name x np)) (some n) (b₀::uo) xS] [] [] pos) (om ce ys i fb fh):=by
 have hp:=EK dD;refine PS.weak (Sa (i:=i) (B:=B) (th:=λ_ _=>iS c fh) (tb:=λW D σ H=>TH ts H/\iS ⟨H,c.B,[],λz δ'=>∀σ' H',Ok ⟨H,c.B,[],λ_ _=>False⟩ σ' δ' H'->∀C dx v,X.mg (toS z.cls)=some (.ref C)->Rep H' (Av ⟨H,c.B,[],λ_ _=>False⟩ σ' δ') v z.jd->(∀y,v=.ref y->dx=some y)->W C dx σ' H'⟩ fb D σ H) hex cP hf hN hi hl hg hm qB dm (λW pn xe acc pins s σ H D I⟨hT,hw⟩=>hb _ pn xe (λp z=>by simp at z) ⟨hT,λt _⟨j,z⟩=>by simp at z⟩ (λps σ' H' s' a C dx J co⟨y,δ',v,hy,k',rv,hv,w'⟩=>acc ps σ' H' s' a C dx J co (w' σ' H' ⟨k'.keep,k'.bd,k'.du,k'.len,k'.slot,k'.own,k'.inj,k'.pinned⟩ C dx v hy rv hv)) pins s σ H D I hw) λ_ a=>hh a) λD σ H⟨δ,k,q⟩=>?_;unfold om at q;split at q;.rename_i ip;refine⟨ft.now k,δ,k.EL ip,?_⟩;unfold dJ at q⊢;cases e:fb δ with
 |stuck=>rw[e]at q;exact q.elim|ok fl δ'=>rw[e]at q;intro σ' H' a;have f0:=q σ' H' (aK.mX k hp a);cases fl with|next=>exact f0|brk=>exact f0|cont=>exact f0|ret r=>exactλv rv=>f0 v (aY.mX k hp rv)
 |exc z δ'=>
   rw[e]at q;simp only at q;split at q;.rename_i hc;simp only[Wo,decide_eq_true_eq]at hc;obtain⟨hy,bq⟩:=hc;intro σ' H' k' C dx v hC rv hv;obtain⟨y1,y2⟩:=Vg z.cls (~~~hy);rw[y1]at hC;cases hC;refine⟨y2,v,hv,λa ha=>?_⟩;have A1:aK c σ δ H σ' δ' H':=aK.mX k hp (Ok.since (c:=⟨H,c.B,[],λ_ _=>False⟩) rfl (k.EL ip) (λa⟨j,z⟩=>by simp at z) k');have A2:=A1.trans (aK.alloc A1.ok ha (.ext (excAt (ce z.cls) v a)));have A3:=Ok.set (i:=i) (v:=.ref a) (r:=.pure (.exc (ce z.cls) z.jd)) A2 (.exc (A1.ok.gZ ha) bL (Rep.dw rv (aK.alloc A1.ok ha _))) (λp zz=>by rw[hp]at zz;simp at zz);refine⟨δ'.set i (some (.pure (.exc (ce z.cls) z.jd))),A3.ok,?_⟩;unfold dJ;generalize fh (δ'.set i (some (.pure (.exc (ce z.cls) z.jd))))=r at q;cases r with|stuck=>exact q.elim|exc z' δ4=>exact q|ok fl δ4=>intro σ4 H4 A4;have f0:=q (σ4.set i none) H4 (aK.unset (A3.trans A4) hp i);cases fl with|next=>exact f0|brk=>exact f0|cont=>exact f0|ret r=>exactλv rv=>f0 v (aY.unset hp i rv)
   .exact q.elim
 .exact q.elim
def FW(K:W2)(neg:Bool):R2:=λx y H Q=>∃p vs ds d,y=.ref p/\cU K H p vs/\aF H c8 vs ds/\Rep H c8 x d/\flat 49 d=true/\(∀e∈ds,flat 49 e=true)/\Q (.bl (if neg then !ds.any λe=>aW e d else ds.any λe=>aW e d)) H
theorem Vh{x v}(hu:X.A.units+64<WD)(I:Lake.Inv X pins σ H s)(rx:RelV x v)(r1:Rep H c8 x d)(f1:flat 49 d=true)(rv:Vals vs its)(rs:aF H c8 vs ds)(fs:∀e∈ds,flat 49 e=true):∃e:Value->Bool,(∀y∈its.toArray,Uf X.A.in1 s y v (e y))/\its.toArray.any e=ds.any λe=>aW e d:=by
 have pre:=tM I (A:=X.A) 50 Y';obtain⟨_,it⟩:=pre;have lv:=rv.length;have at_:∀(i:Nat)(y:Value)(e:D),its[i]?=some y->ds[i]?=some e->Uf X.A.in1 s y v (aW e d):=λi y e h1 h2=>by
  have hi:i<vs.length:=by rw[rs.1];exact(W8.mp h2).1
  have hv:vs[i]?=some vs[i]:=W3 hi;obtain⟨y',e1,ry⟩:=rv.get hv;rw[h1]at e1;cases e1;exact it _ _ _ _ _ _ _ (show X.A.units+1+49+1<WD by lia) (fs e (Wq h2)) f1 (rs.2 i _ _ hv h2) r1 ry rx
 have dec:∀p:Prop,Decidable p:=Classical.propDecidable;refine⟨λy=>decide (∃(i:Nat)(e:D),its[i]?=some y/\ds[i]?=some e/\aW e d=true),λy hy=>?_,?_⟩
 .have kQ:y∈its:= ~~~hy;obtain⟨i,h1⟩:=JV kQ;have hi:i<ds.length:=by have:=(W8.mp h1).1;rw[<-rs.1,lv];exact this
  have h2:ds[i]?=some ds[i]:=W3 hi;by_cases q:∃(i:Nat)(e:D),its[i]?=some y/\ds[i]?=some e/\aW e d=true;.obtain⟨j,e,q1,q2,q3⟩:=id q;have:=at_ j y e q1 q2;rw[q3]at this;show Uf X.A.in1 s y v (decide _);rw[decide_eq_true q];exact this
  .have:=at_ i y _ h1 h2;have hf:aW ds[i] d=false:=by cases z:aW ds[i] d with|false=>rfl|true=>exact absurd ⟨i,_,h1,h2,z⟩ q
   rw[hf]at this;show Uf X.A.in1 s y v (decide _);rw[decide_eq_false q];exact this
 .rw[JD,List.any_eq_true];simp only[List.any_toArray,List.any_eq_true,decide_eq_true_eq];constructor;.rintro⟨y,_,i,e,h1,h2,h3⟩;exact⟨e,Wq h2,h3⟩
  .rintro⟨e,he,h3⟩;obtain⟨i,h2⟩:=JV he;have hi:i<its.length:=by rw[<-lv,rs.1];exact(W8.mp h2).1
   have h1:its[i]?=some its[i]:=W3 hi;exact⟨its[i],WX hi,i,e,h1,h2,h3⟩
theorem Vi(hu:X.A.units+64<WD):bZ X (WJ .NotIn) (FW X.K true):=by intro pins s σ H x y v u Q I rx ry h;obtain⟨p,vs,ds,d,rfl,hq,rs,r1,f1,fs,q⟩:=h;cases ry;obtain⟨its,r,pl,hz⟩:=I.list hq;obtain⟨e,h1,h2⟩:=Vh hu I rx r1 f1 r rs fs;refine SeqAt.notIn_listAt e pl.isList h1 ⟨.bl _,H,I,rfl,?_⟩;rw[h2];exact q
noncomputable def lX(neg:Bool)(x y:D):Option S:=match y with|.lst ds=>if flat 49 x&&ds.all (flat 49)then some (.pure (.bl (if neg then !ds.any λe=>aW e x else ds.any λe=>aW e x)))else none|_=>none
theorem Vj(neg:Bool):da (FW K neg) (lX neg):=by
 intro c σ δ H x y d e s Q k rx ry hp q;cases e<;>first|(simp[lX]at hp;done)|skip
 rename_i ds;simp only[lX]at hp;split at hp;.rename_i hf;cases hp;simp only[Wo,Q8]at hf;obtain⟨a,vs,ea,ha,r⟩:=ry.lst;exact⟨a,vs,ds,d,ea,.inl ha,aF.aM r λ_ z=>z.elim,rx.un,hf.1,hf.2,q _ H (.refl k) (.bl _)⟩
 .cases hp
section
open PySem.SeqAt
theorem Vk{w:V}(h:RelV v u)(k:RelV w u):v=w:=by cases v<;>cases u<;>simp[RelV]at h<;>cases w<;>simp[RelV]at k<;>simp_all
open Classical in noncomputable def fnI(its:List Value)(ds:List D)(d:D)(y:Value):Bool:=decide (∃(i:Nat)(e:D),its[i]?=some y/\ds[i]?=some e/\aW e d=true)
theorem Vl{d:D}{y:Value}:fnI its ds d y=true↔∃(i:Nat)(e:D),its[i]?=some y/\ds[i]?=some e/\aW e d=true:=by unfold fnI;exact@decide_eq_true_iff _ (Classical.propDecidable _)
def FX(K:W2):V->List V->Hp->VK->Prop:=λx xs H Q=>∃(p:Addr)(vs:List V)(ds:List D)(z:V)(d:D),x=.ref p/\xs=[z]/\cU K H p vs/\aF H c8 vs ds/\Rep H c8 z d/\flat 49 d=true/\(∀e∈ds,flat 49 e=true)/\ds.findIdx (λe=>aW e d)<ds.length/\ds.length<=1000/\Q (.int (ds.findIdx λe=>aW e d:Nat)) H
theorem Vm(hu:X.A.units+64<WD):nJ X "list.index" (FX X.K):=by
 intro pins s σ H x xs v us Q I rx rs h;obtain⟨a,vs,ds,z,d,rfl,rfl,hq,rps,r1,f1,fs,hj,hl,q⟩:=h;obtain⟨u,rfl,ru⟩:=gS rs;cases rx;obtain⟨its,r',p,_⟩:=I.list hq;obtain⟨⟨cls,dd,data,sl⟩,ho,hc,n,hd⟩:=p.isList;simp only at hc hd;subst hc;subst hd;have pre:=tM I (A:=X.A) 50 Y';obtain⟨_,it⟩:=pre;have lv:=r'.length;have hlen:its.length=ds.length:=by rw[<-lv,rps.1]
 have yk:∀(i:Nat)(y:Value)(e:D),its[i]?=some y->ds[i]?=some e->∃w,RelV w y/\Rep H c8 w e:=λi y e h1 h2=>by
  have hi:i<vs.length:=by rw[rps.1];exact(W8.mp h2).1
  have hv:vs[i]?=some vs[i]:=W3 hi;obtain⟨y',e1,ry⟩:=r'.get hv;rw[h1]at e1;cases e1;exact⟨_,ry,rps.2 i _ _ hv h2⟩
 have at_:∀(i:Nat)(y:Value)(e:D),its[i]?=some y->ds[i]?=some e->Uf X.A.in1 s y u (aW e d):=λi y e h1 h2=>by obtain⟨w,ry,rr⟩:=yk i y e h1 h2;exact it _ _ _ _ _ _ _ (show X.A.units+1+49+1<WD by lia) (fs e (Wq h2)) f1 rr r1 ry ru
 have yl:∀(i:Nat)(y:Value)(e:D),its[i]?=some y->ds[i]?=some e->fnI its ds d y=aW e d:=λi y e h1 h2=>by
  rw[JD,Vl];constructor;.rintro⟨j,e',g1,g2,g3⟩;obtain⟨w,ry,rr⟩:=yk i y e h1 h2;obtain⟨w',ry',rr'⟩:=yk j y e' g1 g2;have:=Vk ry ry';subst this;rw[Rep.inj rr (fs e (Wq h2)) (fs e' (Wq g2)) rr'];exact g3
  .exactλg=>⟨i,e,h1,h2,g⟩
 have jU:ds.findIdx (λe=>aW e d)<its.length:=by lia
 refine Jp QC ⟨_,ho,rfl⟩ PySem.F.entry_list_index (PySem.F.args_list_index_2 _ _) (list_indexAt a _ n dd sl u (fnI its ds d) (ds.findIdx λe=>aW e d) (~~~jU) Y' ?_ ?_) ⟨ho,λy hy=>?_,⟨.int (ds.findIdx λe=>aW e d:Nat),H,I.tok _,⟨_,rfl⟩,q⟩⟩;.simp only[JU];rw[yl _ _ _ (W3 jU) (W3 hj)];exact List.findIdx_getElem (p:=λe=>aW e d) (w:=hj)
 .intro m oq bq;have uz:m<its.length:= ~~~oq;simp only[JU];rw[yl _ _ _ (W3 uz) (W3 (show m<ds.length by lia))];have:=List.not_of_lt_findIdx (p:=λe=>aW e d) bq;simpa using this
 .have kQ:y∈its:= ~~~hy;obtain⟨j,hjj,rfl⟩:=U1 kQ;rw[yl _ _ _ (W3 hjj) (W3 (show j<ds.length by lia))];exact at_ j _ _ (W3 hjj) (W3 (show j<ds.length by lia))
end
noncomputable def qX(x y:D):Option S:=match x with|.lst ds=>if flat 49 y&&ds.all (flat 49)&&decide (ds.findIdx (λe=>aW e y)<ds.length/\ds.length<=1000)then some (.pure (.int (ds.findIdx λe=>aW e y:Nat)))else none|_=>none
def m9(i:Nat)(fb:DE):DE:=λδ=>match δ[i]? with|some (some s)=>if uA s.d then(fb δ).bind λy δ1=>match δ1[i]? with|some (some s)=>p2 qX s.d y.d δ1|_=>.stuck else .stuck|_=>.stuck
section
variable{o:Expr}{fa fb:DE}
theorem Vn:da (λx y H Q=>FX K x [y] H Q) qX:=by intro c σ δ H x y d e s Q k rx ry hp q;cases d with
 |lst ds=>
 simp only[qX]at hp;split at hp;.rename_i hf;cases hp;simp only[Wo,Q8,decide_eq_true_eq]at hf;obtain⟨a,vs,ea,ha,r⟩:=rx.lst;exact⟨a,vs,ds,y,e,ea,rfl,.inl ha,aF.aM r λ_ z=>z.elim,ry.un,hf.1.1,hf.1.2,hf.2.1,hf.2.2,q _ H (.refl k) (.int _)⟩
 .cases hp|_=>simp[qX]at hp
theorem Vo{apos br:Pos}(hu:X.A.units+64<WD)(he:PE X o (dZ i))(hx:SE X c e fb)(iq:QL o "index" X.env (eval o X.env)=eval o X.env:=by rfl)(ir:((WO br (W7 [e] X.env)).all (λx=>!x.1)&&(backToKw br (JG [] X.env)).all (λx=>x.1.isSome)&&decide ([e].length+([]:List Keyword).length+(if([]:List Keyword).isEmpty then 0 else 1)<30))=true:=by rfl)(fA:(apos.endLine==br.line)=true:=by rfl)(hs:W7 [e] X.env=(false,eval e X.env)::W7 [] X.env:=by rfl):SE X c (.Call (.Attribute o "index" apos) [e] [] br) (m9 i fb):=by refine PE.weak (nM J0 QC PySem.F.type_list_index (Vm hu) he (dU hx fH hs) iq ir fA hs rfl) λσ H Q h=>?_;obtain⟨δ,k,q⟩:=h;unfold m9 at q;cases e0:δ[i]? with|none=>rw[e0]at q;exact q.elim|some o=>cases o with|none=>rw[e0]at q;exact q.elim|some w=>
   rw[e0]at q;simp only at q;split at q;case isFalse=>exact q.elim
   rename_i hL;obtain⟨v,ev⟩:=qd k e0;have rb:=xl k e0 ev;have ty:nK X.K "list" v H:=by
    cases hd:w.d<;>rw[hd]at hL<;>try cases hL
    rw[hd]at rb;obtain⟨a,vs,ea,ha,_⟩:=rb.lst;subst ea;exact .inl ⟨rfl,_,.inl ha⟩
   rw[bh]at q;refine⟨v,ev,ty,δ,k,aN q λy δ1 q1 u H1 a1 r1=>?_⟩;cases e:δ1[i]? with|none=>rw[e]at q1;exact q1.elim|some o=>cases o with|none=>rw[e]at q1;exact q1.elim|some w1=>rw[e]at q1;have Vp:=xl a1.ok e ev;exact tR Vn a1.ok Vp (.inl r1.rep) (aN q1 λs δ3 q3 v' H3 a3 r3=>q3 v' H3 (a1.trans a3) (aY.back r3 a1))
end
section
open PySem.SeqAt
mutual def iF:NK->Nat|.i _=>1|.s _=>1|.t ks=>i3 ks+1def i3:List NK->Nat|[]=>0|k::ks=>iF k+i3 ks end
inductive dX(h:Heap):Nat->NK->Value->Prop|int{n:Nat}(z:Int)(t:Tok):dX h n (.i z) (.int z t)|bl{n:Nat}(b:Bool):dX h n (.i (if b then 1 else 0)) (.bool b)|str{n:Nat}(x:Str)(t:Tok):dX h n (.s x) (.str x t)|tup{n:Nat}{a:Addr}{its:Array Value}{ks:List NK}:h.IsTuple a its->ks.length=its.toList.length->(∀(i:Nat)k v,ks[i]?=some k->its.toList[i]?=some v->dX h n k v)->dX h (n+1) (.t ks) (.ref a)
section
variable{h:Heap}
theorem Vq{α β:Type}{xs ys:List α}{vs:List β}(h1:xs.length=vs.length)(h2:ys.length=vs.length)(q:∀(i:Nat)x y v,xs[i]?=some x->ys[i]?=some y->vs[i]?=some v->x=y):xs=ys:=by apply Jw Y';intro i a b;exact q i _ _ vs[i] (W3 a) (W3 b) (W3 Y')
theorem dX.inj{x:NK}{v:Value}(r:dX h n x v):∀{m:Nat}{y:NK},dX h m y v->x=y:=by induction r with|int z t=>intro m y k;cases k;rfl|bl b=>intro m y k;cases k;rfl|str x t=>intro m y k;cases k;rfl|@tup n a its ks h1 h2 h3 ih=>intro m y k;cases k with|@tup m _ its' ks' k1 k2 k3=>obtain⟨o,e,c,q,d⟩:=h1;obtain⟨o',e',c',q',d'⟩:=k1;rw[e]at e';cases e';rw[d]at d';cases d';rw[Vq h2 k2 λi x y v e1 e2 e3=>ih i x v e1 e3 (k3 i y v e2 e3)]
theorem dX.kept{x v}(r:dX h n x v)(k:∀b its,h.IsTuple b its->h'.IsTuple b its):dX h' n x v:=by induction r with|int z t=>exact .int z t|bl b=>exact .bl b|str x t=>exact .str x t|tup h1 h2 h3 ih=>exact .tup (k _ _ h1) h2 ih
theorem dX.up{x v}(r:dX h n x v):∀{m:Nat},n<=m->dX h m x v:=by induction r with|int z t=>intro m _;exact .int z t|bl b=>intro m _;exact .bl b|str x t=>intro m _;exact .str x t|tup h1 h2 h3 ih=>intro m l;obtain⟨m,rfl⟩:∃m',m=m'+1:=⟨m-1,Y'⟩;exact .tup h1 h2 λi k v e1 e2=>ih i k v e1 e2 Y'
end
theorem Vr{Q}(h:Q (hashInt (if b then 1 else 0)) {s with toks:=s.toks+1}):W4 (model prog w) A (PySem.pyHash (.bool b)) Q E s:=by
 have z:reduceHash (if b then 1 else 0)=hashInt (if b then 1 else 0):=by cases b<;>decide+kernel
 refine PySem.W.pyHash_slot (id:="int.__hash__") (T:="bool") (hT:=rfl) (slot:=F.slot_bool_hash) (entry:=entry_int_hash) (args:=args_int_hash _) (hid:=beq_builtin_none _) (hu:=.inl rfl) (body:=?_);cases b;.exact show W4 _ _ (mkInt 0>>=λv=>ret v) _ _ _ from W0 (wpAny_mkInt (W5 ⟨_,_,rfl,z▸h⟩))
 .exact show W4 _ _ (mkInt 1>>=λv=>ret v) _ _ _ from W0 (wpAny_mkInt (W5 ⟨_,_,rfl,z▸h⟩))
theorem FY(w:Wp):∀ks:List NK,r9 w ks=ks.map (fY w)|[]=>rfl|k::ks=>by simp only[r9,Wf,FY w ks]
theorem FZ:∀xs ys:List NK,i3 (xs++ys)=i3 xs+i3 ys|[],ys=>#v[i3]|x::xs,ys=>by simp only[List.cons_append,i3,FZ xs ys];lia
theorem dX.pyHash{v}(r:dX h n k v):∀{A:Wh}{s:W1}{Q:Int->W1->Prop},s.heap=h->A.units+n<WD->Q (fY w k) {s with toks:=s.toks+iF k}->W4 (model prog w) A (PySem.pyHash v) Q E s:=by induction r with|int z t=>intro A s Q _ _ q;exact wpAny_pyHash_int q|bl b=>intro A s Q _ _ q;exact Vr q|str x t=>intro A s Q _ _ q;exact wpAny_pyHash_str q|@tup n a its ks h1 h2 h3 ih=>
  intro A s Q hs hu q;subst hs;obtain⟨o,ho,hc,m,hd⟩:=id h1;have hT:s.TypeIs (.ref a) "tuple":=⟨o,ho,hc⟩;refine PySem.W.pyHash_slot (T:="tuple") hT F.slot_tuple_hash F.entry_tuple_hash (F.args_tuple_hash_1 _) (beq_builtin_none _) (.inr Y') ?_;show W4 _ _ (Builtin.Tuple.tupleItemsOf (.ref a)>>=_) _ _ s;refine W0 (wpAny_tupleItemsOf ho hd ?_);refine W0 ?_;rw[<-Array.forIn_toList];refine wpAny_forIn_list _ (λrest(b:Array Int)s'=>∃i,i<=ks.length/\rest=its.toList.drop i/\b.toList=(ks.take i).map (fY w)/\s'={s with toks:=s.toks+i3 (ks.take i)}) _ ?_ ?_ _ _ ⟨0,Qh _,rfl,rfl,#v[i3]⟩
  .rintro x rest b s'⟨i,hi,hr,hb,rfl⟩;have bq:i<its.toList.length:=by
    rcases Nat.lt_or_ge i its.toList.length with z|z;.exact z
    .rw[List.drop_eq_nil_of_le z]at hr;cases hr
   rw[Qt bq]at hr;injection hr with hx hr;have hJ:i<ks.length:=by lia
   refine W0 (ih i ks[i] x (W3 hJ) %[hx|W3 bq] rfl (show A.units+1+n<WD by lia) ?_);have ht:ks.take (i+1)=ks.take i++[ks[i]]:=by simp_all
   have fin:∃j,j<=ks.length/\rest=its.toList.drop j/\(b.push (fY w ks[i])).toList=(ks.take j).map (fY w)/\({s with toks:=s.toks+i3 (ks.take i)+iF ks[i]}:W1)={s with toks:=s.toks+i3 (ks.take j)}:=by refine⟨i+1,hJ,hr,by rw[ht,QZ,Array.toList_push,hb];rfl,?_⟩;rw[ht,FZ];simp only[i3];rw[Nat.add_zero,Nat.add_assoc]
   first|exact W5 fin|exact W0 (W5 (W5 fin))
  .rintro b s'⟨i,hi,hr,hb,rfl⟩;have hz:i=ks.length:=by have:=congrArg JY hr;simp at this;simp at h2;lia
   subst hz;rw[Uo]at hb⊢;show W4 _ _ (retInt (Builtin.Tuple.tupleHashOf b.toList)) _ _ _;rw[hb];refine W0 (wpAny_mkInt (W5 ⟨_,_,rfl,?_⟩));simp only[fY,iF,FY]at q;simpa[Nat.add_assoc]using q
theorem dX.quiet{v}(r:dX s.heap n k v):∀{A:Wh}{m:Nat}{Q:Bool->W1->Prop},n<=m->Q true s->W4 (model prog w) A (eqIsQuiet m v) Q E s:=by induction r with|int z t=>intro A m Q _ q;rw[eqIsQuiet_byValue _ rfl];exact W5 q|bl b=>intro A m Q _ q;rw[eqIsQuiet_byValue _ rfl];exact W5 q|str x t=>intro A m Q _ q;rw[eqIsQuiet_byValue _ rfl];exact W5 q|@tup n a its ks h1 h2 h3 ih=>
  intro A m Q hm q;obtain⟨o,ho,hc,mm,hd⟩:=id h1;have hT:s.TypeIs (.ref a) "tuple":=⟨o,ho,hc⟩;obtain⟨m,rfl⟩:∃m',m=m'+1:=⟨m-1,Y'⟩;unfold eqIsQuiet;refine W0 (wpAny_specialOf hT F.slot_tuple_eq.lookup ?_);show W4 _ _ (isInstance (.ref a) (.type "tuple")>>=_) _ _ s;refine W0 (wpAny_isInstance hT isSubtype_tuple_tuple ?_);simp only[Jh,Qe,if_false];refine W0 (Ql ho hd ?_);refine W0 ?_;show W4 _ _ (forIn its _ _) _ _ s;rw[<-Array.forIn_toList];refine wpAny_forIn_list _ (λrest r s'=>r.1=none/\s'=s/\∃i,rest=its.toList.drop i) _ ?_ ?_ _ _ ⟨rfl,rfl,0,rfl⟩
  .rintro x rest r s'⟨hr,rfl,i,hi⟩;have bq:i<its.toList.length:=by grind[List.drop_eq_nil_of_le]
   rw[Qt bq]at hi;injection hi with hx hi;have hJ:i<ks.length:=by lia
   refine W0 (ih i ks[i] x (W3 hJ) %[hx|W3 bq] Y' ?_);simp only[Jh,Qe,if_false];exact W5 ⟨rfl,rfl,i+1,hi⟩
  grind[W5]
theorem lY(a b:Int):decide (NK.i a=NK.i b)=(a==b):=by grind
theorem ym(a b:Str):decide (NK.s a=NK.s b)=(a==b):=by grind
theorem yn(a b:Bool):(a==b)=(((if a then 1 else 0:Int))==(if b then 1 else 0:Int)):=by cases a<;>cases b<;>rfl
theorem Vs{xs e}(he:∀(j:Nat)x y,xs[j]?=some x->ys[j]?=some y->e j=decide (x=y)):((WM (min xs.length ys.length)).all e&&xs.length==ys.length)=decide (NK.t xs=NK.t ys):=by
 by_cases hl:xs.length=ys.length
 .rw[<-hl,Nat.min_self];simp only[beq_self_eq_true,Bool.and_true];by_cases hx:xs=ys;.simp_all
  .rw[decide_eq_false λq=>hx (NK.t.inj q)];rw[List.all_eq_false];apply Classical.byContradiction;intro hn;apply hx;apply Jw hl;intro j a b;apply Classical.byContradiction;intro cQ;refine hn ⟨j,List.mem_range.mpr a,?_⟩;rw[he j _ _ (W3 a) (W3 b)];simpa using cQ
 grind
theorem dX.Vt{x}(r:dX s.heap n x u):∀{A:Wh}{m:Nat}{y:NK}{v:Value},dX s.heap m y v->A.units+n<WD->EqAt A s u v (decide (x=y)):=by induction r with
 |int z t=>intro A m y v k hu;cases k with|int z' t'=>rw[lY];exact EqAt.int_int _ _ _ _|bl b=>rw[lY];exact EqAt.int_bool _ _ _|str x t'=>rw[decide_eq_false λq=>nomatch q];exact EqAt.int_str _ _ _ _|tup k1 k2 k3=>rw[decide_eq_false λq=>nomatch q];exact EqAt.int_tuple _ _ k1 Y'
 |bl b=>intro A m y v k hu;cases k with|int z' t'=>rw[lY];exact EqAt.bool_int _ _ _|bl b=>rw[lY,<-yn];exact EqAt.bool_bool _ _|str x t'=>rw[decide_eq_false λq=>nomatch q];exact EqAt.bool_str _ _ _|tup k1 k2 k3=>rw[decide_eq_false λq=>nomatch q];exact EqAt.bool_tuple _ k1 Y'
 |str x t=>intro A m y v k hu;cases k with|int z' t'=>rw[decide_eq_false λq=>nomatch q];exact EqAt.str_int _ _ _ _|bl b=>rw[decide_eq_false λq=>nomatch q];exact EqAt.str_bool _ _ _|str x t'=>rw[ym];exact EqAt.str_str _ _ _ _|tup k1 k2 k3=>rw[decide_eq_false λq=>nomatch q];exact EqAt.str_tuple _ _ k1 Y'
 |@tup n a its ks h1 h2 h3 ih=>intro A m y v k hu;cases k with|int z' t'=>rw[decide_eq_false λq=>nomatch q];exact EqAt.tuple_int _ _ h1 Y'|bl b=>rw[decide_eq_false λq=>nomatch q];exact EqAt.tuple_bool _ h1 Y'|str x t'=>rw[decide_eq_false λq=>nomatch q];exact EqAt.tuple_str _ _ h1 Y'|@tup m' b its' ks' k1 k2 k3=>
   by_cases je:a=b;.subst je;have e:NK.t ks=NK.t ks':=dX.inj (dX.tup h1 h2 h3) (dX.tup k1 k2 k3);rw[decide_eq_true e];exact EqAt.same _
   .refine EqAt.of_refs je ?_;let e:Nat->Bool:=λj=>match ks[j]?,ks'[j]? with|some x,some y=>decide (x=y)|_,_=>false;have z1:its.size=ks.length:= ~~~h2.symm;have z2:its'.size=ks'.length:= ~~~k2.symm;have q:=RcAt.tuples (A:=A) (s:=s) (e:=e) h1 k1 Y' λj j1 j2=>by
     have l1:j<ks.length:=by lia
     have l2:j<ks'.length:=by lia
     have ee:e j=decide (ks[j]=ks'[j]):=by simp only[e,W3 l1,W3 l2]
     rw[ee];exact ih j ks[j] its[j] (W3 l1) #v[j1] (k3 j ks'[j] its'[j] (W3 l2) #v[j2]) (show A.units+1+n<WD by lia)
    rw[z1,z2,Vs λj x y e1 e2=>by simp only[e,e1,e2]]at q;exact q
theorem Vu{es ep}(ho:h.get? d=some o)(hd:o.data=.dict es ep)(hs:Jb d h h'):∀b its,h.IsTuple b its->h'.IsTuple b its:=λb its hh=>by
 obtain⟨o',e,c,n,q⟩:=hh
 have cQ:b≠d:=by grind
 exact⟨o',(hs.2 b cQ).trans e,c,n,q⟩
noncomputable def nkKind(prog:Wg)(w:Wp):HeapKind prog w NK where
 is:=λh k a=>dX h 6 k (.ref a)
 hash:=fY w
 draws:=iF
 room:=λA=>A.units+6<WD
 inj:=λhx hy=>hx.inj hy
 keeps:=λx ho hd hs=>x.kept (Vu ho hd hs)
 pyHash:=λhu hk h=>hk.pyHash rfl hu h
 eqBool:=λhu hx hy h=>hx.Vt hy hu _ _ _ _ h
 quiet:=λhk h=>hk.quiet Y' h
def kN:Key->NK|.inl z=>.i z|.inr x=>.s x
theorem Vv(h:kN p=kN q):p=q:=by cases p<;>cases q<;>first|(cases h;rfl)|cases h
def jY(h:Heap)(m:Bool)(k:NK)(u:Value):Prop:=match m with|true=>∃a,u=.ref a/\dX h 6 k u|false=>∃q:Key,iJ q u=true/\k=kN q
theorem Vw(h1:iJ p u=true)(h2:iJ q u=true):p=q:=by all_goals grind[la]
def ent(w:Wp)(x:NK×Value×Value):DictEntry:=⟨fY w x.1,x.2.1,x.2.2⟩
theorem F0{Q}(hu:A.units+6<WD)(hk:jY s.heap m k u)(h:Q (fY w k) {s with toks:=s.toks+iF k}):W4 (model prog w) A (PySem.pyHash u) Q E s:=by cases m with|true=>obtain⟨a,rfl,r⟩:=hk;exact r.pyHash rfl hu h|false=>obtain⟨q,h1,rfl⟩:=hk;refine(fD prog w).pyHash (k:=q) h1 ?_;cases q<;>exact h
theorem F1:∀{xs:List (NK×Value×Value)},(∀x∈xs,jY h true x.1 x.2.1)->∃ys:List (NK×Addr×Value),xs=ys.map λy=>(y.1,Value.ref y.2.1,y.2.2)|[],_=>⟨[],rfl⟩|x::xs,q=>by obtain⟨ys,e⟩:=F1 (xs:=xs) λy hy=>q y (Wm _ hy);obtain⟨a,e1,_⟩:=q x Wt;exact⟨(x.1,a,x.2.2)::ys,by rw[Wf,<-e];simp only[<-e1]⟩
theorem F2{k:NK}{d:Addr}{o:Obj}{es ep}{Q:Option Nat->W1->Prop}(hu:A.units+6<WD)(hk:jY s.heap m k u)(ho:s.heap.get? d=some o)(hd:o.data=.dict es ep)(he:es.toList=xs.map (ent w))(hx:∀x∈xs,jY s.heap m x.1 x.2.1)(hn:(xs.map (·.1)).Nodup)(F3:(∀(j:Nat)p,xs[j]?≠some (k,p))->Q none s)(Vx:∀(j:Nat)p,xs[j]?=some (k,p)->Q (some j) s):W4 (model prog w) A (dictFind d u (fY w k)) Q E s:=by
 cases m with|true=>
 obtain⟨a,rfl,r⟩:=hk;obtain⟨ys,rfl⟩:=F1 hx;refine wpAny_dictFind_heap (knd:=nkKind prog w) (xs:=ys) hu r ho hd (by rw[he,WC];rfl) (λy hy=>?_) (by rw[WC]at hn;exact hn) (λip=>F3 λj p e=>?_) λj p e=>?_;.obtain⟨b,e1,e2⟩:=hx _ (WU hy);cases e1;exact e2
 .rw[Wu]at e;cases q:ys[j]? with|none=>rw[q]at e;cases e|some y=>rw[q]at e;simp only[WP,Wd]at e;exact ip j y.2 (by rw[q,<-show y.1=k from congrArg Prod.fst e])
 .exact Vx j (.ref p.1,p.2) (by rw[Wu,e];rfl)|false=>
 obtain⟨q,h1,rfl⟩:=hk;have og:∀(j:Nat)e,es[j]?=some e->∃x,xs[j]?=some x/\e=ent w x:=λj e z=>by rw[<-Array.getElem?_toList,he,Wu]at z;cases y:xs[j]? with|none=>rw[y]at z;cases z|some x=>rw[y]at z;simp only[WP,Wd]at z;exact⟨x,rfl,z.symm⟩
 have ks:KeysOf (fD prog w) es:=λe jm=>by obtain⟨j,hj⟩:=JO.mp (Array.mem_toList_iff.mpr jm);obtain⟨x,e1,rfl⟩:=og j e (by rw[<-Array.getElem?_toList];exact hj);obtain⟨q',e2,e3⟩:=hx x (Wq e1);refine⟨q',e2,?_⟩;show fY w x.1=_;rw[e3];cases q'<;>rfl
 have hh:fY w (kN q)=(fD prog w).hash q:=by cases q<;>rfl
 rw[hh];refine wpAny_dictFind_of (knd:=fD prog w) (k:=q) h1 ho hd ks ?_;cases hf:es.findIdx? λe=>(fD prog w).is q e.key with|none=>
 refine F3 λj p e=>?_;have hj:j<xs.length:=(W8.mp e).1;have hz:es.size=xs.length:=by rw[<-Jx,he,Wv]
 obtain⟨x,e1,e2⟩:=og j es[j] #v[hz,hj];rw[e]at e1;cases e1;have:=Array.findIdx?_eq_none_iff.mp hf es[j] (Array.getElem_mem _);obtain⟨q',e3,e4⟩:=hx _ (Wq e);rw[Vv e4]at this;rw[e2]at this;have z:iJ q' p.1=false:=this;grind|some j=>obtain⟨bq,hp,_⟩:=Array.findIdx?_eq_some_iff_getElem.mp hf;obtain⟨x,e1,e2⟩:=og j es[j] #v[bq];obtain⟨q',e3,e4⟩:=hx x (Wq e1);rw[e2]at hp;have:q=q':=Vw (show iJ q x.2.1=true from hp) e3;grind
noncomputable def atN(xs:List (NK×Value×Value))(k:NK):Option (Value×Value):=(xs.find? λx=>decide (x.1=k)).map (·.2)
noncomputable def stN(xs:List (NK×Value×Value))(k:NK)(u v:Value):List (NK×Value×Value):=if(xs.any λx=>decide (x.1=k))=true then xs.map λx=>if x.1=k then(x.1,x.2.1,v)else x else xs++[(k,u,v)]
theorem F4(h:∀(j:Nat)p,xs[j]?≠some (k,p)):atN xs k=none/\(xs.any λx=>decide (x.1=k))=false:=by
 have z:∀x∈xs,decide (x.1=k)=false:=λx hx=>by grind[List.mem_iff_getElem?]
 grind[atN]
theorem yo:∀{xs:List (NK×Value×Value)}{k:NK}{j:Nat}{p:Value×Value},(xs.map (·.1)).Nodup->xs[j]?=some (k,p)->atN xs k=some p/\(xs.any λx=>decide (x.1=k))=true|[],k,j,p,_,e=>by simp at e|x::xs,k,j,p,hn,e=>by rw[Wf,Q2]at hn;cases j with|zero=>simp at e;subst e;simp[atN]|succ j=>have e':xs[j]?=some (k,p):= ~~~e;have cQ:¬x.1=k:=λz=>hn.1 (by rw[z];exact Q9.mpr ⟨_,Wq e',rfl⟩);obtain⟨h1,h2⟩:=yo hn.2 e';grind[atN]
theorem Vy{k:NK}{d:Addr}{o:Obj}{es ep}{Q:Option Value->W1->Prop}(hu:A.units+6<WD)(hk:jY s.heap m k u)(ho:s.heap.get? d=some o)(hd:o.data=.dict es ep)(he:es.toList=xs.map (ent w))(hx:∀x∈xs,jY s.heap m x.1 x.2.1)(hn:(xs.map (·.1)).Nodup)(h:Q ((atN xs k).map (·.2)) {s with toks:=s.toks+iF k}):W4 (model prog w) A (dictGet d u) Q E s:=by
 unfold dictGet;try with_reducible refine WB ?_
 refine W0 (F0 hu hk (W0 (F2 (s:={s with toks:=s.toks+iF k}) hu hk ho hd he hx hn ?_ ?_)));.intro ip;rw[(F4 ip).1]at h;exact W5 h
 .intro j p hj;rw[(yo hn hj).1]at h;refine W0 (wpAny_dictEntries (s:={s with toks:=s.toks+iF k}) ho hd ?_);rw[<-Array.getElem?_toList,he,Wu,hj];exact W5 h
theorem F5{v}(hn:(xs.map (·.1)).Nodup):((stN xs k u v).map (·.1)).Nodup:=by
 unfold stN;split;.rw[WC];rw[show((λx:NK×Value×Value=>x.1)∘λx=>if x.1=k then(x.1,x.2.1,v)else x)=(·.1)from funext λx=>by simp only[Function.comp];split<;>rfl];exact hn
 .rename_i hh;rw[QZ,List.nodup_append];refine⟨hn,U',λx hx y hy e=>?_⟩;simp only[Wf,List.map_nil,List.mem_singleton]at hy;subst hy e;obtain⟨z,hz,e⟩:=Q9.mp hx;exact hh (List.any_eq_true.mpr ⟨z,hz,decide_eq_true e⟩)
theorem F6{v}:∀{xs:List (NK×Value×Value)}{j:Nat}{p:Value×Value},(xs.map (·.1)).Nodup->xs[j]?=some (k,p)->(xs.map (ent w)).modify j (λe=>{e with val:=v})=(xs.map λx=>if x.1=k then(x.1,x.2.1,v)else x).map (ent w)
 |[],j,p,_,e=>by simp at e|x::xs,j,p,hn,e=>by
  rw[Wf,Q2]at hn;cases j with|zero=>
   simp at e;subst e;have z:(xs.map λx=>if x.1=k then(x.1,x.2.1,v)else x)=xs:=by
    conv=>rhs;rw[<-List.map_id xs]
    refine QJ λy hy=>?_;rw[if_neg λq=>hn.1 (Q9.mpr ⟨y,hy,q⟩)];rfl
   rw[Wf,Wf,Wf,z,if_pos rfl];rfl|succ j=>have e':xs[j]?=some (k,p):= ~~~e;have cQ:¬x.1=k:=λz=>hn.1 (by rw[z];exact Q9.mpr ⟨_,Wq e',rfl⟩);rw[Wf,Wf,Wf,if_neg cQ];show ent w x::(xs.map (ent w)).modify j _=_;rw[F6 hn.2 e']
theorem F7{k:NK}{v:Value}{d:Addr}{o:Obj}{es ep}{Q:Unit->W1->Prop}(hu:A.units+6<WD)(hk:jY s.heap m k u)(ho:s.heap.get? d=some o)(hc:o.ExactDict)(hd:o.data=.dict es ep)(he:es.toList=xs.map (ent w))(hx:∀x∈xs,jY s.heap m x.1 x.2.1)(hn:(xs.map (·.1)).Nodup)(hz:xs.length<=Wa)(hQ:∀h' o' km fq,h'.get? d=some o'->o'.ExactDict->o'.data=.dict km fq->km.toList=(stN xs k u v).map (ent w)->Jb d s.heap h'->Q () {s with heap:=h',toks:=s.toks+iF k}):W4 (model prog w) A (dictSet d u v) Q E s:=by
 have hsz:es.size=xs.length:=by rw[<-Jx,he,Wv]
 unfold dictSet;try with_reducible refine WB ?_
 refine W0 (F0 hu hk ?_);unfold dictSetHashed;try with_reducible refine WB ?_
 refine W0 (F2 (s:={s with toks:=s.toks+iF k}) hu hk ho hd he hx hn ?_ ?_);.intro ip;refine W0 (QX (wpAny_updateDictKeys (hz:=by lia) (s:={s with toks:=s.toks+iF k}) ho hd (hQ _ _ _ (ep+1) (Q3 _ ho (Obj.isFreed_of_dict (Obj.data_mapDictKeys hd _))) (hc.mapDictKeys _) (Obj.data_mapDictKeys hd _) ?_ (U0 ..))));unfold stN;rw[if_neg (by rw[(F4 ip).2];simp)];simp[he,ent]
 .intro j p hj;refine W0 (QX (W0 (wpAny_updateDict (s:={s with toks:=s.toks+iF k}) ho hd (wpAny_point (hQ _ _ _ ep (Q3 _ ho (Obj.isFreed_of_dict (Obj.data_mapDict hd _))) (hc.mapDict _) (Obj.data_mapDict hd _) ?_ (U0 ..))))));unfold stN;rw[if_pos (yo hn hj).2,<-F6 hn hj,<-he];grind
inductive i4(H:Hp):Nat->NK->V->Prop|int{n:Nat}(z:Int):i4 H n (.i z) (.int z)|bl{n:Nat}(b:Bool):i4 H n (.i (if b then 1 else 0)) (.bl b)|str{n:Nat}(x:Str):i4 H n (.s x) (.str x)|tup{n:Nat}{a:Addr}{vs:List V}{ks:List NK}:H a=some (.tup vs)->ks.length=vs.length->(∀(i:Nat)k v,ks[i]?=some k->vs[i]?=some v->i4 H n k v)->i4 H (n+1) (.t ks) (.ref a)
def fW(H:Hp)(m:Bool)(k:NK)(v:V):Prop:=match m with|true=>(∃a,v=.ref a)/\i4 H 6 k v|false=>∃q:Key,k=kN q/\v=kV q
theorem Vals.Vz{xs:List V}(r:Vals xs us)(e:us[i]?=some u):∃x,xs[i]?=some x/\RelV x u:=by
 have h1:=r.length;have h2:i<xs.length:=by have:=(W8.mp e).1;lia
 obtain⟨u',e',rr⟩:=r.get (W3 h2);rw[e]at e';cases e';exact⟨_,W3 h2,rr⟩
theorem i4.nk{h:Heap}{k:NK}(ok:cK P w H h)(r:i4 H n k v):∀{u:Value},RelV v u->dX h n k u:=by induction r with|int z=>intro u q;obtain⟨t,rfl⟩:=q;exact .int z t|bl b=>intro u q;cases q;exact .bl b|str x=>intro u q;obtain⟨t,rfl⟩:=q;exact .str x t|@tup n a vs ks h1 h2 h3 ih=>intro u q;cases q;obtain⟨_,its,r,p⟩:=show bE P w H h a (.tup vs)from ok a _ h1;have ht:h.IsTuple a its.toArray:=p.tup;refine .tup ht (by rw[h2];simpa using r.length) λi k u e1 e2=>?_;obtain⟨x,e3,rx⟩:=r.Vz (u:=u) (i:=i) (~~~e2);exact ih i k x e1 e3 rx
theorem fW.key(ok:cK P w H h)(r:fW H m k v)(q:RelV v u):jY h m k u:=by cases m with|true=>obtain⟨⟨a,rfl⟩,r⟩:=r;cases q;exact⟨a,rfl,r.nk ok rfl⟩|false=>obtain⟨q',rfl,rfl⟩:=r;exact⟨q',by rw[<-La P w];exact mw q,rfl⟩
abbrev NE:=NK×V×V
def eO:List NE->List (NK×Value×Value)->Prop:=Paired λ(p:NE)(x:NK×Value×Value)=>p.1=x.1/\RelV p.2.1 x.2.1/\RelV p.2.2 x.2.2
theorem F8:∀{ar:List NE}{es:List DictEntry},Paired (λ(p:NE)(e:DictEntry)=>e.hash=fY w p.1/\RelV p.2.1 e.key/\RelV p.2.2 e.val) ar es->∃xs,eO ar xs/\es=xs.map (ent w)|_,_,.nil=>⟨[],.nil,rfl⟩|p::_,e::_,.cons r t=>by obtain⟨xs,h1,h2⟩:=F8 t;refine⟨(p.1,e.key,e.val)::xs,.cons ⟨rfl,r.2.1,r.2.2⟩ h1,?_⟩;rw[Wf,<-h2];unfold ent;rw[<-r.1]
theorem F9:∀{ar:List NE}{xs:List (NK×Value×Value)},eO ar xs->Paired (λ(p:NE)(e:DictEntry)=>e.hash=fY w p.1/\RelV p.2.1 e.key/\RelV p.2.2 e.val) ar (xs.map (ent w))|_,_,.nil=>.nil|p::_,x::_,.cons r t=>.cons ⟨by show fY w x.1=_;rw[r.1],r.2.1,r.2.2⟩ (F9 t)
theorem eO.keys:∀{ar:List NE}{xs:List (NK×Value×Value)},eO ar xs->ar.map (·.1)=xs.map (·.1)|_,_,.nil=>rfl|p::_,x::_,.cons r t=>by rw[Wf,Wf,r.1,eO.keys t]
noncomputable def valN(ar:List NE)(k:NK):Option V:=(ar.find? λp=>decide (p.1=k)).map (·.2.2)
noncomputable def putN(ar:List NE)(k:NK)(y v:V):List NE:=if(ar.any λp=>decide (p.1=k))=true then ar.map λp=>if p.1=k then(p.1,p.2.1,v)else p else ar++[(k,y,v)]
theorem eO.val(k:NK):∀{ar:List NE}{xs:List (NK×Value×Value)},eO ar xs->eF (valN ar k) ((atN xs k).map (·.2))/\(ar.any λp=>decide (p.1=k))=xs.any λx=>decide (x.1=k)
 |_,_,.nil=>⟨trivial,rfl⟩|p::ar,x::xs,.cons r t=>by
  obtain⟨i1,i2⟩:=eO.val k t;rw[Qj,Qj,i2,r.1];refine⟨?_,rfl⟩;unfold valN atN at i1⊢;rw[WW,WW,r.1];by_cases e:x.1=k;.rw[decide_eq_true e];exact r.2.2
  .rw[decide_eq_false e];exact i1
theorem eO.st(rv:RelV v r):∀{ar:List NE}{xs:List (NK×Value×Value)},eO ar xs->eO (ar.map λp=>if p.1=k then(p.1,p.2.1,v)else p) (xs.map λx=>if x.1=k then(x.1,x.2.1,r)else x)
 |_,_,.nil=>.nil|p::_,x::_,.cons q t=>by
  rw[Wf,Wf];refine .cons ?_ (eO.st rv t);rw[q.1];by_cases e:x.1=k;.rw[if_pos e,if_pos e];exact⟨rfl,q.2.1,rv⟩
  .rw[if_neg e,if_neg e];exact q
theorem eO.app(ry:RelV y u)(rv:RelV v r):∀{ar:List NE}{xs:List (NK×Value×Value)},eO ar xs->eO (ar++[(k,y,v)]) (xs++[(k,u,r)])|_,_,.nil=>.cons ⟨rfl,ry,rv⟩ .nil|p::_,x::_,.cons q t=>.cons q (eO.app ry rv t)
theorem eO.put{ar}(ry:RelV y u)(rv:RelV v r)(h:eO ar xs):eO (putN ar k y v) (stN xs k u r):=by
 unfold putN stN;rw[(eO.val k h).2];split;.exact h.st rv
 .exact h.app ry rv
section
variable{h:Heap}{ar:List NE}
structure oB(w:Wp)(h:Heap)(a:Addr)(ep:Nat)(xs:List (NK×Value×Value))(o:Obj)(es:Array DictEntry):Prop where
 get:h.get? a=some o
 ex:o.ExactDict
 data:o.data=.dict es ep
 ents:es.toList=xs.map (ent w)oE:(xs.map (·.1)).Nodup
theorem qY(ok:cK P w H h)(e:H a=some (.dN ep ar)):ar.length<=Wa/\(a==QA)=false/\∃xs o es,eO ar xs/\oB w h a ep xs o es:=by obtain⟨z,hS,o,es,h1,h2,h3,h4,h5⟩:=show bE P w H h a (.dN ep ar)from ok a _ e;obtain⟨xs,q1,q2⟩:=F8 h4;exact⟨z,hS,xs,o,es,q1,h1,h2,h3,q2,by rw[<-q1.keys];exact h5⟩
theorem F_{es}(z:ar.length<=Wa)(hS:(a==QA)=false)(r:eO ar xs)(d:oB w h a ep xs o es):bE P w H h a (.dN ep ar):=⟨z,hS,o,es,d.get,d.ex,d.data,%[d.ents|F9 r],%[r.keys|d.oE]⟩
theorem oB.typeIs{o:Obj}{es:Array DictEntry}(d:oB w s.heap a ep xs o es):s.TypeIs (.ref a) "dict":=⟨o,d.get,d.ex.1⟩
theorem oB.noDict{es}(d:oB w h a ep xs o es):∀b,Value.ref a=.ref b->∃ob,h.get? b=some ob/\ob.dict=none:=λb e=>by cases e;exact⟨o,d.get,d.ex.2.1⟩
theorem yp(ok:cK P w H h)(r:eO ar xs)(hk:∀p∈ar,fW H m p.1 p.2.1):∀x∈xs,jY h m x.1 x.2.1:=by induction r with|nil=>intro x hx;simp at hx|cons q t ih=>
 intro x hx;rcases Ws.mp hx with rfl|hx;.rw[<-q.1];exact(hk _ Wt).key ok q.2.1
 .exact ih (λp hp=>hk p (Wm _ hp)) x hx
end
def lZ(H:Hp)(a:Addr)(y:V)(r:Option V):Prop:=∃m ep ar k,H a=some (.dN ep ar)/\(∀p∈ar,fW H m p.1 p.2.1)/\fW H m k y/\r=valN ar k
section
variable{y:V}{r:Value}{o:Option V}
theorem Ga{Q}(hu:A.units+6<WD)(I:Inv X pins σ H s)(g:lZ H a y o)(ry:RelV y u)(h:∀w' s',Inv X pins σ H s'->eF o w'->Q w' s'):W4 (model X.prog X.w) A (dictGet a u) Q E s:=by obtain⟨m,ep,ar,k,e,hk,ky,rfl⟩:=g;obtain⟨z,hS,xs,ob,es,rx,d⟩:=qY I.az e;exact Vy hu (ky.key I.az ry) d.get d.data d.ents (yp I.az rx hk) d.oE (h _ _ (I.tok _) (rx.val k).1)
theorem yq(I:Inv X pins σ H s)(g:lZ H a y o):s.TypeIs (.ref a) "dict"/\(∀b,Value.ref a=.ref b->∃ob,s.heap.get? b=some ob/\ob.dict=none)/\(a==QA)=false:=by obtain⟨m,ep,ar,k,e,hk,ky,rfl⟩:=g;obtain⟨z,hS,xs,ob,es,rx,d⟩:=qY I.az e;exact⟨d.typeIs,d.noDict,hS⟩
theorem VA(hu:A.units+8<WD)(I:Inv X pins σ H s)(g:lZ H a y (some v))(ry:RelV y u)(h:∀w' s',Inv X pins σ H s'->RelV v w'->Q w' s'):W4 (model X.prog X.w) A (Ue (.ref a) u) Q E s:=by
 obtain⟨hT,_,_⟩:=yq I g;unfold Ue;try with_reducible refine WB ?_
 refine W0 (Uk hT Z' ?_);refine W0 (Qb (name:=Str.ofString "__getitem__") hT slot_dict_getitem (Qg slot_dict_getitem hT entry_dict_getitem ?_ (args_dict_getitem _ _)));show W4 _ _ (dictGet a u>>=_) _ _ s;refine W0 (Ga (show A.units+1+6<WD by lia) I g ry λw' s' I' rr=>?_);obtain⟨w2,rfl,r2⟩:=eF.some_of rr;exact W5 ⟨w2,rfl,W5 (h w2 s' I' r2)⟩
theorem VB{Q}(hu:A.units+8<WD)(I:Inv X pins σ H s)(g:lZ H a y o)(ry:RelV y u)(h:∀s',Inv X pins σ H s'->Q o.isSome s'):W4 (model X.prog X.w) A (contains (.ref a) u) Q E s:=by
 obtain⟨hT,_,hS⟩:=yq I g;unfold contains;try with_reducible refine WB ?_
 refine W0 (wpAny_specialOf hT slot_dict_contains.lookup ?_);show W4 _ _ (if(some (Value.builtin "dict.__contains__")==some Value.none)=true then _ else _) _ E s;rw[if_neg %[beq_builtin_none|WY]];refine W0 (wpAny_callSpecialUnlessNone?_slot (name:=Str.ofString "__contains__") hT slot_dict_contains (Qg slot_dict_contains hT entry_dict_contains ?_ (args_dict_contains _ _)));show W4 _ _ (dictGet a u>>=_) _ _ s;refine W0 (Ga (show A.units+1+6<WD by lia) I g ry λw' s' I' rr=>?_);cases o with|some x=>obtain⟨w2,rfl,r2⟩:=eF.some_of rr;show W4 _ _ (ret (.bool true)) _ _ _;exact W5 ⟨_,rfl,QD (h s' I')⟩|none=>obtain rfl:=eF.none_of rr;show W4 _ _ (Builtin.Dict.pendingKey? a u>>=_) _ _ _;exact W0 (wpAny_pendingKey_other hS (W5 ⟨_,rfl,QD (h s' I')⟩))
theorem VC(hu:A.units+8<WD)(I:Inv X pins σ H s)(g:lZ H a y o)(ry:RelV y u)(h:∀s',Inv X pins σ H s'->Q (.bool !o.isSome) s'):W4 (model X.prog X.w) A (WJ .NotIn u (.ref a)) Q E s:=by show W4 _ _ (do return .bool !(<-contains (.ref a) u)) Q E s;exact W0 (VB hu I g ry λs' I'=>W5 (h s' I'))
def uN(H:Hp)(a:Addr)(y v:V)(R:Hp->Prop):Prop:=∃m ep ar k,H a=some (.dN ep ar)/\(∀p∈ar,fW H m p.1 p.2.1)/\fW H m k y/\ar.length<Wa/\∀fq,R (upd H a (.dN fq (putN ar k y v)))
theorem yr(ar:List NE)(k:NK)(y v:V):(putN ar k y v).length<=ar.length+1:=by
 unfold putN;split;.simp
 .simp
theorem Gb{R Q}(hu:A.units+6<WD)(I:Inv X pins σ H s)(g:uN H a y v R)(ry:RelV y u)(rv:RelV v r)(h:∀H' s',Inv X pins σ H' s'->R H'->Q () s'):W4 (model X.prog X.w) A (dictSet a u r) Q E s:=by
 obtain⟨m,ep,ar,k,e,hk,ky,hz,hR⟩:=g;obtain⟨z,hS,xs,ob,es,rx,d⟩:=qY I.az e;have hl:xs.length<=Wa:=by rw[<-Paired.length rx];exact z
 refine F7 hu (ky.key I.az ry) d.get d.ex d.data d.ents (yp I.az rx hk) d.oE hl λh' o' km fq q1 q2 q3 q4 hs=>h _ _ ?_ (hR fq);have iO:(putN ar k y v).length<=Wa:=by have:=yr ar k y v;lia
 exact pZ I %[e|True.intro] hs ⟨o',q1⟩ (F_ iO hS (rx.put ry rv) ⟨q1,q2,q3,q4,F5 d.oE⟩)
theorem VD{R:Hp->Prop}{Q:Unit->W1->Prop}(hu:A.units+8<WD)(I:Inv X pins σ H s)(g:uN H a y v R)(ry:RelV y u)(rv:RelV v r)(h:∀H' s',Inv X pins σ H' s'->R H'->Q () s'):W4 (model X.prog X.w) A (setItem (.ref a) u r) Q E s:=by
 have hT:s.TypeIs (.ref a) "dict":=by obtain⟨m,ep,ar,k,e,_⟩:=g;obtain⟨z,hS,xs,ob,es,rx,d⟩:=qY I.az e;exact d.typeIs
 unfold setItem;try with_reducible refine WB ?_
 refine W0 (Uk hT Z' ?_);refine W0 (Qb (name:=Str.ofString "__setitem__") hT slot_dict_setitem (Qg slot_dict_setitem hT entry_dict_setitem ?_ (args_dict_setitem _ _ _)));show W4 _ _ (Builtin.Dict.notOrdered "__setitem__" ⟨[.ref a,u,r],[]⟩>>=_) _ _ s;refine W0 (wpAny_notOrdered_dict hT ?_);show W4 _ _ (dictSet a u r>>=_) _ _ s;exact W0 (Gb (show A.units+1+6<WD by lia) I g ry rv λH' s' I' hR=>W5 ⟨.none,rfl,W5 (h H' s' I' hR)⟩)
end
end
variable{acc:List NE}
theorem VE(n:Nat)(i:Int):cR n (.int i)=some (.i i):=by cases n<;>rfl
theorem VF(n:Nat)(b:Bool):cR n (.bl b)=some (.i (if b then 1 else 0)):=by cases n<;>rfl
theorem VG(n:Nat)(x:Tx):cR n (.str x)=some (.s (toS x)):=by cases n<;>rfl
theorem VH(n:Nat)(xs:List D):cR (n+1) (.tup xs)=(gX n xs).map .t:=rfl
theorem uO{x}(h:cR n d=some x):(∃i,d=.int i/\x=.i i)\/(∃b,d=.bl b/\x=.i (if b then 1 else 0))\/(∃s,d=.str s/\x=.s (toS s))\/∃m xs ks,n=m+1/\d=.tup xs/\gX m xs=some ks/\x=.t ks:=by cases d with
 |int i=>rw[VE]at h;exact .inl ⟨i,rfl,(WG h).symm⟩|bl b=>rw[VF]at h;exact .inr (.inl ⟨b,rfl,(WG h).symm⟩)|str s=>rw[VG]at h;exact .inr (.inr (.inl ⟨s,rfl,(WG h).symm⟩))|tup xs=>cases n with|zero=>cases h|succ m=>rw[VH,Ww]at h;obtain⟨ks,hk,e⟩:=h;exact .inr (.inr (.inr ⟨m,xs,ks,rfl,rfl,hk,e.symm⟩))
 |_=>cases n<;>cases h
theorem Gd(ih:∀(d e:D)(x y:NK),cR n d=some x->cR n e=some y->aW d e=decide (x=y)):∀(xs ys:List D)(ks ls:List NK),gX n xs=some ks->gX n ys=some ls->e_ xs ys=decide (ks=ls)|[],[],ks,ls,h1,h2=>by grind[e_]|[],y::ys,ks,ls,h1,h2=>by simp only[gX,Wd,Jz,Ww]at h1 h2;subst h1;obtain⟨k,_,l,_,rfl⟩:=h2;simp[e_]|x::xs,[],ks,ls,h1,h2=>by simp only[gX,Wd,Jz,Ww]at h1 h2;subst h2;obtain⟨k,_,l,_,rfl⟩:=h1;simp[e_]|x::xs,y::ys,ks,ls,h1,h2=>by simp only[gX,Jz,Ww]at h1 h2;obtain⟨k,hk,k',ly,rfl⟩:=h1;obtain⟨l,hl,l',iO,rfl⟩:=h2;simp only[e_];rw[ih x y k l hk hl,Gd ih xs ys k' l' ly iO];grind
theorem Ge:∀(n:Nat)(d e:D)(x y:NK),cR n d=some x->cR n e=some y->aW d e=decide (x=y):=by intro n;induction n with
 |zero=>intro d e x y h1 h2;rcases uO h1 with⟨i,rfl,rfl⟩|⟨b,rfl,rfl⟩|⟨s,rfl,rfl⟩|⟨m,xs,ks,e,_⟩<;>rcases uO h2 with⟨i,rfl,rfl⟩|⟨b,rfl,rfl⟩|⟨s,rfl,rfl⟩|⟨m,xs,ks,e,_⟩<;>first|(cases e;done)|(simp only[aW];first|(rw[decide_eq_false λq=>nomatch q];done)|(rw[lY,<-yn];done)|(rw[lY];done)|(rw[ym,nR];done))
 |succ n ih=>
 intro d e x y h1 h2;rcases uO h1 with⟨i,rfl,rfl⟩|⟨b,rfl,rfl⟩|⟨s,rfl,rfl⟩|⟨m,xs,ks,e1,rfl,hk,rfl⟩<;>rcases uO h2 with⟨i,rfl,rfl⟩|⟨b,rfl,rfl⟩|⟨s,rfl,rfl⟩|⟨m,ys,ls,e2,rfl,hl,rfl⟩<;>first|(simp only[aW];first|(rw[decide_eq_false λq=>nomatch q];done)|(rw[lY,<-yn];done)|(rw[lY];done)|(rw[ym,nR];done))|skip
 cases e1;cases e2;simp only[aW];rw[Gd ih xs ys ks ls hk hl];grind
theorem Gf:∀{xs:List D}{ks:List NK},gX n xs=some ks->ks.length=xs.length/\∀(i:Nat)d k,xs[i]?=some d->ks[i]?=some k->cR n d=some k|[],ks,h=>by simp[gX]at h;subst h;exact⟨rfl,λi d k e=>by simp at e⟩|x::xs,ks,h=>by simp only[gX,Jz,Ww]at h;obtain⟨k,hk,k',ly,rfl⟩:=h;obtain⟨h1,h2⟩:=Gf ly;refine⟨#v[h1],λi d kk e1 e2=>?_⟩;cases i with|zero=>simp at e1 e2;subst e1;subst e2;exact hk|succ i=>exact h2 i d kk (~~~e1) (~~~e2)
theorem VI(r:Rep H O v d):∀{n:Nat}{k:NK},cR n d=some k->i4 H n k v:=by
 induction r with|int i=>intro n k h;cases n<;>(simp[cR]at h;subst h;exact .int i)|bl b=>intro n k h;cases n<;>(simp only[cR,Wd]at h;subst h;exact .bl b)|str x=>intro n k h;cases n<;>(simp[cR]at h;subst h;exact .str _)|@tup a vs ds h1 h2 h3 h4 ih=>intro n k h;cases n with|zero=>simp[cR]at h|succ n=>
 simp only[cR,Ww]at h;obtain⟨ks,hk,rfl⟩:=h;obtain⟨l,g⟩:=Gf hk;refine .tup h2 Y' λi k v e1 e2=>?_;have hi:i<ds.length:=by have:=(W8.mp e1).1;lia
 exact ih i v ds[i] e2 (W3 hi) (g i ds[i] k (W3 hi) e1)|_=>intro n k h;cases n<;>simp[cR]at h
def gI(m:Bool)(d:D):Bool:=match d with|.tup _=>m|.int _=>!m|.str _=>!m|_=>false
theorem qZ(hm:gI m d=true)(hk:cR 6 d=some k)(r:Rep H O v d):fW H m k v:=by cases m with|true=>have r':=VI r hk;cases r<;>simp[gI]at hm;exact⟨⟨_,rfl⟩,r'⟩|false=>
 cases r<;>simp[gI]at hm;.simp[cR]at hk;subst hk;exact⟨.inl _,rfl,rfl⟩
 .simp[cR]at hk;subst hk;exact⟨.inr _,rfl,rfl⟩
def kU(m:Bool)(ds:List (D×D))(k:D):Bool:=gI m k&&(cR 6 k).isSome&&ds.all λq=>gI m q.1
def l5(k:D):Bool:=gI true k
def jx(ds:List (D×D))(k:D):Option D:=(ds.find? λq=>aW q.1 k).map (·.2)
def m_(ds:List (D×D))(k d:D):List (D×D):=if(ds.any λq=>aW q.1 k)=true then ds.map λq=>if aW q.1 k=true then(q.1,d)else q else ds++[(k,d)]
section
variable{ws:List NE}{ds:List (D×D)}{p:NE}{q:D×D}
theorem DN.nil:DN H O [] []:=⟨rfl,λi p q e=>by simp at e,λi p q e=>by simp at e,λi p q e=>by simp at e⟩
theorem DN.cons{H O ws ds p q}(h1:Rep H O p.2.1 q.1)(h2:Rep H O p.2.2 q.2)(h3:cR 6 q.1=some p.1)(r:DN H O ws ds):DN H O (p::ws) (q::ds):=by
 refine⟨#v[r.len],λi a b e1 e2=>?_,λi a b e1 e2=>?_,λi a b e1 e2=>?_⟩<;>cases i<;>simp at e1 e2;.subst e1;subst e2;exact h1
 .exact r.key _ a b e1 e2
 .subst e1;subst e2;exact h2
 .exact r.val _ a b e1 e2
 .subst e1;subst e2;exact h3
 .exact r.mE _ a b e1 e2
theorem DN.un(r:DN H O (p::ws) (q::ds)):Rep H O p.2.1 q.1/\Rep H O p.2.2 q.2/\cR 6 q.1=some p.1/\DN H O ws ds:=⟨r.key 0 p q rfl rfl,r.val 0 p q rfl rfl,r.mE 0 p q rfl rfl,~~~r.len,λi a b e1 e2=>r.key (i+1) a b (~~~e1) (~~~e2),λi a b e1 e2=>r.val (i+1) a b (~~~e1) (~~~e2),λi a b e1 e2=>r.mE (i+1) a b (~~~e1) (~~~e2)⟩
theorem DN.get(hk:cR 6 k=some kk):∀{ws:List NE}{ds:List (D×D)},DN H O ws ds->((jx ds k=none/\valN ws kk=none)\/∃v d,jx ds k=some d/\valN ws kk=some v/\Rep H O v d)/\(ds.any λq=>aW q.1 k)=ws.any λp=>decide (p.1=kk)
 |[],[],_=>⟨.inl ⟨rfl,rfl⟩,rfl⟩|[],_::_,r=>by have:=r.len;simp at this|_::_,[],r=>by have:=r.len;simp at this|p::ws,q::ds,r=>by
  obtain⟨r1,r2,r3,r4⟩:=r.un;obtain⟨i1,i2⟩:=DN.get hk r4;have e:=Ge 6 q.1 k p.1 kk r3 hk;refine⟨?_,by rw[Qj,Qj,i2,e]⟩;unfold jx valN at i1⊢;rw[WW,WW,e];by_cases z:p.1=kk;.rw[decide_eq_true z];exact .inr ⟨_,_,rfl,rfl,r2⟩
  .rw[decide_eq_false z];exact i1
theorem DN.app(hk:cR 6 k=some kk)(ry:Rep H O y k)(rv:Rep H O v d):∀{ws:List NE}{ds:List (D×D)},DN H O ws ds->DN H O (ws++[(kk,y,v)]) (ds++[(k,d)])|[],[],_=>.cons ry rv hk .nil|[],_::_,r=>by have:=r.len;simp at this|_::_,[],r=>by have:=r.len;simp at this|p::ws,q::ds,r=>by obtain⟨r1,r2,r3,r4⟩:=r.un;exact .cons r1 r2 r3 (DN.app hk ry rv r4)
theorem DN.st(hk:cR 6 k=some kk)(rv:Rep H O v d):∀{ws:List NE}{ds:List (D×D)},DN H O ws ds->DN H O (ws.map λp=>if p.1=kk then(p.1,p.2.1,v)else p) (ds.map λq=>if aW q.1 k=true then(q.1,d)else q)
 |[],[],_=>.nil|[],_::_,r=>by have:=r.len;simp at this|_::_,[],r=>by have:=r.len;simp at this|p::ws,q::ds,r=>by
  obtain⟨r1,r2,r3,r4⟩:=r.un;have e:=Ge 6 q.1 k p.1 kk r3 hk;rw[Wf,Wf,e];by_cases z:p.1=kk;.rw[decide_eq_true z,if_pos z,if_pos rfl];exact .cons r1 rv r3 (DN.st hk rv r4)
  .rw[decide_eq_false z,if_neg z,if_neg U'];exact .cons r1 r2 r3 (DN.st hk rv r4)
theorem DN.put(hk:cR 6 k=some kk)(ry:Rep H O y k)(rv:Rep H O v d)(r:DN H O ws ds):DN H O (putN ws kk y v) (m_ ds k d):=by
 unfold putN m_;rw[(DN.get hk r).2];split;.exact r.st hk rv
 .exact r.app hk ry rv
theorem DN.Gg(hm:(ds.all λq=>gI m q.1)=true)(r:DN H O ws ds):∀p∈ws,fW H m p.1 p.2.1:=λp hp=>by
 obtain⟨i,e⟩:=JO.mp hp;have hi:i<ds.length:=by have:=(W8.mp e).1;have:=r.len;lia
 exact qZ (Q8.mp hm ds[i] (WX hi)) (r.mE i p ds[i] e (W3 hi)) (r.key i p ds[i] e (W3 hi))
end
theorem VJ{ds}(r:c7 c σ δ H v (.dic ds)):∃a ep ws,v=.ref a/\H a=some (.dN ep ws)/\DN H (Av c σ δ) ws ds:=by
 rcases r with r|⟨a,rfl,ep,ws,h1,h2⟩;.cases r with|dic h1 h2 h3 h4 h5 h6=>exact⟨_,_,_,rfl,h2,h3,h4,h5,h6⟩
 .exact⟨a,ep,ws,rfl,h1,h2⟩
theorem VL(h:gI m d=true)(r:c7 c σ δ H v d):Rep H (Av c σ δ) v d:=by
 rcases r with r|⟨a,rfl,r⟩;.exact r
 .cases d<;>first|exact r.elim|simp[gI]at h
theorem yt{ds}(h:kU m ds k=true):gI m k=true/\(∃kk,cR 6 k=some kk)/\(ds.all λq=>gI m q.1)=true:=by unfold kU at h;simp only[Wo]at h;exact⟨h.1.1,Qy.mp h.1.2,h.2⟩
theorem Gh{x ds}(rx:c7 c σ δ H x (.dic ds))(ry:c7 c σ δ H y k)(h:kU m ds k=true):∃a o,x=.ref a/\lZ H a y o/\((jx ds k=none/\o=none)\/∃v d,jx ds k=some d/\o=some v/\Rep H (Av c σ δ) v d):=by obtain⟨a,ep,ws,e,ha,dn⟩:=VJ rx;obtain⟨h1,⟨kk,hk⟩,h2⟩:=yt h;exact⟨a,valN ws kk,e,⟨m,ep,ws,kk,ha,dn.Gg h2,qZ h1 hk (VL h1 ry),rfl⟩,(dn.get hk).1⟩
def Gi(neg:Bool):R2:=λx y H Q=>∃a o,y=.ref a/\lZ H a x o/\Q (.bl (if neg then !o.isSome else o.isSome)) H
theorem VM(hu:X.A.units+64<WD):bZ X (WJ .NotIn) (Gi true):=by intro pins s σ H x y v u Q I rx ry h;obtain⟨a,o,rfl,g,q⟩:=h;cases ry;exact VC Y' I g rx λs' I'=>⟨.bl _,H,I',rfl,q⟩
noncomputable def l6(neg:Bool)(x y:D):Option S:=match y with|.dic ds=>if kU (l5 x) ds x then some (.pure (.bl (if neg then !(jx ds x).isSome else(jx ds x).isSome)))else none|_=>none
theorem VN(neg:Bool):da (Gi neg) (l6 neg):=by
 intro c σ δ H x y d e s Q k rx ry hp q;cases e<;>first|(simp[l6]at hp;done)|skip
 rename_i ds;simp only[l6]at hp;split at hp
 .rename_i hg;cases hp;obtain⟨a,o,ea,g,r⟩:=Gh ry rx hg;refine⟨a,o,ea,g,?_⟩;have:o.isSome=(jx ds d).isSome:=by rcases r with⟨r1,rfl⟩|⟨_,_,r1,rfl,_⟩<;>rw[r1]<;>rfl
  rw[this];exact q _ H (.refl k) (.bl _)
 .cases hp
def Gj:R2:=λx y H Q=>∃a v,x=.ref a/\lZ H a y (some v)/\Q v H
noncomputable def jy(x y:D):Option S:=match x with|.dic ds=>if kU (l5 y) ds y then(jx ds y).map .pure else none|_=>none
theorem VO(hu:X.A.units+64<WD):gU X Gj:=by intro value slice pins s σ H x y v u Q I rx ry h hs;obtain⟨a,w,rfl,g,q⟩:=h;cases rx;exact tail_any (yq I g).1 F.slot_dict_getitem.lookup (VA (v:=w) Y' I g ry λw' s' I' cp=>⟨w,H,I',cp,q⟩) hs
theorem VP:da Gj jy:=by
 intro c σ δ H x y d e s Q k rx ry hp q;cases d<;>first|(simp[jy]at hp;done)|skip
 rename_i ds;simp only[jy]at hp;split at hp
 .rename_i hg;obtain⟨a,o,ea,g,r⟩:=Gh rx ry hg;rcases r with⟨r1,rfl⟩|⟨v,d,r1,rfl,r2⟩;.rw[r1]at hp;cases hp
  .rw[r1]at hp;cases hp;exact⟨a,v,ea,g,q v H (.refl k) r2⟩
 .cases hp
theorem Ok.VQ{d'}(k:Ok c σ δ H)(e:δ[i]?=some (some (.own d0)))(ea:σ[i]?=some (some (.ref a)))(r:f9 (upd H a o) (Av c σ δ) a d'):aK c σ δ H σ (δ.set i (some (.own d'))) (upd H a o):=by
 have hi:i<δ.length:=(W8.mp e).1;obtain⟨a',ea',oa,ia,nb⟩:=k.own i _ e;rw[ea]at ea';cases ea';have qw:Own σ δ a:=⟨i,_,e,ea⟩;have qx:Av c σ δ a:=.inr qw;have lI:∀b,Own σ (δ.set i (some (.own d'))) b↔Own σ δ b:=λb=>by
  constructor
  .rintro⟨j,d,e1,e2⟩;by_cases hj:i=j;.subst hj;exact⟨i,_,e,e2⟩
   .rw[W9 hj]at e1;exact⟨j,d,e1,e2⟩
  .rintro⟨j,d,e1,e2⟩;by_cases hj:i=j;.subst hj;exact⟨i,_,by rw[Wl hi],e2⟩
   .exact⟨j,d,%[W9 hj|e1],e2⟩
 have jk:∀b,Av c σ (δ.set i (some (.own d'))) b->Av c σ δ b:=λb z=>z.elim .inl λz=>.inr ((lI b).mp z);have kp:∀b w,H b=some w->¬Av c σ δ b->upd H a o b=some w:=λb w h n=>%[aI λz=>n (by rw[z];exact qx)|h];have g9:∀b w,H b=some w->∃o',upd H a o b=some o':=λb w h=>by
  by_cases hb:b=a;.exact⟨_,%[hb|bL]⟩
  .exact⟨w,%[aI hb|h]⟩
 refine⟨⟨λb w h n=>?_,λb z=>?_,λb z=>?_,%[Qs|k.len],λj d h=>?_,λj d h=>?_,λj l b d d2 h1 h2 h3 h4=>?_,k.pinned⟩,λb w h n=>?_,λb z=>.inl ((lI b).mp z),g9⟩
 .have hb:b≠a:=λz=>by grind
  rw[aI hb];exact k.keep b w h n
 .obtain⟨w,h⟩:=k.bd b z;exact g9 b w h
 .obtain⟨w,h⟩:=k.du b z;exact g9 b w h
 .have hj:i≠j:=λz=>by subst z;rw[Wl hi]at h;cases h
  rw[W9 hj]at h;obtain⟨v,h1,h2⟩:=k.slot j d h;exact⟨v,h1,(h2.keep kp).aM λb z=>.inl (jk b z)⟩
 .by_cases hj:i=j;.subst hj;rw[Wl hi]at h;cases h;exact⟨a,ea,r.aM λb z=>.inl (jk b z),ia,nb⟩
  .rw[W9 hj]at h;obtain⟨b,h1,h2,h3,h4⟩:=k.own j d h;have hb:b≠a:=λz=>by subst z;exact hj (k.inj i j b _ d e h ea h1)
   exact⟨b,h1,(h2.keep kp λw q=>%[aI hb|q]).aM λb z=>.inl (jk b z),h3,h4⟩
 .have f1:∃d,δ[j]?=some (some (.own d)):=by grind
  have f2:∃d,δ[l]?=some (some (.own d)):=by grind
  obtain⟨_,f1⟩:=f1;obtain⟨_,f2⟩:=f2;exact k.inj j l b _ _ f1 f2 h3 h4
 grind[aI]
theorem Ok.VR{ds}(k:Ok c σ δ H)(e:δ[i]?=some (some (.own (.dic ds))))(ea:σ[i]?=some (some (.ref a)))(r:DN H (Av c σ δ) ws en):aK c σ δ H σ (δ.set i (some (.own (.dic en)))) (upd H a (.dN ep ws)):=Ok.VQ k e ea ⟨ep,ws,bL,r.keep λb w h n=>%[aI λz=>n (by rw[z];exact .inr ⟨i,_,e,ea⟩)|h]⟩
def uP(δ:Dl)(i:Nat):Bool:=match δ[i]? with|some (some (.own (.dic _)))=>true|_=>false
theorem VS(h:uP δ i=true):∃ds,δ[i]?=some (some (.own (.dic ds))):=by
 unfold uP at h;split at h;.rename_i ds e;exact⟨ds,e⟩
 .cases h
def oF(i:Nat)(fi fe:DE):DS:=λδ=>(fe δ).bind λr δ1=>if uP δ1 i then(fi δ1).bind λk δ2=>match δ2[i]? with|some (some (.own (.dic ds)))=>if kU (l5 k.d) ds k.d&&decide (ds.length<Wa)then .ok .next (δ2.set i (some (.own (.dic (m_ ds k.d r.d)))))else .stuck|_=>.stuck else .stuck
def VT(td ty tv:TE):TS:=λD σ H=>tv σ H λv H1=>td σ H1 λx H2=>ty σ H2 λy H3=>∃a,x=.ref a/\uN H3 a y v λH4=>D.nx σ H4
theorem VU{i}(hu:X.A.units+8<WD)(ho:PE X o td)(hi:PE X i ty)(hv:PE X value tv)(hs:QN value (some (.Subscript o i pos')) pos.line X.env=pure false):PS X (.Assign [.Subscript o i pos'] value pos) (VT td ty tv):=by intro pins s σ H D I h;refine wpAny_Assign_Subscript (aP (hv pins s σ H _ I h) λr s1⟨v,H1,I1,rv,q1⟩=>aP (ho pins s1 σ H1 _ I1 q1) λu s2⟨x,H2,I2,rx,q2⟩=>aP (hi pins s2 σ H2 _ I2 q2) λiv s3 hh=>?_) hs;obtain⟨y,H3,I3,ry,a,ex,g⟩:=hh;subst ex;obtain rfl:u=Value.ref a:=rx;exact VD hu I3 g ry rv λH4 s4 I4 q4=>⟨σ,H4,I4,q4⟩
theorem VV{sp}(hu:X.A.units+64<WD)(ho:PE X o (dZ i))(hi:SE X c ix fi)(he:SE X c e fe)(hs:QN e (some (.Subscript o ix sp)) pos.line X.env=pure false:=by rfl):SS X c (.Assign [.Subscript o ix sp] e pos) (oF i fi fe):=PS.weak (VU Y' ho hi he hs) λD σ H⟨δ,k,q⟩=>by
  unfold oF dJ at q;rw[bh]at q;refine⟨δ,k,aN q λr δ1 q1 v H1 a1 r1=>?_⟩;split at q1;case isFalse=>exact q1.elim
  rename_i hown1;obtain⟨ds1,e1⟩:=VS hown1;obtain⟨a,ea,_,_⟩:=a1.ok.own i _ e1;refine⟨.ref a,ea,δ1,a1.ok,?_⟩;rw[bh]at q1;refine aN q1 λkx δ2 q2 u H2 a2 r2=>?_;split at q2
  .rename_i ds e2;split at q2;.rename_i hz;simp only[Wo,decide_eq_true_eq]at hz;obtain⟨hg,hz⟩:=hz;obtain⟨a',ea',oa,_⟩:=a2.ok.own i _ e2;rw[ea]at ea';cases ea';obtain⟨ep,ws,ha,dn⟩:=id oa;obtain⟨h1,⟨kk,hk⟩,h2⟩:=yt hg;have ry:Rep H2 (Av c σ δ2) u kx.d:=r2.rep;have rv:Rep H2 (Av c σ δ2) v r.d:=Rep.dw r1.rep a2;refine⟨a,rfl,l5 kx.d,ep,ws,kk,ha,dn.Gg h2,qZ h1 hk ry,%[dn.len|hz],λfq=>?_⟩;exact q2 σ _ (a1.trans (a2.trans (Ok.VR a2.ok e2 ea (dn.put hk ry rv))))
   .exact q2.elim
  .exact q2.elim
theorem Gk(h:Heap)(hb:QA<h.objs.size):bE P w H (h.push {cls:=.type "dict",data:=.dict #[]}) h.objs.size (.dN 0 []):=⟨Qh _,beq_eq_false_iff_ne.mpr (Ne.symm (WA hb)),_,#[],Wj _ rfl,⟨rfl,rfl,rfl⟩,rfl,.nil,List.nodup_nil⟩
theorem aY.VW{ds}(k:Ok c σ δ H)(hp:H p=none)(r:DN H (Av c σ δ) ws ds):aY c σ δ H (upd H p (.dN ep ws)) (.ref p) (.own (.dic ds)):=by
 refine⟨p,rfl,⟨ep,ws,bL,?_⟩,λz=>k.gZ hp (.inl z),k.jN hp,k.plus hp _,hp⟩;exact(r.aM λb z=>by
 rcases z with(z|z)|z;.exact .inl (.inl z)
 .exact .inr %[z|hp]
 .exact .inl (.inr z)).keep λb w e _=>%[aI (eK e hp)|e]
section
variable{k v o f:Expr}{tk tx:TE}
def VX(tk tv:TE):TE:=λσ H Q=>∀p,H p=none->tk σ (upd H p (.dN 0 [])) λx H1=>tv σ H1 λy H2=>uN H2 p x y λH3=>Q (.ref p) H3
theorem VY(hu:X.A.units+8<WD)(hk:PE X k tk)(hv:PE X v tv):PE X (.Dict [some k] [v] pos) (VX tk tv):=by intro pins s σ H Q I h;have hn:=I.az.fresh (We s.heap.objs.size);have I1:=I.laid (a:=s.heap.objs.size) (o:=.dN 0 []) (h':=s.heap.push {cls:=.type "dict",data:=.dict #[]}) (t':=s.toks) (λ_ _ q=>W6 _ q) (We _) (Gk s.heap I.big);refine wpAny_Dict_any rfl rfl U' U' (pairTrees_cons_walk (aP (hk pins _ σ _ _ I1 (h _ hn)) λu s1⟨x,H1,J1,rx,q1⟩=>aP (hv pins s1 σ H1 _ J1 q1) λr s2⟨y,H2,J2,ry,g⟩=>pairTrees_nil_walk ?_));unfold storeAll;rw[JC];refine W0 (W0 (Gb Y' J2 g rx ry λH3 s3 J3 q3=>W5 ?_));show W4 _ _ (forIn ([]:List (Value×Value)) PUnit.unit _) _ _ s3;rw[JN];exact W5 ⟨.ref s.heap.objs.size,H3,J3,rfl,q3⟩
end
def q_(fk fv:DE):DE:=λδ=>(fk δ).bind λr δ1=>(fv δ1).bind λs δ2=>match r,s with|.pure dk,.pure d=>if kU (l5 dk) [] dk then .ok (.own (.dic [(dk,d)])) δ2 else .stuck|_,_=>.stuck
theorem VZ{v fv}(hu:X.A.units+64<WD)(hk:∀c',SE X c' k fk)(hv:∀c',SE X c' v fv):SE X c (.Dict [some k] [v] pos) (q_ fk fv):=by have PK:PE X k λσ H Q=>∃c',tD c' fk σ H Q:=λpins s σ H Q I⟨c',h⟩=>hk c' pins s σ H Q I h;have PV:PE X v λσ H Q=>∃c',tD c' fv σ H Q:=λpins s σ H Q I⟨c',h⟩=>hv c' pins s σ H Q I h;refine PE.weak (VY Y' PK PV) λσ H Q hh=>?_;obtain⟨δ,kk,q⟩:=hh;intro p hp;unfold q_ at q;rw[bh]at q;refine⟨c.plus p,δ,kk.plus hp _,Fe q λr δ1 q1 x H1 a1 rx=>?_⟩;rw[bh]at q1;refine⟨c.plus p,δ1,a1.ok,Fe q1 λs δ2 q2 y H2 a2 ry=>?_⟩;have A:=a1.trans a2;have h0:=kk.jN hp;have nb:¬c.B p:=λz=>kk.gZ hp (.inl z);have V0:H2 p=some (.dN 0 []):=A.keep p _ bL λz=>kk.gZ hp (.inr z);cases r with|own d=>exact q2.elim|pure dk=>cases s with|own d=>exact q2.elim|pure d=>
   simp only at q2;split at q2;case isFalse=>exact q2.elim
   rename_i hg;obtain⟨g1,⟨kd,g2⟩,g3⟩:=yt hg;have Gm:Rep H2 (Av (c.plus p) σ δ2) x dk:=Rep.dw (show Rep H1 (Av (c.plus p) σ δ1) x dk from rx) a2;refine⟨l5 dk,0,[],kd,V0,λ_ z=>by simp at z,qZ g1 g2 Gm,by rw[PySem.sizeLine_eq];decide,λfq=>?_⟩;have em:putN [] kd x y=[(kd,x,y)]:=rfl;rw[em];have Gn:=A.ok.TK h0 (.dN fq [(kd,x,y)]);have ne:∀{a w},H a=some w->a≠p:=λe z=>by rw[z,hp]at e;cases e
   have kp:∀b w,H2 b=some w->¬Av (c.plus p) σ δ2 b->upd H2 p (.dN fq [(kd,x,y)]) b=some w:=λb w e n=>%[aI λz:b=p=>n (.inl (.inr z))|e];refine q2 (.ref p) _ ⟨Gn.less,λa w e n=>?_,λa z=>?_,λa w e=>?_⟩ ⟨p,rfl,⟨fq,[(kd,x,y)],bL,DN.cons (Gm.keep kp) (Rep.keep (show Rep H2 (Av (c.plus p) σ δ2) y d from ry) kp) g2 .nil⟩,nb,h0,Gn,hp⟩;.rw[aI (ne e)];exact A.keep a w %[aI (ne e)|e] n
   .by_cases zp:a=p;.rw[zp];exact .inr hp
    .rcases A.own a z with z|z;.exact .inl z
     .rw[aI zp]at z;exact .inr z
   .obtain⟨w',e'⟩:=A.there a w %[aI (ne e)|e];exact⟨w',%[aI (ne e)|e']⟩
theorem i4.mono{k:NK}(r:i4 H n k v)(up:∀b o,H b=some o->H' b=some o):i4 H' n k v:=by induction r with|int z=>exact .int z|bl b=>exact .bl b|str x=>exact .str x|tup h1 h2 _ ih=>exact .tup (up _ _ h1) h2 ih
theorem fW.mono{k:NK}(r:fW H m k v)(up:∀b o,H b=some o->H' b=some o):fW H' m k v:=by cases m with|true=>exact⟨r.1,r.2.mono up⟩|false=>exact r
noncomputable def putAllN(kps acc:List NE):List NE:=kps.foldl (λa p=>putN a p.1 p.2.1 p.2.2) acc
theorem Gp:∀(kps acc:List NE),(putAllN kps acc).length<=acc.length+kps.length|[],acc=>We _|kv::r,acc=>by have h1:=Gp r (putN acc kv.1 kv.2.1 kv.2.2);have h2:=yr acc kv.1 kv.2.1 kv.2.2;show(putAllN r (putN acc kv.1 kv.2.1 kv.2.2)).length<=_;simp only[Q4];lia
theorem V1(kps:List NE)(kv:NE)(acc:List NE):putAllN (kps++[kv]) acc=putN (putAllN kps acc) kv.1 kv.2.1 kv.2.2:=by unfold putAllN;rw[List.foldl_append];rfl
theorem V2{k:NK}{y:V}{p:NE}(h:p∈putN acc k y v):(∃p'∈acc,p.1=p'.1/\p.2.1=p'.2.1)\/p.1=k/\p.2.1=y:=by
 unfold putN at h;split at h;.obtain⟨p',g_,rfl⟩:=Q9.mp h;refine .inl ⟨p',g_,?_⟩;split<;>exact⟨rfl,rfl⟩
 .rcases QF.mp h with h|h;.exact .inl ⟨p,h,rfl,rfl⟩
  .have:p=(k,y,v):= ~~~h;rw[this];exact .inr ⟨rfl,rfl⟩
theorem Gq:∀(kps acc:List NE)(p:NE),p∈putAllN kps acc->p∈([]:List NE)\/∃p'∈acc++kps,p.1=p'.1/\p.2.1=p'.2.1
 |[],acc,p,h=>.inr ⟨p,%[WV|h],rfl,rfl⟩|kv::r,acc,p,h=>by
  rcases Gq r (putN acc kv.1 kv.2.1 kv.2.2) p h with z|⟨p',g_,e1,e2⟩;.cases z
  .refine .inr ?_;rcases QF.mp g_ with g_|g_
   .rcases V2 g_ with⟨p2,h2,f1,f2⟩|⟨f1,f2⟩;.exact⟨p2,#v[h2],e1.trans f1,e2.trans f2⟩
    .exact⟨kv,U',e1.trans f1,e2.trans f2⟩
   .exact⟨p',#v[g_],e1,e2⟩
theorem V3{y:V}{r:Value}{Q:Unit->W1->Prop}{ar:List NE}{k:NK}(hu:A.units+6<WD)(I:Inv X pins σ H s)(e:H a=some (.dN ep ar))(hk:∀p∈ar,fW H m p.1 p.2.1)(ky:fW H m k y)(hz:ar.length<Wa)(ry:RelV y u)(rv:RelV v r)(h:∀s' fq,Inv X pins σ (upd H a (.dN fq (putN ar k y v))) s'->(∀b,b≠a->s'.heap.get? b=s.heap.get? b)->Q () s'):W4 (model X.prog X.w) A (dictSet a u r) Q E s:=by
 obtain⟨z,hS,xs,ob,es,rx,d⟩:=qY I.az e;have hl:xs.length<=Wa:=by rw[<-Paired.length rx];exact z
 refine F7 hu (ky.key I.az ry) d.get d.ex d.data d.ents (yp I.az rx hk) d.oE hl λh' o' km fq q1 q2 q3 q4 hs=>h _ fq ?_ λb hb=>hs.2 b hb;have iO:(putN ar k y v).length<=Wa:=by have:=yr ar k y v;lia
 exact pZ I %[e|True.intro] hs ⟨o',q1⟩ (F_ iO hS (rx.put ry rv) ⟨q1,q2,q3,q4,F5 d.oE⟩)
def oG(ps acc:List (D×D)):List (D×D):=ps.foldl (λa q=>m_ a q.1 q.2) acc
theorem DN.kM:∀{kps:List NE}{ps:List (D×D)}{ws:List NE}{ds:List (D×D)},DN H O kps ps->DN H O ws ds->DN H O (putAllN kps ws) (oG ps ds)|[],[],_,_,_,h=>h|[],_::_,_,_,h,_=>by have:=h.1;simp at this|_::_,[],_,_,h,_=>by have:=h.1;simp at this|p::kps,q::ps,ws,ds,h,h'=>by obtain⟨h1,h2,h3,h4⟩:=h.un;show DN H O (putAllN kps (putN ws p.1 p.2.1 p.2.2)) (oG ps (m_ ds q.1 q.2));exact DN.kM h4 (DN.put h3 h1 h2 h')
abbrev fX(h:Heap)(z TI TO:Addr)(v0:Value)(f:Bool):Prop:=h.get? z=some {cls:=.type "zip",dict:=none,data:=.fields #[v0,.bool f,.bool false,.ref TI,.ref TO],slots:=#[]}
theorem V4{Q}(ho:s.heap.get? a=none)(h:Q none s):W4 (model prog w) A (loadIfAlive a) Q E s:=by have h':Q (s.heap.get? a) s:=%[ho|h];exactλ_ _ _=>h'
theorem Gr{TI TO f Q}(hz:fX s.heap z TI TO v0 f)(hv:v0=.none\/∃p:Addr,v0=WZ p/\s.heap.get? p=none)(h:Q true s):W4 (model prog w) A (WI (.ref z)) Q E s:=by
 unfold WI;rcases hv with rfl|⟨p,rfl,hp⟩;.exact W0 (WF hz rfl (x:=.none) rfl (W5 h))
 .refine W0 (WF hz rfl (x:=WZ p) rfl ?_);show W4 _ _ (loadIfAlive (p:Int).toNat>>=_) _ _ _;rw[JJ];exact W0 (V4 hp (W5 h))
theorem V5{z TI TO:Addr}{a b:Value}{f:Bool}(D1:Draws prog w A i1 f1 n1 P1 S1)(D2:Draws prog w A i2 f2 n2 P2 S2)(C:ZA z TI TO i1 i2 f1 f2)(hz:fX s.heap z TI TO v0 f)(hv:v0=.none\/∃p:Addr,v0=WZ p/\s.heap.get? p=none)(hI:IsPair s.heap TI (.ref i1) (.ref i2))(hO:IsPair s.heap TO a b)(g1:S1 i s.heap)(g2:S2 i s.heap)(l1:i<n1)(l2:i<n2)(q:∀x y h' tk,P1 i x->P2 i y->fX h' z TI TO (WZ s.heap.objs.size) false->IsPair h' TO x y->S1 (i+1) h'->S2 (i+1) h'->IsPair h' s.heap.objs.size x y->(∀c o,c≠z->c≠TO->c≠i1->c≠i2->s.heap.get? c=some o->h'.get? c=some o)->Q (.ref s.heap.objs.size) {s with heap:=h',toks:=tk}):W4 (model prog w) A (Builtin.«zip.__next__» ⟨[.ref z],[]⟩) (λfin s'=>∃v,fin=.done (.ret v)/\Q v s') E s:=by
 have i1z:i1≠z:=λe=>C.z1 (e▸C.m1);have i2z:i2≠z:=λe=>C.z2 (e▸C.m2);have rg:TO≠i1:=λe=>C.t1 (e▸C.m1);have yu:TO≠i2:=λe=>C.t2 (e▸C.m2);have i12:i1≠i2:=λe=>C.k1 (e▸C.m2);show W4 _ _ (field (.ref z) 2>>=_) _ _ _;refine W0 (WF hz rfl (x:=.bool false) rfl ?_);show W4 _ _ (field (.ref z) 3>>=_) _ _ _;refine W0 (WF hz rfl (x:=.ref TI) rfl (W0 (Ql hI rfl ?_)));show W4 _ _ (WI (.ref z)>>=_) _ _ _;refine W0 ?_;refine Gr hz hv ?_;simp only[if_true];refine W0 (QX (W0 (WF hz rfl (x:=.ref TO) rfl (W0 (Qz hz U' λh1 gn s1=>?_)))));replace gn:fX h1 z TI TO .ellipsis f:=gn;refine W0 ?_;simp only[List.zipIdx_cons,List.zipIdx_nil,JC,JN];refine W0 (W0 (wpAny_onRaise ?_));show W4 _ _ (WE (.ref i1)>>=_) _ _ _;have e1:S1 i h1:=D1.frame _ _ _ g1 λc hc o e=>s1.extBut _ _ (λx=>C.z1 (x▸hc)) e;refine W0 (D1.item i _ _ _ l1 e1 λx h2 yh p1 e2 s2=>W5 ?_);have rh:IsPair h2 TO a b:=s2.extBut _ _ rg (s1.extBut _ _ C.tz hO);refine W0 (Ql rh rfl (W0 (wpAny_updateSeq_pair rh λh3 uQ s3=>?_)));replace uQ:IsPair h3 TO x b:=uQ;refine W0 (wpAny_letGo (W5 (W0 (W0 (wpAny_onRaise ?_)))));show W4 _ _ (WE (.ref i2)>>=_) _ _ _;have e3:S2 i h3:=D2.frame _ _ _ g2 λc hc o e=>s3.extBut _ _ (λx=>C.t2 (x▸hc)) (s2.extBut _ _ (λx=>C.k1 (x▸hc)) (s1.extBut _ _ (λx=>C.z2 (x▸hc)) e));refine W0 (D2.item i _ _ _ l2 e3 λy h4 UD p2 e4 s4=>W5 ?_);have Gs:IsPair h4 TO x b:=s4.extBut _ _ yu uQ;refine W0 (Ql Gs rfl (W0 (wpAny_updateSeq_pair Gs λh5 uR s5=>?_)));replace uR:IsPair h5 TO x y:=uR;refine W0 (wpAny_letGo (W5 (W5 (W0 (Ql uR rfl (W0 (wpAny_newTuple ?_)))))));have hsz:h5.objs.size=s.heap.objs.size:=by rw[s5.1,s4.1,s3.1,s2.1,s1.1]
 have Gu:fX h5 z TI TO .ellipsis f:=s5.extBut _ _ C.tz.symm (s4.extBut _ _ i2z.symm (s3.extBut _ _ C.tz.symm (s2.extBut _ _ i1z.symm gn)));have k5:∀c o,c≠z->c≠TO->c≠i1->c≠i2->s.heap.get? c=some o->h5.get? c=some o:=λc o c1 c2 c3 c4 e=>s5.extBut _ _ c2 (s4.extBut _ _ c4 (s3.extBut _ _ c2 (s2.extBut _ _ c3 (s1.extBut _ _ c1 e))));have r1:S1 (i+1) h5:=D1.frame _ _ _ e2 λc hc o e=>s5.extBut _ _ (λx=>C.t1 (x▸hc)) (s4.extBut _ _ (λx=>C.k2 (x▸hc)) (s3.extBut _ _ (λx=>C.t1 (x▸hc)) e));have r2:S2 (i+1) h5:=D2.frame _ _ _ e4 λc hc o e=>s5.extBut _ _ (λx=>C.t2 (x▸hc)) e;have zl:z<h5.objs.size:=Wi Gu;show W4 _ _ (Builtin.SmallTypes.ownedTupleHandOut (.ref z) (.ref h5.objs.size)>>=_) _ _ _;refine W0 ?_;unfold Builtin.SmallTypes.ownedTupleHandOut;have V6:fX (h5.push {cls:=.type "tuple",data:=.seq #[x,y]}) z TI TO .ellipsis f:=W6 _ Gu;refine W0 (Qz V6 U' λh7 yv s7=>?_);replace yv:fX h7 z TI TO (WZ h5.objs.size) f:=yv;refine Qz yv U' λh8 uS s8=>?_;replace uS:fX h8 z TI TO (WZ h5.objs.size) false:=uS;have up:∀c o,c≠z->h5.get? c=some o->h8.get? c=some o:=λc o c1 e=>s8.extBut _ _ c1 (s7.extBut _ _ c1 (W6 _ e));have hT:IsPair h8 h5.objs.size x y:=s8.extBut _ _ (Qp zl) (s7.extBut _ _ (Qp zl) (Wj _ rfl));rw[hsz]at uS hT;refine W5 ⟨_,rfl,?_⟩;show Q (.ref h5.objs.size) _;rw[hsz];exact q x y h8 _ p1 p2 uS (up _ _ C.tz uR) (D1.frame _ _ _ r1 λc hc o e=>up c o (λx=>C.z1 (x▸hc)) e) (D2.frame _ _ _ r2 λc hc o e=>up c o (λx=>C.z2 (x▸hc)) e) hT λc o c1 c2 c3 c4 e=>up c o c1 (k5 c o c1 c2 c3 c4 e)
theorem V7{TI TO f a Q}(D1:Draws prog w A i1 f1 n1 P1 S1)(D2:Draws prog w A i2 f2 n2 P2 S2)(C:ZA z TI TO i1 i2 f1 f2)(hz:fX s.heap z TI TO v0 f)(hv:v0=.none\/∃p:Addr,v0=WZ p/\s.heap.get? p=none)(hI:IsPair s.heap TI (.ref i1) (.ref i2))(hO:IsPair s.heap TO a b)(g1:S1 i s.heap)(g2:S2 i s.heap)(l:i=n1\/i<n1/\i=n2)(q:∀h' tk e,(∀c o,c≠z->c≠TO->c≠i1->c≠i2->s.heap.get? c=some o->h'.get? c=some o)->(∃o,h'.get? e=some o/\o.cls=.type "StopIteration")->E (.ref e) {s with heap:=h',toks:=tk}):W4 (model prog w) A (Builtin.«zip.__next__» ⟨[.ref z],[]⟩) Q E s:=by
 have i1z:i1≠z:=λe=>C.z1 (e▸C.m1);have i2z:i2≠z:=λe=>C.z2 (e▸C.m2);have rg:TO≠i1:=λe=>C.t1 (e▸C.m1);show W4 _ _ (field (.ref z) 2>>=_) _ _ _;refine W0 (WF hz rfl (x:=.bool false) rfl ?_);show W4 _ _ (field (.ref z) 3>>=_) _ _ _;refine W0 (WF hz rfl (x:=.ref TI) rfl (W0 (Ql hI rfl ?_)));show W4 _ _ (WI (.ref z)>>=_) _ _ _;refine W0 ?_;refine Gr hz hv ?_;simp only[if_true];refine W0 (QX (W0 (WF hz rfl (x:=.ref TO) rfl (W0 (Qz hz U' λh1 gn s1=>?_)))));replace gn:fX h1 z TI TO .ellipsis f:=gn;refine W0 ?_;simp only[List.zipIdx_cons,List.zipIdx_nil,JC,JN];refine W0 (W0 (wpAny_onRaise ?_));show W4 _ _ (WE (.ref i1)>>=_) _ _ _;have e1:S1 i h1:=D1.frame _ _ _ g1 λc hc o e=>s1.extBut _ _ (λx=>C.z1 (x▸hc)) e;rcases l with l|⟨l,l'⟩
 .subst l;refine W0 (D1.done _ _ _ e1 λh2 e s2 hh=>?_);obtain⟨oe,he,ce⟩:=hh;have oH:fX h2 z TI TO .ellipsis f:=s2 _ _ i1z.symm gn;have ez:e≠z:=λx=>by subst x;rw[oH]at he;cases he;simp at ce
  exact Qz oH U' λh3 _ s3=>q h3 _ e (λc o c1 _ c3 _ x=>s3.extBut _ _ c1 (s2 _ _ c3 (s1.extBut _ _ c1 x))) ⟨oe,s3.extBut _ _ ez he,ce⟩
 .refine W0 (D1.item i _ _ _ l e1 λx h2 yh p1 e2 s2=>W5 ?_);have rh:IsPair h2 TO a b:=s2.extBut _ _ rg (s1.extBut _ _ C.tz hO);refine W0 (Ql rh rfl (W0 (wpAny_updateSeq_pair rh λh3 uQ s3=>?_)));refine W0 (wpAny_letGo (W5 (W0 (W0 (wpAny_onRaise ?_)))));show W4 _ _ (WE (.ref i2)>>=_) _ _ _;have e3:S2 i h3:=D2.frame _ _ _ g2 λc hc o e=>s3.extBut _ _ (λx=>C.t2 (x▸hc)) (s2.extBut _ _ (λx=>C.k1 (x▸hc)) (s1.extBut _ _ (λx=>C.z2 (x▸hc)) e));subst l';refine W0 (D2.done _ _ _ e3 λh4 e s4 hh=>?_);obtain⟨oe,he,ce⟩:=hh;have uH:fX h4 z TI TO .ellipsis f:=s4 _ _ i2z.symm (s3.extBut _ _ C.tz.symm (s2.extBut _ _ i1z.symm gn));have ez:e≠z:=λx=>by subst x;rw[uH]at he;cases he;simp at ce
  exact Qz uH U' λh5 _ s5=>q h5 _ e (λc o c1 c2 c3 c4 x=>s5.extBut _ _ c1 (s4 _ _ c4 (s3.extBut _ _ c2 (s2.extBut _ _ c3 (s1.extBut _ _ c1 x))))) ⟨oe,s5.extBut _ _ ez he,ce⟩
theorem V8{z TI TO:Addr}{a b:Value}{f:Bool}{Q:Option Value->W1->Prop}(D1:Draws prog w A.in1 i1 f1 n1 P1 S1)(D2:Draws prog w A.in1 i2 f2 n2 P2 S2)(C:ZA z TI TO i1 i2 f1 f2)(hz:fX s.heap z TI TO v0 f)(hv:v0=.none\/∃p:Addr,v0=WZ p)(hI:IsPair s.heap TI (.ref i1) (.ref i2))(hO:IsPair s.heap TO a b)(g1:S1 i s.heap)(g2:S2 i s.heap)(l1:i<n1)(l2:i<n2)(q:∀x y h' tk(p':Addr)f',P1 i x->P2 i y->fX h' z TI TO (WZ p') f'->(∃a b,IsPair h' TO a b)->S1 (i+1) h'->S2 (i+1) h'->IsPair h' s.heap.objs.size x y->(∀c o,c≠z->c≠TO->c≠i1->c≠i2->s.heap.get? c=some o->h'.get? c=some o)->Q (some (.ref s.heap.objs.size)) {s with heap:=h',toks:=tk}):W4 (model prog w) A (Jk (.ref z)) Q E s:=by
 have ty:s.TypeIs (.ref z) "zip":=⟨_,hz,rfl⟩;have rg:TO≠i1:=λe=>C.t1 (e▸C.m1);have yu:TO≠i2:=λe=>C.t2 (e▸C.m2);unfold Jk;refine W0 (wpAny_attempt (Qb (name:=Str.ofString "__next__") ty F.slot_zip_next (Qg F.slot_zip_next ty F.entry_zip_next ?_ (F.args_zip_next_1 _))));have cs:(v0=.none\/∃p:Addr,v0=WZ p/\s.heap.get? p=none)\/∃(p:Addr)(oa:Obj),v0=WZ p/\s.heap.get? p=some oa:=by
  rcases hv with e|⟨p,e⟩;.exact .inl (.inl e)
  .cases hp:s.heap.get? p with|none=>exact .inl (.inr ⟨p,e,hp⟩)|some oa=>exact .inr ⟨p,oa,e,hp⟩
 rcases cs with hf|⟨p,oa,e,hp⟩;.exact V5 D1 D2 C hz hf hI hO g1 g2 l1 l2 λx y h' tk b1 b2 b3 b4 b5 b6 b7 b8=>W5 (q x y h' tk _ _ b1 b2 b3 ⟨_,_,b4⟩ b5 b6 b7 b8)
 .subst e;exact UC D1 D2 C hz hp hI g1 g2 l1 l2 λx y h' tk b1 b2 b3 b5 b6 b7 b8 b9=>W5 (q x y h' tk _ _ b1 b2 b3 ⟨_,_,b9 _ _ C.tz rg yu hO⟩ b5 b6 b7 λc o c1 _ c3 c4 e=>b9 c o c1 c3 c4 e)
theorem V9{TI TO f a Q}(D1:Draws prog w A.in1 i1 f1 n1 P1 S1)(D2:Draws prog w A.in1 i2 f2 n2 P2 S2)(C:ZA z TI TO i1 i2 f1 f2)(hz:fX s.heap z TI TO v0 f)(hv:v0=.none\/∃p:Addr,v0=WZ p)(hI:IsPair s.heap TI (.ref i1) (.ref i2))(hO:IsPair s.heap TO a b)(g1:S1 i s.heap)(g2:S2 i s.heap)(l:i=n1\/i<n1/\i=n2)(q:∀h' tk,(∀c o,c≠z->c≠TO->c≠i1->c≠i2->s.heap.get? c=some o->h'.get? c=some o)->Q none {s with heap:=h',toks:=tk}):W4 (model prog w) A (Jk (.ref z)) Q E s:=by
 have ty:s.TypeIs (.ref z) "zip":=⟨_,hz,rfl⟩;unfold Jk;refine W0 (wpAny_attempt (Qb (name:=Str.ofString "__next__") ty F.slot_zip_next (Qg F.slot_zip_next ty F.entry_zip_next ?_ (F.args_zip_next_1 _))));have cs:(v0=.none\/∃p:Addr,v0=WZ p/\s.heap.get? p=none)\/∃(p:Addr)(oa:Obj),v0=WZ p/\s.heap.get? p=some oa:=by
  rcases hv with e|⟨p,e⟩;.exact .inl (.inl e)
  .cases hp:s.heap.get? p with|none=>exact .inl (.inr ⟨p,e,hp⟩)|some oa=>exact .inr ⟨p,oa,e,hp⟩
 rcases cs with hf|⟨p,oa,e,hp⟩;.refine V7 D1 D2 C hz hf hI hO g1 g2 l λh' tk e k hh=>?_;obtain⟨o,ho,hc⟩:=hh;exact W0 (wpAny_isInstance (T:="StopIteration") (b:=true) ⟨o,ho,hc⟩ isSubtype_stop (W5 (q _ _ k)))
 .subst e;refine UE D1 D2 C hz hp hI g1 g2 l λh' tk e k hh=>?_;obtain⟨o,ho,hc⟩:=hh;exact W0 (wpAny_isInstance (T:="StopIteration") (b:=true) ⟨o,ho,hc⟩ isSubtype_stop (W5 (q _ _ λc o c1 _ c3 c4 x=>k c o c1 c3 c4 x)))
abbrev GE:=Int×Addr×List Tx
theorem aK.V_(k:Ok c σ δ H)(ext:∀a o,H a=some o->H2 a=some o):aK c σ δ H σ δ H2:=by
 refine⟨⟨λa o h n=>ext a o (k.keep a o h n),λa z=>(k.bd a z).elim λo h=>⟨o,ext a o h⟩,λa z=>(k.du a z).elim λo h=>⟨o,ext a o h⟩,k.len,λj d q=>?_,λj d q=>?_,k.inj,k.pinned⟩,λa o h _=>ext a o h,λa h=>.inl h,λa o h=>⟨o,ext a o h⟩⟩;.obtain⟨v,g1,g2⟩:=k.slot j d q;exact⟨v,g1,g2.keep λb w e _=>ext b w e⟩
 .obtain⟨b,g1,g2,g3,g4⟩:=k.own j d q;exact⟨b,g1,g2.keep (λb w e _=>ext b w e) λw e=>ext b w e,g3,g4⟩
def cN:=cz (λi j=>i==j) λx y=>x==y
def oI:=cz (λi j=>!i==j) λx y=>!x==y
theorem Gv(i j:Str):(i==j)=(i.cps.toList==j.cps.toList):=by rw[JD];cases i;cases j;simp
theorem uU:bZ X (WJ .Eq) (mI (λi j=>i==j) λx y=>x==y):=(pL (g:=λi j=>i==j) λ_ _ _ _ _ _ _ q=>PyProof.Rows.eq_int q).or (t4 λi j t u Q s q=>PyProof.Rows.eq_str %[Gv|q])
theorem Gw:bZ X (WJ .NotEq) (mI (λi j=>!i==j) λx y=>!x==y):=(pL (g:=λi j=>!i==j) λ_ _ _ _ _ _ _ q=>PyProof.Rows.ne_int q).or (t4 (g:=λx y=>!x==y) λi j t u Q s q=>PyProof.Rows.ne_str %[bne,Gv|q])
def jZ(H:Hp)(fa:Addr)(nm qual:Str)(params:Arguments)(body:List Stmt)(scope:Scope)(cl:List (Str×Addr)):Prop:=∃doc pm c' e8 oc,H fa=some (.frz (Ui nm qual params body scope cl doc pm c' e8) (.ext λ_=>True))/\H c'=some (.frz oc (.ext λ_=>True))/\∃vs tq,oc.data=.fields vs/\vs[1]?=some (.str qual tq)
section
variable{fs:List Addr}{h:Heap}{nm:Str}{fr:List Str}
theorem jZ.keep(C:jZ H fa nm qual params body scope cl)(k:∀b o u,H b=some (.frz o u)->H' b=some (.frz o u)):jZ H' fa nm qual params body scope cl:=let⟨doc,pm,c',e8,oc,h1,h2,h3⟩:=C;⟨doc,pm,c',e8,oc,k _ _ _ h1,k _ _ _ h2,h3⟩
structure ng(H:Hp)(fs:List Addr)(h:Heap)(cl:List (Str×Addr))(fr:List Str)(fv:List V):Prop where
 cell:∀x c,cl.lookup x=some c->(∃v,h.IsCell c v)/\H c=none/\c∉fs
 inj:∀x y c,cl.lookup x=some c->cl.lookup y=some c->x=y
 val:∀(i:Nat)x v,fr[i]?=some x->fv[i]?=some v->∃c u,cl.lookup x=some c/\h.IsCell c (some u)/\RelV v u
 rj:fv.length=fr.length
theorem ng.keep(C:ng H fs h cl fr fv)(k:∀b o,h.get? b=some o->H b=none->b∉fs->h'.get? b=some o/\H' b=none):ng H' fs h' cl fr fv:=by
 have kc:∀x c v,cl.lookup x=some c->h.IsCell c v->h'.IsCell c v:=λx c v e⟨o,ho,hd⟩=>⟨o,(k c o ho (C.cell x c e).2.1 (C.cell x c e).2.2).1,hd⟩;refine⟨λx c e=>?_,C.inj,λi x v e1 e2=>?_,C.rj⟩;.obtain⟨⟨v,o,ho,hd⟩,q1,q2⟩:=C.cell x c e;exact⟨⟨v,o,(k c o ho q1 q2).1,hd⟩,(k c o ho q1 q2).2,q2⟩
 .obtain⟨c,u,q1,q2,q3⟩:=C.val i x v e1 e2;exact⟨c,u,q1,kc x c _ q1 q2,q3⟩
end
section
variable{nm:Str}{fr:List Str}{p:Str}{k:Nat}{t:TS}{Q:VK}
theorem W_(I:Inv X pins σ H s)(C:jZ H fa nm qual params body scope cl)(CC:ng H X.fs s.heap cl fr fv)(L:uI p fr scope)(hr:b_ (k+1) X.A)(rv:RelV v u)(hb:∀doc pm aE e8(u:Value),bindArgs (PySem.W.fnX nm qual params body scope cl .none .none doc pm none aE e8) ⟨[u],[]⟩=pure [(p,u)])(cG:∀cd,b_ k (X.A.deeper (Ju qual scope s.heap.objs.size fa cd cl))->dF (oA X.prog X.w X.K X.mg X.base (p::(fr++ls)) qual scope fa cd cl X.A X.stack s H) body t)(q:t {nx:=λ_ H'=>Q .aJ H',rt:=Q} (some v::(fv.map some++ls.map λ_=>none)) H):W4 (model X.prog X.w) X.A (call (.ref fa) [u]) (EP X pins σ Q) X.xe s:=by
 obtain⟨doc,pm,c',e8,oc,h1',h4',vs,tq,h5,h6⟩:=C;have h1:=(I.az fa _ h1').1;have h4:s.heap.get? c'=some oc:=(I.az c' _ h4').1;have e0:=I.nH;have lim:s.heap.NoLimit:=e0.mod.nolimit.keeps λb o e=>(e0.bs b o e).1;refine Ud (Js (R:=CR cH X.stack X.prog X.w H s Q E0) ?_ λr s' hq=>?_)
 .refine JM hr.depth h1 rfl L.co L.gen rfl ⟨c',oc,vs,tq,rfl,h4,h5,h6⟩ ?_;rw[hb];refine W5 ?_;refine wpAny_newFunctionEnv L.FN (λy hy=>by have:y=(p,u):= ~~~hy;subst this;exact L.loc) (λh' qW wK=>?_) L.kind;have hk:∀b o,s.heap.get? b=some o->h'.get? b=some o:=λb o e=>wK.extBut b o (WA (Wi e)) (W6 _ e);refine⟨lim.keeps hk,?_⟩;show QH _ _ (.func body (Ju qual scope s.heap.objs.size fa (.ref c') cl)) _ _;refine codeAny_func ?_;have J:Inv (oA X.prog X.w X.K X.mg X.base (p::(fr++ls)) qual scope fa (.ref c') cl X.A X.stack s H) [] (some v::(fv.map some++ls.map λ_=>none)) H {s with heap:=h',toks:=s.toks+[(p,u)].length}:=by
   have kr:∀b:Addr,b∉(oA X.prog X.w X.K X.mg X.base (p::(fr++ls)) qual scope fa (.ref c') cl X.A X.stack s H).ex:=λb z=>absurd (show b∈([]:List Addr)from z) U';refine⟨⟨e0.mod,L.kind,rfl,rfl,We _,CC.inj,λy hy=>?_,λy c z _=>by(have z':false=true:=z;cases z'),λ_=>hr.hd,Around.frames_deeper e0.frames,.inr ⟨rfl,rfl⟩,λb z=>absurd z (kr b),e0.bs,e0.gP,λb _ _=>kr b,λb z=>absurd z (kr b),e0.fQ,e0.iM⟩,rfl,e0.bare,Un.kept hk,⟨_,qW,λi y w e1 e2 e3=>?_⟩,λy c e=>?_,e0.az.fresh (We _),λy c e=>(CC.cell y c e).2.1,λz hz=>absurd (show z∈([]:List (Addr×Obj))from hz) U',e0.az.kept hk,?_⟩
   .have hy:scope.names.lookup y=some .cell\/scope.names.lookup y=some .free:=hy;rcases hy with hy|hy;.exact absurd rfl (L.FN _ (Wx hy))
    .obtain⟨i,hi,rfl⟩:=U1 (L.free y hy);have Xa:i<fv.length:=%[CC.rj|hi];obtain⟨c,u',q1,_⟩:=CC.val i fr[i] fv[i] #v[hi] #v[Xa];exact⟨c,q1⟩
   .cases i with|zero=>simp at e2;have e1:some p=some y:=e1;cases e1;subst e2;refine⟨u,rv,.inl ⟨L.loc,?_⟩⟩;simp|succ i=>
     have e1:(fr++ls)[i]?=some y:=e1;have e2:(fv.map some++ls.map λ_=>(none:Option V))[i]?=some (some w):=e2;have hi:i<fr.length:=by
      rcases Nat.lt_or_ge i fr.length with z|z;.exact z
      .rw[Jg (by simpa[CC.rj]using z),Wu]at e2;cases z:ls[i-(fv.map some).length]? with|none=>rw[z]at e2;cases e2|some _=>rw[z]at e2;cases e2
     rw[Qi hi]at e1;rw[Qi (by simpa[CC.rj]using hi),Wu]at e2;have e2:fv[i]?=some w:=by cases z:fv[i]? with|none=>rw[z]at e2;cases e2|some a=>rw[z]at e2;cases e2;rfl
     obtain⟨c,u',q1,⟨o,ho,hd⟩,q3⟩:=CC.val i y w e1 e2;exact⟨u',q3,.inr ⟨.inr (L.UJ y (Wq e1)),c,q1,o,hk c o ho,hd⟩⟩
   .obtain⟨⟨w,o,ho,hd⟩,_⟩:=CC.cell y c e;exact⟨w,o,hk c o ho,hd⟩
   .show(some v::(fv.map some++ls.map λ_=>none)).length=(p::(fr++ls)).length;simp[CC.rj]
  refine WR (cG (.ref c') (hr.deeper _) [] _ _ H _ J q) (λfl s' hs=>?_) λe s' z=>z.elim;cases fl with|ret u'=>obtain⟨v',σ',H',J',r',q'⟩:=hs;exact⟨v',H',J'.os,J'.bare,J'.base,J'.az,r',q'⟩|next=>obtain⟨σ',H',J',q'⟩:=hs;exact⟨.aJ,H',J'.os,J'.bare,J'.base,J'.az,rfl,q'⟩|brk=>obtain⟨_,_,_,q'⟩:=hs;exact False.elim q'|cont=>obtain⟨_,_,_,q'⟩:=hs;exact False.elim q'
 .cases r with|error e=>exact hq.elim|ok fl=>cases fl with|ret u=>exact I.after hq|next=>exact False.elim hq|brk=>exact False.elim hq|cont=>exact False.elim hq
end
section
variable{nm q:Str}{c P:Addr}{Q:Flow->W1->Prop}
theorem Xb(I:Inv X pins σ H s)(hP:H P=some (.ctab pos q))(hq:Uj X.env nm nm=q)(yw:params.defaults=[])(yx:params.kw_defaults=[])(yy:annTrees params none X.env=[])(uV:closureFor scope X.env=pure cl)(uW:X.env.code=.ref c)(CH:Jv X.K c P=true)(yz:Wn≠P)(hB:X.base.BuiltinsAt X.mg P)(hN:X.N.Nodup)(hj:X.N[j]?=some nm)(hl:X.env.scope.names.lookup nm=some .local)(h:∀fa H' s',Inv X pins (σ.set j (some (.ref fa))) H' s'->(∀a o,H a=some o->H' a=some o)->jZ H' fa nm q params body scope cl->Q .next s'):W4 (model X.prog X.w) X.A (exec (.FunctionDef nm params body [] none [] scope none nm pos) X.env) Q E s:=by
 subst hq;obtain⟨ps,hp,ht,hr⟩:=I.az P _ hP;have Gx:=PySem.W.codeHd_of_K I.cO CH;have hg:s.heap.Ns Wn X.mg:=I.mod.glob.keeps I.bk;have hb:=hB.keeps I.bk;have fin:∀(H1:Hp)(h':Heap)(tk:Tok)(doc pm e8:Value)(c':Addr)(oc:Obj),Inv X pins σ H1 {s with heap:=h',toks:=tk}->(∀a o,H a=some o->H1 a=some o)->H1 c'=some (.frz oc (.ext λ_=>True))->(∃vs tq,oc.data=.fields vs/\vs[1]?=some (.str (Uj X.env nm nm) tq))->W4 (model X.prog X.w) X.A (storeName X.env nm (.ref h'.objs.size)) (λ_ mv=>Q .next mv) E {s with heap:=h'.push (Ui nm (Uj X.env nm nm) params body scope cl doc pm c' e8),toks:=tk}:=by intro H1 h' tk doc pm e8 c' oc J up fR hoc;have hn:H1 h'.objs.size=none:=J.az.fresh (We _);have nh:∀a o,H1 a=some o->upd H1 h'.objs.size (.frz (Ui nm (Uj X.env nm nm) params body scope cl doc pm c' e8) (.ext λ_=>True)) a=some o:=λa o e=>%[aI (eK e hn)|e];have J2:=J.laid (a:=h'.objs.size) (t':=tk) (o:=.frz (Ui nm (Uj X.env nm nm) params body scope cl doc pm c' e8) (.ext λ_=>True)) (h':=h'.push (Ui nm (Uj X.env nm nm) params body scope cl doc pm c' e8)) (λb o e=>W6 _ e) (We _) ⟨Wj _ rfl,trivial,⟨_,Wj _ rfl⟩,by grind⟩;refine vP J2 hN hj (.inl hl) (v:=.ref h'.objs.size) rfl (λs' I'=>h _ _ s' I' (λa o e=>nh a o (up a o e)) ⟨doc,pm,c',e8,oc,bL,nh _ _ fR,hoc⟩) (.inr hl)
 refine PySem.W.nestDef_K yw yx yy ?_;cases e:codeAmong pos ps.toList with|some cv=>obtain⟨c',oc,rfl,q1,q2⟩:=hr cv e;refine PySem.W.makeFunction_hit uV I.ok.glob hg uW Gx hp ht e hb λe8 doc h' tk hk hsz=>?_;exact fin H h' tk doc _ e8 c' oc (I.un (Un.kept hk) (I.az.kept hk)) (λ_ _ z=>z) q1 q2|none=>
  refine PySem.W.makeFunction_K uV I.ok.glob hg uW Gx hp ht e yz hb λc' e8 doc h' tk hx Gy bq Xd Gz=>?_;obtain⟨c2,oc,vs,tq,ec,hoc,hd,hv⟩:=Xd;cases ec;have hn:H c'=none:=I.az.fresh Gy;have up:∀a o,H a=some o->upd H c' (.frz oc (.ext λ_=>True)) a=some o:=λa o z=>%[aI (eK z hn)|z];have nP:∀b,H b=none->b≠P:=λb n z=>by grind
  refine fin (upd H c' (.frz oc (.ext λ_=>True))) h' tk doc _ e8 c' oc (I.un ⟨λb o e n _ _=>hx b o (nP b n) e,λb o e n _ _=>⟨o.slots,hx b o (nP b n) e⟩,λb o e n _=>%[aI (WA (Wy (Wi e) Gy))|n],λb o e _=>?_,λb xs e=>up _ _ e,λb o u e=>up _ _ e,λb ps e=>⟨#[],by rw[up _ _ e];simp⟩⟩ ?_) up bL ⟨vs,tq,hd,hv⟩
  .by_cases z:b=P;.exact⟨_,%[z|Gz]⟩
   .exact⟨o,hx b o z e⟩
  .intro a o ea;by_cases h1:a=c';.subst h1;rw[bL]at ea;cases ea;exact⟨hoc,trivial,⟨_,hoc⟩,by grind⟩
   .rw[aI h1]at ea;by_cases h2:a=P
    .subst h2;rw[hP]at ea;cases ea;refine⟨_,Gz,?_,λcv z=>?_⟩;.rw[Array.toList_append];exact FO (a:=.none) ht
     .rw[Array.toList_append]at z;have:=FP ht e z;subst this;exact⟨c',oc,rfl,bL,vs,tq,hd,hv⟩
    .refine(I.az a o ea).eG (λb u hb q=>hx b u (λz=>?_) q) (λb q=>up _ _ q) (λb xs q=>up _ _ q) λb o u q=>up _ _ q;grind
end
noncomputable def j0(m:Nat)(fb:DS)(dv:List D):D->Option D:=λd=>match fb (some (.pure d)::(dv.map (λx=>some (.pure x))++Wc m none))with|.ok (.ret r) _=>some r.d|_=>none
theorem Xe{l:List D}{m:Nat}(i:Nat)(x:D):((l.map λx=>some (S.pure x))++Wc m none:Dl)[i]?≠some (some (.own x)):=λe=>by have:=Wq e;simp[List.mem_replicate]at this
section
variable{nm:Str}{fr:List Str}{p:Str}{k:Nat}{fb:DS}
theorem Xf(hex:X.ex=[])(hH:c.H₀=X.H₀)(hp:c.pin=[])(C:jZ X.H₀ fa nm qual params body scope cl)(CC:ng X.H₀ X.fs X.s₀.heap cl fr fv)(L:uI p fr scope)(hr:b_ (k+1) X.A)(hb:∀doc pm aE e8(u:Value),bindArgs (PySem.W.fnX nm qual params body scope cl .none .none doc pm none aE e8) ⟨[u],[]⟩=pure [(p,u)])(rv:aF X.H₀ c.B fv dv)(cG:∀(c':Fc)(cd:Value)(s:W1)(H:Hp),b_ k (X.A.deeper (Ju qual scope s.heap.objs.size fa cd cl))->c'.pin=[]->dA (oA X.prog X.w X.K X.mg X.base (p::(fr++ls)) qual scope fa cd cl X.A X.stack s H) c' body fb):uJ X c fa (j0 ls.length fb dv):=by
 have jz:∀a,¬c.I a:=λa⟨i,z⟩=>by rw[hp]at z;simp at z
 have C1:∀pins σ H s,Inv X pins σ H s->jZ H fa nm qual params body scope cl:=λpins σ H s I=>C.keep I.base.gO;have C2:∀pins σ H s,Inv X pins σ H s->ng H X.fs s.heap cl fr fv:=λpins σ H s I=>CC.keep λb o e n hb=>⟨I.base.keep b o e n hb (by rw[hex];simp),I.base.free b o e n (by rw[hex];simp)⟩;refine⟨λpins σ H s I=>?_,λpins s σ δ H v u d d' Q I ok rd ru hF q=>?_⟩;.obtain⟨doc,pm,c',e8,oc,h1,_⟩:=C1 pins σ H s I;exact⟨_,(I.az fa _ h1).1⟩
 .have key:∀(i:Nat)w x,fv[i]?=some w->dv[i]?=some x->Rep H (Av c σ δ) w x:=λi w x e1 e2=>by
   have r0:=rv.2 i w x e1 e2;have r1:Rep X.H₀ (Av c σ δ) w x:=r0.aM λa z=>by
    rcases z with z|⟨j,d,z1,z2⟩;.exact .inl z
    .obtain⟨b,z3,_,z4,_⟩:=ok.own j d z1;rw[z2]at z3;cases z3;rcases z4 with z4|z4;.exact absurd z4 (jz _)
     .exact .inr (by rw[<-hH];exact z4)
   exact r1.keep λa o e _=>ok.keep a o %[hH|e] (jz a)
  refine W_ (ls:=ls) (t:=iS ⟨H,Av c σ δ,[],λ_ _=>False⟩ fb) I (C1 pins σ H s I) (C2 pins σ H s I) L hr ru hb (λcd fO=>cG _ cd s H fO rfl) ?_;have fP:∀(i:Nat)x,(some (S.pure d)::(dv.map (λx=>some (S.pure x))++Wc ls.length none))[i]?=some (some (.own x))->False:=λi x e=>Xe (l:=d::dv) i x e;have uX:∀b,Av ⟨H,Av c σ δ,[],λ_ _=>False⟩ (some v::(fv.map some++ls.map λ_=>none)) (some (S.pure d)::(dv.map (λx=>some (S.pure x))++Wc ls.length none)) b->Av c σ δ b:=λb z=>by
   rcases z with z|⟨i,x,z1,_⟩;.exact z
   .exact(fP i x z1).elim
  refine⟨_,⟨λa o e _=>e,λa z=>ok.tj z,λa⟨i,z⟩=>by simp at z,?_,λi x e=>?_,λi x e=>(fP i x e).elim,λi j a x x' e=>(fP i x e).elim,λz hz=>by simp at hz⟩,?_⟩;.simp[rv.1]
  .cases i with|zero=>simp at e;subst e;exact⟨v,rfl,rd.aM λb z=>.inl (uX b z)⟩|succ i=>
    rw[Q6]at e;have hi:i<dv.length:=by
     rcases Nat.lt_or_ge i dv.length with z|z;.exact z
     .rw[Jg (~~~z)]at e;have:=Wq e;simp[List.mem_replicate]at this
    rw[Qi (~~~hi),Wu]at e;cases z:dv[i]? with|none=>rw[z]at e;cases e|some y=>rw[z]at e;cases e;have fS:i<fv.length:=%[rv.1|hi];refine⟨fv[i],?_,(key i fv[i] x #v[fS] z).aM λb z=>.inl (uX b z)⟩;rw[Q6,Qi (~~~fS),Wu];simp[fS]
  .unfold j0 at hF;cases e:fb (some (.pure d)::(dv.map (λx=>some (.pure x))++Wc ls.length none))with
 |exc x δx=>rw[e]at hF;cases hF|stuck=>rw[e]at hF;cases hF
 |ok fl δ'=>rw[e]at hF;cases fl with|ret r=>
 cases hF;intro σ' H' a v' rs;have up:∀b o,H b=some o->H' b=some o:=λb o eb=>a.ok.keep b o eb λ⟨i,z⟩=>by simp at z
 exact q v' H' (.mono ok up) (rs.rep.aM λb z=>.inl (.inl z))|next=>cases hF|brk=>cases hF|cont=>cases hF
end
def yA(P:Wg)(w:Wp)(K:W2)(mg:Str->Option Value)(base:Heap)(n:Nat)(N:List Str)(qual:Str)(scope:Scope)(f:Addr)(k:Nat)(ib:Addr->(D->Option D)->DS):List Env->W1->Sp:=λouter s vs H Q _=>∃(l:List D)(fa:Addr)(F:D->Option D)(B:Addr->Prop),vs.length=n/\Ok ⟨H,B,[],λ_ _=>False⟩ (bS vs) (cb (l.map .pure)) H/\(∀aE A E,b_ k (A.deeper (QB qual scope s.heap.objs.size f aE))->A.frames=some outer->uJ (dG cH P w K mg base N qual scope f aE A outer s H E).fE ⟨H,B,[],λ_ _=>False⟩ fa F)/\∃r aH,eC (ib fa F) N.length (l.map .pure)=some (r,aH)/\∀v' H',aK ⟨H,B,[],λ_ _=>False⟩ (bS vs) (cb (l.map .pure)) H (bS vs) (cb aH) H'->aY ⟨H,B,[],λ_ _=>False⟩ (bS vs) (cb aH) H H' v' r->Q v' H'
theorem GA:∀(l:List D)(i:Nat)(vs:List V),bN i (l.map .pure) vs=[]|[],_,[]=>rfl|[],_,_::_=>rfl|_::_,_,[]=>rfl|d::l,i,v::vs=>#v[bN,GA l]
theorem GH{st:Stmt}{k:Nat}(F:dq K x qual st f fd)(S0:eL N ps (aV st))(cG:∀(c:Fc)(aE:Value)(A:Wh)(outer:List Env)(s:W1)(H:Hp)(E:XK)(fa:Addr)(Fn:D->Option D),b_ k (A.deeper (QB qual (aV st) s.heap.objs.size f aE))->Np c []->uJ (dG cH P w K mg base N qual (aV st) f aE A outer s H E).fE c fa Fn->dA (dG cH P w K mg base N qual (aV st) f aE A outer s H E).fE c (cZ st) (ib fa Fn)):yi P w K mg base (k+1) f fd ps (yA P w K mg base ps.length N qual (aV st) f k ib):=by
 refine F.UI S0 (λouter s vs H Q E h=>?_) λaE A outer s H vs Q E hr fK h=>?_;.obtain⟨l,fa,Fn,B,h,_⟩:=h;exact h
 .obtain⟨l,fa,Fn,B,hl,ok,uY,r,aH,hrun,q⟩:=h;refine⟨iS ⟨H,B,[],λ_ _=>False⟩ (ib fa Fn),cG ⟨H,B,[],λ_ _=>False⟩ aE A outer s H E fa Fn hr (λp hp=>by simp at hp) (uY aE A E hr fK),?_⟩;have iB:(l.map S.pure).length=vs.length:=by have:=ok.len;simpa using this
  have cP:start N vs=bS vs++Wc (N.length-(l.map S.pure).length) none:=by rw[iB];rfl
  refine⟨aX N.length (l.map .pure),%[cP|ok.ext _],?_⟩;unfold eC at hrun;unfold dJ;have kI:bN 0 (l.map .pure) vs=[]:=GA l 0 vs;cases e:ib fa Fn (aX N.length (l.map .pure))with|exc x δx=>rw[e]at hrun;cases hrun|stuck=>rw[e]at hrun;cases hrun|ok fl δ'=>rw[e]at hrun;show∀σ' H',aK _ (start N vs) (aX N.length (l.map .pure)) H σ' δ' H'->fin _ _ σ' δ' H' fl;intro σ' H' a;rw[cP]at a;simp only at hrun;cases fl with
 |brk=>cases hrun|cont=>cases hrun|next=>simp only[bW,Wz]at hrun;cases eo:bj 0 (l.map .pure) δ' with|none=>rw[eo]at hrun;cases hrun|some os=>rw[eo]at hrun;cases hrun;obtain⟨l1,l2⟩:=iV (vs:=vs) (by rw[kI]) ok a eo;exact q .aJ H' l1 .aJ
 |ret r'=>simp only[bW,Wz]at hrun;cases eo:bj 0 (l.map .pure) δ' with|none=>rw[eo]at hrun;cases hrun|some os=>rw[eo]at hrun;cases hrun;obtain⟨l1,l2⟩:=iV (vs:=vs) (by rw[kI]) ok a eo;exactλv' rv=>q v' H' l1 (l2 v' _ rv)
def ni:List (Option D)->Option (List D)|[]=>some []|some d::r=>(ni r).map (d::.)|none::_=>none
def l7:List Nat->Dl->Option (List D)|[],_=>some []|j::js,δ=>match δ[j]? with|some (some (.pure d))=>(l7 js δ).map (d::.)|_=>none
def j3(m:Nat)(W:(D->Option D)->List D->Option D)(js:List Nat)(fb:DS)(as:List Ak):DE:=λδ=>(bI as δ).bind λds δ1=>match ni ds,l7 js δ1 with
 |some l,some dv=>match W (j0 m fb dv) l with|some d'=>.ok (.pure d') δ1|none=>.stuck
 |_,_=>.stuck
noncomputable def i5(b:Addr->(D->Option D)->DS)(m:Nat)(fa:Addr)(F:D->Option D)(l:List D):Option D:=(eC (b fa F) m (l.map .pure)).map λp=>p.1.d
def rm(P:Wg)(w:Wp)(K:W2)(mg:Str->Option Value)(base:Heap)(k:Nat)(x:Str)(n m:Nat)(ib:Addr->(D->Option D)->DS):Prop:=∃(f:Addr)(fd:WH)(ps:List Str)(qual:Str)(scope:Scope)(N:List Str),N.length=m/\mg x=some (.ref f)/\Qq K (.ref f)=true/\Binds K fd ps []/\ps.length=n/\yi P w K mg base (k+1) f fd ps (yA P w K mg base n N qual scope f k ib)
theorem Xg{ds}(h:jP c σ δ H vs as ds):∀{l:List D},ni ds=some l->aF H (Av c σ δ) vs l/\vs.length=as.length:=by induction h with
 |nil=>intro l e;cases e;exact⟨.nil,rfl⟩|@val v d f vs as ds r _ ih=>intro l e;simp only[ni]at e;cases z:ni ds with|none=>rw[z]at e;cases e|some l'=>rw[z]at e;cases e;exact⟨.cons r (ih z).1,#v[(ih z).2]⟩
 |io _ _ _=>intro l e;cases e
theorem GI(k:Ok c σ δ H):∀{js:List Nat}{dv:List D},l7 js δ=some dv->∃fv:List V,fv.length=js.length/\(∀(i:Nat)j,js[i]?=some j->∃v,fv[i]?=some v/\σ[j]?=some (some v))/\aF H (Av c σ δ) fv dv
 |[],dv,h=>by cases h;exact⟨[],rfl,λi j e=>by simp at e,.nil⟩|j::js,dv,h=>by
  simp only[l7]at h;split at h;.rename_i d e;obtain⟨v,e1,r⟩:=k.slot j d e;cases z:l7 js δ with|none=>rw[z]at h;cases h|some l=>rw[z]at h;cases h;obtain⟨fv,h1,h2,h3⟩:=GI k z;refine⟨v::fv,#v[h1],λi j' ej=>?_,.cons r h3⟩;cases i with|zero=>simp at ej;subst ej;exact⟨v,rfl,e1⟩|succ i=>obtain⟨v',q1,q2⟩:=h2 i j' (~~~ej);exact⟨v',~~~q1,q2⟩
  .cases h
section
variable{fb:DS}{nm q:Str}{fr:List Str}{p:Str}{kl kw m:Nat}
theorem Xh(F:rm X.prog X.w X.K X.mg X.base kw x n m ib)(C:jZ c.H₀ fa nm q params body scope cl)(kI:Np c [])(hr:b_ (kw+1) X.A)(Xi:kl+1<=kw)(hg:Gl X x)(ha:SX X c (e::es) as)(hn:as.length=n)(eN:∀i,Ak.io i∈as->False)(gF:∀x,X.fn x=true)(nj:∀x a,cl.lookup x=some a->X.env.cells.lookup x=some a)(L:uI p fr scope)(GQ:js.length=fr.length)(hN:∀(i:Nat)x j,fr[i]?=some x->js[i]?=some j->X.N[j]?=some x/\X.env.scope.names.lookup x=some .cell/\∃a,cl.lookup x=some a)(hb:∀doc pm aE e8(u:Value),bindArgs (PySem.W.fnX nm q params body scope cl .none .none doc pm none aE e8) ⟨[u],[]⟩=pure [(p,u)])(cG:∀(c':Fc)(cd:Value)(A:Wh)(outer:List Env)(s:W1)(H:Hp),b_ kl (A.deeper (Ju q scope s.heap.objs.size fa cd cl))->c'.pin=[]->dA (oA X.prog X.w X.K X.mg X.base (p::(fr++ls)) q scope fa cd cl A outer s H) c' body fb)(dm:(x==("__debug__":Str))=false:=by decide)(he:W7 (e::es) X.env=(false,eval e X.env)::W7 es X.env:=by rfl)(bu:(WO pos (W7 es X.env)).any (·.1)=false:=by rfl):SE X c (.Call (.Name x pp) (e::es) [] pos) (j3 ls.length (i5 ib m fa) js fb as):=by
 obtain⟨f,fd,ps,qual,sc,N,hNm,my,hk,hbi,h2,ok⟩:=F;have kW:c.pin=[]:=by cases z:c.pin with|nil=>rfl|cons a l=>have:=kI a %[z|.head _];simp at this
 have jz:∀a,¬c.I a:=λa⟨i,z⟩=>by rw[kW]at z;simp at z
 intro pins s σ H Q I⟨δ,k,qq⟩;refine Qw (kn I hg my ?_ dm);refine U6 (h₀:=X.base) I.ok.mod.ki hk ?_ he bu;unfold j3 at qq;rw[bh]at qq;refine aP (ha pos pins s σ H (λvs H1=>∃l δ1 dv d',vs.length=n/\aK c σ δ H σ δ1 H1/\aF H1 (Av c σ δ1) vs l/\l7 js δ1=some dv/\i5 ib m fa (j0 ls.length fb dv) l=some d'/\∀v' H3,aK c σ δ H σ δ1 H3->Rep H3 (Av c σ δ1) v' d'->Q v' H3) I ⟨δ,k,λi hi=>(eN i hi).elim,aN qq λds δ1 q1 vs H1 a1 r1=>?_⟩) λus s2⟨vs,H2,I2,rr,l,δ1,dv,d',uw,a1,rl,ec,ew,hq⟩=>⟨I2.cO,?_⟩
 .split at q1
  .rename_i l dv e1 e2;split at q1;.rename_i d' ew;obtain⟨z1,z2⟩:=Xg r1 e1;exact⟨l,δ1,dv,d',z2.trans hn,a1,z1,e2,ew,λv' H3 a3 r3=>q1 v' H3 a3 r3⟩
   .exact q1.elim
  .exact q1.elim
 .have k2:=a1.ok;have C2:jZ H2 fa nm q params body scope cl:=C.keep λb o u z=>k2.keep b _ z (jz b);obtain⟨fv,l1,l2,rf⟩:=GI k2 ec;have CC:ng H2 (eS X.stack) s2.heap cl fr fv:=by
   refine⟨λx a e=>⟨I2.cell x a (nj x a e),I2.eU x a (nj x a e),I2.UN gF (nj x a e)⟩,λx y a e1 e2=>I2.ok.inj x y a (nj x a e1) (nj y a e2),λi x v e1 e2=>?_,by rw[l1,GQ]⟩;have hi:i<js.length:=by rw[GQ];exact(W8.mp e1).1
   obtain⟨w',q1,q2⟩:=l2 i js[i] #v[hi];rw[e2]at q1;cases q1;obtain⟨z1,z2,a,z3⟩:=hN i x js[i] e1 #v[hi];obtain⟨m',_,hl⟩:=I2.loc;obtain⟨u,r1,r2⟩:=hl js[i] x v z1 q2 (.inr (.inl z2));rcases r2 with⟨z,_⟩|⟨_,a',y1,y2⟩;.have z':X.env.scope.names.lookup x=some .local:=z;rw[z2]at z';cases z'
   .rw[nj x a z3]at y1;cases y1;exact⟨a,u,z3,y2,r1⟩
  have sp:yA X.prog X.w X.K X.mg X.base n N qual sc f kw ib X.stack s2 vs H2 Q E0:=by
   obtain⟨⟨rs,aH⟩,hrun,rfl⟩:=Ww.mp ew;have fP:∀(i:Nat)z,(cb (l.map S.pure):Dl)[i]?=some (some (.own z))->False:=λi z e=>by have:=Wq e;simp[cb]at this
   have uX:∀b,Av ⟨H2,Av c σ δ1,[],λ_ _=>False⟩ (bS vs) (cb (l.map S.pure)) b->Av c σ δ1 b:=λb z=>by
    rcases z with z|⟨i,y,z1,_⟩;.exact z
    .exact(fP i y z1).elim
   refine⟨l,fa,_,Av c σ δ1,uw,⟨λa o e _=>e,λa z=>k2.tj z,λa⟨i,z⟩=>by simp at z,#v[cb,bS,rl.1],λi z e=>?_,λi z e=>(fP i z e).elim,λi j a z z' e=>(fP i z e).elim,λz hz=>by simp at hz⟩,λaE A E fO fK=>?_,rs,aH,%[hNm|hrun],λv' H' a r'=>?_⟩;.rw[eX,Wu]at e;cases y:l[i]? with|none=>rw[y]at e;cases e|some d=>
     rw[y]at e;cases e;have hi:i<vs.length:=by rw[rl.1];exact(W8.mp y).1
     exact⟨vs[i],fc.mpr #v[hi],(rl.2 i vs[i] z #v[hi] y).aM λb z=>.inl (uX b z)⟩
   .exact Xf (X:=(dG cH X.prog X.w X.K X.mg X.base N qual sc f aE A X.stack s2 H2 E).fE) (k:=kl) rfl rfl rfl C2 CC L (fO.mono Xi) hb rf λc' cd s' H' yB hp=>cG c' cd _ _ s' H' yB hp
   .have nh:∀b o,H2 b=some o->H' b=some o:=λb o eb=>a.ok.keep b o eb λ⟨i,z⟩=>by simp at z
    exact hq v' H' (a1.trans (.mono k2 nh)) (Rep.aM r'.rep λb z=>.inl (.inl z))
  have GV:=hbi s2 us I2.cO (by rw[WV,h2,<-uw];exact rr.length.symm);rw[WV]at GV;refine Ud (Js (ok.run X.A X.stack s2 H2 ⟨us,[]⟩ us vs Q E0 hr I2.nH GV rr sp) λr s' jv=>?_);cases r with|error e=>exact jv.elim|ok fl=>cases fl with|ret u=>exact I2.after jv|next=>exact False.elim jv|brk=>exact False.elim jv|cont=>exact False.elim jv
end
theorem Xj{i}(hg:Gl X x)(hm:∃t,X.mg x=some (.str (toS i) t))(hd:(x==("__debug__":Str))=false:=by decide):SE X c (.Name x pos) (eD (.str i)):=by obtain⟨t,h⟩:=hm;exact PE.weak (Bf (v:=.str (toS i)) hg h ⟨t,rfl⟩ hd) λσ H Q⟨δ,k,p⟩=>p _ H (.refl k) (.str i)
def gA(δ:Dl):Dl:=δ.map λ|some (.own d)=>some (.pure d)|x=>x
open Classical in noncomputable def dDefR(j:Nat)(g:Addr->DS):DS:=λδ=>match g 0 ((gA δ).set j (some (.pure (.fn 0))))with|.ok (.ret (.pure r)) δ'=>if∀fa,g fa ((gA δ).set j (some (.pure (.fn fa))))=.ok (.ret (.pure r)) (δ'.set j (some (.pure (.fn fa))))then .ok (.ret (.pure r)) (δ'.set j none)else .stuck|_=>.stuck
theorem Xk{d:D}:(gA δ)[i]?≠some (some (.own d)):=λe=>by
 have:=Wq e;simp only[gA,List.mem_map]at this;obtain⟨x,_,h⟩:=this;split at h;.cases h
 .grind
theorem Xl{d:D}(e:(gA δ)[i]?=some (some (.pure d))):δ[i]?=some (some (.pure d))\/δ[i]?=some (some (.own d)):=by rw[gA,Wu]at e;cases z:δ[i]? with|none=>rw[z]at e;cases e|some x=>
 rw[z]at e;simp only[WP,Wd]at e;split at e;.cases e;exact .inr rfl
 .rw[e];exact .inl rfl
inductive Sd where|sq(b:Bool)(a:Addr)|tx(x:Str)(t:Tok)
def Sd.val:Sd->Value|.sq _ a=>.ref a|.tx x t=>.str x t
def Sd.obj:Sd->Obj|.sq b a=>EX b a|.tx x t=>{cls:=.type (Jr x),data:=.fields #[.str x t,.int 0 0]}
def Sd.there(h:Heap):Sd->Prop|.sq b a=>∃its,kR b h a its|.tx _ _=>True
def Sd.at(h:Heap)(it:Addr)(i:Nat):Sd->Prop|.sq b a=>EW b h it a i|.tx x t=>h.IsStrIter it (Jr x) x t i
def Sd.fp:Sd->List Addr|.sq _ a=>[a]|.tx _ _=>[]
theorem Sd.live{S:Sd}{h:Heap}(q:S.at h it i):∃o,h.get? it=some o/\∀v,o.data≠.cell v:=by
 cases S with|sq b a=>
 cases b;.obtain⟨o,e,c,d⟩:=(q:h.IsTupleIter it a i);exact⟨o,e,λv z=>by rw[d]at z;cases z⟩
 .obtain⟨o,e,c,d⟩:=(q:h.IsListIter it a i);exact⟨o,e,λv z=>by rw[d]at z;cases z⟩|tx x t=>obtain⟨o,e,c,d⟩:=(q:h.IsStrIter it _ x t i);exact⟨o,e,λv z=>by rw[d]at z;cases z⟩
theorem Sd.eG{S:Sd}{h:Heap}(q:S.at h it i)(k:∀o,h.get? it=some o->h'.get? it=some o):S.at h' it i:=by
 cases S with|sq b a=>
 cases b;.obtain⟨o,e,r⟩:=(q:h.IsTupleIter it a i);exact⟨o,k o e,r⟩
 .obtain⟨o,e,r⟩:=(q:h.IsListIter it a i);exact⟨o,k o e,r⟩|tx x t=>obtain⟨o,e,r⟩:=(q:h.IsStrIter it _ x t i);exact⟨o,k o e,r⟩
theorem Sd.iter{prog:Wg}{w:Wp}{A:Wh}{E:Value->W1->Prop}{S:Sd}(h:S.there s.heap)(q:Q (.ref s.heap.objs.size) {s with heap:=s.heap.push S.obj}):W4 (model prog w) A (pyIter S.val) Q E s:=by cases S with|sq b a=>obtain⟨its,h⟩:=h;exact S7 h q|tx x t=>exact wpAny_pyIter_strU q
theorem Sd.push{S:Sd}{h:Heap}(q:S.there h)(o:Obj):S.there (h.push o):=by cases S with|sq b a=>obtain⟨its,q⟩:=q;exact⟨its,q.push o⟩|tx x t=>trivial
abbrev uZ(h:Heap)(a:Obj):Heap:=h.push a
abbrev u0(h:Heap)(a b:Obj):Heap:=(uZ h a).push b
abbrev u4(h:Heap)(a b:Obj):Heap:=(u0 h a b).push {cls:=.type "tuple",data:=.seq #[.ref h.objs.size,.ref (uZ h a).objs.size]}
abbrev u5(h:Heap)(a b:Obj):Heap:=(u4 h a b).push {cls:=.type "tuple",data:=.seq #[.none,.none]}
abbrev oJ(h:Heap)(a b:Obj):Heap:=(u5 h a b).push {cls:=.type "zip",data:=.fields #[.none,.bool false,.bool false,.ref (u0 h a b).objs.size,.ref (u4 h a b).objs.size]}
theorem Xm(S T:Sd):Meets (Builtin.«zip.__new__» ⟨[.type "zip",S.val,T.val],[]⟩) λ_ R s=>S.there s.heap/\T.there s.heap/\R (.ok (.ret (.ref (u5 s.heap S.obj T.obj).objs.size))) {s with heap:=oJ s.heap S.obj T.obj}:=.of_wp λprog w A R s h=>by obtain⟨hp,g,d,tk,os⟩:=s;obtain⟨h1,h2,h⟩:=h;have nj:=sub_zip;have p1:∀{A:Wh}{E:Value->W1->Prop}{s:W1}{Q:Value->W1->Prop},S.there s.heap->Q (.ref s.heap.objs.size) {s with heap:=s.heap.push S.obj}->W4 (model prog w) A (pyIter S.val) Q E s:=λq h=>Sd.iter q h;have p2:∀{A:Wh}{E:Value->W1->Prop}{s:W1}{Q:Value->W1->Prop},T.there s.heap->Q (.ref s.heap.objs.size) {s with heap:=s.heap.push T.obj}->W4 (model prog w) A (pyIter T.val) Q E s:=λq h=>Sd.iter q h;have h1:S.there (Shared.heap ⟨hp,g,d,tk,os⟩):=h1;have h2:T.there (Shared.heap ⟨hp.push S.obj,g,d,tk,os⟩):=Sd.push h2 _;generalize S.val=u1 at*;generalize T.val=u2 at*;generalize S.obj=o1 at*;generalize T.obj=o2 at*;wp_walk using p1 h1,p2 h2;exact⟨_,rfl,h⟩
def nq(S T:Sd)(n i:Nat)(h:Heap):Prop:=(∃v0 f,fX h (n+4) (n+2) (n+3) v0 f/\(v0=.none\/∃p:Addr,v0=WZ p))/\IsPair h (n+2) (.ref n) (.ref (n+1))/\(∃a b,IsPair h (n+3) a b)/\S.at h n i/\T.at h (n+1) i
abbrev dj(n:Nat):List Addr:=[n+4,n+2,n+3,n,n+1]
theorem yC{S}(h1:S.there s.heap)(h2:T.there s.heap)(h:∀h',nq S T s.heap.objs.size 0 h'->IsZip h' (s.heap.objs.size+4) (s.heap.objs.size+2) (s.heap.objs.size+3) .none->(∀c o,s.heap.get? c=some o->h'.get? c=some o)->Q (.ref (s.heap.objs.size+4)) {s with heap:=h'}):W4 (model prog w) A (call (.type "zip") [S.val,T.val]) Q E s:=by
 refine callType_new F.called_zip Z' (F.typeCall_zip_2 _ _) (F.newCall_zip_2 _ _) (λobj=>F.args_object_init_3 obj _ _) F.entry_zip_new (Xm S T) ⟨h1,h2,?_⟩;have z1:(uZ s.heap S.obj).objs.size=s.heap.objs.size+1:=J4 ..;have z2:(u0 s.heap S.obj T.obj).objs.size=s.heap.objs.size+2:=by rw[J4,z1]
 have z3:(u4 s.heap S.obj T.obj).objs.size=s.heap.objs.size+3:=by rw[J4,z2]
 have z4:(u5 s.heap S.obj T.obj).objs.size=s.heap.objs.size+4:=by rw[J4,z3]
 have up:∀{h:Heap}{o:Obj}{c:Addr}{o':Obj},h.get? c=some o'->(h.push o).get? c=some o':=λe=>W6 _ e;have g5:(oJ s.heap S.obj T.obj).get? (u5 s.heap S.obj T.obj).objs.size=some _:=Wj _ rfl;have g4:(oJ s.heap S.obj T.obj).get? (u4 s.heap S.obj T.obj).objs.size=some _:=up (Wj _ rfl);have g3:(oJ s.heap S.obj T.obj).get? (u0 s.heap S.obj T.obj).objs.size=some _:=up (up (Wj _ rfl));have g2:(oJ s.heap S.obj T.obj).get? (uZ s.heap S.obj).objs.size=some T.obj:=up (up (up (Wj _ (by cases T with|sq b a=>cases b<;>rfl|tx x t=>rfl))));have g1:(oJ s.heap S.obj T.obj).get? s.heap.objs.size=some S.obj:=up (up (up (up (Wj _ (by cases S with|sq b a=>cases b<;>rfl|tx x t=>rfl)))));have mk:∀{U:Sd}{h:Heap}{it:Addr},h.get? it=some U.obj->U.at h it 0:=λ{U h it}e=>by cases U with|sq b a=>cases b<;>exact⟨_,e,rfl,rfl⟩|tx x t=>exact⟨_,e,rfl,rfl⟩
 show _/\_;rw[z2,z3,z4]at g5;rw[z1,z2]at g3;rw[z3]at g4;rw[z1]at g2;rw[z4];exact⟨⟨_,g5,rfl⟩,h _ ⟨⟨_,_,g5,.inl rfl⟩,g3,⟨_,_,g4⟩,mk g1,mk g2⟩ g5 λc o x=>up (up (up (up (up x))))⟩
theorem Xn{TI TO f Q}(hz:fX s.heap z TI TO v0 f)(hv:v0=.none\/∃p:Addr,v0=WZ p)(hQ:∀h' u6,fX h' z TI TO u6 f->(u6=.none\/∃p:Addr,u6=WZ p)->Jb z s.heap h'->Q () {s with heap:=h'}):W4 (model prog w) A (JA tg (.ref z) (.ref T)) Q E s:=by
 have no:Q () s:=hQ s.heap v0 hz hv ⟨rfl,λ_ _=>rfl⟩;have yes:W4 (model prog w) A (do let o<-load z match o.cls,o.data with|.type n,.fields vs=>if["enumerate","zip","dict_itemiterator","dict_reverseitemiterator","odict_iterator","itertools.zip_longest","itertools.pairwise"].contains n&&vs[0]?==some (WZ T)then rule "for.unpacks-the-owned-tuple"updateField z 0 .none|_,_=>pure ()) Q E s:=by
  refine W0 (wpAny_load hz ?_);dsimp only;split;.refine W0 (QX ?_);show W4 _ _ (setField (.ref z) 0 .none) Q E s;exact Qz hz U' λh' iG lC=>hQ h' _ iG (.inl rfl) lC
  .exact W5 no
 unfold JA;cases tg<;>first|exact yes|exact W5 no
def j4(K:W2)(H:Hp)(xs:List V):Sd->Prop|.sq b a=>mZ b K H a xs|.tx x _=>xs=x.cps.toList.map λc=>.str ⟨#[c]⟩
section
variable{S T:Sd}{xs ys:List V}
theorem Inv.side(I:Inv X pins σ H s)(hA:A.handled=none)(hv:j4 X.K H xs S)(cQ:it∉S.fp):∃St:Nat->Heap->Prop,Draws X.prog X.w A.in1 it (it::S.fp) xs.length (λi v=>∃x,xs[i]?=some x/\RelV x v) St/\(∀i h,St i h->S.at h it i)/\∀i,S.at s.heap it i->St i s.heap:=by cases S with|sq b a=>obtain⟨is,rv,p⟩:=I.EY hv;have D:=S8 (prog:=X.prog) (w:=X.w) (A:=A.in1) b (show A.in1.handled=none from hA) it a (λz=>cQ #v[Sd.fp,z]) is.toArray;have hl:is.toArray.size=xs.length:= ~~~rv.length.symm;rw[hl]at D;refine⟨_,⟨D.live,D.frame,λi s Q E hi st hQ=>D.item i s Q E hi st λx h' tk e=>hQ x h' tk ?_,D.done⟩,λi h q=>q.1,λi q=>⟨q,p⟩⟩;obtain⟨u,hu,ru⟩:=rv.get (x:=xs[i]) (show xs[i]?=some xs[i]by simp[hi]);have e:is[i]?=some x:= ~~~e;rw[hu]at e;cases e;exact⟨xs[i],#v[hi],ru⟩|tx x t=>
  obtain rfl:xs=_:=hv;have hT:Jr x="str_ascii_iterator"\/Jr x="str_iterator":=by
   unfold Jr;split;.exact .inl rfl
   .exact .inr rfl
  have D:Draws X.prog X.w A.in1 it [it] x.cps.size (λi v=>∃c u,x.cps[i]?=some c/\v=.str ⟨#[c]⟩ u) λi h=>h.IsStrIter it (Jr x) x t i:=by
   rcases hT with e|e;.rw[e];exact Draws.strAscii (show A.in1.handled=none from hA) it x t
   .rw[e];exact Draws.strWide (show A.in1.handled=none from hA) it x t
  rw[show x.cps.size=(x.cps.toList.map λc=>V.str ⟨#[c]⟩).length by simp]at D;refine⟨_,⟨D.live,D.frame,λi s Q E hi st hQ=>D.item i s Q E hi st λy h' tk⟨c,u,e1,e2⟩=>hQ y h' tk ⟨.str ⟨#[c]⟩,#v[e1],u,e2⟩,D.done⟩,λi h q=>q,λi q=>q⟩
theorem oK(h:b∈dj n):b=n+4\/b=n+2\/b=n+3\/b=n\/b=n+1:= ~~~h
theorem ic(n:Nat)(h:i≠j):(n+i:Addr)≠n+j:=λe=>h (Nat.add_left_cancel e)
theorem GX(h1:∀a∈S.fp,a<n)(h2:∀a∈T.fp,a<n):ZA (n+4) (n+2) (n+3) n (n+1) (n::S.fp) ((n+1)::T.fp):=by
 have k:∀{l:List Addr}{j i:Nat},(∀a∈l,a<n)->j≠i->(n+j:Addr)∉(n+i)::l:=λ{l j i}h e z=>by
  rcases Ws.mp z with z|z;.exact ic n e z
  .exact absurd (h _ z) (Nat.not_lt.mpr (JW n j))
 exact⟨Wt,Wt,k (i:=0) h1 Z',k h2 Z',k (i:=0) h1 Z',k h2 Z',k (j:=0) h2 Z',k (i:=0) h1 Z',ic n Z',ic n Z',ic n Z',ic n (j:=0) Z',ic n Z'⟩
theorem yD{x Q}(I:Inv X pins σ H s)(hA:A.handled=none)(h1:∀a∈S.fp,a<n)(h2:∀a∈T.fp,a<n)(v1:j4 X.K H xs S)(v2:j4 X.K H ys T)(st:nq S T n i s.heap)(hx:xs[i]?=some x)(hy:ys[i]?=some y)(q:∀u v h' tk,RelV x u->RelV y v->nq S T n (i+1) h'->IsPair h' s.heap.objs.size u v->(∀c o,c∉dj n->s.heap.get? c=some o->h'.get? c=some o)->Q (some (.ref s.heap.objs.size)) {s with heap:=h',toks:=tk}):W4 (model X.prog X.w) A (Jk (.ref (n+4))) Q E s:=by obtain⟨⟨v0,f,hz,hv⟩,hI,⟨a,b,hO⟩,q1,q2⟩:=st;obtain⟨St1,D1,a1,b1⟩:=I.side (it:=n) hA v1 λz=>absurd (h1 _ z) (Q7 _);obtain⟨St2,D2,a2,b2⟩:=I.side (it:=n+1) hA v2 λz=>absurd (h2 _ z) (Nat.not_lt.mpr (JW n 1));have l1:=(W8.mp hx).1;have l2:=(W8.mp hy).1;refine V8 D1 D2 (GX h1 h2) hz hv hI hO (b1 i q1) (b2 i q2) l1 l2 λu v h' tk p' f' e1 e2 iG Xo s1 s2 hT k=>?_;obtain⟨x',g1,r1⟩:=e1;obtain⟨y',g2,r2⟩:=e2;rw[hx]at g1;cases g1;rw[hy]at g2;cases g2;have k2:∀c o,c∉dj n->s.heap.get? c=some o->h'.get? c=some o:=λc o hc e=>k c o (λz=>hc #v[z]) (λz=>hc #v[z]) (λz=>hc #v[z]) (λz=>hc #v[z]) e;exact q u v h' tk r1 r2 ⟨⟨_,_,iG,.inr ⟨p',rfl⟩⟩,k _ _ (ic n Z') (ic n Z') (ic n (j:=0) Z') (ic n Z') hI,Xo,a1 _ _ s1,a2 _ _ s2⟩ hT k2
theorem yE{Q}(I:Inv X pins σ H s)(hA:A.handled=none)(h1:∀a∈S.fp,a<n)(h2:∀a∈T.fp,a<n)(v1:j4 X.K H xs S)(v2:j4 X.K H ys T)(st:nq S T n i s.heap)(hl:i=xs.length\/i<xs.length/\i=ys.length)(q:∀h' tk,(∀c o,c∉dj n->s.heap.get? c=some o->h'.get? c=some o)->Q none {s with heap:=h',toks:=tk}):W4 (model X.prog X.w) A (Jk (.ref (n+4))) Q E s:=by obtain⟨⟨v0,f,hz,hv⟩,hI,⟨a,b,hO⟩,q1,q2⟩:=st;obtain⟨St1,D1,a1,b1⟩:=I.side (it:=n) hA v1 λz=>absurd (h1 _ z) (Q7 _);obtain⟨St2,D2,a2,b2⟩:=I.side (it:=n+1) hA v2 λz=>absurd (h2 _ z) (Nat.not_lt.mpr (JW n 1));exact V9 D1 D2 (GX h1 h2) hz hv hI hO (b1 i q1) (b2 i q2) hl λh' tk k=>q h' tk λc o hc e=>k c o (λz=>hc #v[z]) (λz=>hc #v[z]) (λz=>hc #v[z]) (λz=>hc #v[z]) e
end
def fg(K:W2)(H:Hp)(xs:List V)(b:Bool):V->Prop|.ref a=>mZ b K H a xs|.str x=>xs=x.cps.toList.map λc=>.str ⟨#[c]⟩|_=>False
def ie(b:Bool):V->Tok->Sd|.ref a,_=>.sq b a|.str x,t=>.tx x t|_,t=>.tx ⟨#[]⟩ t
section
variable{b:Bool}{xs ys:List V}{t:Tok}
theorem fg.sd(h:fg K H xs b v):j4 K H xs (ie b v t):=by cases v<;>first|exact h|exact h.elim
theorem Inv.oM(I:Inv X pins σ H s)(h:fg X.K H xs b v)(r:RelV v u):∃t,(ie b v t).val=u/\(ie b v t).there s.heap/\∀a∈(ie b v t).fp,a<s.heap.objs.size:=by
 cases v with|ref a=>obtain⟨its,_,p⟩:=I.EY h;cases r;exact⟨0,rfl,⟨_,p⟩,λc hc=>by
 have:c=a:=by simpa[ie,Sd.fp]using hc
 subst this;exact p.lt⟩|str x=>obtain⟨t,rfl⟩:=r;exact⟨t,rfl,trivial,λc hc=>by simp[ie,Sd.fp]at hc⟩|_=>exact h.elim
theorem Inv.GY(I:Inv X pins σ H s)(h:fg X.K H xs b v)(h':fg X.K H ys b v):xs=ys:=by cases v with|ref a=>exact I.S_ h h'|str x=>exact h.trans h'.symm|_=>exact h.elim
end
def G0(K:W2)(b1 b2:Bool)(v w:V):It:=⟨λi H=>∃xs ys x y,fg K H xs b1 v/\fg K H ys b2 w/\xs[i]?=some x/\ys[i]?=some y,λi H z H'=>∃p x y,H p=none/\(∀xs,fg K H xs b1 v->xs[i]?=some x)/\(∀ys,fg K H ys b2 w->ys[i]?=some y)/\H'=upd H p (.tup [x,y])/\z=.ref p,λi H=>∃xs ys,fg K H xs b1 v/\fg K H ys b2 w/\(i=xs.length\/i<xs.length/\i=ys.length)⟩
theorem Xp(b1 b2:Bool)(x y:V)(t u:Tok)(n:Nat)(h1:∀a∈(ie b1 x t).fp,a<n)(h2:∀a∈(ie b2 y u).fp,a<n):Turn P w K tg (G0 K b1 b2 x y) (dj n) (n+4) (nq (ie b1 x t) (ie b2 y u) n):=by
 refine⟨U',?_,?_,?_,?_,?_⟩
 .rintro i h⟨⟨v0,f,hz,_⟩,hI,⟨a,b,hO⟩,q1,q2⟩c hc;rcases oK hc with e|e|e|e|e<;>subst e;.exact⟨_,hz,λv z=>by have z':Data.fields _=Data.cell v:=z;cases z'⟩
  .exact⟨_,hI,λv z=>by have z':Data.seq _ _=Data.cell v:=z;cases z'⟩
  .exact⟨_,hO,λv z=>by have z':Data.seq _ _=Data.cell v:=z;cases z'⟩
  .exact Sd.live q1
  .exact Sd.live q2
 .rintro i h h'⟨⟨v0,f,hz,hv⟩,hI,⟨a,b,hO⟩,q1,q2⟩k;exact⟨⟨v0,f,k _ U' _ hz,hv⟩,k _ U' _ hI,⟨a,b,k _ U' _ hO⟩,Sd.eG q1 λo e=>k _ U' o e,Sd.eG q2 λo e=>k _ U' o e⟩
 .intro X hP hw hK hc i pins s σ H E I hf st hg;subst hP hw hK;obtain⟨xs,ys,x',y',c1,c2,hx,hy⟩:=hg;have bq:∀c∈dj n,c<s.heap.objs.size:=λc hc=>by
   obtain⟨⟨v0,f,hz,hv⟩,_⟩:=st;have z:=Wi hz;have le:∀k:Nat,k<=4->n+k<s.heap.objs.size:=λk hk=>QQ (U2 hk n) z;rcases oK hc with e|e|e|e|e<;>subst e;.exact z
   .exact le 2 Z'
   .exact le 3 Z'
   .exact le 0 Z'
   .exact le 1 Z'
  refine yD I (I.ok.hd hc) h1 h2 c1.sd c2.sd st hx hy λu v h' tk ru rv⟨⟨v0,f,hz,hv⟩,hI,⟨a,b,hO⟩,q1,q2⟩hT k=>⟨_,rfl,Xn hz hv λh2 u6 oH Xq sb=>?_⟩;have nz:s.heap.objs.size≠n+4:=Qp (bq (n+4) U');have k2:∀c o,c∉dj n->s.heap.get? c=some o->h2.get? c=some o:=λc o hc e=>(sb.2 c λz=>hc #v[z]).trans (k c o hc e);have I2:Inv X pins σ (upd H s.heap.objs.size (.tup [x',y'])) {s with heap:=h2,toks:=tk}:=Inv.S9 (t':=tk) _ I hf bq ru rv ((sb.2 _ nz).trans hT) k2;refine⟨.ref s.heap.objs.size,_,I2,rfl,⟨s.heap.objs.size,x',y',I.az.fresh (We _),λzs yF=>%[I.GY yF c1|hx],λzs yF=>%[I.GY yF c2|hy],rfl,rfl⟩,⟨⟨_,_,oH,Xq⟩,(sb.2 _ (ic n Z')).trans hI,⟨_,_,(sb.2 _ (ic n Z')).trans hO⟩,Sd.eG q1 λo e=>(sb.2 _ (ic n (i:=0) Z')).trans e,Sd.eG q2 λo e=>(sb.2 _ (ic n Z')).trans e⟩,λc hc=>?_⟩;rw[aI (WA (bq c hc))];exact(hf c hc).1
 .intro X hP hw hK hc i pins s σ H E I hf st hg;subst hP hw hK;obtain⟨xs,ys,c1,c2,hl⟩:=hg;exact yE I (I.ok.hd hc) h1 h2 c1.sd c2.sd st hl λh' tk k=>⟨rfl,Inv.oi (t':=tk) (dj n) I k hf⟩
 .intro A i s Q E st h;obtain⟨v0,f,hz,_⟩:=st.1;have hT:s.TypeIs (.ref (n+4)) "zip":=⟨_,hz,rfl⟩;refine wpAny_pyIter_slot hT F.slot_zip_iter (Qg F.slot_zip_iter hT F.entry_zip_iter ?_ (F.args_zip_iter_1 _));show W4 _ _ (ret (.ref (n+4))) _ _ s;exact W5 ⟨_,rfl,"zip",_,hT,F.slot_zip_next.lookup,h⟩
theorem u7(I:Inv X pins σ H s)(b:Addr)(hb:b∈dj s.heap.objs.size):s.heap.objs.size<=b:=by rcases oK hb with z|z|z|z|z<;>subst z<;>first|exact We _|exact JW _ _
section
variable{a b:Expr}{f g:DE}
def Xr(K:W2)(ta:TA):TI:=λσ H R=>ta σ H λvs H1=>∃(b1 b2:Bool)(v w:V),vs=[v,w]/\(∃xs,fg K H1 xs b1 v)/\(∃ys,fg K H1 ys b2 w)/\R (G0 K b1 b2 v w) H1
theorem Xs{ta:TA}(hg:Gl X "zip")(hm:X.mg "zip"=none)(ha:PA X [a,b] ta)(hs:W7 [a,b] X.env=(false,eval a X.env)::W7 [b] X.env:=by rfl)(bu:(WO pos (W7 [b] X.env)).any (·.1)=false:=by rfl):PI X tg (.Call (.Name "zip" pp) [a,b] [] pos) (Xr X.K ta):=by intro pins s σ H R I h;refine Call_ (ko I hg hm boot_zip (Qa (aP (ha pos pins s σ H _ I h) λus s1 hh=>?_) hs bu));obtain⟨vs,H1,I1,r1,q1⟩:=hh;obtain⟨b1,b2,v,w,rfl,⟨xs,hx⟩,⟨ys,hy⟩,q⟩:=q1;cases r1 with|cons r rr=>cases rr with|cons r' rr=>cases rr;obtain⟨t,rfl,p1,l1⟩:=I1.oM hx r;obtain⟨u,rfl,p2,l2⟩:=I1.oM hy r';refine yC p1 p2 λh' st hz kp=>wpAny_pyIter_zip hz ?_;exact⟨s1.heap.objs.size+4,_,_,_,H1,rfl,I1.kept (t':=s1.toks) kp,Xp b1 b2 v w t u s1.heap.objs.size l1 l2,st,λb hb=>I1.jG (u7 I1 b hb) (I1.az.fresh (u7 I1 b hb)),q⟩
noncomputable def j5:D->Option (List D)|.lst ds=>some ds|.tup ds=>some ds|.str x=>some (x.map λn=>.str [n])|_=>none
def j6(f g:DE):DI:=λδ=>(f δ).bind λx δ1=>(g δ1).bind λy δ2=>match j5 x.d,j5 y.d with|some xs,some ys=>.ok (gz xs ys) δ2|_,_=>.stuck
theorem Rep.sd{d:D}(r:Rep H O v d)(e:j5 d=some ds):∃(b:Bool)(vs:List V),fg K H vs b v/\aF H O vs ds/\∀H2,(∀p o,H p=some o->¬O p->H2 p=some o)->fg K H2 vs b v:=by
 have sq:∀{ds},qM d=some ds->∃(b:Bool)(vs:List V),fg K H vs b v/\aF H O vs ds/\∀H2,(∀p o,H p=some o->¬O p->H2 p=some o)->fg K H2 vs b v:=λe=>by obtain⟨b,a,vs,rfl,h1,h2,h3⟩:=r.sq (K:=K) e;exact⟨b,vs,h1,h2,h3⟩
 cases d<;>first|(simp[j5]at e;done)|exact sq e|skip
 rename_i x;cases r;cases e;refine⟨true,_,rfl,⟨#v[toS],λi v d e1 e2=>?_⟩,λ_ _=>rfl⟩;rw[Wu]at e1 e2;cases z:x[i]? with|none=>rw[z]at e2;cases e2|some n=>rw[z]at e2;cases e2;simp only[toS,z,WP]at e1;cases e1;exact .str [n]
theorem Xt(hg:Gl X "zip")(hm:X.mg "zip"=none)(ha:SE X c a f)(hb:SE X c b g)(hs:W7 [a,b] X.env=(false,eval a X.env)::W7 [b] X.env:=by rfl)(lG:W7 [b] X.env=(false,eval b X.env)::W7 [] X.env:=by rfl)(bu:(WO pos (W7 [b] X.env)).any (·.1)=false:=by rfl):SI X c tg (.Call (.Name "zip" pp) [a,b] [] pos) (j6 f g):=PI.weak (Xs hg hm (dU ha (dU hb fH lG) hs) hs bu) λσ H R⟨δ,k,q⟩=>by
  unfold j6 at q;rw[bh]at q;refine⟨δ,k,aN q λx δ1 q1 v H1 a1 r1=>⟨δ1,a1.ok,?_⟩⟩;rw[bh]at q1;refine aN q1 λy δ2 q2 u H2 a2 r2=>?_;have hx:Rep H2 (Av c σ δ2) v x.d:=Rep.dw r1.rep a2;have hy:Rep H2 (Av c σ δ2) u y.d:=r2.rep;split at q2
  .rename_i xs ys e1 e2;obtain⟨b1,vs,s1,w1,k1⟩:=hx.sd (K:=X.K) e1;obtain⟨b2,us,s2,w2,k2⟩:=hy.sd (K:=X.K) e2;refine⟨b1,b2,v,u,rfl,⟨vs,s1⟩,⟨us,s2⟩,q2 _ H2 (a1.trans a2) λH3 kp=>?_⟩;have t1:=k1 H3 λp o e n=>kp p o e λz=>n (.inr z);have t2:=k2 H3 λp o e n=>kp p o e λz=>n (.inr z);refine⟨⟨vs,us,t1,t2,?_⟩,λi d e=>?_⟩;.rw[w1.1,w2.1];simp only[gz,List.length_zipWith];lia
   .obtain⟨x,y,ex,ey,rfl⟩:=EZ e;obtain⟨v,ev,rv⟩:=w1.get ex;obtain⟨u,eu,ru⟩:=w2.get ey;refine⟨⟨vs,us,v,u,t1,t2,ev,eu⟩,λz H4⟨p,v',u',hp,hv,hu,e3,ez⟩=>.inr ⟨p,_,_,hp,e3,ez,rfl,?_⟩⟩;have h1:=hv vs t1;have h2:=hu us t2;rw[ev]at h1;rw[eu]at h2;cases h1;cases h2;exact aF.two rv ru
  .exact q2.elim
end
theorem Xu:JS (.type "zip") "__getattr__"=pure none:=by rw[JE,QR];kernel_rfl
theorem Xv:JS (.type "zip") "keys"=pure none:=by rw[JE,QR];kernel_rfl
theorem Xw:entryFor table "zip.__getattribute__"=some Builtin.«object.__getattribute__»:=entryFor_alias (id':="object.__getattribute__") (by kernel_rfl) Re Re (by kernel_rfl)
theorem Xx(a:Addr)(vs:Array Value)(u:Tok):Meets (Builtin.«object.__getattribute__» ⟨[.ref a,.str "keys" u],[]⟩) λA R s=>s.heap.get? a=some {cls:=.type "zip",dict:=none,data:=.fields vs,slots:=#[]}/\raisesAttr (.ref a) "keys" A R s:=Meets.of_wp λprog w A R s hs=>by
 obtain⟨hp,g,d,tk,os⟩:=s;obtain⟨hx,hs⟩:=hs;have hT:(⟨hp,g,d,tk,os⟩:W1).TypeIs (.ref a) "zip":=⟨_,hx,rfl⟩;have uh:=Xv;have Xy:(["__module__","__name__","__qualname__","__doc__","__annotations__"]:List Str).contains "keys"=false:=by decide+kernel
 unfold Builtin.«object.__getattribute__»;repeat(any_goals(first|assumption|wp_step))
 try simp only[Xy,Qe,if_false]
 repeat(any_goals(first|assumption|wp_step))
 exact wpAny_raiseAttrError hs.1 hs.2 (attrMsg_fits Re (by size_fits))
set_option maxRecDepth 8000 in theorem Xz{prog:Wg}{w:Wp}{A:Wh}{E:Value->W1->Prop}{vs:Array Value}{Q:Option Value->W1->Prop}(hx:s.heap.get? a=some {cls:=.type "zip",dict:=none,data:=.fields vs,slots:=#[]})(hA:A.handled=none)(h:∀h' tk,(∀b ob,s.heap.get? b=some ob->h'.get? b=some ob)->Q none {s with heap:=h',toks:=tk}):W4 (model prog w) A (getAttr? (.ref a) "keys") Q E s:=by
 obtain⟨hp,g,d,tk,os⟩:=s;have hT:∀jo,(⟨hp,g,d,jo,os⟩:W1).TypeIs (.ref a) "zip":=λ_=>⟨_,hx,rfl⟩;have f1:=sub_AttributeError;have f3:=F.slot_zip_getattribute.lookup;have f4:=F.slot_zip_getattribute.bind (.ref a);have f5:=Xu;unfold getAttr? getAttrBy? getAttrBy;repeat(any_goals(first|assumption|exact hT _|((with_reducible show W4 _ _ (call (Value.builtin "zip.__getattribute__") _ _) _ _ _);refine Jp F.slot_zip_getattribute (hT _) Xw (F.args_zip_getattribute_2 _ _) (Xx a vs _) ⟨hx,hA,λh' jo e jQ=>?_⟩)|wp_step))
 obtain⟨t',u',he⟩:=jQ.there;show W4 _ _ (Jd _ _ _ _ _ _ _) _ _ _;unfold Jd;repeat(any_goals(first|assumption|wp_step))
 exact h _ _ jQ.keeps
section
variable{S T:Sd}{xs ys:List V}{kps:List NE}
theorem XA(hu:A.in1.units+6<WD)(hA:A.handled=none)(h1:∀a∈S.fp,a<n)(h2:∀a∈T.fp,a<n)(gy:H dl=none)(XB:dl∉dj n)(hz:kps.length<Wa)(v1:∀H',(∀b o,H b=some o->H' b=some o)->j4 X.K H' xs S)(v2:∀H',(∀b o,H b=some o->H' b=some o)->j4 X.K H' ys T)(hK:∀kv∈kps,fW H m kv.1 kv.2.1)(hk:∀(i:Nat)kv,kps[i]?=some kv->xs[i]?=some kv.2.1/\ys[i]?=some kv.2.2)(hl:kps.length=xs.length\/kps.length<xs.length/\kps.length=ys.length)(fp:∀b∈dj n,∀H':Hp,H' b=none->fw X pins H' b)(fn:∀b∈dj n,H b=none)(hR:∀ep s',Inv X pins σ (upd H dl (.dN ep (putAllN kps []))) s'->R (.ok (.ret .none)) s'):∀(k i:Nat)(s:W1)(j:Int)(t0:Tok),kps.length-i=k->i<=kps.length->(∃ep,Inv X pins σ (upd H dl (.dN ep (putAllN (kps.take i) []))) s)->nq S T n i s.heap->QH (model X.prog X.w) A (.builtin "dict.update.loop" ⟨[.ref dl,.ref (n+4),.int j t0,.none],[]⟩) R s:=by
 have up:∀(ep:Nat)(acc:List NE)b o,H b=some o->upd H dl (.dN ep acc) b=some o:=λep acc b o e=>%[aI (eK e gy)|e];have ne:∀b∈dj n,b≠dl:=λb hb z=>XB (by rw[<-z];exact hb)
 have fo:∀(ep:Nat)(acc:List NE),∀b∈dj n,fw X pins (upd H dl (.dN ep acc)) b:=λep acc b hb=>fp b hb _ %[aI (ne b hb)|fn b hb];intro k;induction k with|zero=>
 intro i s j t0 hkk hi⟨ep,I⟩st;have e:i=kps.length:=by lia
 subst e;rw[Ja (We _)]at I;exact En (yE (A:=A.in1) I hA h1 h2 (v1 _ (up _ _)) (v2 _ (up _ _)) st hl λh' tk k=>⟨rfl,hR ep _ (Inv.oi (t':=tk) (dj n) I k (fo _ _))⟩)|succ k ih=>
  intro i s j t0 hkk hi⟨ep,I⟩st;have hJ:i<kps.length:=by lia
  obtain⟨hx,hy⟩:=hk i kps[i] #v[hJ];refine Em (yD (A:=A.in1) I hA h1 h2 (v1 _ (up _ _)) (v2 _ (up _ _)) st hx hy λu v h' tk r1 r2 cL hT k=>?_);have I':=Inv.oi (t':=tk) (dj n) I k (fo _ _);refine⟨s.heap.objs.size,u,v,0,rfl,hT,?_⟩;have hl:(putAllN (kps.take i) []).length<Wa:=by have h2:=Gp (kps.take i) [];simp at h2;lia
  have XD:∀p∈putAllN (kps.take i) [],fW (upd H dl (.dN ep (putAllN (kps.take i) []))) m p.1 p.2.1:=λp hp=>by
   rcases Gq _ _ p hp with z|⟨p',g_,e1,e2⟩;.cases z
   .rw[e1,e2];exact(hK p' (List.mem_of_mem_take (~~~g_))).mono (up _ _)
  refine V3 hu I' bL XD ((hK _ (WX hJ)).mono (up _ _)) hl r1 r2 λs2 fq I2 hs=>?_;rw[mj]at I2;have et:kps.take (i+1)=kps.take i++[kps[i]]:=by simp_all
  rw[show putN (putAllN (kps.take i) []) kps[i].1 kps[i].2.1 kps[i].2.2=putAllN (kps.take (i+1)) []by rw[et,V1]]at I2;refine ih (i+1) _ (j+1) _ Y' hJ ⟨fq,I2⟩ ?_;obtain⟨⟨v0,f,iG,hv⟩,hI,⟨a,b,hO⟩,q1,q2⟩:=cL;have kk:∀b∈dj n,∀o,h'.get? b=some o->s2.heap.get? b=some o:=λb hb o eo=>(hs b (ne b hb)).trans eo;exact⟨⟨v0,f,kk _ U' _ iG,hv⟩,kk _ U' _ hI,⟨a,b,kk _ U' _ hO⟩,Sd.eG q1 λo e=>kk _ U' o e,Sd.eG q2 λo e=>kk _ U' o e⟩
end
section
variable{a b:Expr}
theorem XE{ta:TA}(hu:X.A.units+64<WD)(hc:X.calm=true)(yG:Gl X "dict")(yH:X.mg "dict"=none)(hg:Gl X "zip")(hm:X.mg "zip"=none)(ha:PA X [a,b] ta)(hs:W7 [a,b] X.env=(false,eval a X.env)::W7 [b] X.env:=by rfl)(bu:(WO j7 (W7 [b] X.env)).any (·.1)=false:=by rfl)(j8:W7 [.Call (.Name "zip" nr) [a,b] [] j7] X.env=(false,eval (.Call (.Name "zip" nr) [a,b] [] j7) X.env)::W7 [] X.env:=by rfl):PE X (.Call (.Name "dict" pp) [.Call (.Name "zip" nr) [a,b] [] j7] [] pos) λσ H Q=>ta σ H λvs H1=>∃(b1 b2 m:Bool)(v w:V)(xs ys:List V)(kps:List NE),vs=[v,w]/\(∀H',(∀b o,H1 b=some o->H' b=some o)->fg X.K H' xs b1 v)/\(∀H',(∀b o,H1 b=some o->H' b=some o)->fg X.K H' ys b2 w)/\kps.length<Wa/\(∀kv∈kps,fW H1 m kv.1 kv.2.1)/\(∀(i:Nat)kv,kps[i]?=some kv->xs[i]?=some kv.2.1/\ys[i]?=some kv.2.2)/\(kps.length=xs.length\/kps.length<xs.length/\kps.length=ys.length)/\∀l ep,H1 l=none->Q (.ref l) (upd H1 l (.dN ep (putAllN kps []))):=by intro pins s0 σ H0 Q I0 h;refine Call_ (ko I0 yG yH boot_dict (Qa ?_ j8 rfl));rw[j8];refine Calls.spliced_cons (Call_ (ko I0 hg hm boot_zip (Qa (aP (ha j7 pins s0 σ H0 _ I0 h) λus s1 hh=>?_) hs bu)));obtain⟨vs,H,I1,r1,q1⟩:=hh;obtain⟨b1,b2,m,v,w,xs,ys,kps,rfl,hx,hy,hz,hK,hk,hl,q⟩:=q1;cases r1 with|cons r rr=>cases rr with|cons r' rr=>
   cases rr;obtain⟨t,rfl,p1,l1⟩:=I1.oM (hx H λ_ _ e=>e) r;obtain⟨u,rfl,p2,l2⟩:=I1.oM (hy H λ_ _ e=>e) r';refine yC p1 p2 λh' st oN kp=>Calls.spliced_nil ?_;have I:Inv X pins σ H {s1 with heap:=h'}:=I1.kept (t':=s1.toks) kp;generalize hn:s1.heap.objs.size=n at*;have nt:n+4<h'.objs.size:=Wi oN;have hA:X.A.handled=none:=I.ok.hd hc;refine callType_codes (Q₁:=λobj s₁=>obj=.ref h'.objs.size/\s₁={s1 with heap:=h'.push {cls:=.type "dict",data:=.dict #[]}}) F.kt_called_dict (F.kt_typeCall_dict_1 _) F.entry_dict_init (kt_code_dict_new _ ⟨rfl,rfl⟩) ?_;rintro obj s₁⟨rfl,rfl⟩;have gy:H h'.objs.size=none:=I.az.fresh (We _);have I2:Inv X pins σ (upd H h'.objs.size (.dN 0 [])) {s1 with heap:=h'.push {cls:=.type "dict",data:=.dict #[]}}:=I.laid (t':=s1.toks) (λ_ _ q=>W6 _ q) (We _) (Gk h' I.big);have qH:({s1 with heap:=h'.push {cls:=.type "dict",data:=.dict #[]}}:W1).TypeIs (.ref h'.objs.size) "dict":=⟨_,Wj _ rfl,rfl⟩;refine⟨qH,F.args_dict_init_2 _ _,?_⟩;unfold Builtin.«dict.__init__»;refine W0 ?_;unfold Builtin.Dict.selfAndRest;refine W0 (wpAny_notOrdered_dict qH ?_);show W4 _ _ (pure (h'.objs.size,[Value.ref (n+4)])) _ _ _;refine W5 ?_;show W4 _ _ (Jy "dict.__init__" h'.objs.size (.ref (n+4)) [] .none) _ _ _;unfold Jy;have e:=W6 {cls:=.type "dict",data:=.dict #[]} oN;refine W0 (Jc ⟨_,e,rfl⟩ ?_);rw[if_pos Z'];refine W0 (Xz e hA λh3 tk sS=>?_);rw[if_pos (show(none:Option Value).isNone=true from rfl)];refine W0 (QX ?_);have I3:Inv X pins σ (upd H h'.objs.size (.dN 0 [])) {s1 with heap:=h3,toks:=tk}:=I2.kept sS;have kk:∀b o,h'.get? b=some o->h3.get? b=some o:=λb o z=>sS b o (W6 _ z);refine W0 (wpAny_pyIter_zip (s:={s1 with heap:=h3,toks:=tk}) (kk _ _ oN) ?_);refine W5 ⟨JX oh _,?_⟩;have lt:∀b∈dj n,b<h'.objs.size:=λb hb=>by
    have le:∀k:Nat,k<=4->n+k<h'.objs.size:=λk hk=>QQ (U2 hk n) nt;rcases oK hb with e|e|e|e|e<;>subst e;.exact nt
    .exact le 2 Z'
    .exact le 3 Z'
    .exact le 0 Z'
    .exact le 1 Z'
   have ge:∀b∈dj n,s1.heap.objs.size<=b:=λb hb=>by subst hn;exact u7 I1 b hb
   refine XA (m:=m) (A:=X.A.in1) (R:=wants (λr s₂=>r=Value.none/\EP X pins σ Q (Value.ref h'.objs.size) s₂) X.xe) (X:=X) (pins:=pins) (σ:=σ) (H:=H) (S:=ie b1 v t) (T:=ie b2 w u) (n:=n) (xs:=xs) (ys:=ys) (kps:=kps) (by show X.A.units+1+1+6<WD;lia) hA l1 l2 gy (λz=>Q7 _ (lt _ z)) hz (λH' up=>(hx H' up).sd) (λH' up=>(hy H' up).sd) hK hk hl (λb hb H' e=>I1.jG (ge b hb) e) (λb hb=>I1.az.fresh (ge b hb)) (λep s' I'=>⟨rfl,.ref _,_,I',rfl,q _ _ gy⟩) kps.length 0 _ 0 _ (Nat.sub_zero _) (Qh _) ⟨0,I3⟩ ?_;obtain⟨⟨v0,f,iG,hv⟩,hI,⟨a,b,hO⟩,q1,q2⟩:=st;exact⟨⟨v0,f,kk _ _ iG,hv⟩,kk _ _ hI,⟨a,b,kk _ _ hO⟩,Sd.eG q1 (kk _),Sd.eG q2 (kk _)⟩
end
noncomputable def kX:List D->List D->Option (List (D×D))|x::xs,y::ys=>if(gI true x&&(cR 6 x).isSome)=true then(kX xs ys).map ((x,y)::.)else none|_,_=>some []
def oO(f g:DE):DE:=λδ=>(f δ).bind λx δ1=>(g δ1).bind λy δ2=>match j5 x.d,j5 y.d with
 |some xs,some ys=>match kX xs ys with|some ps=>if ps.length<Wa then .ok (.own (.dic (oG ps []))) δ2 else .stuck|none=>.stuck
 |_,_=>.stuck
theorem G1:∀{xs ys:List D}{vs us:List V}{ps:List (D×D)},kX xs ys=some ps->aF H O vs xs->aF H O us ys->∃kps,DN H O kps ps/\kps.length=ps.length/\(∀kv∈kps,fW H true kv.1 kv.2.1)/\(∀(i:Nat)kv,kps[i]?=some kv->vs[i]?=some kv.2.1/\us[i]?=some kv.2.2)/\(kps.length=vs.length\/kps.length<vs.length/\kps.length=us.length)
 |[],ys,vs,us,ps,h,r,_=>by simp only[kX]at h;cases h;have:=r.1;exact⟨[],.nil,rfl,λ_ e=>by simp at e,λi kv e=>by simp at e,.inl (~~~this.symm)⟩|_::_,[],vs,us,ps,h,r,r'=>by simp only[kX]at h;cases h;have h1:=r.1;have h2:=r'.1;exact⟨[],.nil,rfl,λ_ e=>by simp at e,λi kv e=>by simp at e,.inr ⟨by rw[h1];simp,by rw[h2];simp⟩⟩|x::xs,y::ys,[],us,ps,h,r,r'=>by have:=r.1;simp at this|x::xs,y::ys,v::vs,[],ps,h,r,r'=>by have:=r'.1;simp at this|x::xs,y::ys,v::vs,u::us,ps,h,r,r'=>by
  simp only[kX]at h;split at h
  .rename_i hk;rw[Wo]at hk;obtain⟨hm,hc⟩:=hk;obtain⟨kk,hc⟩:=Qy.mp hc;obtain⟨ps',hr,rfl⟩:=Ww.mp h;obtain⟨kps,h1,h2,h0,h3,h4⟩:=G1 hr r.tail r'.tail;refine⟨(kk,v,u)::kps,.cons r.head r'.head hc h1,#v[h2],λkv e=>?_,λi kv e=>?_,by simp;lia⟩
   .rcases Ws.mp e with e|e;.subst e;exact qZ hm hc r.head
    .exact h0 kv e
   .cases i with|zero=>simp at e;subst e;exact⟨rfl,rfl⟩|succ i=>exact h3 i kv (~~~e)
  .cases h
section
variable{a b:Expr}{f g:DE}
theorem XF(hu:X.A.units+64<WD)(hc:X.calm=true)(yG:Gl X "dict")(yH:X.mg "dict"=none)(hg:Gl X "zip")(hm:X.mg "zip"=none)(ha:SE X c a f)(hb:SE X c b g)(hs:W7 [a,b] X.env=(false,eval a X.env)::W7 [b] X.env:=by rfl)(lG:W7 [b] X.env=(false,eval b X.env)::W7 [] X.env:=by rfl)(bu:(WO j7 (W7 [b] X.env)).any (·.1)=false:=by rfl)(j8:W7 [.Call (.Name "zip" nr) [a,b] [] j7] X.env=(false,eval (.Call (.Name "zip" nr) [a,b] [] j7) X.env)::W7 [] X.env:=by rfl):SE X c (.Call (.Name "dict" pp) [.Call (.Name "zip" nr) [a,b] [] j7] [] pos) (oO f g):=PE.weak (XE hu hc yG yH hg hm (dU ha (dU hb fH lG) hs) hs bu j8) λσ H Q⟨δ,k,q⟩=>by
  unfold oO at q;rw[bh]at q;refine⟨δ,k,aN q λx δ1 q1 v H1 a1 r1=>⟨δ1,a1.ok,?_⟩⟩;rw[bh]at q1;refine aN q1 λy δ2 q2 u H2 a2 r2=>?_;have hx:Rep H2 (Av c σ δ2) v x.d:=Rep.dw r1.rep a2;have hy:Rep H2 (Av c σ δ2) u y.d:=r2.rep;split at q2
  .rename_i xs ys e1 e2;obtain⟨b1,vs,s1,w1,k1⟩:=hx.sd (K:=X.K) e1;obtain⟨b2,us,s2,w2,k2⟩:=hy.sd (K:=X.K) e2;split at q2
   .rename_i ps ep;split at q2;.rename_i hz;obtain⟨kps,h1,h2,h0,h3,h4⟩:=G1 ep w1 w2;refine⟨b1,b2,true,v,u,vs,us,kps,rfl,λH' up=>k1 H' λp o e _=>up p o e,λH' up=>k2 H' λp o e _=>up p o e,%[h2|hz],h0,h3,h4,λl ep hl=>?_⟩;have kk:=(a1.trans a2).ok;obtain⟨z1,z2,z3,z4,z5,z6,z7⟩:=aY.VW (ep:=ep) kk hl (DN.kM h1 .nil);cases z2;refine q2 (.ref l) _ ((a1.trans a2).trans (.alloc kk hl _)) ⟨l,rfl,z3,z4,z5,z6,?_⟩;cases z:H l with|none=>rfl|some o=>obtain⟨o',e⟩:=(a1.trans a2).there l o z;rw[hl]at e;cases e
    .exact q2.elim
   .exact q2.elim
  .exact q2.elim
end
open Classical in noncomputable def dDefX(j:Nat)(g:Addr->DS):DS:=λδ=>match g 0 ((gA δ).set j (some (.pure (.fn 0))))with|.ok (.ret (.pure r)) δ'=>if∀fa,g fa ((gA δ).set j (some (.pure (.fn fa))))=.ok (.ret (.pure r)) (δ'.set j (some (.pure (.fn fa))))then .ok (.ret (.pure r)) (δ'.set j none)else .stuck|.exc x δ'=>if∀fa,g fa ((gA δ).set j (some (.pure (.fn fa))))=.exc x (δ'.set j (some (.pure (.fn fa))))then .exc x (δ'.set j none)else .stuck|_=>.stuck
theorem XG{g:Addr->DS}{r:D}(h:∀fa,g fa ((gA δ).set j (some (.pure (.fn fa))))=.ok (.ret (.pure r)) (δ'.set j (some (.pure (.fn fa))))):dDefX j g δ=.ok (.ret (.pure r)) (δ'.set j none):=by unfold dDefX;rw[h 0];simp only[List.set_set];exact if_pos λfa=>by rw[h fa,List.set_set]
theorem XH{g:Addr->DS}{x:Xc}(h:∀fa,g fa ((gA δ).set j (some (.pure (.fn fa))))=.exc x (δ'.set j (some (.pure (.fn fa))))):dDefX j g δ=.exc x (δ'.set j none):=by unfold dDefX;rw[h 0];simp only[List.set_set];exact if_pos λfa=>by rw[h fa,List.set_set]
section
variable{gx:Xc->Dl->Prop}
theorem rq{y:S}(e:(δ'.set j none:Dl)[i]?=some (some y)):(δ'.set j (some (.pure (.fn fa))))[i]?=some (some y):=by
 rw[WL]at e⊢;split at e;.split at e<;>cases e
 .rename_i hh;rw[if_neg hh];exact e
theorem lO{b:Addr}(h:Own σ (δ'.set j none) b):Own σ (δ'.set j (some (.pure (.fn fa)))) b:=let⟨i,d,z1,z2⟩:=h;⟨i,d,rq z1,z2⟩
theorem u9{b:Addr}(h:Av c σ (δ'.set j none) b):Av {c with H₀:=H',xc:=gx} σ (δ'.set j (some (.pure (.fn fa)))) b:=h.elim .inl λz=>.inr (lO z)
theorem Ok.undef(kW:c.pin=[])(up:∀a o,c.H₀ a=some o->H' a=some o)(k:Ok {c with H₀:=H',xc:=gx} σ (δ'.set j (some (.pure (.fn fa)))) H2):Ok c σ (δ'.set j none) H2:=by
 have jz:∀a,¬c.I a:=λa⟨i,z⟩=>by rw[kW]at z;simp at z
 refine⟨λb o e n=>k.keep b o (up _ _ e) (jz b),k.bd,λb z=>absurd z (jz b),by have:=k.len;simpa using this,λi d e=>?_,λi d e=>?_,λi l b d d' e1 e2=>k.inj i l b d d' (rq e1) (rq e2),λp hp=>by rw[kW]at hp;simp at hp⟩;.obtain⟨v,h1,h2⟩:=k.slot i d (rq e);exact⟨v,h1,h2.aM λb z=>.inl (u9 z)⟩
 .obtain⟨b,h1,h2,h3,h4⟩:=k.own i d (rq e);refine⟨b,h1,h2.aM λb z=>.inl (u9 z),.inr ?_,h4⟩;have h3:H' b=none:=h3.elim (λz=>absurd z (jz b)) id;cases z:c.H₀ b with|none=>rfl|some o=>have:=up _ _ z;rw[h3]at this;cases this
end
section
variable{ts:List (Addr×Pos×Str)}{P:Addr}{q nm:Str}{rest:List Stmt}{g:Addr->DS}
theorem XI(ft:FT ts c)(oQ:(P,pos,q)∈ts)(kI:Np c [])(hx:iY X (wD X.mg c))(hq:Uj X.env nm nm=q)(yw:params.defaults=[])(yx:params.kw_defaults=[])(yy:annTrees params none X.env=[])(uV:closureFor scope X.env=pure cl)(uW:X.env.code=.ref code)(CH:Jv X.K code P=true)(yz:Wn≠P)(hB:X.base.BuiltinsAt X.mg P)(hN:X.N.Nodup)(hj:X.N[j]?=some nm)(hl:X.env.scope.names.lookup nm=some .local)(XJ:∀c' fa,FT ts c'->Np c' []->jZ c'.H₀ fa nm q params body scope cl->iY X (wD X.mg c')->dA X c' rest (g fa)):dA X c (.FunctionDef nm params body [] none [] scope none nm pos::rest) (dDefX j g):=by
 have kW:c.pin=[]:=EK kI;have jz:∀a,¬c.I a:=λa⟨i,z⟩=>by rw[kW]at z;simp at z
 intro pins s σ H D I⟨δ,k,qq⟩;refine wpAny_execs_cons (Xb I (ft.now k _ oQ) hq yw yx yy uV uW CH yz hB hN hj hl λfa H' s' I' up dO=>?_);have G2:∀a o,c.H₀ a=some o->H' a=some o:=λa o e=>up a o (k.keep a o e (jz a));have G3:j<δ.length:=by rw[k.len,I.len];exact(W8.mp hj).1
 have fP:∀(i:Nat)z,((gA δ).set j (some (S.pure (.fn fa))))[i]?=some (some (.own z))->False:=λi z e=>by
  rw[WL]at e;split at e;.split at e<;>cases e
  .exact Xk e
 let gx:Xc->Dl->Prop:=λx δ''=>∃δ1:Dl,δ''=δ1.set j (some (.pure (.fn fa)))/\XC c x (δ1.set j none);have XM:Ok {c with H₀:=H',xc:=gx} (σ.set j (some (.ref fa))) ((gA δ).set j (some (.pure (.fn fa)))) H':=by
  have sub:∀b,Av {c with H₀:=H',xc:=gx} (σ.set j (some (.ref fa))) ((gA δ).set j (some (.pure (.fn fa)))) b->c.B b:=λb z=>z.elim id λ⟨i,d,z1,_⟩=>(fP i d z1).elim;refine⟨λa o e _=>e,λa z=>(k.bd a z).elim λo e=>⟨o,up _ _ e⟩,λa z=>absurd z (jz a),#v[gA,k.len],λi d e=>?_,λi d e=>(fP i d e).elim,λi j a d d' e=>(fP i d e).elim,λp hp=>by rw[show({c with H₀:=H',xc:=gx}:Fc).pin=[]from kW]at hp;simp at hp⟩;by_cases hi:j=i;.subst hi;rw[Wl (by simpa[gA]using G3)]at e;cases e;exact⟨.ref fa,Wl (by rw[<-k.len];exact G3),.fn fa⟩
  .rw[W9 hi]at e;rw[W9 hi];rcases Xl e with e|e;.obtain⟨v,h1,h2⟩:=k.slot i d e;exact⟨v,h1,(h2.aM λb z=>.inl (.inl (sub b z))).keep λa o z _=>up a o z⟩
   .obtain⟨a,h1,h2,_,h4⟩:=k.own i d e;exact⟨.ref a,h1,((h2.aM λb z=>.inl (.inl (sub b z))).rep λz=>h4 (sub a z)).keep λa o z _=>up a o z⟩
 have jQ:iY X (wD X.mg {c with H₀:=H',xc:=gx}):=λps σ H s a C dx I1 cm hh=>by obtain⟨x,δ1,v,e1,k1,r1,e2,δ2,e3,e4⟩:=hh;subst e3;exact hx ps σ H s a C dx I1 cm ⟨x,_,v,e1,k1.undef kW G2,r1.aM λb z=>.inl (u9 z),e2,e4⟩
 refine XJ {c with H₀:=H',xc:=gx} fa ⟨λt ht=>up _ _ (ft.now k t ht),ft.n⟩ kI dO jQ pins s' _ H' D I' ⟨_,XM,?_⟩;unfold dDefX at qq;split at qq
 .rename_i r δ' e0;split at qq;.rename_i hall;unfold dJ;rw[hall fa];intro σ' H2 a v rv;have rv:Rep H2 (Av {c with H₀:=H',xc:=gx} σ' (δ'.set j (some (.pure (.fn fa))))) v r:=rv;refine qq σ' H2 ⟨a.ok.undef kW G2,λb o e _=>a.keep b o (up _ _ e) λ⟨i,d,z,_⟩=>fP i d z,λb z=>(a.own b (lO z)).elim (λ⟨i,d,z,_⟩=>(fP i d z).elim) λn=>.inr ?_,λb o e=>a.there b o (up _ _ e)⟩ v (rv.aM λb z=>.inl (u9 z));cases z:H b with|none=>rfl|some o=>have:=up _ _ z;rw[n]at this;cases this
  .exact qq.elim
 .rename_i x δ' e0;split at qq;.rename_i hall;unfold dJ;rw[hall fa];exact⟨δ',rfl,qq⟩
  .exact qq.elim
 .exact qq.elim
end
def yI(H H':Hp)(xs ys:List V)(as:List Addr):Prop:=(∀b o,H b=some o->H' b=some o)/\∀(i:Nat)a,as[i]?=some a->H a=none/\∃x y,xs[i]?=some x/\ys[i]?=some y/\H' a=some (.tup [x,y])
section
variable{S T:Sd}{xs ys:List V}{m n0:Nat}
theorem XN(hA:A.handled=none)(h1:∀a∈S.fp,a<n)(h2:∀a∈T.fp,a<n)(XO:L∉dj n)(hz:m<=Wa)(v1:∀H',(∀b o,H b=some o->H' b=some o)->j4 X.K H' xs S)(v2:∀H',(∀b o,H b=some o->H' b=some o)->j4 X.K H' ys T)(hx:∀i<m,∃x y,xs[i]?=some x/\ys[i]?=some y)(hl:m=xs.length\/m<xs.length/\m=ys.length)(fr:∀b,n0<=b->H b=none)(fo:∀(H':Hp)b,n0<=b->H' b=none->fw X pins H' b)(hn:∀b∈dj n,n0<=b)(hL:n0<=L)(hR:∀H' as s',yI H H' xs ys as->as.length=m->H' L=none->Inv X pins σ (upd H' L (.lst (as.map V.ref))) s'->R (.ok (.ret .none)) s'):∀(k i:Nat)(as:List Addr)(H':Hp)(s:W1),m-i=k->i<=m->as.length=i->yI H H' xs ys as->H' L=none->(∀b∈dj n,H' b=none)->Inv X pins σ (upd H' L (.lst (as.map V.ref))) s->nq S T n i s.heap->QH (model X.prog X.w) A (.builtin "list.extend.loop" ⟨[.ref L,.ref (n+4),.none],[]⟩) R s:=by
 have ne:∀b∈dj n,b≠L:=λb hb z=>XO (by rw[<-z];exact hb);intro k;induction k with|zero=>
 intro i as H' s hk hi el P hL' hf I st;have up:=P.1;have rz:∀b o,H b=some o->upd H' L (.lst (as.map V.ref)) b=some o:=λb o e=>%[aI (eK e (fr L hL))|up b o e];have e:i=m:=by lia
 subst e;refine U5 F.entry_extend_loop ?_;rw[Around.under_plainId U3 _];show W4 _ A.in1 (Jk (.ref (n+4))>>=_) _ _ _;refine W0 (yE (A:=A.in1) I hA h1 h2 (v1 _ rz) (v2 _ rz) st hl λh' tk k2=>W5 (hR H' as _ P el hL' (Inv.oi (t':=tk) (dj n) I k2 λb hb=>fo _ b (hn b hb) %[aI (ne b hb)|hf b hb])))|succ k ih=>
  intro i as H' s hk hi el P hL' hf I st;have up:=P.1;have rz:∀b o,H b=some o->upd H' L (.lst (as.map V.ref)) b=some o:=λb o e=>%[aI (eK e (fr L hL))|up b o e];obtain⟨x,y,ex,ey⟩:=hx i Y';refine U5 F.entry_extend_loop ?_;rw[Around.under_plainId U3 _];show W4 _ A.in1 (Jk (.ref (n+4))>>=_) _ _ _;refine W0 (yD (A:=A.in1) I hA h1 h2 (v1 _ rz) (v2 _ rz) st ex ey λu v h' tk r1 r2 cL hT k2=>?_);have XQ:∃o,s.heap.get? L=some o:=let⟨_,_,_,e,_⟩:=I.lst bL;⟨_,e⟩;have lL:L<s.heap.objs.size:=Wi XQ.choose_spec;have zl:∀b∈dj n,b≠s.heap.objs.size:=λb hb=>by
   have h4:n+4<s.heap.objs.size:=by obtain⟨⟨v0,f,iG,_⟩,_⟩:=st;exact Wi iG
   have le:∀j:Nat,j<=4->n+j<s.heap.objs.size:=λj hj=>QQ (U2 hj n) h4;rcases oK hb with e|e|e|e|e<;>subst e<;>first|exact WA h4|exact WA (le 2 Z')|exact WA (le 3 Z')|exact WA (le 0 Z')|exact WA (le 1 Z')
  have I1:=Inv.oi (t':=tk) (dj n) I k2 λb hb=>fo _ b (hn b hb) %[aI (ne b hb)|hf b hb];have yJ:upd H' L (.lst (as.map V.ref)) s.heap.objs.size=none:=I.az.fresh (We _);generalize s.heap.objs.size=a at*;have aL:a≠L:=Qp lL;have G4:n0<=a:=QV (QQ hL lL);have ha:H' a=none:=by rw[aI aL]at yJ;exact yJ
  have I2:=I1.adopt (b:=a) (o:=.tup [x,y]) (fo _ a G4 yJ) ⟨by simp only[Q4,Up];rw[Qf];decide,[u,v],.cons r1 (.cons r2 .nil),⟨0,hT⟩⟩;have ec:upd (upd H' L (.lst (as.map V.ref))) a (.tup [x,y])=upd (upd H' a (.tup [x,y])) L (.lst (as.map V.ref)):=by
   funext b;by_cases e1:b=a;.subst e1;rw[bL,aI aL,bL]
   .by_cases e2:b=L;.subst e2;rw[aI e1,bL,bL]
    .rw[aI e1,aI e2,aI e2,aI e1]
  rw[ec]at I2;obtain⟨its,nn,r,ho,_⟩:=I2.lst bL;have hlen:its.length=i:=by rw[<-r.length,Wv,el]
  have I3:=I2.pR (t':=tk) (f:=(·.push (Value.ref a))) (its':=its++[.ref a]) bL ho U' (Vals.append r (show Vals [V.ref a] [Value.ref a]from .cons rfl .nil)) (by simp[el];lia);rw[mj,show as.map V.ref++[V.ref a]=(as++[a]).map V.ref by simp]at I3;have nh:∀b o,H' b=some o->upd H' a (.tup [x,y]) b=some o:=λb o e=>%[aI (eK e ha)|e];refine W0 (wpAny_updateSeq ho rfl ?_ (by simp[hlen];lia) (by simp[hlen];lia));refine W5 ⟨JX U3 _,ih (i+1) (as++[a]) (upd H' a (.tup [x,y])) _ Y' Y' #v[el] ⟨λb o e=>nh b o (up b o e),λj c e=>?_⟩ %[aI aL.symm|hL'] (λb hb=>by rw[aI (zl b hb)];exact hf b hb) I3 ?_⟩
  .rw[List.getElem?_append]at e;split at e;.obtain⟨g1,x',y',g2,g3,g4⟩:=P.2 j c e;exact⟨g1,x',y',g2,g3,nh _ _ g4⟩
   .have ej:j=i:=by have:=(W8.mp e).1;simp at this;lia
    subst ej;rw[el,Nat.sub_self]at e;cases e;exact⟨fr a G4,x,y,ex,ey,bL⟩
  .obtain⟨⟨v0,f,iG,hv⟩,hI,⟨a',b',hO⟩,q1,q2⟩:=cL;have kk:∀b∈dj n,∀o,h'.get? b=some o->(h'.update L (Obj.mapSeq (·.push (Value.ref a)))).get? b=some o:=λb hb o eo=>(WN _ _ (Ne.symm (ne b hb))).trans eo;exact⟨⟨v0,f,kk _ U' _ iG,hv⟩,kk _ U' _ hI,⟨a',b',kk _ U' _ hO⟩,Sd.eG q1 λo e=>kk _ U' o e,Sd.eG q2 λo e=>kk _ U' o e⟩
end
section
variable{a b:Expr}
theorem XR{ta:TA}(hc:X.calm=true)(lU:Gl X "list")(yK:X.mg "list"=none)(hg:Gl X "zip")(hm:X.mg "zip"=none)(ha:PA X [a,b] ta)(hs:W7 [a,b] X.env=(false,eval a X.env)::W7 [b] X.env:=by rfl)(bu:(WO pos (W7 [b] X.env)).any (·.1)=false:=by rfl)(j8:W7 [.Call (.Name "zip" pp) [a,b] [] pos] X.env=(false,eval (.Call (.Name "zip" pp) [a,b] [] pos) X.env)::W7 [] X.env:=by rfl):PE X (.Call (.Name "list" qU) [.Call (.Name "zip" pp) [a,b] [] pos] [] qV) λσ H Q=>ta σ H λvs H1=>∃(b1 b2:Bool)(v w:V)(xs ys:List V)(m:Nat),vs=[v,w]/\(∀H',(∀b o,H1 b=some o->H' b=some o)->fg X.K H' xs b1 v)/\(∀H',(∀b o,H1 b=some o->H' b=some o)->fg X.K H' ys b2 w)/\m<=Wa/\(∀i<m,∃x y,xs[i]?=some x/\ys[i]?=some y)/\(m=xs.length\/m<xs.length/\m=ys.length)/\∀H2 l as,yI H1 H2 xs ys as->as.length=m->H1 l=none->H2 l=none->Q (.ref l) (upd H2 l (.lst (as.map V.ref))):=by intro pins s0 σ H0 Q I0 h;refine Call_ (ko I0 lU yK PyProof.Rows.boot_list (Qa ?_ j8 rfl));rw[j8];refine Calls.spliced_cons (Call_ (ko I0 hg hm boot_zip (Qa (aP (ha pos pins s0 σ H0 _ I0 h) λus s1 hh=>?_) hs bu)));obtain⟨vs,H,I1,r1,q1⟩:=hh;obtain⟨b1,b2,v,w,xs,ys,m,rfl,hx,hy,hz,hk,hl,q⟩:=q1;cases r1 with|cons r rr=>cases rr with|cons r' rr=>
   cases rr;obtain⟨t,rfl,p1,l1⟩:=I1.oM (hx H λ_ _ e=>e) r;obtain⟨u,rfl,p2,l2⟩:=I1.oM (hy H λ_ _ e=>e) r';refine yC p1 p2 λh' st oN kp=>Calls.spliced_nil ?_;have I:Inv X pins σ H {s1 with heap:=h'}:=I1.kept (t':=s1.toks) kp;generalize hn:s1.heap.objs.size=n at*;have hA:X.A.handled=none:=I.ok.hd hc;have nt:n+4<h'.objs.size:=Wi oN;have fr:∀b,n<=b->H b=none:=λb hb=>I1.az.fresh %[hn|hb];have fo:∀(H':Hp)b,n<=b->H' b=none->fw X pins H' b:=λH' b hb e=>I1.jG %[hn|hb] e;have ge:∀b∈dj n,n<=b:=λb hb=>by subst hn;exact u7 I1 b hb
   have lt:h'.objs.size∉dj n:=λhb=>by
    have le:∀j:Nat,j<=4->n+j<h'.objs.size:=λj hj=>QQ (U2 hj n) nt;rcases oK hb with e|e|e|e|e;.exact Qp nt e
    .exact Qp (le 2 Z') e
    .exact Qp (le 3 Z') e
    .exact Qp (le 0 Z') e
    .exact Qp (le 1 Z') e
   have nL:n<=h'.objs.size:=QV (QQ (JW n 4) nt);refine callType_codes (Q₁:=λobj s₁=>obj=.ref h'.objs.size/\s₁={s1 with heap:=h'.push {cls:=.type "list",data:=.seq #[]}}) F.called_list (F.typeCall_list_1 _) F.entry_list_init (code_list_new _ ⟨rfl,rfl⟩) ?_;rintro obj s₁⟨rfl,rfl⟩;have hS:(h'.push {cls:=.type "list",data:=.seq #[]}).get? h'.objs.size=some {cls:=.type "list",data:=.seq #[]}:=Wj _ rfl;have I2:Inv X pins σ (upd H h'.objs.size (.lst [])) {s1 with heap:=h'.push {cls:=.type "list",data:=.seq #[]}}:=I.B_ (t':=s1.toks) (its:=[]) .nil U';refine⟨⟨_,hS,rfl⟩,F.args_list_init_2 _ _,?_⟩;have G5:=W6 {cls:=.type "list",data:=.seq #[]} oN;have hT:({s1 with heap:=h'.push {cls:=.type "list",data:=.seq #[]}}:W1).TypeIs (.ref (n+4)) "zip":=⟨_,G5,rfl⟩;generalize hL:h'.objs.size=L at*;show W4 _ _ (do let old<-Builtin.List.listItems (.ref L);Builtin.List.listUpdate (.ref L) λ_=>#[];letGo old.toList.reverse;Builtin.List.listExtendWith (.ref L) (.ref (n+4)) .none) _ _ _;refine W0 ?_;unfold Builtin.List.listItems;refine W0 (Ql hS rfl (W5 ?_));show W4 _ _ (updateSeq L (λ_=>#[])>>=λ_=>letGo (#[]:Array Value).toList.reverse>>=λ_=>Builtin.List.listExtendWith (.ref L) (.ref (n+4)) .none) _ _ _;refine W0 (wpAny_updateSeq hS rfl ?_);have I3:=I2.pR (t':=s1.toks) (f:=λ_=>#[]) (its:=[]) (its':=[]) (ys:=[]) bL hS rfl .nil U';rw[mj]at I3;refine W0 (wpAny_letGo ?_);unfold Builtin.List.listExtendWith;have iD:∀{hh:Heap}{f:Array Value->Array Value}{b o},b≠L->hh.get? b=some o->(hh.update L (Obj.mapSeq f)).get? b=some o:=λhb e=>(WN _ _ (Ne.symm hb)).trans e;have zL:n+4≠L:=WA nt;have gn:=iD (f:=λ_=>#[]) zL G5;have yL:=Q3 (Obj.mapSeq λ_=>(#[]:Array Value)) hS rfl;refine W0 (Jc (T:="zip") ⟨_,gn,rfl⟩ ?_);have h1:Builtin.List.listSameRef (.ref L) (.ref (n+4))=false:=#v[Builtin.List.listSameRef,Ne.symm zL];have h2:(Value.type "zip"==Value.type "list")=false:=by decide
   have h3:(Value.type "zip"==Value.type "tuple")=false:=by decide
   simp only[h1,h2,h3,Bool.or_false,Qe,if_false];refine W0 (wpAny_pyIter_zip gn ?_);refine W0 (WB ?_);unfold Builtin.List.listLengthHint;refine W0 (wpAny_specialOf ⟨_,gn,rfl⟩ UG ?_);show W4 _ _ (specialOf (Value.ref (n+4)) (Str.ofString "__length_hint__")>>=_) _ _ _;refine W0 (wpAny_specialOf ⟨_,gn,rfl⟩ UH ?_);refine W5 ?_;show W4 _ _ (rule "list.extend.makes-room">>=λ_=>Builtin.List.listTouch (.ref L)>>=λ_=>again (.builtin "list.extend.loop" ⟨[.ref L,.ref (n+4),.none],[]⟩)) _ _ _;refine W0 (QX ?_);refine W0 ?_;show W4 _ _ (updateSeq L (·.push .none)>>=λ_=>updateSeq L (·.pop)) _ _ _;refine W0 (wpAny_updateSeq yL rfl ?_);have G6:=Q3 (Obj.mapSeq (·.push Value.none)) yL rfl;refine wpAny_updateSeq (hz:=by seq_fits) G6 rfl ?_;have I4:=I3.pR (t':=s1.toks) (f:=(·.push Value.none)) (its:=[]) (its':=[Value.none]) (ys:=[V.aJ]) bL yL rfl (.cons rfl .nil) (by rw[Qf];decide);rw[mj]at I4;have I5:=I4.pR (t':=s1.toks) (f:=(·.pop)) (its:=[Value.none]) (its':=[]) (ys:=[]) bL G6 rfl .nil U';rw[mj]at I5;refine W5 ⟨JX U3 _,?_⟩;refine XN (A:=X.A.in1) (R:=wants (λr s₂=>r=Value.none/\EP X pins σ Q (Value.ref L) s₂) X.xe) (X:=X) (pins:=pins) (σ:=σ) (H:=H) (S:=ie b1 v t) (T:=ie b2 w u) (n:=n) (n0:=n) (m:=m) (L:=L) (xs:=xs) (ys:=ys) hA l1 l2 lt hz (λH' up=>(hx H' up).sd) (λH' up=>(hy H' up).sd) hk hl fr fo ge nL (λH' as s' P e1 e2 I'=>⟨rfl,.ref _,_,I',rfl,q H' L as P e1 (fr L nL) e2⟩) m 0 [] H _ (Nat.sub_zero _) (Qh _) rfl ⟨λ_ _ e=>e,λi a e=>by simp at e⟩ (fr L nL) (λb hb=>fr b (ge b hb)) I5 ?_;have kk:∀b∈dj n,∀o,h'.get? b=some o->(((h'.push {cls:=.type "list",data:=.seq #[]}).update L (Obj.mapSeq λ_=>#[])).update L (Obj.mapSeq (·.push Value.none))|>.update L (Obj.mapSeq (·.pop))).get? b=some o:=λb hb o e=>by have hb:b≠L:=λz=>lt (z▸hb);exact iD hb (iD hb (iD hb (W6 _ e)))
   obtain⟨⟨v0,f,iG,hv⟩,hI,⟨a,b,hO⟩,q1,q2⟩:=st;exact⟨⟨v0,f,kk _ U' _ iG,hv⟩,kk _ U' _ hI,⟨a,b,kk _ U' _ hO⟩,Sd.eG q1 λo e=>kk _ U' o e,Sd.eG q2 λo e=>kk _ U' o e⟩
end
def kY(f g:DE):DE:=λδ=>(f δ).bind λx δ1=>(g δ1).bind λy δ2=>match j5 x.d,j5 y.d with|some xs,some ys=>if xs.length=ys.length/\xs.length<=1000 then .ok (.own (.lst (gz xs ys))) δ2 else .stuck|_,_=>.stuck
section
variable{a b:Expr}{f g:DE}
theorem XS(hc:X.calm=true)(lU:Gl X "list")(yK:X.mg "list"=none)(hg:Gl X "zip")(hm:X.mg "zip"=none)(ha:SE X c a f)(hb:SE X c b g)(hs:W7 [a,b] X.env=(false,eval a X.env)::W7 [b] X.env:=by rfl)(lG:W7 [b] X.env=(false,eval b X.env)::W7 [] X.env:=by rfl)(bu:(WO pos (W7 [b] X.env)).any (·.1)=false:=by rfl)(j8:W7 [.Call (.Name "zip" pp) [a,b] [] pos] X.env=(false,eval (.Call (.Name "zip" pp) [a,b] [] pos) X.env)::W7 [] X.env:=by rfl):SE X c (.Call (.Name "list" qU) [.Call (.Name "zip" pp) [a,b] [] pos] [] qV) (kY f g):=PE.weak (XR hc lU yK hg hm (dU ha (dU hb fH lG) hs) hs bu j8) λσ H Q⟨δ,k,q⟩=>by
  unfold kY at q;rw[bh]at q;refine⟨δ,k,aN q λx δ1 q1 v H1 a1 r1=>⟨δ1,a1.ok,?_⟩⟩;rw[bh]at q1;refine aN q1 λy δ2 q2 u H2 a2 r2=>?_;have hx:Rep H2 (Av c σ δ2) v x.d:=Rep.dw r1.rep a2;have hy:Rep H2 (Av c σ δ2) u y.d:=r2.rep;split at q2
  .rename_i xs ys e1 e2;obtain⟨b1,vs,s1,w1,k1⟩:=hx.sd (K:=X.K) e1;obtain⟨b2,us,s2,w2,k2⟩:=hy.sd (K:=X.K) e2;split at q2
   .rename_i hl;have z1:=w1.1;have z2:=w2.1;refine⟨b1,b2,v,u,vs,us,xs.length,rfl,λH' up=>k1 H' λp o e _=>up p o e,λH' up=>k2 H' λp o e _=>up p o e,by rw[Qf];lia,λi hi=>⟨vs[i],us[i],#v[z1,hi],by simp[z2,<-hl.1,hi]⟩,.inl z1.symm,λH3 l as P el hl0 G7=>?_⟩;have kk:=(a1.trans a2).ok;have a3:aK c σ δ2 H2 σ δ2 H3:=aK.V_ kk P.1;have rr:aF H3 (Av c σ δ2) (as.map V.ref) (gz xs ys):=by refine⟨by simp[gz,el];lia,λi p d h1 h2=>?_⟩;rw[Wu]at h1;obtain⟨d1,d2,g1,g2,rfl⟩:=EZ h2;obtain⟨a,ea,rfl⟩:=Ww.mp h1;obtain⟨n0,x',y',f1,f2,f3⟩:=P.2 i a ea;refine .tup (λz=>kk.gZ n0 z) f3 rfl λj p d h1 h2=>?_;.have rx:=Rep.dw (w1.2 i x' d1 f1 g1) a3;have ry:=Rep.dw (w2.2 i y' d2 f2 g2) a3;match j with|0=>cases h1;cases h2;exact rx|1=>cases h1;cases h2;exact ry|j+2=>cases h1
    exact q2 _ _ ((a1.trans a2).trans (a3.trans (.alloc a3.ok G7 _))) ((aY.nO a3.ok rr G7).back ((a1.trans a2).trans a3))
   .exact q2.elim
  .exact q2.elim
end
theorem gR{v}(e:b (aX n ss)=.ok (.ret v) δ1)(h1:bO np 0 ss=true)(h2:bj 0 ss δ1=some aH):cf np n b ss=some (v,aH):=by unfold cf eC;rw[if_pos h1,e];simp[bW,h2]
theorem bF{x a}(h:b δ1=x)(e:a δ=.ok .next δ1):au a b δ=x:=by unfold au;rw[e];exact h
theorem rA{x a}(h:au b r δ1=x)(e:t δ=.ok false δ1):au (ck t a b) r δ=x:=by rw[<-h];unfold au ck;rw[e];rfl
theorem rC{x}(h:r δ=x):au cA r δ=x:=h
theorem ai(i j:Int):a7 (.int i) (.int j)=some (.pure (.int (i+j))):=rfl
theorem XT(i j:Int):qg (.int i) (.int j)=some (.pure (.int (i-j))):=rfl
theorem rD(xs:List D):cq (.lst xs)=some (.pure (.tup xs)):=rfl
theorem kZ(a b:D):ao (.tup [a,b]) (.int 0)=some (.pure a)/\ao (.tup [a,b]) (.int 1)=some (.pure b):=⟨rfl,rfl⟩
theorem gJ(a b c:D):ao (.tup [a,b,c]) (.int 0)=some (.pure a)/\ao (.tup [a,b,c]) (.int 1)=some (.pure b)/\ao (.tup [a,b,c]) (.int 2)=some (.pure c):=⟨rfl,rfl,rfl⟩
theorem XU(f:DE)(δ:Dl):aS f δ=(f δ).bind λr δ1=>match r.d with|.lst ds=>.ok ds δ1|.tup ds=>.ok ds δ1|.str x=>.ok (x.map λn=>.str [n]) δ1|_=>.stuck:=id rfl
theorem oR{p:Prop}(h:p:=by simp[*,aX,aD,aw,ax,ae,aO,dI,de,cu,aa,aj,bV,aQ,cn,S.d,aA,bo,bX,bH,bI,bD,aR,aC,kC,f_,nU,ai,XT,rD,bG,fN,oj,eY,fM,eW,putL,lJ,bC,dC,kL,XU,qf,kZ,gJ,-WC,-Um,-List.map_drop]<;>first|rfl|(refine⟨?_,?_⟩<;>rfl)|(refine⟨⟨?_,?_⟩,?_⟩<;>rfl)):p:=h
theorem nm{b:DS}{δ0:Dl}{y:Rs Fl}(h:b δ0=y):∃δ,δ0=δ/\b δ=y:=⟨_,rfl,h⟩
theorem cM{A:Type}(f F:A->D){as:List A}{it:DI}{g:DG}{t:DT}{δ1:Dl}(e:it δ=.ok (as.map f) δ1)(hl:as.length<=1000)(hs:∀a∈as,∃δ1' δ2 x δ3,g (.pure (f a)) (bC cs δ1)=some δ1'/\t δ1'=.ok true δ2/\el δ2=.ok x δ3/\bC cs δ3=bC cs δ1/\x.d=F a)(no:cs.any (bH δ1)=false:=by rfl):bR cs it g t el δ=.ok (.own (.lst (as.map F))) (dC cs δ1 (bC cs δ1)):=by have c:=m7 (cs:=cs) (g:=g) (t:=t) (el:=el) f F (bC cs δ1) as [] (by have:PySem.sizeLine=16777216:=rfl;simp;lia) hs;unfold bR;rw[e];show(if _ then _ else _)=_;rw[if_neg (by rw[no];decide),c];rfl
end Lake
namespace Lake.K68
open PySem.W(nsIn keepIn codeIn findIn mroIn kitOne mg_of)
open PySem PySem.Spec PyProof.Rows Lake
abbrev dY:Tx:=[97,98,99,100,101,102,103,104,105,106,107,108,109,110,111,112,113,114,115,116,117,118,119,120,121,122]
variable{A B BB P1 P2 X pd q1 q2 ru y:D}{GD GS GT GU:DF}{GN GR:QM->(D->Option D)->List D->Option D}{K:W2}{N:List Str}{P:Wg}{a h' i n t w w':Nat}{al:Nat->Prop}{base:Heap}{cd:Value}{cl:List (Str×Addr)}{cs:List (Nat×List Tx)}{ds r:List D}{el:DE}{fa gq:Addr}{g:DG}{lf np ts:List Nat}{mg:Str->Option Value}{mm:Int}{o:Option (Nat ⊕ D)}{o7:Option S}{outer:List Env}{ps:List (Nat×Nat)}{s7 v:S}{x:List Tx}{z:Tx}{δ δ1 δ2:Dl}
theorem oS{a b:Prop}(h:a\/b:=by first|exact Or.inl rfl|exact Or.inr rfl):a\/b:=h
def top(i:Nat):Stmt:=PySem.Challenge.pw_tilegrow_k68_laid_over_one_another.main.body.getD i (.Pass ⟨0,0,0,0⟩)
abbrev G8:Stmt:=top 29
abbrev G9:Stmt:=top 31
abbrev G_:Stmt:=top 30
abbrev Hb:Stmt:=top 32
abbrev Hc:Stmt:=top 35
abbrev Hd:Stmt:=top 34
abbrev He:Stmt:=top 36
abbrev Hf:Stmt:=top 38
abbrev Hg:Stmt:=top 39
abbrev Hh:Stmt:=top 40
abbrev Hi:Stmt:=top 41
abbrev Hj:Stmt:=top 18
abbrev Hk:Stmt:=top 13
abbrev Hl:Stmt:=top 14
abbrev Hm:Stmt:=top 15
abbrev Ho:Stmt:=top 16
abbrev Hq:Stmt:=top 17
abbrev Hr:Stmt:=top 22
abbrev Ht:Stmt:=top 23
abbrev yM:Stmt:=top 20
abbrev yN:Stmt:=top 26
abbrev j9:Stmt:=top 27
abbrev Hu:Stmt:=top 37
abbrev yO:Stmt:=top 33
abbrev yP:Stmt:=top 44
abbrev Hv:Stmt:=top 42
abbrev Hw:Stmt:=top 43
abbrev k6:Stmt:=top 45
abbrev u_:Stmt:=(cZ j9).getD 3 (.Pass ⟨0,0,0,0⟩)
def l8:Pos:=match u_ with|.FunctionDef _ _ _ _ _ _ _ _ _ p=>p|_=>⟨0,0,0,0⟩
def j_:Str:=("laid_over":Str)++".<locals>."++"parts_of"
abbrev rE:Stmt:=(TJ (top 10)).getD 0 (.Pass ⟨0,0,0,0⟩)
theorem XW:eL ["self","many","most"] ["self","many","most"] (aV rE):=scc
abbrev ys:List Tx:=[[85,110,108,105,107,101],[84,111,111,71,114,101,97,116]]
def gK(ce:Tx->Nat):Prop:=∀x∈ys,∀y∈ys,ce x=ce y->x=y
section
variable(ce:Tx->Nat)
structure Txt(K:W2)(mg:Str->Option Value):Prop where
 rF:mg "ValueError"=none
 rG:mg "bool"=none
 oU:mg "dict"=none
 oV:mg "int"=none
 gp:mg "isinstance"=none
 rH:mg "len"=none
 rJ:mg "list"=none
 rK:mg "max"=none
 rL:mg "range"=none
 oW:mg "sorted"=none
 oX:mg "tuple"=none
 nu:mg "zip"=none
 ty_bool:kF K "bool"ty_int:kF K "int"ty_tuple:kF K "tuple"rM:∃t,mg "MOST_TILES"=some (.int 64 t)rN:∃t,mg "NAMES"=some (.str (toS dY) t)XY:mg "FloorError"=some (.ref (ce [70,108,111,111,114,69,114,114,111,114]))XZ:mg "NoFloor"=some (.ref (ce [78,111,70,108,111,111,114]))X0:mg "NoPlace"=some (.ref (ce [78,111,80,108,97,99,101]))X1:mg "NoNumber"=some (.ref (ce [78,111,78,117,109,98,101,114]))X2:mg "NoRow"=some (.ref (ce [78,111,82,111,119]))Hx:mg "Unlike"=some (.ref (ce [85,110,108,105,107,101]))X3:mg "NoTile"=some (.ref (ce [78,111,84,105,108,101]))X4:mg "NoRule"=some (.ref (ce [78,111,82,117,108,101]))X5:mg "NoText"=some (.ref (ce [78,111,84,101,120,116]))Hy:mg "TooGreat"=some (.ref (ce [84,111,111,71,114,101,97,116]))X6:jS K (ce [70,108,111,111,114,69,114,114,111,114])X7:jS K (ce [85,110,108,105,107,101])X8:IsT K ce ys (.ref (ce [78,111,70,108,111,111,114])) λz=>z==[78,111,70,108,111,111,114]X9:IsT K ce ys (.ref (ce [78,111,80,108,97,99,101])) λz=>z==[78,111,80,108,97,99,101]X_:IsT K ce ys (.ref (ce [78,111,78,117,109,98,101,114])) λz=>z==[78,111,78,117,109,98,101,114]Ya:IsT K ce ys (.ref (ce [78,111,82,111,119])) λz=>z==[78,111,82,111,119]Yb:IsT K ce ys (.ref (ce [85,110,108,105,107,101])) λz=>z==[85,110,108,105,107,101]Yc:IsT K ce ys (.ref (ce [78,111,84,105,108,101])) λz=>z==[78,111,84,105,108,101]Yd:IsT K ce ys (.ref (ce [78,111,82,117,108,101])) λz=>z==[78,111,82,117,108,101]Ye:IsT K ce ys (.ref (ce [78,111,84,101,120,116])) λz=>z==[78,111,84,101,120,116]Yf:IsT K ce ys (.ref (ce [84,111,111,71,114,101,97,116])) λz=>z==[84,111,111,71,114,101,97,116]Yg:uy K ce ys "many"Yh:uy K ce ys "most"Yi:IsT K ce ys (.type "ValueError") λ_=>true
 Yj:∀y∈ys,mg (toS y)=some (.ref (ce y))/\mroIn K (ce y) (.ref (ce [70,108,111,111,114,69,114,114,111,114]))=some true
end
abbrev Hz:DS:=au (ck (aD (ae iy 1 (ah (aC bB (aj 0))))) (bt (ae ao 0 (aj 1))) cA) (bt (eD (.int 0)))
def oY:DF:=cf [] 2 Hz
abbrev HA:DS:=au (aw (qk (aa 0) (ax qg (eD (.int 0)) (aj 0))) (ag [] 1)) (bt (cj (ak (aa 1) (ak (aC mJ (ah (ae w8 1 (ah (ax tY (eD (.int 10)) (ah (eD (.int 18)))))))) (ak (ae fU 1 (ah (eD (.int 1000003)))) ay)))))
def ny:DF:=cf [] 2 HA
abbrev HB:DS:=au (aw (ax fU (ae a7 0 (ah (eD (.int 7919)))) (ah (eD (.int 2147483647)))) (ag [] 0)) (bt (ax fU (ax a7 (ax a7 (ae cS 0 (aj 0)) (ah (ax cS (eD (.int 48271)) (aj 0)))) (ah (eD (.int 12345)))) (ah (eD (.int 2147483629)))))
def oZ:DF:=cf [] 1 HB
abbrev HC:DS:=au (ck (aD (ax cN (ae ao 0 (ah (eD (.int 1)))) (ah (eD (.int 1))))) (au (aw (ax fU (ae ao 0 (ah (eD (.int 0)))) (aj 1)) (ag [0] 2)) (au (lJ 0 (eD (.int 0)) (ax nW (ae ao 0 (ah (eD (.int 0)))) (aj 1))) (bt (aa 2)))) cA) (au (lJ 0 (eD (.int 2)) (aA oZ [.val (ax a7 (aA oZ [.val (ae ao 0 (ah (eD (.int 2))))]) (ah (eD (.int 7))))])) (bt (ax fU (ax nW (ae ao 0 (ah (eD (.int 2)))) (ah (eD (.int 64)))) (aj 1))))
def cF:DF:=cf [0] 3 HC
abbrev HD:DS:=au (aw (ax a7 (eD (.int 1)) (ah (aA cF [.io 0,.val (eD (.int 3))]))) (ag [0] 1)) (au (aw (ax a7 (eD (.int 1)) (ah (aA cF [.io 0,.val (eD (.int 3))]))) (ag [0] 2)) (au (ck (aD (ax cN (aA cF [.io 0,.val (eD (.int 8))]) (ah (eD (.int 0))))) (aw (ax ao (kK [.tup [.int 4,.int 1],.tup [.int 1,.int 4],.tup [.int 4,.int 4],.tup [.int 4,.int 3],.tup [.int 1,.int 2],.tup [.int 2,.int 1]]) (ah (aA cF [.io 0,.val (eD (.int 6))]))) (bV 2 (aQ (ag [0] 1) (aQ (ag [0] 2) cn)))) cA) (au (ck (aD (ax cN (ae a7 1 (aj 2)) (ah (eD (.int 2))))) (aw (eD (.int 2)) (ag [0] 2)) cA) (bt (aG (ak (aa 1) (ak (aa 2) ay)))))))
def rO:DF:=cf [0] 3 HD
abbrev HE:DS:=au (ck (aD (ae cN 3 (ah (eD (.int 1))))) (bt (ae ao 1 (ah (aA cF [.io 0,.val (ae a7 2 (ah (eD (.int 1))))])))) cA) (au (ck (aD (ae cN 3 (ah (eD (.int 2))))) (bt (ae ao 1 (ah (ax fU (ae a7 2 (ah (eD (.int 1)))) (ah (aC bB (aj 1))))))) cA) (au (ck (f_ (aD (ae cN 3 (ah (eD (.int 3))))) (aD (ax d_ (aA cF [.io 0,.val (eD (.int 4))]) (ah (eD (.int 0)))))) (bt (ae ao 1 (aj 2))) cA) (bt (ae ao 1 (ah (aA cF [.io 0,.val (aC bB (aj 1))]))))))
def l9:DF:=cf [0] 4 HE
abbrev HF:DS:=au (aw (aA rO [.io 0]) (bV 2 (aQ (ag [0] 2) (aQ (ag [0] 3) cn)))) (au (aw (ax a7 (eD (.int 1)) (ah (aA cF [.io 0,.val (aa 1)]))) (ag [0] 4)) (au (aw (aA cF [.io 0,.val (eD (.int 26))]) (ag [0] 5)) (au (aw (eD (.str dY)) (ag [0] 6)) (au (aw (aC mK (ah (bR [13] (c9 (aa 4)) (ag [0] 13) bz (ae ao 6 (ah (ax fU (ae a7 5 (ah (ax cS (eD (.int 5)) (aj 13)))) (ah (eD (.int 26))))))))) (ag [0] 7)) (au (aw (aA cF [.io 0,.val (eD (.int 5))]) (ag [0] 8)) (au (aw (cj ay) (ag [0] 9)) (au (bM (c9 (aa 4)) (ag [0] 10) (au (aw (cj ay) (ag [0] 11)) (au (bM (c9 (aa 2)) (ag [0] 12) (bG 11 (aC (cE []) (ah (bR [14] (c9 (aa 3)) (ag [0] 14) bz (aA l9 [.io 0,.val (aa 7),.val (aa 10),.val (aa 8)])))))) (bG 9 (aG (ak (ae ao 7 (aj 10)) (ak (aC cq (aj 11)) ay))))))) (bt (aG (ak (aa 2) (ak (aa 3) (ak (aC cq (aj 9)) ay))))))))))))
def rP:DF:=cf [0] 15 HF
abbrev HG:DS:=au (aw (aa 0) (bV 3 (aQ (ag [] 2) (aQ (ag [] 3) (aQ (ag [] 4) cn))))) (au (aw (ae ao 4 (aj 1)) (bV 2 (aQ (ag [] 5) (aQ (ag [] 6) cn)))) (au (aw (ax a7 (aG (ak (ae a7 5 (ah (dI (ae ao 6 (ah (eD (.int 0)))) (cu (eD (.int 1))) de))) ay)) (ah (fM 6 (cu (eD (.int 1))) de))) (ag [] 7)) (bt (aG (ak (aa 2) (ak (aa 3) (ak (ax a7 (ax a7 (fM 4 de (cu (aa 1))) (ah (aG (ak (aG (ak (aa 5) (ak (aa 7) ay))) ay)))) (ah (fM 4 (cu (ae a7 1 (ah (eD (.int 1))))) de))) ay)))))))
def o_:DF:=cf [] 8 HG
abbrev HH:DS:=au (aw (eD (.str dY)) (ag [1] 2)) (au (aw (bR [13] (aS (ae ao 0 (ah (eD (.int 2))))) (ag [1] 13) bz (ae ao 13 (ah (eD (.int 0))))) (ag [1] 3)) (au (aw (bR [14] (aS (aa 2)) (ag [1] 14) (aD (ax (gG true) (aa 14) (aj 3))) (aa 14)) (ag [1] 4)) (au (aw kL (ag [1] 5)) (au (bM (c9 (aC bB (aj 3))) (ag [1] 6) (fN 5 (ae ao 3 (aj 6)) (ae ao 4 (aj 6)))) (au (aw (cj ay) (ag [1] 7)) (au (bM (aS (ae ao 0 (ah (eD (.int 2))))) (bV 2 (aQ (ag [1] 8) (aQ (ag [1] 9) cn))) (bM (aS (cj (ak (aa 8) (ak (ae cx 5 (aj 8)) ay)))) (ag [1] 10) (au (aw (cj ay) (ag [1] 11)) (au (bM (aS (aa 9)) (ag [1] 12) (bG 11 (aC (cE []) (ah (bR [14] (aS (aa 12)) (ag [1] 14) bz (ax ao (cj (ak (aa 14) (ak (ae cx 5 (aj 14)) ay))) (ah (aA cF [.io 1,.val (eD (.int 2))])))))))) (bG 7 (aG (ak (aa 10) (ak (aC cq (aj 11)) ay)))))))) (bt (aG (ak (aG (ak (ae ao 0 (ah (eD (.int 0)))) (ak (ae ao 0 (ah (eD (.int 1)))) (ak (aC cq (ah (aC kS (aj 7)))) ay)))) (ak (aa 5) ay))))))))))
def rQ:DF:=cf [1] 15 HH
abbrev HI:DS:=au (aw (aA rP [.io 0,.val (aa 1)]) (ag [0] 2)) (au (aw (bR [10] (aS (ae ao 2 (ah (eD (.int 2))))) (ag [0] 10) bz (ae ao 10 (ah (eD (.int 0))))) (ag [0] 3)) (au (aw kL (ag [0] 4)) (au (aw (ax a7 (eD (.int 1)) (ah (aA cF [.io 0,.val (eD (.int 3))]))) (ag [0] 5)) (au (bM (aS (aa 3)) (ag [0] 6) (fN 4 (aa 6) (ax ao (eD (.str [120,121,122])) (ah (aA cF [.io 0,.val (aa 5)]))))) (au (aw (aA cF [.io 0,.val (aC bB (aj 3))]) (ag [0] 7)) (au (aw (aA o_ [.val (aa 2),.val (aa 7)]) (ag [0] 2)) (au (aw (ae ao 3 (aj 7)) (ag [0] 8)) (au (ck (aD (ax cN (aA cF [.io 0,.val (eD (.int 2))]) (ah (eD (.int 0))))) (au (aw (aA rQ [.val (aa 2),.io 0]) (bV 2 (aQ (ag [0] 2) (aQ (ag [0] 9) cn)))) (au (bM (aS (aa 3)) (ag [0] 6) (fN 4 (ae cx 9 (aj 6)) (ae cx 4 (aj 6)))) (au (aw (ax ao (cj (ak (aa 8) (ak (ae cx 9 (aj 8)) ay))) (ah (aA cF [.io 0,.val (eD (.int 2))]))) (ag [0] 8)) (aw (aA o_ [.val (aa 2),.val (lV (bR [10] (aS (ae ao 2 (ah (eD (.int 2))))) (ag [0] 10) bz (ae ao 10 (ah (eD (.int 0))))) (aa 8))]) (ag [0] 2))))) cA) (bt (aG (ak (aa 2) (ak (aa 8) (ak (aC cq (ah (bR [10] (aS (ae ao 2 (ah (eD (.int 2))))) (ag [0] 10) bz (aG (ak (ae ao 10 (ah (eD (.int 0)))) (ak (ae cx 4 (ah (ae ao 10 (ah (eD (.int 0)))))) ay)))))) ay)))))))))))))
def ka:DF:=cf [0] 11 HI
abbrev HJ:DS:=au (aw (cj ay) (ag [] 3)) (au (bM (aS (ae ao 0 (ah (eD (.int 2))))) (bV 2 (aQ (ag [] 4) (aQ (ag [] 5) cn))) (au (aw (bR [7] (aS (dI (ae cS 5 (ah (eD (.int 4)))) de (cu (aa 1)))) (ag [] 7) bz (dI (ae cS 7 (ah (eD (.int 4)))) de (cu (aa 2)))) (ag [] 6)) (bG 3 (aG (ak (aa 4) (ak (aC cq (aj 6)) ay)))))) (bt (aG (ak (aa 1) (ak (aa 2) (ak (aC cq (aj 3)) ay))))))
def k7:DF:=cf [] 8 HJ
abbrev HK:DS:=bt (bR [1,2] (aS (ae ao 0 (ah (eD (.int 2))))) (bV 2 (aQ (ag [] 1) (aQ (ag [] 2) cn))) bz (aa 1))
def rR:DF:=cf [] 3 HK
abbrev HL:DS:=bM (aS (aC (cE []) (aj 1))) (ag [] 2) (ck (aD (ax (gG true) (aa 2) (aj 0))) qu cA)
def rS:DF:=cf [] 3 HL
abbrev HM:DS:=au (ck (aD (ae d_ 0 (aj 2))) qu cA) (ck (aD (ae d_ 1 (aj 2))) qu cA)
def rT:DF:=cf [] 3 HM
abbrev HN:DS:=au (bM (c9 (aa 2)) (ag [] 3) (aw (ae cS 0 (aj 1)) (ag [] 0))) (bt (aa 0))
def pb:DF:=cf [] 4 HN
abbrev HP:DS:=au (aw (cj ay) (ag [] 3)) (au (bM (aS (aa 2)) (ag [] 4) (bM (c9 (aa 1)) (ag [] 5) (bG 3 (aC (cE []) (ah (bR [6] (aS (aa 4)) (ag [] 6) bz (ax ao (ae cx 0 (aj 6)) (aj 5)))))))) (bt (aC cq (aj 3))))
def rU:DF:=cf [] 7 HP
abbrev HQ:DS:=au (aw (aa 0) (bV 3 (aQ (ag [] 3) (aQ (ag [] 4) (aQ (ag [] 5) cn))))) (au (aw (aC gi (aj 5)) (ag [] 6)) (au (kG (aA rS [.val (aa 6),.val (aa 1)])) (au (kG (aA rT [.val (aA pb [.val (aC bB (aj 1)),.val (aa 3),.val (aa 2)]),.val (aA pb [.val (aC bB (ah (ae ao 1 (ah (eD (.int 0)))))),.val (aa 4),.val (aa 2)]),.val (eD (.int 64))])) (au (aw (aa 1) (ag [] 7)) (au (bM (c9 (aa 2)) (ag [] 8) (aw (aA rU [.val (aa 6),.val (aa 3),.val (aa 7)]) (ag [] 7))) (bt (aa 7)))))))
def pe:DF:=cf [] 9 HQ
abbrev HR:DS:=bt (aC gi (ah (bR [2] (aS (aA rR [.val (aa 0)])) (ag [] 2) bz (aG (ak (aa 2) (ak (aC (cE []) (ah (aA pe [.val (aa 0),.val (aG (ak (aa 2) ay)),.val (aa 1)]))) ay))))))
def pf:DF:=cf [] 3 HR
abbrev HS:DS:=bt (kY (ax cx (ae ao 0 (ah (eD (.int 0)))) (ah (ae ao 1 (ah (eD (.int 0)))))) (ax cx (ae ao 0 (ah (eD (.int 1)))) (ah (ae ao 1 (ah (eD (.int 1)))))))
def ph:DF:=cf [] 2 HS
abbrev l_(fa:Addr)(Fn:D->Option D):DS:=au (aw (cj (ak (aa 0) ay)) (ag [] 2)) (au (aw (q_ (aa 0) (eD (.bl true))) (ag [] 3)) (au (aw (eD (.int 0)) (ag [] 4)) (au (gf (aD (ae iy 4 (ah (aC bB (aj 2))))) (au (aw (ae ao 2 (aj 4)) (ag [] 5)) (au (bM (aS (jw fa Fn 1 (aa 5))) (ag [] 6) (ck (aD (ax (l6 true) (aa 6) (aj 3))) (au (oF 3 (aa 6) (eD (.bl true))) (bG 2 (aa 6))) cA)) (aw (ae a7 4 (ah (eD (.int 1)))) (ag [] 4)))) 1000000) (uk [] 2))))
theorem HU:eL ["first","step","found","seen","number","here","part"] ["first","step"] (aV yM):=scc
abbrev ma(fa:Addr)(Fn:D->Option D):DS:=au (aw (aa 0) (bV 3 (aQ (ag [] 3) (aQ (ag [] 4) (aQ (ag [] 5) cn))))) (au (aw (oO (aa 1) (eD (.str dY))) (ag [] 6)) (au (aw (cj ay) (ag [] 7)) (au (bM (aS (aa 1)) (ag [] 8) (au (aw (aC (cE []) (ah (bR [10] (aS (jw fa Fn 2 (aa 8))) (ag [] 10) bz (ae jy 6 (aj 10))))) (ag [] 9)) (bG 7 (aG (ak (ae jy 6 (aj 8)) (ak (aC cq (ah (bR [11] (c9 (aa 3)) (ag [] 11) bz (fM 9 (cu (ae cS 4 (aj 11))) (cu (ax a7 (ae cS 4 (aj 11)) (aj 4))))))) ay)))))) (bt (aG (ak (aa 3) (ak (aa 4) (ak (aC cq (aj 7)) ay))))))))
theorem HV:eL ["rule","things","parts_of","high","wide","blocks","name_of","named","thing","text","part","row"] ["rule","things","parts_of"] (aV yN):=scc
abbrev nA:DS:=bt (aA ph [.val (aa 1),.val (aa 0)])
theorem Yk:(["pair","texts"]:List Str).Nodup:=by decide+kernel
abbrev b_laid_over:DS:=au (aw (ae ao 0 (ah (eD (.int 0)))) (ag [] 2)) (au (ck (aD (ax gb (fM 2 de (cu (eD (.int 2)))) (ah (dI (ae ao 1 (ah (eD (.int 0)))) de (cu (eD (.int 2))))))) (qJ [85,110,108,105,107,101]) cA) (au (aw (aG (ak (aA pf [.val (aa 2),.val (eD (.int 1))]) (ak (aA pf [.val (ae ao 1 (ah (eD (.int 0)))),.val (eD (.int 1))]) ay))) (ag [] 3)) (dDefX 4 λfa=>au (aw (j3 0 (i5 l_ 7 fa) [3] nA [.val (aG (ak (ae ao 0 (ah (eD (.int 1)))) (ak (ae ao 1 (ah (eD (.int 1)))) ay))),.val (aa 4)]) (ag [] 5)) (au (ck (aD (ax d_ (aC bB (aj 5)) (ah (aC bB (ah (eD (.str dY))))))) (m3 [84,111,111,71,114,101,97,116] [[109,97,110,121],[109,111,115,116]] (ak (aC bB (aj 5)) (ak (aC bB (ah (eD (.str dY)))) ay))) cA) (au (aw (aC cq (ah (bR [7,8] (j6 (eD (.str dY)) (aa 5)) (bV 2 (aQ (ag [] 7) (aQ (ag [] 8) cn))) bz (aG (ak (aa 7) (ak (ae ao 8 (ah (eD (.int 0)))) (ak (ae ao 8 (ah (eD (.int 1)))) ay))))))) (ag [] 6)) (bt (aG (ak (j3 0 (i5 ma 12 fa) [3] nA [.val (aa 2),.val (aa 5),.val (aa 4)]) (ak (ax ao (eD (.str dY)) (ah (eD (.int 0)))) (ak (aa 6) ay))))))))))
noncomputable def G_laid_over:DX:=mW [] 9 b_laid_over
theorem HW:eL ["painted","other","rule","texts","parts_of","pairs","named","name","pair"] ["painted","other"] (aV j9):=scc
abbrev yQ(ce:Tx->Nat):DS:=au (aw (cj (ak (gm ce ys (λz=>z==[78,111,70,108,111,111,114]) (aj 0)) (ak (gm ce ys (λz=>z==[78,111,80,108,97,99,101]) (aj 0)) ay))) (ag [] 1)) (au (aw (ae a7 1 (ah (cj (ak (gm ce ys (λz=>z==[78,111,78,117,109,98,101,114]) (aj 0)) (ak (gm ce ys (λz=>z==[78,111,82,111,119]) (aj 0)) ay))))) (ag [] 1)) (au (aw (ae a7 1 (ah (cj (ak (gm ce ys (λz=>z==[85,110,108,105,107,101]) (aj 0)) (ak (gm ce ys (λz=>z==[78,111,84,105,108,101]) (aj 0)) ay))))) (ag [] 1)) (au (aw (ae a7 1 (ah (cj (ak (gm ce ys (λz=>z==[78,111,82,117,108,101]) (aj 0)) (ak (gm ce ys (λz=>z==[78,111,84,101,120,116]) (aj 0)) ay))))) (ag [] 1)) (au (bG 1 (gm ce ys (λz=>z==[84,111,111,71,114,101,97,116]) (aj 0))) (au (ck (nU (kC (aD (gm ce ys (λ_=>true) (aj 0)))) (aD (ax oI (aC lQ (aj 1)) (ah (eD (.int 1)))))) (bt (eD (.str [111,116,104,101,114]))) cA) (au (aw (kK [.str [102,108,111,111,114],.str [112,108,97,99,101],.str [110,117,109,98,101,114],.str [114,111,119],.str [117,110,108,105,107,101],.str [116,105,108,101],.str [114,117,108,101],.str [116,101,120,116],.str [103,114,101,97,116]]) (ag [] 2)) (bt (ae ao 2 (ah (aC lR (aj 1)))))))))))
def nC(ce:Tx->Nat):DF:=cf [] 3 (yQ ce)
abbrev Yl:DS:=bt (qf (jO "int" (aj 0)) (tV (jO "bool" (aj 0))))
def kb:DF:=cf [] 1 Yl
noncomputable abbrev b__law_told(ce:Tx->Nat):DS:=om ce ys 2 (bt (aG (ak (eD (.str [116,111,108,100])) (ak (ju G_laid_over [.val (aa 0),.val (aa 1)]) ay)))) (au (aw (aA (nC ce) [.val (aa 2)]) (ag [] 3)) (au (ck (f_ (aD (ae cN 3 (ah (eD (.str [103,114,101,97,116]))))) (f_ (aD (aA kb [.val (gH ce ys [109,97,110,121] (aj 2))])) (aD (aA kb [.val (gH ce ys [109,111,115,116] (aj 2))])))) (bt (aG (ak (aa 3) (ak (aG (ak (gH ce ys [109,97,110,121] (aj 2)) (ak (gH ce ys [109,111,115,116] (aj 2)) ay))) ay)))) cA) (bt (aG (ak (aa 3) (ak (eD .aJ) ay))))))
noncomputable def G__law_told(ce:Tx->Nat):DF:=cf [] 4 (b__law_told ce)
theorem HX:eL ["one","other","e","word"] ["one","other"] (aV yP):=scc
abbrev HY:DS:=au (aw (aC gi (ah (ax ao (ae ao 0 (ah (eD (.int 0)))) (ah (eD (.int 2)))))) (ag [] 2)) (au (aw (aC gi (ah (ax ao (ae ao 1 (ah (eD (.int 0)))) (ah (eD (.int 2)))))) (ag [] 3)) (au (aw (cj (ak (aG (ak (ae ao 0 (ah (eD (.int 1)))) (ak (ae ao 1 (ah (eD (.int 1)))) ay))) ay)) (ag [] 4)) (au (aw (cj ay) (ag [] 5)) (au (aw (eD (.int 0)) (ag [] 6)) (au (gf (aD (ae iy 6 (ah (aC bB (aj 4))))) (au (aw (cj ay) (ag [] 7)) (au (bM (j6 (ae cx 2 (ah (ax ao (ae ao 4 (aj 6)) (ah (eD (.int 0)))))) (ae cx 3 (ah (ax ao (ae ao 4 (aj 6)) (ah (eD (.int 1))))))) (bV 2 (aQ (ag [] 8) (aQ (ag [] 9) cn))) (au (aw (kY (aa 8) (aa 9)) (ag [] 10)) (au (bG 7 (aa 10)) (bM (aS (aa 10)) (ag [] 11) (ck (aD (ax (lX true) (aa 11) (aj 4))) (bG 4 (aa 11)) cA))))) (au (bG 5 (aa 7)) (aw (ae a7 6 (ah (eD (.int 1)))) (ag [] 6))))) 1000000) (bt (aG (ak (aa 4) (ak (aa 5) ay)))))))))
def rV:DF:=cf [] 12 HY
abbrev HZ:DS:=au (ck (aD (ax gb (dI (ae ao 0 (ah (eD (.int 0)))) de (cu (eD (.int 2)))) (ah (dI (ae ao 1 (ah (eD (.int 0)))) de (cu (eD (.int 2))))))) (bt (eD (.tup [.str [117,110,108,105,107,101],.aJ]))) cA) (au (aw (aA rV [.val (aa 0),.val (aa 1)]) (bV 2 (aQ (ag [] 2) (aQ (ag [] 3) cn)))) (au (ck (aD (ax d_ (aC bB (aj 2)) (ah (eD (.int 26))))) (bt (aG (ak (eD (.str [103,114,101,97,116])) (ak (aG (ak (aC bB (aj 2)) (ak (eD (.int 26)) ay))) ay)))) cA) (au (aw (eD (.str dY)) (ag [] 4)) (au (aw (cj ay) (ag [] 5)) (au (bM (c9 (aC bB (aj 2))) (ag [] 6) (au (aw (bR [9] (aS (ae ao 3 (aj 6))) (ag [] 9) bz (aC (cE []) (ah (bR [10] (aS (aa 9)) (ag [] 10) bz (ae ao 4 (ah (m9 2 (aa 10)))))))) (ag [] 7)) (bG 5 (aG (ak (ae ao 4 (aj 6)) (ak (aC cq (aj 7)) ay)))))) (au (aw (aC cq (ah (bR [6] (c9 (aC bB (aj 2))) (ag [] 6) bz (aG (ak (ae ao 4 (aj 6)) (ak (ax ao (ae ao 2 (aj 6)) (ah (eD (.int 0)))) (ak (ax ao (ae ao 2 (aj 6)) (ah (eD (.int 1)))) ay))))))) (ag [] 8)) (bt (aG (ak (eD (.str [116,111,108,100])) (ak (aG (ak (ax a7 (dI (ae ao 0 (ah (eD (.int 0)))) de (cu (eD (.int 2)))) (ah (aG (ak (aC cq (aj 5)) ay)))) (ak (eD (.str [97])) (ak (aa 8) ay)))) ay))))))))))
def md:DF:=cf [] 11 HZ
noncomputable abbrev b_law(ce:Tx->Nat):DS:=au (bM (aS (ax a7 (cj (ak (aA oY [.val (aa 0),.val (eD (.int 0))]) ay)) (ah (fM 0 (cu (eD (.int 1))) (cu (eD (.int 4))))))) (ag [] 1) (au (aw (aA ny [.val (aa 1)]) (ag [] 2)) (au (aw (aA ka [.io 2,.val (ax ao (kK [.int 3,.int 6]) (ah (aA cF [.io 2,.val (eD (.int 2))])))]) (ag [] 3)) (au (aw (aA ka [.io 2,.val (ax ao (kK [.int 3,.int 6]) (ah (aA cF [.io 2,.val (eD (.int 2))])))]) (ag [] 4)) (au (ck (aD (ax d_ (aA cF [.io 2,.val (eD (.int 8))]) (ah (eD (.int 0))))) (aw (aG (ak (aA k7 [.val (ae ao 4 (ah (eD (.int 0)))),.val (ax ao (ae ao 3 (ah (eD (.int 0)))) (ah (eD (.int 0)))),.val (ax ao (ae ao 3 (ah (eD (.int 0)))) (ah (eD (.int 1))))]) (ak (ae ao 4 (ah (eD (.int 1)))) (ak (ae ao 4 (ah (eD (.int 2)))) ay)))) (ag [] 4)) cA) (bM (aS (cj (ak (aG (ak (aa 3) (ak (aa 4) ay))) (ak (aG (ak (aa 4) (ak (aa 3) ay))) (ak (aG (ak (aa 3) (ak (aa 3) ay))) ay))))) (bV 2 (aQ (ag [] 5) (aQ (ag [] 6) cn))) (au (aw (aA (G__law_told ce) [.val (aa 5),.val (aa 6)]) (ag [] 7)) (au (ck (aD (ae gb 7 (ah (aA md [.val (aa 5),.val (aa 6)])))) (bt (eD (.bl false))) cA) (ck (f_ (aD (ax kE (ae ao 7 (ah (eD (.int 0)))) (ah (eD (.str [116,111,108,100]))))) (kC (f_ (aD (aA kb [.val (ax ao (ax ao (ae ao 7 (ah (eD (.int 1)))) (ah (eD (.int 0)))) (ah (eD (.int 0))))])) (aD (jO "tuple" (ah (ax ao (ae ao 7 (ah (eD (.int 1)))) (ah (eD (.int 2)))))))))) (bt (eD (.bl false))) cA))))))))) (bt (eD (.bl true)))
noncomputable def G_law(ce:Tx->Nat):DF:=cf [] 8 (b_law ce)
theorem H_:eL ["script","cell","pen","one","other","left","right","found"] ["script"] (aV k6):=scc
section
variable{w:Wp}{h:Heap}{x:Str}{st:Stmt}{k:Nat}{fb:DS}{G:DF}
theorem e9(Y:K.In h)(Z:h.Ns Wn mg)(d:bK K x st)(hG:G=cf np N.length fb:=by rfl)(hn:(N.take n).length=n:=by rfl)(S:eL N (N.take n) (aV st):=by exact⟨rfl,rfl,rfl,Re,rfl,Re,Re⟩)(hb:∀{f fd},dq K x x st f fd->Binds K fd (N.take n) []:=by intro f fd F;first|exact Ff F λ_ _ _ _ _ _ _=>rfl|exact qR F λ_ _ _ _ _ _ _ _=>rfl|exact ux F λ_ _ _ _ _ _ _ _ _=>rfl|exact Fg F λ_ _ _ _ _ _ _ _ _ _=>rfl|exact bd5 F λ_ _ _ _ _ _ _ _ _ _ _=>rfl|exact bd6 F λ_ _ _ _ _ _ _ _ _ _ _ _=>rfl)(cG:∀(f:Addr)(c:Fc)(aE:Value)(A:Wh)(outer:List Env)(s:W1)(H:Hp)(E:XK),b_ k (A.deeper (QB x (aV st) s.heap.objs.size f aE))->Np c np->N.Nodup->dA (dG cH P w K mg base N x (aV st) f aE A outer s H E).fE c (cZ st) fb:=by intro f c aE A outer s H E hr dD gB;have hq:=mS hr;infer_instance):bJ P w K mg base (k+1) x n G:=by obtain⟨f,fd,F,m⟩:=qQ Y Z d;subst hG;have:=P0 F m (hb F) S (λc aE A outer s H E hr dD=>cG f c aE A outer s H E hr dD S.nd) λss y h=>qE h;rwa[hn]at this
theorem Ia(Y:K.In h)(Z:h.Ns Wn mg)(d:bK K x st)(hG:G=cf np N.length fb:=by rfl)(hn:(N.take n).length=n:=by rfl)(S:eL N (N.take n) (aV st):=by exact⟨rfl,rfl,rfl,Re,rfl,Re,Re⟩)(hb:∀{f fd},dq K x x st f fd->Binds K fd (N.take n) []:=by intro f fd F;first|exact Ff F λ_ _ _ _ _ _ _=>rfl|exact qR F λ_ _ _ _ _ _ _ _=>rfl|exact ux F λ_ _ _ _ _ _ _ _ _=>rfl|exact Fg F λ_ _ _ _ _ _ _ _ _ _=>rfl|exact bd5 F λ_ _ _ _ _ _ _ _ _ _ _=>rfl|exact bd6 F λ_ _ _ _ _ _ _ _ _ _ _ _=>rfl)(cG:∀(f:Addr)(c:Fc)(aE:Value)(A:Wh)(outer:List Env)(s:W1)(H:Hp)(E:XK),gj k (A.deeper (QB x (aV st) s.heap.objs.size f aE))->Np c np->N.Nodup->dA (dG cH P w K mg base N x (aV st) f aE A outer s H E).ur c (cZ st) fb:=by intro f c aE A outer s H E hr dD gB;have hq:=SM hr;infer_instance):mY P w K mg base (k+1) x n G:=by obtain⟨f,fd,F,m⟩:=qQ Y Z d;subst hG;have:=SN F m (hb F) S (λc aE A outer s H E hr dD=>cG f c aE A outer s H E hr dD S.nd) λss y h=>qE h;rwa[hn]at this
end
section
theorem cv{p:Prop}(x:p):p:=x
local macro_rules|`(tactic|injections$hs*)=>do let ts<-hs.mapM λh=>`(tacticSeq|with_reducible refine' @$(⟨h.raw⟩) ..);`(tactic|first$[|$ts]*)
local macro_rules|`(tactic|clear$hs*)=>do let ts<-hs.mapM λh=>`(tacticSeq|exact$(⟨h.raw⟩));`(tactic|first$[|$ts]*)
local macro_rules|`(tactic|exists$e:ident)=>`(tactic|with_reducible refine' @$e ..)
local macro_rules|`(tactic|exists$p,$e:ident,$a,$b,$_)=>`(tactic|(with_reducible show SE _ _ _ $p;refine' @$e ..);rotate_left;exact$a;exact$b)
local macro_rules|`(tactic|exists$p,$e:ident,$a,$b,$_,$_)=>`(tactic|(with_reducible show ST _ _ _ $p;refine' @$e ..);rotate_left;exact$a;exact$b)
local macro_rules|`(tactic|exists$p,$e:ident)=>`(tactic|(with_reducible show SE _ _ _ $p;refine' @$e ..))
local macro_rules|`(tactic|exists$p,$e:ident,$_)=>`(tactic|(with_reducible show SS _ _ _ $p;refine' @$e ..))
local macro_rules|`(tactic|exists$p,$e:ident,$_,$_)=>`(tactic|(with_reducible show ST _ _ _ $p;refine' @$e ..))
set_option hygiene false in 
local macro_rules|`(tactic|infer_instance)=>`(tactic|(repeat' first|((with_reducible show SS _ _ _ _);first|((with_reducible show SS _ _ _ (m3 _ _ _));refine TF [84,111,111,71,114,101,97,116] [[109,97,110,121],[109,111,115,116]] yR (hr.mono Z') rfl rfl T.Hy ?_ pj Z' Re Z')|exists Si|((with_reducible show SS _ _ _ (om _ _ _ _ _));refine Vf ft (ce:=ce) (ys:=ys) (i:=2) rfl dD rfl rfl gB rfl rfl rfl T.XY T.X6 (λy hy=>T.Yj y hy) (λc pn xe dD ft pj=>?_) λea=>?_)|injections VV R0 RX O9 O_|((with_reducible show SS _ _ _ (aw (bR _ _ _ _ _) (ag _ _)));refine PY dD rfl (@Eb _ _ _ rfl rfl) gB rfl rfl ?_ (λl s0 H0 ex=>?_) (λl s0 H0 ex=>?_) (λl s0 H0 ex=>?_) (D9 dD rfl))|injections Ph Pg Pq Rq Pl|((with_reducible show SS _ _ _ (gf _ _ _));refine Pt 1000000 (λh1 h2=>LZ PassesOwn.never h1 h2) ?_ ?_)|injections O8 Rp)|((with_reducible show dA _ _ _ _);first|((with_reducible show dA _ _ _ (dDefX _ _));refine XI (P:=gq) (j:=4) (ts:=[(gq,l8,j_)]) ft Wt dD pj rfl rfl rfl rfl rfl (Vd hJ Ym) dT gT tT gB rfl rfl λc fa ft dD Yn pj=>?_)|injections O5 O6 O7|exact O5|refine O6 ?_ ?_|refine O7 ?_)|((with_reducible show SE _ _ _ _);first|((with_reducible show SE _ _ _ (j3 _ _ _ _ _));refine Xh (kl:=1) (kw:=2) (fr:=["texts"]) (ls:=[]) (js:=[3]) (p:="pair") (by assumption) Yn dD (hr.mono Z') Z' rfl ?_ rfl (λ_ h=>by simp at h) (λ_=>rfl) (UP (Fh rfl)) UQ rfl (λi x j e1 e2=>by rcases i with _|i;(cases e1;cases e2;exact⟨rfl,rfl,_,rfl⟩);cases e1) (λ_ _ _ _ _=>rfl) λc cd A outer s H hr hp=>Yo T va hr hp)|exists Ve|((with_reducible show SE _ _ _ (aA _ _));first|(exists Ra;rotate_left 2;assumption)|(exists UO;rotate_left 3;assumption)|(exists SQ;rotate_left 2;assumption))|exists Fj|((with_reducible show SE _ _ _ (gm _ _ _ _));first|((with_reducible show SE _ _ (.Call _ [_,.Name "ValueError" _] _ _) _);exists SK)|exists kP)|injections Vo XF UL|((with_reducible show SE _ _ _ (eD (.str _)));first|injections CJ Xj)|((with_reducible show SE _ _ _ (eD (.int _)));first|injections CF Ro)|exists xi|exists ae cN _ _,qe,uU,g7,_|exists ae jy _ _,wY,VO hq,VP,_|injections OT T7 TR OD|((with_reducible show SE _ _ _ (q_ _ _));refine VZ hq (λc=>?_) λc=>?_)|injections N0 CG CI Rm Rn Dk Dm RE|exists ax ao _ _,C5,wg,w6,_|exists ax cx _ _,C5,ED hq,EB,_|exists ae ao _ _,wY,wg,w6,_|exists ae cx _ _,wY,ED hq,EB,_|exists ax a7 _ _,nS,C8,C9,_|exists ae a7 _ _,wX,C8,C9,_|exists ax qg _ _,nS,Mg,OG,_|exists ax cS _ _,nS,Ej,Ek,_|exists ae cS _ _,wX,Ej,Ek,_|exists ax fU _ _,nS,BC,C_,_|exists ae fU _ _,wX,BC,C_,_|exists ax nW _ _,nS,Mi,OI,_|exists ax tY _ _,nS,Mj,OJ,_|exists ae w8 _ _,qe,OK,g7,_|exists ae gb _ _,qe,tN hq,tZ,_|exists ae iy _ _,qe,Dd,De,_|exists ae d_ _ _,qe,t5,g7,_|injections OO OR RO OS O4 S4 S5 OU OZ O1 XS|((with_reducible show SE _ _ _ (bR _ _ _ _ _));refine PX rfl (@Eb _ _ _ rfl rfl) ?_ (λl s0 H0 ex=>?_) (λl s0 H0 ex=>?_) (λl s0 H0 ex=>?_) (D9 dD rfl))|injections OC OB)|((with_reducible show ST _ _ _ _);first|exists aD (ax (l6 true) _ _),lF,VM hq,VN true,_,_|exists aD (ax oI _ _),lF,Gw,g7,_,_|exists aD (ae cN _ _),tU,uU,g7,_,_|exists aD (ax cN _ _),lF,uU,g7,_,_|exists aD (ax kE _ _),lF,CP hq,Dc,_,_|exists aD (ax gb _ _),lF,tN hq,tZ,_,_|exists aD (ae gb _ _),tU,tN hq,tZ,_,_|exists aD (ae iy _ _),tU,Dd,De,_,_|exists aD (ax d_ _ _),lF,t5,g7,_,_|exists aD (ae d_ _ _),tU,t5,g7,_,_|exists aD (ax (gG true) _ _),lF,@Ex _ hq,@EA _ true,_,_|exists aD (ax (lX true) _ _),lF,Vi hq,Vj true,_,_|injections Ot Oz Oy)|injections Xt Rx Pp NZ NY Dg Rh P4 Rj Ri OX OY Pc Pf Pd Pe PB PJ PF PH Ox Ow Ov Ou Py Pz|(refine cv ?_;first|assumption|rfl|clear (λ_ _=>rfl) (λ_=>rfl) Z' Re (hr.mono Z') ((hr.h.mono Z').mark _) T.X8 T.gp T.XZ T.X9 T.X0 T.X_ T.X1 T.Ya T.X2 T.Yb T.Hx T.Yc T.X3 T.Yd T.X4 T.Ye T.X5 T.Yf T.Hy T.Yi T.rF S6 T.Yg T.Yh T.rN T.rM xB T.X7 (pv _) oS PassesOwn.never Sn T.oU T.nu T.ty_int T.oV boot_int (fG _) T.oW T.rH T.oX T.rK T.rJ T.ty_bool T.rG boot_bool T.ty_tuple boot_tuple T.rL)))
section
variable{w:Wp}{h:Heap}{ce:Tx->Nat}(T:Txt ce K mg)(Y:K.In h)(Z:h.Ns Wn mg)
include T Y Z
theorem Yp(d:bK K "_law_cell_at" G8):bJ P w K mg base 1 "_law_cell_at" 2 oY:=e9 (N:=["script","k"]) Y Z d
theorem Yq(d:bK K "_law_pen_of" G9):bJ P w K mg base 1 "_law_pen_of" 1 ny:=e9 (N:=["cell","left"]) Y Z d
theorem Yr(d:bK K "_law_next" G_):bJ P w K mg base 1 "_law_next" 1 oZ:=e9 (N:=["seed"]) Y Z d
theorem Ys(d:bK K "_law_draw" Hb)(Ib:bJ P w K mg base 1 "_law_next" 1 oZ):bJ P w K mg base 2 "_law_draw" 2 cF:=e9 (N:=["pen","many","found"]) Y Z d
theorem Yt(d:bK K "_law_sizes_by" Hc)(i6:bJ P w K mg base 2 "_law_draw" 2 cF):bJ P w K mg base 3 "_law_sizes_by" 1 rO:=e9 (N:=["pen","high","wide"]) Y Z d
theorem Yu(d:bK K "_law_pick" Hd)(i6:bJ P w K mg base 2 "_law_draw" 2 cF):bJ P w K mg base 3 "_law_pick" 4 l9:=e9 (N:=["pen","tiles","place","way"]) Y Z d
theorem Yv(d:bK K "_law_rule_by" He)(i6:bJ P w K mg base 2 "_law_draw" 2 cF)(Ic:bJ P w K mg base 3 "_law_sizes_by" 1 rO)(Ie:bJ P w K mg base 3 "_law_pick" 4 l9):bJ P w K mg base 4 "_law_rule_by" 2 rP:=e9 (N:=["pen","most","high","wide","size","first","letters","tiles","way","blocks","place","block","row","k","column"]) Y Z d
theorem Yw(d:bK K "_law_stilled" Hf):bJ P w K mg base 1 "_law_stilled" 2 o_:=e9 (N:=["rule","spot","high","wide","blocks","tile","block","first"]) Y Z d
theorem Yx(d:bK K "_law_doubled" Hg)(i6:bJ P w K mg base 2 "_law_draw" 2 cF):bJ P w K mg base 3 "_law_doubled" 2 rQ:=e9 (N:=["rule","pen","letters","tiles","left","twin","place","blocks","tile","block","other","rows","row","pair","sign"]) Y Z d
theorem Yy(d:bK K "_law_painted_by" Hh)(i6:bJ P w K mg base 2 "_law_draw" 2 cF)(Ig:bJ P w K mg base 4 "_law_rule_by" 2 rP)(Ih:bJ P w K mg base 1 "_law_stilled" 2 o_)(Ii:bJ P w K mg base 3 "_law_doubled" 2 rQ):bJ P w K mg base 5 "_law_painted_by" 2 ka:=e9 (N:=["pen","most","rule","tiles","signs","kinds","tile","spot","start","twin","pair"]) Y Z d
theorem Yz(d:bK K "_law_sized" Hi):bJ P w K mg base 1 "_law_sized" 3 k7:=e9 (N:=["rule","high","wide","blocks","tile","block","rows","row"]) Y Z d
theorem YA(d:bK K "rule_tiles" Hj):bJ P w K mg base 1 "rule_tiles" 1 rR:=e9 (N:=["rule","tile","block"]) Y Z d
theorem YB(d:bK K "refuse_strange" Hk):bJ P w K mg base 1 "refuse_strange" 2 rS:=e9 (N:=["block_of","floor","tile"]) Y Z d
theorem YC(d:bK K "refuse_beyond" Hl):bJ P w K mg base 1 "refuse_beyond" 3 rT:=e9 (N:=["rows","columns","most"]) Y Z d
theorem YD(d:bK K "grown_size" Hm):bJ P w K mg base 1 "grown_size" 3 pb:=e9 (N:=["size","factor","often","growing"]) Y Z d
theorem YE(d:bK K "laid_floor" Ho):bJ P w K mg base 1 "laid_floor" 3 rU:=e9 (N:=["block_of","high","floor","rows","row","line","tile"]) Y Z d
theorem YF(d:bK K "grown_often" Hq)(Ij:bJ P w K mg base 1 "refuse_strange" 2 rS)(Ik:bJ P w K mg base 1 "refuse_beyond" 3 rT)(Il:bJ P w K mg base 1 "grown_size" 3 pb)(Im:bJ P w K mg base 1 "laid_floor" 3 rU):bJ P w K mg base 2 "grown_often" 3 pe:=e9 (N:=["rule","floor","often","high","wide","blocks","block_of","grown","growing"]) Y Z d
theorem YG(d:bK K "floor_texts" Hr)(Io:bJ P w K mg base 1 "rule_tiles" 1 rR)(Ip:bJ P w K mg base 2 "grown_often" 3 pe):bJ P w K mg base 3 "floor_texts" 2 pf:=e9 (N:=["rule","often","tile"]) Y Z d
theorem YH(d:bK K "pairs_under" Ht):bJ P w K mg base 1 "pairs_under" 2 ph:=e9 (N:=["texts","pair"]) Y Z d
end
theorem Yo{w:Wp}{A:Wh}{s:W1}{H:Hp}{c:Fc}{ce:Tx->Nat}(T:Txt ce K mg)(va:bJ P w K mg base 1 "pairs_under" 2 ph)(hr:b_ 1 (A.deeper (Ju j_ (aV u_) s.heap.objs.size fa cd cl)))(hp:c.pin=[]):dA (oA P w K mg base ["pair","texts"] j_ (aV u_) fa cd cl A outer s H) c (cZ u_) nA:=by
 have dD:Np c []:=λp h=>by rw[hp]at h;cases h
 have hq:=mS hr;have gB:=Yk;infer_instance
theorem YI{w}(F:dq K "reached" "reached" yM f fd)(hm:mg "reached"=some (.ref f))(hb:Binds K fd ["first","step"] [])(T:Txt ce K mg):rm P w K mg base 2 "reached" 2 7 l_:=⟨f,fd,_,_,_,["first","step","found","seen","number","here","part"],rfl,hm,F.kp,hb,rfl,GH F HU λc aE A outer s H E fa Fn hr dD uY=>by have hq:=mS hr;have gB:=HU.nd;infer_instance⟩
theorem YJ{w}(F:dq K "named_rule" "named_rule" yN f fd)(hm:mg "named_rule"=some (.ref f))(hb:Binds K fd ["rule","things","parts_of"] [])(T:Txt ce K mg):rm P w K mg base 2 "named_rule" 3 12 ma:=⟨f,fd,_,_,_,["rule","things","parts_of","high","wide","blocks","name_of","named","thing","text","part","row"],rfl,hm,F.kp,hb,rfl,GH F HV λc aE A outer s H E fa Fn hr dD uY=>by have hq:=mS hr;have gB:=HV.nd;infer_instance⟩
theorem YK{w}{rW:Addr}(F:dq K "laid_over" "laid_over" j9 f fd)(hm:mg "laid_over"=some (.ref f))(hb:Binds K fd ["painted","other"] [])(T:Txt ce K mg)(Ym:∃oc od kV doc pm an ct dH,K.lookup f=some ⟨oc,od,.func (WT "laid_over" "laid_over" (f6 j9) (cZ j9) (aV j9) .none kV doc pm an (.ref rW) ct),dH⟩)(dT:Jv K rW gq=true)(gT:Wn≠gq)(tT:base.BuiltinsAt mg gq)(Iq:bJ P w K mg base 3 "floor_texts" 2 pf)(va:bJ P w K mg base 1 "pairs_under" 2 ph)(Ir:rm P w K mg base 2 "reached" 2 7 l_)(Iu:rm P w K mg base 2 "named_rule" 3 12 ma)(yR:x6 P w K mg base (ce [84,111,111,71,114,101,97,116]) ["many","most"]):uM P w K mg base [(gq,l8,j_)] 4 "laid_over" 2 G_laid_over:=Vc (np:=[]) (fb:=b_laid_over) F hm hb HW λc aE A outer s H E hr dD ft hJ pj=>by have hq:=mS hr;have gB:=HW.nd;infer_instance λss y h=>EJ h
section
variable{w:Wp}{h:Heap}{ce:Tx->Nat}(T:Txt ce K mg)(Y:K.In h)(Z:h.Ns Wn mg)
include T Y Z
theorem YL(d:bK K "_law_kind_of" Hu):mY P w K mg base 1 "_law_kind_of" 1 (nC ce):=Ia (N:=["e","marks","words"]) Y Z d
theorem YM(d:bK K "_law_whole" yO):bJ P w K mg base 1 "_law_whole" 1 kb:=e9 (N:=["found"]) Y Z d
theorem YN(d:bK K "_law_whole" yO):mY P w K mg base 1 "_law_whole" 1 kb:=Ia (N:=["found"]) Y Z d
end
theorem YO{w}(F:dq K "_law_told" "_law_told" yP f fd)(hm:mg "_law_told"=some (.ref f))(hb:Binds K fd ["one","other"] [])(T:Txt ce K mg)(Iv:uM P w K mg base [(gq,l8,j_)] 4 "laid_over" 2 G_laid_over)(Iy:mY P w K mg base 1 "_law_kind_of" 1 (nC ce))(Iz:mY P w K mg base 1 "_law_whole" 1 kb):uK P w K mg base [(gq,l8,j_)] 5 "_law_told" 2 (G__law_told ce):=Vb (np:=[]) (fb:=b__law_told ce) F hm hb HX λc aE A outer s H E hr dD ft hJ=>by have hq:=mS hr;have gB:=HX.nd;infer_instance λss y h=>qE h
section
variable{w:Wp}{h:Heap}{ce:Tx->Nat}(T:Txt ce K mg)(Y:K.In h)(Z:h.Ns Wn mg)
include T Y Z
theorem YQ(d:bK K "_law_pairs" Hv):bJ P w K mg base 1 "_law_pairs" 2 rV:=e9 (N:=["one","other","left","right","pairs","blocks","met","rows","first","second","row","pair"]) Y Z d
theorem YR(d:bK K "_law_due" Hw)(IA:bJ P w K mg base 1 "_law_pairs" 2 rV):bJ P w K mg base 2 "_law_due" 2 md:=e9 (N:=["one","other","pairs","blocks","letters","named","place","rows","told","row","pair"]) Y Z d
end
theorem YS{w}(F:dq K "law" "law" k6 f fd)(T:Txt ce K mg)(IB:bJ P w K mg base 1 "_law_cell_at" 2 oY)(IC:bJ P w K mg base 1 "_law_pen_of" 1 ny)(i6:bJ P w K mg base 2 "_law_draw" 2 cF)(ID:bJ P w K mg base 5 "_law_painted_by" 2 ka)(IE:bJ P w K mg base 1 "_law_sized" 3 k7)(IF:bJ P w K mg base 1 "_law_whole" 1 kb)(IG:uK P w K mg base [(gq,l8,j_)] 5 "_law_told" 2 (G__law_told ce))(IH:bJ P w K mg base 2 "_law_due" 2 md){Gt:DF}(yS:∀ss y,Gt ss=some y->G_law ce ss=some y):fz P w K mg base cH 6 f fd ["script"] (m8 [(gq,l8,j_)] 1 Gt):=FQ (np:=[]) (fb:=b_law ce) F H_ λc aE A outer s H E hr dD ft hJ=>by have hq:=mS hr;have gB:=H_.nd;infer_instance λss y h=>qE (yS ss y h)
end
theorem all_mk{l:PySem.W.OpenLaw}{w:Wp}{h:Heap}{Gt:DF}(yS:∀ce,gK ce->∀ss y,Gt ss=some y->G_law ce ss=some y)(X:K.In h)(G:h.Ns Wn mg)(YT:mg "law"=some (.ref fa))(d0:bK K "_law_cell_at" G8)(d1:bK K "_law_pen_of" G9)(d2:bK K "_law_next" G_)(d3:bK K "_law_draw" Hb)(d4:bK K "_law_sizes_by" Hc)(d5:bK K "_law_pick" Hd)(d6:bK K "_law_rule_by" He)(d7:bK K "_law_stilled" Hf)(d8:bK K "_law_doubled" Hg)(d9:bK K "_law_painted_by" Hh)(yT:bK K "_law_sized" Hi)(yU:bK K "rule_tiles" Hj)(yV:bK K "refuse_strange" Hk)(yW:bK K "refuse_beyond" Hl)(yX:bK K "grown_size" Hm)(yY:bK K "laid_floor" Ho)(yZ:bK K "grown_often" Hq)(y0:bK K "floor_texts" Hr)(y6:bK K "pairs_under" Ht)(y8:bK K "reached" yM)(y9:bK K "named_rule" yN)(y_:nsIn K Wn "laid_over"=some (some (.ref f21)))(vb:K.lookup f21=some ⟨oc21,od21,.func (WT "laid_over" "laid_over" (f6 j9) (cZ j9) (aV j9) .none kV21 dc21 pm21 an21 (.ref rW) ct21),sl21⟩)(za:codeIn K (.ref rW) "laid_over"=true)(zb:keepIn K (.ref f21)=true)(dT:Jv K rW gq=true)(gT:(Wn==gq)=false)(zc:bK K "_law_kind_of" Hu)(vc:bK K "_law_whole" yO)(zd:bK K "_law_told" yP)(ze:bK K "_law_pairs" Hv)(zf:bK K "_law_due" Hw)(zg:nsIn K Wn "law"=some (some (.ref f27)))(zh:K.lookup f27=some ⟨oc27,od27,.func (WT "law" "law" (f6 k6) (cZ k6) (aV k6) .none kV27 dc27 pm27 an27 cd27 ct27),sl27⟩)(zi:codeIn K cd27 "law"=true)(zj:keepIn K (.ref f27)=true)(rF:nsIn K Wn "ValueError"=some none)(rG:nsIn K Wn "bool"=some none)(oU:nsIn K Wn "dict"=some none)(oV:nsIn K Wn "int"=some none)(gp:nsIn K Wn "isinstance"=some none)(rH:nsIn K Wn "len"=some none)(rJ:nsIn K Wn "list"=some none)(rK:nsIn K Wn "max"=some none)(rL:nsIn K Wn "range"=some none)(oW:nsIn K Wn "sorted"=some none)(oX:nsIn K Wn "tuple"=some none)(nu:nsIn K Wn "zip"=some none)(rM:nsIn K Wn "MOST_TILES"=some (some (.int 64 t_MOST_TILES)))(rN:nsIn K Wn "NAMES"=some (some (.str (toS dY) t_NAMES)))(zk:nsIn K Wn "FloorError"=some (some (.ref C_j)))(zm:nsIn K Wn "NoFloor"=some (some (.ref C_a)))(zo:nsIn K Wn "NoPlace"=some (some (.ref C_b)))(zq:nsIn K Wn "NoNumber"=some (some (.ref C_c)))(zr:nsIn K Wn "NoRow"=some (some (.ref C_d)))(vd:nsIn K Wn "Unlike"=some (some (.ref C_e)))(zt:nsIn K Wn "NoTile"=some (some (.ref C_f)))(zu:nsIn K Wn "NoRule"=some (some (.ref C_g)))(zv:nsIn K Wn "NoText"=some (some (.ref C_h)))(ve:nsIn K Wn "TooGreat"=some (some (.ref C_i)))(II:QY K (.ref C_i) "__init__"=some (some (.ref fi_i)))(zw:K.lookup fi_i=some ⟨oci_i,odi_i,.func (WT "__init__" "TooGreat.__init__" (f6 rE) (cZ rE) (aV rE) .none kVi_i dci_i pmi_i ani_i cdi_i cti_i),sli_i⟩)(zx:codeIn K cdi_i "TooGreat.__init__"=true)(zy:keepIn K (.ref fi_i)=true)(zA:lT K C_i fi_i=true)(zB:PySem.W.isFn K (.ref fi_i)=true)(zD:keepIn K (.ref C_i)=true)(vf:QY K (.ref C_i) "__setattr__"=some (some (.builtin "object.__setattr__")))(vg:qO K C_i=true)(vh:JH K C_i=true)(zE:PySem.W.takerIn K C_i "many"=some none)(zF:PySem.W.takerIn K C_i "most"=some none)(zG:PySem.W.excIn K C_j jr "ValueError.__new__"=true)(zH:PySem.W.excIn K C_e jr "ValueError.__new__"=true)(vi:PySem.W.specialIn K (.builtin "object.__class__") "__get__"=some (some (.builtin "getset_descriptor.__get__")))(vj:PySem.W.takesIn K (.builtin "object.__class__")=some true)(zI:QY K (.ref C_e) "__getattribute__"=some (some (.builtin "BaseException.__getattribute__")))(zJ:QY K (.ref C_e) "__getattr__"=some none)(zK:QY K (.ref C_e) "__class__"=some (some (.builtin "object.__class__")))(zM:mroIn K C_e (.type "object")=some true)(zN:mroIn K C_e (.type "BaseException")=some true)(i7:PySem.W.isClsIn K C_e=true)(zO:QS K (.ref C_e) (.type "ValueError")=some true)(zP:QY K (.ref C_e) "many"=some none)(zQ:QY K (.ref C_e) "most"=some none)(vk:JH K C_e=true)(zS:QS K (.ref C_e) (.ref C_a)=some false)(zT:QS K (.ref C_e) (.ref C_b)=some false)(zU:QS K (.ref C_e) (.ref C_c)=some false)(zV:QS K (.ref C_e) (.ref C_d)=some false)(vm:QS K (.ref C_e) (.ref C_e)=some true)(zW:QS K (.ref C_e) (.ref C_f)=some false)(zX:QS K (.ref C_e) (.ref C_g)=some false)(zY:QS K (.ref C_e) (.ref C_h)=some false)(rX:QS K (.ref C_e) (.ref C_i)=some false)(zZ:mroIn K C_e (.ref C_j)=some true)(z0:QY K (.ref C_i) "__getattribute__"=some (some (.builtin "BaseException.__getattribute__")))(z8:QY K (.ref C_i) "__getattr__"=some none)(z9:QY K (.ref C_i) "__class__"=some (some (.builtin "object.__class__")))(z_:mroIn K C_i (.type "object")=some true)(Aa:mroIn K C_i (.type "BaseException")=some true)(i8:PySem.W.isClsIn K C_i=true)(Ab:QS K (.ref C_i) (.type "ValueError")=some true)(Ac:QY K (.ref C_i) "many"=some none)(Ad:QY K (.ref C_i) "most"=some none)(vn:JH K C_i=true)(Ae:QS K (.ref C_i) (.ref C_a)=some false)(Af:QS K (.ref C_i) (.ref C_b)=some false)(Ag:QS K (.ref C_i) (.ref C_c)=some false)(Ah:QS K (.ref C_i) (.ref C_d)=some false)(rY:QS K (.ref C_i) (.ref C_e)=some false)(Ai:QS K (.ref C_i) (.ref C_f)=some false)(Aj:QS K (.ref C_i) (.ref C_g)=some false)(Al:QS K (.ref C_i) (.ref C_h)=some false)(vo:QS K (.ref C_i) (.ref C_i)=some true)(Am:mroIn K C_i (.ref C_j)=some true):(∃c,Jv K c gq=true)/\∃fd:WH,(∀(s:W1)(v:Value),BindsTo s fd ⟨[v],[]⟩ [("script",v)])/\∀base:Heap,K.In base->base.Ns Wn mg->base.BuiltinsAt mg gq->fz l.prog w K mg base cH 6 fa fd ["script"] (m8 [(gq,l8,j_)] 1 Gt):=by
 have e:=YT.symm.trans (JK X G zg);cases e;have i9:jT K C_e:=⟨zI,zJ,zK,vi,vj,zM,zN⟩;have i_:jT K C_i:=⟨z0,z8,z9,vi,vj,z_,Aa⟩;have T:Txt (xX [([70,108,111,111,114,69,114,114,111,114],C_j),([78,111,70,108,111,111,114],C_a),([78,111,80,108,97,99,101],C_b),([78,111,78,117,109,98,101,114],C_c),([78,111,82,111,119],C_d),([85,110,108,105,107,101],C_e),([78,111,84,105,108,101],C_f),([78,111,82,117,108,101],C_g),([78,111,84,101,120,116],C_h),([84,111,111,71,114,101,97,116],C_i)]) K mg:=⟨Q0 X G rF,Q0 X G rG,Q0 X G oU,Q0 X G oV,Q0 X G gp,Q0 X G rH,Q0 X G rJ,Q0 X G rK,Q0 X G rL,Q0 X G oW,Q0 X G oX,Q0 X G nu,Rf,Rc,Rg,⟨_,JK X G rM⟩,⟨_,JK X G rN⟩,JK X G zk,JK X G zm,JK X G zo,JK X G zq,JK X G zr,JK X G vd,JK X G zt,JK X G zu,JK X G zv,JK X G ve,zG,zH,⟨cJ i9 i_,cJ i7 i8,cJ zS Ae⟩,⟨cJ i9 i_,cJ i7 i8,cJ zT Af⟩,⟨cJ i9 i_,cJ i7 i8,cJ zU Ag⟩,⟨cJ i9 i_,cJ i7 i8,cJ zV Ah⟩,⟨cJ i9 i_,cJ i7 i8,cJ vm rY⟩,⟨cJ i9 i_,cJ i7 i8,cJ zW Ai⟩,⟨cJ i9 i_,cJ i7 i8,cJ zX Aj⟩,⟨cJ i9 i_,cJ i7 i8,cJ zY Al⟩,⟨cJ i9 i_,cJ i7 i8,cJ rX vo⟩,⟨cJ i9 i_,cJ zP Ac,cJ vk vn⟩,⟨cJ i9 i_,cJ zQ Ad,cJ vk vn⟩,⟨cJ i9 i_,cJ i7 i8,cJ zO Ab⟩,cJ ⟨%[show toS [85,110,108,105,107,101]=("Unlike":Str)from by decide+kernel|JK X G vd],zZ⟩ ⟨%[show toS [84,111,111,71,114,101,97,116]=("TooGreat":Str)from by decide+kernel|JK X G ve],Am⟩⟩;have YU:C_e≠C_i:=λq=>by rw[q]at rX;cases rX.symm.trans vo
 have YV:C_i≠C_e:=λq=>by rw[q]at rY;cases rY.symm.trans vm
 have YW:gK (xX [([70,108,111,111,114,69,114,114,111,114],C_j),([78,111,70,108,111,111,114],C_a),([78,111,80,108,97,99,101],C_b),([78,111,78,117,109,98,101,114],C_c),([78,111,82,111,119],C_d),([85,110,108,105,107,101],C_e),([78,111,84,105,108,101],C_f),([78,111,82,117,108,101],C_g),([78,111,84,101,120,116],C_h),([84,111,111,71,114,101,97,116],C_i)]):=by intro x hx y hy e;simp only[ys,Ws,List.not_mem_nil,or_false]at hx hy;rcases hx with rfl|rfl<;>rcases hy with rfl|rfl<;>first|rfl|exact absurd e YU|exact absurd e YV
 obtain⟨f19,fd19,F19,m19⟩:=qQ X G y8;obtain⟨f20,fd20,F20,m20⟩:=qQ X G y9;have IJ:=sM (st:=j9) vb za zb;have YX:=JK X G y_;obtain⟨f24,fd24,F24,m24⟩:=qQ X G zd;have YY:=sM (st:=k6) zh zi zj;have IK:=sM (st:=rE) zw zx zy;have YZ:Binds K _ ["self","many","most"] []:=ux IK λ_ _ _ _ _ _ _ _ _=>rfl;refine⟨⟨_,dT⟩,WT "law" "law" (f6 k6) (cZ k6) (aV k6) .none kV27 dc27 pm27 an27 cd27 ct27,λs v=>.of_eq rfl,λbase _ _ tT=>?_⟩;have yR:x6 l.prog w K mg base C_i ["many","most"]:=⟨fi_i,_,["self","many","most"],zA,zB,zD,List.forall_mem_cons.mpr ⟨⟨vf,vg,vh,zE⟩,List.forall_mem_cons.mpr ⟨⟨vf,vg,vh,zF⟩,λ_ h=>nomatch h⟩⟩,YZ,Tu IK XW Z' rfl λvs h=>by unfold Lake.start;simp[h] λaE A outer s H E hr=>Bk (To rfl (pv 0) (pv 1) rfl) (Bl (Tp (pv 0) (pv 2) rfl))⟩;have IB:=Yp (P:=l.prog) (w:=w) (base:=base) T X G d0;have IC:=Yq (P:=l.prog) (w:=w) (base:=base) T X G d1;have Ib:=Yr (P:=l.prog) (w:=w) (base:=base) T X G d2;have i6:=Ys T X G d3 Ib;have Ic:=Yt T X G d4 i6;have Ie:=Yu T X G d5 i6;have Ig:=Yv T X G d6 i6 Ic Ie;have Ih:=Yw (P:=l.prog) (w:=w) (base:=base) T X G d7;have Ii:=Yx T X G d8 i6;have ID:=Yy T X G d9 i6 Ig Ih Ii;have IE:=Yz (P:=l.prog) (w:=w) (base:=base) T X G yT;have Io:=YA (P:=l.prog) (w:=w) (base:=base) T X G yU;have Ij:=YB (P:=l.prog) (w:=w) (base:=base) T X G yV;have Ik:=YC (P:=l.prog) (w:=w) (base:=base) T X G yW;have Il:=YD (P:=l.prog) (w:=w) (base:=base) T X G yX;have Im:=YE (P:=l.prog) (w:=w) (base:=base) T X G yY;have Ip:=YF T X G yZ Ij Ik Il Im;have Iq:=YG T X G y0 Io Ip;have va:=YH (P:=l.prog) (w:=w) (base:=base) T X G y6;have Ir:=YI (P:=l.prog) (w:=w) (base:=base) F19 m19 (qR F19 λ_ _ _ _ _ _ _ _=>rfl) T;have Iu:=YJ (P:=l.prog) (w:=w) (base:=base) F20 m20 (ux F20 λ_ _ _ _ _ _ _ _ _=>rfl) T;have Iv:=YK IJ YX (qR IJ λ_ _ _ _ _ _ _ _=>rfl) T ⟨_,_,_,_,_,_,_,_,vb⟩ dT (λz=>by rw[z]at gT;simp at gT) tT Iq va Ir Iu yR;have Iy:=YL (P:=l.prog) (w:=w) (base:=base) T X G zc;have IF:=YM (P:=l.prog) (w:=w) (base:=base) T X G vc;have Iz:=YN (P:=l.prog) (w:=w) (base:=base) T X G vc;have IG:=YO F24 m24 (qR F24 λ_ _ _ _ _ _ _ _=>rfl) T Iv Iy Iz;have IA:=YQ (P:=l.prog) (w:=w) (base:=base) T X G ze;have IH:=YR T X G zf IA;exact YS YY T IB IC i6 ID IE IF IG IH (yS _ YW)
section
variable{α:Type}[DecidableEq α]
def cg:List α->List α->List α|L,[]=>L|L,k::r=>cg (if k∈L then L else L++[k]) r
theorem An:∀(l L:List α),∃s,cg L l=L++s
 |[],L=>⟨[],#v[cg]⟩|k::r,L=>by
  unfold cg;by_cases h:k∈L;.rw[if_pos h];exact An r L
  .rw[if_neg h];obtain⟨s,e⟩:=An r (L++[k]);exact⟨k::s,by rw[e];simp⟩
theorem Ao{x:α}:∀(l L:List α),x∈cg L l↔x∈L\/x∈l
 |[],L=>#v[cg]|k::r,L=>by
  unfold cg;rw[Ao r];by_cases h:k∈L
  .rw[if_pos h];simp only[Ws];constructor
   .rintro(a|a);.exact .inl a
    .exact .inr (.inr a)
   .rintro(a|a|a);.exact .inl a
    .subst a;exact .inl h
    .exact .inr a
  .rw[if_neg h];simp only[List.mem_append,Ws,List.not_mem_nil,or_false];constructor
   .rintro((a|a)|a);.exact .inl a
    .exact .inr (.inl a)
    .exact .inr (.inr a)
   .rintro(a|a|a);.exact .inl (.inl a)
    .exact .inl (.inr a)
    .exact .inr a
theorem IL:∀(l L:List α),L.Nodup->(cg L l).Nodup
 |[],L,h=>h|k::r,L,h=>by
  unfold cg;refine IL r _ ?_;split;.exact h
  .rename_i q;exact List.nodup_append.mpr ⟨h,U',λa ha b hb e=>q (by rw[<-show b=k by simpa using hb,<-e];exact ha)⟩
theorem vp:∀(l L:List α),(cg L l).length<=L.length+l.length|[],L=>#v[cg]|k::r,L=>by unfold cg;have:=vp r (if k∈L then L else L++[k]);refine WS this ?_;split<;>simp<;>lia
theorem Ap:∀{l ts:List α},l.Nodup->(∀x∈l,x∈ts)->l.length<=ts.length
 |[],_,_,_=>Qh _|a::r,ts,nd,h=>by
  obtain⟨n1,n2⟩:=Q2.mp nd;have ha:=h a Wt;have:=Ap (l:=r) (ts:=ts.erase a) n2 λx hx=>by have:x≠a:=λe=>n1 (by rw[<-e];exact hx);exact(List.mem_erase_of_ne this).mpr (h x (Wm _ hx))
  rw[List.length_erase_of_mem ha]at this;have:=List.length_pos_of_mem ha;simp;lia
end
section
variable{α:Type}[DecidableEq α](pt:α->List α)(x0:α)
def bf:Nat->List α|0=>[x0]|k+1=>cg (bf k) (pt ((bf k).getD k x0))
variable{pt:α->List α}{x0:α}{ts:List α}
theorem vq(k j:Nat):∃s,bf pt x0 (k+j)=bf pt x0 k++s:=by induction j with|zero=>exact⟨[],U'⟩|succ j ih=>obtain⟨s,e⟩:=ih;obtain⟨s',e'⟩:=An (pt ((bf pt x0 (k+j)).getD (k+j) x0)) (bf pt x0 (k+j));exact⟨s++s',(show bf pt x0 (k+(j+1))=_ from e').trans (by rw[e,List.append_assoc])⟩
theorem pk:∀k,(bf pt x0 k).Nodup|0=>#v[bf]|k+1=>IL _ _ (pk k)
theorem vt(h0:x0∈ts)(hp:∀t∈ts,∀p∈pt t,p∈ts):∀k,(∀j<k,j<(bf pt x0 j).length)->∀x∈bf pt x0 k,x∈ts
 |0,_,x,hx=>by
  have:x=x0:=by simpa[bf]using hx
  exact this▸h0|k+1,hk,x,hx=>by
  rcases(Ao _ _).mp hx with h|h;.exact vt h0 hp k (λj hj=>hk j Y') x h
  .refine hp _ (vt h0 hp k (λj hj=>hk j Y') _ ?_) x h;have:=hk k Y';rw[Q5,W3 this];exact WX _
theorem Y0(h0:x0∈ts)(hp:∀t∈ts,∀p∈pt t,p∈ts):∃n,(bf pt x0 n).length=n/\n<=ts.length/\∀j<n,j<(bf pt x0 j).length:=by
 have go:∀m k,m+k=ts.length+1->(∀j<k,j<(bf pt x0 j).length)->∃n,(bf pt x0 n).length=n/\n<=ts.length/\∀j<n,j<(bf pt x0 j).length:=by intro m;induction m with|zero=>intro k e hk;have h1:=hk ts.length Y';have h2:=Ap (pk (pt:=pt) (x0:=x0) ts.length) (vt h0 hp _ λj hj=>hk j Y');lia|succ m ih=>
   intro k e hk;by_cases h:k<(bf pt x0 k).length
   .exact ih (k+1) Y' λj hj=>by
     rcases Nat.lt_or_ge j k with z|z;.exact hk j z
     .rw[show j=k by lia];exact h
   .refine⟨k,?_,Y',hk⟩;cases k with|zero=>simp[bf]at h|succ k=>obtain⟨s,es⟩:=vq (pt:=pt) (x0:=x0) k 1;have:=hk k Y';rw[es]at h⊢;simp at h⊢;lia
 exact go (ts.length+1) 0 Y' λj hj=>by lia
end
noncomputable abbrev pS(d:D):Option S:=some (.pure d)
noncomputable abbrev pO(d:D):Option S:=some (.own d)
abbrev IM:DE:=aA l9 [.io 0,.val (aa 7),.val (aa 10),.val (aa 8)]
abbrev Aq:DE:=bR [14] (c9 (aa 3)) (ag [0] 14) bz IM
theorem iH{it:DI}{b:DS}(h:it δ=.ok ds δ1):bM it g b δ=forL g b ds δ1:=by unfold bM;rw[h];rfl
theorem fj(f:DE)(δ:Dl):aS f δ=(f δ).bind λr δ1=>match r.d with|.lst ds=>.ok ds δ1|.tup ds=>.ok ds δ1|.str x=>.ok (x.map λn=>.str [n]) δ1|_=>.stuck:=id rfl
theorem qa5(neg:Bool)(fa f g:DE)(δ:Dl):RF neg fa f g δ=(fa δ).bind λv δ1=>(f δ1).bind λlo δ2=>(g δ2).bind λhi δ3=>match v.d,lo.d,hi.d with|.int i,.int l,.int h=>.ok (.pure (.bl (if neg then !(decide (l<=i)&&decide (i<h))else decide (l<=i)&&decide (i<h)))) δ3|_,_,_=>.stuck:=id rfl
theorem Ar{A:Type}{cs:List Nat}{g:DG}{t:DT}{el:DE}(f F:A->D)(p:A->Bool)(δ:Dl):∀(as:List A)(acc:List D),acc.length+as.length<=Wa->(∀a∈as,∃δ1 δ2 x δ3,g (.pure (f a)) δ=some δ1/\t δ1=.ok (p a) δ2/\bC cs δ2=δ/\el δ2=.ok x δ3/\bC cs δ3=δ/\x.d=F a)->dW cs g t el (as.map f) δ acc=.ok (acc++(as.filter p).map F) δ
 |[],acc,_,_=>#v[dW]|a::r,acc,hl,hs=>by
  obtain⟨δ1,δ2,x,δ3,e1,e2,e2',e3,e4,e5⟩:=hs a Wt;have iO:acc.length<Wa:=by simp at hl;lia
  rw[Wf];unfold dW;rw[e1];cases hp:p a with|true=>have ih:=Ar (cs:=cs) (g:=g) (t:=t) (el:=el) f F p δ r (acc++[x.d]) P' λa ha=>hs a (Wm _ ha);rw[e5]at ih;rw[hp]at e2;simp only[e2,eZ,if_true,e3,if_pos iO,e4,e5,ih,List.filter_cons,hp];simp|false=>have ih:=Ar (cs:=cs) (g:=g) (t:=t) (el:=el) f F p δ r acc P' λa ha=>hs a (Wm _ ha);rw[hp]at e2;simp only[e2,eZ,e2',ih,List.filter_cons,hp];simp
def nx(s:Int):Int:=(((s+7919)%2147483647)*((s+7919)%2147483647)+48271*((s+7919)%2147483647)+12345)%2147483629
theorem Y1(s:Int):oZ [.pure (.int s)]=some (.pure (.int (nx s)),[.pure (.int s)]):=by
 unfold oZ cf HB eC;have h1:=Int.emod_nonneg (s+7919) (b:=2147483647) Z';have h2:=Int.emod_lt_of_pos (s+7919) (b:=2147483647) Z';have c1:iR ((s+7919)%2147483647) ((s+7919)%2147483647)=true:=by unfold iR;simp;lia
 have c2:iR 48271 ((s+7919)%2147483647)=true:=by unfold iR;simp
 simp[bO,aX,aw,ae,aO,aj,a7,fU,fL,cS,nV,c1,c2,bW,bj];rfl
def a_(d:D):Prop:=∃l f s:Int,d=.lst [.int l,.int f,.int s]/\0<=l
theorem pq{d:D}(hp:a_ d)(m:Nat)(h0:0<m)(h1:m<1073741824):∃(r:Nat)(d':D),cF [.own d,.pure (.int m)]=some (.pure (.int r),[.own d',.pure (.int m)])/\r<m/\a_ d':=by
 obtain⟨l,f,s,rfl,hl⟩:=hp;have hm:(0:Int)<(m:Int):=by lia
 have hd:qi l m=true:=by unfold qi;simp;lia
 unfold cF cf HC eC;by_cases hf:f=1;.subst hf;have e1:=Int.emod_nonneg l (b:=(m:Int)) Y';have e2:=Int.emod_lt_of_pos l hm;refine⟨(l%(m:Int)).toNat,.lst [.int (l/m),.int 1,.int s],?_,Y',⟨_,_,_,rfl,Int.ediv_nonneg hl Y'⟩⟩;simp[bO,aX,aw,ae,aO,aj,aa,ao,cN,cz,kT,uE,yc,aD,fU,nW,fL,h0,hd,lJ,eW,putL,bW,bj,fI];lia
 .have e1:=Int.emod_nonneg (nx (nx s+7)/64) (b:=(m:Int)) Y';have e2:=Int.emod_lt_of_pos (nx (nx s+7)/64) hm;refine⟨(nx (nx s+7)/64%(m:Int)).toNat,.lst [.int l,.int f,.int (nx (nx s+7))],?_,Y',⟨_,_,_,rfl,hl⟩⟩;simp[bO,aX,aw,ae,aO,aj,aa,ao,cN,cz,kT,uE,yc,aD,fU,nW,fL,h0,hd,lJ,eW,putL,bW,bj,fI,hf,aA,bo,bH,bX,bI,bD,Y1,a7,aR,qi];lia
theorem Y2(c:Int):∃d,ny [.pure (.int c)]=some (.own d,[.pure (.int c)])/\a_ d:=by unfold ny cf HA eC;refine⟨.lst [.int (if 0-c>c then 0-c else c),.int (if decide (1000000000000000000<=if 0-c>c then 0-c else c)then 1 else 0),.int ((if 0-c>c then 0-c else c)%1000003)],?_,⟨_,_,_,rfl,by split<;>lia⟩⟩;simp[bO,aX,aw,ae,aO,aj,aa,xh,qg,fL,mJ,w8,cz,tY,w4,fU,bW,bj]
theorem Y3(ns:List Int):∃c:Int,oY [.pure (.lst (ns.map .int)),.pure (.int 0)]=some (.pure (.int c),[.pure (.lst (ns.map .int)),.pure (.int 0)]):=by unfold oY cf Hz eC;cases ns with|nil=>exact⟨0,#v[bO,aX,ae,aO,aj,iy,cz,aD,bB,bW,bj]⟩|cons n r=>exact⟨n,by
 have:(0:Int)<(r.length:Int)+1:=by lia
 simp[bO,aX,ae,aO,aj,iy,cz,aD,bB,bW,bj,ao,kT,this]⟩
theorem ke{d:D}(hp:a_ d)(m:Nat)(i:Int)(hi:i=m)(h0:0<m)(h1:m<1073741824):∃(r:Nat)(d':D),cF [.own d,.pure (.int i)]=some (.pure (.int r),[.own d',.pure (.int i)])/\r<m/\a_ d':=by subst hi;exact pq hp m h0 h1
def ba:Tx:=dY
theorem Y4{d:D}(hp:a_ d):∃(h w:Nat)(d':D),rO [.own d]=some (.pure (.tup [.int h,.int w]),[.own d'])/\0<h/\h<=4/\0<w/\w<=4/\2<h+w/\a_ d':=by
 obtain⟨r1,d1,e1,l1,p1⟩:=ke hp 3 3 rfl Z' Z';obtain⟨r2,d2,e2,l2,p2⟩:=ke p1 3 3 rfl Z' Z';obtain⟨r3,d3,e3,l3,p3⟩:=ke p2 8 8 rfl Z' Z';obtain⟨r4,d4,e4,l4,p4⟩:=ke p3 6 6 rfl Z' Z';rw[rO,HD];generalize cF=GD at*;have tb:∃h w:Nat,ao (.lst [.tup [.int 4,.int 1],.tup [.int 1,.int 4],.tup [.int 4,.int 4],.tup [.int 4,.int 3],.tup [.int 1,.int 2],.tup [.int 2,.int 1]]) (.int r4)=pS (.tup [.int h,.int w])/\0<h/\h<=4/\0<w/\w<=4:=by
   rcases show r4=0\/r4=1\/r4=2\/r4=3\/r4=4\/r4=5 by lia with rfl|rfl|rfl|rfl|rfl|rfl;.exact⟨4,1,rfl,Z'⟩
   .exact⟨1,4,rfl,Z'⟩
   .exact⟨4,4,rfl,Z'⟩
   .exact⟨4,3,rfl,Z'⟩
   .exact⟨1,2,rfl,Z'⟩
   .exact⟨2,1,rfl,Z'⟩
 have ea:∀a:Nat,a7 (.int 1) (.int a)=pS (.int ((1+a:Nat):Int)):=λa=>#v[a7]
 have key:∃(h w:Nat)(d':D),0<h/\h<=4/\0<w/\w<=4/\a_ d'/\(ck (aD (ax cN (aA GD [.io 0,.val (eD (.int 8))]) (ah (eD (.int 0))))) (aw (ax ao (kK [.tup [.int 4,.int 1],.tup [.int 1,.int 4],.tup [.int 4,.int 4],.tup [.int 4,.int 3],.tup [.int 1,.int 2],.tup [.int 2,.int 1]]) (ah (aA GD [.io 0,.val (eD (.int 6))]))) (bV 2 (aQ (ag [0] 1) (aQ (ag [0] 2) cn)))) cA) [pO d2,pS (.int ((1+r1:Nat):Int)),pS (.int ((1+r2:Nat):Int))]=.ok .next [pO d',pS (.int h),pS (.int w)]:=by
   by_cases h3:r3=0;.subst h3;obtain⟨h,w,tb,a1,a2,a3,a4⟩:=tb;refine⟨h,w,d4,a1,a2,a3,a4,p4,?_⟩;have q:cN (.int ((0:Nat):Int)) (.int 0)=pS (.bl true):=rfl;generalize D.int ((1+r1:Nat):Int)=x1,D.int ((1+r2:Nat):Int)=x2,D.int (h:Int)=H,D.int (w:Int)=W,D.int ((0:Nat):Int)=z0 at*;simp[aD,aw,ax,kK,aA,bo,bX,bH,bI,bD,e3,e4,aR,q,tb,bV,aQ,cn,S.d]
   . refine⟨1+r1,1+r2,d3,Y',Y',Y',Y',p3,?_⟩;have q:cN (.int (r3:Int)) (.int 0)=pS (.bl false):=#v[cN,cz,h3]
     generalize D.int ((1+r1:Nat):Int)=x1,D.int ((1+r2:Nat):Int)=x2,D.int (r3:Int)=z0 at*;simp[aD,ax,aA,bo,bX,bH,bI,bD,e3,aR,q,S.d]
 obtain⟨h,w,d',a1,a2,a3,a4,pd,key⟩:=key;have s0:a7 (.int h) (.int w)=pS (.int ((h+w:Nat):Int)):=#v[a7]
 have q:cN (.int ((h+w:Nat):Int)) (.int 2)=pS (.bl (decide (h+w=2))):=by
   by_cases e:h+w=2;.rw[e];rfl
   . have:¬((h+w:Nat):Int)=2:=by lia
     rw[decide_eq_false e];generalize((h+w:Nat):Int)=z at*;simp[cN,cz,this]
 have k1:=ea r1;have k2:=ea r2;refine⟨h,if h+w=2 then 2 else w,d',gR (bF (δ1:=[pO d1,pS (.int ((1+r1:Nat):Int)),none]) (bF (δ1:=[pO d2,pS (.int ((1+r1:Nat):Int)),pS (.int ((1+r2:Nat):Int))]) (bF (bF (δ1:=[pO d',pS (.int h),pS (.int ((if h+w=2 then 2 else w:Nat):Int))]) rfl ?_) key) ?_) ?_) rfl rfl,a1,a2,by split<;>omega,by split<;>omega,by split<;>omega,pd⟩
 . split;.rename_i e;rw[decide_eq_true e]at q;generalize D.int ((h+w:Nat):Int)=x1,D.int (h:Int)=H,D.int (w:Int)=W at*;simp[aD,ax,ae,aO,aj,s0,q,aw,S.d]
   .rename_i e;rw[decide_eq_false e]at q;generalize D.int ((h+w:Nat):Int)=x1,D.int (h:Int)=H,D.int (w:Int)=W at*;simp[aD,ax,ae,aO,aj,s0,q,S.d]
 .generalize D.int ((1+r1:Nat):Int)=x1,D.int ((1+r2:Nat):Int)=x2,D.int (r2:Int)=z at*;simp[aw,ax,aA,bo,bX,bH,bI,bD,e2,aR,k2,S.d]
 .generalize D.int ((1+r1:Nat):Int)=x1,D.int (r1:Int)=z at*;simp[aX,aw,ax,aA,bo,bX,bH,bI,bD,e1,aR,k1,S.d]
theorem As(ts:List Nat)(r:Nat)(h:r<ts.length):ao (.lst (ts.map λn=>.str [n])) (.int r)=pS (.str [ts.getD r 0]):=#v[ao,h9,h]
theorem nx2{a b:DS}{v:S}(e:a δ=.ok (.ret v) δ1):au a b δ=.ok (.ret v) δ1:=by unfold au;rw[e];rfl
theorem Y5{d:D}(hp:a_ d)(ts:List Nat)(place way:Nat)(h1:place<ts.length)(h2:ts.length<=64):∃(n:Nat)(d':D),l9 [.own d,.pure (.lst (ts.map λn=>.str [n])),.pure (.int place),.pure (.int way)]=some (.pure (.str [n]),[.own d',.pure (.lst (ts.map λn=>.str [n])),.pure (.int place),.pure (.int way)])/\n∈ts/\a_ d':=by
 have mem:∀r,r<ts.length->ts.getD r 0∈ts:=λr h=>by simp[h]
 have hD:=λ{d}(hp:a_ d)m a b=>pq hp m a b;have ix:=λr h=>As ts r h;have ln:bB (.lst (ts.map λn=>.str [n]))=pS (.int ts.length):=#v[bB]
 have hr:(place+1)%ts.length<ts.length:=Nat.mod_lt _ Y';have hm:fU (.int ((place+1:Nat):Int)) (.int ts.length)=pS (.int (((place+1)%ts.length:Nat):Int)):=by simp only[fU,fL];rw[if_pos (by simp;omega)];simp
 have ha:a7 (.int place) (.int 1)=pS (.int ((place+1:Nat):Int)):=#v[a7]
 rw[l9,HE];generalize cF=GD,D.lst (ts.map λn=>.str [n])=T at*;have tk:∀(k:Nat)(z:Int),z=k->∀e,aD (ae cN 3 (ah (eD (.int z)))) [pO e,pS T,pS (.int place),pS (.int way)]=.ok (decide (way=k)) [pO e,pS T,pS (.int place),pS (.int way)]:=λk z hz e=>by
   subst hz;have:cN (.int way) (.int k)=pS (.bl (decide (way=k))):=by
     by_cases q:way=k;.simp[cN,cz,q]
     . have:¬(way:Int)=k:=by lia
       simp[cN,cz,q,this]
   generalize D.int (way:Int)=y at*;simp[aD,ae,aO,aj,this,S.d]
 have fin:∀(r:Nat)(d':D),r<ts.length->a_ d'->∀{b:DS},b [pO d,pS T,pS (.int place),pS (.int way)]=.ok (.ret (.pure (.str [ts.getD r 0]))) [pO d',pS T,pS (.int place),pS (.int way)]->∃(n:Nat)(d':D),cf [0] 4 b [.own d,.pure T,.pure (.int place),.pure (.int way)]=some (.pure (.str [n]),[.own d',.pure T,.pure (.int place),.pure (.int way)])/\n∈ts/\a_ d':=λr d' h p b e=>⟨_,d',gR e rfl rfl,mem r h,p⟩;have lst:∀(e:D),a_ e->∃r d',r<ts.length/\a_ d'/\bt (ae ao 1 (ah (aA GD [.io 0,.val (aC bB (aj 1))]))) [pO e,pS T,pS (.int place),pS (.int way)]=.ok (.ret (.pure (.str [ts.getD r 0]))) [pO d',pS T,pS (.int place),pS (.int way)]:=λe pe=>by obtain⟨r,d',e1,l,p⟩:=hD pe ts.length Y' Y';have x:=ix r l;refine⟨r,d',l,p,?_⟩;generalize D.int (ts.length:Int)=y,D.int (r:Int)=z,D.str [ts.getD r 0]=u at*;simp[ae,aO,aj,aA,bo,bX,bH,bI,bD,ln,e1,aR,x,S.d]
 have t1:=tk 1 1 rfl;have t2:=tk 2 2 rfl;have t3:=tk 3 3 rfl;by_cases w1:way=1;.obtain⟨r,d',e1,l,p⟩:=hD hp (place+1) Y' Y';have x:=ix r Y';refine fin r d' Y' p ?_;simp only[w1,decide_true]at t1;unfold au;rw[T_,w1,t1];generalize D.int ((place+1:Nat):Int)=y,D.int (r:Int)=z,D.str [ts.getD r 0]=u at*;simp[ae,aO,aj,aA,bo,bX,bH,bI,bD,ha,e1,aR,x,S.d]
 . rw[decide_eq_false w1]at t1;by_cases w2:way=2;.rw[decide_eq_true w2]at t2;have x:=ix _ hr;refine fin _ d hr hp (rA (rC (nx2 ?_)) (t1 d));rw[T_,t2];generalize D.int ((place+1:Nat):Int)=y,D.int (((place+1)%ts.length:Nat):Int)=z,D.str [ts.getD ((place+1)%ts.length) 0]=u at*;simp[ae,aO,ax,aj,ln,ha,hm,x,S.d]
   . rw[decide_eq_false w2]at t2;by_cases w3:way=3
     . rw[decide_eq_true w3]at t3;obtain⟨r,d1,e1,l,p⟩:=hD hp 4 Z' Z';have e1:GD [.own d,.pure (.int 4)]=some (.pure (.int r),[.own d1,.pure (.int 4)]):=e1;have g:d_ (.int r) (.int 0)=pS (.bl (decide (0<r))):=by
         by_cases q:0<r;.simp[d_,cz,q]
         .simp[d_,cz,q]
       have t4:f_ (aD (ae cN 3 (ah (eD (.int 3))))) (aD (ax d_ (aA GD [.io 0,.val (eD (.int 4))]) (ah (eD (.int 0))))) [pO d,pS T,pS (.int place),pS (.int way)]=.ok (decide (0<r)) [pO d1,pS T,pS (.int place),pS (.int way)]:=by generalize D.int (r:Int)=z,D.int (place:Int)=u,D.int (way:Int)=v at*;unfold f_;rw[t3];simp[aD,ax,aA,bo,bX,bH,bI,bD,e1,aR,g,S.d]
       by_cases q:0<r;.rw[decide_eq_true q]at t4;have x:=ix place h1;refine fin place d1 h1 p (rA (rC (rA (rC (nx2 ?_)) (t2 d))) (t1 d));rw[T_,t4];generalize D.int (place:Int)=u,D.str [ts.getD place 0]=y at*;simp[ae,aO,aj,x,S.d]
       .rw[decide_eq_false q]at t4;obtain⟨r,d',l,p,e⟩:=lst d1 p;exact fin r d' l p (rA (rC (rA (rC (rA (rC e) t4)) (t2 d))) (t1 d))
     .rw[decide_eq_false w3]at t3;obtain⟨r,d',l,p,e⟩:=lst d hp;refine fin r d' l p (rA (rC (rA (rC (rA (rC e) ?_)) (t2 d))) (t1 d));simp[f_,t3]
theorem Y6:∀k,k<26->ba.getD k 0=97+k:=by decide
theorem Y7(xs:List Nat)(h:xs.length<64):mK (.lst (xs.map λn=>.str [n]))=pO (.lst ((iE xs).map λn=>.str [n])):=by
 have e:(xs.map λn=>D.str [n])=(xs.map λn=>[n]).map D.str:=by simp
 unfold mK;simp only[e,oy];rw[if_pos (~~~h),FD];simp
def jA(f n:Nat):List Nat:=(WM n).map λk=>97+(f+5*k)%26
theorem Y8(f n:Nat)(hn:n<=26):(jA f n).Nodup:=by unfold jA;rw[List.nodup_iff_pairwise_ne,List.pairwise_map];refine List.pairwise_lt_range (n:=n).imp_of_mem ?_;intro a b ha hb je e;simp at ha hb;lia
def rb(pd:D)(m h w n f:Nat)(s7:S)(wy:Nat)(blocks:List D)(a b c:Option S):Dl:=[pO pd,pS (.int m),pS (.int h),pS (.int w),pS (.int (1+(n:Int))),pS (.int f),pS (.str ba),some s7,pS (.int wy),pO (.lst blocks),a,b,c,none,none]
def tD(ts:List Nat):D:=.lst (ts.map λn=>.str [n])
def sT(ts:List Nat)(s:S):Prop:=s=.own (tD ts)\/s=.pure (tD ts)
theorem Y9{m h f wy:Nat}(dM:ts.length<=64)(hw:w<=4)(gL:a_ pd)(h7:sT ts s7)(blocks:List D)(place:Nat)(bu:place<ts.length)(block:List D)(row:Nat):∃(x:Tx)(bb:D)(gM:S),dW [14] (ag [0] 14) bz IM (cI 0 w) (rb pd m h w n f s7 wy blocks (pS (.int place)) (pO (.lst block)) (pS (.int row))) []=.ok (x.map λn=>.str [n]) (rb bb m h w n f gM wy blocks (pS (.int place)) (pO (.lst block)) (pS (.int row)))/\x.length=w/\(∀n∈x,n∈ts)/\a_ bb/\sT ts gM:=by
 obtain⟨xs,δ',e,⟨bb,gM,hpd',h7',rfl⟩,hn,hf⟩:=uF (cs:=[14]) (g:=ag [0] 14) (t:=bz) (el:=aA l9 [.io 0,.val (aa 7),.val (aa 10),.val (aa 8)]) (λδ=>∃pd s7,a_ pd/\sT ts s7/\δ=rb pd m h w n f s7 wy blocks (pS (.int place)) (pO (.lst block)) (pS (.int row))) (λ_ x=>∃n,n∈ts/\x=.str [n]) (cI 0 w) _ [] ⟨pd,s7,gL,h7,rfl⟩ (by rw[cT];simp;lia) λd hd δ hh=>by
   obtain⟨pd,s7,gL,h7,e⟩:=hh
   subst e;obtain⟨i,hi,rfl⟩:=Fy hd;obtain⟨k,d',e,hk,p⟩:=Y5 gL ts place wy bu dM;have e':l9 [.own pd,.pure (tD ts),.pure (.int place),.pure (.int wy)]=some (.pure (.str [k]),[.own d',.pure (tD ts),.pure (.int place),.pure (.int wy)]):=e;refine⟨_,_,.pure (.str [k]),(rb d' m h w n f (.pure (tD ts)) wy blocks (pS (.int place)) (pO (.lst block)) (pS (.int row))).set 14 (pS (.int i)),rfl,rfl,?_,⟨d',_,p,.inr rfl,rfl⟩,⟨_,hk,rfl⟩⟩;rcases h7 with rfl|rfl;.simp[rb,aA,bo,bX,bH,bI,aa,bD,e',aR]
   .simp[rb,aA,bo,bX,bH,bI,aa,bD,e',aR]
 obtain⟨x,rfl,hx⟩:=yg (P:=λn=>n∈ts) (FI hn hf λd x _ h=>h);exact⟨x,bb,gM,~~~e,~~~hn,hx,hpd',h7'⟩
theorem Y_{m h f wy:Nat}(dM:ts.length<=64)(hw:w<=4)(hh:h<=4)(gL:a_ pd)(h7:sT ts s7)(blocks:List D)(place:Nat)(bu:place<ts.length)(rs:Option S):∃(fl:List Tx)(bb:D)(gM:S)(rZ:Option S),forL (ag [0] 12) (bG 11 (aC (cE []) (ah Aq))) (cI 0 h) (rb pd m h w n f s7 wy blocks (pS (.int place)) (pO (.lst [])) rs)=.ok .next (rb bb m h w n f gM wy blocks (pS (.int place)) (pO (.lst (fl.map .str))) rZ)/\fl.length=h/\(∀r∈fl,r.length=w/\∀n∈r,n∈ts)/\a_ bb/\sT ts gM:=by
 obtain⟨δ',e3,bb,gM,fl,rZ,hpd',h7',gW,hall,rfl⟩:=jW (g:=ag [0] 12) (b:=bG 11 (aC (cE []) (ah Aq))) (λk δ=>∃(pd:D)(s7:S)(fl:List Tx)(rs:Option S),a_ pd/\sT ts s7/\fl.length=k/\(∀r∈fl,r.length=w/\∀n∈r,n∈ts)/\δ=rb pd m h w n f s7 wy blocks (pS (.int place)) (pO (.lst (fl.map .str))) rs) (cI 0 h) 0 _ ⟨pd,s7,[],rs,gL,h7,rfl,U',rfl⟩ λi d δ hd hh=>by
   obtain⟨pd,s7,fl,rs,gL,h7,gW,hall,e⟩:=hh
   subst e;obtain⟨hi,rfl⟩:=qT hd;obtain⟨x,bb,gM,e,hx,hxt,hpd',h7'⟩:=Y9 (m:=m) (h:=h) (n:=n) (f:=f) (wy:=wy) dM hw gL h7 blocks place bu (fl.map .str) i;have hz:fl.length<Wa:=by rw[cT];lia
   have ej:=Fx x Y';refine⟨_,rb bb m h w n f gM wy blocks (pS (.int place)) (pO (.lst ((fl++[x]).map .str))) (pS (.int i)),rfl,?_,⟨bb,gM,fl++[x],_,hpd',h7',#v[gW],?_,rfl⟩⟩;.unfold rb at e⊢;simp[bG,eW,aa,m5 w Y',bH,bC];rw[e];simp[ej,dC,putL,hz]
   .intro r hr;rcases QF.mp hr with hr|hr;.exact hall r hr
    .simp at hr;subst hr;exact⟨hx,hxt⟩
 exact⟨fl,bb,gM,rZ,e3,~~~gW,hall,hpd',h7'⟩
theorem Za{d:D}(hp:a_ d)(m:Nat)(Zb:0<m)(uz:m<=26):∃(h w:Nat)(bs:List (Nat×List Tx))(d':D),rP [.own d,.pure (.int m)]=some (.pure (aq h w bs),[.own d',.pure (.int m)])/\FK h w bs/\bs.length<=m/\a_ d':=by
 obtain⟨h,w,d1,e1,h0,h1,w0,w1,hw,p1⟩:=Y4 hp;obtain⟨r,d2,e2,l2,p2⟩:=pq p1 m Zb Y';obtain⟨f,d3,e3,l3,p3⟩:=ke p2 26 26 rfl Z' Z';obtain⟨wy,d4,e4,l4,p4⟩:=ke p3 5 5 rfl Z' Z';have ec:=Ut (cs:=[13]) (g:=ag [0] 13) (t:=bz) (el:=ae ao 6 (ah (ax fU (ae a7 5 (ah (ax cS (eD (.int 5)) (aj 13)))) (ah (eD (.int 26)))))) λd=>match d with|.int k=>.str [97+(f+5*k.toNat)%26]|_=>.aJ
  [pO d3,pS (.int m),pS (.int h),pS (.int w),pS (.int (1+(r:Int))),pS (.int f),pS (.str ba),none,none,none,none,none,none,none,none] (cI 0 (1+r)) [] (by rw[cT];simp;lia) λd hd=>by
   obtain⟨i,hi,rfl⟩:=Fy hd;refine⟨_,_,.pure (.str [97+(f+5*i)%26]),[pO d3,pS (.int m),pS (.int h),pS (.int w),pS (.int (1+(r:Int))),pS (.int f),pS (.str ba),none,none,none,none,none,none,pS (.int i),none],rfl,rfl,?_,rfl,rfl⟩;have hk:(f+5*i)%26<26:=Nat.mod_lt _ Z';have hx:=Uw ba ((f+5*i)%26) hk Z';rw[Y6 _ hk]at hx;have hc:((f:Int)+5*(i:Int))%26=(((f+5*i)%26:Nat):Int):=by lia
   have hmul:cS (.int 5) (.int i)=pS (.int (5*(i:Int))):=by
    unfold cS nV fL;have:iR 5 i=true:=by unfold iR;simp
    simp only[this,if_true]
   have Zc:fU (.int ((f:Int)+5*(i:Int))) (.int 26)=pS (.int (((f+5*i)%26:Nat):Int)):=by rw[<-hc];rfl
   generalize ba=lt at hx⊢;simp only[ae,aO,aj,yb,T9,T8,eZ,uD,QT,JF,Q6,Qn,ow,hmul,a7,Zc,hx]
 have Zd:List.map (λ(d:D)=>match d with|.int k=>D.str [97+(f+5*k.toNat)%26]|_=>.aJ) (cI 0 (1+r))=(jA f (1+r)).map λn=>.str [n]:=by simp[cI,jA]
 rw[Zd]at ec;simp only[WQ]at ec;have IP:(jA f (1+r)).length=1+r:=#v[jA];have es:=Y7 (jA f (1+r)) (by rw[IP];lia);have dM:(iE (jA f (1+r))).length=1+r:=by rw[FF,IP]
 have bq:=FH (Y8 f (1+r) Y');have hle:∀t∈iE (jA f (1+r)),97<=t/\t<=122:=λt ht=>by rw[yf]at ht;simp[jA]at ht;obtain⟨k,_,rfl⟩:=ht;lia
 generalize iE (jA f (1+r))=ts at es dM bq hle;obtain⟨δ',e5,pd,s7,bs,a,b,c,gL,h7,k8,hbt,hall,rfl⟩:=jW (g:=ag [0] 10) (b:=au (aw (cj ay) (ag [0] 11)) (au (bM (c9 (aa 2)) (ag [0] 12) (bG 11 (aC (cE []) (ah Aq)))) (bG 9 (aG (ak (ae ao 7 (aj 10)) (ak (aC cq (aj 11)) ay)))))) (λk δ=>∃(pd:D)(s7:S)(bs:List (Nat×List Tx))(a b c:Option S),a_ pd/\sT ts s7/\bs.length=k/\bs.map (·.1)=ts.take k/\(∀b∈bs,b.2.length=h/\∀r∈b.2,r.length=w/\∀n∈r,n∈ts)/\δ=rb pd m h w r f s7 wy (bs.map aT) a b c) (cI 0 (1+r)) 0 (rb d4 m h w r f (.own (tD ts)) wy [] none none none) ⟨d4,_,[],none,none,none,p4,.inl rfl,rfl,rfl,U',rfl⟩ λi d δ hd hh=>by
   obtain⟨pd,s7,bs,a,b,c,gL,h7,k8,hbt,hall,e⟩:=hh
   subst e;obtain⟨hi,rfl⟩:=qT hd;rw[Qd]at k8 hbt;obtain⟨fl,bb,gM,rZ,e,gW,hflt,hpd',h7'⟩:=Y_ (m:=m) (n:=r) (f:=f) (wy:=wy) (ts:=ts) Y' w1 h1 gL h7 (bs.map aT) i Y' c;have hz:bs.length<Wa:=by rw[cT];lia
   have hx:=As ts i Y';refine⟨_,rb bb m h w r f gM wy ((bs++[(ts.getD i 0,fl)]).map aT) (pS (.int i)) (pO (.lst (fl.map .str))) rZ,rfl,?_,⟨bb,gM,bs++[(ts.getD i 0,fl)],_,_,_,hpd',h7',#v[k8],?_,?_,rfl⟩⟩
   .unfold rb at e⊢;simp[aw,aa,m5 h Y'];rw[e];rcases h7' with rfl|rfl;.simp[bG,eW,ae,aO,aj,tD,hx,cq,putL,hz,aT]
    .simp[bG,eW,ae,aO,aj,tD,hx,cq,putL,hz,aT]
   .rw[Qd,QZ,hbt,JL];simp[show i<ts.length by lia]
   .intro b hb;rcases QF.mp hb with hb|hb;.exact hall b hb
    .simp at hb;subst hb;exact⟨gW,hflt⟩
 have qa6:bs.length=1+r:= ~~~k8;have Au:bs.map (·.1)=ts:=by rw[hbt,Ja];simp[dM]
 refine⟨h,w,bs,pd,?_,⟨h0,h1,w0,w1,hw,Y',Y',%[Au|bq],λb hb=>hle _ (by rw[<-Au];exact WU hb),λb hb=>%[Au|hall b hb]⟩,Y',gL⟩;unfold rP cf HF eC;unfold ba at ec;simp[bO,aX,aw,aA,bo,bX,bH,bI,bD,e1,aR,bV,aQ,cn,aa,e2,a7,e3,FJ r Y',bC];rw[ec];simp[dC,es,e4,aR,aa,FJ r Y'];unfold rb ba tD at e5;rw[e5];simp[aj,cq,bW,bj,aa]
theorem eq_int(i j:Int):cN (.int i) (.int j)=pS (.bl (i==j)):=rfl
theorem ne_int(i j:Int):oI (.int i) (.int j)=pS (.bl !i==j):=rfl
theorem add_int(i j:Int):a7 (.int i) (.int j)=pS (.int (i+j)):=rfl
theorem kf(np:List Nat)(n:Nat)(b:DS)(ss:List S):cf np n b ss=if bO np 0 ss then match b (aX n ss)with|.ok fl δ=>(bW fl).bind λr=>(bj 0 ss δ).map λaH=>(r,aH)|_=>none else none:=rfl
theorem me(h w:Nat)(bs:List (Nat×List Tx)):ao (aq h w bs) (.int 0)=pS (.int h)/\ao (aq h w bs) (.int 1)=pS (.int w)/\ao (aq h w bs) (.int 2)=pS (.tup (bs.map aT)):=by
 refine⟨?_,?_,?_⟩;.simp[ao,kT]
 .simp[ao,uE]
 .simp[ao,yc]
theorem Aw:∀(kps acc:List (cy×D)),((acc++kps).map (·.1)).Nodup->mT kps acc=acc++kps
 |[],acc,_=>#v[mT]|p::r,acc,h=>by
  have hn:(acc.any λkv=>decide (kv.1=p.1))=false:=by rw[List.any_eq_false];intro kv hkv;simp only[decide_eq_true_eq];intro e;rw[QZ,List.nodup_append]at h;exact h.2.2 kv.1 (WU hkv) p.1 (WU Wt) e
  have hp:putD acc p.1 p.2=acc++[p]:=by unfold putD;rw[hn];simp
  show mT r (putD acc p.1 p.2)=_;rw[hp,Aw r (acc++[p]) (~~~h)];simp
theorem Ze(x:Tx)(h:x.length<=1000):eJ (some 1) none (.str x)=pS (.str x.tail):=by
 unfold eJ;have hz:Wa=16777216:=rfl;simp only;rw[if_pos Y'];have:cD x (some 1) none=x.tail:=by unfold cD Lake.aU;simp;cases x with|nil=>simp|cons a r=>simp
 rw[this]
theorem Zf(ds:List D):eJ (some 1) none (.tup ds)=pS (.tup ds.tail):=by
 have:cD ds (some 1) none=ds.tail:=by unfold cD Lake.aU;simp;cases ds with|nil=>simp|cons a r=>simp
 show some (S.pure (.tup (cD ds (some 1) none)))=_;rw[this]
theorem add_str(x y:Tx)(h:x.length+y.length<=1000):a7 (.str x) (.str y)=pS (.str (x++y)):=by have hz:Wa=16777216:=rfl;simp only[a7];rw[if_pos Y']
theorem vw(x y:List D)(h:x.length+y.length<=1000):a7 (.tup x) (.tup y)=pS (.tup (x++y)):=by have hz:Wa=16777216:=rfl;simp only[a7];rw[if_pos Y']
theorem IQ(np:List Nat)(n:Nat)(b:DS)(ss:List S):mW np n b ss=if bO np 0 ss then match b (aX n ss)with|.ok fl δ=>(bW fl).bind λr=>(bj 0 ss δ).map λaH=>.inl (r,aH)|.exc x δ=>(bj 0 ss δ).map λaH=>.inr (x,aH)|.stuck=>none else none:=rfl
@[simp]theorem zfw{α β:Type}(x:Xc)(δ:Dl)(f:α->Dl->Rs β):(Rs.exc x δ:Rs α).bind f=.exc x δ:=id rfl
theorem ja{a b:DS}{x:Rs Fl}(h:a δ=.ok .next δ1)(h2:b δ1=x):au a b δ=x:=by rw[Us,h];simpa using h2
theorem Ax{α:Type}(xs:List α)(k:Nat)(h:k<=xs.length):cD xs none (some (k:Int))=xs.take k:=by
 have:¬(k:Int)<0:=by lia
 unfold cD Lake.aU;simp[this]
theorem Zg{α:Type}(xs:List α)(k:Nat)(h:k<=xs.length):cD xs (some (k:Int)) none=xs.drop k:=by
 have:¬(k:Int)<0:=by lia
 unfold cD Lake.aU;simp[this,Nat.min_eq_left h];exact Ja U'
theorem pQ(ds:List D)(lo hi:Option Int):eJ lo hi (.tup ds)=pS (.tup (cD ds lo hi)):=rfl
theorem tO(x:Tx)(h:x.length<=1000)(lo hi:Option Int):eJ lo hi (.str x)=pS (.str (cD x lo hi)):=by unfold eJ;simp only;rw[if_pos (by rw[cT];lia)]
theorem IS(ts:List Nat):bB (tD ts)=pS (.int ts.length):=#v[tD,bB]
theorem Ay(ts:List Nat)(r:Nat)(h:r<ts.length):ao (tD ts) (.int r)=pS (.str [ts.getD r 0]):=As ts r h
theorem Zh(ts:List Nat)(n:Nat):gG true (.str [n]) (.lst (ts.map λn=>.str [n]))=pS (.bl !ts.contains n):=by
 have e:(ts.map λn=>D.str [n])=(ts.map λn=>[n]).map D.str:=by simp
 have c:(ts.map λn=>([n]:Tx)).contains [n]=ts.contains n:=by induction ts with|nil=>rfl|cons a r ih=>simp only[Wf,Je,ih U'];congr 1;simp
 unfold gG;simp only[e,oy,c];rfl
structure bc(h w:Nat)(bs:List (Nat×List Tx)):Prop where
 h0:0<h
 h1:h<=4w0:0<w
 w1:w<=4n0:0<bs.length
 n1:bs.length<=26nd:(bs.map (·.1)).Nodup
 cW:∀b∈bs,b.2.length=h/\∀r∈b.2,r.length=w/\∀n∈r,n∈bs.map (·.1)
theorem Zi{h:Nat}{bs:List (Nat×List Tx)}(R:FK h w bs):bc h w bs:=⟨R.h0,R.h1,R.w0,R.w1,R.n0,by have:=R.n1;lia,R.up.imp λh=>WA h,R.cW⟩
def mf(b:Nat×List Tx):Nat×List Tx:=(b.1,(b.1::(b.2.headD []).tail)::b.2.tail)
def ig(bs:List (Nat×List Tx))(k:Nat):List (Nat×List Tx):=match bs[k]? with|some b=>bs.take k++mf b::bs.drop (k+1)|none=>bs
theorem nD(bs:List (Nat×List Tx))(k:Nat):(ig bs k).map (·.1)=bs.map (·.1):=by unfold ig;cases e:bs[k]? with|none=>rfl|some b=>
 obtain⟨hk,eb⟩:=W8.mp e;have:bs=bs.take k++b::bs.drop (k+1):=by rw[<-eb,<-Qt hk,List.take_append_drop]
 conv=>rhs;rw[this]
 simp[mf]
theorem Zj{bs:List (Nat×List Tx)}{k:Nat}{b:Nat×List Tx}(h:b∈ig bs k):b∈bs\/∃c∈bs,b=mf c:=by unfold ig at h;cases e:bs[k]? with|none=>rw[e]at h;exact .inl h|some c=>
  rw[e]at h;rcases QF.mp h with h|h;.exact .inl (List.mem_of_mem_take h)
  .rcases Ws.mp h with h|h;.exact .inr ⟨c,Wq e,h⟩
   .exact .inl (List.mem_of_mem_drop h)
theorem IT{h:Nat}{bs:List (Nat×List Tx)}(R:bc h w bs)(k:Nat):bc h w (ig bs k):=by
 have e:=nD bs k;have el:(ig bs k).length=bs.length:=by have:=congrArg JY e;simpa using this
 refine⟨R.h0,R.h1,R.w0,R.w1,%[el|R.n0],%[el|R.n1],%[e|R.nd],λb hb=>?_⟩;rw[e];rcases Zj hb with hb|⟨c,hc,rfl⟩;.exact R.cW b hb
 .obtain⟨h1,h2⟩:=R.cW c hc;have EC:c.1∈bs.map (·.1):=WU hc;have w0:=R.w0;have h0:=R.h0;cases hq:c.2 with|nil=>rw[hq]at h1;simp at h1;lia|cons r q=>
   rw[hq]at h1 h2;have hr:=h2 r Wt;unfold mf;rw[hq];refine⟨~~~h1,λx hx=>?_⟩;rcases Ws.mp hx with rfl|hx
   .refine⟨by simp[List.headD];lia,λn hn=>?_⟩;rcases Ws.mp hn with rfl|hn;.exact EC
    .exact hr.2 n (List.mem_of_mem_tail (by simpa[List.headD]using hn))
   .exact h2 x (Wm _ (~~~hx))
theorem Zk{h:Nat}{bs:List (Nat×List Tx)}(R:bc h w bs){k:Nat}(hk:k<bs.length):o_ [.pure (aq h w bs),.pure (.int k)]=some (.pure (aq h w (ig bs k)),[.pure (aq h w bs),.pure (.int k)]):=by
 have hb:bs[k]?=some bs[k]:=#v[hk];obtain⟨b1,b2⟩:=R.cW bs[k] (WX hk);have es:ig bs k=bs.take k++mf bs[k]::bs.drop (k+1):=by unfold ig;rw[hb]
 rw[es];have n1:=R.n1;have h0:=R.h0;have w0:=R.w0;have w1:=R.w1;have h1:=R.h1;generalize bs[k]=b at*;obtain⟨tl,bl⟩:=b;simp only at b1 b2;cases bl with|nil=>simp at b1;lia|cons r q=>
 have hr:=b2 r Wt;have x1:ao (.tup (bs.map aT)) (.int (k:Int))=pS (.tup [.str [tl],bA (r::q)]):=by simp[ao,h9,hb]
 have x2:ao (bA (r::q)) (.int 0)=pS (.str r):=#v[ao,kT];have s1:=Ze r Y';have a1:a7 (.str [tl]) (.str r.tail)=pS (.str (tl::r.tail)):=by rw[add_str _ _ V'];rfl
 have s2:eJ (some 1) none (bA (r::q))=pS (bA q):=by rw[Zf];rfl
 have a2:a7 (.tup [.str (tl::r.tail)]) (bA q)=pS (bA ((tl::r.tail)::q)):=by rw[vw _ _ (by simp at b1⊢;lia)];rfl
 have s3:eJ none (some (k:Int)) (.tup (bs.map aT))=pS (.tup ((bs.take k).map aT)):=by rw[pQ,Ax _ _ V',<-Um]
 have s4:eJ (some ((k:Int)+1)) none (.tup (bs.map aT))=pS (.tup ((bs.drop (k+1)).map aT)):=by rw[pQ,show(k:Int)+1=((k+1:Nat):Int)by lia,Zg _ _ V',<-List.map_drop]
 have a3:a7 (.tup ((bs.take k).map aT)) (.tup [.tup [.str [tl],bA ((tl::r.tail)::q)]])=pS (.tup ((bs.take k).map aT++[.tup [.str [tl],bA ((tl::r.tail)::q)]])):=vw _ _ V';have a4:a7 (.tup ((bs.take k).map aT++[.tup [.str [tl],bA ((tl::r.tail)::q)]])) (.tup ((bs.drop (k+1)).map aT))=pS (.tup ((bs.take k++mf (tl,r::q)::bs.drop (k+1)).map aT)):=by rw[vw _ _ V'];simp[mf]
 rw[o_,kf,HG];generalize k8:D.tup (bs.map aT)=bl at*;generalize hnb:D.tup ((bs.take k++mf (tl,r::q)::bs.drop (k+1)).map aT)=nb at*;generalize D.tup ((bs.take k).map aT++[.tup [.str [tl],bA ((tl::r.tail)::q)]])=nc at*;generalize D.tup ((bs.take k).map aT)=nd at*;generalize D.tup ((bs.drop (k+1)).map aT)=ne at*;generalize bA ((tl::r.tail)::q)=f1 at*;generalize bA (r::q)=f2 at*;generalize bA q=f3 at*;simp[bO,aX,aw,aa,bV,aQ,cn,ae,aO,aj,k8,hnb,x1,x2,cu,fM,s1,s2,s3,s4,a1,a2,a3,a4,add_int,bW,bj];rw[<-hnb];simp[Um,List.map_drop]
abbrev jB(ps:List (Nat×Nat)):List (cy×D):=ps.map λp=>((Sum.inr [p.1]:cy),D.str [p.2])
abbrev aB(ps:List (Nat×Nat)):D:=.bU (jB ps)
def dg(ps:List (Nat×Nat))(a:Nat):Option Nat:=(ps.find? λp=>decide (p.1=a)).map (·.2)
def gN(ps:List (Nat×Nat))(a b:Nat):List (Nat×Nat):=if(ps.any λp=>decide (p.1=a))=true then ps.map λp=>if p.1=a then(p.1,b)else p else ps++[(a,b)]
theorem Zl(ps:List (Nat×Nat))(a b:Nat):putD (jB ps) (.inr [a]) (.str [b])=jB (gN ps a b):=by
 have hk:∀p:Nat×Nat,(Sum.inr [p.1]:cy)=.inr [a]↔p.1=a:=λp=>by simp
 have ha:((jB ps).any λkv=>decide (kv.1=.inr [a]))=ps.any λp=>decide (p.1=a):=by simp only[jB,List.any_map];congr 1;funext p;simp
 unfold putD gN;rw[ha];split;.simp only[jB,WC];congr 1;funext p;simp only[Function.comp,hk p];split<;>rfl
 .simp[jB]
theorem Zm(ps:List (Nat×Nat))(a:Nat):fB (jB ps) (.inr [a])=(dg ps a).map λv=>D.str [v]:=by unfold fB dg jB;induction ps with|nil=>rfl|cons p r ih=>
 simp only[Wf,WW];by_cases h:p.1=a;.simp[h]
 .have:decide ((Sum.inr [p.1]:cy)=.inr [a])=false:=#v[h];simp only[this,decide_eq_false h];exact ih
theorem pw{v:Nat}(h:dg ps a=some v):cx (aB ps) (.str [a])=pS (.str [v]):=by show((eY (.str [a])).bind λk=>(fB (jB ps) k).map S.pure)=_;simp only[eY,Wz,Zm,h,WP]
theorem vx(ps:List (Nat×Nat))(a b c:Nat):dg (gN ps a b) c=if c=a then some b else dg ps c:=by
 unfold gN;by_cases h:(ps.any λp=>decide (p.1=a))=true;.rw[if_pos h];unfold dg;induction ps with|nil=>simp at h|cons p r ih=>
   simp only[Wf,WW];by_cases hp:p.1=a
   .simp only[hp,if_true];by_cases hc:c=a;.simp[hc]
    .have fR:decide (a=c)=false:=by simp;lia
     simp only[fR,if_neg hc];by_cases hr:(r.any λp=>decide (p.1=a))=true;.have:=ih hr;rw[if_neg hc]at this;exact this
     .have hm:(r.map λp=>if p.1=a then(p.1,b)else p)=r:=by
       conv=>rhs;rw[<-List.map_id r]
       refine QJ λq hq=>?_;have:¬q.1=a:=λz=>hr (List.any_eq_true.mpr ⟨q,hq,#v[z]⟩);simp[this]
      rw[hm]
   .simp only[if_neg hp];have hr:(r.any λp=>decide (p.1=a))=true:=by rw[Qj]at h;simpa[hp]using h
    by_cases hc:p.1=c;.have:¬c=a:=λz=>hp (hc.trans z);simp[hc,this]
    .simp only[decide_eq_false hc];exact ih hr
 .rw[if_neg h];unfold dg;rw[List.find?_append];by_cases hc:c=a
  .subst hc;have:ps.find? (λp=>decide (p.1=c))=none:=by rw[List.find?_eq_none];intro p hp z;exact h (List.any_eq_true.mpr ⟨p,hp,z⟩)
   simp[this]
  .have fR:¬a=c:=λz=>hc z.symm;simp[hc,fR]
theorem Az(ps:List (Nat×Nat))(a b:Nat):(gN ps a b).length<=ps.length+1:=by unfold gN;split<;>simp
theorem AA{fi fe:DE}{b:Nat}(h0:∃qs,δ[i]?=some (pO (aB qs)))(e1:fe δ=.ok (.pure (.str [b])) δ1)(h1:∃qs,δ1[i]?=some (pO (aB qs)))(e2:fi δ1=.ok (.pure (.str [a])) δ2)(h2:δ2[i]?=some (pO (aB ps)))(hl:ps.length<=1000):fN i fi fe δ=.ok .next (δ2.set i (pO (aB (gN ps a b)))):=by
 obtain⟨q0,h0⟩:=h0;obtain⟨q1,h1⟩:=h1;have hz:(jB ps).length<Wa:=by rw[cT];simp;lia
 unfold fN;simp only[oj,h0,if_true,e1,eZ,h1,e2,h2,eY,ow,hz,Zl]
abbrev AB:DE:=cj (ak (aa 14) (ak (ae cx 5 (aj 14)) ay))
abbrev AD(GD:DF):DE:=bR [14] (aS (aa 12)) (ag [1] 14) bz (ax ao AB (ah (aA GD [.io 1,.val (eD (.int 2))])))
theorem AE(hD:∀(d:D)(m:Nat),a_ d->0<m->m<1073741824->∃(r:Nat)(d':D),GD [.own d,.pure (.int m)]=some (.pure (.int r),[.own d',.pure (.int m)])/\r<m/\a_ d'){d:D}(hp:a_ d):∃(r:Nat)(d':D),GD [.own d,.pure (.int 2)]=some (.pure (.int r),[.own d',.pure (.int 2)])/\(r=0\/r=1)/\a_ d':=by obtain⟨r,d',e,l,p⟩:∃(r:Nat)(d':D),GD [.own d,.pure (.int 2)]=some (.pure (.int r),[.own d',.pure (.int 2)])/\r<2/\a_ d':=hD d 2 hp Z' Z';exact⟨r,d',e,Y',p⟩
section
variable(hD:∀(d:D)(m:Nat),a_ d->0<m->m<1073741824->∃(r:Nat)(d':D),GD [.own d,.pure (.int m)]=some (.pure (.int r),[.own d',.pure (.int m)])/\r<m/\a_ d')
include hD
theorem Zn(gv:∀n∈ts,al n/\∃v,dg ps n=some v/\al v)(hp:a_ pd)(row:Tx)(hr:∀n∈row,n∈ts)(hl:row.length<=64)(o6:Option S)(bl:List D)(o8 o9 o10 bT dh:Option S):∃(x:Tx)(bb:D),dW [14] (ag [1] 14) bz (ax ao AB (ah (aA GD [.io 1,.val (eD (.int 2))]))) (row.map λn=>.str [n]) [pS ru,pO pd,pS (.str ba),pO (tD ts),pO (tD lf),pO (aB ps),o6,pO (.lst bl),o8,o9,o10,bT,dh,none,none] []=.ok (x.map λn=>.str [n]) [pS ru,pO bb,pS (.str ba),pO (tD ts),pO (tD lf),pO (aB ps),o6,pO (.lst bl),o8,o9,o10,bT,dh,none,none]/\x.length=row.length/\(∀n∈x,al n)/\a_ bb:=by
 obtain⟨xs,δ',e,⟨bb,hpd',rfl⟩,hn,hf⟩:=uF (cs:=[14]) (g:=ag [1] 14) (t:=bz) (el:=ax ao AB (ah (aA GD [.io 1,.val (eD (.int 2))]))) (λδ=>∃pd,a_ pd/\δ=[pS ru,pO pd,pS (.str ba),pO (tD ts),pO (tD lf),pO (aB ps),o6,pO (.lst bl),o8,o9,o10,bT,dh,none,none]) (λ_ x=>∃n,al n/\x=.str [n]) (row.map λn=>.str [n]) _ [] ⟨pd,hp,rfl⟩ (by rw[cT];simp;lia) λd hd δ⟨pd,gL,e⟩=>by
   subst e;obtain⟨n,hn,rfl⟩:=Q9.mp hd;obtain⟨a1,v,a2,a3⟩:=gv n (hr n hn);have x5:=pw a2;obtain⟨r,d',e,fO,p⟩:=AE hD gL;refine⟨_,_,.pure (.str [if r=0 then n else v]),[pS ru,pO d',pS (.str ba),pO (tD ts),pO (tD lf),pO (aB ps),o6,pO (.lst bl),o8,o9,o10,bT,dh,none,pS (.str [n])],rfl,rfl,?_,⟨d',p,rfl⟩,⟨_,?_,rfl⟩⟩
   .generalize aB ps=dd,tD ts=td,tD lf=tl at*;rcases fO with rfl|rfl;.simp[aa,ae,aO,aj,x5,aA,bo,bX,bH,bI,bD,e,aR,ao,kT]
    .simp[aa,ae,aO,aj,x5,aA,bo,bX,bH,bI,bD,e,aR,ao,uE]
   .rcases fO with rfl|rfl;.exact a1
    .exact a3
 obtain⟨x,rfl,hx⟩:=yg (P:=al) (FI hn hf λd x _ h=>h);exact⟨x,bb,~~~e,~~~hn,hx,hpd'⟩
theorem Zo(gv:∀n∈ts,al n/\∃v,dg ps n=some v/\al v)(hp:a_ pd)(fl:List Tx)(w:Nat)(hw:w<=64)(gW:fl.length<=64)(hf:∀r∈fl,r.length=w/\∀n∈r,n∈ts)(o6:Option S)(bl:List D)(o8 o9 o10 dh:Option S):∃(gl:List Tx)(bb:D)(mh:Option S),forL (ag [1] 12) (bG 11 (aC (cE []) (ah (AD GD)))) (fl.map .str) [pS ru,pO pd,pS (.str ba),pO (tD ts),pO (tD lf),pO (aB ps),o6,pO (.lst bl),o8,o9,o10,pO (.lst []),dh,none,none]=.ok .next [pS ru,pO bb,pS (.str ba),pO (tD ts),pO (tD lf),pO (aB ps),o6,pO (.lst bl),o8,o9,o10,pO (.lst (gl.map .str)),mh,none,none]/\gl.length=fl.length/\(∀r∈gl,r.length=w/\∀n∈r,al n)/\a_ bb:=by
 obtain⟨δ',e,gl,bb,mh,hg,hall,hpd',rfl⟩:=jW (g:=ag [1] 12) (b:=bG 11 (aC (cE []) (ah (AD GD)))) (λk δ=>∃(gl:List Tx)(pd:D)(dh:Option S),gl.length=k/\(∀r∈gl,r.length=w/\∀n∈r,al n)/\a_ pd/\δ=[pS ru,pO pd,pS (.str ba),pO (tD ts),pO (tD lf),pO (aB ps),o6,pO (.lst bl),o8,o9,o10,pO (.lst (gl.map .str)),dh,none,none]) (fl.map .str) 0 [pS ru,pO pd,pS (.str ba),pO (tD ts),pO (tD lf),pO (aB ps),o6,pO (.lst bl),o8,o9,o10,pO (.lst []),dh,none,none] ⟨[],pd,dh,rfl,U',hp,rfl⟩ λi d δ hd hh=>by
  obtain⟨gl,pd,dh,hg,hall,gL,e⟩:=hh
  subst e;rw[Wu,Ww]at hd;obtain⟨row,hrow,rfl⟩:=hd;have hi:=(W8.mp hrow).1;have hr:=hf row (Wq hrow);obtain⟨x,bb,e,hx,hxa,hpd'⟩:=Zn (ru:=ru) (lf:=lf) hD gv gL row hr.2 Y' o6 bl o8 o9 o10 (pO (.lst (gl.map .str))) (pS (.str row));have hz:(gl.map D.str).length<Wa:=by rw[cT];simp;lia
  have ej:=Fx x Y';refine⟨_,[pS ru,pO bb,pS (.str ba),pO (tD ts),pO (tD lf),pO (aB ps),o6,pO (.lst bl),o8,o9,o10,pO (.lst ((gl++[x]).map .str)),pS (.str row),none,none],rfl,?_,⟨gl++[x],bb,_,#v[hg],?_,hpd',rfl⟩⟩;.rw[QZ,List.map_singleton];generalize gl.map D.str=gd at e hz⊢;generalize aB ps=dd at e⊢;generalize tD ts=td at e⊢;generalize tD lf=tl at e⊢;simp[bG,eW,fj,aa,bH,bC];rw[e];simp[ej,dC,putL,hz]
  .intro r fO;rcases QF.mp fO with fO|fO;.exact hall r fO
   .simp at fO;subst fO;exact⟨Y',hxa⟩
 exact⟨gl,bb,mh,e,~~~hg,hall,hpd'⟩
theorem IU(gv:∀n∈ts,al n/\∃v,dg ps n=some v/\al v)(hp:a_ pd)(fl:List Tx)(w:Nat)(hw:w<=64)(gW:fl.length<=64)(hf:∀r∈fl,r.length=w/\∀n∈r,n∈ts)(t:Nat)(o6:Option S)(bl:List D)(k8:bl.length<=1000)(o8:Option S)(o10 dh:Option S)(bT:Option S):∃(gl:List Tx)(bb:D)(mh k9:Option S),(au (aw (cj ay) (ag [1] 11)) (au (bM (aS (aa 9)) (ag [1] 12) (bG 11 (aC (cE []) (ah (AD GD))))) (bG 7 (aG (ak (aa 10) (ak (aC cq (aj 11)) ay)))))) [pS ru,pO pd,pS (.str ba),pO (tD ts),pO (tD lf),pO (aB ps),o6,pO (.lst bl),o8,pS (bA fl),pS (.str [t]),bT,dh,none,none]=.ok .next [pS ru,pO bb,pS (.str ba),pO (tD ts),pO (tD lf),pO (aB ps),o6,pO (.lst (bl++[aT (t,gl)])),o8,pS (bA fl),pS (.str [t]),k9,mh,none,none]/\gl.length=fl.length/\(∀r∈gl,r.length=w/\∀n∈r,al n)/\a_ bb:=by
 obtain⟨gl,bb,mh,e,h1,h2,h3⟩:=Zo (ru:=ru) (lf:=lf) hD gv hp fl w hw gW hf o6 bl o8 (pS (bA fl)) (pS (.str [t])) dh;have hz:bl.length<Wa:=by rw[cT];lia
 refine⟨gl,bb,mh,pO (.lst (gl.map .str)),?_,h1,h2,h3⟩;refine ja (δ1:=[pS ru,pO pd,pS (.str ba),pO (tD ts),pO (tD lf),pO (aB ps),o6,pO (.lst bl),o8,pS (bA fl),pS (.str [t]),pO (.lst []),dh,none,none]) #v[aw] ?_;refine ja (δ1:=[pS ru,pO bb,pS (.str ba),pO (tD ts),pO (tD lf),pO (aB ps),o6,pO (.lst bl),o8,pS (bA fl),pS (.str [t]),pO (.lst (gl.map .str)),mh,none,none]) (by rw[qS];simp only[fj,aa,Q6,Qn,eZ,ow];exact e) ?_;generalize hg:gl.map D.str=gd,aB ps=dd,tD ts=td,tD lf=tl at*;simp[bG,eW,aa,aj,cq,putL,hz,hg]
end
abbrev AF:DE:=cj (ak (aa 8) (ak (ae cx 5 (aj 8)) ay))
abbrev IV:DS:=bG 7 (aG (ak (aa 10) (ak (aC cq (aj 11)) ay)))
theorem IW:∀bl:List (Nat×List Tx),lW (bl.map aT)=some (bl.map λb=>[b.1])|[]=>rfl|b::r=>#v[lW,IW r]
theorem IX:∀{ks:List Tx},ks.Nodup->ou ks=true|[],_=>rfl|x::r,h=>by rw[Q2]at h;simp[ou,h.1,IX h.2]
theorem Zp(bl:List (Nat×List Tx))(nd:(bl.map (·.1)).Nodup)(h2:2<=bl.length)(ot:bl.length<64):∃bl':List (Nat×List Tx),bl'.Perm bl/\kS (.lst (bl.map aT))=pO (.lst (bl'.map aT)):=by
 have nk:(bl.map λb=>([b.1]:Tx)).Nodup:=by
  have e:(bl.map λb=>([b.1]:Tx))=(bl.map (·.1)).map λn=>[n]:=by simp
  rw[e];exact List.Pairwise.map _ (λa b h z=>h (~~~z)) nd
 have hp:=uC (ks:=bl.map λb=>([b.1]:Tx)) (~~~h2);rw[Wv]at hp;refine⟨(fV (bl.map λb=>([b.1]:Tx))).map λi=>bl.getD i (0,[]),?_,?_⟩
 .refine(hp.map _).trans (List.Perm.of_eq ?_);apply Jw;.simp
  .intro i h1 h2;simp at h1;simp[h1]
 .unfold kS;simp only[IW];rw[if_pos ⟨~~~h2,~~~ot,IX nk⟩];congr 3;rw[WC];refine QJ λi hi=>?_;have:=hp.mem_iff.mp hi;simp at this;simp[this]
def gC(ps:List (Nat×Nat))(t:Nat):Nat:=(dg ps t).getD 0
section
variable(hD:∀(d:D)(m:Nat),a_ d->0<m->m<1073741824->∃(r:Nat)(d':D),GD [.own d,.pure (.int m)]=some (.pure (.int r),[.own d',.pure (.int m)])/\r<m/\a_ d')
include hD
theorem Zq{h:Nat}(h1:h<=64)(w1:w<=64)(bs:List (Nat×List Tx))(dM:∀b∈bs,b.1∈ts)(hn:bs.length<=100)(hb:∀b∈bs,b.2.length=h/\∀r∈b.2,r.length=w/\∀n∈r,n∈ts)(gv:∀n∈ts,al n/\∃v,dg ps n=some v/\al v)(hp:a_ pd)(o6:Option S):∃(bl:List (Nat×List Tx))(bb:D)(o8 o9 o10 bT dh:Option S),forL (bV 2 (aQ (ag [1] 8) (aQ (ag [1] 9) cn))) (bM (aS AF) (ag [1] 10) (au (aw (cj ay) (ag [1] 11)) (au (bM (aS (aa 9)) (ag [1] 12) (bG 11 (aC (cE []) (ah (bR [14] (aS (aa 12)) (ag [1] 14) bz (ax ao (cj (ak (aa 14) (ak (ae cx 5 (aj 14)) ay))) (ah (aA GD [.io 1,.val (eD (.int 2))])))))))) IV))) (bs.map aT) [pS ru,pO pd,pS (.str ba),pO (tD ts),pO (tD lf),pO (aB ps),o6,pO (.lst []),none,none,none,none,none,none,none]=.ok .next [pS ru,pO bb,pS (.str ba),pO (tD ts),pO (tD lf),pO (aB ps),o6,pO (.lst (bl.map aT)),o8,o9,o10,bT,dh,none,none]/\bl.map (·.1)=(bs.map (·.1)).flatMap (λt=>[t,gC ps t])/\(∀b∈bl,b.2.length=h/\∀r∈b.2,r.length=w/\∀n∈r,al n)/\a_ bb:=by
 obtain⟨δ',e,bl,bb,o8,o9,o10,bT,dh,q1,q2,q3,q4,rfl⟩:=jW (g:=bV 2 (aQ (ag [1] 8) (aQ (ag [1] 9) cn))) (b:=bM (aS AF) (ag [1] 10) (au (aw (cj ay) (ag [1] 11)) (au (bM (aS (aa 9)) (ag [1] 12) (bG 11 (aC (cE []) (ah (bR [14] (aS (aa 12)) (ag [1] 14) bz (ax ao (cj (ak (aa 14) (ak (ae cx 5 (aj 14)) ay))) (ah (aA GD [.io 1,.val (eD (.int 2))])))))))) IV))) (λk δ=>∃(bl:List (Nat×List Tx))(pd:D)(o8 o9 o10 bT dh:Option S),bl.map (·.1)=((bs.take k).map (·.1)).flatMap (λt=>[t,gC ps t])/\(∀b∈bl,b.2.length=h/\∀r∈b.2,r.length=w/\∀n∈r,al n)/\a_ pd/\bl.length=2*k/\δ=[pS ru,pO pd,pS (.str ba),pO (tD ts),pO (tD lf),pO (aB ps),o6,pO (.lst (bl.map aT)),o8,o9,o10,bT,dh,none,none]) (bs.map aT) 0 [pS ru,pO pd,pS (.str ba),pO (tD ts),pO (tD lf),pO (aB ps),o6,pO (.lst []),none,none,none,none,none,none,none] ⟨[],pd,none,none,none,none,none,rfl,U',hp,rfl,rfl⟩ λi d δ hd hh=>by
   obtain⟨bl,pd,o8,o9,o10,bT,dh,q1,q2,q3,q4,e⟩:=hh
   subst e;rw[Wu,Ww]at hd;obtain⟨b,hbi,rfl⟩:=hd;rw[Qd]at q1 q4⊢;have hi:=(W8.mp hbi).1;have hm:=Wq hbi;obtain⟨hb1,hb2⟩:=hb b hm;obtain⟨_,v,hv,_⟩:=gv b.1 (dM b hm);have x5:=pw hv;have k8:bl.length<=200:=by lia
   obtain⟨g1,pd1,p12,p11,e1,a1,a2,a3⟩:=IU (ru:=ru) (lf:=lf) hD gv q3 b.2 w w1 Y' hb2 b.1 o6 (bl.map aT) V' (pS (.str [b.1])) o10 dh bT;obtain⟨g2,pd2,r12,r11,e2,c1,c2,c3⟩:=IU (ru:=ru) (lf:=lf) hD gv a3 b.2 w w1 Y' hb2 v o6 (bl.map aT++[aT (b.1,g1)]) V' (pS (.str [b.1])) (pS (.str [b.1])) p12 p11;refine⟨[pS ru,pO pd,pS (.str ba),pO (tD ts),pO (tD lf),pO (aB ps),o6,pO (.lst (bl.map aT)),pS (.str [b.1]),pS (bA b.2),o10,bT,dh,none,none],[pS ru,pO pd2,pS (.str ba),pO (tD ts),pO (tD lf),pO (aB ps),o6,pO (.lst ((bl++[(b.1,g1),(v,g2)]).map aT)),pS (.str [b.1]),pS (bA b.2),pS (.str [v]),r11,r12,none,none],rfl,?_,⟨bl++[(b.1,g1),(v,g2)],pd2,_,_,_,_,_,?_,?_,c3,by simp;lia,rfl⟩⟩
   .have eE:(bl++[(b.1,g1),(v,g2)]).map aT=bl.map aT++[aT (b.1,g1)]++[aT (v,g2)]:=by simp
    rw[eE];rw[qS];have hit:aS AF [pS ru,pO pd,pS (.str ba),pO (tD ts),pO (tD lf),pO (aB ps),o6,pO (.lst (bl.map aT)),pS (.str [b.1]),pS (bA b.2),o10,bT,dh,none,none]=.ok [.str [b.1],.str [v]] [pS ru,pO pd,pS (.str ba),pO (tD ts),pO (tD lf),pO (aB ps),o6,pO (.lst (bl.map aT)),pS (.str [b.1]),pS (bA b.2),o10,bT,dh,none,none]:=by generalize aB ps=dd at x5⊢;generalize tD ts=td;generalize tD lf=tl;simp[fj,aa,ae,aO,aj,x5]
    rw[hit];simp only[eZ];conv=>lhs;unfold forL
    have Zr:ag [1] 10 (.pure (.str [b.1])) [pS ru,pO pd,pS (.str ba),pO (tD ts),pO (tD lf),pO (aB ps),o6,pO (.lst (bl.map aT)),pS (.str [b.1]),pS (bA b.2),o10,bT,dh,none,none]=some [pS ru,pO pd,pS (.str ba),pO (tD ts),pO (tD lf),pO (aB ps),o6,pO (.lst (bl.map aT)),pS (.str [b.1]),pS (bA b.2),pS (.str [b.1]),bT,dh,none,none]:=rfl;rw[Zr];simp only[e1,eZ];conv=>lhs;unfold forL
    have Zs:ag [1] 10 (.pure (.str [v])) [pS ru,pO pd1,pS (.str ba),pO (tD ts),pO (tD lf),pO (aB ps),o6,pO (.lst (bl.map aT++[aT (b.1,g1)])),pS (.str [b.1]),pS (bA b.2),pS (.str [b.1]),p11,p12,none,none]=some [pS ru,pO pd1,pS (.str ba),pO (tD ts),pO (tD lf),pO (aB ps),o6,pO (.lst (bl.map aT++[aT (b.1,g1)])),pS (.str [b.1]),pS (bA b.2),pS (.str [v]),p11,p12,none,none]:=rfl;rw[Zs];simp only[e2,eZ];rfl
   .rw[JL,hbi];simp[q1,gC,hv]
   .intro c hc;rcases QF.mp hc with hc|hc;.exact q2 c hc
    .simp at hc;rcases hc with rfl|rfl;.exact⟨#v[a1,hb1],a2⟩
     .exact⟨#v[c1,hb1],c2⟩
 rw[Qd,Wv,Uo]at q1;exact⟨bl,bb,o8,o9,o10,bT,dh,e,q1,q2,q3⟩
end
theorem Zt(ru pd:D)(ts lf:List Nat)(nd:ts.Nodup)(hn:ts.length<=100)(hl:ts.length<=lf.length):∃(ps:List (Nat×Nat))(o6:Option S),forL (ag [1] 6) (fN 5 (ae ao 3 (aj 6)) (ae ao 4 (aj 6))) (cI 0 ts.length) [pS ru,pO pd,pS (.str ba),pO (tD ts),pO (tD lf),pO (aB []),none,none,none,none,none,none,none,none,none]=.ok .next [pS ru,pO pd,pS (.str ba),pO (tD ts),pO (tD lf),pO (aB ps),o6,none,none,none,none,none,none,none,none]/\∀j,j<ts.length->dg ps (ts.getD j 0)=some (lf.getD j 0):=by
 obtain⟨δ',e,ps,o6,q1,q2,rfl⟩:=jW (g:=ag [1] 6) (b:=fN 5 (ae ao 3 (aj 6)) (ae ao 4 (aj 6))) (λk δ=>∃(ps:List (Nat×Nat))(o6:Option S),ps.length<=k/\(∀j,j<k->dg ps (ts.getD j 0)=some (lf.getD j 0))/\δ=[pS ru,pO pd,pS (.str ba),pO (tD ts),pO (tD lf),pO (aB ps),o6,none,none,none,none,none,none,none,none]) (cI 0 ts.length) 0 [pS ru,pO pd,pS (.str ba),pO (tD ts),pO (tD lf),pO (aB []),none,none,none,none,none,none,none,none,none] ⟨[],none,U',λj hj=>absurd hj (Nat.not_lt_zero _),rfl⟩ λi d δ hd hh=>by
  obtain⟨ps,o6,q1,q2,e⟩:=hh
  subst e;obtain⟨hi,rfl⟩:=qT hd;rw[Qd]at q1 q2⊢;have x3:=Ay ts i hi;have x4:=Ay lf i Y';refine⟨_,[pS ru,pO pd,pS (.str ba),pO (tD ts),pO (tD lf),pO (aB (gN ps (ts.getD i 0) (lf.getD i 0))),pS (.int i),none,none,none,none,none,none,none,none],rfl,?_,⟨gN ps (ts.getD i 0) (lf.getD i 0),_,by have:=Az ps (ts.getD i 0) (lf.getD i 0);lia,λj hj=>?_,rfl⟩⟩
  .refine(AA (ps:=ps) (a:=ts.getD i 0) (b:=lf.getD i 0) (δ1:=[pS ru,pO pd,pS (.str ba),pO (tD ts),pO (tD lf),pO (aB ps),pS (.int i),none,none,none,none,none,none,none,none]) (δ2:=[pS ru,pO pd,pS (.str ba),pO (tD ts),pO (tD lf),pO (aB ps),pS (.int i),none,none,none,none,none,none,none,none]) ⟨ps,rfl⟩ ?_ ⟨ps,rfl⟩ ?_ rfl Y').trans rfl;.generalize aB ps=dd;generalize tD ts=td,tD lf=tl at*;simp only[Ur,ae,aO,aj,yb,QT,JF,Q6,Qn,eZ,ow,ya,uD,x4]
   .generalize aB ps=dd;generalize tD ts=td,tD lf=tl at*;simp only[ae,aO,aj,yb,QT,JF,Q6,Qn,eZ,ow,ya,uD,x3]
  .rw[vx];by_cases hji:j=i;.rw[hji,if_pos rfl]
   .rw[if_neg ?_];.exact q2 j Y'
    .intro z;have h1:ts.getD j 0=ts[j]' Y':=#v[show j<ts.length by lia];have h2:ts.getD i 0=ts[i]'hi:=#v[hi];rw[h1,h2]at z;exact hji ((JQ nd).mp z)
 rw[Qd,Fz]at q2;exact⟨ps,o6,e,q2⟩
abbrev AG:DT:=aD (ax (gG true) (aa 14) (aj 3))
abbrev IY(GD:DF):DS:=au (aw (eD (.str dY)) (ag [1] 2)) (au (aw (bR [13] (aS (ae ao 0 (ah (eD (.int 2))))) (ag [1] 13) bz (ae ao 13 (ah (eD (.int 0))))) (ag [1] 3)) (au (aw (bR [14] (aS (aa 2)) (ag [1] 14) AG (aa 14)) (ag [1] 4)) (au (aw kL (ag [1] 5)) (au (bM (c9 (aC bB (aj 3))) (ag [1] 6) (fN 5 (ae ao 3 (aj 6)) (ae ao 4 (aj 6)))) (au (aw (cj ay) (ag [1] 7)) (au (bM (aS (ae ao 0 (ah (eD (.int 2))))) (bV 2 (aQ (ag [1] 8) (aQ (ag [1] 9) cn))) (bM (aS (cj (ak (aa 8) (ak (ae cx 5 (aj 8)) ay)))) (ag [1] 10) (au (aw (cj ay) (ag [1] 11)) (au (bM (aS (aa 9)) (ag [1] 12) (bG 11 (aC (cE []) (ah (bR [14] (aS (aa 12)) (ag [1] 14) bz (ax ao (cj (ak (aa 14) (ak (ae cx 5 (aj 14)) ay))) (ah (aA GD [.io 1,.val (eD (.int 2))])))))))) (bG 7 (aG (ak (aa 10) (ak (aC cq (aj 11)) ay)))))))) (bt (aG (ak (aG (ak (ae ao 0 (ah (eD (.int 0)))) (ak (ae ao 0 (ah (eD (.int 1)))) (ak (aC cq (ah (aC kS (aj 7)))) ay)))) (ak (aa 5) ay))))))))))
def cX(ts:List Nat):List Nat:=ba.filter λn=>!ts.contains n
theorem IZ:∀(ts:List Nat)(l:List Nat),l.Nodup->l.length<=(l.filter λn=>!ts.contains n).length+ts.length
 |[],l,_=>by rw[List.filter_eq_self.mpr λa _=>by simp];simp|t::r,l,h=>by
  have ih:=IZ r l h;have e:(l.filter λn=>!(t::r).contains n)=(l.filter λn=>!r.contains n).filter λn=>n !=t:=by rw[List.filter_filter];congr 1;funext n;rw[Je];cases h1:n==t<;>cases h2:r.contains n<;>simp_all
  have nd:(l.filter λn=>!r.contains n).Nodup:=h.filter _;rw[e,<-nd.erase_eq_filter,List.length_erase,Q4];split<;>lia
theorem I_:ba.Nodup:=by decide
theorem Zu(ts:List Nat):(cX ts).Nodup:=I_.filter _
theorem AH(h:n∈cX ts):n∉ts:=by unfold cX at h;rw[List.mem_filter]at h;simpa using h.2
theorem J_(f:Nat->Nat):∀ts:List Nat,(ts.flatMap λt=>[t,f t]).length=2*ts.length|[]=>rfl|t::r=>by rw[List.flatMap_cons,QP,J_ f r];simp;lia
theorem Zv(GD:DF)(hD:∀(d:D)(m:Nat),a_ d->0<m->m<1073741824->∃(r:Nat)(d':D),GD [.own d,.pure (.int m)]=some (.pure (.int r),[.own d',.pure (.int m)])/\r<m/\a_ d'){h:Nat}{bs:List (Nat×List Tx)}(R:bc h w bs)(hn:bs.length<=6)(hp:a_ pd):∃(bw:List (Nat×List Tx))(ps:List (Nat×Nat))(bb:D),cf [1] 15 (IY GD) [.pure (aq h w bs),.own pd]=some (.pure (.tup [aq h w bw,aB ps]),[.pure (aq h w bs),.own bb])/\bc h w bw/\a_ bb/\(∀t∈bs.map (·.1),t∈bw.map (·.1)/\∃v,dg ps t=some v/\v∈bw.map (·.1))/\(∀t∈bw.map (·.1),t∈bs.map (·.1)\/∃u∈bs.map (·.1),dg ps u=some t):=by
 obtain⟨x0,x1,x2⟩:=me h w bs;have h1:=R.h1;have w1:=R.w1;have n0:=R.n0;generalize dM:bs.map (·.1)=ts;have Ka:ts.length=bs.length:=by rw[<-dM];simp
 have nd:ts.Nodup:=by rw[<-dM];exact R.nd
 have Zw:ts.length<=(cX ts).length:=by
  have:=IZ ts ba I_;have e:ba.length=26:=by decide
  unfold cX;lia
 obtain⟨ps,o6,et,AI⟩:=Zt (aq h w bs) pd ts (cX ts) nd Y' Zw;have hv:∀t∈ts,∃j,j<ts.length/\t=ts.getD j 0/\dg ps t=some ((cX ts).getD j 0)/\(cX ts).getD j 0∈cX ts:=λt ht=>by
  obtain⟨j,hj,e⟩:=U1 ht;have e':t=ts.getD j 0:=#v[hj,e];refine⟨j,hj,e',%[e'|AI j hj],?_⟩;have:j<(cX ts).length:=by lia
  simp[this]
 have gv:∀n∈ts,(n∈ts\/n∈ts.map (gC ps))/\∃v,dg ps n=some v/\(v∈ts\/v∈ts.map (gC ps)):=λn hn=>by obtain⟨j,hj,e,l,m⟩:=hv n hn;refine⟨.inl hn,_,l,.inr (Q9.mpr ⟨n,hn,?_⟩)⟩;unfold gC;rw[l];rfl
 obtain⟨bl,bb,o8,o9,o10,bT,dh,eb,q1,q2,q3⟩:=Zq (ru:=aq h w bs) (lf:=cX ts) (al:=λn=>n∈ts\/n∈ts.map (gC ps)) hD (h:=h) (w:=w) Y' Y' bs (λb hb=>by rw[<-dM];exact WU hb) Y' (λb hb=>by rw[<-dM];exact R.cW b hb) gv hp o6;rw[dM]at q1;have hlen:bl.length=2*ts.length:=by have:=congrArg JY q1;rw[Wv,J_]at this;exact this
 have gB:(bl.map (·.1)).Nodup:=by
  rw[q1];refine List.pairwise_flatMap.mpr ⟨λt ht=>?_,?_⟩
  .obtain⟨j,hj,e,l,m⟩:=hv t ht;have:t≠gC ps t:=λz=>by
    have et:gC ps t=(cX ts).getD j 0:=by unfold gC;rw[l];rfl
    rw[et]at z;exact AH m (by rw[<-z];exact ht)
   simp[this]
  .refine nd.imp_of_mem λ{t u}ht hu cQ=>?_;obtain⟨j,hj,e,l,m⟩:=hv t ht;obtain⟨k,hk,e',l',m'⟩:=hv u hu;have et:gC ps t=(cX ts).getD j 0:=by unfold gC;rw[l];rfl
   have eu:gC ps u=(cX ts).getD k 0:=by unfold gC;rw[l'];rfl
   intro x hx y hy;simp at hx hy;rcases hx with rfl|rfl<;>rcases hy with rfl|rfl;.exact cQ
   .rw[eu];exactλz=>AH m' (by rw[<-z];exact ht)
   .rw[et];exactλz=>AH m %[z|hu]
   .rw[et,eu];intro z;have Zx:j≠k:=λw=>cQ (by rw[e,e',w]);have z1:(cX ts).getD j 0=(cX ts)[j]' Y':=#v[show j<(cX ts).length by lia];have z2:(cX ts).getD k 0=(cX ts)[k]' Y':=#v[show k<(cX ts).length by lia];rw[z1,z2]at z;exact Zx ((JQ (Zu ts)).mp z)
 obtain⟨bw,hperm,es⟩:=Zp bl gB Y' Y';have oQ:∀n,n∈bw.map (·.1)↔n∈ts\/n∈ts.map (gC ps):=λn=>by
  rw[(hperm.map (·.1)).mem_iff,q1,List.mem_flatMap];constructor
  .rintro⟨t,ht,hx⟩;simp at hx;rcases hx with rfl|rfl;.exact .inl ht
   .exact .inr (WU ht)
  .rintro(hh|hh);.exact⟨n,hh,U'⟩
   .obtain⟨t,ht,rfl⟩:=Q9.mp hh;exact⟨t,ht,U'⟩
 have k8:=hperm.length_eq;refine⟨bw,ps,bb,?_,⟨R.h0,R.h1,R.w0,R.w1,Y',Y',(hperm.map (·.1)).nodup_iff.mpr gB,λb hb=>?_⟩,q3,λt ht=>?_,λt ht=>?_⟩
 .have e3:=m7 (cs:=[13]) (g:=ag [1] 13) (t:=bz) (el:=ae ao 13 (ah (eD (.int 0)))) aT (λb:Nat×List Tx=>D.str [b.1]) [pS (aq h w bs),pO pd,pS (.str ba),none,none,none,none,none,none,none,none,none,none,none,none] bs [] (by rw[cT];simp;lia) λb hb=>⟨_,_,.pure (.str [b.1]),[pS (aq h w bs),pO pd,pS (.str ba),none,none,none,none,none,none,none,none,none,none,pS (aT b),none],rfl,rfl,by generalize aq h w bs=ru at*;simp[ae,aO,aj,ao,kT],rfl,rfl⟩;have eT:(bs.map λb:Nat×List Tx=>D.str [b.1])=ts.map λn=>D.str [n]:=by rw[<-dM];simp
  rw[WQ,eT]at e3;have e4:=Ar (cs:=[14]) (g:=ag [1] 14) (t:=AG) (el:=aa 14) (λn:Nat=>D.str [n]) (λn:Nat=>D.str [n]) (λn=>!ts.contains n) [pS (aq h w bs),pO pd,pS (.str ba),pO (tD ts),none,none,none,none,none,none,none,none,none,none,none] ba [] (by rw[cT];decide) λn _=>⟨_,[pS (aq h w bs),pO pd,pS (.str ba),pO (tD ts),none,none,none,none,none,none,none,none,none,none,pS (.str [n])],.pure (.str [n]),[pS (aq h w bs),pO pd,pS (.str ba),pO (tD ts),none,none,none,none,none,none,none,none,none,none,pS (.str [n])],rfl,by have hi:gG true (.str [n]) (tD ts)=pS (.bl !ts.contains n):=Zh ts n;generalize aq h w bs=ru,tD ts=tl,ba=lt at*;simp[aD,aa,aj,hi],rfl,#v[aa],rfl,rfl⟩;rw[WQ]at e4;have e4:dW [14] (ag [1] 14) AG (aa 14) (ba.map λn=>D.str [n]) [pS (aq h w bs),pO pd,pS (.str ba),pO (tD ts),none,none,none,none,none,none,none,none,none,none,none] []=.ok ((cX ts).map λn=>D.str [n]) [pS (aq h w bs),pO pd,pS (.str ba),pO (tD ts),none,none,none,none,none,none,none,none,none,none,none]:=e4;have bq:=IS ts;rw[kf];have Zy:aX 15 [S.pure (aq h w bs),.own pd]=[pS (aq h w bs),pO pd,none,none,none,none,none,none,none,none,none,none,none,none,none]:=rfl;have run:(IY GD) [pS (aq h w bs),pO pd,none,none,none,none,none,none,none,none,none,none,none,none,none]=.ok (.ret (.pure (.tup [aq h w bw,aB ps]))) [pS (aq h w bs),pO bb,pS (.str ba),pO (tD ts),pO (tD (cX ts)),pS (aB ps),o6,pO (.lst (bl.map aT)),o8,o9,o10,bT,dh,none,none]:=by
   refine ja (δ1:=[pS (aq h w bs),pO pd,pS (.str ba),none,none,none,none,none,none,none,none,none,none,none,none]) rfl ?_;refine ja (δ1:=[pS (aq h w bs),pO pd,pS (.str ba),pO (tD ts),none,none,none,none,none,none,none,none,none,none,none]) (by generalize hru:aq h w bs=ru,ba=lt at*;simp[aw,fj,ae,aO,aj,x2,bH,bC];rw[e3];simp[dC,tD]) ?_;refine ja (δ1:=[pS (aq h w bs),pO pd,pS (.str ba),pO (tD ts),pO (tD (cX ts)),none,none,none,none,none,none,none,none,none,none]) (by generalize hru:aq h w bs=ru,htd:tD ts=td,ba=lt at*;simp[aw,fj,aa,bH,bC];rw[e4];simp[dC,tD]) ?_;refine ja (δ1:=[pS (aq h w bs),pO pd,pS (.str ba),pO (tD ts),pO (tD (cX ts)),pO (aB []),none,none,none,none,none,none,none,none,none]) #v[aw,kL] ?_;refine ja (δ1:=[pS (aq h w bs),pO pd,pS (.str ba),pO (tD ts),pO (tD (cX ts)),pO (aB ps),o6,none,none,none,none,none,none,none,none]) (by
 have hit:c9 (aC bB (aj 3)) [pS (aq h w bs),pO pd,pS (.str ba),pO (tD ts),pO (tD (cX ts)),pO (aB []),none,none,none,none,none,none,none,none,none]=.ok (cI 0 ts.length) [pS (aq h w bs),pO pd,pS (.str ba),pO (tD ts),pO (tD (cX ts)),pO (aB []),none,none,none,none,none,none,none,none,none]:=by generalize hru:aq h w bs=ru,tD ts=td,tD (cX ts)=tl,ba=lt at*;simp[aj,bq,m5 ts.length (by lia:ts.length<=1000000)]
 rw[qS,hit];exact et) ?_;refine ja (δ1:=[pS (aq h w bs),pO pd,pS (.str ba),pO (tD ts),pO (tD (cX ts)),pO (aB ps),o6,pO (.lst []),none,none,none,none,none,none,none]) #v[aw] ?_;refine ja (δ1:=[pS (aq h w bs),pO bb,pS (.str ba),pO (tD ts),pO (tD (cX ts)),pO (aB ps),o6,pO (.lst (bl.map aT)),o8,o9,o10,bT,dh,none,none]) (by
 have hit:aS (ae ao 0 (ah (eD (.int 2)))) [pS (aq h w bs),pO pd,pS (.str ba),pO (tD ts),pO (tD (cX ts)),pO (aB ps),o6,pO (.lst []),none,none,none,none,none,none,none]=.ok (bs.map aT) [pS (aq h w bs),pO pd,pS (.str ba),pO (tD ts),pO (tD (cX ts)),pO (aB ps),o6,pO (.lst []),none,none,none,none,none,none,none]:=by generalize hru:aq h w bs=ru,tD ts=td,tD (cX ts)=tl,ba=lt,aB ps=dd at*;simp[fj,ae,aO,aj,x2]
 rw[qS,hit];exact eb) ?_;generalize hb2:bw.map aT=bx,bl.map aT=by',hru:aq h w bs=ru,tD ts=td,tD (cX ts)=tl,ba=lt,hds:aB ps=dd at*;simp[ae,aO,aj,x0,x1,es,cq,aa,hb2]
  rw[Zy,run];simp[bO,bW,bj]
 .have:=q2 b (hperm.mem_iff.mp hb);exact⟨this.1,λr hr=>⟨(this.2 r hr).1,λn hn=>(oQ n).mpr ((this.2 r hr).2 n hn)⟩⟩
 .obtain⟨_,v,l,m⟩:=gv t ht;exact⟨(oQ t).mpr (.inl ht),v,l,(oQ v).mpr m⟩
 .rcases(oQ t).mp ht with hh|hh;.exact .inl hh
  .obtain⟨u,hu,rfl⟩:=Q9.mp hh;obtain⟨j,hj,e,l,m⟩:=hv u hu;exact .inr ⟨u,hu,by unfold gC;rw[l];rfl⟩
theorem Zz{h:Nat}{bs:List (Nat×List Tx)}(R:bc h w bs)(hn:bs.length<=6)(hp:a_ pd):∃(bw:List (Nat×List Tx))(ps:List (Nat×Nat))(bb:D),rQ [.pure (aq h w bs),.own pd]=some (.pure (.tup [aq h w bw,aB ps]),[.pure (aq h w bs),.own bb])/\bc h w bw/\a_ bb/\(∀t∈bs.map (·.1),t∈bw.map (·.1)/\∃v,dg ps t=some v/\v∈bw.map (·.1))/\(∀t∈bw.map (·.1),t∈bs.map (·.1)\/∃u∈bs.map (·.1),dg ps u=some t):=by rw[rQ,HH];exact Zv cF (λd m hp a b=>pq hp m a b) R hn hp
abbrev AJ(ps:List (Nat×Nat)):D:=.tup (ps.map λp=>.tup [.str [p.1],.str [p.2]])
def iI(ps:List (Nat×Nat))(ts:List Nat):Prop:=∀t∈ts,∃v,dg ps t=some v
theorem Kb(h:iI ps ts)(a b:Nat):iI (gN ps a b) ts:=λt ht=>by
 rw[vx];split;.exact⟨_,rfl⟩
 .exact h t ht
theorem ZC(ps:List (Nat×Nat))(a b:Nat):∃v,dg (gN ps a b) a=some v:=⟨b,by rw[vx,if_pos rfl]⟩
theorem ZD:∀r:Nat,r<3->∃v:Nat,ao (.str [120,121,122]) (.int r)=pS (.str [v]):=by
 intro r hr;have:r=0\/r=1\/r=2:=by lia
 rcases this with rfl|rfl|rfl;.exact⟨120,rfl⟩
 .exact⟨121,rfl⟩
 .exact⟨122,rfl⟩
section
variable(hD:∀(d:D)(m:Nat),a_ d->0<m->m<1073741824->∃(r:Nat)(d':D),GD [.own d,.pure (.int m)]=some (.pure (.int r),[.own d',.pure (.int m)])/\r<m/\a_ d')
include hD
theorem signs(ru:D)(ts:List Nat)(hn:ts.length<=100)(k:Nat)(hk:k<3)(hp:a_ pd):∃(ps:List (Nat×Nat))(bb:D)(o6:Option S),forL (ag [0] 6) (fN 4 (aa 6) (ax ao (eD (.str [120,121,122])) (ah (aA GD [.io 0,.val (aa 5)])))) (ts.map λn=>D.str [n]) [pO pd,pS (.int mm),pS ru,pS (tD ts),pO (aB []),pS (.int (1+(k:Int))),none,none,none,none,none]=.ok .next [pO bb,pS (.int mm),pS ru,pS (tD ts),pO (aB ps),pS (.int (1+(k:Int))),o6,none,none,none,none]/\iI ps ts/\ps.length<=ts.length/\a_ bb:=by
 obtain⟨δ',e,ps,bb,o6,q1,q2,q3,rfl⟩:=jW (g:=ag [0] 6) (b:=fN 4 (aa 6) (ax ao (eD (.str [120,121,122])) (ah (aA GD [.io 0,.val (aa 5)])))) (λk' δ=>∃(ps:List (Nat×Nat))(pd:D)(o6:Option S),ps.length<=k'/\iI ps (ts.take k')/\a_ pd/\δ=[pO pd,pS (.int mm),pS ru,pS (tD ts),pO (aB ps),pS (.int (1+(k:Int))),o6,none,none,none,none]) (ts.map λn=>D.str [n]) 0 [pO pd,pS (.int mm),pS ru,pS (tD ts),pO (aB []),pS (.int (1+(k:Int))),none,none,none,none,none] ⟨[],pd,none,U',λt ht=>by simp at ht,hp,rfl⟩ λi d δ hd hh=>by
  obtain⟨ps,pd,o6,q1,q2,q3,e⟩:=hh
  subst e;rw[Wu,Ww]at hd;obtain⟨n,gE,rfl⟩:=hd;rw[Qd]at q1 q2⊢;have hi:=(W8.mp gE).1;obtain⟨r,d',e,l,p⟩:∃(r:Nat)(d':D),GD [.own pd,.pure (.int (1+(k:Int)))]=some (.pure (.int r),[.own d',.pure (.int (1+(k:Int)))])/\r<1+k/\a_ d':=by have:=hD pd (1+k) q3 Y' Y';rwa[show((1+k:Nat):Int)=1+(k:Int)by lia]at this
  obtain⟨v,hv⟩:=ZD r Y';refine⟨_,[pO d',pS (.int mm),pS ru,pS (tD ts),pO (aB (gN ps n v)),pS (.int (1+(k:Int))),pS (.str [n]),none,none,none,none],rfl,?_,⟨gN ps n v,d',_,by have:=Az ps n v;lia,λt ht=>?_,p,rfl⟩⟩
  .refine(AA (ps:=ps) (a:=n) (b:=v) (δ1:=[pO d',pS (.int mm),pS ru,pS (tD ts),pO (aB ps),pS (.int (1+(k:Int))),pS (.str [n]),none,none,none,none]) (δ2:=[pO d',pS (.int mm),pS ru,pS (tD ts),pO (aB ps),pS (.int (1+(k:Int))),pS (.str [n]),none,none,none,none]) ⟨ps,rfl⟩ ?_ ⟨ps,rfl⟩ ?_ rfl Y').trans rfl;.generalize aB ps=dd;generalize tD ts=td;simp[aA,bo,bX,bH,bI,aa,bD,e,aR,hv]
   .rfl
  .rw[JL,gE]at ht;simp at ht;rcases ht with ht|rfl;.exact Kb q2 n v t ht
   .exact ZC ps t v
 rw[Qd,Wv]at q1 q2;rw[Uo]at q2;exact⟨ps,bb,o6,e,q2,q1,q3⟩
end
theorem ZE(ru pd:D)(ts:List Nat)(hn:ts.length<=100)(tw:List (Nat×Nat))(AI:iI tw ts)(ps:List (Nat×Nat))(jq:iI ps ts)(bu:ps.length<=100)(o5 o6 o7 o8:Option S):∃(qs:List (Nat×Nat))(fm:Option S),forL (ag [0] 6) (fN 4 (ae cx 9 (aj 6)) (ae cx 4 (aj 6))) (ts.map λn=>D.str [n]) [pO pd,pS (.int mm),pS ru,pS (tD ts),pO (aB ps),o5,o6,o7,o8,pS (aB tw),none]=.ok .next [pO pd,pS (.int mm),pS ru,pS (tD ts),pO (aB qs),o5,fm,o7,o8,pS (aB tw),none]/\iI qs ts/\(∀t∈ts,∀u,dg tw t=some u->∃v,dg qs u=some v)/\qs.length<=200:=by
 obtain⟨δ',e,qs,fm,q1,q2,q3,rfl⟩:=jW (g:=ag [0] 6) (b:=fN 4 (ae cx 9 (aj 6)) (ae cx 4 (aj 6))) (λk' δ=>∃(qs:List (Nat×Nat))(o6:Option S),qs.length<=100+k'/\iI qs ts/\(∀t∈ts.take k',∀u,dg tw t=some u->∃v,dg qs u=some v)/\δ=[pO pd,pS (.int mm),pS ru,pS (tD ts),pO (aB qs),o5,o6,o7,o8,pS (aB tw),none]) (ts.map λn=>D.str [n]) 0 [pO pd,pS (.int mm),pS ru,pS (tD ts),pO (aB ps),o5,o6,o7,o8,pS (aB tw),none] ⟨ps,o6,Y',jq,λt ht=>by simp at ht,rfl⟩ λi d δ hd hh=>by
  obtain⟨qs,o6,q1,q2,q3,e⟩:=hh
  subst e;rw[Wu,Ww]at hd;obtain⟨n,gE,rfl⟩:=hd;rw[Qd]at q1 q3⊢;have hi:=(W8.mp gE).1;have hm:=Wq gE;obtain⟨u,hu⟩:=AI n hm;obtain⟨v,hv⟩:=q2 n hm;have g1:=pw hu;have g2:=pw hv;refine⟨_,[pO pd,pS (.int mm),pS ru,pS (tD ts),pO (aB (gN qs u v)),o5,pS (.str [n]),o7,o8,pS (aB tw),none],rfl,?_,⟨gN qs u v,_,by have:=Az qs u v;lia,Kb q2 u v,λt ht x hx=>?_,rfl⟩⟩
  .refine(AA (ps:=qs) (a:=u) (b:=v) (δ1:=[pO pd,pS (.int mm),pS ru,pS (tD ts),pO (aB qs),o5,pS (.str [n]),o7,o8,pS (aB tw),none]) (δ2:=[pO pd,pS (.int mm),pS ru,pS (tD ts),pO (aB qs),o5,pS (.str [n]),o7,o8,pS (aB tw),none]) ⟨qs,rfl⟩ ?_ ⟨qs,rfl⟩ ?_ rfl Y').trans rfl;.generalize aB qs=dd at g2⊢;generalize aB tw=dt at g1⊢;generalize tD ts=td;simp[ae,aO,aj,g2]
   .generalize aB qs=dd at g2⊢;generalize aB tw=dt at g1⊢;generalize tD ts=td;simp[ae,aO,aj,g1]
  .rw[JL,gE]at ht;simp at ht;rw[vx];rcases ht with ht|rfl
   .split;.exact⟨_,rfl⟩
    .exact q3 t ht x hx
   .rw[hu]at hx;cases hx;exact⟨v,by rw[if_pos rfl]⟩
 rw[Qd,Wv]at q1 q3;rw[Uo]at q3;exact⟨qs,fm,e,q2,q3,Y'⟩
abbrev vy:DE:=bR [10] (aS (ae ao 2 (ah (eD (.int 2))))) (ag [0] 10) bz (ae ao 10 (ah (eD (.int 0))))
theorem Kc{h:Nat}{bs:List (Nat×List Tx)}(hn:bs.length<=62)(pd:D)(o3:Option S)(s4:Option S)(o5 o6 o7 o8 o9:Option S):vy [pO pd,pS (.int mm),pS (aq h w bs),o3,s4,o5,o6,o7,o8,o9,none]=.ok (.own (tD (bs.map (·.1)))) [pO pd,pS (.int mm),pS (aq h w bs),o3,s4,o5,o6,o7,o8,o9,none]:=by
 have x2:=(me h w bs).2.2;have e:=m7 (cs:=[10]) (g:=ag [0] 10) (t:=bz) (el:=ae ao 10 (ah (eD (.int 0)))) aT (λb:Nat×List Tx=>D.str [b.1]) [pO pd,pS (.int mm),pS (aq h w bs),o3,s4,o5,o6,o7,o8,o9,none] bs [] (by rw[cT];simp;lia) λb hb=>⟨_,_,.pure (.str [b.1]),[pO pd,pS (.int mm),pS (aq h w bs),o3,s4,o5,o6,o7,o8,o9,pS (aT b)],rfl,rfl,by generalize aq h w bs=ru at*;simp[ae,aO,aj,ao,kT],rfl,rfl⟩;have eT:(bs.map λb:Nat×List Tx=>D.str [b.1])=(bs.map (·.1)).map λn=>D.str [n]:=by simp
 rw[WQ,eT]at e;generalize hru:aq h w bs=ru at*;simp[fj,ae,aO,aj,x2,bH,bC];rw[e];simp[dC,tD]
theorem ZF(ts:List Nat)(n:Nat)(h:n∈ts)(hl:ts.length<=1000):m4 (tD ts) (.str [n])=pS (.int ((ts.map λn=>([n]:Tx)).idxOf [n]:Nat)):=by
 have e:(ts.map λn=>D.str [n])=(ts.map λn=>[n]).map D.str:=by simp
 unfold m4 tD;simp only[e,oy];rw[if_pos ⟨WU (f:=λn=>([n]:Tx)) h,~~~hl⟩]
theorem mid(hD:∀(d:D)(m:Nat),a_ d->0<m->m<1073741824->∃(r:Nat)(d':D),GD [.own d,.pure (.int m)]=some (.pure (.int r),[.own d',.pure (.int m)])/\r<m/\a_ d')(hS:∀{h w:Nat}{bs:List (Nat×List Tx)},bc h w bs->∀{k:Nat},k<bs.length->GS [.pure (aq h w bs),.pure (.int k)]=some (.pure (aq h w (ig bs k)),[.pure (aq h w bs),.pure (.int k)]))(hU:∀{h w:Nat}{bs:List (Nat×List Tx)},bc h w bs->bs.length<=6->∀{pd:D},a_ pd->∃(bw:List (Nat×List Tx))(ps:List (Nat×Nat))(bb:D),GU [.pure (aq h w bs),.own pd]=some (.pure (.tup [aq h w bw,aB ps]),[.pure (aq h w bs),.own bb])/\bc h w bw/\a_ bb/\(∀t∈bs.map (·.1),t∈bw.map (·.1)/\∃v,dg ps t=some v/\v∈bw.map (·.1))/\(∀t∈bw.map (·.1),t∈bs.map (·.1)\/∃u∈bs.map (·.1),dg ps u=some t)){h:Nat}{bs:List (Nat×List Tx)}(R:bc h w bs)(hn:bs.length<=6)(hp:a_ pd)(ps:List (Nat×Nat))(hc:iI ps (bs.map (·.1)))(bu:ps.length<=100)(st:Nat)(cP:st∈bs.map (·.1))(o5 o6 o7:Option S):∃(bw:List (Nat×List Tx))(qs:List (Nat×Nat))(bb:D)(cL:Nat)(fm nE:Option S),(ck (aD (ax cN (aA GD [.io 0,.val (eD (.int 2))]) (ah (eD (.int 0))))) (au (aw (aA GU [.val (aa 2),.io 0]) (bV 2 (aQ (ag [0] 2) (aQ (ag [0] 9) cn)))) (au (bM (aS (aa 3)) (ag [0] 6) (fN 4 (ae cx 9 (aj 6)) (ae cx 4 (aj 6)))) (au (aw (ax ao (cj (ak (aa 8) (ak (ae cx 9 (aj 8)) ay))) (ah (aA GD [.io 0,.val (eD (.int 2))]))) (ag [0] 8)) (aw (aA GS [.val (aa 2),.val (lV vy (aa 8))]) (ag [0] 2))))) cA) [pO pd,pS (.int mm),pS (aq h w bs),pS (tD (bs.map (·.1))),pO (aB ps),o5,o6,o7,pS (.str [st]),none,none]=.ok .next [pO bb,pS (.int mm),pS (aq h w bw),pS (tD (bs.map (·.1))),pO (aB qs),o5,fm,o7,pS (.str [cL]),nE,none]/\bc h w bw/\iI qs (bw.map (·.1))/\a_ bb/\cL∈bw.map (·.1):=by
 obtain⟨r,d1,e1,hr,p1⟩:=AE hD hp;generalize dM:bs.map (·.1)=ts at*;have Ka:ts.length=bs.length:=by rw[<-dM];simp
 rcases hr with rfl|rfl
 .obtain⟨bw,tw,d2,e2,R',p2,h1,h2⟩:=hU R hn p1;rw[dM]at h1 h2;have ZG:iI tw ts:=λt ht=>let⟨_,v,hv,_⟩:=h1 t ht;⟨v,hv⟩;obtain⟨qs,fm,e3,c1,c2,ql⟩:=ZE (mm:=mm) (aq h w bw) d2 ts Y' tw ZG ps hc bu o5 o6 o7 (pS (.str [st]));obtain⟨r2,d3,e4,yB,p3⟩:=AE hD p2;obtain⟨j8,v,hv,lG⟩:=h1 st cP;have ZH:iI qs (bw.map (·.1)):=λt ht=>by
   rcases h2 t ht with h3|⟨u,hu,hx⟩;.exact c1 t h3
   .exact c2 u hu t hx
  have g1:=pw hv;have AK:(if r2=0 then st else v)∈bw.map (·.1):=by split<;>assumption
  have ZI:=R'.n1;have ei:=ZF (bw.map (·.1)) (if r2=0 then st else v) AK V';have hi:((bw.map (·.1)).map λn=>([n]:Tx)).idxOf [if r2=0 then st else v]<bw.length:=by have:=List.idxOf_lt_length_iff.mpr (WU (f:=λn=>([n]:Tx)) AK);simpa using this
  have e5:=hS R' hi;have x4:ao (.lst [.str [st],.str [v]]) (.int r2)=pS (.str [if r2=0 then st else v]):=by
   rcases yB with rfl|rfl;.rfl
   .rfl
  generalize(if r2=0 then st else v)=cL at*;generalize hix:((bw.map (·.1)).map λn=>([n]:Tx)).idxOf [cL]=ix at*;refine⟨ig bw ix,qs,d3,cL,fm,pS (aB tw),?_,IT R' ix,%[nD|ZH],p3,%[nD|AK]⟩;have q1:cN (.int 0) (.int 0)=pS (.bl true):=by rfl
  have et:aD (ax cN (aA GD [.io 0,.val (eD (.int 2))]) (ah (eD (.int 0)))) [pO pd,pS (.int mm),pS (aq h w bs),pS (tD ts),pO (aB ps),o5,o6,o7,pS (.str [st]),none,none]=.ok true [pO d1,pS (.int mm),pS (aq h w bs),pS (tD ts),pO (aB ps),o5,o6,o7,pS (.str [st]),none,none]:=by generalize aq h w bs=ru;generalize tD ts=td;generalize aB ps=dd;simp[aD,aA,bo,bX,bH,bI,bD,e1,aR,q1]
  rw[T_,et];simp only[eZ,if_true];refine ja (δ1:=[pO d2,pS (.int mm),pS (aq h w bw),pS (tD ts),pO (aB ps),o5,o6,o7,pS (.str [st]),pS (aB tw),none]) (by generalize aq h w bs=ru at e2⊢;generalize aq h w bw=ru' at e2⊢;generalize aB tw=dt at e2⊢;generalize tD ts=td;generalize aB ps=dd;simp[aw,aA,bo,bX,bH,bI,aa,bD,aR,e2,bV,aQ,cn]) ?_;refine ja (δ1:=[pO d2,pS (.int mm),pS (aq h w bw),pS (tD ts),pO (aB qs),o5,fm,o7,pS (.str [st]),pS (aB tw),none]) (by
 rw[qS];have hit:aS (aa 3) [pO d2,pS (.int mm),pS (aq h w bw),pS (tD ts),pO (aB ps),o5,o6,o7,pS (.str [st]),pS (aB tw),none]=.ok (ts.map λn=>D.str [n]) [pO d2,pS (.int mm),pS (aq h w bw),pS (tD ts),pO (aB ps),o5,o6,o7,pS (.str [st]),pS (aB tw),none]:=by unfold tD;generalize aq h w bw=ru';generalize aB tw=dt;generalize aB ps=dd;simp[fj,aa]
 rw[hit];exact e3) ?_;refine ja (δ1:=[pO d3,pS (.int mm),pS (aq h w bw),pS (tD ts),pO (aB qs),o5,fm,o7,pS (.str [cL]),pS (aB tw),none]) (by generalize aq h w bw=ru';generalize aB tw=dt at g1⊢;generalize aB qs=dd;generalize tD ts=td;simp[aw,aA,bo,bX,bH,bI,aa,bD,aR,ae,aO,aj,g1,e4,x4]) ?_;have px:=Kc (mm:=mm) (h:=h) (w:=w) (WS ZI Z') d3 (pS (tD ts)) (pO (aB qs)) o5 fm o7 (pS (.str [cL])) (pS (aB tw));have Kd:lV vy (aa 8) [pO d3,pS (.int mm),pS (aq h w bw),pS (tD ts),pO (aB qs),o5,fm,o7,pS (.str [cL]),pS (aB tw),none]=.ok (.pure (.int ix)) [pO d3,pS (.int mm),pS (aq h w bw),pS (tD ts),pO (aB qs),o5,fm,o7,pS (.str [cL]),pS (aB tw),none]:=by unfold lV;rw[px];have hL:uA (S.own (tD (bw.map (·.1)))).d=true:=rfl;simp only[eZ,hL,if_true];generalize aq h w bw=ru';generalize aB tw=dt;generalize aB qs=dd;generalize tD ts=td;simp only[aa,Q6,Qn,eZ,ow,ya,uD,ei]
  clear px;generalize aq h w (ig bw ix)=rn,aq h w bw=ru',aB tw=dt,aB qs=dd,tD ts=td at*;simp[aw,aA,bo,bX,bH,bI,Kd,bD,aR];simp[aa,Kd,bD,e5,aR]
 .have q1:cN (.int 1) (.int 0)=pS (.bl false):=by rfl
  refine⟨bs,ps,d1,st,o6,none,?_,R,%[dM|hc],p1,%[dM|cP]⟩;generalize aq h w bs=ru;generalize tD ts=td;generalize aB ps=dd;simp[aD,aA,bo,bX,bH,bI,bD,e1,aR,q1]
abbrev ZJ(GD GR GS GU:DF):DS:=au (aw (aA GR [.io 0,.val (aa 1)]) (ag [0] 2)) (au (aw (bR [10] (aS (ae ao 2 (ah (eD (.int 2))))) (ag [0] 10) bz (ae ao 10 (ah (eD (.int 0))))) (ag [0] 3)) (au (aw kL (ag [0] 4)) (au (aw (ax a7 (eD (.int 1)) (ah (aA GD [.io 0,.val (eD (.int 3))]))) (ag [0] 5)) (au (bM (aS (aa 3)) (ag [0] 6) (fN 4 (aa 6) (ax ao (eD (.str [120,121,122])) (ah (aA GD [.io 0,.val (aa 5)]))))) (au (aw (aA GD [.io 0,.val (aC bB (aj 3))]) (ag [0] 7)) (au (aw (aA GS [.val (aa 2),.val (aa 7)]) (ag [0] 2)) (au (aw (ae ao 3 (aj 7)) (ag [0] 8)) (au (ck (aD (ax cN (aA GD [.io 0,.val (eD (.int 2))]) (ah (eD (.int 0))))) (au (aw (aA GU [.val (aa 2),.io 0]) (bV 2 (aQ (ag [0] 2) (aQ (ag [0] 9) cn)))) (au (bM (aS (aa 3)) (ag [0] 6) (fN 4 (ae cx 9 (aj 6)) (ae cx 4 (aj 6)))) (au (aw (ax ao (cj (ak (aa 8) (ak (ae cx 9 (aj 8)) ay))) (ah (aA GD [.io 0,.val (eD (.int 2))]))) (ag [0] 8)) (aw (aA GS [.val (aa 2),.val (lV (bR [10] (aS (ae ao 2 (ah (eD (.int 2))))) (ag [0] 10) bz (ae ao 10 (ah (eD (.int 0))))) (aa 8))]) (ag [0] 2))))) cA) (bt (aG (ak (aa 2) (ak (aa 8) (ak (aC cq (ah (bR [10] (aS (ae ao 2 (ah (eD (.int 2))))) (ag [0] 10) bz (aG (ak (ae ao 10 (ah (eD (.int 0)))) (ak (ae cx 4 (ah (ae ao 10 (ah (eD (.int 0)))))) ay)))))) ay)))))))))))))
def nF(ps:List (Nat×Nat))(t:Nat):Nat:=(dg ps t).getD 0
theorem ZK{h:Nat}{bs:List (Nat×List Tx)}(R:bc h w bs)(pd:D)(ps:List (Nat×Nat))(hc:iI ps (bs.map (·.1)))(o3:Option S)(o5 o6 o7 o9:Option S)(st:Nat):(bt (aG (ak (aa 2) (ak (aa 8) (ak (aC cq (ah (bR [10] (aS (ae ao 2 (ah (eD (.int 2))))) (ag [0] 10) bz (aG (ak (ae ao 10 (ah (eD (.int 0)))) (ak (ae cx 4 (ah (ae ao 10 (ah (eD (.int 0)))))) ay)))))) ay))))) [pO pd,pS (.int mm),pS (aq h w bs),o3,pO (aB ps),o5,o6,o7,pS (.str [st]),o9,none]=.ok (.ret (.pure (.tup [aq h w bs,.str [st],AJ (bs.map λb=>(b.1,nF ps b.1))]))) [pO pd,pS (.int mm),pS (aq h w bs),o3,pO (aB ps),o5,o6,o7,pS (.str [st]),o9,none]:=by
 have x2:=(me h w bs).2.2;have n1:=R.n1;have e:=m7 (cs:=[10]) (g:=ag [0] 10) (t:=bz) (el:=aG (ak (ae ao 10 (ah (eD (.int 0)))) (ak (ae cx 4 (ah (ae ao 10 (ah (eD (.int 0)))))) ay))) aT (λb:Nat×List Tx=>D.tup [.str [b.1],.str [nF ps b.1]]) [pO pd,pS (.int mm),pS (aq h w bs),o3,pO (aB ps),o5,o6,o7,pS (.str [st]),o9,none] bs [] (by rw[cT];simp;lia) λb hb=>by obtain⟨v,hv⟩:=hc b.1 (WU hb);have g:=pw hv;refine⟨_,_,.pure (.tup [.str [b.1],.str [v]]),[pO pd,pS (.int mm),pS (aq h w bs),o3,pO (aB ps),o5,o6,o7,pS (.str [st]),o9,pS (aT b)],rfl,rfl,?_,rfl,#v[nF,hv]⟩;have xb:ao (aT b) (.int 0)=pS (.str [b.1]):=#v[ao,kT];generalize aq h w bs=ru,aB ps=dd,aT b=db at*;simp[ae,aO,aj,xb,g]
 have eT:(bs.map λb:Nat×List Tx=>D.tup [.str [b.1],.str [nF ps b.1]])=(bs.map λb=>(b.1,nF ps b.1)).map λp=>D.tup [.str [p.1],.str [p.2]]:=by simp
 rw[WQ,eT]at e;generalize wV:(bs.map λb=>(b.1,nF ps b.1)).map (λp=>D.tup [.str [p.1],.str [p.2]])=pp,hru:aq h w bs=ru,aB ps=dd at*;simp[aa,fj,ae,aO,aj,x2,bH,bC];rw[e];simp[dC,cq];rw[<-wV,WC]
theorem ZL{GR:DF}(hD:∀(d:D)(m:Nat),a_ d->0<m->m<1073741824->∃(r:Nat)(d':D),GD [.own d,.pure (.int m)]=some (.pure (.int r),[.own d',.pure (.int m)])/\r<m/\a_ d')(hS:∀{h w:Nat}{bs:List (Nat×List Tx)},bc h w bs->∀{k:Nat},k<bs.length->GS [.pure (aq h w bs),.pure (.int k)]=some (.pure (aq h w (ig bs k)),[.pure (aq h w bs),.pure (.int k)]))(hU:∀{h w:Nat}{bs:List (Nat×List Tx)},bc h w bs->bs.length<=6->∀{pd:D},a_ pd->∃(bw:List (Nat×List Tx))(ps:List (Nat×Nat))(bb:D),GU [.pure (aq h w bs),.own pd]=some (.pure (.tup [aq h w bw,aB ps]),[.pure (aq h w bs),.own bb])/\bc h w bw/\a_ bb/\(∀t∈bs.map (·.1),t∈bw.map (·.1)/\∃v,dg ps t=some v/\v∈bw.map (·.1))/\(∀t∈bw.map (·.1),t∈bs.map (·.1)\/∃u∈bs.map (·.1),dg ps u=some t))(hR:∀d,a_ d->∃(h w:Nat)(bs:List (Nat×List Tx))(d':D),GR [.own d,.pure (.int mm)]=some (.pure (aq h w bs),[.own d',.pure (.int mm)])/\bc h w bs/\bs.length<=6/\a_ d')(hp:a_ pd):∃(h w:Nat)(bs:List (Nat×List Tx))(st:Nat)(ps:List (Nat×Nat))(bb:D),cf [0] 11 (ZJ GD GR GS GU) [.own pd,.pure (.int mm)]=some (.pure (.tup [aq h w bs,.str [st],AJ ps]),[.own bb,.pure (.int mm)])/\bc h w bs/\ps.map (·.1)=bs.map (·.1)/\a_ bb/\st∈bs.map (·.1):=by
 obtain⟨h,w,bs,d1,e1,R,hn,p1⟩:=hR pd hp;obtain⟨k,d2,e2,l2,p2⟩:∃(r:Nat)(d':D),GD [.own d1,.pure (.int 3)]=some (.pure (.int r),[.own d',.pure (.int 3)])/\r<3/\a_ d':=hD d1 3 p1 Z' Z';generalize dM:bs.map (·.1)=ts;have Ka:ts.length=bs.length:=by rw[<-dM];simp
 have n0:=R.n0;obtain⟨ps,d3,o6,e3,hc,bu,p3⟩:=signs (mm:=mm) hD (aq h w bs) ts Y' k l2 p2;obtain⟨sp,d4,e4,l4,p4⟩:=hD d3 ts.length p3 Y' Y';have e5:=hS R (k:=sp) Y';have R2:=IT R sp;have cP:ts.getD sp 0∈ts:=#v[l4];obtain⟨bw,qs,d5,cL,fm,nE,e6,R',fR,p5,hm⟩:=mid (mm:=mm) hD hS hU R2 (by have:=congrArg JY (nD bs sp);simp at this;lia) p4 ps %[nD,dM|hc] Y' (ts.getD sp 0) %[nD,dM|cP] (pS (.int (1+(k:Int)))) o6 (pS (.int sp));rw[nD,dM]at e6;have bq:=IS ts;have x3:=Ay ts sp l4;have px:=Kc (mm:=mm) (h:=h) (w:=w) (bs:=bs) (WS R.n1 Z') d1 none none none none none none none;rw[dM]at px;refine⟨h,w,bw,cL,bw.map λb=>(b.1,nF qs b.1),d5,?_,R',U',p5,by grind⟩;have er:=ZK (mm:=mm) R' d5 qs fR (pS (tD ts)) (pS (.int (1+(k:Int)))) fm (pS (.int sp)) nE cL;clear hR hD hS hU;unfold vy at px;have hit:aS (aa 3) [pO d2,pS (.int mm),pS (aq h w bs),pO (tD ts),pO (aB []),pS (.int (1+(k:Int))),none,none,none,none,none]=.ok (ts.map λn=>D.str [n]) [pO d2,pS (.int mm),pS (aq h w bs),pS (tD ts),pO (aB []),pS (.int (1+(k:Int))),none,none,none,none,none]:=by unfold tD;generalize aq h w bs=ru at*;simp[fj,aa]
 have dn:kL=λδ=>.ok (.own (aB [])) δ:=rfl;generalize aq h w (ig bs sp)=rn,aq h w bs=ru,tD ts=td,aB ps=dp,aB []=d0,(ts.length:Int)=zl,ts.getD sp 0=s0 at*;apply gR;.refine bF ?_ oR;refine bF ?_ (by unfold aw;rw[px];rfl);refine bF ?_ (by rw[dn];rfl);refine bF ?_ oR;refine bF ?_ ((iH hit).trans e3);refine bF ?_ oR;refine bF ?_ oR;refine bF ?_ oR;exact bF er e6
 .rfl
 .rfl
theorem ZM(hp:a_ pd)(m:Nat)(h0:0<m)(h6:m<=6):∃(h w:Nat)(bs:List (Nat×List Tx))(st:Nat)(ps:List (Nat×Nat))(bb:D),ka [.own pd,.pure (.int (m:Nat))]=some (.pure (.tup [aq h w bs,.str [st],AJ ps]),[.own bb,.pure (.int (m:Nat))])/\bc h w bs/\ps.map (·.1)=bs.map (·.1)/\a_ bb/\st∈bs.map (·.1):=by rw[ka,HI];exact ZL (λd m hp a b=>pq hp m a b) (λR _ hk=>Zk R hk) (λR hn _ hp=>Zz R hn hp) (λd hp=>by obtain⟨h,w,bs,d',e,R,hn,p⟩:=Za hp m h0 Y';exact⟨h,w,bs,d',e,Zi R,Y',p⟩) hp
def cW(bs:List (Nat×List Tx))(n:Nat):List Tx:=((bs.find? λb=>decide (b.1=n)).map (·.2)).getD []
theorem mi{bs:List (Nat×List Tx)}(h:n∈bs.map (·.1)):∃b∈bs,b.1=n/\(bs.find? λb=>decide (b.1=n))=some b/\cW bs n=b.2:=by cases e:bs.find? λb=>decide (b.1=n)with|none=>obtain⟨b,hb,rfl⟩:=Q9.mp h;have:=List.find?_eq_none.mp e b hb;simp at this|some b=>have h1:=Jq e;have h2:=Uq e;refine⟨b,h1,~~~h2,rfl,?_⟩;unfold cW;rw[e];rfl
theorem Ke(xs:List Tx)(m:Nat)(h:∀x∈xs,x.length<=m):g8 xs<=xs.length*m:=by induction xs with|nil=>simp[g8]|cons x r ih=>have h1:=h x Wt;have h2:=ih λy hy=>h y (Wm _ hy);have e:g8 (x::r)=x.length+g8 r:=#v[g8];rw[e,Q4,Nat.succ_mul];lia
theorem ZN{b:DS}{x:D}(e:b (aX n [.pure x])=.ok (.ret v) δ1):cf [] n b [.pure x]=some (v,[.pure x]):=by rw[kf,e];rfl
theorem Kf{b:DS}{x:D}(e:b (aX n [.pure x,.pure y])=.ok (.ret v) δ1):cf [] n b [.pure x,.pure y]=some (v,[.pure x,.pure y]):=by rw[kf,e];rfl
theorem Kg(xs:List Tx)(h:g8 xs<=16777216):cE [] (bA xs)=pS (.str xs.flatten):=by unfold cE;simp only[oy,uG];rw[if_pos (~~~h)]
theorem ZO(k t:Nat):cI (k:Int) (t+1)=.int (k:Int)::cI ((k+1:Nat):Int) t:=by unfold cI;rw[List.range_succ_eq_map,Wf,WC];simp only[Function.comp_def,List.cons.injEq,D.int.injEq];refine⟨U',QJ λi _=>?_⟩;simp only[D.int.injEq];push_cast;lia
theorem kg{b:DS}{d:D}(h1:g (.pure d) δ=some δ1)(h2:b δ1=.ok .next δ2):forL g b (d::r) δ=forL g b r δ2:=by
 conv=>lhs;unfold forL
 rw[h1];simp only[h2,eZ]
theorem ZP{t:DT}{b:DS}(h1:t δ=.ok true δ1)(h2:b δ1=.ok .next δ2):gf t b (n+1) δ=gf t b n δ2:=by simp only[gf,h1,eZ,if_true,h2]
theorem ZQ{t:DT}{b:DS}(h1:t δ=.ok false δ1):gf t b (n+1) δ=.ok .next δ1:=by simp[gf,h1]
def eQ(bs:List (Nat×List Tx))(t:Nat):List Nat:=(cW bs t).flatten
theorem AL{bs:List (Nat×List Tx)}(nd:(bs.map (·.1)).Nodup){b:Nat×List Tx}(hb:b∈bs):cW bs b.1=b.2:=by obtain⟨b',hb',e1,_,e2⟩:=mi (WU (f:=(·.1)) hb);obtain⟨i,hi⟩:=JO.mp hb;obtain⟨j,hj⟩:=JO.mp hb';have:i=j:=(List.getElem?_inj (l:=bs.map (·.1)) (by simpa using(W8.mp hi).1) nd).mp (by grind);grind
theorem Kh(C:Nat):∀l:List Tx,(∀r∈l,r.length=C)->l.flatten.length=l.length*C|[],_=>by simp|r::l,h=>by rw[Jm,QP,Kh C l λx hx=>h x (Wm _ hx),h r Wt,Q4,Nat.succ_mul];lia
theorem vz{h:Nat}{bs:List (Nat×List Tx)}(R:bc h w bs)(ht:t∈bs.map (·.1)):(eQ bs t).length=h*w/\h*w<=16/\∀p∈eQ bs t,p∈bs.map (·.1):=by obtain⟨b,hb,rfl⟩:=Q9.mp ht;unfold eQ;rw[AL R.nd hb];have hB:=R.cW b hb;refine⟨by rw[Kh w b.2 λr hr=>(hB.2 r hr).1,hB.1],Nat.mul_le_mul R.h1 R.w1,λp hp=>?_⟩;obtain⟨r,hr,hpr⟩:=List.mem_flatten.mp hp;exact(hB.2 r hr).2 p hpr
theorem ZR{h:Nat}{bs:List (Nat×List Tx)}(R:bc h w bs){b:Nat×List Tx}(hb:b∈bs):cE [] (bA b.2)=pS (.str (eQ bs b.1)):=by have hB:=R.cW b hb;unfold eQ;rw[AL R.nd hb];refine Kg _ ?_;have:=Ke b.2 w λx hx=>Nat.le_of_eq (hB.2 x hx).1;rw[hB.1]at this;have h2:h*w<=4*4:=Nat.mul_le_mul R.h1 R.w1;lia
def eR(bs:List (Nat×List Tx)):D:=.bU (bs.map λb=>((Sum.inr [b.1]:cy),D.str (eQ bs b.1)))
theorem Ki{bs:List (Nat×List Tx)}(h:t∈bs.map (·.1)):cx (eR bs) (.str [t])=pS (.str (eQ bs t)):=by
 have hv:fB (bs.map λb=>((Sum.inr [b.1]:cy),D.str (eQ bs b.1))) (.inr [t])=(bs.find? λp=>decide (p.1=t)).map λp=>D.str (eQ bs p.1):=by unfold fB;rw[List.find?_map];simp[Function.comp_def]
 show((eY (.str [t])).bind λk=>(fB (bs.map λb=>((Sum.inr [b.1]:cy),D.str (eQ bs b.1))) k).map S.pure)=_;simp only[eY,Wz,hv];obtain⟨b,hb,rfl,e,_⟩:=mi h;rw[e];rfl
theorem Kj(F:Nat->Tx):∀bs:List (Nat×List Tx),iW (bs.map λb=>D.tup [.str [b.1],.str (F b.1)])=some (bs.map λb=>((Sum.inr [b.1]:cy),D.str (F b.1)))|[]=>rfl|b::r=>by have:=Kj F r;simp only[Wf];simp[iW,eY,this]
theorem ZS{h:Nat}{bs:List (Nat×List Tx)}(R:bc h w bs):gi (.lst (bs.map λb=>D.tup [.str [b.1],.str (eQ bs b.1)]))=pO (eR bs):=by
 have n1:=R.n1;unfold gi;simp only[Kj (eQ bs),Wz,Wv];rw[if_pos (by rw[cT];lia),Aw];.rfl
 .simp only[WQ,WC];have nd:=R.nd;rw[List.nodup_iff_pairwise_ne,List.pairwise_map]at nd⊢;exact nd.imp λ{a b}je=>~~~je
abbrev AM:DE:=ax ao (ae cx 0 (aj 6)) (aj 5)
theorem ZT(xs:List Tx)(i:Nat)(h:i<xs.length):ao (bA xs) (.int i)=pS (.str xs[i]):=by show(di (xs.map D.str) (i:Int)).map S.pure=_;rw[h9];simp[h]
theorem Kk(xs:List Tx)(h:g8 xs<=16777216):cE [] (.lst (xs.map .str))=pS (.str xs.flatten):=by unfold cE;simp only[oy,uG];rw[if_pos (~~~h)]
def cC(bs:List (Nat×List Tx)):D:=.bU (bs.map λb=>((Sum.inr [b.1]:cy),bA b.2))
theorem Kl:∀bs:List (Nat×List Tx),iW (bs.map aT)=some (bs.map λb=>((Sum.inr [b.1]:cy),bA b.2))|[]=>rfl|b::r=>by have:=Kl r;simp only[Wf];simp[aT,iW,eY,this]
theorem AN{h:Nat}{bs:List (Nat×List Tx)}(R:bc h w bs):gi (.tup (bs.map aT))=pO (cC bs):=by
 have n1:=R.n1;unfold gi;simp only[Kl,Wz,Wv];rw[if_pos (by rw[cT];lia),Aw];.rfl
 .simp only[WQ,WC];have nd:=R.nd;rw[List.nodup_iff_pairwise_ne,List.pairwise_map]at nd⊢;exact nd.imp λ{a b}je=>~~~je
theorem Km{bs:List (Nat×List Tx)}(h:t∈bs.map (·.1)):fB (bs.map λb=>((Sum.inr [b.1]:cy),bA b.2)) (.inr [t])=some (bA (cW bs t)):=by unfold fB;rw[List.find?_map];obtain⟨b,hb,rfl,e,e2⟩:=mi h;simp[Function.comp_def,e,e2]
theorem AO{bs:List (Nat×List Tx)}(h:t∈bs.map (·.1)):cx (cC bs) (.str [t])=pS (bA (cW bs t)):=by show((eY (.str [t])).bind λk=>(fB (bs.map λb=>((Sum.inr [b.1]:cy),bA b.2)) k).map S.pure)=_;simp[eY,Km h]
theorem ZU{bs:List (Nat×List Tx)}(h:t∈bs.map (·.1)):gG true (.str [t]) (cC bs)=pS (.bl false):=by show((eY (.str [t])).map λk=>S.pure (.bl (if true then !(fB (bs.map λb=>((Sum.inr [b.1]:cy),bA b.2)) k).isSome else _)))=_;simp[eY,Km h]
theorem ZV{h:Nat}{bs:List (Nat×List Tx)}(R:bc h w bs):rR [.pure (aq h w bs)]=some (.own (.lst ((bs.map (·.1)).map λt=>D.str [t])),[.pure (aq h w bs)]):=by have x2:=(me h w bs).2.2;have hn:=R.n1;generalize aq h w bs=ru at*;have e:=m7 (cs:=[1,2]) (g:=bV 2 (aQ (ag [] 1) (aQ (ag [] 2) cn))) (t:=bz) (el:=aa 1) aT (λb:Nat×List Tx=>D.str [b.1]) [pS ru,none,none] bs [] (by rw[cT];simp;lia) λb hb=>⟨_,_,.pure (D.str [b.1]),[pS ru,pS (.str [b.1]),pS (bA b.2)],rfl,rfl,rfl,rfl,rfl⟩;rw[rR,kf,HK];simp[bO,aX,ae,aO,aj,x2,fj,bH,bC];rw[e];simp[dC,bW,bj,Function.comp_def]
theorem Kn(δ:Dl)(e:DE)(h:e δ=.ok (.pure (.int 1)) δ):c9 e δ=.ok [.int 0] δ:=by unfold c9;rw[h];rfl
theorem AQ{b:DS}{d:D}(h1:g (.pure d) δ=some δ1)(h2:b δ1=.ok .next δ2):forL g b [d] δ=.ok .next δ2:=by rw[kg h1 h2];rfl
theorem Ko(f:Nat)(hf:f<=100):pb [.pure (.int 1),.pure (.int f),.pure (.int 1)]=some (.pure (.int f),[.pure (.int 1),.pure (.int f),.pure (.int 1)]):=by
 have m:cS (.int 1) (.int f)=pS (.int f):=by have c:iR 1 f=true:=#v[iR];simp[cS,nV,fL,c]
 rw[pb,HN];generalize(f:Int)=z at*;refine gR (δ1:=[pS (.int z),pS (.int z),pS (.int 1),pS (.int 0)]) (bF (δ1:=[pS (.int z),pS (.int z),pS (.int 1),pS (.int 0)]) rfl ?_) rfl rfl;rw[iH (Kn _ (aa 2) rfl)];refine AQ rfl ?_;simp[aX,aw,ae,aO,aj,m]
theorem ZW(a b:Nat)(ha:a<=64)(hb:b<=64):rT [.pure (.int a),.pure (.int b),.pure (.int 64)]=some (.pure .aJ,[.pure (.int a),.pure (.int b),.pure (.int 64)]):=by
 have h1:d_ (.int a) (.int 64)=pS (.bl false):=by simp[d_,cz];lia
 have h2:d_ (.int b) (.int 64)=pS (.bl false):=by simp[d_,cz];lia
 rw[rT,kf,HM];simp[bO,aX,aD,ae,aO,aj,h1,h2,bW,bj]
theorem ZX{bs:List (Nat×List Tx)}(h:t∈bs.map (·.1)):rS [.pure (cC bs),.pure (.tup [.str [t]])]=some (.pure .aJ,[.pure (cC bs),.pure (.tup [.str [t]])]):=by have j:cE [] (.tup [.str [t]])=pS (.str [t]):=Kg [[t]] #v[g8];have q:=ZU h;rw[rS,kf,HL];generalize cC bs=DB,D.tup [.str [t]]=F at*;simp[bO,aX,bM,fj,aj,j,forL,aD,aa,q,bW,bj]
abbrev lB:DS:=bG 3 (aC (cE []) (ah (bR [6] (aS (aa 4)) (ag [] 6) bz AM)))
theorem ZY{h:Nat}{bs:List (Nat×List Tx)}(R:bc h w bs)(ht:t∈bs.map (·.1)):rU [.pure (cC bs),.pure (.int h),.pure (.tup [.str [t]])]=some (.pure (bA (cW bs t)),[.pure (cC bs),.pure (.int h),.pure (.tup [.str [t]])]):=by
 have q:=AO ht;obtain⟨b,hb,rfl,_,eb⟩:=mi ht;obtain⟨b1,b2⟩:=R.cW b hb;have h1:=R.h1;have w1:=R.w1;rw[eb]at q⊢;generalize cC bs=DB,hz:D.str [b.1]=z at*;rw[rU,HP];have inner:=jW (g:=ag [] 5) (b:=lB) (λi δ=>∃o5,δ=[pS DB,pS (.int h),pS (.tup [z]),pO (.lst ((b.2.take i).map .str)),pS z,o5,none]) (cI 0 h) 0 [pS DB,pS (.int h),pS (.tup [z]),pO (.lst []),pS z,none,none] ⟨none,rfl⟩ λi d δ hd⟨o5,e⟩=>by
  subst e;obtain⟨hi,rfl⟩:=qT hd;rw[Qd];have mO:i<b.2.length:=by lia
  have hx:ao (bA b.2) (.int i)=pS (.str b.2[i]):=ZT b.2 i mO;have hj:cE [] (.lst [.str b.2[i]])=pS (.str b.2[i]):=by have:=Kk [b.2[i]] (by have:=(b2 _ (WX mO)).1;simp[g8];lia);simpa using this
  have et:(b.2.take (i+1)).map D.str=(b.2.take i).map D.str++[.str b.2[i]]:=by rw[JL,QZ];simp[mO]
  have ec:bR [6] (aS (aa 4)) (ag [] 6) bz AM [pS DB,pS (.int h),pS (.tup [z]),pO (.lst ((b.2.take i).map .str)),pS z,pS (.int i),none]=.ok (.own (.lst [.str b.2[i]])) [pS DB,pS (.int h),pS (.tup [z]),pO (.lst ((b.2.take i).map .str)),pS z,pS (.int i),none]:=by
   have eq:aS (aa 4) [pS DB,pS (.int h),pS (.tup [z]),pO (.lst ((b.2.take i).map .str)),pS z,pS (.int i),none]=.ok ([z].map λx=>x) [pS DB,pS (.int h),pS (.tup [z]),pO (.lst ((b.2.take i).map .str)),pS z,pS (.int i),none]:=by rw[<-hz];simp[fj,aa,S.d]
   refine(cM (λx=>x) (λ_=>D.str b.2[i]) eq U' λa ha=>?_).trans rfl;have:a=z:= ~~~ha;subst this;refine⟨[pS DB,pS (.int h),pS (.tup [a]),pO (.lst ((b.2.take i).map .str)),pS a,pS (.int i),pS a],_,.pure (.str b.2[i]),[pS DB,pS (.int h),pS (.tup [a]),pO (.lst ((b.2.take i).map .str)),pS a,pS (.int i),pS a],rfl,rfl,?_,rfl,rfl⟩;generalize(b.2.take i).map D.str=TT,bA b.2=FB at*;simp[ax,ae,aO,aj,q,hx,S.d]
  have hl:((b.2.take i).map D.str).length<Wa:=by rw[cT];simp;lia
  refine⟨_,_,rfl,?_,pS (.int i),rfl⟩;rw[et];generalize(b.2.take i).map D.str=TT at*;unfold lB;generalize bR [6] (aS (aa 4)) (ag [] 6) bz AM=E at*;simp[bG,ec,hj,eW,putL,hl,S.d]
 obtain⟨δ',e1,o5,e2⟩:=inner;rw[Qd,Fz,Ja Y']at e2;subst e2;have hr:c9 (aa 1) [pS DB,pS (.int h),pS (.tup [z]),pO (.lst []),pS z,none,none]=.ok (cI 0 h) [pS DB,pS (.int h),pS (.tup [z]),pO (.lst []),pS z,none,none]:=by rw[yd];simp only[aa,Q6,Qn,eZ];exact m5 h Y' _
 have k1:bM (aS (aa 2)) (ag [] 4) (bM (c9 (aa 1)) (ag [] 5) lB) [pS DB,pS (.int h),pS (.tup [z]),pO (.lst []),none,none,none]=.ok .next [pS DB,pS (.int h),pS (.tup [z]),pO (.lst (b.2.map .str)),pS z,o5,none]:=by rw[iH (ds:=[z]) (δ1:=[pS DB,pS (.int h),pS (.tup [z]),pO (.lst []),none,none,none]) #v[fj,aa,S.d]];refine AQ (δ1:=[pS DB,pS (.int h),pS (.tup [z]),pO (.lst []),pS z,none,none]) rfl ?_;rw[iH hr];exact e1
 refine gR (δ1:=[pS DB,pS (.int h),pS (.tup [z]),pO (.lst (b.2.map .str)),pS z,o5,none]) (bF (bF (δ1:=[pS DB,pS (.int h),pS (.tup [z]),pO (.lst (b.2.map .str)),pS z,o5,none]) ?_ k1) ?_) rfl rfl;.generalize hT:b.2.map D.str=TT;simp[aj,cq,S.d,bA,hT]
 .simp[aw,aX]
abbrev sO(H W B F:D)(o6 o7 o8:Option S):Dl:=[pS (.tup [H,W,B]),pS F,pS (.int 1),pS H,pS W,pS B,o6,o7,o8]
theorem ZZ(GL:DF)(H W B F DB FB:D)(l1:GL [.pure DB,.pure H,.pure F]=some (.pure FB,[.pure DB,.pure H,.pure F])):bM (c9 (aa 2)) (ag [] 8) (aw (aA GL [.val (aa 6),.val (aa 3),.val (aa 7)]) (ag [] 7)) (sO H W B F (pS DB) (pS F) none)=.ok .next (sO H W B F (pS DB) (pS FB) (pS (.int 0))):=by rw[iH (Kn (sO H W B F (pS DB) (pS F) none) (aa 2) rfl)];refine AQ (δ1:=sO H W B F (pS DB) (pS F) (pS (.int 0))) rfl ?_;simp[aw,aA,bo,bX,bI,aa,bD,l1,aR,S.d]
theorem Z0(GS GG GB GL:DF)(H W B F z DB FB:D)(s1:GS [.pure DB,.pure F]=some (.pure .aJ,[.pure DB,.pure F]))(g1:GG [.pure (.int 1),.pure H,.pure (.int 1)]=some (.pure H,[.pure (.int 1),.pure H,.pure (.int 1)]))(g2:GG [.pure (.int 1),.pure W,.pure (.int 1)]=some (.pure W,[.pure (.int 1),.pure W,.pure (.int 1)]))(b1:GB [.pure H,.pure W,.pure (.int 64)]=some (.pure .aJ,[.pure H,.pure W,.pure (.int 64)]))(l1:GL [.pure DB,.pure H,.pure F]=some (.pure FB,[.pure DB,.pure H,.pure F]))(d1:gi B=pO DB)(t0:ao F (.int 0)=pS z)(n0:bB F=pS (.int 1))(n1:bB z=pS (.int 1)):cf [] 9 (au (aw (aa 0) (bV 3 (aQ (ag [] 3) (aQ (ag [] 4) (aQ (ag [] 5) cn))))) (au (aw (aC gi (aj 5)) (ag [] 6)) (au (kG (aA GS [.val (aa 6),.val (aa 1)])) (au (kG (aA GB [.val (aA GG [.val (aC bB (aj 1)),.val (aa 3),.val (aa 2)]),.val (aA GG [.val (aC bB (ah (ae ao 1 (ah (eD (.int 0)))))),.val (aa 4),.val (aa 2)]),.val (eD (.int 64))])) (au (aw (aa 1) (ag [] 7)) (au (bM (c9 (aa 2)) (ag [] 8) (aw (aA GL [.val (aa 6),.val (aa 3),.val (aa 7)]) (ag [] 7))) (bt (aa 7)))))))) [.pure (.tup [H,W,B]),.pure F,.pure (.int 1)]=some (.pure FB,[.pure (.tup [H,W,B]),.pure F,.pure (.int 1)]):=by
 apply gR
 .iterate 5 refine bF ?_ oR
  exact bF rfl (ZZ GL H W B F DB FB l1)
 .rfl
 .rfl
theorem Z1{h:Nat}{bs:List (Nat×List Tx)}(R:bc h w bs)(ht:t∈bs.map (·.1)):pe [.pure (aq h w bs),.pure (.tup [.str [t]]),.pure (.int 1)]=some (.pure (bA (cW bs t)),[.pure (aq h w bs),.pure (.tup [.str [t]]),.pure (.int 1)]):=by have h1:=R.h1;have w1:=R.w1;have s1:=ZX ht;have g1:=Ko h Y';have g2:=Ko w Y';have b1:=ZW h w Y' Y';have l1:=ZY R ht;have d1:=AN R;have t0:ao (.tup [.str [t]]) (.int 0)=pS (.str [t]):=rfl;have n0:bB (.tup [.str [t]])=pS (.int 1):=#v[bB,cT];have n1:bB (.str [t])=pS (.int 1):=#v[bB,cT];rw[pe,HQ];exact Z0 _ _ _ _ _ _ _ _ _ _ _ s1 g1 g2 b1 l1 d1 t0 n0 n1
abbrev sD(t:Nat):D:=.str [t]
theorem Z2{GO:DF}{z fl:D}{x:Tx}(g:GO [.pure ru,.pure (.tup [z]),.pure (.int 1)]=some (.pure fl,[.pure ru,.pure (.tup [z]),.pure (.int 1)]))(j:cE [] fl=pS (.str x)):(aG (ak (aa 2) (ak (aC (cE []) (ah (aA GO [.val (aa 0),.val (aG (ak (aa 2) ay)),.val (aa 1)]))) ay))) [pS ru,pS (.int 1),pS z]=.ok (.pure (.tup [z,.str x])) [pS ru,pS (.int 1),pS z]:=by simp[aA,bo,bX,bI,aa,aj,bD,g,aR,S.d,j]
theorem Z3{ls acc:List D}{ds:D}(gt:GT [.pure ru]=some (.own (.lst ls),[.pure ru]))(c:dW [2] (ag [] 2) bz el ls [pS ru,pS (.int 1),none] []=.ok acc [pS ru,pS (.int 1),none])(d:gi (.lst acc)=pO ds):bt (aC gi (ah (bR [2] (aS (aA GT [.val (aa 0)])) (ag [] 2) bz el))) [pS ru,pS (.int 1),none]=.ok (.ret (.own ds)) [pS ru,pS (.int 1),none]:=by simp[fj,aA,bo,bX,bI,aa,bD,gt,aR,S.d,bH,bC];rw[c];simp[dC,d,S.d]
theorem vA{h:Nat}{bs:List (Nat×List Tx)}(R:bc h w bs):pf [.pure (aq h w bs),.pure (.int 1)]=some (.own (eR bs),[.pure (aq h w bs),.pure (.int 1)]):=by have hn1:=R.n1;have gt:=ZV R;have db:=ZS R;have c:=m7 (cs:=[2]) (g:=ag [] 2) (t:=bz) (el:=aG (ak (aa 2) (ak (aC (cE []) (ah (aA pe [.val (aa 0),.val (aG (ak (aa 2) ay)),.val (aa 1)]))) ay))) (λb:Nat×List Tx=>D.str [b.1]) (λb=>D.tup [.str [b.1],.str (eQ bs b.1)]) [pS (aq h w bs),pS (.int 1),none] bs [] (by rw[cT];simp;lia) (λb hb=>by have e:=Z1 R (WU (f:=(·.1)) hb);have j:=ZR R hb;rw[AL R.nd hb]at e;exact⟨_,_,_,_,rfl,rfl,Z2 e j,rfl,rfl⟩);rw[WC]at gt;rw[pf,HR];exact gR (Z3 gt c db) rfl rfl
abbrev PP:=Nat×Nat
variable{L:List PP}{p:PP}
def kD(p:PP):D:=.tup [.str [p.1],.str [p.2]]
def PD(P:List PP)(f:PP->D):List (D×D):=P.map λp=>(kD p,f p)
theorem vC(a b:PP):aW (kD a) (kD b)=decide (a=b):=by obtain⟨a1,a2⟩:=a;obtain⟨b1,b2⟩:=b;unfold kD;simp only[aW,e_];by_cases h1:a1=b1<;>by_cases h2:a2=b2<;>simp[h1,h2]
section
variable(P:List PP)(f:PP->D)(p:PP)
theorem AR:kU (l5 (kD p)) (PD P f) (kD p)=true:=by unfold kU l5 PD kD;simp[gI,cR,gX]
theorem Kp:jx (PD P f) (kD p)=if p∈P then some (f p)else none:=by induction P with|nil=>rfl|cons a r ih=>unfold jx PD at ih⊢;rw[Wf,WW];simp only[vC];grind
theorem Kq{P}(h:p∉P):m_ (PD P f) (kD p) (f p)=PD (P++[p]) f:=by
 have:((PD P f).any λq=>aW q.1 (kD p))=false:=by unfold PD;rw[List.any_map,List.any_eq_false];intro x hx;simp only[Function.comp,vC,decide_eq_true_eq];exactλe=>h (e▸hx)
 unfold m_;rw[this,if_neg U'];simp[PD]
theorem Z4:l6 true (kD p) (.dic (PD P f))=pS (.bl !decide (p∈P)):=by show(if _ then some (S.pure (.bl (if true then _ else _)))else none)=_;rw[if_pos (AR P f p),Kp];by_cases h:p∈P<;>simp[h]
theorem Z5{P}(h:p∈P):jy (.dic (PD P f)) (kD p)=pS (f p):=by show(if _ then _ else none)=_;rw[if_pos (AR P f p),Kp,if_pos h];rfl
end
theorem AS:∀x y:Tx,gz (x.map λn=>D.str [n]) (y.map λn=>D.str [n])=(x.zip y).map kD|[],_=>rfl|_::_,[]=>rfl|a::x,b::y=>by have:=AS x y;unfold gz at this⊢;simp[this,kD]
section
variable{h:Nat}{bs:List (Nat×List Tx)}
abbrev aZ(bs cs:List (Nat×List Tx))(p:PP):List PP:=(eQ bs p.1).zip (eQ cs p.2)
abbrev ef(bs cs:List (Nat×List Tx)):List PP:=(bs.map (·.1)).flatMap λa=>(cs.map (·.1)).map λb=>(a,b)
theorem pz:p∈ef bs cs↔p.1∈bs.map (·.1)/\p.2∈cs.map (·.1):=by obtain⟨a,b⟩:=p;simp
theorem Z6(R:bc h w bs)(R':bc h w cs):(ef bs cs).length<=676:=by have e:(ef bs cs).length=bs.length*cs.length:=#v[ef,List.length_flatMap,Function.comp_def,List.map_const',List.sum_replicate_nat];rw[e];exact Nat.mul_le_mul R.n1 R'.n1
theorem AU(R:bc h w bs)(R':bc h w cs)(hp:p∈ef bs cs):(aZ bs cs p).length=h*w/\h*w<=16/\∀q∈aZ bs cs p,q∈ef bs cs:=by obtain⟨h1,h2⟩:=pz.mp hp;obtain⟨a1,a2,a3⟩:=vz R h1;obtain⟨b1,b2,b3⟩:=vz R' h2;refine⟨#v[a1,b1],a2,λq hq=>pz.mpr ⟨a3 _ (QW hq).1,b3 _ (QW hq).2⟩⟩
theorem Z7(R:bc h w bs)(R':bc h w cs)(hp:p∈ef bs cs):ph [.pure (.tup [eR bs,eR cs]),.pure (kD p)]=some (.own (.lst ((aZ bs cs p).map kD)),[.pure (.tup [eR bs,eR cs]),.pure (kD p)]):=by
 obtain⟨h1,h2⟩:=pz.mp hp;have e1:=Ki h1;have e2:=Ki h2;obtain⟨a1,a2,a3⟩:=vz R h1;obtain⟨b1,b2,b3⟩:=vz R' h2;have z:=AS (eQ bs p.1) (eQ cs p.2);have l1:((eQ bs p.1).map λn=>D.str [n]).length=((eQ cs p.2).map λn=>D.str [n]).length/\((eQ bs p.1).map λn=>D.str [n]).length<=1000:=⟨by simp;lia,by simp;lia⟩;rw[ph,HS];show cf [] 2 _ [_,.pure (.tup [.str [p.1],.str [p.2]])]=some (.own (.lst ((aZ bs cs p).map kD)),[_,.pure (.tup [.str [p.1],.str [p.2]])]);refine gR (δ1:=[pS (.tup [eR bs,eR cs]),pS (.tup [.str [p.1],.str [p.2]])]) ?_ rfl rfl;unfold aZ;generalize eR bs=X,eR cs=Y,eQ bs p.1=x,eQ cs p.2=y,D.str [p.1]=z1,D.str [p.2]=z2 at*;have ez:kY (ax cx (ae ao 0 (ah (eD (.int 0)))) (ah (ae ao 1 (ah (eD (.int 0)))))) (ax cx (ae ao 0 (ah (eD (.int 1)))) (ah (ae ao 1 (ah (eD (.int 1)))))) [pS (.tup [X,Y]),pS (.tup [z1,z2])]=.ok (.own (.lst ((x.zip y).map kD))) [pS (.tup [X,Y]),pS (.tup [z1,z2])]:=by rw[<-z];have a1:ax cx (ae ao 0 (ah (eD (.int 0)))) (ah (ae ao 1 (ah (eD (.int 0))))) [pS (.tup [X,Y]),pS (.tup [z1,z2])]=.ok (.pure (.str x)) [pS (.tup [X,Y]),pS (.tup [z1,z2])]:=#v[ax,ae,aO,aj,kZ,e1,S.d];have a2:ax cx (ae ao 0 (ah (eD (.int 1)))) (ah (ae ao 1 (ah (eD (.int 1))))) [pS (.tup [X,Y]),pS (.tup [z1,z2])]=.ok (.pure (.str y)) [pS (.tup [X,Y]),pS (.tup [z1,z2])]:=#v[ax,ae,aO,aj,kZ,e2,S.d];unfold kY;rw[a1,eZ,a2,eZ];exact if_pos l1
 simp[aX,ez]
theorem AV(R:bc h w bs)(R':bc h w cs)(hp:p∈ef bs cs):j0 0 nA [.tup [eR bs,eR cs]] (kD p)=some (.lst ((aZ bs cs p).map kD)):=by have e:=Z7 R R' hp;generalize D.tup [eR bs,eR cs]=X,(aZ bs cs p).map kD=y,kD p=z at*;unfold j0 nA;simp[aA,bI,aa,bo,bX,bD,aR,e,S.d]
end
def LD(L:List PP):D:=.lst (L.map kD)
def SD(L:List PP):D:=.dic (PD L λ_=>.bl true)
abbrev sR(x0 fn LL DD:D)(k:Int)(o5 o6:Option S):Dl:=[pS x0,pS fn,pO LL,pO DD,pS (.int k),o5,o6]
abbrev rB:DS:=ck (aD (ax (l6 true) (aa 6) (aj 3))) (au (oF 3 (aa 6) (eD (.bl true))) (bG 2 (aa 6))) cA
theorem Kr(L:List PP)(p:PP)(r:List PP):cg L (p::r)=cg (cg L [p]) r:=by simp only[cg]
theorem Z8(x0 fn:D)(k:Int)(L:List PP)(hl:L.length<=1000)(p:PP)(o5:Option S):rB (sR x0 fn (LD L) (SD L) k o5 (pS (kD p)))=.ok .next (sR x0 fn (LD (cg L [p])) (SD (cg L [p])) k o5 (pS (kD p))):=by
 have q:l6 true (kD p) (SD L)=_:=Z4 L (λ_=>.bl true) p;by_cases hp:p∈L;.have ed:cg L [p]=L:=#v[cg,hp];rw[ed];simp only[hp,decide_true,Jh]at q;generalize SD L=DD,LD L=LL,kD p=z at*;simp[aD,aa,aj,q,S.d]
 .have ed:cg L [p]=L++[p]:=#v[cg,hp];have n:=Kq (λ_=>.bl true) p hp;have g:=AR L (λ_=>.bl true) p;have hz:(PD L λ_=>.bl true).length<Wa:=by rw[cT];simp[PD];lia
  have oH:(L.map kD).length<Wa:=by rw[cT];simp;lia
  rw[ed];simp only[hp,decide_false,J5]at q;unfold SD LD at*;rw[<-n,QZ];show _=Rs.ok Fl.next [_,_,pO (.lst (L.map kD++[kD p])),_,_,_,_];generalize(PD L λ_=>.bl true)=DD,L.map kD=LL,kD p=z at*;simp[aD,aa,aj,q,S.d,oF,uP,g,hz,bG,eW,putL,oH]
theorem Ks(x0 fn:D)(k:Int)(o5:Option S):∀(ps L:List PP)(o6:Option S),L.length+ps.length<=1000->∃fm,forL (ag [] 6) rB (ps.map kD) (sR x0 fn (LD L) (SD L) k o5 o6)=.ok .next (sR x0 fn (LD (cg L ps)) (SD (cg L ps)) k o5 fm)|[],L,o6,_=>⟨o6,rfl⟩|p::ps,L,o6,hl=>by obtain⟨fm,e2⟩:=Ks x0 fn k o5 ps (cg L [p]) (pS (kD p)) (by have:=vp [p] L;simp at this hl⊢;lia);rw[Kr];refine⟨fm,?_⟩;show forL _ _ (kD p::ps.map kD) _=_;rw[kg (δ1:=sR x0 fn (LD L) (SD L) k o5 (pS (kD p))) rfl (Z8 x0 fn k L (by simp at hl;lia) p o5)];exact e2
theorem AW{t:DT}{b:DS}(I:Nat->Dl->Prop)(hs:∀k<n,∀δ,I k δ->∃δ2,t δ=.ok true δ/\b δ=.ok .next δ2/\I (k+1) δ2)(he:∀δ,I n δ->t δ=.ok false δ):∀(m k:Nat)(δ:Dl)(fu:Nat),k+m=n->m<fu->I k δ->∃δ',I n δ'/\gf t b fu δ=.ok .next δ'
 |0,k,δ,fu,e,hf,h=>by
  obtain rfl:k=n:=by lia
  obtain⟨fu,rfl⟩:∃x,fu=x+1:=⟨fu-1,Y'⟩;exact⟨δ,h,ZQ (he δ h)⟩|m+1,k,δ,fu,e,hf,h=>by obtain⟨fu,rfl⟩:∃x,fu=x+1:=⟨fu-1,Y'⟩;obtain⟨δ2,e1,e2,h2⟩:=hs k Y' δ h;obtain⟨δ',h3,e3⟩:=AW I hs he m (k+1) δ2 fu Y' Y' h2;exact⟨δ',h3,%[ZP e1 e2|e3]⟩
theorem vE(a b:Nat):iy (.int a) (.int b)=pS (.bl (decide (a<b))):=by
 by_cases h:a<b;.simp[iy,cz,h]
 .simp[iy,cz,h]
theorem AX(L:List PP)(k:Nat)(x0:PP)(h:k<L.length):ao (LD L) (.int k)=pS (kD (L.getD k x0)):=by show(di (L.map kD) (k:Int)).map S.pure=_;rw[h9];simp[h]
theorem k_(L:List PP):bB (LD L)=pS (.int L.length):=#v[LD,bB]
theorem inc(k:Nat):a7 (.int k) (.int 1)=pS (.int ((k+1:Nat):Int)):=#v[a7]
structure Wk(ts:List PP)(pt:PP->List PP)(x0:PP)(n:Nat):Prop where
 l:ts.length<=900h0:x0∈ts
 cl:∀t∈ts,∀p∈pt t,p∈ts
 Z9:∀t∈ts,(pt t).length<=16
 e:(bf pt x0 n).length=n
 le:n<=ts.length
 j:∀j<n,j<(bf pt x0 j).length
section
variable{ts:List PP}{pt:PP->List PP}{x0:PP}
theorem Wk.at(W:Wk ts pt x0 n){k:Nat}(hk:k<=n):(bf pt x0 k).length<=900/\∀x∈bf pt x0 k,x∈ts:=by have:=vt W.h0 W.cl k λj h=>W.j j Y';exact⟨WS (Ap (pk k) this) W.l,this⟩
theorem Wk.mem(W:Wk ts pt x0 n){k:Nat}(hk:k<n):(bf pt x0 k).getD k x0∈ts:=by refine(W.at (QV hk)).2 _ ?_;rw[Q5,W3 (W.j k hk)];exact WX _
theorem Kt(W:Wk ts pt x0 n)(fa:QM)(F:D->Option D)(hF:∀t∈ts,F (kD t)=some (.lst ((pt t).map kD))):i5 l_ 7 fa F [kD x0,.fn fa]=some (LD (bf pt x0 n)):=by
 obtain⟨δ',⟨o5,o6,e⟩,h⟩:=AW (t:=aD (ae iy 4 (ah (aC bB (aj 2))))) (b:=au (aw (ae ao 2 (aj 4)) (ag [] 5)) (au (bM (aS (jw fa F 1 (aa 5))) (ag [] 6) rB) (aw (ae a7 4 (ah (eD (.int 1)))) (ag [] 4)))) (n:=n) (λk δ=>∃o5 o6,δ=sR (kD x0) (.fn fa) (LD (bf pt x0 k)) (SD (bf pt x0 k)) k o5 o6) λk hk δ⟨o5,o6,e⟩=>by
  subst e;have kl:=W.j k hk;have hx:=AX (bf pt x0 k) k x0 kl;have hf:=hF _ (W.mem hk);have hl:=W.Z9 _ (W.mem hk);obtain⟨fm,e2⟩:=Ks (kD x0) (.fn fa) k (pS (kD ((bf pt x0 k).getD k x0))) (pt ((bf pt x0 k).getD k x0)) (bf pt x0 k) o6 (by have:=(W.at (QV hk)).1;lia);have bq:=vE k (bf pt x0 k).length;rw[decide_eq_true kl]at bq;have hZ:=k_ (bf pt x0 k);have AY:=inc k;refine⟨_,?_,?_,pS (kD ((bf pt x0 k).getD k x0)),fm,rfl⟩;.generalize SD (bf pt x0 k)=DD,LD (bf pt x0 k)=LL,((bf pt x0 k).length:Int)=zl at*;simp[aD,ae,aO,aj,hZ,bq,S.d]
  .have eb:bf pt x0 (k+1)=cg (bf pt x0 k) (pt ((bf pt x0 k).getD k x0)):=rfl;rw[eb];generalize LD (cg (bf pt x0 k) (pt ((bf pt x0 k).getD k x0)))=L2,SD (cg (bf pt x0 k) (pt ((bf pt x0 k).getD k x0)))=S2,(pt ((bf pt x0 k).getD k x0)).map kD=PP',kD ((bf pt x0 k).getD k x0)=z,LD (bf pt x0 k)=L1,SD (bf pt x0 k)=S1 at*;generalize kD x0=y at*;refine bF (δ1:=sR y (.fn fa) L1 S1 k (pS z) o6) (bF (δ1:=sR y (.fn fa) L2 S2 k (pS z) fm) ?_ ((iH ?_).trans e2)) ?_;.generalize((k+1:Nat):Int)=k1 at*;simp[aw,ae,aO,aj,AY,S.d]
   .simp[fj,jw,aa,hf,S.d]
   .simp[aw,ae,aO,aj,hx,S.d] λδ⟨o5,o6,e⟩=>by subst e;have bq:=vE n (bf pt x0 n).length;rw[W.e,decide_eq_false (Q7 n)]at bq;have hZ:=k_ (bf pt x0 n);rw[W.e]at hZ;generalize SD (bf pt x0 n)=DD,LD (bf pt x0 n)=LL at*;simp[aD,ae,aO,aj,hZ,bq,S.d] n 0 (sR (kD x0) (.fn fa) (LD [x0]) (SD [x0]) 0 none none) 1000000 Y' (by have:=W.le;have:=W.l;lia) ⟨none,none,rfl⟩;subst e;have d1:q_ (aa 0) (eD (.bl true)) [pS (kD x0),pS (.fn fa),pO (LD [x0]),none,none,none,none]=.ok (.own (SD [x0])) [pS (kD x0),pS (.fn fa),pO (LD [x0]),none,none,none,none]:=rfl;unfold i5;refine Option.map_eq_some_iff.mpr ⟨(.own (LD (bf pt x0 n)),[.pure (kD x0),.pure (.fn fa)]),?_,rfl⟩;have run:l_ fa F (aX 7 [.pure (kD x0),.pure (.fn fa)])=.ok (.ret (.own (LD (bf pt x0 n)))) ((sR (kD x0) (.fn fa) (LD (bf pt x0 n)) (SD (bf pt x0 n)) n o5 o6).set 2 none):=by
  unfold l_;refine bF (δ1:=[pS (kD x0),pS (.fn fa),pO (LD [x0]),none,none,none,none]) (bF (δ1:=[pS (kD x0),pS (.fn fa),pO (LD [x0]),pO (SD [x0]),none,none,none]) (bF (δ1:=sR (kD x0) (.fn fa) (LD [x0]) (SD [x0]) 0 none none) (bF (δ1:=_) ?_ h) rfl) ?_) ?_;.rfl
  .unfold aw;rw[d1];rfl
  .show _=Rs.ok Fl.next [pS (kD x0),pS (.fn fa),pO (.lst [kD x0]),none,none,none,none];generalize kD x0=y;simp[aX,aw,aa,S.d]
 unfold eC;rw[show[kD x0,D.fn fa].map S.pure=[.pure (kD x0),.pure (.fn fa)]from rfl,run];rfl
end
theorem Ku:∀k,k<26->dY.drop k=(97+k)::dY.drop (k+1):=by decide
theorem Kv:∀xs:List Nat,(xs.map λn=>[n]).flatten=xs|[]=>rfl|x::r=>#v[Kv r]
theorem Kw(xs:List Nat)(h:xs.length<=1000):cE [] (.lst (xs.map sD))=pS (.str xs):=by have:=Kk (xs.map λn=>[n]) (by have:=Ke (xs.map λn=>[n]) 1 U';simp at this;lia);rw[WC]at this;rw[Kv]at this;exact this
theorem Kx:∀(rs:List Tx),(∀r∈rs,r.length=w)->∀(i:Nat)(h:i<rs.length),(rs.flatten.drop (w*i)).take w=rs[i]|r::rs,hr,0,_=>by have:=hr r (.head _);simp[<-this]|r::rs,hr,i+1,h=>by have e:=hr r (.head _);have:=Kx rs (λr' h'=>hr r' (.tail _ h')) i (~~~h);rw[Jm,Nat.mul_succ,Nat.add_comm,<-List.drop_drop];rw[show(r++rs.flatten).drop w=rs.flatten by rw[<-e];simp];simpa using this
theorem Z_{α:Type}(xs:List α)(a b:Nat)(h:b<=xs.length)(je:a<=b):cD xs (some (a:Int)) (some (b:Int))=(xs.drop a).take (b-a):=by
 have h1:¬(a:Int)<0:=by lia
 have h2:¬(b:Int)<0:=by lia
 unfold cD Lake.aU;simp[h1,h2,Nat.min_eq_left h,Nat.min_eq_left (WS je h)]
theorem zfE{X:Tx}(hl:X.length<=1000)(h:w*i+w<=X.length):eJ (some ((w*i:Nat):Int)) (some ((w*i+w:Nat):Int)) (.str X)=pS (.str ((X.drop (w*i)).take w)):=by rw[tO X hl,Z_ X _ _ h Y',Nat.add_sub_cancel_left]
def bY(L:List PP)(p:PP):Nat:=97+L.idxOf p
def ND(L:List PP):D:=.dic (PD L λp=>sD (bY L p))
theorem Ky:∀(r:List PP)(k:Nat),r.Nodup->k+r.length<=26->kX (r.map kD) ((dY.drop k).map λn=>D.str [n])=some (PD r λp=>sD (97+(k+r.idxOf p)))|[],k,_,_=>#v[kX,PD]|p::r,k,nd,h=>by obtain⟨n1,n2⟩:=Q2.mp nd;have ih:=Ky r (k+1) n2 (by simp at h;lia);rw[Ku k (by simp at h;lia),Wf,Wf];have hc:(gI true (kD p)&&(cR 6 (kD p)).isSome)=true:=#v[kD,gI,cR,gX];rw[kX,if_pos hc,ih];simp only[WP,PD,Wf,List.idxOf_cons_self,Nat.add_zero];congr 2;refine QJ λq hq=>?_;have:(p==q)=false:=beq_false_of_ne λe:p=q=>n1 (e▸hq);simp only[List.idxOf_cons,this,cond_false];rw[show k+1+List.idxOf q r=k+(List.idxOf q r+1)by lia]
theorem kM(f:PP->D):∀r l:List PP,(l++r).Nodup->oG (PD r f) (PD l f)=PD (l++r) f
 |[],l,_=>#v[oG,PD]|p::r,l,nd=>by
  have hp:p∉l:=λh=>by simp[List.nodup_append]at nd;grind
  have:=kM f r (l++[p]) (~~~nd);rw[<-Kq f p hp]at this;simpa[oG,PD]using this
theorem zfz(L:List PP)(nd:L.Nodup)(hl:L.length<=26)(δ:Dl)(e1:aa 1 δ=.ok (.pure (LD L)) δ):oO (aa 1) (eD (.str dY)) δ=.ok (.own (ND L)) δ:=by
 have p:=Ky L 0 nd Y';have hz:(PD L λp=>sD (97+(0+L.idxOf p))).length<Wa:=by rw[cT];simp[PD];lia
 have hp:=kM (λp=>sD (97+(0+L.idxOf p))) L [] (~~~nd);unfold oO;rw[e1];rw[Ug]at p;simp only[eZ,eD,S.d,LD,j5,p,if_pos hz];rw[show([]:List (D×D))=PD [] λp=>sD (97+(0+L.idxOf p))from rfl,hp];simp[ND,bY]
theorem Kz(h:p∈L):jy (ND L) (kD p)=pS (sD (bY L p)):=Z5 (λp=>sD (bY L p)) p h
abbrev sN(ru th fn H W B:D)(nm:D)(nl:D)(o8 o9:Option S):Dl:=[pS ru,pS th,pS fn,pS H,pS W,pS B,pO nm,pO nl,o8,o9,none,none]
abbrev vF:DE:=bR [11] (c9 (aa 3)) (ag [] 11) bz (fM 9 (cu (ae cS 4 (aj 11))) (cu (ax a7 (ae cS 4 (aj 11)) (aj 4))))
noncomputable abbrev vG(fa:QM)(F:D->Option D):DE:=bR [10] (aS (jw fa F 2 (aa 8))) (ag [] 10) bz (ae jy 6 (aj 10))
abbrev nB(fa:QM)(F:D->Option D):DS:=au (aw (aC (cE []) (ah (vG fa F))) (ag [] 9)) (bG 7 (aG (ak (ae jy 6 (aj 8)) (ak (aC cq (ah vF)) ay))))
theorem zhw(fa:QM)(F:D->Option D)(ru th H W B nl z:D){ps:List PP}(hF:F z=some (.lst (ps.map kD)))(hp:∀p∈ps,p∈L)(hl:ps.length<=16)(o9:Option S):vG fa F (sN ru th (.fn fa) H W B (ND L) nl (pS z) o9)=.ok (.own (.lst ((ps.map (bY L)).map sD))) (sN ru th (.fn fa) H W B (ND L) nl (pS z) o9):=by
 have ei:aS (jw fa F 2 (aa 8)) (sN ru th (.fn fa) H W B (ND L) nl (pS z) o9)=.ok (ps.map kD) (sN ru th (.fn fa) H W B (ND L) nl (pS z) o9):=by generalize ps.map kD=PP',ND L=DD at*;simp[fj,jw,aa,hF,S.d]
 have ec:=cM (cs:=[10]) (it:=aS (jw fa F 2 (aa 8))) (g:=ag [] 10) (t:=bz) (el:=ae jy 6 (aj 10)) kD (λp=>sD (bY L p)) ei Y' λp g_=>by have q:=Kz (hp p g_);refine⟨[pS ru,pS th,pS (.fn fa),pS H,pS W,pS B,pO (ND L),pO nl,pS z,o9,pS (kD p),none],_,.pure (sD (bY L p)),[pS ru,pS th,pS (.fn fa),pS H,pS W,pS B,pO (ND L),pO nl,pS z,o9,pS (kD p),none],rfl,rfl,?_,rfl,rfl⟩;generalize ND L=DD,kD p=z,sD (bY L p)=y at*;simp[ae,aO,aj,q,S.d]
 rw[vG,ec,WC];rfl
theorem zhv(fa:D)(ru th B nm nl z:D){h:Nat}(hh:h<=4)(hw:w<=4)(X:Tx)(hX:X.length=h*w):vF (sN ru th fa (.int h) (.int w) B nm nl (pS z) (pS (.str X)))=.ok (.own (.lst ((WM h).map λi=>D.str ((X.drop (w*i)).take w)))) (sN ru th fa (.int h) (.int w) B nm nl (pS z) (pS (.str X))):=by
 have hm:h*w<=16:=Nat.mul_le_mul hh hw;have ei:c9 (aa 3) (sN ru th fa (.int h) (.int w) B nm nl (pS z) (pS (.str X)))=.ok ((WM h).map λi:Nat=>D.int (i:Nat)) (sN ru th fa (.int h) (.int w) B nm nl (pS z) (pS (.str X))):=by rw[yd];simp only[aa,Q6,Qn,eZ];rw[m5 h Y'];simp[cI]
 have ec:=cM (cs:=[11]) (it:=c9 (aa 3)) (g:=ag [] 11) (t:=bz) (el:=fM 9 (cu (ae cS 4 (aj 11))) (cu (ax a7 (ae cS 4 (aj 11)) (aj 4)))) (λi:Nat=>D.int (i:Nat)) (λi=>D.str ((X.drop (w*i)).take w)) ei V' λi hi=>by
  have hi:i<h:= ~~~hi;have DK:w*i+w<=h*w:=by have:=Nat.mul_le_mul_right w hi;rw[Nat.succ_mul]at this;rw[Nat.mul_comm w i];exact this
  have cr:=zfE (X:=X) (w:=w) (i:=i) Y' Y';have m1:cS (.int w) (.int i)=pS (.int ((w*i:Nat):Int)):=by
   have c:iR w i=true:=by simp[iR];lia
   simp[cS,nV,fL,c]
  have a1:a7 (.int ((w*i:Nat):Int)) (.int w)=pS (.int ((w*i+w:Nat):Int)):=#v[a7];refine⟨[pS ru,pS th,pS fa,pS (.int h),pS (.int w),pS B,pO nm,pO nl,pS z,pS (.str X),none,pS (.int (i:Nat))],_,.pure (.str ((X.drop (w*i)).take w)),[pS ru,pS th,pS fa,pS (.int h),pS (.int w),pS B,pO nm,pO nl,pS z,pS (.str X),none,pS (.int (i:Nat))],rfl,rfl,?_,rfl,rfl⟩;generalize D.str ((X.drop (w*i)).take w)=y,D.str X=xx,((w*i+w:Nat):Int)=j2,((w*i:Nat):Int)=j1,D.int (w:Int)=ww,D.int (i:Int)=ii at*;simp[fM,cu,ax,ae,aO,aj,m1,a1,cr,S.d]
 rw[vF,ec];rfl
abbrev gr(bs cs:List (Nat×List Tx))(p:PP):List (List PP):=List.zipWith List.zip (cW bs p.1) (cW cs p.2)
theorem KA{w:Nat}:∀{a b:List Tx},a.length=b.length->(∀r∈a,r.length=w)->(∀r∈b,r.length=w)->(List.zipWith List.zip a b).flatten=a.flatten.zip b.flatten|[],[],_,_,_=>rfl|x::a,y::b,l,h1,h2=>by have:=KA (a:=a) (b:=b) (~~~l) (λr h=>h1 r (.tail _ h)) λr h=>h2 r (.tail _ h);have e:x.length=y.length:=(h1 x (.head _)).trans (h2 y (.head _)).symm;simp[this,List.zip_append e]
section
variable{h:Nat}{bs:List (Nat×List Tx)}
theorem AZ(R:bc h w bs)(R':bc h w cs)(hp:p∈ef bs cs):(gr bs cs p).flatten=aZ bs cs p/\(gr bs cs p).length=h/\∀r∈gr bs cs p,r.length=w:=by obtain⟨h1,h2⟩:=pz.mp hp;obtain⟨b,hb,e1,_,eb⟩:=mi h1;obtain⟨c,hc,e2,_,ec⟩:=mi h2;obtain⟨b1,b2⟩:=R.cW b hb;obtain⟨c1,c2⟩:=R'.cW c hc;unfold gr aZ eQ;rw[eb,ec];refine⟨KA Y' (λr hr=>(b2 r hr).1) λr hr=>(c2 r hr).1,#v[b1,c1],λr hr=>?_⟩;obtain⟨i,hi,rfl⟩:=List.mem_iff_getElem.mp hr;have fS:=hi;rw[List.length_zipWith]at fS;simp[(b2 _ (WX (show i<b.2.length by lia))).1,(c2 _ (WX (show i<c.2.length by lia))).1]
def NB(bs cs:List (Nat×List Tx))(L:List PP)(p:PP):D:=.tup [sD (bY L p),.tup ((gr bs cs p).map λr=>.str (r.map (bY L)))]
theorem zcH(R:bc h w bs)(R':bc h w cs)(hp:p∈ef bs cs)(g:PP->Nat):((WM h).map λi=>D.str ((((aZ bs cs p).map g).drop (w*i)).take w))=(gr bs cs p).map λr=>D.str (r.map g):=by obtain⟨e1,e2,e3⟩:=AZ R R' hp;rw[<-e1,List.map_flatten];refine Jw (by rw[Wv,Wv,e2,Ul]) λi h1 h2=>?_;simp only[List.getElem_map,List.getElem_range];rw[Kx _ (λr hr=>by obtain⟨q,hq,rfl⟩:=Q9.mp hr;simpa using e3 q hq) i (~~~h2),List.getElem_map]
theorem qaa(R:bc h w bs)(R':bc h w cs)(fa:QM)(F:D->Option D)(ru th B:D)(hL:∀t∈L,t∈ef bs cs)(hc:∀t∈L,∀p∈aZ bs cs t,p∈L)(hF:∀t∈L,F (kD t)=some (.lst ((aZ bs cs t).map kD))){t:PP}(ht:t∈L)(nl:List D)(hn:nl.length<=1000)(o9:Option S):∃nE,nB fa F (sN ru th (.fn fa) (.int h) (.int w) B (ND L) (.lst nl) (pS (kD t)) o9)=.ok .next (sN ru th (.fn fa) (.int h) (.int w) B (ND L) (.lst (nl++[NB bs cs L t])) (pS (kD t)) nE):=by
 obtain⟨l1,l2,l3⟩:=AU R R' (hL t ht);have c1:=zhw fa F ru th (.int h) (.int w) B (.lst nl) (kD t) (hF t ht) (hc t ht) Y' o9;have jj:=Kw ((aZ bs cs t).map (bY L)) (by simp only[Wv];lia);have c2:=zhv (.fn fa) ru th B (ND L) (.lst nl) (kD t) R.h1 R.w1 ((aZ bs cs t).map (bY L)) (by simp only[Wv];exact l1);rw[zcH R R' (hL t ht)]at c2;have q:=Kz ht;have hz:nl.length<Wa:=by rw[cT];lia
 refine⟨pS (.str ((aZ bs cs t).map (bY L))),?_⟩;unfold NB nB;generalize((gr bs cs t).map λr=>D.str (r.map (bY L)))=BB at*;generalize vG fa F=E1,vF=E2,D.str ((aZ bs cs t).map (bY L))=X,((aZ bs cs t).map (bY L)).map sD=XX,D.int (h:Int)=H,D.int (w:Int)=W,sD (bY L t)=y,kD t=z,ND L=DD at*;refine bF (δ1:=sN ru th (.fn fa) H W B DD (.lst nl) (pS z) (pS X)) ?_ ?_;.simp[bG,aG,ak,ay,ae,aO,aj,q,c2,cq,eW,putL,hz,S.d]
 .simp[aw,c1,jj,S.d]
theorem KC(R:bc h w bs)(R':bc h w cs)(fa:QM)(F:D->Option D)(ru th B:D)(hL:∀t∈L,t∈ef bs cs)(hc:∀t∈L,∀p∈aZ bs cs t,p∈L)(hF:∀t∈L,F (kD t)=some (.lst ((aZ bs cs t).map kD))):∀(r:List PP)(nl:List D)(o8 o9:Option S),(∀t∈r,t∈L)->nl.length+r.length<=1000->∃o8' nE,forL (ag [] 8) (nB fa F) (r.map kD) (sN ru th (.fn fa) (.int h) (.int w) B (ND L) (.lst nl) o8 o9)=.ok .next (sN ru th (.fn fa) (.int h) (.int w) B (ND L) (.lst (nl++r.map (NB bs cs L))) o8' nE)|[],nl,o8,o9,_,_=>⟨o8,o9,#v[forL]⟩|t::r,nl,o8,o9,hr,hn=>by obtain⟨p9,e1⟩:=qaa R R' fa F ru th B hL hc hF (hr t (.head _)) nl (by simp at hn;lia) o9;obtain⟨q8,q9,e2⟩:=KC R R' fa F ru th B hL hc hF r (nl++[NB bs cs L t]) (pS (kD t)) p9 (λu hu=>hr u (.tail _ hu)) (by simp at hn⊢;lia);refine⟨q8,q9,?_⟩;show forL _ _ (kD t::r.map kD) _=_;rw[kg (δ1:=sN ru th (.fn fa) (.int h) (.int w) B (ND L) (.lst nl) (pS (kD t)) o9) rfl e1,e2];simp
theorem zch(R:bc h w bs)(R':bc h w cs)(fa:QM)(F:D->Option D)(n8:L.Nodup)(hl:L.length<=26)(hL:∀t∈L,t∈ef bs cs)(hc:∀t∈L,∀p∈aZ bs cs t,p∈L)(hF:∀t∈L,F (kD t)=some (.lst ((aZ bs cs t).map kD))):i5 ma 12 fa F [aq h w bs,LD L,.fn fa]=some (.tup [.int h,.int w,.tup (L.map (NB bs cs L))]):=by
 obtain⟨o8,o9,e⟩:=KC R R' fa F (aq h w bs) (LD L) (.tup (bs.map aT)) hL hc hF L [] none none (λ_ h=>h) V';have dz:=zfz L n8 hl [pS (aq h w bs),pS (LD L),pS (.fn fa),pS (.int h),pS (.int w),pS (.tup (bs.map aT)),none,none,none,none,none,none] rfl;have ei:aS (aa 1) (sN (aq h w bs) (LD L) (.fn fa) (.int h) (.int w) (.tup (bs.map aT)) (ND L) (.lst []) none none)=.ok (L.map kD) (sN (aq h w bs) (LD L) (.fn fa) (.int h) (.int w) (.tup (bs.map aT)) (ND L) (.lst []) none none):=rfl;rw[WQ]at e;unfold i5;refine Option.map_eq_some_iff.mpr ⟨(.pure (.tup [.int h,.int w,.tup (L.map (NB bs cs L))]),[.pure (aq h w bs),.pure (LD L),.pure (.fn fa)]),?_,rfl⟩;have run:ma fa F (aX 12 [.pure (aq h w bs),.pure (LD L),.pure (.fn fa)])=.ok (.ret (.pure (.tup [.int h,.int w,.tup (L.map (NB bs cs L))]))) (sN (aq h w bs) (LD L) (.fn fa) (.int h) (.int w) (.tup (bs.map aT)) (ND L) (.lst (L.map (NB bs cs L))) o8 o9):=by
  unfold ma aq at*;generalize L.map (NB bs cs L)=RR,D.tup (bs.map aT)=B,LD L=LL,ND L=DD,D.int (h:Int)=H,D.int (w:Int)=W at*;refine bF (δ1:=[pS (.tup [H,W,B]),pS LL,pS (.fn fa),pS H,pS W,pS B,none,none,none,none,none,none]) (bF (δ1:=[pS (.tup [H,W,B]),pS LL,pS (.fn fa),pS H,pS W,pS B,pO DD,none,none,none,none,none]) (bF (δ1:=sN (.tup [H,W,B]) LL (.fn fa) H W B DD (.lst []) none none) (bF (δ1:=_) ?_ ((iH ei).trans e)) rfl) ?_) ?_;.simp[aG,ak,ay,aa,aj,cq,S.d]
  .unfold aw;rw[dz];rfl
  .simp[aX,aw,aa,bV,aQ,cn,S.d]
 unfold eC;rw[show[aq h w bs,LD L,D.fn fa].map S.pure=[.pure (aq h w bs),.pure (LD L),.pure (.fn fa)]from rfl,run];simp[bW,bj]
end
def kh(L:List PP):D:=.tup (L.map λp=>.tup [sD (bY L p),sD p.1,sD p.2])
def r8(h w:Nat)(bs cs:List (Nat×List Tx))(L:List PP):D:=.tup [.tup [.int h,.int w,.tup (L.map (NB bs cs L))],sD 97,kh L]
theorem KD:∀(r:List PP)(k:Nat),r.Nodup->k+r.length<=26->gz ((dY.drop k).map λn=>D.str [n]) (r.map kD)=r.map λp=>.tup [sD (97+(k+r.idxOf p)),kD p]|[],k,_,_=>#v[gz]|p::r,k,nd,h=>by obtain⟨n1,n2⟩:=Q2.mp nd;have ih:=KD r (k+1) n2 (by simp at h;lia);rw[Ku k (by simp at h;lia),Wf,Wf,Wf];unfold gz at ih⊢;rw[List.zipWith_cons_cons,ih,List.idxOf_cons_self];congr 1;refine QJ λq hq=>?_;have:(p==q)=false:=beq_false_of_ne λe:p=q=>n1 (e▸hq);simp only[List.idxOf_cons,this,cond_false];rw[show k+1+List.idxOf q r=k+(List.idxOf q r+1)by lia]
abbrev sV(P1 P2 ru tx fn:D)(o5 o6:Option S):Dl:=[pS P1,pS P2,pS ru,pS tx,pS fn,o5,o6,none,none]
abbrev oC:DE:=bR [7,8] (j6 (eD (.str dY)) (aa 5)) (bV 2 (aQ (ag [] 7) (aQ (ag [] 8) cn))) bz (aG (ak (aa 7) (ak (ae ao 8 (ah (eD (.int 0)))) (ak (ae ao 8 (ah (eD (.int 1)))) ay))))
theorem qab(P1 P2 ru tx fn:D)(nd:L.Nodup)(hl:L.length<=26):oC (sV P1 P2 ru tx fn (pS (LD L)) none)=.ok (.own (.lst (L.map λp=>.tup [sD (bY L p),sD p.1,sD p.2]))) (sV P1 P2 ru tx fn (pS (LD L)) none):=by
 have z:=KD L 0 nd Y';simp only[Ug,Qd]at z;have ei:j6 (eD (.str dY)) (aa 5) (sV P1 P2 ru tx fn (pS (LD L)) none)=.ok (L.map λp=>.tup [sD (bY L p),kD p]) (sV P1 P2 ru tx fn (pS (LD L)) none):=by show Rs.ok (gz _ _) _=_;exact congrArg (λl=>Rs.ok l _) z
 have ec:=cM (cs:=[7,8]) (it:=j6 (eD (.str dY)) (aa 5)) (g:=bV 2 (aQ (ag [] 7) (aQ (ag [] 8) cn))) (t:=bz) (el:=aG (ak (aa 7) (ak (ae ao 8 (ah (eD (.int 0)))) (ak (ae ao 8 (ah (eD (.int 1)))) ay)))) (λp=>.tup [sD (bY L p),kD p]) (λp=>.tup [sD (bY L p),sD p.1,sD p.2]) ei Y' λp hp=>by refine⟨_,_,.pure (.tup [sD (bY L p),sD p.1,sD p.2]),[pS P1,pS P2,pS ru,pS tx,pS fn,pS (LD L),none,pS (sD (bY L p)),pS (kD p)],rfl,rfl,?_,rfl,rfl⟩;unfold kD;generalize sD (bY L p)=y,LD L=LL;simp[bC,bV,aQ,cn,aG,ak,ay,aa,ae,aO,aj,kZ,S.d]
 rw[oC,ec];rfl
abbrev oT(GR GN:QM->(D->Option D)->List D->Option D)(bp:DS)(fa:QM):DS:=au (aw (j3 0 (GR fa) [3] bp [.val (aG (ak (ae ao 0 (ah (eD (.int 1)))) (ak (ae ao 1 (ah (eD (.int 1)))) ay))),.val (aa 4)]) (ag [] 5)) (au (ck (aD (ax d_ (aC bB (aj 5)) (ah (aC bB (ah (eD (.str dY))))))) (m3 [84,111,111,71,114,101,97,116] [[109,97,110,121],[109,111,115,116]] (ak (aC bB (aj 5)) (ak (aC bB (ah (eD (.str dY)))) ay))) cA) (au (aw (aC cq (ah oC)) (ag [] 6)) (bt (aG (ak (j3 0 (GN fa) [3] bp [.val (aa 2),.val (aa 5),.val (aa 4)]) (ak (ax ao (eD (.str dY)) (ah (eD (.int 0)))) (ak (aa 6) ay)))))))
def jC(n:Nat):Xc:=⟨[84,111,111,71,114,101,97,116],.xd [([109,97,110,121],.int n),([109,111,115,116],.int 26)]⟩
section
variable{bp:DS}{tx r1 r2 s1 s2 res:D}
theorem KG(e1:P1=.tup [r1,s1,q1])(e2:P2=.tup [r2,s2,q2])(hR:GR fa (j0 0 bp [tx]) [.tup [s1,s2],.fn fa]=some (LD L)){x:Rs Fl}{b:DS}(h:b (sV P1 P2 ru tx (.fn fa) (pS (LD L)) none)=x):au (aw (j3 0 (GR fa) [3] bp [.val (aG (ak (ae ao 0 (ah (eD (.int 1)))) (ak (ae ao 1 (ah (eD (.int 1)))) ay))),.val (aa 4)]) (ag [] 5)) b (sV P1 P2 ru tx (.fn fa) none none)=x:=by refine bF h ?_;subst e1 e2;generalize LD L=LL at*;simp[aw,j3,bI,aG,ak,ay,ae,aO,aj,aa,gJ,ni,l7,hR,S.d]
theorem vH(L:List PP):d_ (.int L.length) (.int 26)=pS (.bl (decide (26<L.length))):=by
 by_cases h:26<L.length
 .have:(26:Int)<L.length:=by lia
  simp[d_,cz,h,this]
 .have:¬(26:Int)<L.length:=by lia
  simp[d_,cz,h,this]
theorem KH:bB (.str dY)=pS (.int 26):=rfl
theorem qac(e1:P1=.tup [r1,s1,q1])(e2:P2=.tup [r2,s2,q2])(hR:GR fa (j0 0 bp [tx]) [.tup [s1,s2],.fn fa]=some (LD L))(hl:26<L.length):oT GR GN bp fa (sV P1 P2 ru tx (.fn fa) none none)=.exc (jC L.length) (sV P1 P2 ru tx (.fn fa) (pS (LD L)) none):=by refine KG e1 e2 hR ?_;have a:=k_ L;have g:=vH L;have b:=KH;rw[decide_eq_true hl]at g;unfold jC;generalize LD L=LL,(L.length:Int)=zl,oC=E,D.str dY=LT at*;simp[au,ck,aD,m3,ak,ay,ax,aj,a,b,g,S.d]
theorem qad(e1:P1=.tup [r1,s1,q1])(e2:P2=.tup [r2,s2,q2])(hR:GR fa (j0 0 bp [tx]) [.tup [s1,s2],.fn fa]=some (LD L))(nd:L.Nodup)(hl:L.length<=26)(hN:GN fa (j0 0 bp [tx]) [ru,LD L,.fn fa]=some res):oT GR GN bp fa (sV P1 P2 ru tx (.fn fa) none none)=.ok (.ret (.pure (.tup [res,sD 97,kh L]))) (sV P1 P2 ru tx (.fn fa) (pS (LD L)) (pS (kh L))):=by
 refine KG e1 e2 hR ?_;have c:=qab P1 P2 ru tx (.fn fa) nd hl;have a:=k_ L;have g:=vH L;have b:=KH;have i0:ao (.str dY) (.int 0)=pS (sD 97):=rfl;rw[decide_eq_false Y']at g;have t:cq (.lst (L.map λp=>D.tup [sD (bY L p),sD p.1,sD p.2]))=pS (kh L):=rfl;generalize kh L=T3,LD L=LL,(L.length:Int)=zl,oC=E,D.str dY=LT,(L.map λp=>D.tup [sD (bY L p),sD p.1,sD p.2])=TT at*;refine rA (rC (bF (δ1:=sV P1 P2 ru tx (.fn fa) (pS LL) (pS T3)) ?_ ?_)) (δ1:=sV P1 P2 ru tx (.fn fa) (pS LL) none) ?_;.simp[aG,ak,ay,j3,bI,aa,ni,l7,hN,ax,i0,S.d]
 .simp[aw,c,t,S.d]
 .simp[aD,ax,aj,a,b,g,S.d]
end
abbrev ij(h w:Nat):D:=.tup [.int h,.int w]
theorem vI(h w h' w':Nat):gb (ij h w) (ij h' w')=pS (.bl !decide (h=h'/\w=w')):=by
 have f:∀a b:Nat,flat 50 (ij a b)=true:=λa b=>#v[flat,eV];have e:aW (ij h w) (ij h' w')=decide (h=h'/\w=w'):=by simp only[aW,e_];by_cases h1:h=h'<;>by_cases h2:w=w'<;>simp[h1,h2]<;>lia
 simp[gb,f,e]
theorem gu(h w:Nat)(bs:List (Nat×List Tx)):eJ none (some 2) (aq h w bs)=pS (ij h w):=rfl
theorem qae{b:DS}{x:D}(e:b (aX n [.pure x,.pure y])=.ok (.ret v) δ1)(h:bj 0 [.pure x,.pure y] δ1=some [.pure x,.pure y]):mW [] n b [.pure x,.pure y]=some (.inl (v,[.pure x,.pure y])):=by rw[IQ,e];simp[bO,bW,h]
theorem KI{b:DS}{x:D}{v:Xc}(e:b (aX n [.pure x,.pure y])=.exc v δ1)(h:bj 0 [.pure x,.pure y] δ1=some [.pure x,.pure y]):mW [] n b [.pure x,.pure y]=some (.inr (v,[.pure x,.pure y])):=by rw[IQ,e];simp[bO,h]
section
variable{GF:DF}{h:Nat}{bs:List (Nat×List Tx)}{s1 s2 Y:D}{g:QM->DS}
noncomputable abbrev oP(GF:DF)(g:QM->DS):DS:=au (aw (ae ao 0 (ah (eD (.int 0)))) (ag [] 2)) (au (ck (aD (ax gb (fM 2 de (cu (eD (.int 2)))) (ah (dI (ae ao 1 (ah (eD (.int 0)))) de (cu (eD (.int 2))))))) (qJ [85,110,108,105,107,101]) cA) (au (aw (aG (ak (aA GF [.val (aa 2),.val (eD (.int 1))]) (ak (aA GF [.val (ae ao 1 (ah (eD (.int 0)))),.val (eD (.int 1))]) ay))) (ag [] 3)) (dDefX 4 g)))
theorem qaf(ne:¬(h=h'/\w=w')):oP GF g (aX 9 [.pure (.tup [aq h w bs,s1,q1]),.pure (.tup [aq h' w' cs,s2,q2])])=.exc ⟨[85,110,108,105,107,101],.aJ⟩ [pS (.tup [aq h w bs,s1,q1]),pS (.tup [aq h' w' cs,s2,q2]),pS (aq h w bs),none,none,none,none,none,none]:=by
 have n:=vI h w h' w';rw[decide_eq_false ne]at n;have a:=gu h w bs;have b:=gu h' w' cs;generalize aq h w bs=r1,aq h' w' cs=r2,ij h w=z1,ij h' w'=z2 at*;refine bF (δ1:=[pS (.tup [r1,s1,q1]),pS (.tup [r2,s2,q2]),pS r1,none,none,none,none,none,none]) ?_ ?_;.simp[au,ck,aD,qJ,ax,fM,dI,de,cu,ae,aO,aj,gJ,a,b,n,S.d]
 .simp[aX,aw,ae,aO,aj,gJ,S.d]
theorem KJ(g1:GF [.pure (aq h w bs),.pure (.int 1)]=some (.own X,[.pure (aq h w bs),.pure (.int 1)]))(g2:GF [.pure (aq h w cs),.pure (.int 1)]=some (.own Y,[.pure (aq h w cs),.pure (.int 1)])):oP GF g (aX 9 [.pure (.tup [aq h w bs,s1,q1]),.pure (.tup [aq h w cs,s2,q2])])=dDefX 4 g [pS (.tup [aq h w bs,s1,q1]),pS (.tup [aq h w cs,s2,q2]),pS (aq h w bs),pS (.tup [X,Y]),none,none,none,none,none]:=by
 have n:=vI h w h w;rw[decide_eq_true ⟨rfl,rfl⟩]at n;have a:=gu h w bs;have b:=gu h w cs;generalize aq h w bs=r1,aq h w cs=r2,ij h w=z1 at*;refine bF (δ1:=[pS (.tup [r1,s1,q1]),pS (.tup [r2,s2,q2]),pS r1,none,none,none,none,none,none]) (rA (rC (bF rfl ?_)) (δ1:=[pS (.tup [r1,s1,q1]),pS (.tup [r2,s2,q2]),pS r1,none,none,none,none,none,none]) ?_) ?_;.simp[aw,aG,ak,ay,aA,bI,aa,bo,bX,bD,aR,g1,g2,ae,aO,aj,gJ,S.d]
 .simp[aD,ax,fM,dI,de,cu,ae,aO,aj,gJ,a,b,n,S.d]
 .simp[aX,aw,ae,aO,aj,gJ,S.d]
end
section
variable{h:Nat}{bs:List (Nat×List Tx)}{s1 s2:Nat}
theorem qag(R:bc h w bs)(R':bc h w cs)(h1:s1∈bs.map (·.1))(h2:s2∈cs.map (·.1)):∃n,Wk (ef bs cs) (aZ bs cs) (s1,s2) n:=by have h0:(s1,s2)∈ef bs cs:=pz.mpr ⟨h1,h2⟩;have cl:∀t∈ef bs cs,∀p∈aZ bs cs t,p∈ef bs cs:=λt ht=>(AU R R' ht).2.2;obtain⟨n,e,le,j⟩:=Y0 h0 cl;exact⟨n,by have:=Z6 R R';lia,h0,cl,λt ht=>by have:=AU R R' ht;lia,e,le,j⟩
theorem Wk.mC{ts:List PP}{pt:PP->List PP}{x0:PP}(W:Wk ts pt x0 n):∀t∈bf pt x0 n,∀p∈pt t,p∈bf pt x0 n:=by
 intro t ht p hp;obtain⟨i,hi,rfl⟩:=List.mem_iff_getElem.mp ht;have jm:i<n:=by rw[W.e]at hi;exact hi
 obtain⟨s,es⟩:=vq (pt:=pt) (x0:=x0) (i+1) (n-(i+1));rw[show i+1+(n-(i+1))=n by lia]at es;obtain⟨u,eu⟩:=vq (pt:=pt) (x0:=x0) i (n-i);rw[show i+(n-i)=n by lia]at eu;have ji:=W.j i jm;have e:(bf pt x0 n)[i]=(bf pt x0 i).getD i x0:=by simp only[eu,List.getElem_append_left ji,Q5,W3 ji,Option.getD_some]
 rw[es];refine Jn _ ((Ao _ _).mpr (.inr ?_));rw[<-e];exact hp
theorem z9E(ne:¬(h=h'/\w=w')):G_laid_over [.pure (.tup [aq h w bs,sD s1,q1]),.pure (.tup [aq h' w' cs,sD s2,q2])]=some (.inr (⟨[85,110,108,105,107,101],.aJ⟩,[.pure (.tup [aq h w bs,sD s1,q1]),.pure (.tup [aq h' w' cs,sD s2,q2])])):=by rw[G_laid_over,b_laid_over];exact KI (qaf ne) rfl
variable(R:bc h w bs)(R':bc h w cs)(W:Wk (ef bs cs) (aZ bs cs) (s1,s2) n)
include R R' W
theorem z9G(hn:26<n):G_laid_over [.pure (.tup [aq h w bs,sD s1,q1]),.pure (.tup [aq h w cs,sD s2,q2])]=some (.inr (jC n,[.pure (.tup [aq h w bs,sD s1,q1]),.pure (.tup [aq h w cs,sD s2,q2])])):=by rw[G_laid_over,b_laid_over];refine KI ((KJ (vA R) (vA R')).trans (XH (δ':=[pS (.tup [aq h w bs,sD s1,q1]),pS (.tup [aq h w cs,sD s2,q2]),pS (aq h w bs),pS (.tup [eR bs,eR cs]),none,pS (LD (bf (aZ bs cs) (s1,s2) n)),none,none,none]) λfa=>?_)) rfl;have:=qac (r1:=aq h w bs) (r2:=aq h w cs) (GR:=i5 l_ 7) (GN:=i5 ma 12) (bp:=nA) (fa:=fa) (ru:=aq h w bs) (tx:=.tup [eR bs,eR cs]) (q1:=q1) (q2:=q2) rfl rfl (Kt W fa _ λt ht=>AV R R' ht) %[W.e|hn];rw[W.e]at this;exact this
theorem z9F(hn:n<=26):G_laid_over [.pure (.tup [aq h w bs,sD s1,q1]),.pure (.tup [aq h w cs,sD s2,q2])]=some (.inl (.pure (r8 h w bs cs (bf (aZ bs cs) (s1,s2) n)),[.pure (.tup [aq h w bs,sD s1,q1]),.pure (.tup [aq h w cs,sD s2,q2])])):=by rw[G_laid_over,b_laid_over];refine qae ((KJ (vA R) (vA R')).trans (XG (δ':=[pS (.tup [aq h w bs,sD s1,q1]),pS (.tup [aq h w cs,sD s2,q2]),pS (aq h w bs),pS (.tup [eR bs,eR cs]),none,pS (LD (bf (aZ bs cs) (s1,s2) n)),pS (kh (bf (aZ bs cs) (s1,s2) n)),none,none]) λfa=>?_)) rfl;have hi:=(W.at (We n)).2;exact qad (GR:=i5 l_ 7) (GN:=i5 ma 12) (bp:=nA) (fa:=fa) (ru:=aq h w bs) (tx:=.tup [eR bs,eR cs]) (q1:=q1) (q2:=q2) rfl rfl (Kt W fa _ λt ht=>AV R R' ht) (pk n) %[W.e|hn] (zch R R' fa _ (pk n) %[W.e|hn] hi W.mC λt ht=>AV R R' (hi t ht))
end
section
variable{ce:Tx->Nat}
abbrev uT:Tx:=[85,110,108,105,107,101]
abbrev gT:Tx:=[84,111,111,71,114,101,97,116]
theorem KL(hi:gK ce)(hz:z∈ys):ys.find? λx=>ce x==ce z=some z:=by cases h:ys.find? λx=>ce x==ce z with|none=>have:=List.find?_eq_none.mp h z hz;simp at this|some y=>have h1:=Uq h;have h2:=Jq h;simp at h1;rw[hi y h2 z hz h1]
theorem KN(hi:gK ce)(hz:z∈ys)(fl:D)(tab:Tx->Bool)(rest:Dl):gm ce ys tab (aj 0) (some (.pure (.exc (ce z) fl))::rest)=.ok (.pure (.bl (tab z))) (some (.pure (.exc (ce z) fl))::rest):=by simp[gm,aj,KL hi hz]
theorem zez(hi:gK ce)(fl:D):nC ce [.pure (.exc (ce uT) fl)]=some (.pure (.str [117,110,108,105,107,101]),[.pure (.exc (ce uT) fl)]):=by
 have i0:=KN hi (z:=uT) #v[ys] fl;have c1:lQ (.lst [.bl false,.bl false,.bl false,.bl false,.bl true,.bl false,.bl false,.bl false,.bl false])=some (.pure (.int 1)):=by rfl
 have c2:lR (.lst [.bl false,.bl false,.bl false,.bl false,.bl true,.bl false,.bl false,.bl false,.bl false])=some (.pure (.int 4)):=by rfl
 rw[nC,kf,yQ];generalize ce uT=n at*;simp[bO,aX,aw,i0,ae,aO,aj,a7,cT,bG,eW,putL,aD,c1,c2,oI,cz,ao,di,fI,bW,bj]
theorem zeA(hi:gK ce)(fl:D):nC ce [.pure (.exc (ce gT) fl)]=some (.pure (.str [103,114,101,97,116]),[.pure (.exc (ce gT) fl)]):=by
 have i0:=KN hi (z:=gT) #v[ys] fl;have c1:lQ (.lst [.bl false,.bl false,.bl false,.bl false,.bl false,.bl false,.bl false,.bl false,.bl true])=some (.pure (.int 1)):=by rfl
 have c2:lR (.lst [.bl false,.bl false,.bl false,.bl false,.bl false,.bl false,.bl false,.bl false,.bl true])=some (.pure (.int 8)):=by rfl
 rw[nC,kf,yQ];generalize ce gT=n at*;simp[bO,aX,aw,i0,ae,aO,aj,a7,cT,bG,eW,putL,aD,c1,c2,oI,cz,ao,di,fI,bW,bj]
theorem vJ(n:Int):kb [.pure (.int n)]=some (.pure (.bl true),[.pure (.int n)]):=rfl
def cY:Option (Nat ⊕ D)->D|none=>.tup [.str [117,110,108,105,107,101],.aJ]|some (.inl n)=>.tup [.str [103,114,101,97,116],.tup [.int n,.int 26]]|some (.inr f)=>.tup [.str [116,111,108,100],f]
def KO(ss:List S):Option (Nat ⊕ D)->S×List S⊕Xc×List S|none=>.inr (⟨uT,.aJ⟩,ss)|some (.inl n)=>.inr (jC n,ss)|some (.inr f)=>.inl (.pure f,ss)
abbrev tH(ce:Tx->Nat)(GK GW:DF):DS:=au (aw (aA GK [.val (aa 2)]) (ag [] 3)) (au (ck (f_ (aD (ae cN 3 (ah (eD (.str [103,114,101,97,116]))))) (f_ (aD (aA GW [.val (gH ce ys [109,97,110,121] (aj 2))])) (aD (aA GW [.val (gH ce ys [109,111,115,116] (aj 2))])))) (bt (aG (ak (aa 3) (ak (aG (ak (gH ce ys [109,97,110,121] (aj 2)) (ak (gH ce ys [109,111,115,116] (aj 2)) ay))) ay)))) cA) (bt (aG (ak (aa 3) (ak (eD .aJ) ay)))))
theorem zeC(hi:gK ce)(GK GW:DF)(U V:D)(m:Nat)(gk:∀fl,GK [.pure (.exc (ce gT) fl)]=some (.pure (.str [103,114,101,97,116]),[.pure (.exc (ce gT) fl)]))(gw:∀n:Int,GW [.pure (.int n)]=some (.pure (.bl true),[.pure (.int n)])):tH ce GK GW [pS U,pS V,pS (.exc (ce gT) (jC m).jd),none]=.ok (.ret (.pure (cY (some (.inl m))))) [pS U,pS V,pS (.exc (ce gT) (jC m).jd),pS (.str [103,114,101,97,116])]:=by have f:=KL hi (z:=gT) #v[ys];unfold jC;have ea:∀δ:Dl,δ[2]?=some (pS (.exc (ce gT) (.xd [([109,97,110,121],.int m),([109,111,115,116],.int 26)])))->gH ce ys [109,97,110,121] (aj 2) δ=.ok (.pure (.int m)) δ:=λδ hδ=>#v[gH,aj,hδ,f];have eb:∀δ:Dl,δ[2]?=some (pS (.exc (ce gT) (.xd [([109,97,110,121],.int m),([109,111,115,116],.int 26)])))->gH ce ys [109,111,115,116] (aj 2) δ=.ok (.pure (.int 26)) δ:=λδ hδ=>#v[gH,aj,hδ,f,List.lookup];have gk:=gk (.xd [([109,97,110,121],.int m),([109,111,115,116],.int 26)]);simp[aw,aA,bo,bX,bH,bI,aa,bD,gk,gw,aR,aD,ae,aO,aj,cN,cz,ea,eb,cY]
theorem zeB(hi:gK ce)(GK GW:DF)(U V:D)(gk:∀fl,GK [.pure (.exc (ce uT) fl)]=some (.pure (.str [117,110,108,105,107,101]),[.pure (.exc (ce uT) fl)])):tH ce GK GW [pS U,pS V,pS (.exc (ce uT) .aJ),none]=.ok (.ret (.pure (cY none))) [pS U,pS V,pS (.exc (ce uT) .aJ),pS (.str [117,110,108,105,107,101])]:=by have gk:=gk .aJ;simp[aw,aA,bo,bX,bH,bI,aa,bD,gk,aR,aD,ae,aO,aj,cN,cz,cY]
theorem zgO(hi:gK ce)(GJ:DX)(GK GW:DF)(U V:D)(rr:Option (Nat ⊕ D))(g:GJ [.pure U,.pure V]=some (KO [.pure U,.pure V] rr))(gkU:∀fl,GK [.pure (.exc (ce uT) fl)]=some (.pure (.str [117,110,108,105,107,101]),[.pure (.exc (ce uT) fl)]))(gkG:∀fl,GK [.pure (.exc (ce gT) fl)]=some (.pure (.str [103,114,101,97,116]),[.pure (.exc (ce gT) fl)]))(gw:∀n:Int,GW [.pure (.int n)]=some (.pure (.bl true),[.pure (.int n)])):cf [] 4 (om ce ys 2 (bt (aG (ak (eD (.str [116,111,108,100])) (ak (ju GJ [.val (aa 0),.val (aa 1)]) ay)))) (tH ce GK GW)) [.pure U,.pure V]=some (.pure (cY rr),[.pure U,.pure V]):=by
 have no:uq [pS U,pS V,none,none]=true:=#v[uq];rw[kf,show aX 4 [S.pure U,.pure V]=[pS U,pS V,none,none]from rfl];unfold om;rw[no];rcases rr with _|n|f<;>simp only[KO]at g
 .have eh:=zeB hi GK GW U V gkU;have hc:(ys.contains uT&&decide (2<[pS U,pS V,none,none].length))=true:=#v[ys];have e:(bt (aG (ak (eD (.str [116,111,108,100])) (ak (ju GJ [.val (aa 0),.val (aa 1)]) ay)))) [pS U,pS V,none,none]=.exc ⟨uT,.aJ⟩ [pS U,pS V,none,none]:=by simp[bt,aG,ak,ay,ju,bo,bX,bH,bI,aa,bD,g,aR]
  rw[e];simp only[if_true];rw[if_pos hc,QT,QT,JF,eh];simp[unset,bO,bW,bj]
 .have eh:=zeC hi GK GW U V n gkG gw;have hc:(ys.contains (jC n).cls&&decide (2<[pS U,pS V,none,none].length))=true:=#v[ys,jC];have e:(bt (aG (ak (eD (.str [116,111,108,100])) (ak (ju GJ [.val (aa 0),.val (aa 1)]) ay)))) [pS U,pS V,none,none]=.exc (jC n) [pS U,pS V,none,none]:=by simp[bt,aG,ak,ay,ju,bo,bX,bH,bI,aa,bD,g,aR]
  rw[e];simp only[if_true];rw[if_pos hc,QT,QT,JF];rw[show(jC n).cls=gT from rfl,eh];simp[unset,bO,bW,bj]
 .simp[bt,aG,ak,ay,ju,bo,bX,bH,bI,aa,bD,g,aR,bO,bW,bj,cY]
noncomputable def ov(h w:Nat)(bs:List (Nat×List Tx))(s1:Nat)(h' w':Nat)(cs:List (Nat×List Tx))(s2 n:Nat):Option (Nat ⊕ D):=if h=h'/\w=w' then some (if 26<n then .inl n else .inr (r8 h w bs cs (bf (aZ bs cs) (s1,s2) n)))else none
theorem zgy(hi:gK ce){h s1 s2:Nat}{bs:List (Nat×List Tx)}(R:bc h w bs)(R':bc h' w' cs)(W:Wk (ef bs cs) (aZ bs cs) (s1,s2) n\/¬(h=h'/\w=w'))(q1 q2:D):G__law_told ce [.pure (.tup [aq h w bs,sD s1,q1]),.pure (.tup [aq h' w' cs,sD s2,q2])]=some (.pure (cY (ov h w bs s1 h' w' cs s2 n)),[.pure (.tup [aq h w bs,sD s1,q1]),.pure (.tup [aq h' w' cs,sD s2,q2])]):=by
 rw[G__law_told,b__law_told];refine zgO hi _ _ _ _ _ _ ?_ (zez hi) (zeA hi) vJ;unfold ov;split
 .rename_i e;obtain⟨rfl,rfl⟩:=e;have W:=W.resolve_right U';split;.exact z9G R R' W ‹_›
  .exact z9F R R' W Y'
 .exact z9E ‹_›
end
def x4{α:Type}(k:Nat)(xs:List α):List α:=(Wc 4 xs).flatten.take k
def gD(h w:Nat)(b:Nat×List Tx):Nat×List Tx:=(b.1,(x4 h b.2).map (x4 w))
section
variable{α:Type}{k:Nat}{xs:List α}
theorem vK(xs:List α):(Wc 4 xs).flatten.length=4*xs.length:=by simp[List.length_flatten,List.sum_replicate_nat];lia
theorem A0(h:0<xs.length)(hk:k<=4):(x4 k xs).length=k:=by unfold x4;rw[JR,vK];lia
theorem A5{x:α}(h:x∈x4 k xs):x∈xs:=by unfold x4 at h;have:=List.mem_of_mem_take h;simpa using this
end
theorem mul_str{x:Tx}(h:0<x.length)(h2:x.length<=100):cS (.str x) (.int 4)=pS (.str (Wc 4 x).flatten):=by simp only[cS];rw[if_pos ⟨Z',Z',h,by rw[cT];show x.length*4<=_;lia⟩];rfl
theorem zf6(h:0<x.length)(h2:x.length<=100):cS (bA x) (.int 4)=pS (bA (Wc 4 x).flatten):=by simp only[cS];rw[if_pos ⟨Z',Z',~~~h,by rw[cT];show(x.map D.str).length*4<=_;simp;lia⟩];simp
theorem zec{x:Tx}{k:Nat}(h:0<x.length)(h2:x.length<=100)(hk:k<=4):eJ none (some (k:Int)) (.str (Wc 4 x).flatten)=pS (.str (x4 k x)):=by rw[tO _ (by rw[vK];lia),Ax _ _ (by rw[vK];lia)];rfl
theorem zeb{k:Nat}(h:0<x.length)(hk:k<=4):eJ none (some (k:Int)) (bA (Wc 4 x).flatten)=pS (bA (x4 k x)):=by rw[pQ,Ax _ _ (by rw[Wv,vK];lia),<-Um];rfl
section
variable{h:Nat}{bs:List (Nat×List Tx)}
theorem qah(R:bc h w bs)(h0:0<h')(h1:h'<=4)(w0:0<w')(w1:w'<=4):bc h' w' (bs.map (gD h' w'))/\(bs.map (gD h' w')).map (·.1)=bs.map (·.1):=by
 have e:(bs.map (gD h' w')).map (·.1)=bs.map (·.1):=by rw[WC];rfl
 refine⟨⟨h0,h1,w0,w1,~~~R.n0,~~~R.n1,%[e|R.nd],λb hb=>?_⟩,e⟩;obtain⟨c,hc,rfl⟩:=Q9.mp hb;obtain⟨c1,c2⟩:=R.cW c hc;rw[e];refine⟨#v[gD,A0 (xs:=c.2) (by have:=R.h0;lia) h1],λr hr=>?_⟩;obtain⟨q,hq,rfl⟩:=Q9.mp hr;obtain⟨d1,d2⟩:=c2 q (A5 hq);exact⟨A0 (by have:=R.w0;lia) w1,λn hn=>d2 n (A5 hn)⟩
abbrev sZ(ru H W L:D)(o4 o5 o6:Option S):Dl:=[pS ru,pS H,pS W,pO L,o4,o5,o6,none]
abbrev zC:DE:=bR [7] (aS (dI (ae cS 5 (ah (eD (.int 4)))) de (cu (aa 1)))) (ag [] 7) bz (dI (ae cS 7 (ah (eD (.int 4)))) de (cu (aa 2)))
theorem qai(ru L z:D)(o6:Option S)(hx:0<x.length/\x.length<=100)(hr:∀r∈x,0<r.length/\r.length<=100)(h1:h'<=4)(w1:w'<=4):zC (sZ ru (.int h') (.int w') L (pS z) (pS (bA x)) o6)=.ok (.own (.lst (((x4 h' x).map (x4 w')).map .str))) (sZ ru (.int h') (.int w') L (pS z) (pS (bA x)) o6):=by
 have m:=zf6 hx.1 hx.2;have s:=zeb (k:=h') hx.1 h1;have ei:aS (dI (ae cS 5 (ah (eD (.int 4)))) de (cu (aa 1))) (sZ ru (.int h') (.int w') L (pS z) (pS (bA x)) o6)=.ok ((x4 h' x).map .str) (sZ ru (.int h') (.int w') L (pS z) (pS (bA x)) o6):=by generalize bA (Wc 4 x).flatten=y,bA x=y2 at*;simp[fj,dI,ae,aO,de,cu,aa,aj,m,s,S.d]
 have ec:=cM (cs:=[7]) (it:=aS (dI (ae cS 5 (ah (eD (.int 4)))) de (cu (aa 1)))) (g:=ag [] 7) (t:=bz) (el:=dI (ae cS 7 (ah (eD (.int 4)))) de (cu (aa 2))) D.str (λr=>D.str (x4 w' r)) ei (by rw[A0 hx.1 h1];lia) λr fO=>by obtain⟨r0,r1⟩:=hr r (A5 fO);have m:=mul_str r0 r1;have s:=zec (k:=w') r0 r1 w1;refine⟨_,_,.pure (.str (x4 w' r)),[pS ru,pS (.int h'),pS (.int w'),pO L,pS z,pS (bA x),o6,pS (.str r)],rfl,rfl,?_,rfl,rfl⟩;generalize D.str (Wc 4 r).flatten=y,D.str r=y2,D.str (x4 w' r)=y3,bA x=y4 at*;simp[bC,dI,ae,aO,de,cu,aa,aj,m,s,S.d]
 rw[zC,ec,WC];rfl
theorem KP(R:bc h w bs)(ru:D)(h1:h'<=4)(w1:w'<=4):∀(r:List (Nat×List Tx))(l:List D)(o4 o5 o6:Option S),(∀b∈r,b∈bs)->l.length+r.length<=1000->∃p4 p5 p6,forL (bV 2 (aQ (ag [] 4) (aQ (ag [] 5) cn))) (au (aw zC (ag [] 6)) (bG 3 (aG (ak (aa 4) (ak (aC cq (aj 6)) ay))))) (r.map aT) (sZ ru (.int h') (.int w') (.lst l) o4 o5 o6)=.ok .next (sZ ru (.int h') (.int w') (.lst (l++r.map λb=>aT (gD h' w' b))) p4 p5 p6)
 |[],l,o4,o5,o6,_,_=>⟨o4,o5,o6,#v[forL]⟩|b::r,l,o4,o5,o6,hr,hl=>by
  obtain⟨b1,b2⟩:=R.cW b (hr b (.head _));have c:=qai (h':=h') (w':=w') ru (.lst l) (.str [b.1]) o6 (x:=b.2) ⟨by have:=R.h0;lia,by have:=R.h1;lia⟩ λq hq=>by have:=b2 q hq;have:=R.w0;have:=R.w1;lia h1 w1;have hz:l.length<Wa:=by rw[cT];simp at hl;lia
  obtain⟨p4,p5,p6,e⟩:=KP R ru h1 w1 r (l++[aT (gD h' w' b)]) (pS (.str [b.1])) (pS (bA b.2)) (pO (.lst ((gD h' w' b).2.map .str))) (λb' h=>hr b' (.tail _ h)) P';refine⟨p4,p5,p6,?_⟩;show forL _ _ (aT b::r.map aT) _=_;have e1:(au (aw zC (ag [] 6)) (bG 3 (aG (ak (aa 4) (ak (aC cq (aj 6)) ay))))) (sZ ru (.int h') (.int w') (.lst l) (pS (.str [b.1])) (pS (bA b.2)) o6)=.ok .next (sZ ru (.int h') (.int w') (.lst (l++[aT (gD h' w' b)])) (pS (.str [b.1])) (pS (bA b.2)) (pO (.lst ((gD h' w' b).2.map .str)))):=by
   show _=Rs.ok Fl.next (sZ ru (.int h') (.int w') (.lst (l++[.tup [.str [b.1],.tup (((x4 h' b.2).map (x4 w')).map .str)]])) _ _ (pO (.lst (((x4 h' b.2).map (x4 w')).map .str))));unfold bA at*;generalize zC=E,((x4 h' b.2).map (x4 w')).map D.str=y,D.tup (b.2.map D.str)=y2,D.str [b.1]=y3,D.int (h':Int)=y4,D.int (w':Int)=y5 at*;refine bF (δ1:=sZ ru y4 y5 (.lst l) (pS y3) (pS y2) (pO (.lst y))) ?_ ?_;.simp[bG,aG,ak,ay,aa,aj,rD,eW,putL,hz,S.d]
   .simp[aw,c,S.d]
  rw[kg (δ1:=sZ ru (.int h') (.int w') (.lst l) (pS (.str [b.1])) (pS (bA b.2)) o6) rfl e1,e];simp
theorem zev(R:bc h w bs)(h1:h'<=4)(w1:w'<=4):k7 [.pure (aq h w bs),.pure (.int h'),.pure (.int w')]=some (.pure (aq h' w' (bs.map (gD h' w'))),[.pure (aq h w bs),.pure (.int h'),.pure (.int w')]):=by
 obtain⟨p4,p5,p6,e⟩:=KP R (aq h w bs) h1 w1 bs [] none none none (λ_ h=>h) (by have:=R.n1;simp;lia);rw[WQ]at e;have er:(bs.map λb=>aT (gD h' w' b))=(bs.map (gD h' w')).map aT:=by rw[WC];rfl
 rw[er]at e;rw[k7,HJ];have i2:=(me h w bs).2.2;show cf _ _ _ _=some (.pure (.tup [.int h',.int w',.tup ((bs.map (gD h' w')).map aT)]),_);generalize aq h w bs=ru,(bs.map (gD h' w')).map aT=RR at*;refine gR (bF (δ1:=sZ ru (.int h') (.int w') (.lst []) none none none) (bF (δ1:=sZ ru (.int h') (.int w') (.lst RR) p4 p5 p6) ?_ ((iH ?_).trans e)) ?_) (δ1:=sZ ru (.int h') (.int w') (.lst RR) p4 p5 p6) rfl rfl;.simp[aG,ak,ay,aa,aj,rD,S.d]
 .simp[fj,ae,aO,aj,i2,S.d]
 .simp[aX,aw]
end
theorem qaj(L:List PP)(p:PP):((L.map kD).any λe=>aW e (kD p))=decide (p∈L):=by
 rw[List.any_map,JD];simp only[List.any_eq_true,Function.comp,vC,decide_eq_true_eq];constructor;.rintro⟨x,hx,rfl⟩;exact hx
 .intro h;exact⟨p,h,rfl⟩
theorem A6(p:PP):flat 49 (kD p)=true:=#v[kD,flat,eV]
theorem KQ(L:List PP):(L.map kD).all (flat 49)=true:=by rw[List.all_map,Q8];exactλp _=>A6 p
theorem inF(L:List PP)(p:PP):lX true (kD p) (LD L)=pS (.bl !decide (p∈L)):=by simp only[lX,LD,qaj,A6,KQ];rfl
theorem KR:∀(a L b:List PP),cg L (a++b)=cg (cg L a) b|[],_,_=>rfl|p::a,L,b=>by simp only[List.cons_append,cg,KR a]
abbrev sQ(P1 P2 X Y LL BB:D)(k:Int)(o7 o8 o9 o10 bT:Option S):Dl:=[pS P1,pS P2,pO X,pO Y,pO LL,pO BB,pS (.int k),o7,o8,o9,o10,bT]
abbrev pI:DS:=ck (aD (ax (lX true) (aa 11) (aj 4))) (bG 4 (aa 11)) cA
abbrev pB:DS:=au (aw (kY (aa 8) (aa 9)) (ag [] 10)) (au (bG 7 (aa 10)) (bM (aS (aa 10)) (ag [] 11) pI))
section
variable{Y:D}{k:Int}{o8 o9 o10:Option S}
theorem qak(L:List PP)(hl:L.length<=1000)(p:PP):pI (sQ P1 P2 X Y (LD L) BB k o7 o8 o9 o10 (pS (kD p)))=.ok .next (sQ P1 P2 X Y (LD (cg L [p])) BB k o7 o8 o9 o10 (pS (kD p))):=by
 have q:=inF L p;by_cases hp:p∈L;.rw[show cg L [p]=L by simp[cg,hp]];rw[decide_eq_true hp]at q;generalize LD L=LL,kD p=z at*;simp[aD,aa,aj,q,S.d]
 .rw[show cg L [p]=L++[p]by simp[cg,hp]];rw[decide_eq_false hp]at q;have hz:(L.map kD).length<Wa:=by rw[cT];simp;lia
  rw[show LD (L++[p])=.lst (L.map kD++[kD p])by simp[LD]];unfold LD at*;generalize L.map kD=LL,kD p=z at*;simp[aD,aa,aj,q,S.d,bG,eW,putL,hz]
theorem KS:∀(ps L:List PP)(bT:Option S),L.length+ps.length<=1000->∃k9,forL (ag [] 11) pI (ps.map kD) (sQ P1 P2 X Y (LD L) BB k o7 o8 o9 o10 bT)=.ok .next (sQ P1 P2 X Y (LD (cg L ps)) BB k o7 o8 o9 o10 k9)|[],L,bT,_=>⟨bT,rfl⟩|p::ps,L,bT,hl=>by obtain⟨k9,e2⟩:=KS ps (cg L [p]) (pS (kD p)) (by have:=vp [p] L;simp at this hl⊢;lia);rw[Kr];refine⟨k9,?_⟩;show forL _ _ (kD p::ps.map kD) _=_;rw[kg (δ1:=sQ P1 P2 X Y (LD L) BB k o7 o8 o9 o10 (pS (kD p))) rfl (qak L (by simp at hl;lia) p)];exact e2
abbrev zR(q:Tx×Tx):List PP:=q.1.zip q.2
theorem qal(q:Tx×Tx)(hq:q.1.length=q.2.length/\q.1.length<=4)(L:List PP)(hl:L.length<=950)(RR:List D)(hR:RR.length<=100)(o10 bT:Option S):∃o10' k9,pB (sQ P1 P2 X Y (LD L) BB k (pO (.lst RR)) (pS (.str q.1)) (pS (.str q.2)) o10 bT)=.ok .next (sQ P1 P2 X Y (LD (cg L (zR q))) BB k (pO (.lst (RR++[LD (zR q)]))) (pS (.str q.1)) (pS (.str q.2)) o10' k9):=by
 have z:=AS q.1 q.2;have l1:q.1.length=q.2.length/\q.1.length<=1000:=⟨hq.1,Y'⟩;have e1:kY (aa 8) (aa 9) (sQ P1 P2 X Y (LD L) BB k (pO (.lst RR)) (pS (.str q.1)) (pS (.str q.2)) o10 bT)=.ok (.own (LD (zR q))) (sQ P1 P2 X Y (LD L) BB k (pO (.lst RR)) (pS (.str q.1)) (pS (.str q.2)) o10 bT):=by show(if _ then Rs.ok (S.own (.lst (gz _ _))) _ else .stuck)=_;rw[if_pos (~~~l1),z];rfl
 have hz:RR.length<Wa:=by rw[cT];lia
 obtain⟨k9,e⟩:=KS (P1:=P1) (P2:=P2) (X:=X) (Y:=Y) (BB:=BB) (k:=k) (o7:=pO (.lst (RR++[LD (zR q)]))) (o8:=pS (.str q.1)) (o9:=pS (.str q.2)) (o10:=pS (LD (zR q))) (zR q) L bT V';have ei:aS (aa 10) (sQ P1 P2 X Y (LD L) BB k (pO (.lst (RR++[LD (zR q)]))) (pS (.str q.1)) (pS (.str q.2)) (pS (LD (zR q))) bT)=.ok ((zR q).map kD) (sQ P1 P2 X Y (LD L) BB k (pO (.lst (RR++[LD (zR q)]))) (pS (.str q.1)) (pS (.str q.2)) (pS (LD (zR q))) bT):=rfl;refine⟨_,k9,bF (δ1:=sQ P1 P2 X Y (LD L) BB k (pO (.lst RR)) (pS (.str q.1)) (pS (.str q.2)) (pO (LD (zR q))) bT) (bF ((iH ei).trans e) ?_) ?_⟩;.generalize LD L=LL,LD (zR q)=W,D.str q.1=y1,D.str q.2=y2;simp[bG,aa,eW,putL,hz,S.d]
 .unfold aw;rw[e1];rfl
theorem KU:∀(qs:List (Tx×Tx))(L:List PP)(RR:List D)(o8 o9 o10 bT:Option S),(∀q∈qs,q.1.length=q.2.length/\q.1.length<=4)->L.length+4*qs.length<=950->RR.length+qs.length<=100->∃p8 p9 p10 p11,forL (bV 2 (aQ (ag [] 8) (aQ (ag [] 9) cn))) pB (qs.map λq=>.tup [.str q.1,.str q.2]) (sQ P1 P2 X Y (LD L) BB k (pO (.lst RR)) o8 o9 o10 bT)=.ok .next (sQ P1 P2 X Y (LD (cg L (qs.map zR).flatten)) BB k (pO (.lst (RR++qs.map λq=>LD (zR q)))) p8 p9 p10 p11)|[],L,RR,o8,o9,o10,bT,_,_,_=>⟨o8,o9,o10,bT,#v[forL,cg]⟩|q::qs,L,RR,o8,o9,o10,bT,hq,hl,hr=>by have h1:=hq q (.head _);obtain⟨sX,s_,e1⟩:=qal (P1:=P1) (P2:=P2) (X:=X) (Y:=Y) (BB:=BB) (k:=k) q h1 L (by simp at hl;lia) RR (by simp at hr;lia) o10 bT;obtain⟨p8,p9,p10,p11,e⟩:=KU qs (cg L (zR q)) (RR++[LD (zR q)]) (pS (.str q.1)) (pS (.str q.2)) sX s_ (λq h=>hq q (.tail _ h)) (by have:=vp (zR q) L;simp at this hl⊢;lia) (by simp at hr⊢;lia);refine⟨p8,p9,p10,p11,?_⟩;show forL _ _ (D.tup [.str q.1,.str q.2]::qs.map λq=>.tup [.str q.1,.str q.2]) _=_;rw[kg (δ1:=sQ P1 P2 X Y (LD L) BB k (pO (.lst RR)) (pS (.str q.1)) (pS (.str q.2)) o10 bT) rfl e1,e];simp[KR]
end
def c_(bs cs:List (Nat×List Tx))(p:PP):D:=.lst ((gr bs cs p).map LD)
theorem KW:∀a b:List Tx,gz (a.map D.str) (b.map D.str)=(a.zip b).map λq=>.tup [.str q.1,.str q.2]|[],_=>rfl|_::_,[]=>rfl|x::a,y::b=>by have:=KW a b;unfold gz at this⊢;simp[this]
theorem A7:∀a b:List Tx,(a.zip b).map zR=List.zipWith List.zip a b|[],_=>rfl|_::_,[]=>rfl|x::a,y::b=>by simp[zR,<-A7 a b]
theorem Wk.get{ts:List PP}{pt:PP->List PP}{x0:PP}(W:Wk ts pt x0 n):bf pt x0 n=(WM n).map λi=>(bf pt x0 i).getD i x0:=by refine Jw #v[W.e] λi h1 h2=>?_;have jm:i<n:= ~~~h2;obtain⟨u,eu⟩:=vq (pt:=pt) (x0:=x0) i (n-i);rw[show i+(n-i)=n by lia]at eu;have ji:=W.j i jm;simp only[List.getElem_map,List.getElem_range,eu,List.getElem_append_left ji,Q5,W3 ji,Option.getD_some]
abbrev pT:DT:=aD (ae iy 6 (ah (aC bB (aj 4))))
abbrev pW:DS:=au (aw (cj ay) (ag [] 7)) (au (bM (j6 (ae cx 2 (ah (ax ao (ae ao 4 (aj 6)) (ah (eD (.int 0)))))) (ae cx 3 (ah (ax ao (ae ao 4 (aj 6)) (ah (eD (.int 1))))))) (bV 2 (aQ (ag [] 8) (aQ (ag [] 9) cn))) pB) (au (bG 5 (aa 7)) (aw (ae a7 6 (ah (eD (.int 1)))) (ag [] 6))))
section
variable{h:Nat}{bs:List (Nat×List Tx)}{s1 s2:Nat}
theorem qam(R:bc h w bs)(R':bc h w cs)(W:Wk (ef bs cs) (aZ bs cs) (s1,s2) n){k:Nat}(hk:k<n)(BB:List D)(hB:BB.length<=1000)(o7 o8 o9 o10 bT:Option S):∃p7 p8 p9 p10 p11,pW (sQ P1 P2 (cC bs) (cC cs) (LD (bf (aZ bs cs) (s1,s2) k)) (.lst BB) k o7 o8 o9 o10 bT)=.ok .next (sQ P1 P2 (cC bs) (cC cs) (LD (bf (aZ bs cs) (s1,s2) (k+1))) (.lst (BB++[c_ bs cs ((bf (aZ bs cs) (s1,s2) k).getD k (s1,s2))])) ((k+1:Nat):Int) p7 p8 p9 p10 p11):=by
 have hx:=AX (bf (aZ bs cs) (s1,s2) k) k (s1,s2) (W.j k hk);have hm:=W.mem hk;have hla:=(W.at (QV hk)).1;show∃p7 p8 p9 p10 p11,_=Rs.ok Fl.next (sQ P1 P2 (cC bs) (cC cs) (LD (cg (bf (aZ bs cs) (s1,s2) k) (aZ bs cs ((bf (aZ bs cs) (s1,s2) k).getD k (s1,s2))))) _ _ p7 p8 p9 p10 p11);generalize(bf (aZ bs cs) (s1,s2) k).getD k (s1,s2)=p at*;generalize bf (aZ bs cs) (s1,s2) k=L at*;obtain⟨h1,h2⟩:=pz.mp hm;have x1:=AO h1;have x2:=AO h2;obtain⟨f1,f2,f3⟩:=AZ R R' hm;obtain⟨b,hb,e1,_,eb⟩:=mi h1;obtain⟨c,hc,e2,_,ec⟩:=mi h2;obtain⟨b1,b2⟩:=R.cW b hb;obtain⟨c1,c2⟩:=R'.cW c hc;have hh:=R.h1;have hw:=R.w1;obtain⟨p8,p9,p10,p11,e⟩:=KU (P1:=P1) (P2:=P2) (X:=cC bs) (Y:=cC cs) (BB:=.lst BB) (k:=k) ((cW bs p.1).zip (cW cs p.2)) L [] o8 o9 o10 bT λq hq=>by rw[eb,ec]at hq;have z:=QW hq;have:=(b2 _ z.1).1;have:=(c2 _ z.2).1;lia (by rw[eb,ec];simp;lia) (by rw[eb,ec];simp;lia);rw[A7,f1,WQ]at e;have er:((cW bs p.1).zip (cW cs p.2)).map (λq=>LD (zR q))=(gr bs cs p).map LD:=by rw[gr,<-A7,WC];rfl
 rw[er]at e;have hz:BB.length<Wa:=by rw[cT];lia
 have AY:=inc k;refine⟨pS (c_ bs cs p),p8,p9,p10,p11,bF (δ1:=sQ P1 P2 (cC bs) (cC cs) (LD L) (.lst BB) k (pO (.lst [])) o8 o9 o10 bT) (bF (bF (δ1:=sQ P1 P2 (cC bs) (cC cs) (LD (cg L (aZ bs cs p))) (.lst (BB++[c_ bs cs p])) k (pS (c_ bs cs p)) p8 p9 p10 p11) ?_ ?_) ((iH ?_).trans e)) ?_⟩;.generalize LD (cg L (aZ bs cs p))=LL,c_ bs cs p=y,cC bs=X,cC cs=Y,((k+1:Nat):Int)=k1 at*;simp[aw,ae,aO,aj,AY,S.d]
 .unfold c_;generalize LD (cg L (aZ bs cs p))=LL,(gr bs cs p).map LD=y,cC bs=X,cC cs=Y at*;simp[bG,aa,eW,putL,hz,S.d]
 .have z:=KW (cW bs p.1) (cW cs p.2);rw[<-z];unfold kD bA at*;generalize LD L=LL,cC bs=X,cC cs=Y,(cW bs p.1).map D.str=y1,(cW cs p.2).map D.str=y2,D.str [p.1]=z1,D.str [p.2]=z2 at*;simp[j6,ae,aO,ax,aj,hx,kZ,x1,x2,j5,S.d]
 .generalize LD L=LL,cC bs=X,cC cs=Y at*;simp[aw]
theorem zew(R:bc h w bs)(R':bc h w cs)(W:Wk (ef bs cs) (aZ bs cs) (s1,s2) n)(q1 q2:D):rV [.pure (.tup [aq h w bs,sD s1,q1]),.pure (.tup [aq h w cs,sD s2,q2])]=some (.pure (.tup [LD (bf (aZ bs cs) (s1,s2) n),.lst ((bf (aZ bs cs) (s1,s2) n).map (c_ bs cs))]),[.pure (.tup [aq h w bs,sD s1,q1]),.pure (.tup [aq h w cs,sD s2,q2])]):=by
 have hw:=W.le;have hl:=W.l;generalize hP1:D.tup [aq h w bs,sD s1,q1]=P1,hP2:D.tup [aq h w cs,sD s2,q2]=P2;obtain⟨δ',⟨p7,p8,p9,p10,p11,rfl⟩,e⟩:=AW (t:=pT) (b:=pW) (n:=n) (λk δ=>∃p7 p8 p9 p10 p11,δ=sQ P1 P2 (cC bs) (cC cs) (LD (bf (aZ bs cs) (s1,s2) k)) (.lst ((WM k).map λi=>c_ bs cs ((bf (aZ bs cs) (s1,s2) i).getD i (s1,s2)))) k p7 p8 p9 p10 p11) λk hk δ hh=>by obtain⟨o7,o8,o9,o10,bT,e⟩:=hh;subst e;obtain⟨p7,p8,p9,p10,p11,e⟩:=qam (P1:=P1) (P2:=P2) R R' W hk ((WM k).map λi=>c_ bs cs ((bf (aZ bs cs) (s1,s2) i).getD i (s1,s2))) V' o7 o8 o9 o10 bT;have bq:=vE k (bf (aZ bs cs) (s1,s2) k).length;rw[decide_eq_true (W.j k hk)]at bq;have hZ:=k_ (bf (aZ bs cs) (s1,s2) k);refine⟨_,?_,e,p7,p8,p9,p10,p11,by rw[List.range_succ,QZ];rfl⟩;generalize LD (bf (aZ bs cs) (s1,s2) k)=LL,((bf (aZ bs cs) (s1,s2) k).length:Int)=zl,cC bs=X,cC cs=Y,((WM k).map λi=>c_ bs cs ((bf (aZ bs cs) (s1,s2) i).getD i (s1,s2)))=BB at*;simp[aD,ae,aO,aj,hZ,bq,S.d] λδ hh=>by obtain⟨o7,o8,o9,o10,bT,e⟩:=hh;subst e;have bq:=vE n (bf (aZ bs cs) (s1,s2) n).length;rw[W.e,decide_eq_false (Q7 n)]at bq;have hZ:=k_ (bf (aZ bs cs) (s1,s2) n);rw[W.e]at hZ;generalize LD (bf (aZ bs cs) (s1,s2) n)=LL,cC bs=X,cC cs=Y,((WM n).map λi=>c_ bs cs ((bf (aZ bs cs) (s1,s2) i).getD i (s1,s2)))=BB at*;simp[aD,ae,aO,aj,hZ,bq,S.d] n 0 (sQ P1 P2 (cC bs) (cC cs) (LD [(s1,s2)]) (.lst []) 0 none none none none none) 1000000 Y' Y' ⟨none,none,none,none,none,rfl⟩;have eb:((WM n).map λi=>c_ bs cs ((bf (aZ bs cs) (s1,s2) i).getD i (s1,s2)))=(bf (aZ bs cs) (s1,s2) n).map (c_ bs cs):=by rw[W.get,WC];rfl
 rw[eb]at e;have d1:=AN R;have d2:=AN R';have i1:=(me h w bs).2.2;have i2:=(me h w cs).2.2;have e0:LD [(s1,s2)]=.lst [.tup [sD s1,sD s2]]:=rfl;rw[e0]at e;rw[rV,HY];subst hP1 hP2;generalize LD (bf (aZ bs cs) (s1,s2) n)=LL,(bf (aZ bs cs) (s1,s2) n).map (c_ bs cs)=BB,cC bs=X,cC cs=Y,aq h w bs=r1,aq h w cs=r2,D.tup (bs.map aT)=t1,D.tup (cs.map aT)=t2,sD s1=z1,sD s2=z2 at*;refine gR (bF (δ1:=[pS (.tup [r1,z1,q1]),pS (.tup [r2,z2,q2]),pO X,none,none,none,none,none,none,none,none,none]) (bF (δ1:=[pS (.tup [r1,z1,q1]),pS (.tup [r2,z2,q2]),pO X,pO Y,none,none,none,none,none,none,none,none]) (bF (δ1:=[pS (.tup [r1,z1,q1]),pS (.tup [r2,z2,q2]),pO X,pO Y,pO (.lst [.tup [z1,z2]]),none,none,none,none,none,none,none]) (bF (bF (δ1:=sQ (.tup [r1,z1,q1]) (.tup [r2,z2,q2]) X Y (.lst [.tup [z1,z2]]) (.lst []) 0 none none none none none) (bF ?_ e) rfl) rfl) ?_) ?_) ?_) (δ1:=[pS (.tup [r1,z1,q1]),pS (.tup [r2,z2,q2]),pO X,pO Y,pS LL,pS (.lst BB),pS (.int n),p7,p8,p9,p10,p11]) rfl rfl;.simp[aG,ak,ay,aa,S.d]
 .simp[aw,aG,cj,ak,ay,ae,aO,aj,gJ,S.d]
 .simp[aw,ax,ae,aO,aj,gJ,i2,d2,S.d]
 .simp[aX,aw,ax,ae,aO,aj,gJ,i1,d1,S.d]
end
theorem A8(k:Nat)(h:k<26):ao (.str dY) (.int k)=pS (sD (97+k)):=by
 have:∀k<26,dY[k]?=some (97+k):=by decide
 simp[ao,h9,this k h,cT]
theorem qan(hp:p∈L)(hl:L.length<=1000):qX (LD L) (kD p)=pS (.int (L.idxOf p)):=by
 have e:(L.map kD).findIdx (λe=>aW e (kD p))=L.idxOf p:=by rw[List.findIdx_map];unfold List.idxOf;congr 1;funext x;simp only[Function.comp,vC];rw[JD];simp
 have h:=List.idxOf_lt_length_of_mem hp;have hc:(flat 49 (kD p)&&(L.map kD).all (flat 49)&&decide ((L.map kD).findIdx (λe=>aW e (kD p))<(L.map kD).length/\(L.map kD).length<=1000))=true:=by rw[A6,KQ,e];simp[h,hl]
 show(if _ then _ else none)=_;rw[if_pos hc,e]
abbrev sU(P1 P2 LL BB nl:D)(o6 o7 o9 o10:Option S):Dl:=[pS P1,pS P2,pS LL,pS BB,pS (.str dY),pO nl,o6,o7,none,o9,o10]
abbrev pA:DE:=bR [10] (aS (aa 9)) (ag [] 10) bz (ae ao 4 (ah (m9 2 (aa 10))))
abbrev A9:DE:=bR [9] (aS (ae ao 3 (aj 6))) (ag [] 9) bz (aC (cE []) (ah pA))
section
variable{nl:D}{o6:Option S}{h:Nat}{bs:List (Nat×List Tx)}
theorem zi5(hl:L.length<=26)(row:List PP)(hr:∀p∈row,p∈L)(h4:row.length<=4):pA (sU P1 P2 (LD L) BB nl o6 o7 (pS (LD row)) none)=.ok (.own (.lst ((row.map (bY L)).map sD))) (sU P1 P2 (LD L) BB nl o6 o7 (pS (LD row)) none):=by
 have ec:=cM (cs:=[10]) (it:=aS (aa 9)) (g:=ag [] 10) (t:=bz) (el:=ae ao 4 (ah (m9 2 (aa 10)))) kD (λp=>sD (bY L p)) (δ:=sU P1 P2 (LD L) BB nl o6 o7 (pS (LD row)) none) (as:=row) rfl Y' λp hp=>by have i:=qan (hr p hp) Y';have x:=A8 (L.idxOf p) (by have:=List.idxOf_lt_length_of_mem (hr p hp);lia);refine⟨_,_,.pure (sD (bY L p)),[pS P1,pS P2,pS (LD L),pS BB,pS (.str dY),pO nl,o6,o7,none,pS (LD row),pS (kD p)],rfl,rfl,?_,rfl,rfl⟩;unfold bY;have il:uA (LD L)=true:=rfl;unfold sU;generalize LD L=LL,LD row=RW,kD p=z,D.str dY=LT,(L.idxOf p:Int)=ii,sD (97+L.idxOf p)=y at*;simp[bC,ae,aO,m9,aa,aj,p2,i,x,il,S.d]
 rw[pA,ec,WC];rfl
theorem zi6(hl:L.length<=26)(BL:List D)(k:Nat)(rows:List (List PP))(hB:ao BB (.int k)=pS (.lst (rows.map LD)))(hr:∀row∈rows,row.length<=4/\∀p∈row,p∈L)(h4:rows.length<=4):A9 (sU P1 P2 (LD L) BB nl (pS (.int k)) o7 none none)=.ok (.own (.lst (rows.map λr=>.str (r.map (bY L))))) (sU P1 P2 (LD L) BB nl (pS (.int k)) o7 none none):=by
 have ei:aS (ae ao 3 (aj 6)) (sU P1 P2 (LD L) BB nl (pS (.int k)) o7 none none)=.ok (rows.map LD) (sU P1 P2 (LD L) BB nl (pS (.int k)) o7 none none):=by generalize LD L=LL,rows.map LD=RW,D.int (k:Int)=kk at*;simp[fj,ae,aO,aj,hB,S.d]
 have ec:=cM (cs:=[9]) (it:=aS (ae ao 3 (aj 6))) (g:=ag [] 9) (t:=bz) (el:=aC (cE []) (ah pA)) LD (λr=>D.str (r.map (bY L))) ei Y' λr fO=>by have c:=zi5 (P1:=P1) (P2:=P2) (BB:=BB) (nl:=nl) (o6:=pS (.int k)) (o7:=o7) hl r (hr r fO).2 (hr r fO).1;have j:=Kw (r.map (bY L)) (by simp;have:=(hr r fO).1;lia);refine⟨_,_,.pure (.str (r.map (bY L))),sU P1 P2 (LD L) BB nl (pS (.int k)) o7 (pS (LD r)) none,rfl,rfl,?_,rfl,rfl⟩;show(aC (cE []) (ah pA)) (sU P1 P2 (LD L) BB nl (pS (.int k)) o7 (pS (LD r)) none)=_;generalize pA=E,(r.map (bY L)).map sD=RR at*;simp[c,j,S.d]
 rw[A9,ec];rfl
end
theorem KY(nd:L.Nodup)(h:i<L.length):L.idxOf L[i]=i:=by have h1:L.idxOf L[i]<L.length:=List.idxOf_lt_length_of_mem (WX h);exact(JQ (h₀:=h1) (h₁:=h) nd).mp (List.getElem_idxOf h1)
theorem zfa(L:List PP)(x0:PP){β:Type}(g:PP->β):L.map g=(WM L.length).map λi=>g (L.getD i x0):=by refine Jw U' λi h1 h2=>?_;simp at h1;simp[h1]
abbrev dB:DS:=au (aw A9 (ag [] 7)) (bG 5 (aG (ak (ae ao 4 (aj 6)) (ak (aC cq (aj 7)) ay))))
abbrev dE:DE:=aG (ak (ae ao 4 (aj 6)) (ak (ax ao (ae ao 2 (aj 6)) (ah (eD (.int 0)))) (ak (ax ao (ae ao 2 (aj 6)) (ah (eD (.int 1)))) ay)))
theorem KZ(L:List PP)(hl:L.length<=1000)(e:aj 2 δ=.ok (LD L) δ):c9 (aC bB (aj 2)) δ=.ok (cI 0 L.length) δ:=by
 have a:=k_ L;have b:aC bB (aj 2) δ=.ok (.pure (.int L.length)) δ:=by generalize LD L=LL at*;simp[e,a]
 rw[yd,b,eZ];exact m5 L.length Y' δ
section
variable{h:Nat}{bs:List (Nat×List Tx)}
theorem qao(R:bc h w bs)(R':bc h w cs)(nd:L.Nodup)(hl:L.length<=26)(hL:∀t∈L,t∈ef bs cs)(hc:∀t∈L,∀p∈aZ bs cs t,p∈L){k:Nat}(hk:k<L.length)(nl:List D)(hn:nl.length<=1000)(o7:Option S):∃p7,dB (sU P1 P2 (LD L) (.lst (L.map (c_ bs cs))) (.lst nl) (pS (.int k)) o7 none none)=.ok .next (sU P1 P2 (LD L) (.lst (L.map (c_ bs cs))) (.lst (nl++[NB bs cs L L[k]])) (pS (.int k)) p7 none none):=by
 have hm:L[k]∈L:=WX hk;obtain⟨f1,f2,f3⟩:=AZ R R' (hL _ hm);have hB:ao (.lst (L.map (c_ bs cs))) (.int k)=pS (.lst ((gr bs cs L[k]).map LD)):=by show(di (L.map (c_ bs cs)) (k:Int)).map S.pure=_;rw[h9,Wu,W3 hk];rfl
 have c:=zi6 (P1:=P1) (P2:=P2) (nl:=.lst nl) (o7:=o7) hl [] k (gr bs cs L[k]) hB (λr hr=>⟨%[f3 r hr|R.w1],λp hp=>hc _ hm p (by rw[<-f1];exact List.mem_flatten.mpr ⟨r,hr,hp⟩)⟩) %[f2|R.h1];have x:=A8 k Y';have hz:nl.length<Wa:=by rw[cT];lia
 have e:NB bs cs L L[k]=.tup [sD (97+k),.tup ((gr bs cs L[k]).map λr=>.str (r.map (bY L)))]:=by rw[NB,bY,KY nd hk]
 rw[e];generalize((gr bs cs L[k]).map λr=>D.str (r.map (bY L)))=RR,L.map (c_ bs cs)=BB,LD L=LL,sD (97+k)=y at*;refine⟨pO (.lst RR),bF (δ1:=sU P1 P2 LL (.lst BB) (.lst nl) (pS (.int k)) (pO (.lst RR)) none none) ?_ ?_⟩;.unfold sU;generalize D.str dY=LT,D.int (k:Int)=kk at*;simp[bG,aG,ak,ay,ae,aO,aj,x,rD,eW,putL,hz,S.d]
 .unfold aw;rw[c];rfl
theorem K0(R:bc h w bs)(R':bc h w cs)(nd:L.Nodup)(hl:L.length<=26)(hL:∀t∈L,t∈ef bs cs)(hc:∀t∈L,∀p∈aZ bs cs t,p∈L):∀(t k:Nat)(nl:List D)(o6 o7:Option S),k+t=L.length->nl.length=k->(o6.isSome=true->∃z,o6=pS z)->∃p6 p7,(p6.isSome=true->∃z,p6=pS z)/\forL (ag [] 6) dB (cI (k:Int) t) (sU P1 P2 (LD L) (.lst (L.map (c_ bs cs))) (.lst nl) o6 o7 none none)=.ok .next (sU P1 P2 (LD L) (.lst (L.map (c_ bs cs))) (.lst (nl++(L.drop k).map (NB bs cs L))) p6 p7 none none)
 |0,k,nl,o6,o7,hk,hn,h6=>⟨o6,o7,h6,#v[cI,forL,show L.drop k=[]from List.drop_eq_nil_of_le Y']⟩|t+1,k,nl,o6,o7,hk,hn,h6=>by
  have ly:k<L.length:=by lia
  obtain⟨p7,e1⟩:=qao (P1:=P1) (P2:=P2) R R' nd hl hL hc ly nl Y' o7;obtain⟨q6,q7,g6,e⟩:=K0 R R' nd hl hL hc t (k+1) (nl++[NB bs cs L L[k]]) (pS (.int k)) p7 Y' #v[hn] λ_=>⟨_,rfl⟩;refine⟨q6,q7,g6,?_⟩;rw[ZO,kg (δ1:=sU P1 P2 (LD L) (.lst (L.map (c_ bs cs))) (.lst nl) (pS (.int k)) o7 none none) rfl e1,e,Qt ly,Wf,List.append_assoc];rfl
theorem qap(nd:L.Nodup)(hl:L.length<=26)(x0:PP)(BB NL:D)(o6 o7:Option S)(h6:o6.isSome=true->∃z,o6=pS z):bR [6] (c9 (aC bB (aj 2))) (ag [] 6) bz dE (sU P1 P2 (LD L) BB NL o6 o7 none none)=.ok (.own (.lst (L.map λp=>.tup [sD (bY L p),sD p.1,sD p.2]))) (sU P1 P2 (LD L) BB NL o6 o7 none none):=by
 have ei:=KZ L Y' (δ:=sU P1 P2 (LD L) BB NL o6 o7 none none) rfl;have er:cI 0 L.length=(WM L.length).map λi:Nat=>D.int (i:Int):=#v[cI];rw[er]at ei;have ec:=cM (cs:=[6]) (it:=c9 (aC bB (aj 2))) (g:=ag [] 6) (t:=bz) (el:=dE) (λi:Nat=>D.int (i:Int)) (λi=>.tup [sD (bY L (L.getD i x0)),sD (L.getD i x0).1,sD (L.getD i x0).2]) ei V' λi hi=>by
  have hi:i<L.length:= ~~~hi;have x:=A8 i Y';have y:=AX L i x0 hi;have e:bY L (L.getD i x0)=97+i:=by have:L.getD i x0=L[i]:=#v[hi];rw[this,bY,KY nd hi]
  rw[e];refine⟨_,_,.pure (.tup [sD (97+i),sD (L.getD i x0).1,sD (L.getD i x0).2]),[pS P1,pS P2,pS (LD L),pS BB,pS (.str dY),pO NL,pS (.int i),o7,none,none,none],rfl,rfl,?_,rfl,rfl⟩;unfold sU;unfold kD at y;generalize LD L=LL,D.str dY=LT,D.int (i:Int)=ii,sD (97+i)=y1 at*;simp[bC,aG,ak,ay,ae,aO,ax,aj,x,y,kZ,S.d] (by cases o6 with|none=>rfl|some s=>obtain⟨z,e⟩:=h6 rfl;rw[e];rfl);rw[ec,zfa L x0];cases o6 with|none=>rfl|some s=>rfl
end
abbrev dS:DE:=dI (ae ao 0 (ah (eD (.int 0)))) de (cu (eD (.int 2)))
noncomputable abbrev dP(GP:DF):DS:=au (ck (aD (ax gb dS (ah (dI (ae ao 1 (ah (eD (.int 0)))) de (cu (eD (.int 2))))))) (bt (eD (.tup [.str [117,110,108,105,107,101],.aJ]))) cA) (au (aw (aA GP [.val (aa 0),.val (aa 1)]) (bV 2 (aQ (ag [] 2) (aQ (ag [] 3) cn)))) (au (ck (aD (ax d_ (aC bB (aj 2)) (ah (eD (.int 26))))) (bt (aG (ak (eD (.str [103,114,101,97,116])) (ak (aG (ak (aC bB (aj 2)) (ak (eD (.int 26)) ay))) ay)))) cA) (au (aw (eD (.str dY)) (ag [] 4)) (au (aw (cj ay) (ag [] 5)) (au (bM (c9 (aC bB (aj 2))) (ag [] 6) dB) (au (aw (aC cq (ah (bR [6] (c9 (aC bB (aj 2))) (ag [] 6) bz dE))) (ag [] 8)) (bt (aG (ak (eD (.str [116,111,108,100])) (ak (aG (ak (ax a7 dS (ah (aG (ak (aC cq (aj 5)) ay)))) (ak (eD (.str [97])) (ak (aa 8) ay)))) ay))))))))))
section
variable{GP:DF}{h:Nat}{bs:List (Nat×List Tx)}{s1 s2:D}
theorem qaq(ne:¬(h=h'/\w=w')):dP GP (aX 11 [.pure (.tup [aq h w bs,s1,q1]),.pure (.tup [aq h' w' cs,s2,q2])])=.ok (.ret (.pure (cY none))) (aX 11 [.pure (.tup [aq h w bs,s1,q1]),.pure (.tup [aq h' w' cs,s2,q2])]):=by have n:=vI h w h' w';rw[decide_eq_false ne]at n;have a:=gu h w bs;have b:=gu h' w' cs;unfold cY;generalize aq h w bs=r1,aq h' w' cs=r2,ij h w=z1,ij h' w'=z2 at*;simp[aX,au,ck,aD,ax,dI,de,cu,ae,aO,aj,gJ,a,b,n,S.d]
theorem K1(g:GP [.pure (.tup [aq h w bs,s1,q1]),.pure (.tup [aq h w cs,s2,q2])]=some (.pure (.tup [LD L,.lst (L.map (c_ bs cs))]),[.pure (.tup [aq h w bs,s1,q1]),.pure (.tup [aq h w cs,s2,q2])])){x:Rs Fl}{b:DS}(k:b [pS (.tup [aq h w bs,s1,q1]),pS (.tup [aq h w cs,s2,q2]),pS (LD L),pS (.lst (L.map (c_ bs cs))),none,none,none,none,none,none,none]=x):(au (ck (aD (ax gb dS (ah (dI (ae ao 1 (ah (eD (.int 0)))) de (cu (eD (.int 2))))))) (bt (eD (.tup [.str [117,110,108,105,107,101],.aJ]))) cA) (au (aw (aA GP [.val (aa 0),.val (aa 1)]) (bV 2 (aQ (ag [] 2) (aQ (ag [] 3) cn)))) b)) (aX 11 [.pure (.tup [aq h w bs,s1,q1]),.pure (.tup [aq h w cs,s2,q2])])=x:=by
 have n:=vI h w h w;rw[decide_eq_true ⟨rfl,rfl⟩]at n;have a:=gu h w bs;have b:=gu h w cs;generalize aq h w bs=r1,aq h w cs=r2,ij h w=z1,LD L=LL,D.lst (L.map (c_ bs cs))=BB at*;refine rA (rC (bF k ?_)) (δ1:=aX 11 [.pure (.tup [r1,s1,q1]),.pure (.tup [r2,s2,q2])]) ?_;.simp[aX,aw,aA,bI,aa,bo,bX,bD,aR,g,bV,aQ,cn,S.d]
 .simp[aX,aD,ax,dI,de,cu,ae,aO,aj,gJ,a,b,n,S.d]
theorem qar(g:GP [.pure (.tup [aq h w bs,s1,q1]),.pure (.tup [aq h w cs,s2,q2])]=some (.pure (.tup [LD L,.lst (L.map (c_ bs cs))]),[.pure (.tup [aq h w bs,s1,q1]),.pure (.tup [aq h w cs,s2,q2])]))(hl:26<L.length):dP GP (aX 11 [.pure (.tup [aq h w bs,s1,q1]),.pure (.tup [aq h w cs,s2,q2])])=.ok (.ret (.pure (cY (some (.inl L.length))))) [pS (.tup [aq h w bs,s1,q1]),pS (.tup [aq h w cs,s2,q2]),pS (LD L),pS (.lst (L.map (c_ bs cs))),none,none,none,none,none,none,none]:=by refine K1 g ?_;have a:=k_ L;have t:=vH L;rw[decide_eq_true hl]at t;show _=Rs.ok (Fl.ret (.pure (.tup [.str [103,114,101,97,116],.tup [.int (L.length:Int),.int 26]]))) _;generalize LD L=LL,(L.length:Int)=zl,D.lst (L.map (c_ bs cs))=BB,aq h w bs=r1,aq h w cs=r2,dB=E1,dE=E2 at*;simp[au,ck,aD,ax,aj,aG,ak,ay,a,t,S.d]
theorem qas(R:bc h w bs)(R':bc h w cs)(nd:L.Nodup)(x0:PP)(hL:∀t∈L,t∈ef bs cs)(hc:∀t∈L,∀p∈aZ bs cs t,p∈L)(g:GP [.pure (.tup [aq h w bs,s1,q1]),.pure (.tup [aq h w cs,s2,q2])]=some (.pure (.tup [LD L,.lst (L.map (c_ bs cs))]),[.pure (.tup [aq h w bs,s1,q1]),.pure (.tup [aq h w cs,s2,q2])]))(hl:L.length<=26):∃δ1,bj 0 [.pure (.tup [aq h w bs,s1,q1]),.pure (.tup [aq h w cs,s2,q2])] δ1=some [.pure (.tup [aq h w bs,s1,q1]),.pure (.tup [aq h w cs,s2,q2])]/\dP GP (aX 11 [.pure (.tup [aq h w bs,s1,q1]),.pure (.tup [aq h w cs,s2,q2])])=.ok (.ret (.pure (cY (some (.inr (r8 h w bs cs L)))))) δ1:=by
 have a:=k_ L;have t:=vH L;rw[decide_eq_false Y']at t;obtain⟨p6,p7,h6,e⟩:=K0 (P1:=.tup [aq h w bs,s1,q1]) (P2:=.tup [aq h w cs,s2,q2]) R R' nd hl hL hc L.length 0 [] none none Y' rfl λh=>nomatch h;rw[WQ,Ug]at e;have er:=KZ L Y' (δ:=sU (.tup [aq h w bs,s1,q1]) (.tup [aq h w cs,s2,q2]) (LD L) (.lst (L.map (c_ bs cs))) (.lst []) none none none none) rfl;have et:=qap (P1:=.tup [aq h w bs,s1,q1]) (P2:=.tup [aq h w cs,s2,q2]) nd hl x0 (.lst (L.map (c_ bs cs))) (.lst (L.map (NB bs cs L))) p6 p7 h6;have tt:cq (.lst (L.map λp=>D.tup [sD (bY L p),sD p.1,sD p.2]))=pS (kh L):=rfl;have s:=gu h w bs;refine⟨[pS (.tup [aq h w bs,s1,q1]),pS (.tup [aq h w cs,s2,q2]),pS (LD L),pS (.lst (L.map (c_ bs cs))),pS (.str dY),pO (.lst (L.map (NB bs cs L))),p6,p7,pS (kh L),none,none],rfl,K1 g ?_⟩;have ad:a7 (ij h w) (.tup [.tup (L.map (NB bs cs L))])=pS (.tup [.int h,.int w,.tup (L.map (NB bs cs L))]):=vw _ _ U';unfold cY r8;generalize aq h w bs=r1,aq h w cs=r2,LD L=LL,L.map (c_ bs cs)=BB,kh L=T3,L.map (NB bs cs L)=NL,D.int (h:Int)=H,D.int (w:Int)=W,(L.map λp=>D.tup [sD (bY L p),sD p.1,sD p.2])=TT,gn:ij h w=z1 at*;refine rA (rC (bF (δ1:=[pS (.tup [r1,s1,q1]),pS (.tup [r2,s2,q2]),pS LL,pS (.lst BB),pS (.str dY),none,none,none,none,none,none]) (bF (δ1:=sU (.tup [r1,s1,q1]) (.tup [r2,s2,q2]) LL (.lst BB) (.lst []) none none none none) (bF (bF (δ1:=[pS (.tup [r1,s1,q1]),pS (.tup [r2,s2,q2]),pS LL,pS (.lst BB),pS (.str dY),pO (.lst NL),p6,p7,pS T3,none,none]) ?_ ?_) ((iH er).trans e)) rfl) rfl)) (δ1:=[pS (.tup [r1,s1,q1]),pS (.tup [r2,s2,q2]),pS LL,pS (.lst BB),none,none,none,none,none,none,none]) ?_;.simp[aG,ak,ay,aa,aj,rD,ax,dI,de,cu,ae,aO,gJ,s,ad,S.d]
 .unfold aw;simp only[aC,ah,et];simp[tt,S.d]
 .simp[aD,ax,aj,a,t,S.d]
end
theorem qat{h s1 s2:Nat}{bs:List (Nat×List Tx)}(R:bc h w bs)(R':bc h' w' cs)(W:Wk (ef bs cs) (aZ bs cs) (s1,s2) n\/¬(h=h'/\w=w'))(q1 q2:D):md [.pure (.tup [aq h w bs,sD s1,q1]),.pure (.tup [aq h' w' cs,sD s2,q2])]=some (.pure (cY (ov h w bs s1 h' w' cs s2 n)),[.pure (.tup [aq h w bs,sD s1,q1]),.pure (.tup [aq h' w' cs,sD s2,q2])]):=by
 rw[md,HZ];unfold ov;split
 .rename_i e;obtain⟨rfl,rfl⟩:=e;have W:=W.resolve_right U';have g:=zew R R' W q1 q2;split;.rename_i hn;have:=qar g %[W.e|hn];rw[W.e]at this;exact Kf this
  .have hi:=(W.at (We n)).2;obtain⟨δ1,o,e⟩:=qas R R' (pk n) (s1,s2) hi W.mC g (by rw[W.e];lia);exact gR e rfl o
 .exact Kf (qaq ‹_›)
theorem vL{α:Type}{f:α->D}:∀l:List α,(∀x∈l,flat n (f x)=true)->eV n (l.map f)=true|[],_=>#v[eV]|x::l,h=>#v[eV,h x (.head _),vL l λy hy=>h y (.tail _ hy)]
theorem zfp(h w:Nat)(bs:List (Nat×List Tx))(s1 h' w':Nat)(cs:List (Nat×List Tx))(s2 n:Nat):flat 50 (cY (ov h w bs s1 h' w' cs s2 n))=true:=by
 unfold ov;split
 .split;.simp[cY,flat,eV]
  .have a:eV 46 ((bf (aZ bs cs) (s1,s2) n).map (NB bs cs (bf (aZ bs cs) (s1,s2) n)))=true:=vL _ λp _=>by have:eV 44 ((gr bs cs p).map λr=>D.str (r.map (bY (bf (aZ bs cs) (s1,s2) n))))=true:=vL _ λr _=>#v[flat];unfold NB;generalize((gr bs cs p).map λr=>D.str (r.map (bY (bf (aZ bs cs) (s1,s2) n))))=y at*;simp[flat,eV,this]
   have b:eV 47 ((bf (aZ bs cs) (s1,s2) n).map λp=>D.tup [sD (bY (bf (aZ bs cs) (s1,s2) n) p),sD p.1,sD p.2])=true:=vL _ λp _=>#v[flat,eV];unfold cY r8 kh;generalize(bf (aZ bs cs) (s1,s2) n).map (NB bs cs (bf (aZ bs cs) (s1,s2) n))=y1,((bf (aZ bs cs) (s1,s2) n).map λp=>D.tup [sD (bY (bf (aZ bs cs) (s1,s2) n) p),sD p.1,sD p.2])=y2 at*;simp[flat,eV,a,b]
 .simp[cY,flat,eV]
def Pa(d:D):Prop:=∃h w bs st q,d=.tup [aq h w bs,sD st,q]/\bc h w bs/\st∈bs.map (·.1)
theorem A_{ce:Tx->Nat}(hi:gK ce)(a:Pa A)(b:Pa B):∃o:Option (Nat ⊕ D),G__law_told ce [.pure A,.pure B]=some (.pure (cY o),[.pure A,.pure B])/\md [.pure A,.pure B]=some (.pure (cY o),[.pure A,.pure B])/\flat 50 (cY o)=true/\∀f,o=some (.inr f)->∃(i:Nat)(x y:D)(z:List D),f=.tup [.tup [.int i,x,y],sD 97,.tup z]:=by
 obtain⟨h,w,bs,s1,q1,rfl,R,m1⟩:=a;obtain⟨h',w',cs,s2,q2,rfl,R',m2⟩:=b;have:∃n,Wk (ef bs cs) (aZ bs cs) (s1,s2) n\/¬(h=h'/\w=w'):=by
  by_cases e:h=h'/\w=w';.obtain⟨rfl,rfl⟩:=e;obtain⟨n,W⟩:=qag R R' m1 m2;exact⟨n,.inl W⟩
  .exact⟨0,.inr e⟩
 obtain⟨n,W⟩:=this;refine⟨_,zgy hi R R' W q1 q2,qat R R' W q1 q2,zfp _ _ _ _ _ _ _ _ _,λf e=>?_⟩;unfold ov at e;split at e
 .split at e;.cases e
  .cases e;exact⟨h,_,_,_,rfl⟩
 .cases e
abbrev sY(cw c pd A B:D)(o5 o6 o7:Option S):Dl:=[pS cw,pS c,pO pd,pS A,pS B,o5,o6,o7]
abbrev vB(GT GU GW:DF):DS:=au (aw (aA GT [.val (aa 5),.val (aa 6)]) (ag [] 7)) (au (ck (aD (ae gb 7 (ah (aA GU [.val (aa 5),.val (aa 6)])))) (bt (eD (.bl false))) cA) (ck (f_ (aD (ax kE (ae ao 7 (ah (eD (.int 0)))) (ah (eD (.str [116,111,108,100]))))) (kC (f_ (aD (aA GW [.val (ax ao (ax ao (ae ao 7 (ah (eD (.int 1)))) (ah (eD (.int 0)))) (ah (eD (.int 0))))])) (aD (jO "tuple" (ah (ax ao (ae ao 7 (ah (eD (.int 1)))) (ah (eD (.int 2)))))))))) (bt (eD (.bl false))) cA))
theorem Ba{GW:DF}{U V:D}(g1:GT [.pure U,.pure V]=some (.pure (cY o),[.pure U,.pure V]))(g2:GU [.pure U,.pure V]=some (.pure (cY o),[.pure U,.pure V]))(hf:flat 50 (cY o)=true)(hs:∀f,o=some (.inr f)->∃(i:Nat)(x y:D)(z:List D),f=.tup [.tup [.int i,x,y],sD 97,.tup z])(gw:∀n:Int,GW [.pure (.int n)]=some (.pure (.bl true),[.pure (.int n)]))(cw c pd A B:D)(o7:Option S):vB GT GU GW (sY cw c pd A B (pS U) (pS V) o7)=.ok .next (sY cw c pd A B (pS U) (pS V) (pS (cY o))):=by
 have ne:gb (cY o) (cY o)=pS (.bl false):=by unfold gb;rw[hf,tG hf];rfl
 refine bF (δ1:=sY cw c pd A B (pS U) (pS V) (pS (cY o))) (rA (rC ?_) (δ1:=sY cw c pd A B (pS U) (pS V) (pS (cY o))) ?_) ?_
 .rcases o with _|n|f;.simp[cY,aD,f_,ax,ae,aO,aj,kZ,kE,flat,aW,S.d]
  .simp[cY,aD,f_,ax,ae,aO,aj,kZ,kE,flat,aW,S.d]
  .obtain⟨i,x,y,z,rfl⟩:=hs f rfl;have it:qo "tuple" (.tup z)=some true:=rfl;simp[cY,aD,f_,kC,ax,ae,aO,aj,kZ,gJ,kE,flat,aW,aA,bI,bo,bX,bD,aR,gw,jO,it,S.d]
 .generalize cY o=T at*;simp[aD,ae,aO,aj,aA,bI,aa,bo,bX,bD,aR,g2,ne,S.d]
 .generalize cY o=T at*;simp[aw,aA,bI,aa,bo,bX,bD,aR,g1,S.d]
theorem qau{ce:Tx->Nat}(hi:gK ce)(a:Pa A)(b:Pa B)(cw c pd:D)(o5 o6 o7:Option S):∃p5 p6 p7,bM (aS (cj (ak (aG (ak (aa 3) (ak (aa 4) ay))) (ak (aG (ak (aa 4) (ak (aa 3) ay))) (ak (aG (ak (aa 3) (ak (aa 3) ay))) ay))))) (bV 2 (aQ (ag [] 5) (aQ (ag [] 6) cn))) (vB (G__law_told ce) md kb) (sY cw c pd A B o5 o6 o7)=.ok .next (sY cw c pd A B p5 p6 p7):=by have ei:aS (cj (ak (aG (ak (aa 3) (ak (aa 4) ay))) (ak (aG (ak (aa 4) (ak (aa 3) ay))) (ak (aG (ak (aa 3) (ak (aa 3) ay))) ay)))) (sY cw c pd A B o5 o6 o7)=.ok [.tup [A,B],.tup [B,A],.tup [A,A]] (sY cw c pd A B o5 o6 o7):=rfl;obtain⟨x1,a1,a2,a3,a4⟩:=A_ hi a b;obtain⟨x2,b1,b2,b3,b4⟩:=A_ hi b a;obtain⟨x3,c1,c2,c3,c4⟩:=A_ hi a a;refine⟨pS A,pS A,pS (cY x3),?_⟩;rw[iH ei,kg (δ1:=sY cw c pd A B (pS A) (pS B) o7) rfl (Ba a1 a2 a3 a4 vJ cw c pd A B o7),kg (δ1:=sY cw c pd A B (pS B) (pS A) _) rfl (Ba b1 b2 b3 b4 vJ cw c pd A B _),kg (δ1:=sY cw c pd A B (pS A) (pS A) _) rfl (Ba c1 c2 c3 c4 vJ cw c pd A B _)];rfl
abbrev vD(GB GD:DF)(i:Nat):DS:=aw (aA GB [.io 2,.val (ax ao (kK [.int 3,.int 6]) (ah (aA GD [.io 2,.val (eD (.int 2))])))]) (ag [] i)
abbrev vZ(GD GZ:DF):DS:=ck (aD (ax d_ (aA GD [.io 2,.val (eD (.int 8))]) (ah (eD (.int 0))))) (aw (aG (ak (aA GZ [.val (ae ao 4 (ah (eD (.int 0)))),.val (ax ao (ae ao 3 (ah (eD (.int 0)))) (ah (eD (.int 0)))),.val (ax ao (ae ao 3 (ah (eD (.int 0)))) (ah (eD (.int 1))))]) (ak (ae ao 4 (ah (eD (.int 1)))) (ak (ae ao 4 (ah (eD (.int 2)))) ay)))) (ag [] 4)) cA
theorem K2{GB:DF}{d1 d2:D}{r:Nat}{m:Int}(g1:GD [.own pd,.pure (.int 2)]=some (.pure (.int r),[.own d1,.pure (.int 2)]))(hm:ao (.lst [.int 3,.int 6]) (.int r)=pS (.int m))(g2:GB [.own d1,.pure (.int m)]=some (.pure A,[.own d2,.pure (.int m)]))(cw c:D)(o4 o5 o6 o7:Option S):(∀o3,vD GB GD 3 [pS cw,pS c,pO pd,o3,o4,o5,o6,o7]=.ok .next [pS cw,pS c,pO d2,pS A,o4,o5,o6,o7])/\∀o3,vD GB GD 4 [pS cw,pS c,pO pd,o3,o4,o5,o6,o7]=.ok .next [pS cw,pS c,pO d2,o3,pS A,o5,o6,o7]:=by constructor<;>intro o3<;>simp[aw,aA,bo,bX,bH,bI,bD,aR,ax,kK,g1,hm,g2,S.d]
theorem K3(hp:a_ pd):∃(r:Nat)(m:Int)(d1 d2 A:D),cF [.own pd,.pure (.int 2)]=some (.pure (.int r),[.own d1,.pure (.int 2)])/\ao (.lst [.int 3,.int 6]) (.int r)=pS (.int m)/\ka [.own d1,.pure (.int m)]=some (.pure A,[.own d2,.pure (.int m)])/\a_ d2/\Pa A:=by
 obtain⟨r,d1,e1,hr,p1⟩:=ke hp 2 2 rfl Z' Z';have go:∀m:Nat,0<m->m<=6->ao (.lst [.int 3,.int 6]) (.int r)=pS (.int (m:Int))->∃(r:Nat)(m:Int)(d1 d2 A:D),cF [.own pd,.pure (.int 2)]=some (.pure (.int r),[.own d1,.pure (.int 2)])/\ao (.lst [.int 3,.int 6]) (.int r)=pS (.int m)/\ka [.own d1,.pure (.int m)]=some (.pure A,[.own d2,.pure (.int m)])/\a_ d2/\Pa A:=λm h0 h6 e=>by obtain⟨h,w,bs,st,ps,bb,e2,R,_,p2,hm⟩:=ZM p1 m h0 h6;exact⟨r,m,d1,bb,_,e1,e,e2,p2,h,w,bs,st,_,rfl,R,hm⟩
 rcases show r=0\/r=1 by lia with rfl|rfl;.exact go 3 Z' Z' rfl
 .exact go 6 Z' Z' rfl
theorem qav(a:Pa A)(b:Pa B)(hp:a_ pd)(cw c:D)(o5 o6 o7:Option S):∃d B',Pa B'/\vZ cF k7 (sY cw c pd A B o5 o6 o7)=.ok .next (sY cw c d A B' o5 o6 o7):=by
 obtain⟨r,d1,e1,hr,p1⟩:=ke hp 8 8 rfl Z' Z';obtain⟨h,w,bs,s1,q1,rfl,R,m1⟩:=a;obtain⟨h',w',cs,s2,q2,rfl,R',m2⟩:=b;by_cases h0:0<r
 .have g:d_ (.int r) (.int 0)=pS (.bl true):=by simp[d_,cz];lia
  have z:=zev R' R.h1 R.w1;obtain⟨S1,S2⟩:=qah R' R.h0 R.h1 R.w0 R.w1;refine⟨d1,.tup [aq h w (cs.map (gD h w)),sD s2,q2],⟨h,w,_,s2,q2,rfl,S1,%[S2|m2]⟩,?_⟩;have i1:=me h w bs;generalize aq h w bs=r1,aq h' w' cs=r2,aq h w (cs.map (gD h w))=r3,D.int (h:Int)=H,D.int (w:Int)=W,cF=GD,k7=GZ at*;simp[vZ,ck,aD,aw,aG,ak,ay,aA,bo,bX,bH,bI,bD,aR,ax,ae,aO,aj,gJ,e1,g,i1,z,S.d]
 .have g:d_ (.int r) (.int 0)=pS (.bl false):=by simp[d_,cz];lia
  refine⟨d1,_,⟨h',w',cs,s2,q2,rfl,R',m2⟩,?_⟩;generalize aq h w bs=r1,aq h' w' cs=r2,cF=GD,k7=GZ at*;simp[vZ,ck,aD,aA,bo,bX,bH,bI,bD,aR,ax,e1,g,S.d]
noncomputable abbrev vT(ce:Tx->Nat):DS:=au (aw (aA ny [.val (aa 1)]) (ag [] 2)) (au (vD ka cF 3) (au (vD ka cF 4) (au (vZ cF k7) (bM (aS (cj (ak (aG (ak (aa 3) (ak (aa 4) ay))) (ak (aG (ak (aa 4) (ak (aa 3) ay))) (ak (aG (ak (aa 3) (ak (aa 3) ay))) ay))))) (bV 2 (aQ (ag [] 5) (aQ (ag [] 6) cn))) (vB (G__law_told ce) md kb)))))
theorem turn{ce:Tx->Nat}(hi:gK ce)(cw:D)(k:Int)(o2 o3 o4 o5 o6 o7:Option S):∃p2 p3 p4 p5 p6 p7,vT ce [pS cw,pS (.int k),o2,o3,o4,o5,o6,o7]=.ok .next [pS cw,pS (.int k),p2,p3,p4,p5,p6,p7]:=by obtain⟨pd,e0,p0⟩:=Y2 k;obtain⟨r,m,d1,d2,A,a1,a2,a3,p2,a⟩:=K3 p0;obtain⟨r',m',d3,d4,B,b1,b2,b3,p4,b⟩:=K3 p2;obtain⟨d5,B',b',z⟩:=qav a b p4 cw (.int k) o5 o6 o7;obtain⟨p5,p6,p7,f⟩:=qau hi a b' cw (.int k) d5 o5 o6 o7;refine⟨_,_,_,p5,p6,p7,bF (δ1:=[pS cw,pS (.int k),pO pd,o3,o4,o5,o6,o7]) (bF (bF (bF f z) ((K2 b1 b2 b3 cw (.int k) o4 o5 o6 o7).2 (pS A))) ((K2 a1 a2 a3 cw (.int k) o4 o5 o6 o7).1 o3)) ?_⟩;generalize ny=GP,D.int k=kk at*;simp[aw,aA,bo,bX,bI,aa,bD,e0,aR,S.d]
theorem qaw(GC:DF)(B:DS)(cw:D)(cs:List D)(cl c0:D)(e0:GC [.pure cw,.pure (.int 0)]=some (.pure c0,[.pure cw,.pure (.int 0)]))(hs:eJ (some 1) (some 4) cw=pO cl)(ha:a7 (.lst [c0]) cl=pO (.lst cs))(e:forL (ag [] 1) B cs [pS cw,none,none,none,none,none,none,none]=.ok .next δ1):(au (bM (aS (ax a7 (cj (ak (aA GC [.val (aa 0),.val (eD (.int 0))]) ay)) (ah (fM 0 (cu (eD (.int 1))) (cu (eD (.int 4))))))) (ag [] 1) B) (bt (eD (.bl true)))) [pS cw,none,none,none,none,none,none,none]=.ok (.ret (.pure (.bl true))) δ1:=by refine bF rfl ((iH (δ1:=[pS cw,none,none,none,none,none,none,none]) (ds:=cs) ?_).trans e);simp[fj,ax,aA,bo,bX,bI,aa,aj,bD,e0,aR,fM,cu,hs,ha,S.d]
theorem zex{ce:Tx->Nat}(hi:gK ce)(ns:List Int)(hn:ns.length<=63):G_law ce [.pure (.lst (ns.map .int))]=some (.pure (.bl true),[.pure (.lst (ns.map .int))]):=by
 obtain⟨c0,e0⟩:=Y3 ns;have qax:∀(ns:List Int)(lo hi:Option Int),cD (ns.map D.int) lo hi=(cD ns lo hi).map D.int:=λns lo hi=>by unfold cD;simp[Um,List.map_drop]
 have ha:a7 (.lst [.int c0]) (.lst (cD (ns.map .int) (some 1) (some 4)))=pO (.lst ((c0::cD ns (some 1) (some 4)).map .int)):=by
  rw[qax];have hl:(cD ns (some 1) (some 4)).length<=63:=by unfold cD;simp;lia
  simp only[a7];rw[if_pos (by rw[cT];simp;lia)];simp
 have hs:eJ (some 1) (some 4) (.lst (ns.map .int))=pO (.lst (cD (ns.map .int) (some 1) (some 4))):=rfl;generalize D.lst (ns.map .int)=cw at*;obtain⟨δ',e,o1,o2,o3,o4,o5,o6,o7,rfl⟩:=jW (g:=ag [] 1) (b:=vT ce) (λ_ δ=>∃o1 o2 o3 o4 o5 o6 o7,δ=[pS cw,o1,o2,o3,o4,o5,o6,o7]) ((c0::cD ns (some 1) (some 4)).map .int) 0 [pS cw,none,none,none,none,none,none,none] ⟨_,_,_,_,_,_,_,rfl⟩ λi d δ hd hh=>by obtain⟨o1,o2,o3,o4,o5,o6,o7,e⟩:=hh;subst e;simp only[Wu,Ww]at hd;obtain⟨k,_,rfl⟩:=hd;obtain⟨q2,q3,q4,q5,q6,q7,e⟩:=turn hi cw k o2 o3 o4 o5 o6 o7;exact⟨_,_,rfl,e,_,_,_,_,_,_,_,rfl⟩
 rw[G_law,b_law];exact ZN (qaw oY _ cw _ _ _ e0 hs ha e)
def Gt:DF:=λss=>match ss with
 |[.pure (.lst ds)]=>match jR ds with|some ns=>if ns.length<=63 then some (.pure (.bl true),ss)else none|none=>none
 |_=>none
theorem qay(ns:List Int)(h:ns.length<=63):∃aH,Gt [.pure (.lst (ns.map .int))]=some (.pure (.bl true),aH):=by unfold Gt;simp only[Lake.ints_map,h,if_true];exact⟨_,rfl⟩
theorem K4:∀{ds:List D}{ns:List Int},jR ds=some ns->ds=ns.map .int|[],ns,h=>by simp[jR]at h;subst h;rfl|d::r,ns,h=>by cases d with
 |int i=>simp only[jR]at h;cases e:jR r with|none=>rw[e]at h;cases h|some m=>rw[e]at h;cases h;rw[K4 e];rfl
 |_=>simp[jR]at h
theorem qaz:∀ce,gK ce->∀ss y,Gt ss=some y->G_law ce ss=some y:=by
 intro ce hj ss y h;unfold Gt at h;split at h;.rename_i ds;cases hi:jR ds with|none=>rw[hi]at h;cases h|some ns=>
   rw[hi]at h;by_cases hn:ns.length<=63;.simp only[hn,if_true]at h;cases h;have e:=K4 hi;subst e;exact zex hj ns hn
   .simp only[hn,if_false]at h;cases h
 .cases h
end Lake.K68
open PySem PySem.W PyProof.Rows
namespace PySem.W.Fast
def tw2128192130365628170:=0
def tw8113568313985347771:=0
def tw10323638359647924722:=0
def tw17775483329958404082:=0
def tw11921250188922572044:=0
def tw12500438546169098138:=0
def tw18369041483673998273:=0
def tw11057395782932885761:=0
def tw17907715353544357068:=0
def tw13986773785987720807:=0
def tw5414172889914242959:=0
def tw10272486374400488323:=0
def tw10670233795913461698:=0
def tw2252358110514053478:=0
def tw12920699601310848849:=0
def tw2197324724770938315:=0
def tw2124752136824834251:=0
def tw8094352720334341869:=0
def tw9998863720466747074:=0
def tw9811744927885363074:=0
def tw16905962681130136694:=0
def tw11862588898582647234:=0
def tw16872189666353884612:=0
def tw9371036212847048460:=0
def tw80314942430590483:=0
def tw790652240848849051:=0
def tw17512452565606104817:=0
def tw2052123238244607784:=0
def tw10740737648103851002:=0
def tw1832229893218071282:=0
def tw10697505074478074270:=0
def tw759845607727275567:=0
def tw6951388307606077190:=0
def tw10213755611765076462:=0
def tw394478954100302445:=0
def tw7268504779576059602:=0
def tw9510175652198246541:=0
def tw8365613127112443271:=0
def tw4495791483258324534:=0
def tw14189984442626599942:=0
def tw6085951780967733443:=0
def tw3116515712279802998:=0
def tw6237388403896955293:=0
def tw10433219100882076987:=0
def tw7514926675501056584:=0
def tw3781670273354779799:=0
def tw6045724491240389493:=0
def tw13692066166006510235:=0
def tw6132919697784548087:=0
def tw13919502653748717633:=0
def tw6258308454545800587:=0
def tw13324966441575491969:=0
def tw1770617674598956804:=0
def tw256013366475077664:=0
def tw2364234915816427133:=0
def tw3253391523386367658:=0
def tw6608799047805796391:=0
def tw14555523467021984808:=0
def tw6951268717316706683:=0
def tw9820889515666542465:=0
def tw18405450156483033355:=0
def tw7119558676375493314:=0
def tw17628863287782024670:=0
def tw8708144092383362799:=0
def tw1393894158035086421:=0
def tw10779272536463665681:=0
def tw17780220537005697071:=0
def tw9527558456133580230:=0
def tw6299603346065173618:=0
def tw14633104907879820147:=0
def tw1274517570213583665:=0
def tw16315280303549539048:=0
def tw3687840041572793625:=0
def tw391261204538368035:=0
def tw10756178826619996490:=0
def tw14882262931508096269:=0
def tw11671038207249634516:=0
def tw8241080719094074503:=0
def tw17519064562099065536:=0
def tw14660147994790962161:=0
def tw1001162142140097688:=0
def tw2886459532827144047:=0
def tw11971591056816009293:=0
def tw1349654125723801579:=0
def tw1734524314382837480:=0
def tw1772241469098607918:=0
def tw10537641201270840738:=0
def tw7937707493774124651:=0
def tw13003627191760001346:=0
def tw8739930624292625186:=0
def tw17766008646923275602:=0
def tw11726614398780665466:=0
def tw10489293956806563770:=0
def tw2625126485580291540:=0
def tw17170176634425695193:=0
def tw5737573581601454172:=0
def tw14079733199426904109:=0
def tw14356767119533269117:=0
def tw35257845957905221:=0
def tw16326980187168093008:=0
def tw5619878547138009715:=0
def tw9320371353053578109:=0
def tw17659453209994436301:=0
def tw18157826603382329342:=0
def tw10603923055800498334:=0
def tw7083815498513637316:=0
def tw18006884662238074548:=0
def tw4631062883741471560:=0
def tw18157680068214822757:=0
def tw5683190212641715529:=0
def tw4342135544954716700:=0
def tw11164328713016223152:=0
def tw14581331949276889741:=0
def tw1999013491271327382:=0
def tw8250728961522223426:=0
def tw3990221616003160330:=0
def tw15117403241240146540:=0
def tw17126053864146643569:=0
def tw7357412535863201337:=0
def tw10595676143478102005:=0
def tw13574645623331040870:=0
def tw13426708389919824857:=0
def tw15608469993725412013:=0
def tw6203249663131634283:=0
def tw7068935538378364910:=0
def tw32346505532906011:=0
def tw10463486501260927052:=0
def tw262644633577956630:=0
def tw10663128248782972627:=0
def tw9237472798938603125:=0
def tw18035919594274620019:=0
def tw13212442418883775624:=0
def tw1093867189294993817:=0
def tw2725472241638644346:=0
def tw3929989576852714464:=0
def tw14253302814064499591:=0
def tw14013771539125031052:=0
def tw6905924095332746471:=0
def tw457345035526946640:=0
def tw7213914426427070824:=0
def tw4679367812994224554:=0
def tw11141093625873276270:=0
def tw16937152876013595660:=0
def tw5694966757533935743:=0
def tw3294788389181554571:=0
def tw11156438325472931831:=0
def tw14569071784327419723:=0
def tw9886134853900032440:=0
def tw1778636894955527281:=0
def tw15823200568480355115:=0
def tw14598960012051353069:=0
def tw9143365100149845068:=0
def tw16216669358589797765:=0
def tw6689940896676358725:=0
def tw8092601824577217362:=0
def tw60155718052435241:=0
def tw9893668873914951857:=0
def tw1777457863571749676:=0
def tw13014795109364629307:=0
def tw5200977535369064397:=0
def tw12952076955197527730:=0
def tw14309091839415843747:=0
def tw12632909051136912972:=0
def tw12353265893417275956:=0
def tw9288373013639371974:=0
def tw3302801913582178989:=0
def tw17351654198666713798:=0
def tw5570951554340473370:=0
def tw5359214849026093335:=0
def tw4063635309102326518:=0
def tw7174415624750884732:=0
def tw4567552014335029685:=0
def tw14560359236932417297:=0
def tw16295845966443278570:=0
def tw16715645321807008178:=0
def tw9272973529296905522:=0
def tw4669530821263939954:=0
def tw4299094356227858480:=0
def tw3857995506133054499:=0
def tw9844318816391538867:=0
def tw3072230449810817307:=0
def tw15970335478637444823:=0
def tw14104351214351856225:=0
def tw6995406495799661215:=0
def tw9839538428477499461:=0
def tw12397457366628843650:=0
def tw1066311337333511178:=0
def tw1587743829830724080:=0
def tw13442031764165655084:=0
def tw10443530768537208891:=0
def tw16892600232572758327:=0
def tw14882829154598220678:=0
def tw8332600444736345462:=0
def tw1747774919620473299:=0
def tw9652983888778582669:=0
def tw2325308813249528042:=0
def tw9304355857884572030:=0
def tw6128938335011977879:=0
def tw4772331828902888826:=0
def tw11267176855175795025:=0
def tw8794349433550044843:=0
def tw9904850576762956927:=0
def tw16208082398738520697:=0
def tw12239923182793545871:=0
def tw8523510751908796588:=0
def tw11353760938770046348:=0
def tw10997080463987453182:=0
def tw4878016288868673683:=0
def tw7974529365465654738:=0
def tw8698811224853554022:=0
def tw8546516674912432768:=0
def tw7098698428411640824:=0
def tw201356694430313987:=0
def tw16851097625950309004:=0
def tw10940102216038181390:=0
def tw7326663298616960546:=0
def tw2204770475199246241:=0
def tw15600781462951403953:=0
def tw10333901986914033212:=0
def tw10365064681697317679:=0
def tw7254196163976957271:=0
def tw6860419967234991059:=0
def tw505253658132366540:=0
def tw16187779158318933720:=0
def tw7265804447246136249:=0
def tw1099123982179899312:=0
def tw3773024886918896272:=0
def tw2782831971458246630:=0
def tw1232203341732838795:=0
def tw2239066844593963148:=0
def tw4701709667117740650:=0
def tw1751263035154348582:=0
def tw10516748791714563285:=0
def tw3540302912530761859:=0
def tw10722419413740755857:=0
def tw17508228629016649584:=0
def tw1365486140812652111:=0
def tw10386421323672078098:=0
def tw2845870560350255268:=0
def tw7790884598700797622:=0
def tw12901746750032796475:=0
def tw9757521566596807987:=0
def tw17365080525866980352:=0
def tw15052630179547281821:=0
def tw4965642004651996500:=0
def tw858643988050294951:=0
def tw14278149269020646135:=0
def tw9442643909842694731:=0
def tw2320101874961382618:=0
def tw16261617008609403363:=0
def tw13976034950304416470:=0
def tw4940731177480815815:=0
def tw283390394160630131:=0
def tw11470034540983382896:=0
def tw3527846916928828163:=0
def tw9902687354869794490:=0
def tw4621129615095487602:=0
def tw16113496296680496306:=0
def tw11378778261058628691:=0
def tw9343019559446331167:=0
def tw5500647404514096403:=0
def tw8487371265382267876:=0
def tw6779554203660082827:=0
def tw1962472926085452698:=0
def tw13615298610810829009:=0
def tw2184634419458505678:=0
end PySem.W.Fast
set_option maxRecDepth 100000 in
set_option maxHeartbeats 0 in
theorem PySem.Challenge.cw_tilegrow_k68_laid_over_one_another_holds : PySem.Challenge.rw_tilegrow_k68_laid_over_one_another.Holds := by
 w_on; o_law; k_head; (case hw=>w_witness2)
 k_fill
 refine Lake.UZ (l:=PySem.Challenge.rw_tilegrow_k68_laid_over_one_another) (k:=6) (G:=Lake.K68.Gt) (tpos:=Lake.K68.l8) (tq:=Lake.K68.j_) rfl rfl ⟨rfl,Z',Z'⟩ (λw h Y=>⟨PySem.W.km_in_of Y,PySem.W.km_tabs_of Y _ Wt⟩) ?L ?KT Lake.K68.qay ?F
 case L=>intro p; exact Eq.refl true
 case KT=>intro p; exact Eq.refl none
 case F =>
  intro w mg fa h KX G my;refine' Lake.K68.all_mk Lake.K68.qaz KX G my ?d0 ?d1 ?d2 ?d3 ?d4 ?d5 ?d6 ?d7 ?d8 ?d9 ?yT ?yU ?yV ?yW ?yX ?yY ?yZ ?y0 ?y6 ?y8 ?y9 ?y_ ?vb ?za ?zb ?dT ?gT ?zc ?vc ?zd ?ze ?zf ?zg ?zh ?zi ?zj ?rF ?rG ?oU ?oV ?gp ?rH ?rJ ?rK ?rL ?oW ?oX ?nu ?rM ?rN ?zk ?zm ?zo ?zq ?zr ?vd ?zt ?zu ?zv ?ve ?II ?zw ?zx ?zy ?zA ?zB ?zD ?vf ?vg ?vh ?zE ?zF ?zG ?zH ?vi ?vj ?zI ?zJ ?zK ?zM ?zN ?i7 ?zO ?zP ?zQ ?vk ?zS ?zT ?zU ?zV ?vm ?zW ?zX ?zY ?rX ?zZ ?z0 ?z8 ?z9 ?z_ ?Aa ?i8 ?Ab ?Ac ?Ad ?vn ?Ae ?Af ?Ag ?Ah ?rY ?Ai ?Aj ?Al ?vo ?Am
  (case d0|d1|d2|d3|d4|d5|d6|d7|d8|d9|yT|yU|yV|yW|yX|yY|yZ|y0|y6|y8|y9|zc|vc|zd|ze|zf=>exact⟨_,_,_,_,_,_,_,_,_,_,by k_is,by k_is,by k_is,by k_is⟩)
  (case y_|vb|za|zb|zg|zh|zi|zj|rF|rG|oU|oV|gp|rH|rJ|rK|rL|oW|oX|nu|rM|rN|zk|zm|zo|zq|zr|vd|zt|zu|zv|ve|II|zw|zx|zy|zB|zD|vf|vh|zE|zF|vi|vj|zI|zJ|zK|zM|zN|i7|zP|zQ|vk|zZ|z0|z8|z9|z_|Aa|i8|Ac|Ad|vn|Am=>k_is)
  (case dT|gT|zA|vg|zG|zH=>kernel_rfl)
  (case zO|zS|zT|zU|zV|vm|zW|zX|zY|rX|Ab|Ae|Af|Ag|Ah|rY|Ai|Aj|Al|vo=>kit_is)
