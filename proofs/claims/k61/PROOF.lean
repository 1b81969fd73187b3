import PyProof.Rows.All
import Wide.All
import OpenK.AllK
import Lean
import PyProof.FactsAll.zip
import PySem.Challenge.RW_tilegrow_k61_papers_that_they_are_alike
noncomputable section
set_option compiler.extract_closed false
open PySem renaming wpAny_bind→W0,Shared→W2,wpAny_pure→W4,wpAny→W8,starEach→W9,sizeLine→Wb,Spec→Wg,Program→Wn,mainGlobals→Wo,Around→Wp,World→Ws,mem_of_lookup→Wz,compareOp→WA,wpAny_holding→WC,wpAny_field→WK,cLine→WL,FuncData→WR,wpAny_call_entry→WS,rawInt→WW,sizeLine_eq→WZ,wpAny_callSpecial?_slot→Q0,backTo→Q3,wpAny_mono→Q9,wpAny_newObj_type→Qg,wpAny_truthy_bool→Qk,wpAny_seqItems→Qn,assignEach→Qo,sysModules→Qt,bootBuiltins→Qw,cellsFrom→Qy,wpAny_setField_rec→QB,wpAny_rule→QC,pyNext→QE,binaryOp→QJ,wpAny_Call_Name_kw→QM,codeAny→QR,wpAny_typeNameOfWhole_keyiter→QT,wpAny_typeOf→J5,wpAny_passesOwn→Jb,foldedSetIterable→Jj,strIterType→Jn,wpAny_setField→Jp,plainId_quiet→JA,swapsWith→JB,letOwnedTupleGo→JC,wpAny_pyIter_list→JG,wpAny_dictEntries→JH,codeAny_mono→JI,builtinLookup_eq_fast→JL,wpAny_notOrdered_dict→JM,behindInMarks→JR,attributeBase→JS,keywordEach→JT,sliceBounds→JU,wpAny_execs_nil→JX,wpAny_loadPart'→JY,codeAny_builtin→U1,pushCells→U4,noteFrame→U5,wpAny_pyIter_tuple→U7,getattributeRaised→U8,Addr→Ua,wpAny_loadPart_at→Ub
open PySem.W renaming Frag→W3,mg_none_of→WY,fnOf→Q7,kia_one→Qh,keepIn→Qm,kitOne→QL,kas_place→QS,cellsFrom_some→QZ,kas_descPart→J9,kas_rev→Je,kas_desc→Jh,codeHdIn→Js,envX→JN,kas_asc→JV,kla_obj→U2,callWith_K→U3,kas_count→U9
open PySem.Heap renaming get?_push_of_some→W5,get?_push_size→Wf,lt_size→Wh,get?_update_other→WX,get?_update_self→Qb,size_push→QV,SameBut→J4
open List renaming getElem?_eq_some_iff→W6,getElem?_eq_getElem→W7,length_map→Wa,getElem?_set_ne→Wd,mem_cons_of_mem→Wi,getElem?_map→Wj,mem_cons_self→Wl,map_cons→Wm,size_toArray→Wr,mem_cons→Wt,getElem?_set_self→Wv,replicate→Ww,mem_of_getElem?→Wx,all_eq_true→WF,mem_map→WH,range→WI,map_append→WO,getElem?_eq_none→WQ,length_cons→WT,append_nil→WU,map_map→WV,find?_cons→Q2,getElem?_set→Q4,length_append→Q6,mem_append_right→Qa,mem_append→Qe,length→Qf,mem_map_of_mem→Qj,pairwise_map→Ql,lookup_cons→Qp,any_cons→Qr,getElem?_append_left→Qu,nil_append→Qv,getElem_mem→QK,mem_singleton→QN,drop_eq_getElem_cons→QO,length_set→QQ,zip_cons_cons→Ja,of_mem_zip→Jc,getD_eq_getElem?_getD→Ji,length_range→Jk,append_assoc→Jl,length_take→Jq,toArray→Jt,map_congr_left→Ju,nodup_cons→JD,forIn_cons→JE,ext_getElem?→JF,forIn_nil→JJ,all_map→JK,mem_append_left→JP,mem_iff_getElem→JQ,length_nil→JZ,foldl_cons→U0,all_cons→Uc,any_eq_true→Ud,any_map→Uf
open Nat renaming le_refl→Wc,le_trans→Wy,lt_of_lt_of_le→WB,ne_of_lt→WG,zero_le→Q5,lt_irrefl→Qd,ne_of_gt→Qq,lt_of_le_of_lt→QA,mul_le_mul→QD,pow_one→QI,le_add_right→QY,le_of_lt→J0,pow_two→Jo,zero_add→U6,sub_zero→Ue,succ_mul→Ug,min_eq_left→Uh
open Option.some renaming injEq→We,inj→WD
open Bool renaming and_eq_true→Wq,false_ne_true→WN,false_eq_true→Q8,eq_iff_iff→Qi,not_false→QW,not_true→Jz
open Option renaming bind_some→Wu,map_some→WE,map_eq_some_iff→Qc,isSome_iff_exists→Qz,bind_eq_some_iff→Jy
open PySem.Builtin.SmallTypes renaming nextOf→WJ,ownedTupleIsFree→WP
open PyProof.Rows renaming seqObj→WM,envOfC→Qx,callWith_type1→QG,slot_tuple_getitem→QP
open Array renaming length_toList→Qs,getElem?_eq_some_iff→Jg,getElem?_toList→JO
open Int renaming toNat_natCast→QF
open PySem.Builtin.Str renaming strSliceIndices→QH
open PySem.Heap.SameBut renaming update→QU
open PySem.F renaming slot_dict_keyiterator_next→QX,slot_tuple_iterator_next→Jf,plainAttrs_list→Jv,slot_list_index→Jx,plain_extend_loop→JW
open PySem.Builtin.Slice renaming slicePlaces→Jm
open PySem.Builtin.Tuple renaming tupleExact→Jr
open PySem.Builtin.Dict renaming updateFrom→Jw
set_option Elab.async false
set_option linter.all false
set_option tactic.hygienic false
set_option maxRecDepth 100000
set_option maxHeartbeats 4000000
theorem Y'{p:Prop}(h:p:=by lia):p:=h
theorem Z'{p:Prop}(h:p:=by decide):p:=h
theorem U'{p:Prop}(h:p:=by simp):p:=h
theorem V'{p:Prop}(h:p:=by simp;lia):p:=h
theorem Re{p:Prop}(h:p:=by simp at hl⊢;lia):p:=h
theorem P3{p:Prop}(h:p:=by decide+kernel):p:=h
local macro_rules|`(~~~$x)=>`(by simpa using$x)
local macro_rules|`(#v[$xs,*])=>`(by simp[$[$xs:term],*])
local macro_rules|`(%[$xs,*|$k])=>`(by rw[$[$xs:term],*];exact$k)
local macro_rules|`(tactic|exists$s:str,$_,$_,$_)=>do let i(h:String):=(h.splitOn " ").toArray.map λx=>Lean.mkIdent x.toName;match s.getString.splitOn ";" with|[e,l]=>let e:=i e;let l:=i l;`(tactic|simp[*,$[-$e],*,$[$l:term],*])|_=>`(tactic|fail)
set_option hygiene false
local macro_rules|`(tactic|obtain $p:rcasesPatMed:=$e)=>`(tactic|first|(refine Classical.byContradiction fun u8=>?_;rcases $e:term with $p<;>(try refine u8 ?_)<;>(try clear u8))|rcases $e:term with $p)
set_option hygiene true
set_option backward.eqns.nonrecursive false
set_option genSizeOf false
set_option bootstrap.genMatcherCode false
namespace Lake
open PySem PySem.Spec PyProof.Rows
variable{A:Wp}{B B' O':Addr->Prop}{C L a code dl f i1 i2 it sl:Addr}{D9 body u9:List Stmt}{E Q xe:Value->W2->Prop}{K:W3}{M:Model}{N fr loose ps:List Str}{P prog:Wn}{P1 P2:Nat->Value->Prop}{R:Result->W2->Prop}{RR:Value->Addr->Result->W2->Prop}{S1 S2 tn:Nat->Heap->Prop}{T':String}{XP:(Str->Option Value)->Heap->Prop}{YP:Ws->Heap->Prop}{aE cd ct doc oc pm u v0 vl vu:Value}{an dx od:Option Addr}{apos bL p0 pos pp py qW qX tpos:Pos}{base h':Heap}{b₀:Stmt}{cells cl:List (Str×Addr)}{ch f1 f2:List Addr}{cs js np:List Nat}{d':Drawn}{de:Array (Option Value)}{e elt tg:Expr}{env:Env}{ep i n n1 n2 t':Nat}{es ifs:List Expr}{fd:WR}{first its its' us:List Value}{g':Array GenState}{h_ op:CmpOp}{hi lo:Option Int}{items:Array Value}{kindOf:Str->Option NameKind}{m:Bool}{mA mb mg:Str->Option Value}{name qual tq x:Str}{ns:List Int}{oa oe:Obj}{os:OsState}{outer:List Env}{params:Arguments}{pins pn:List (Addr×Obj)}{s:W2}{sc scope:Scope}{t0:Tok}{w:Ws}
abbrev Key:=Sum Int Str
def iI:Key->Value->Bool|.inl k,v=>Value.isInt k v|.inr x,v=>Value.isStrOf x v
def wF(w:Ws):Key->Int|.inl k=>hashInt k|.inr x=>hashStr w x
theorem jI:∀{k:Key}{v:Value},iI k v=true->(∃i t,k=Sum.inl i/\v=Value.int i t)\/∃x t,k=Sum.inr x/\v=Value.str x t|.inl i,v,h=>by obtain⟨t,e⟩:=Value.isInt_shape (k:=i) (v:=v) h;exact .inl ⟨i,t,rfl,e⟩|.inr x,v,h=>by obtain⟨t,e⟩:=Value.isStrOf_shape (x:=x) (v:=v) h;exact .inr ⟨x,t,rfl,e⟩
theorem MF(i:Int)(t:Tok):iI (.inl i) (.int i t)=true:=#v[iI,Value.isInt]
theorem MG(x:Str)(t:Tok):iI (.inr x) (.str x t)=true:=#v[iI,Value.isStrOf]
theorem MH(a b:Int):decide ((Sum.inl a:Key)=Sum.inl b)=(a==b):=by
 by_cases e:a=b;.subst e;simp
 .have h:¬(Sum.inl a:Key)=Sum.inl b:=λq=>e (Sum.inl.inj q);rw[decide_eq_false h];exact(beq_eq_false_iff_ne.mpr e).symm
theorem MI(a b:Str):decide ((Sum.inr a:Key)=Sum.inr b)=decide (a=b):=by
 by_cases e:a=b;.subst e;simp
 .have h:¬(Sum.inr a:Key)=Sum.inr b:=λq=>e (Sum.inr.inj q);rw[decide_eq_false h,decide_eq_false e]
theorem MJ(a:Int)(b:Str):decide ((Sum.inl a:Key)=Sum.inr b)=false:=decide_eq_false λq=>nomatch q
theorem MK(a:Str)(b:Int):decide ((Sum.inr a:Key)=Sum.inl b)=false:=decide_eq_false λq=>nomatch q
def fV(prog:Wn)(w:Ws):PySem.KeyKind prog w Key where
 is:=iI
 hash:=wF w
 inj:=λv a b ha hb=>by
  rcases jI ha with⟨i,t,rfl,rfl⟩|⟨x,t,rfl,rfl⟩
  .rcases jI hb with⟨j,u,rfl,e⟩|⟨y,u,rfl,e⟩;.injection e with e1 _;rw[e1]
   .exact nomatch e
  .rcases jI hb with⟨j,u,rfl,e⟩|⟨y,u,rfl,e⟩;.exact nomatch e
   .injection e with e1 _;rw[e1]
 byValue:=λk v h=>by rcases jI h with⟨i,t,rfl,rfl⟩|⟨x,t,rfl,rfl⟩<;>rfl
 pyHash:=λhv h=>by
  rcases jI hv with⟨i,t,rfl,rfl⟩|⟨x,t,rfl,rfl⟩;.exact wpAny_pyHash_int h
  .exact wpAny_pyHash_str h
 eqBool:=λhu hv h=>by
  rcases jI hu with⟨i,t,rfl,rfl⟩|⟨x,t,rfl,rfl⟩
  .rcases jI hv with⟨j,u,rfl,rfl⟩|⟨y,u,rfl,rfl⟩;.rw[MH]at h;exact wpAny_eqBool_int h
   .rw[MJ]at h;exact SeqAt.EqAt.int_str i t y u _ _ _ _ h
  .rcases jI hv with⟨j,u,rfl,rfl⟩|⟨y,u,rfl,rfl⟩;.rw[MK]at h;exact SeqAt.EqAt.str_int x t j u _ _ _ _ h
   .rw[MI]at h;exact wpAny_eqBool_str h
 «strs»:=λk x t v h=>by
  rcases jI h with⟨i,u,rfl,e⟩|⟨y,u,rfl,e⟩;.exact nomatch e
  .injection e with e1 _;subst e1;cases v<;>rfl
theorem ML(prog:Wn)(w:Ws)(k:Key)(v:Value):(fV prog w).is k v=iI k v:=rfl
theorem MM(prog:Wn)(w:Ws)(i:Int)(t:Tok):(fV prog w).is (.inl i) (.int i t)=true:=MF i t
theorem MN(prog:Wn)(w:Ws)(x:Str)(t:Tok):(fV prog w).is (.inr x) (.str x t)=true:=MG x t
inductive V where|ax|bl(b:Bool)|int(i:Int)|str(x:Str)|byt(b:Array UInt8)|flt(b:UInt64)|ref(a:Addr)|ty(n:String)deriving DecidableEq
variable{MQ:List (Str×V)}{fv lO mX vs:List V}{kps:List (Key×V)}{v:V}
def RelV:V->Value->Prop|.ax,u=>u=Value.none|.bl b,u=>u=Value.bool b|.int i,u=>∃t,u=Value.int i t|.str x,u=>∃t,u=Value.str x t|.byt b,u=>∃t,u=Value.bytes b t|.flt b,u=>∃t,u=Value.float b t|.ref a,u=>u=Value.ref a|.ty n,u=>u=Value.type n
abbrev Vals:List V->List Value->Prop:=Paired RelV
theorem Vals.length(r:Vals xs us):xs.length=us.length:=Paired.length r
theorem Vals.get:∀{xs:List V}{us:List Value}{i:Nat}{x:V},Vals xs us->xs[i]?=some x->∃u,us[i]?=some u/\RelV x u|_,_,_,_,.nil,e=>by simp at e|_,_,0,_,.cons r _,e=>by simp at e;subst e;exact⟨_,rfl,r⟩|_,_,i+1,x,.cons _ t,e=>by obtain⟨u,h1,h2⟩:=Vals.get (i:=i) (x:=x) t (~~~e);exact⟨u,~~~h1,h2⟩
theorem Vals.set{x}(r:RelV x u):∀{xs:List V}{us:List Value}(i:Nat),Vals xs us->Vals (xs.set i x) (us.set i u)|_,_,_,.nil=>.nil|_,_,0,.cons _ t=>.cons r t|_,_,i+1,.cons q t=>.cons q (Vals.set r i t)
theorem Vals.append{xs ys:List V}{us ws:List Value}(h:Vals xs us)(s:Vals ys ws):Vals (xs++ys) (us++ws):=by induction h with|nil=>exact s|cons r t ih=>exact .cons r ih
theorem Vals.take:∀{xs:List V}{us:List Value}(n:Nat),Vals xs us->Vals (xs.take n) (us.take n)|_,_,0,_=>.nil|_,_,_+1,.nil=>.nil|_,_,n+1,.cons r t=>.cons r (Vals.take n t)
theorem Vals.drop:∀{xs:List V}{us:List Value}(n:Nat),Vals xs us->Vals (xs.drop n) (us.drop n)|_,_,0,r=>r|_,_,_+1,.nil=>.nil|_,_,n+1,.cons _ t=>Vals.drop n t
def fW:Option V->Option Value->Prop|some v,some u=>RelV v u|none,none=>True|_,_=>False
def KV{κ:Type}:List (κ×V)->List (κ×Value)->Prop:=Paired λ(p:κ×V)(q:κ×Value)=>p.1=q.1/\RelV p.2 q.2
def kV:Key->V|.inl i=>.int i|.inr x=>.str x
inductive NK where|i(z:Int)|s(x:Str)|t(ks:List NK)
variable{xs:List (NK×Value×Value)}
noncomputable instance nkDec:DecidableEq NK:=λa b=>Classical.propDecidable (a=b)
mutual def f6(w:Ws):NK->Int|.i z=>wF w (.inl z)|.s x=>wF w (.inr x)|.t ks=>reduceHash (Builtin.Tuple.tupleHashOf (sU w ks))def sU(w:Ws):List NK->List Int|[]=>[]|k::ks=>f6 w k::sU w ks end
inductive HO where|lst(xs:List V)|tup(xs:List V)|dK(ao:List (Key×V))|dT(ao:List (List Key×V))|set(S:Int->Bool)(n:Nat)|ins(C dx:Addr)(fs:List (Str×V))|own(x:Addr)|xd(fs:List (Str×V))|met(f x:Addr)|jJ(lo hi:Int)|frz(o:Obj)(u:HO)|tbl(ps:Array Value)|ctab(pos:Pos)(q:Str)|dN(ep:Nat)(ao:List (NK×V×V))|ext(φ:Heap->Prop)
abbrev Hp:=Addr->Option HO
variable{H H':Hp}
def upd(H:Hp)(a:Addr)(o:HO):Hp:=λb=>if b=a then some o else H b
theorem bS:upd H a o a=some o:=by unfold upd;rw[if_pos rfl]
theorem aO(h:b≠a):upd H a o b=H b:=by unfold upd;rw[if_neg h]
theorem ox{u}:upd (upd H a o) a u=upd H a u:=by funext b;unfold upd;split<;>rfl
theorem d_{b:Addr}{o:HO}(h:H a=some o)(h':H b=none):a≠b:=by intro e;subst e;rw[h]at h';cases h'
def jb(h:Heap)(a:Addr)(its:Array Value):Prop:=∃n,h.get? a=some {cls:=.type "tuple",dict:=none,data:=.seq its n,slots:=#[]}
theorem jb.tup{h a its}(x:jb h a its):IsTup h a its:=let⟨n,e⟩:=x;⟨_,e,rfl,n,rfl⟩
theorem jb.new(h:Heap)(its:Array Value):jb (h.push {cls:=.type "tuple",data:=.seq its}) h.objs.size its:=⟨_,Wf _ rfl⟩
theorem jb.lt{its}(x:jb h a its):a<h.objs.size:=let⟨_,e⟩:=x;Wh e
section
variable(P:Wn)(w:Ws)
def bw(H:Hp)(h:Heap)(a:Addr):HO->Prop|.lst xs=>xs.length<=Wb/\∃(its:List Value)(n:Nat),Vals xs its/\h.get? a=some {cls:=.type "list",data:=.seq its.toArray n}|.tup xs=>xs.length<=Wb/\∃its:List Value,Vals xs its/\jb h a its.toArray|.dK ao=>ao.length<=Wb/\(a==Qt)=false/\∃vs,KV ao vs/\h.DictOf (fV P w) a vs|.dT ao=>ao.length<=Wb/\(a==Qt)=false/\∃xs:List (List Key×Addr×Value),Paired (λ(p:List Key×V)(q:List Key×Addr×Value)=>p.1=q.1/\H q.2.1=some (.tup (p.1.map kV))/\RelV p.2 q.2.2) ao xs/\∃o es ep,h.get? a=some o/\o.ExactDict/\o.data=.dict es ep/\es.toList=xs.map (entryOfKey (tupleKind (fV P w)))/\(xs.map (·.1)).Nodup|.set S n=>h.SetOf (intKind P w) a S n|.ins C dx fs=>H dx=some (.own a)/\fs.length<=1000/\dx≠a/\h.get? a=some (PySem.W.instObj C dx)/\∃mA,h.Ns1 dx mA/\(∀f,fW (fs.lookup f) (mA f))/\PySem.Within mA (fs.map (·.1))|.own _=>∃o,h.get? a=some o|.xd fs=>∃mA,h.Ns1 a mA/\∀f,fW (fs.lookup f) (mA f)|.jJ lo hi=>∃t u v,h.get? a=some {cls:=.type "range",data:=.fields #[.int lo t,.int hi u,.int 1 v]}|.frz o u=>h.get? a=some o/\bw H h a u|.tbl ps=>h.get? a=some {cls:=.none,data:=.fields ps}|.dN ep ao=>ao.length<=Wb/\(a==Qt)=false/\∃o es,h.get? a=some o/\o.ExactDict/\o.data=.dict es ep/\Paired (λ(p:NK×V×V)(e:DictEntry)=>e.hash=f6 w p.1/\RelV p.2.1 e.key/\RelV p.2.2 e.val) ao es.toList/\(ao.map (·.1)).Nodup|.ctab pos q=>∃ps,h.get? a=some {cls:=.none,data:=.fields ps}/\TriplesOk ps.toList/\∀cv,codeAmong pos ps.toList=some cv->∃c' oc,cv=.ref c'/\H c'=some (.frz oc (.ext λj=>True))/\∃vs tq,oc.data=.fields vs/\vs[1]?=some (.str q tq)|.met f x=>h.get? a=some (PySem.W.methodObj (.ref f) (.ref x))|.ext φ=>φ h/\(∃o,h.get? a=some o)/\∀h1 h2:Heap,φ h1->(∀o,h1.get? a=some o->h2.get? a=some o)->φ h2
def cx(H:Hp)(h:Heap):Prop:=∀a o,H a=some o->bw P w H h a o
end
section
variable{h:Heap}{o:HO}
theorem bw.lt(x:bw P w H h a o):a<h.objs.size:=by cases o with|lst xs=>obtain⟨_,_,_,_,e⟩:=x;exact Wh e|tup xs=>obtain⟨_,_,_,p⟩:=x;exact p.lt|dK ao=>obtain⟨_,_,_,_,o,_,_,e,_⟩:=x;exact Wh e|dT ao=>obtain⟨_,_,_,_,o,_,_,e,_⟩:=x;exact Wh e|set S n=>obtain⟨o,_,_,_,e,_⟩:=x;exact Wh e|ins C dx fs=>obtain⟨_,_,_,e,_⟩:=x;exact Wh e|own y=>obtain⟨_,e⟩:=x;exact Wh e|xd fs=>obtain⟨_,⟨_,_,_,e,_⟩,_⟩:=x;exact Wh e|jJ lo hi=>obtain⟨_,_,_,e⟩:=x;exact Wh e|frz ob u=>obtain⟨e,_⟩:=x;exact Wh e|tbl ps=>exact Wh (show h.get? a=some _ from x)|ctab pos q=>obtain⟨_,e,_⟩:=x;exact Wh e|dN ep ao=>obtain⟨_,_,_,_,e,_⟩:=x;exact Wh e|met f y=>exact Wh (show h.get? a=some _ from x)|ext φ=>obtain⟨_,⟨_,e⟩,_⟩:=x;exact Wh e
theorem Paired.BG{l₁:List α}{l₂:List β}(h:Paired F l₁ l₂)(f:∀a b,F a b->G a b):Paired G l₁ l₂:=by induction h with|nil=>exact .nil|cons r t ih=>exact .cons (f _ _ r) ih
theorem bw.fm(x:bw P w H h a o)(k:∀b u,b=a\/H b=some (.own a)->h.get? b=some u->h'.get? b=some u)(ho:∀b,H b=some (.own a)->H' b=some (.own a))(ht:∀b xs,H b=some (.tup xs)->H' b=some (.tup xs))(hf:∀b o u,H b=some (.frz o u)->H' b=some (.frz o u)):bw P w H' h' a o:=by induction o with|lst xs=>obtain⟨z,its,n,r,e⟩:=x;exact⟨z,its,n,r,k _ _ (.inl rfl) e⟩|tup xs=>obtain⟨z,its,r,n,e⟩:=x;exact⟨z,its,r,n,k _ _ (.inl rfl) e⟩|dK ao=>obtain⟨z,y,vs,r,ob,es,ep,e,c⟩:=x;exact⟨z,y,vs,r,ob,es,ep,k _ _ (.inl rfl) e,c⟩|dT ao=>obtain⟨z,y,xs,r,ob,es,ep,e,c⟩:=x;exact⟨z,y,xs,Paired.BG r λp q z=>⟨z.1,ht _ _ z.2.1,z.2.2⟩,ob,es,ep,k _ _ (.inl rfl) e,c⟩|set S n=>obtain⟨ob,es,ep,t,e,c⟩:=x;exact⟨ob,es,ep,t,k _ _ (.inl rfl) e,c⟩|ins C dx fs=>obtain⟨d,z,ne,e,mA,⟨od,es,ep,e2,c⟩,r⟩:=x;exact⟨ho _ d,z,ne,k _ _ (.inl rfl) e,mA,⟨od,es,ep,k _ _ (.inr d) e2,c⟩,r⟩|own y=>obtain⟨ob,e⟩:=x;exact⟨ob,k _ _ (.inl rfl) e⟩|xd fs=>obtain⟨mA,⟨od,es,ep,e,c⟩,r⟩:=x;exact⟨mA,⟨od,es,ep,k _ _ (.inl rfl) e,c⟩,r⟩|jJ lo hi=>obtain⟨t,u,v,e⟩:=x;exact⟨t,u,v,k _ _ (.inl rfl) e⟩|frz ob u ih=>obtain⟨e,q⟩:=x;exact⟨k _ _ (.inl rfl) e,ih q⟩|dN ep ao=>obtain⟨z,y,ob,es,e,c⟩:=x;exact⟨z,y,ob,es,k _ _ (.inl rfl) e,c⟩|ctab pos q=>obtain⟨ps,e,t,r⟩:=x;exact⟨ps,k _ _ (.inl rfl) e,t,λcv z=>let⟨c',oc,z1,z2,z3⟩:=r cv z;⟨c',oc,z1,hf _ _ _ z2,z3⟩⟩|tbl ps=>have e:h.get? a=some {cls:=.none,data:=.fields ps}:=x;show h'.get? a=some {cls:=.none,data:=.fields ps};exact k a _ (.inl rfl) e|met f y=>have e:h.get? a=some (PySem.W.methodObj (.ref f) (.ref y)):=x;show h'.get? a=some (PySem.W.methodObj (.ref f) (.ref y));exact k a _ (.inl rfl) e|ext φ=>obtain⟨p,⟨o,e⟩,st⟩:=x;exact⟨st _ _ p λo q=>k _ _ (.inl rfl) q,⟨o,k _ _ (.inl rfl) e⟩,st⟩
theorem cx.lt(x:cx P w H h)(e:H a=some o):a<h.objs.size:=(x a o e).lt
theorem cx.fresh(x:cx P w H h)(e:h.objs.size<=a):H a=none:=by cases q:H a with|none=>rfl|some u=>exact absurd (WB (x.lt q) e) (Qd _)
theorem cx.kept(x:cx P w H h)(k:∀b u,h.get? b=some u->h'.get? b=some u):cx P w H h':=λa o e=>(x a o e).fm (λb u j q=>k b u q) (λj q=>q) (λj j q=>q) λj j j q=>q
theorem cx.laid(x:cx P w H h)(k:∀b u,h.get? b=some u->h'.get? b=some u)(hp:h.objs.size<=a)(new:bw P w (upd H a o) h' a o):cx P w (upd H a o) h':=λb u e=>by
 have hn:=x.fresh hp;by_cases hb:b=a;.subst hb;rw[bS]at e;cases e;exact new
 .rw[aO hb]at e;exact(x b u e).fm (λc v j q=>k c v q) (λc q=>%[aO (d_ q hn)|q]) (λc xs q=>%[aO (d_ q hn)|q]) λc o u q=>%[aO (d_ q hn)|q]
end
def Rd(H:Hp)(a:Addr)(u:HO):Prop:=H a=some u\/∃o,H a=some (.frz o u)
theorem Rd.ok{u}(r:Rd H a u)(x:cx P w H h):bw P w H h a u:=by
 rcases r with r|⟨o,r⟩;.exact x a u r
 .obtain⟨_,q⟩:=x a _ r;exact q
def pR:Option HO->Prop|some (.lst _)=>True|some (.dK _)=>True|some (.dT _)=>True|some (.dN _ _)=>True|some (.set _ _)=>True|some (.ins _ _ _)=>True|some (.ext _)=>True|_=>False
section
variable{h:Heap}{x e:Addr}{o':HO}
theorem cx.write(ok:cx P w H h)(mu:pR (H x))(he:e=x\/H e=some (.own x))(k:∀b u,b≠e->h.get? b=some u->h'.get? b=some u)(oy:∃u,h'.get? e=some u)(new:bw P w (upd H x o') h' x o'):cx P w (upd H x o') h':=λb u q=>by
 have g_:∀c y,H c=some (.own y)->c≠x:=λc y r z=>by subst z;rw[r]at mu;exact mu
 have MO:∀c xs,H c=some (.tup xs)->c≠x:=λc xs r z=>by subst z;rw[r]at mu;exact mu
 have MP:∀c o u,H c=some (.frz o u)->c≠x:=λc o u r z=>by subst z;rw[r]at mu;exact mu
 by_cases hb:b=x;.subst hb;rw[bS]at q;cases q;exact new
 .rw[aO hb]at q;by_cases hbe:b=e
  .have q':H b=some (.own x):=by
    rcases he with z|z;.exact absurd (hbe.trans z) hb
    .rw[hbe];exact z
   rw[q]at q';cases q';obtain⟨v,hv⟩:=oy;exact⟨v,%[hbe|hv]⟩
  .refine(ok b u q).fm (λc v hc r=>k c v ?_ r) (λc r=>%[aO (g_ c b r)|r]) (λc xs r=>%[aO (MO c xs r)|r]) λc o u r=>%[aO (MP c o u r)|r];rcases hc with rfl|hc;.exact hbe
   .rintro rfl;rcases he with z|z;.exact g_ c b hc z
    .rw[hc]at z;cases z;exact hb rfl
end
structure Un(fs ex:List Addr)(H H':Hp)(h h':Heap):Prop where
 keep:∀b o,h.get? b=some o->H b=none->b∉fs->b∉ex->h'.get? b=some o
 slot:∀b o,h.get? b=some o->H b=none->b∈fs->b∉ex->∃sl,h'.get? b=some {o with slots:=sl}free:∀b o,h.get? b=some o->H b=none->b∉ex->H' b=none
 there:∀b o,h.get? b=some o->b∉ex->∃o',h'.get? b=some o'
 jc:∀b xs,H b=some (.tup xs)->H' b=some (.tup xs)hJ:∀b o u,H b=some (.frz o u)->H' b=some (.frz o u)jd:∀b ps,H b=some (.tbl ps)->∃more,H' b=some (.tbl (ps++more))
section
variable{fs MQ ex ex':List Addr}{H1 H2:Hp}{h h1 h2:Heap}{x e:Addr}{o:HO}
theorem Un.any(u:Un fs ex H H1 h h1)(q:h.get? b=some ob)(n:H b=none)(hx:b∉ex):∃sl,h1.get? b=some {ob with slots:=sl}:=by
 by_cases hb:b∈fs;.exact u.slot b ob q n hb hx
 .exact⟨ob.slots,u.keep b ob q n hb hx⟩
theorem Un.kept(k:∀b u,h.get? b=some u->h'.get? b=some u):Un fs ex H H h h':=⟨λb ob q j j j=>k b ob q,λb ob q j j j=>⟨ob.slots,k b ob q⟩,λj j j n j=>n,λb ob q j=>⟨ob,k b ob q⟩,λj j q=>q,λj j j q=>q,λj ps q=>⟨#[],by rw[q];simp⟩⟩
theorem Un.refl:Un fs ex H H h h:=Un.kept λj j q=>q
theorem Un.laid(k:∀b u,h.get? b=some u->h'.get? b=some u)(hp:h.objs.size<=a)(hn:H a=none):Un fs ex H (upd H a o) h h' where
 keep:=λb u q j j j=>k b u q
 slot:=λb u q j j j=>⟨u.slots,k b u q⟩
 free:=λb u q n j=>%[aO (WG (WB (Wh q) hp))|n]
 there:=λb u q j=>⟨u,k b u q⟩
 jc:=λb xs q=>%[aO (d_ q hn)|q]
 hJ:=λb u xs q=>%[aO (d_ q hn)|q]
 jd:=λb ps q=>⟨#[],by rw[aO (d_ q hn),q];simp⟩
theorem Un.write(mu:pR (H x))(he:e=x\/H e=some (.own x))(k:∀b u,b≠e->h.get? b=some u->h'.get? b=some u)(oy:∃u,h'.get? e=some u):Un fs ex H (upd H x o) h h':=by
 have hx:∀b,H b=none->b≠x:=λb n z=>by subst z;rw[n]at mu;exact mu
 have hb:∀b,H b=none->b≠e:=λb n z=>by
  subst z;rcases he with r|r;.exact hx b n r
  .rw[n]at r;cases r
 have hm:∀b u,H b=some u->¬pR (some u)->b≠x:=λb u q nm z=>by subst z;rw[q]at mu;exact nm mu
 refine⟨λb u q n j j=>k b u (hb b n) q,λb u q n j j=>⟨u.slots,k b u (hb b n) q⟩,λb u q n j=>%[aO (hx b n)|n],λb u q j=>?_,λb xs q=>%[aO (hm b _ q λz=>z)|q],λb u xs q=>%[aO (hm b _ q λz=>z)|q],λb ps q=>⟨#[],by rw[aO (hm b _ q λz=>z),q];simp⟩⟩;by_cases hbe:b=e;.subst hbe;exact oy
 .exact⟨u,k b u hbe q⟩
end
def sV(h:Heap)(H:Hp):List Addr:=(WI h.objs.size).filter λa=>(H a).isSome
def jK(h:Heap)(H:Hp):Heap:=PySem.W.hideAll h (sV h H)
theorem MR(h:Heap)(H:Hp):(jK h H).objs.size=h.objs.size:=PySem.W.hideAll_size _ _
theorem MS(e:h.get? b=some o)(n:H b=none):(jK h H).get? b=some o:=PySem.W.hideAll_get _ e λhm=>by have q:(H b).isSome=true:=(List.mem_filter.mp hm).2;rw[n]at q;simp at q
theorem MT(e:(jK h H).get? b=some o):h.get? b=some o/\H b=none:=by have e':h.get? b=some o:=PySem.W.of_hideAll (sV h H) e;refine⟨e',?_⟩;cases q:H b with|none=>rfl|some x=>have hm:b∈sV h H:=List.mem_filter.mpr ⟨List.mem_range.mpr (Wh e'),#v[q]⟩;have z:(jK h H).get? b=none:=PySem.W.hideAll_none (sV h H) hm;rw[z]at e;cases e
def MU(g h:Heap)(L:Addr):List (Addr×Obj):=(WI h.objs.size).filterMap λa=>if a=L\/(g.get? a).isSome=true then none else(h.get? a).map λo=>(a,o)
def rest(g h:Heap)(L d:Addr):List (Addr×Obj):=(MU g h L).filter λp=>decide (p.1≠d)
structure Mod(K:W3)(mg:Str->Option Value)(base:Heap):Prop where
 lG:K.In base
 glob:base.Ns Wo mg
 blt:∃mb,base.Ns builtinsNs mb/\∀x:Str,x≠"__name__"->mb x=Qw x
 nolimit:base.NoLimit
structure Cx where
 prog:Wn
 w:Ws
 K:W3
 mg:Str->Option Value
 base:Heap
 A:Wp
 N:List Str
 s₀:W2
 H₀:Hp
 env:Env
 outer:List Env
 stack:List Env
 ex:List Addr
 fn:Str->Bool
 calm:Bool
 pn:List (Addr×Obj)xe:Value->W2->Prop
variable{X:Cx}
def eC(l:List Env):List Addr:=l.filterMap (·.frame)
abbrev Cx.fs(X:Cx):List Addr:=eC X.outer
def sW(sc:Scope)(x:Str):Prop:=sc.names.lookup x=some .local\/sc.names.lookup x=some .cell\/sc.names.lookup x=some .free
def Loc(sc:Scope)(x:Str):Prop:=sc.names.lookup x=some .local\/sc.names.lookup x=some .cell
def Look(env:Env)(h:Heap)(m:Str->Option Value)(x:Str)(u:Value):Prop:=env.kindOf x=some .local/\m x=some u\/(env.kindOf x=some .cell\/env.kindOf x=some .free)/\∃c,env.cells.lookup x=some c/\h.IsCell c (some u)
structure Cx.Ok(X:Cx):Prop where
 mod:Mod X.K X.mg X.base
 kind:X.env.scope.kind=.function
 glob:X.env.globals=Wo
 blt:X.env.builtins=builtinsNs
 above:X.s₀.heap.objs.size<=X.env.locals
 inj:∀x y c,X.env.cells.lookup x=some c->X.env.cells.lookup y=some c->x=y
 has:∀x,X.env.kindOf x=some .cell\/X.env.kindOf x=some .free->∃c,X.env.cells.lookup x=some c
 kD:∀x c,X.fn x=true->X.env.cells.lookup x=some c->X.s₀.heap.objs.size<=c
 hd:X.calm=true->X.A.handled=none
 frames:X.A.frames=some X.stack
 mK:X.stack=X.outer\/X.stack=X.env::X.outer/\X.env.frame=some X.env.locals
 mL:∀b∈X.ex,b≠X.env.locals/\∀x c,X.env.cells.lookup x=some c->c≠b
 bs:∀b o,X.base.get? b=some o->X.s₀.heap.get? b=some o/\X.H₀ b=none
 iJ:X.base.objs.size<=X.s₀.heap.objs.size
 lH:∀b o,X.base.get? b=some o->b∉X.ex
 lI:∀b∈X.ex,b∉X.fs
 f7:X.s₀.heap.FunFrames X.base X.outer
 je:∀b∈X.fs,X.H₀ b=none
structure Inv(X:Cx)(pins:List (Addr×Obj))(Y:List (Option V))(H:Hp)(s:W2):Prop where
 ok:X.Ok
 os:s.os=X.s₀.os
 bare:AllBare s.gens
 base:Un X.fs X.ex X.H₀ H X.s₀.heap s.heap
 loc:∃m,s.heap.Ns X.env.locals m/\∀(i:Nat)(x:Str)(v:V),X.N[i]?=some x->Y[i]?=some (some v)->sW X.env.scope x->∃u,RelV v u/\Look X.env s.heap m x u
 cell:∀x c,X.env.cells.lookup x=some c->∃v,s.heap.IsCell c v
 free:H X.env.locals=none
 fq:∀x c,X.env.cells.lookup x=some c->H c=none
 pin:∀p∈X.pn++pins,s.heap.get? p.1=some p.2/\H p.1=none/\p.1≠X.env.locals/\p.1∉X.fs/\∀v,p.2.data≠.cell v
 ay:cx X.prog X.w H s.heap
 len:Y.length=X.N.length
section
variable{Y:List (Option V)}
theorem Cx.Ok.MV(ok:X.Ok)(e:X.base.get? b=some o):b∉X.fs:=λhb=>by have:=(ok.f7.mem hb).1;rw[e]at this;cases this
theorem Inv.bs(I:Inv X pins Y H s):∀b o,X.base.get? b=some o->s.heap.get? b=some o/\H b=none:=λb o e=>⟨I.base.keep b o (I.ok.bs b o e).1 (I.ok.bs b o e).2 (I.ok.MV e) (I.ok.lH b o e),I.base.free b o (I.ok.bs b o e).1 (I.ok.bs b o e).2 (I.ok.lH b o e)⟩
theorem Inv.bk(I:Inv X pins Y H s):∀b o,X.base.get? b=some o->s.heap.get? b=some o:=λb o e=>(I.bs b o e).1
theorem Inv.mod(I:Inv X pins Y H s):Mod X.K X.mg X.base:=I.ok.mod
theorem Inv.dw(I:Inv X pins Y H s):X.K.In s.heap:=I.ok.mod.lG.keeps I.bk
theorem Inv.lt(I:Inv X pins Y H s):X.env.locals<s.heap.objs.size:=let⟨_,hn,_⟩:=I.loc;hn.lt
theorem Inv.sz(I:Inv X pins Y H s):X.s₀.heap.objs.size<=s.heap.objs.size:=Wy I.ok.above (J0 I.lt)
theorem Inv.BH{a}(I:Inv X pins Y H s)(h:s.heap.objs.size<=a):a∉X.fs:=λhb=>by obtain⟨_,o,ho,_⟩:=I.ok.f7.mem hb;exact absurd (WB (Wh ho) (Wy I.sz h)) (Qd _)
theorem Inv.gU(I:Inv X pins Y H s):∀x c,X.env.cells.lookup x=some c->c≠X.env.locals:=λx c e z=>by obtain⟨v,o,ho,hd⟩:=I.cell x c e;obtain⟨m,⟨o',es,ep,gI,hd',_⟩,_⟩:=I.loc;rw[z,gI]at ho;cases ho;rw[hd']at hd;cases hd
theorem Inv.f7(I:Inv X pins Y H s):s.heap.FunFrames X.base X.outer:=by
 have all:∀(l:List Env),(∀b∈eC l,b∈X.fs)->X.s₀.heap.FunFrames X.base l->s.heap.FunFrames X.base l:=by intro l;induction l with|nil=>intro _ _;trivial|cons env r ih=>intro hs hl;obtain⟨hk,⟨L,o,hf,hn,ho,hd⟩,hr⟩:=hl;have hL:L∈X.fs:=hs L (by unfold eC;rw[List.filterMap_cons,hf];exact Wl);obtain⟨sl,e⟩:=I.base.slot L o ho (I.ok.je L hL) hL λz=>I.ok.lI L z hL;exact⟨hk,⟨L,_,hf,hn,e,hd⟩,ih (λb hb=>hs b (by unfold eC;rw[List.filterMap_cons,hf];exact Wi _ hb)) hr⟩
 exact all X.outer (λj hb=>hb) I.ok.f7
theorem Inv.stack(I:Inv X pins Y H s):s.heap.FunFrames X.base X.stack:=by
 rcases I.ok.mK with e|⟨e,hf⟩;.rw[e];exact I.f7
 .rw[e];obtain⟨m,hn,_⟩:=I.loc;refine .cons (by rw[I.ok.kind];decide) hf hn ?_ I.f7;exact Heap.get?_none_of_le (Wy I.ok.iJ I.ok.above)
theorem Inv.oz(I:Inv X pins Y H s):∀b∈eC X.stack,b∈X.env.locals::X.fs:=λb hb=>by
 rcases I.ok.mK with e|⟨e,hf⟩;.rw[e]at hb;exact Wi _ hb
 .rw[e]at hb;unfold eC at hb;rw[List.filterMap_cons,hf]at hb;exact hb
theorem Inv.sX(I:Inv X pins Y H s):∀b∈eC X.stack,H b=none:=λb hb=>by
 rcases Wt.mp (I.oz b hb)with e|hb;.rw[e];exact I.free
 .obtain⟨_,o,ho,_⟩:=I.ok.f7.mem hb;exact I.base.free b o ho (I.ok.je b hb) λz=>I.ok.lI b z hb
theorem Inv.step{g':Array GenState}{t':Nat}{d':Drawn}(I:Inv X pins Y H s)(jL:∀b∈ch,(b∈X.ex\/X.s₀.heap.objs.size<=b)/\b≠X.env.locals/\(∀x c,X.env.cells.lookup x=some c->c≠b)/\∀p∈X.pn++pins,p.1≠b)(keep:∀b o,b≠X.env.locals->b∉X.fs->b∉ch->s.heap.get? b=some o->H b=none->h'.get? b=some o)(slot:∀b o,b≠X.env.locals->b∈X.fs->b∉ch->s.heap.get? b=some o->H b=none->∃sl,h'.get? b=some {o with slots:=sl})(free:∀b o,b∉ch->s.heap.get? b=some o->H b=none->H' b=none)(there:∀b o,b∉ch->s.heap.get? b=some o->∃o',h'.get? b=some o')(jc:∀b xs,H b=some (.tup xs)->H' b=some (.tup xs))(hJ:∀b o u,H b=some (.frz o u)->H' b=some (.frz o u))(jd:∀b ps,H b=some (.tbl ps)->∃more,H' b=some (.tbl (ps++more)))(ns:∀m,s.heap.Ns X.env.locals m->h'.Ns X.env.locals m)(ay:cx X.prog X.w H' h')(hg:AllBare g'):Inv X pins Y H' {s with heap:=h',gens:=g',drawn:=d',toks:=t'}:=by
 have mM:∀b o,X.s₀.heap.get? b=some o->b≠X.env.locals:=λb o e=>WG (WB (Wh e) I.ok.above);have sY:∀b o,X.s₀.heap.get? b=some o->b∉X.ex->b∉ch:=λb o e hx hb=>by
  rcases(jL b hb).1 with z|z;.exact hx z
  .exact absurd (WB (Wh e) z) (Qd _)
 have cellK:∀x c,X.env.cells.lookup x=some c->∀v,s.heap.IsCell c v->h'.IsCell c v:=λx c e v⟨o,ho,hd⟩=>by
  have pU:c∉ch:=λz=>(jL c z).2.2.1 x c e rfl;by_cases hc:c∈X.fs;.obtain⟨sl,q⟩:=slot c o (I.gU x c e) hc pU ho (I.fq x c e);exact⟨_,q,hd⟩
  .exact⟨o,keep c o (I.gU x c e) hc pU ho (I.fq x c e),hd⟩
 refine⟨I.ok,I.os,hg,⟨λb o e n hb hx=>?_,λb o e n hb hx=>?_,λb o e n hx=>?_,λb o e hx=>?_,λb xs e=>jc b xs (I.base.jc b xs e),λb o xs e=>hJ b o xs (I.base.hJ b o xs e),λb ps e=>?_⟩,?_,λx c e=>?_,?_,λx c e=>?_,λp hp=>?_,ay,I.len⟩;.exact keep b o (mM b o e) hb (sY b o e hx) (I.base.keep b o e n hb hx) (I.base.free b o e n hx)
 .obtain⟨sl,e1⟩:=I.base.slot b o e n hb hx;obtain⟨sl',e2⟩:=slot b _ (mM b o e) hb (sY b o e hx) e1 (I.base.free b o e n hx);exact⟨sl',e2⟩
 .obtain⟨o',e1⟩:=I.base.there b o e hx;exact free b o' (sY b o e hx) e1 (I.base.free b o e n hx)
 .obtain⟨o',e1⟩:=I.base.there b o e hx;exact there b o' (sY b o e hx) e1
 .obtain⟨m1,e1⟩:=I.base.jd b ps e;obtain⟨m2,e2⟩:=jd b _ e1;exact⟨m1++m2,by rw[e2,Array.append_assoc]⟩
 .obtain⟨m,hn,hl⟩:=I.loc;refine⟨m,ns m hn,λi x v e1 e2 e3=>?_⟩;obtain⟨u,r,l⟩:=hl i x v e1 e2 e3;refine⟨u,r,?_⟩;rcases l with l|⟨k,c,e,z⟩;.exact .inl l
  .exact .inr ⟨k,c,e,cellK x c e _ z⟩
 .obtain⟨v,z⟩:=I.cell x c e;exact⟨v,cellK x c e v z⟩
 .obtain⟨m,⟨o,_,_,ho,_⟩,_⟩:=I.loc;exact free _ o (λz=>(jL _ z).2.1 rfl) ho I.free
 .obtain⟨v,o,ho,hd⟩:=I.cell x c e;exact free c o (λz=>(jL c z).2.2.1 x c e rfl) ho (I.fq x c e)
 .obtain⟨e,n,ne,nf,d⟩:=I.pin p hp;have pU:p.1∉ch:=λz=>(jL p.1 z).2.2.2 p hp rfl;exact⟨keep p.1 p.2 ne nf pU e n,free p.1 p.2 pU e n,ne,nf,d⟩
theorem Inv.un{t':Nat}(I:Inv X pins Y H s)(u:Un X.fs [] H H' s.heap h')(ay:cx X.prog X.w H' h'):Inv X pins Y H' {s with heap:=h',toks:=t'}:=by obtain⟨m,⟨o,es,ep,ho,r⟩,_⟩:=id I.loc;obtain⟨sl,hL⟩:=u.any ho I.free U';exact I.step (g':=s.gens) (d':=s.drawn) (ch:=[]) (λj z=>nomatch z) (λb o j hb j e n=>u.keep b o e n hb U') (λb o j hb j e n=>u.slot b o e n hb U') (λb o j e n=>u.free b o e n U') (λb o j e=>u.there b o e U') u.jc u.hJ u.jd (λm' hm=>by obtain⟨o',lJ,fu,gI,r'⟩:=hm;rw[ho]at gI;cases gI;exact⟨_,lJ,fu,hL,r'⟩) ay I.bare
theorem Inv.call{t':Nat}{d':Drawn}(I:Inv X pins Y H s)(u:Un (eC X.stack) ch H H' s.heap h')(ay:cx X.prog X.w H' h')(hg:AllBare g')(jL:∀b∈ch,(b∈X.ex\/X.s₀.heap.objs.size<=b)/\b≠X.env.locals/\(∀x c,X.env.cells.lookup x=some c->c≠b)/\∀p∈X.pn++pins,p.1≠b):Inv X pins Y H' {s with heap:=h',gens:=g',drawn:=d',toks:=t'}:=by obtain⟨m,⟨o,es,ep,ho,r⟩,_⟩:=id I.loc;obtain⟨sl,hL⟩:=u.any ho I.free λz=>(jL _ z).2.1 rfl;exact I.step (ch:=ch) jL (λb o hL hb hc e n=>u.keep b o e n (λz=>(Wt.mp (I.oz b z)).elim hL hb) hc) (λb o j j hc e n=>u.any e n hc) (λb o hc e n=>u.free b o e n hc) (λb o hc e=>u.there b o e hc) u.jc u.hJ u.jd (λm' hm=>by obtain⟨o',lJ,fu,gI,r'⟩:=hm;rw[ho]at gI;cases gI;exact⟨_,lJ,fu,hL,r'⟩) ay hg
theorem Inv.turned{t':Nat}(I:Inv X pins Y H s)(k:∀b o,b≠it->s.heap.get? b=some o->h'.get? b=some o)(hn:H it=none)(hL:it≠X.env.locals)(h1:it∈X.ex\/X.s₀.heap.objs.size<=it)(h2:∀x c,X.env.cells.lookup x=some c->c≠it)(h3:∀p∈X.pn++pins,p.1≠it):Inv X pins Y H {s with heap:=h',toks:=t'}:=by
 have jf:∀b u,H b=some u->b≠it:=λb u e z=>by rw[z,hn]at e;cases e
 refine I.step (g':=s.gens) (d':=s.drawn) (ch:=[it]) (λb hb=>?_) (λb o j j hc e j=>k b o (λz=>hc #v[z]) e) (λb o j j hc e j=>⟨o.slots,k b o (λz=>hc #v[z]) e⟩) (λj j j j n=>n) (λb o hc e=>⟨o,k b o (λz=>hc #v[z]) e⟩) (λj j e=>e) (λj j j e=>e) (λb ps e=>⟨#[],by rw[e];simp⟩) (λm hm=>?_) (λb u e=>?_) I.bare;.have e:b=it:= ~~~hb;subst e;exact⟨h1,hL,h2,h3⟩
 .obtain⟨o,es,ep,ho,r⟩:=hm;exact⟨o,es,ep,k _ o (Ne.symm hL) ho,r⟩
 .refine(I.ay b u e).fm (λc v hc q=>k c v ?_ q) (λj q=>q) (λj j q=>q) λj j j q=>q;rcases hc with z|z;.rw[z];exact jf b u e
  .exact jf c _ z
theorem Inv.tok(I:Inv X pins Y H s)(t:Nat):Inv X pins Y H {s with toks:=t}:=I.un (h':=s.heap) (t':=t) Un.refl I.ay
theorem Inv.kept(I:Inv X pins Y H s)(k:∀b u,s.heap.get? b=some u->h'.get? b=some u):Inv X pins Y H {s with heap:=h',toks:=t'}:=I.un (Un.kept k) (I.ay.kept k)
theorem Inv.laid{a}(I:Inv X pins Y H s)(k:∀b u,s.heap.get? b=some u->h'.get? b=some u)(hp:s.heap.objs.size<=a)(new:bw X.prog X.w (upd H a o) h' a o):Inv X pins Y (upd H a o) {s with heap:=h',toks:=t'}:=I.un (Un.laid k hp (I.ay.fresh hp)) (I.ay.laid k hp new)
theorem Inv.write{x e}(I:Inv X pins Y H s)(mu:pR (H x))(he:e=x\/H e=some (.own x))(k:∀b u,b≠e->s.heap.get? b=some u->h'.get? b=some u)(oy:∃u,h'.get? e=some u)(new:bw X.prog X.w (upd H x o) h' x o):Inv X pins Y (upd H x o) {s with heap:=h',toks:=t'}:=I.un (Un.write mu he k oy) (I.ay.write mu he k oy new)
theorem Inv.weak(I:Inv X pins Y H s)(hl:SL.length=Y.length)(w:∀(i:Nat)v,SL[i]?=some (some v)->Y[i]?=some (some v)):Inv X pins SL H s:=⟨I.ok,I.os,I.bare,I.base,let⟨m,hn,hV⟩:=I.loc;⟨m,hn,λi x v e1 e2 e3=>hV i x v e1 (w i v e2) e3⟩,I.cell,I.free,I.fq,I.pin,I.ay,hl.trans I.len⟩
theorem Inv.BI(I:Inv X pins Y H s)(h:∀p∈pins',s.heap.get? p.1=some p.2/\H p.1=none/\p.1≠X.env.locals/\p.1∉X.fs/\∀v,p.2.data≠.cell v):Inv X pins' Y H s:=⟨I.ok,I.os,I.bare,I.base,I.loc,I.cell,I.free,I.fq,λp hp=>(Qe.mp hp).elim (λz=>I.pin p (JP _ z)) (h p),I.ay,I.len⟩
theorem wH(hN:N.Nodup){j:Nat}(a:N[i]?=some x)(b:N[j]?=some x):i=j:=by obtain⟨h1,e1⟩:=W6.mp a;obtain⟨h2,e2⟩:=W6.mp b;exact(List.getElem_inj hN).mp (e1.trans e2.symm)
theorem sZ{M:Model}{A:Wp}{E:Value->W2->Prop}{Q:Unit->W2->Prop}(I:Inv X pins Y H s)(hN:X.N.Nodup)(hi:X.N[i]?=some x)(hx:Loc X.env.scope x)(r:RelV v u)(h:∀s',Inv X pins (Y.set i (some v)) H s'->(∃a,J4 a s.heap s'.heap/\(a=X.env.locals\/X.env.cells.lookup x=some a))->Q () s')(hf:X.fn x=true\/X.env.scope.names.lookup x=some .local:=by first|exact .inl rfl|exact .inr rfl|assumption):W8 M A (storeName X.env x u) Q E s:=by
 obtain⟨m,hn,hl⟩:=id I.loc;have MW:(X.env.scope.kind==.class||X.env.scope.kind==.module&&X.env.locals !=X.env.globals)=false:=by rw[I.ok.kind];rfl
 have pV:i<Y.length:=by rw[I.len];exact(W6.mp hi).1
 have gU:=I.gU;have tracked:∀{a:Addr}{h':Heap},(∃o,s.heap.get? a=some o/\H a=none)->J4 a s.heap h'->cx X.prog X.w H h':=λ{a h'}ha hs b ob e=>by
  obtain⟨_,_,oA⟩:=ha;refine(I.ay b ob e).fm (λc w' hc q=>(hs.2 c ?_).trans q) (λf q=>q) (λf f q=>q) λf f f q=>q;rintro rfl;rcases hc with rfl|hc;.rw[oA]at e;cases e
  .rw[oA]at hc;cases hc
 rcases hx with hk|hk
 .refine wpAny_storeName_local hk hn (λh' pW hs=>?_) MW;obtain⟨oL,_,_,gW,_⟩:=id hn;refine h _ ⟨I.ok,I.os,I.bare,⟨λb o e n hb hx=>?_,λb o e n hb hx=>?_,I.base.free,λb o e hx=>?_,I.base.jc,I.base.hJ,I.base.jd⟩,⟨_,pW,λj y v' e1 e2 e3=>?_⟩,λy c e=>?_,I.free,I.fq,λp hp=>?_,tracked ⟨oL,gW,I.free⟩ hs,~~~I.len⟩ ⟨_,hs,.inl rfl⟩;.exact(hs.2 b (WG (WB (Wh e) I.ok.above))).trans (I.base.keep b o e n hb hx)
  .obtain⟨sl,e1⟩:=I.base.slot b o e n hb hx;exact⟨sl,(hs.2 b (WG (WB (Wh e) I.ok.above))).trans e1⟩
  .obtain⟨o',e1⟩:=I.base.there b o e hx;exact⟨o',(hs.2 b (WG (WB (Wh e) I.ok.above))).trans e1⟩
  .by_cases hj:j=i;.subst hj;rw[hi]at e1;cases e1;rw[Wv pV]at e2;cases e2;exact⟨u,r,.inl ⟨hk,U'⟩⟩
   .rw[Wd (Ne.symm hj)]at e2;obtain⟨u',r',q⟩:=hl j y v' e1 e2 e3;refine⟨u',r',?_⟩;rcases q with⟨k,e⟩|⟨k,c,e,z⟩;.refine .inl ⟨k,?_⟩;have:y≠x:=λe=>hj (wH hN e1 (e▸hi));simp[this,e]
    .exact .inr ⟨k,c,e,z.sameBut hs (gU y c e)⟩
  .obtain⟨w',z⟩:=I.cell y c e;exact⟨w',z.sameBut hs (gU y c e)⟩
  .obtain⟨e,n,ne,nf,d⟩:=I.pin p hp;exact⟨(hs.2 p.1 ne).trans e,n,ne,nf,d⟩
 .have jg:X.fn x=true:=by
   rcases hf with z|z;.exact z
   .rw[z]at hk;cases hk
  obtain⟨c,hc⟩:=I.ok.has x (.inl hk);obtain⟨w',z⟩:=I.cell x c hc;refine wpAny_storeName_cell I.ok.kind hk hc z λh' hZ hs=>?_;obtain⟨oc,hoc,hocd⟩:=id z;refine h {s with heap:=h'} ⟨I.ok,I.os,I.bare,⟨λb o e n hb hx=>?_,λb o e n hb hx=>?_,I.base.free,λb o e hx=>?_,I.base.jc,I.base.hJ,I.base.jd⟩,⟨m,hn.sameBut hs (Ne.symm (gU x c hc)),λj y v' e1 e2 e3=>?_⟩,λy c' e=>?_,I.free,I.fq,λp hp=>?_,tracked ⟨oc,hoc,I.fq x c hc⟩ hs,~~~I.len⟩ ⟨c,hs,.inr hc⟩;.exact(hs.2 b (WG (WB (Wh e) (I.ok.kD x c jg hc)))).trans (I.base.keep b o e n hb hx)
  .obtain⟨sl,e1⟩:=I.base.slot b o e n hb hx;exact⟨sl,(hs.2 b (WG (WB (Wh e) (I.ok.kD x c jg hc)))).trans e1⟩
  .obtain⟨o',e1⟩:=I.base.there b o e hx;exact⟨o',(hs.2 b (WG (WB (Wh e) (I.ok.kD x c jg hc)))).trans e1⟩
  .by_cases hj:j=i;.subst hj;rw[hi]at e1;cases e1;rw[Wv pV]at e2;cases e2;exact⟨u,r,.inr ⟨.inl hk,c,hc,hZ⟩⟩
   .rw[Wd (Ne.symm hj)]at e2;obtain⟨u',r',q⟩:=hl j y v' e1 e2 e3;refine⟨u',r',?_⟩;rcases q with q|⟨k,c',e,z'⟩;.exact .inl q
    .refine .inr ⟨k,c',e,z'.sameBut hs ?_⟩;rintro rfl;exact hj (wH hN e1 (I.ok.inj _ _ _ e hc▸hi))
  .by_cases hcc:c'=c;.subst hcc;exact⟨_,hZ⟩
   .obtain⟨w2,z2⟩:=I.cell y c' e;exact⟨w2,z2.sameBut hs hcc⟩
  .obtain⟨e,n,ne,nf,d⟩:=I.pin p hp;refine⟨(hs.2 p.1 ?_).trans e,n,ne,nf,d⟩;intro q;rw[q,hoc]at e;have q':oc=p.2:=WD e;exact d w' (by rw[<-q'];exact hocd)
theorem BJ{Q}(I:Inv X pins Y H s)(hN:X.N.Nodup)(hi:X.N[i]?=some x)(hx:Loc X.env.scope x)(r:RelV v u)(h:∀s',Inv X pins (Y.set i (some v)) H s'->Q () s')(hf:X.fn x=true\/X.env.scope.names.lookup x=some .local:=by first|exact .inl rfl|exact .inr rfl|assumption):W8 M A (storeName X.env x u) Q E s:=sZ I hN hi hx r (λs' I' j=>h s' I') hf
theorem Inv.BK(I:Inv X pins Y H s)(ho:s'.os=s.os)(u:Un (eC X.stack) ch H H' s.heap s'.heap)(ay:cx X.prog X.w H' s'.heap)(hg:AllBare s'.gens)(jL:∀b∈ch,(b∈X.ex\/X.s₀.heap.objs.size<=b)/\b≠X.env.locals/\(∀x c,X.env.cells.lookup x=some c->c≠b)/\∀p∈X.pn++pins,p.1≠b):Inv X pins Y H' s':=by obtain⟨h',g',d',t',o'⟩:=s';have e:o'=s.os:=ho;subst e;exact I.call (g':=g') (t':=t') (d':=d') u ay hg jL
end
abbrev XK:=Value->Option Addr->Hp->Prop
abbrev St:=List (Option V)
variable{W:Addr->Option Addr->St->Hp->Prop}{Y SL:St}
abbrev VK:=V->Hp->Prop
abbrev TE:=St->Hp->VK->Prop
variable{ta te:TE}
abbrev TT:=St->Hp->(Bool->Hp->Prop)->Prop
abbrev TA:=St->Hp->(List V->Hp->Prop)->Prop
structure Ends where
 nx:St->Hp->Prop
 rt:VK
 bk:St->Hp->Prop:=λj j=>False
 ct:St->Hp->Prop:=λj j=>False
abbrev TS:=Ends->St->Hp->Prop
variable{th:Addr->Addr->TS}
def EP(X:Cx)(pins:List (Addr×Obj))(Y:St)(Q:VK)(u:Value)(s':W2):Prop:=∃v H',Inv X pins Y H' s'/\RelV v u/\Q v H'
def TP(X:Cx)(pins:List (Addr×Obj))(Y:St)(Q:Bool->Hp->Prop)(b:Bool)(s':W2):Prop:=∃H',Inv X pins Y H' s'/\Q b H'
def AP(X:Cx)(pins:List (Addr×Obj))(Y:St)(Q:List V->Hp->Prop)(us:List Value)(s':W2):Prop:=∃vs H',Inv X pins Y H' s'/\Vals vs us/\Q vs H'
def SP(X:Cx)(pins:List (Addr×Obj))(D:Ends)(f:Flow)(s':W2):Prop:=match f with|.next=>∃SL H',Inv X pins SL H' s'/\D.nx SL H'|.brk=>∃SL H',Inv X pins SL H' s'/\D.bk SL H'|.cont=>∃SL H',Inv X pins SL H' s'/\D.ct SL H'|.ret u=>∃v SL H',Inv X pins SL H' s'/\RelV v u/\D.rt v H'
def PE(X:Cx)(e:Expr)(t:TE):Prop:=∀(pins:List (Addr×Obj))(s:W2)(Y:St)(H:Hp)(Q:VK),Inv X pins Y H s->t Y H Q->W8 (model X.prog X.w) X.A (eval e X.env) (EP X pins Y Q) X.xe s
def PT(X:Cx)(e:Expr)(t:TT):Prop:=∀(pins:List (Addr×Obj))(s:W2)(Y:St)(H:Hp)(Q:Bool->Hp->Prop),Inv X pins Y H s->t Y H Q->W8 (model X.prog X.w) X.A (isTrue e X.env (eval e X.env)) (TP X pins Y Q) X.xe s
def PW(X:Cx)(e:Expr)(t:TT):Prop:=∀(whole:Sem Value)(pins:List (Addr×Obj))(s:W2)(Y:St)(H:Hp)(Q:Bool->Hp->Prop),Inv X pins Y H s->t Y H Q->W8 (model X.prog X.w) X.A (isTrue e X.env whole) (TP X pins Y Q) X.xe s
theorem PW.pt(h:PW X e t):PT X e t:=h _
def PA(X:Cx)(es:List Expr)(t:TA):Prop:=∀(pos:Pos)(pins:List (Addr×Obj))(s:W2)(Y:St)(H:Hp)(Q:List V->Hp->Prop),Inv X pins Y H s->t Y H Q->W8 (model X.prog X.w) X.A (spliced (Q3 pos (W9 es X.env))) (AP X pins Y Q) X.xe s
def PS(X:Cx)(st:Stmt)(t:TS):Prop:=∀(pins:List (Addr×Obj))(s:W2)(Y:St)(H:Hp)(D:Ends),Inv X pins Y H s->t D Y H->W8 (model X.prog X.w) X.A (exec st X.env) (SP X pins D) X.xe s
def dI(X:Cx)(st:List Stmt)(t:TS):Prop:=∀(pins:List (Addr×Obj))(s:W2)(Y:St)(H:Hp)(D:Ends),Inv X pins Y H s->t D Y H->W8 (model X.prog X.w) X.A (execs st X.env) (SP X pins D) X.xe s
theorem aX{Q}(h:W8 M A t Q E s)(hQ:∀a s,Q a s->Q' a s):W8 M A t Q' E s:=Q9 h hQ λj j x=>x
section
def eW(i:Nat):TE:=λY H Q=>∃v,Y[i]?=some (some v)/\Q v H
def tC(v:V):TE:=λj H Q=>Q v H
theorem MX(hN:X.N[i]?=some x)(hv:sW X.env.scope x)(hd:(x==("__debug__":Str))=false:=by decide)(da:(x==("__classdict__":Str))=false:=by decide):PE X (.Name x pos) (eW i):=by
 intro pins s Y H Q I h;obtain⟨v,e,h⟩:=h;obtain⟨m,hn,hl⟩:=I.loc;obtain⟨u,r,l⟩:=hl i x v hN e hv;have fin:EP X pins Y Q u s:=⟨v,H,I,r,h⟩;rcases l with⟨hk,hm⟩|⟨hk,c,hc,hcell⟩;.exact wpAny_Name (wpAny_loadName_local I.ok.kind hk hn hm fin) hd
 .rcases hk with hk|hk;.exact wpAny_Name (wpAny_loadName_cell I.ok.kind hk hc hcell fin) hd
  .exact wpAny_Name (wpAny_loadName_free I.ok.kind hk hc hcell fin da) hd
theorem MY{i j pos}:PE X (.Constant (.int i) j pos) (tC (.int i)):=λk k k H k I h=>wpAny_Constant_int ⟨.int i,H,I.tok _,⟨_,rfl⟩,h⟩
theorem wI{b j pos}:PE X (.Constant (.bool b) j pos) (tC (.bl b)):=λk k k H k I h=>Constant_bool ⟨.bl b,H,I,rfl,h⟩
theorem MZ{j pos}:PE X (.Constant .none j pos) (tC .ax):=λk k k H k I h=>Constant_none ⟨.ax,H,I,rfl,h⟩
theorem BL{x j pos}:PE X (.Constant (.str x) j pos) (tC (.str x)):=λk k k H k I h=>Calls.Constant_str ⟨.str x,H,I.tok _,⟨_,rfl⟩,h⟩
def Gl(X:Cx)(x:Str):Prop:=X.env.kindOf x=some .globalImplicit
theorem lK(I:Inv X pins Y H s)(hg:Gl X x)(hm:X.mg x=some u)(h:Q u s)(hd:(x==("__debug__":Str))=false:=by decide):W8 (model X.prog X.w) X.A (eval (.Name x pos) X.env) Q E s:=Calls.Name_function_global I.ok.kind hg (Calls.loadGlobal_global %[I.ok.glob|I.mod.glob.keeps I.bk] hm h) hd
theorem mO(I:Inv X pins Y H s)(hg:Gl X x)(hm:X.mg x=none)(hv:Qw x=some u)(h:Q u s)(hn:x≠"__name__":=by decide)(hd:(x==("__debug__":Str))=false:=by decide):W8 (model X.prog X.w) X.A (eval (.Name x pos) X.env) Q E s:=by obtain⟨mb,h1,h2⟩:=I.mod.blt;exact Calls.Name_function_global I.ok.kind hg (Calls.loadGlobal_builtin %[I.ok.glob|I.mod.glob.keeps I.bk] hm %[I.ok.blt|h1.keeps I.bk] ((h2 x hn).trans hv) h) hd
theorem M0(hg:Gl X x)(hm:X.mg x=some u)(r:RelV v u)(hd:(x==("__debug__":Str))=false:=by decide):PE X (.Name x pos) (tC v):=λj j j H j I h=>lK I hg hm ⟨v,H,I,r,h⟩ hd
theorem BM(hg:Gl X x)(hm:X.mg x=none)(hv:Qw x=some u)(r:RelV v u)(hn:x≠"__name__":=by decide)(hd:(x==("__debug__":Str))=false:=by decide):PE X (.Name x pos) (tC v):=λj j j H j I h=>mO I hg hm hv ⟨v,H,I,r,h⟩ hn hd
variable{a b:Expr}{tb:TE}
def tB(t:TE):TT:=λY H Q=>t Y H λx H1=>∃c,x=.bl c/\Q c H1
theorem M1(h:PE X e t)(he:∀whole,isTrue e X.env whole=(do let v<-whole;standAt e.pos;holding [v] (truthy v)):=by intro _;rfl):PT X e (tB t):=by intro pins s Y H Q I hw;refine isTrue_plain (aX (h pins s Y H _ I hw) λv s1 hh=>?_) (he _);obtain⟨x,H1,I1,r1,q1⟩:=hh;obtain⟨d,rfl,q⟩:=q1;cases r1;exact Qk ⟨H1,I1,q⟩
variable{tA BN:TT}{rest:List Expr}
def M3(t u:TT):TT:=λY H Q=>t Y H λc H1=>if c=true then Q true H1 else u Y H1 Q
def M4(t:TT):TT:=λY H Q=>t Y H λc H1=>Q (!c) H1
theorem M5(ha:PT X a tA):PW X (.BoolOp .Or [a] pos) tA:=by intro wh pins s Y H Q I h;refine isTrue_or (aX (ha pins s Y H Q I h) λc s1 e=>?_);cases c with|false=>exact isTrue_or_nil e|true=>exact e
theorem pw_or(ha:PT X a tA)(hb:PW X (.BoolOp .Or (b::rest) pos) BN):PW X (.BoolOp .Or (a::b::rest) pos) (M3 tA BN):=by intro wh pins s Y H Q I h;refine isTrue_or (aX (ha pins s Y H _ I h) λc s1⟨H1,I1,q1⟩=>?_);cases c with|true=>exact⟨H1,I1,q1⟩|false=>exact hb wh pins s1 Y H1 Q I1 q1
theorem M6(ha:PT X a tA):PT X (.UnaryOp .Not a pos) (M4 tA):=by intro pins s Y H Q I h;exact isTrue_not (ha pins s Y H (λc H1=>Q (!c) H1) I h)
def M7(ta tb:TE):TE:=λY H Q=>ta Y H λx H1=>∃c,x=.bl c/\if c=true then tb Y H1 Q else Q (.bl false) H1
theorem M8{op}(h:PE X a t):PE X (.BoolOp op [a] pos) t:=λpins s Y H Q I hw=>BoolOp_one (h pins s Y H Q I hw)
theorem M9(ha:PE X a ta)(hb:PE X (.BoolOp .And (b::rest) pos) tb):PE X (.BoolOp .And (a::b::rest) pos) (M7 ta tb):=by intro pins s Y H Q I h;refine BoolOp_and (aX (ha pins s Y H _ I h) λv s1 hh=>?_);obtain⟨x,H1,I1,r1,q1⟩:=hh;obtain⟨c,rfl,q1⟩:=q1;cases r1;refine Qk ?_;cases c with|true=>exact hb pins s1 Y H1 Q I1 q1|false=>exact⟨.bl false,H1,I1,rfl,q1⟩
end
def cP(K:W3)(H:Hp)(a:Addr)(xs:List V):Prop:=Rd H a (.lst xs)\/∃(o:Obj)(its:Array Value)(n:Nat),K.lookup a=some o/\o.cls=.type "list"/\o.dict=none/\o.data=.seq its n/\its.size<=Wb/\Vals xs its.toList
def c9(K:W3)(H:Hp)(a:Addr)(xs:List V):Prop:=Rd H a (.tup xs)\/∃(o:Obj)(its:Array Value)(n:Nat),K.lookup a=some o/\o.cls=.type "tuple"/\o.data=.seq its n/\its.size<=Wb/\Vals xs its.toList
def M_:Value->Option V|.none=>some .ax|.bool b=>some (.bl b)|.int i _=>some (.int i)|.str x _=>some (.str x)|.bytes b _=>some (.byt b)|.float b _=>some (.flt b)|.ref a=>some (.ref a)|.type n=>some (.ty n)|_=>none
theorem RelV.abs{x}(r:RelV x u):M_ u=some x:=by cases x with|ax=>cases r;rfl|bl _=>cases r;rfl|int _=>obtain⟨t,rfl⟩:=r;rfl|str _=>obtain⟨t,rfl⟩:=r;rfl|byt _=>obtain⟨t,rfl⟩:=r;rfl|flt _=>obtain⟨t,rfl⟩:=r;rfl|ref _=>cases r;rfl|ty _=>cases r;rfl
theorem RelV.inj{x}(r:RelV x u)(q:RelV y u):x=y:=WD (r.abs.symm.trans q.abs)
theorem Vals.inj{xs ys:List V}{us:List Value}(h:Vals xs us)(k:Vals ys us):xs=ys:=by induction h generalizing ys with|nil=>cases k;rfl|cons r t ih=>cases k with|cons r' t'=>rw[r.inj r',ih t']
section
variable{xs ys:List V}
theorem cP.of(h:H a=some (.lst xs)):cP K H a xs:=.inl (.inl h)
theorem c9.of(h:H a=some (.tup xs)):c9 K H a xs:=.inl (.inl h)
theorem Inv.list(I:Inv X pins Y H s)(h:cP X.K H a xs):∃its:List Value,Vals xs its/\PlainL s.heap a its.toArray/\xs.length<=Wb:=by
 rcases h with h|⟨o,its,n,hk,hc,hd,hs,hz,r⟩;.obtain⟨z,its,n,r,e⟩:=h.ok I.ay;exact⟨its,r,⟨_,n,e,rfl,rfl,rfl⟩,z⟩
 .refine⟨its.toList,r,⟨o,n,I.dw a o hk,hc,hd,~~~hs⟩,?_⟩;have e:=r.length;simp only[Qs]at e;lia
theorem Inv.tuple(I:Inv X pins Y H s)(h:c9 X.K H a xs):∃its:List Value,Vals xs its/\IsTup s.heap a its.toArray/\xs.length<=Wb:=by
 rcases h with h|⟨o,its,n,hk,hc,hs,hz,r⟩;.obtain⟨z,its,r,p⟩:=h.ok I.ay;exact⟨its,r,p.tup,z⟩
 .refine⟨its.toList,r,⟨o,I.dw a o hk,hc,n,~~~hs⟩,?_⟩;have e:=r.length;simp only[Qs]at e;lia
theorem Inv.BO(I:Inv X pins Y H s)(h:cP X.K H a xs)(h':cP X.K H a ys):xs=ys:=by
 obtain⟨its,r,⟨o,n,e,_,_,d⟩,_⟩:=I.list h;obtain⟨its',r',⟨o',n',e',_,_,d'⟩,_⟩:=I.list h';rw[e]at e';cases e';rw[d]at d';injection d' with d1 _;have:its=its':=by simpa using congrArg Array.toList d1
 subst this;exact r.inj r'
theorem Inv.BP(I:Inv X pins Y H s)(h:c9 X.K H a xs)(h':c9 X.K H a ys):xs=ys:=by
 obtain⟨its,r,⟨o,e,_,n,d⟩,_⟩:=I.tuple h;obtain⟨its',r',⟨o',e',_,n',d'⟩,_⟩:=I.tuple h';rw[e]at e';cases e';rw[d]at d';injection d' with d1 _;have:its=its':=by simpa using congrArg Array.toList d1
 subst this;exact r.inj r'
end
abbrev Cx.gJ(X:Cx)(E:Value->W2->Prop):Cx:={X with xe:=E}
abbrev Cx.fM(X:Cx):Cx:=X.gJ λj j=>False
theorem Cx.Ok.gJ(ok:X.Ok)(E:Value->W2->Prop):(X.gJ E).Ok:=⟨ok.mod,ok.kind,ok.glob,ok.blt,ok.above,ok.inj,ok.has,ok.kD,ok.hd,ok.frames,ok.mK,ok.mL,ok.bs,ok.iJ,ok.lH,ok.lI,ok.f7,ok.je⟩
theorem Cx.Ok.kE(ok:(X.gJ E).Ok):X.Ok:=⟨ok.mod,ok.kind,ok.glob,ok.blt,ok.above,ok.inj,ok.has,ok.kD,ok.hd,ok.frames,ok.mK,ok.mL,ok.bs,ok.iJ,ok.lH,ok.lI,ok.f7,ok.je⟩
theorem Inv.gJ(I:Inv X pins Y H s)(E:Value->W2->Prop):Inv (X.gJ E) pins Y H s:=⟨I.ok.gJ E,I.os,I.bare,I.base,I.loc,I.cell,I.free,I.fq,I.pin,I.ay,I.len⟩
theorem Inv.kE(I:Inv (X.gJ E) pins Y H s):Inv X pins Y H s:=⟨I.ok.kE,I.os,I.bare,I.base,I.loc,I.cell,I.free,I.fq,I.pin,I.ay,I.len⟩
theorem SP.kE{f}(h:SP (X.gJ E) pins D f s'):SP X pins D f s':=by cases f with|next=>obtain⟨SL,H',I,q⟩:=h;exact⟨SL,H',I.kE,q⟩|brk=>obtain⟨SL,H',I,q⟩:=h;exact⟨SL,H',I.kE,q⟩|cont=>obtain⟨SL,H',I,q⟩:=h;exact⟨SL,H',I.kE,q⟩|ret u=>obtain⟨v,SL,H',I,r,q⟩:=h;exact⟨v,SL,H',I.kE,r,q⟩
theorem dI.fM{st:List Stmt}{t:TS}(h:dI X.fM st t):dI X st t:=λpins s Y H D I hw=>Q9 (h pins s Y H D (I.gJ _) hw) (λj j q=>q.kE) λj j z=>False.elim z
section
variable{st:Stmt}{rest:List Stmt}{t u:TS}
def Na:TS:=λD Y H=>D.nx Y H
def Nb(t u:TS):TS:=λD Y H=>t {D with nx:=u D} Y H
theorem Nc:dI X [] Na:=λj j Y H j I h=>JX ⟨Y,H,I,h⟩
theorem Nf(h1:PS X st t)(h2:dI X rest u):dI X (st::rest) (Nb t u):=by intro pins s Y H D I h;refine wpAny_execs_cons (aX (h1 pins s Y H {D with nx:=u D} I h) λf s1 q=>?_);cases f with|next=>obtain⟨SL,H',I',q⟩:=q;exact h2 pins s1 SL H' D I' q|ret v=>exact q|brk=>exact q|cont=>exact q
theorem Ng(h1:PS X st t):dI X [st] t:=by intro pins s Y H D I h;refine wpAny_execs_cons (aX (h1 pins s Y H D I h) λf s1 q=>?_);cases f with|next=>exact JX q|ret v=>exact q|brk=>exact q|cont=>exact q
theorem Inv.quiet(I:Inv X pins Y H s):interactive X.env=false:=#v[interactive,I.ok.kind]
def wJ(te:TE):TS:=λD Y H=>te Y H λj H1=>D.nx Y H1
theorem BQ(he:PE X e te)(hs:JB e none pos.line X.env=pure false:=by rfl):PS X (.Expr e pos) (wJ te):=by intro pins s Y H D I h;exact wpAny_Expr_any (aX (he pins s Y H _ I h) λv s1⟨x,H1,I1,r1,q1⟩=>⟨Y,H1,I1,q1⟩) I.quiet hs
def Nh(te:TE):TS:=λD Y H=>te Y H D.rt
theorem BR(he:PE X e te):PS X (.Return (some e) pos) (Nh te):=by intro pins s Y H D I h;exact wpAny_Return_some (aX (he pins s Y H _ I h) λv s1⟨x,H1,I1,r1,q1⟩=>⟨x,Y,H1,I1,r1,q1⟩)
def Ni(c:TT)(t u:TS):TS:=λD Y H=>c Y H λb H1=>if b=true then t D Y H1 else u D Y H1
theorem Nj{a}(hc:PT X c tc)(ha:dI X a t)(hb:dI X b u):PS X (.If c a b pos) (Ni tc t u):=by intro pins s Y H D I h;refine wpAny_If (aX (hc pins s Y H _ I h) λd s1⟨H1,I1,q1⟩=>?_);cases d with|true=>exact ha pins s1 Y H1 D I1 q1|false=>exact hb pins s1 Y H1 D I1 q1
def Nk:TS:=λj j j=>False
theorem Nl:PS X st Nk:=λj j j j j j h=>h.elim
end
abbrev TG:=V->St->Hp->(St->Hp->Prop)->Prop
abbrev lM:=List V->St->Hp->(St->Hp->Prop)->Prop
def PG(X:Cx)(target:Expr)(t:TG):Prop:=∀(pins:List (Addr×Obj))(s:W2)(Y:St)(H:Hp)(v:V)(u:Value)(Q:St->Hp->Prop),Inv X pins Y H s->RelV v u->t v Y H Q->W8 (model X.prog X.w) X.A (assign target X.env u) (λj s'=>∃SL H',Inv X pins SL H' s'/\Q SL H') X.xe s
def h9(X:Cx)(ts:List Expr)(t:lM):Prop:=∀(pins:List (Addr×Obj))(s:W2)(Y:St)(H:Hp)(vs:List V)(us:List Value)(Q:St->Hp->Prop),Inv X pins Y H s->Vals vs us->t vs Y H Q->W8 (model X.prog X.w) X.A (assignInOrder ((Qo ts X.env).map (·.2)) us) (λj s'=>∃SL H',Inv X pins SL H' s'/\Q SL H') X.xe s
abbrev BS:=V->V->V->Hp->(Hp->Prop)->Prop
def BV(X:Cx)(t:BS):Prop:=∀(pins:List (Addr×Obj))(s:W2)(Y:St)(H:Hp)(o i v:V)(ov iv u:Value)(Q:Hp->Prop),Inv X pins Y H s->RelV o ov->RelV i iv->RelV v u->t o i v H Q->W8 (model X.prog X.w) X.A (setItem ov iv u) (λj s'=>∃H',Inv X pins Y H' s'/\Q H') X.xe s
def s_(i:Nat):TG:=λv Y H Q=>Q (Y.set i (some v)) H
theorem BW(hN:X.N.Nodup)(hi:X.N[i]?=some x)(hx:Loc X.env.scope x)(hf:X.fn x=true\/X.env.scope.names.lookup x=some .local:=by first|exact .inl rfl|exact .inr rfl|assumption):PG X (.Name x pos) (s_ i):=by intro pins s Y H v u Q I r h;exact wpAny_assign_Name (BJ I hN hi hx r (λs' I'=>⟨_,H,I',h⟩) hf)
def Nm:lM:=λvs Y H Q=>vs=[]/\Q Y H
def Nn(t:TG)(u:lM):lM:=λvs Y H Q=>∃v r,vs=v::r/\t v Y H λSL H'=>u r SL H' Q
theorem BX:h9 X [] Nm:=by intro pins s Y H vs us Q I r h;obtain⟨e,h⟩:=h;subst e;cases r;exact assignInOrder_nil ⟨Y,H,I,h⟩
theorem BY{u}(h1:PG X e t)(h2:h9 X es u)(hs:(Qo (e::es) X.env).map (·.2)=assign e X.env::(Qo es X.env).map (·.2):=by rfl):h9 X (e::es) (Nn t u):=by intro pins s Y H vs us Q I r h;obtain⟨v,vr,e1,h⟩:=h;subst e1;cases r with|cons r rr=>rw[hs];refine assignInOrder_cons (aX (h1 pins s Y H _ _ _ I r h) λj s1 hh=>?_);obtain⟨On,H1,I1,q1⟩:=hh;exact h2 pins s1 On H1 _ _ Q I1 rr q1
def Nq(K:W3)(n:Nat)(t:lM):TG:=λv Y H Q=>∃a xs,v=.ref a/\c9 K H a xs/\xs.length=n/\t xs Y H Q
theorem BZ(hc:X.calm=true)(h:h9 X es t)(hn:(Qo es X.env).length=n:=by rfl)(cE:(Qo es X.env).findIdx? (·.1)=none:=by rfl):PG X (.Tuple es k pos) (Nq X.K n t):=by intro pins s Y H v u Q I r hw;obtain⟨a,xs,e1,hq,hl,hw⟩:=hw;subst e1;cases r;obtain⟨its,rv,ht,hz⟩:=I.tuple hq;refine assign_Tuple_tuple (I.ok.hd hc) ht (by simp[hn,<-hl,rv.length]) cE λh' hx=>?_;have I1:Inv X pins Y H {s with heap:=h'}:=I.kept (t':=s.toks) λb o e=>hx b o (WG (Wh e)) e;exact h pins _ Y H xs _ Q I1 (~~~rv) hw
def Nr(to ti:TE)(t:BS):TG:=λv Y H Q=>to Y H λo H1=>ti Y H1 λi H2=>t o i v H2 λH3=>Q Y H3
theorem Nt{i}(ho:PE X o to)(hi:PE X i ti)(hs:BV X t)(ha:∀v,assign (.Subscript o i pos) X.env v=(do
 let ov<-holding [v] (eval o X.env)let iv<-holding [v,ov] (eval i X.env)standAt pos
 holding [v,ov,iv] (setItem ov iv v)release [v,ov,iv] []):=by intro _;rfl):PG X (.Subscript o i pos) (Nr to ti t):=by intro pins s Y H v u Q I r h;rw[ha];refine W0 (WC (aX (ho pins s Y H _ I h) λov s1⟨x,H1,I1,r1,q1⟩=>?_));refine W0 (WC (aX (hi pins s1 Y H1 _ I1 q1) λiv s2⟨y,H2,I2,r2,q2⟩=>?_));refine W0 (wpAny_standAt (W0 (WC (aX (hs pins s2 Y H2 x y v ov iv u _ I2 r1 r2 r q2) λ_ s3⟨H3,I3,q3⟩=>?_))));exact wpAny_release ⟨Y,H3,I3,q3⟩
def tf(te:TE)(g:TG):TS:=λD Y H=>te Y H λx H1=>g x Y H1 D.nx
theorem B0(he:PE X e te)(hg:PG X tg g)(hs:swapsWithSole [tg] e pos.line X.env=pure false:=by rfl)(hw:swappedStores [tg] e X.env=pure none:=by rfl)(h1:(Qo [tg] X.env).map (·.2)=[assign tg X.env]:=by rfl):PS X (.Assign [tg] e pos) (tf te g):=by intro pins s Y H D I h;refine wpAny_Assign_stores (aX (he pins s Y H _ I h) λv s1 hh=>?_) hs hw;obtain⟨x,H1,I1,r1,q1⟩:=hh;rw[h1];exact aX (hg pins s1 Y H1 x v _ I1 r1 q1) λj s2 q=>q
theorem Nu(hN:X.N.Nodup)(hi:X.N[i]?=some x)(hx:Loc X.env.scope x)(he:PE X e te)(hs:JB e (some (.Name x pos')) pos.line X.env=pure false:=by rfl)(hf:X.fn x=true\/X.env.scope.names.lookup x=some .local:=by first|exact .inl rfl|exact .inr rfl|assumption):PS X (.Assign [.Name x pos'] e pos) (tf te (s_ i)):=by intro pins s Y H D I h;refine wpAny_Assign_Name (aX (he pins s Y H _ I h) λv s1 hh=>?_) hs;obtain⟨y,H1,I1,r1,q1⟩:=hh;exact BJ I1 hN hi hx r1 (λs2 I2=>⟨_,H1,I2,q1⟩) hf
def B3(c:TT)(tb:TS):TS:=λD Y H=>∃W:Nat->St->Hp->Prop,(∃m,W m Y H)/\∀m Y H,W m Y H->c Y H λb H1=>if b=true then∃N:St->Hp->Prop,(∀SL H',N SL H'->∃m',m'<m/\W m' SL H')/\tb {D with nx:=N,ct:=N,bk:=D.nx} Y H1 else D.nx Y H1
theorem Nv(hp:PassesOwn (model X.prog X.w) X.A X.env X.xe)(hc:PT X c tc)(hb:dI X body tb):PS X (.While c body [] pos) (B3 tc tb):=by intro pins s Y H D I h;obtain⟨W,⟨m0,w0⟩,turn⟩:=h;refine wpAny_While (codeAny_whileLoop (λn s'=>∃SL H',Inv X pins SL H' s'/\W n SL H') ?_ m0 ⟨Y,H,I,w0⟩);rintro n s1⟨On,H1,I1,w1⟩;refine Jb hp (aX (hc pins s1 On H1 _ I1 (turn n On H1 w1)) λb s2⟨H2,I2,q2⟩=>?_);cases b with
 |true=>obtain⟨N,hN,q2⟩:=q2;rw[if_pos rfl];refine Jb hp (aX (hb pins s2 On H2 _ I2 q2) λf s3 q3=>?_);cases f with|next=>obtain⟨K',H3,I3,n3⟩:=q3;obtain⟨m',hm,w3⟩:=hN K' H3 n3;exact⟨m',hm,K',H3,I3,w3⟩|cont=>obtain⟨K',H3,I3,n3⟩:=q3;obtain⟨m',hm,w3⟩:=hN K' H3 n3;exact⟨m',hm,K',H3,I3,w3⟩|brk=>exact q3|ret v=>exact q3
 |false=>rw[if_neg WN];exact JX ⟨On,H2,I2,q2⟩
structure It where
 go:Nat->Hp->Prop
 pX:Nat->Hp->V->Hp->Prop
 stop:Nat->Hp->Prop
def fz(X:Cx)(pins:List (Addr×Obj))(H:Hp)(b:Addr):Prop:=H b=none/\b≠X.env.locals/\b∉X.fs/\(b∈X.ex\/X.s₀.heap.objs.size<=b)/\(∀x c,X.env.cells.lookup x=some c->c≠b)/\∀p∈X.pn++pins,p.1≠b
theorem Inv.jh(I:Inv X pins Y H s)(hb:s.heap.objs.size<=b)(hn:H' b=none):fz X pins H' b:=by
 refine⟨hn,Qq (WB I.lt hb),I.BH hb,.inr (Wy I.sz hb),λx c e z=>?_,λp hp z=>?_⟩;.obtain⟨v,q⟩:=I.cell x c e;exact absurd (WB q.lt %[z|hb]) (Qd _)
 .exact absurd (WB (Wh (I.pin p hp).1) %[z|hb]) (Qd _)
structure Turn(P:Wn)(w:Ws)(K:W3)(tg:Expr)(J:It)(fp:List Addr)(it:Addr)(tn:Nat->Heap->Prop):Prop where
 mem:it∈fp
 obj:∀i h,tn i h->∀b∈fp,∃o,h.get? b=some o/\∀v,o.data≠.cell v
 keep:∀i h h',tn i h->(∀b∈fp,∀o,h.get? b=some o->h'.get? b=some o)->tn i h'
 item:∀(X:Cx),X.prog=P->X.w=w->X.K=K->X.calm=true->∀(i:Nat)(pins:List (Addr×Obj))(s:W2)(Y:St)(H:Hp)(E:Value->W2->Prop),Inv X pins Y H s->(∀b∈fp,fz X pins H b)->tn i s.heap->J.go i H->W8 (model P w) X.A (QE (.ref it)) (λr s1=>∃u,r=some u/\W8 (model P w) X.A (JC tg (.ref it) u) (λj s2=>∃x H',Inv X pins Y H' s2/\RelV x u/\J.pX i H x H'/\tn (i+1) s2.heap/\∀b∈fp,H' b=none) E s1) E s
 done:∀(X:Cx),X.prog=P->X.w=w->X.K=K->X.calm=true->∀(i:Nat)(pins:List (Addr×Obj))(s:W2)(Y:St)(H:Hp)(E:Value->W2->Prop),Inv X pins Y H s->(∀b∈fp,fz X pins H b)->tn i s.heap->J.stop i H->W8 (model P w) X.A (QE (.ref it)) (λr s1=>r=none/\Inv X pins Y H s1) E s
 self:∀(A:Wp)(i:Nat)(s:W2)(Q:Value->W2->Prop)(E:Value->W2->Prop),tn i s.heap->Q (.ref it) s->W8 (model P w) A (pyIter (.ref it)) Q E s
abbrev TI:=St->Hp->(It->Hp->Prop)->Prop
def B4(X:Cx)(pins:List (Addr×Obj))(Y:St)(tg:Expr)(R:It->Hp->Prop)(tj:Value)(s2:W2):Prop:=∃(it:Addr)(fp:List Addr)(tn:Nat->Heap->Prop)(J:It)(H':Hp),tj=.ref it/\Inv X pins Y H' s2/\Turn X.prog X.w X.K tg J fp it tn/\tn 0 s2.heap/\(∀b∈fp,fz X pins H' b)/\R J H'
def PI(X:Cx)(tg iter:Expr)(wi:TI):Prop:=∀(pins:List (Addr×Obj))(s:W2)(Y:St)(H:Hp)(R:It->Hp->Prop),Inv X pins Y H s->wi Y H R->W8 (model X.prog X.w) X.A (eval iter X.env) (λv s1=>W8 (model X.prog X.w) X.A (pyIter v) (B4 X pins Y tg R) X.xe s1) X.xe s
theorem tm{n Q vs}(ho:s.heap.get? it=some o)(hc:o.cls=.type n)(hd:o.data=.fields vs)(hn:["enumerate","zip","dict_itemiterator","dict_reverseitemiterator","odict_iterator","itertools.zip_longest","itertools.pairwise"].contains n=false)(hQ:Q () s):W8 M A (JC tg (.ref it) u) Q E s:=by unfold JC;cases tg<;>first|exact W4 hQ|(cases u<;>first|exact W4 hQ|(refine W0 (wpAny_load ho ?_);rw[hc,hd];show W8 M A (if(["enumerate","zip","dict_itemiterator","dict_reverseitemiterator","odict_iterator","itertools.zip_longest","itertools.pairwise"].contains n&&vs[0]?==some (WW _))=true then _ else _) Q E s;rw[if_neg (by intro h;rw[hn,Bool.false_and]at h;cases h)];exact W4 hQ))
def B5(K:W3)(a:Addr):It:=⟨λi H=>∃xs x,cP K H a xs/\xs[i]?=some x,λi H x H'=>H'=H/\∀xs,cP K H a xs->xs[i]?=some x,λi H=>∃xs,cP K H a xs/\xs.length<=i⟩
def wK(K:W3)(a:Addr):It:=⟨λi H=>∃xs x,c9 K H a xs/\xs[i]?=some x,λi H x H'=>H'=H/\∀xs,c9 K H a xs->xs[i]?=some x,λi H=>∃xs,c9 K H a xs/\xs.length<=i⟩
def tE(lo:Int)(n:Nat):It:=⟨λi j=>i<n,λi H x H'=>H'=H/\x=.int (lo+i),λi j=>n<=i⟩
theorem Nw(a it:Addr):Turn P w K tg (B5 K a) [it] it λi h=>h.IsListIter it a i where
 mem:=by simp
 obj:=λi h st b hb=>by have e:b=it:= ~~~hb;subst e;obtain⟨o,e,c,d⟩:=st;exact⟨o,e,λv z=>by rw[d]at z;cases z⟩
 keep:=λi h h' st k=>st.at λo e=>k it U' o e
 item:=by intro X hP hw hK hc i pins s Y H E I hf st hg;subst hP hw hK;obtain⟨xs,x,hq,hx⟩:=hg;obtain⟨its,rv,p,hz⟩:=I.list hq;obtain⟨u,hu,ru⟩:=rv.get hx;obtain⟨f0,f1,f2,f3,f4,f5⟩:=hf it U';refine wpAny_pyNext_list_item st p.isList (x:=u) (~~~hu) λh' eE sb=>?_;have I1:Inv X pins Y H {s with heap:=h'}:=I.turned (t':=s.toks) (λb o hb e=>(sb.2 b hb).trans e) f0 f1 f3 f4 f5;obtain⟨o,e,c,d⟩:=id eE;exact⟨u,rfl,tm (s:={s with heap:=h'}) e c d Z' ⟨x,H,I1,ru,⟨rfl,λys hy=>%[I.BO hy hq|hx]⟩,eE,λb hb=>(hf b hb).1⟩⟩
 done:=by intro X hP hw hK hc i pins s Y H E I hf st hg;subst hP hw hK;obtain⟨xs,hq,hx⟩:=hg;obtain⟨its,rv,p,hz⟩:=I.list hq;obtain⟨f0,f1,f2,f3,f4,f5⟩:=hf it U';have hl:=rv.length;exact wpAny_pyNext_list_end (I.ok.hd hc) st p.isList V' λh' eb=>⟨rfl,I.turned (t':=s.toks) (λb o hb e=>eb b o hb e) f0 f1 f3 f4 f5⟩
 self:=λj j j j j st h=>wpAny_pyIter_listiter st h
theorem Nx(a it:Addr):Turn P w K tg (wK K a) [it] it λi h=>h.IsTupleIter it a i where
 mem:=by simp
 obj:=λi h st b hb=>by have e:b=it:= ~~~hb;subst e;obtain⟨o,e,c,d⟩:=st;exact⟨o,e,λv z=>by rw[d]at z;cases z⟩
 keep:=λi h h' st k=>st.at λo e=>k it U' o e
 item:=by intro X hP hw hK hc i pins s Y H E I hf st hg;subst hP hw hK;obtain⟨xs,x,hq,hx⟩:=hg;obtain⟨its,rv,p,hz⟩:=I.tuple hq;obtain⟨u,hu,ru⟩:=rv.get hx;obtain⟨f0,f1,f2,f3,f4,f5⟩:=hf it U';refine wpAny_pyNext_tuple_item st (show s.heap.IsTuple a its.toArray from p) (x:=u) (~~~hu) λh' eE sb=>?_;have I1:Inv X pins Y H {s with heap:=h'}:=I.turned (t':=s.toks) (λb o hb e=>(sb.2 b hb).trans e) f0 f1 f3 f4 f5;obtain⟨o,e,c,d⟩:=id eE;exact⟨u,rfl,tm (s:={s with heap:=h'}) e c d Z' ⟨x,H,I1,ru,⟨rfl,λys hy=>%[I.BP hy hq|hx]⟩,eE,λb hb=>(hf b hb).1⟩⟩
 done:=by intro X hP hw hK hc i pins s Y H E I hf st hg;subst hP hw hK;obtain⟨xs,hq,hx⟩:=hg;obtain⟨its,rv,p,hz⟩:=I.tuple hq;obtain⟨f0,f1,f2,f3,f4,f5⟩:=hf it U';have hl:=rv.length;exact wpAny_pyNext_tuple_end (I.ok.hd hc) st (show s.heap.IsTuple a its.toArray from p) V' λh' eb=>⟨rfl,I.turned (t':=s.toks) (λb o hb e=>eb b o hb e) f0 f1 f3 f4 f5⟩
 self:=λj j j j j st h=>wpAny_pyIter_tupleiter st h
theorem Ny(it:Addr)(lo:Int)(n:Nat):Turn P w K tg (tE lo n) [it] it λi h=>IsRangeIter h it (lo+(i:Nat)*1) ((n:Int)-(i:Nat)) 1where
 mem:=by simp
 obj:=λi h st b hb=>by have e:b=it:= ~~~hb;subst e;exact⟨_,st,λv z=>by have z':Data.fields _=Data.cell v:=z;cases z'⟩
 keep:=λi h h' st k=>k it U' _ st
 item:=by intro X hP hw hK hc i pins s Y H E I hf st hg;subst hP hw hK;obtain⟨f0,f1,f2,f3,f4,f5⟩:=hf it U';have W:=Walks.range (prog:=X.prog) (w:=X.w) (I.ok.hd hc) it lo 1 n;refine W.item i s _ _ hg st λv h' tk hv eE kk=>?_;obtain⟨t,rfl⟩:=hv;have I1:Inv X pins Y H {s with heap:=h',toks:=tk}:=I.turned (λb o hb e=>kk b o (~~~hb) e) f0 f1 f3 f4 f5;refine⟨_,rfl,tm (s:={s with heap:=h',toks:=tk}) (n:="range_iterator") eE rfl rfl Z' ⟨.int (lo+i),H,I1,⟨t,?_⟩,⟨rfl,rfl⟩,eE,λb hb=>(hf b hb).1⟩⟩;rw[Int.mul_one]
 done:=by intro X hP hw hK hc i pins s Y H E I hf st hg;subst hP hw hK;obtain⟨f0,f1,f2,f3,f4,f5⟩:=hf it U';exact wpAny_pyNext_range_end (I.ok.hd hc) st (by have:n<=i:=hg;lia) λh' eb=>⟨rfl,I.turned (t':=s.toks) (λb o hb e=>eb b o hb e) f0 f1 f3 f4 f5⟩
 self:=λj j j j j st h=>wpAny_pyIter_rangeiter st h
theorem Nz{R:It->Hp->Prop}{lo hi:Int}{t u v:Tok}{tk:Nat}(I:Inv X pins Y H s)(h1:-2^62<=lo)(h2:lo<2^62)(h3:-2^62<=hi)(h4:hi<2^62)(q:R (tE lo (hi-lo).toNat) H):W8 (model X.prog X.w) X.A (pyIter (.ref s.heap.objs.size)) (B4 X pins Y tg R) E {s with heap:=s.heap.push {cls:=.type "range",data:=.fields #[.int lo t,.int hi u,.int 1 v]},toks:=tk}:=by
 refine wpAny_pyIter_range (IsRange.new ..) (small_one h1 h2 h3 h4) ?_;have I1:Inv X pins Y H {s with heap:=s.heap.push {cls:=.type "range",data:=.fields #[.int lo t,.int hi u,.int 1 v]},toks:=tk}:=I.kept λb o e=>W5 _ e;refine⟨(s.heap.push {cls:=.type "range",data:=.fields #[.int lo t,.int hi u,.int 1 v]}).objs.size,[(s.heap.push {cls:=.type "range",data:=.fields #[.int lo t,.int hi u,.int 1 v]}).objs.size],_,_,H,rfl,I1.kept (t':=tk) λb o e=>W5 _ e,Ny _ lo (hi-lo).toNat,?_,λb hb=>?_,q⟩
 .have e1:lo+((0:Nat):Int)*1=lo:=by simp
  have e2:(((hi-lo).toNat:Nat):Int)-((0:Nat):Int)=Builtin.Range.rangeSize lo hi 1:=by rw[rangeSize_one];split<;>lia
  show IsRangeIter _ _ (lo+((0:Nat):Int)*1) ((((hi-lo).toNat:Nat):Int)-((0:Nat):Int)) 1;rw[e1,e2];exact Wf _ rfl
 .have e:b=(s.heap.push {cls:=.type "range",data:=.fields #[.int lo t,.int hi u,.int 1 v]}).objs.size:= ~~~hb;subst e;exact I1.jh (Wc _) (I1.ay.fresh (Wc _))
def NA(ta:TA):TI:=λY H R=>ta Y H λvs H1=>∃j:Int,vs=[.int j]/\-2^62<=j/\j<2^62/\R (tE 0 j.toNat) H1
theorem NB{a:Expr}{ta:TA}{p pos:Pos}(hg:Gl X "range")(hm:X.mg "range"=none)(ha:PA X [a] ta)(hs:W9 [a] X.env=[(false,eval a X.env)]:=by rfl):PI X tg (.Call (.Name "range" p) [a] [] pos) (NA ta):=by intro pins s Y H R I h;refine Call_ (mO I hg hm boot_range (QG (aX (ha pos pins s Y H _ I h) λus s1 hh=>?_) hs rfl));obtain⟨vs,H1,I1,r1,q1⟩:=hh;obtain⟨j,e,q1,q2,q⟩:=q1;subst e;cases r1 with|cons r rr=>cases rr;obtain⟨t,rfl⟩:=r;exact call_range_1 (Nz I1 Y' Y' q1 q2 (~~~q))
def NC(wi:TI)(g:TG)(tb:TS):TS:=λD Y H=>wi Y H λJ H1=>∃W:Nat->Nat->St->Hp->Prop,(∃m,W 0 m Y H1)/\∀i m Y H,W i m Y H->J.stop i H/\D.nx Y H\/J.go i H/\∃N:St->Hp->Prop,(∀SL H',N SL H'->∃m',m'<m/\W (i+1) m' SL H')/\∀x H',J.pX i H x H'->g x Y H' λPv H2=>tb {D with nx:=N,ct:=N,bk:=D.nx} Pv H2
def pY(fp:List Addr)(h:Heap):List (Addr×Obj):=fp.filterMap λb=>(h.get? b).map λo=>(b,o)
theorem tF(hb:b∈fp)(e:h.get? b=some o):(b,o)∈pY fp h:=List.mem_filterMap.mpr ⟨b,hb,by rw[e];rfl⟩
theorem ND(hp:p∈pY fp h):p.1∈fp/\h.get? p.1=some p.2:=by obtain⟨b,hb,e⟩:=List.mem_filterMap.mp hp;cases q:h.get? b with|none=>rw[q]at e;cases e|some o=>rw[q]at e;have e':(b,o)=p:=WD e;subst e';exact⟨hb,q⟩
theorem Inv.pinned(I:Inv X pins Y H s)(hf:∀b∈fp,fz X pins H b)(ho:∀b∈fp,∃o,s.heap.get? b=some o/\∀v,o.data≠.cell v):Inv X (pins++pY fp s.heap) Y H s:=I.BI λp hp=>(Qe.mp hp).elim (λz=>I.pin p (Qa _ z)) λz=>by obtain⟨hb,e⟩:=ND z;obtain⟨f0,f1,f2,_⟩:=hf p.1 hb;obtain⟨o,e',d⟩:=ho p.1 hb;rw[e]at e';cases e';exact⟨e,f0,f1,f2,d⟩
theorem Inv.tG(I:Inv X (pins++pl) Y H s):Inv X pins Y H s:=I.BI λp hp=>I.pin p (Qa _ (JP _ hp))
theorem NF(hp:PassesOwn (model X.prog X.w) X.A X.env X.xe)(hc:X.calm=true)(hi:PI X tg iter wi)(hg:PG X tg g)(hb:dI X body tb)(hs:∀x,Jj iter X.env x=pure x:=by intro _;rfl):PS X (.For tg iter body [] pos) (NC wi g tb):=by
 intro pins s Y H D I h;refine wpAny_For (aX (hi pins s Y H _ I h) λv s1 h1=>aX h1 λtj s2 h2=>?_) hs;obtain⟨it,fp,tn,J,H2,e,I2,T,st2,f2,W,⟨m0,w0⟩,turn⟩:=h2;subst e;have wL:∀{H':Hp},(∀b∈fp,H' b=none)->∀b∈fp,fz X pins H' b:=λhn b hb=>⟨hn b hb,(f2 b hb).2⟩;refine codeAny_forLoop_any (λn s'=>∃i SL H',Inv X pins SL H' s'/\tn i s'.heap/\(∀b∈fp,H' b=none)/\W i n SL H') ?_ m0 ⟨0,Y,H2,I2,st2,λb hb=>(f2 b hb).1,w0⟩;rintro n s3⟨i,K',H3,I3,iK,fr3,w3⟩;rcases turn i n K' H3 w3 with⟨stop,qn⟩|⟨go,N,hN,step⟩;.refine Jb hp (aX (T.done X rfl rfl rfl hc i pins s3 K' H3 X.xe I3 (wL fr3) iK stop) λr s4⟨hr,I4⟩=>?_);subst hr;exact JX ⟨K',H3,I4,qn⟩
 .refine Jb hp (aX (T.item X rfl rfl rfl hc i pins s3 K' H3 X.xe I3 (wL fr3) iK go) λr s4⟨u,hr,h4⟩=>?_);subst hr;refine Jb hp (aX h4 λj s5 hh=>?_);obtain⟨x,H5,I5,r5,y5,st5,fr5⟩:=hh;have NG:=I5.pinned (wL fr5) (T.obj _ _ st5);refine Jb hp (aX (hg _ s5 K' H5 x u _ NG r5 (step x H5 y5)) λj s6 hh=>?_);obtain⟨GE,H6,I6,q6⟩:=hh;refine Jb hp (aX (hb _ s6 GE H6 _ I6 q6) λf s7 q7=>?_);have again:∀{KE:St}{H7:Hp},Inv X (pins++pY fp s5.heap) KE H7 s7->N KE H7->∃m,m<n/\∃i SL H',Inv X pins SL H' s7/\tn i s7.heap/\(∀b∈fp,H' b=none)/\W i m SL H':=λ{KE H7}I7 n7=>by obtain⟨m',hm,w7⟩:=hN KE H7 n7;refine⟨m',hm,i+1,KE,H7,I7.tG,T.keep _ _ _ st5 λb hb o e=>(I7.pin (b,o) (Qa _ (Qa _ (tF hb e)))).1,λb hb=>?_,w7⟩;obtain⟨o,e,d⟩:=T.obj _ _ st5 b hb;exact(I7.pin (b,o) (Qa _ (Qa _ (tF hb e)))).2.1
  cases f with|next=>obtain⟨KE,H7,I7,n7⟩:=q7;exact again I7 n7|cont=>obtain⟨KE,H7,I7,n7⟩:=q7;exact again I7 n7|brk=>obtain⟨KE,H7,I7,q7⟩:=q7;exact⟨KE,H7,I7.tG,q7⟩|ret v=>obtain⟨x7,KE,H7,I7,r7,q7⟩:=q7;exact⟨x7,KE,H7,I7.tG,r7,q7⟩
abbrev R2:=V->V->Hp->VK->Prop
variable{r':R2}
def br(X:Cx)(f:Value->Value->Sem Value)(r:R2):Prop:=∀(pins:List (Addr×Obj))(s:W2)(Y:St)(H:Hp)(x y:V)(v u:Value)(Q:VK),Inv X pins Y H s->RelV x v->RelV y u->r x y H Q->W8 (model X.prog X.w) X.A (f v u) (EP X pins Y Q) X.xe s
def eF(X:Cx)(f:Value)(r:List V->Hp->VK->Prop):Prop:=∀(pins:List (Addr×Obj))(s:W2)(Y:St)(H:Hp)(xs:List V)(us:List Value)(Q:VK),Inv X pins Y H s->Vals xs us->r xs H Q->W8 (model X.prog X.w) X.A (call f us) (EP X pins Y Q) X.xe s
def mP(r:R2)(ta tb:TE):TE:=λY H Q=>ta Y H λx H1=>tb Y H1 λy H2=>r x y H2 Q
def NH(r:V->Hp->VK->Prop)(ta:TE):TE:=λY H Q=>ta Y H λx H1=>r x H1 Q
def rI(C:Int->Int->Prop)(g:Int->Int->V):R2:=λx y H Q=>∃i j,x=.int i/\y=.int j/\C i j/\Q (g i j) H
def iL(g:Int->Int->V):R2:=λx y H Q=>∃i j,x=.int i/\y=.int j/\Q (g i j) H
section
variable{a b c:Expr}{tb tc:TE}
theorem wM(ha:PE X a ta)(hb:PE X b tb){R:V->V->Hp->Prop}(I:Inv X pins Y H s)(h:ta Y H λx H1=>tb Y H1 λy H2=>R x y H2){f:Value->Value->Sem Value}(hf:∀v u s2 x y H2,Inv X pins Y H2 s2->RelV x v->RelV y u->R x y H2->W8 (model X.prog X.w) X.A (f v u) Q X.xe s2):W8 (model X.prog X.w) X.A (eval a X.env) (λv s₁=>W8 (model X.prog X.w) X.A (eval b X.env) (λu s₂=>W8 (model X.prog X.w) X.A (f v u) Q X.xe s₂) X.xe s₁) X.xe s:=by refine aX (ha pins s Y H _ I h) λv s1⟨x,H1,I1,r1,q1⟩=>?_;refine aX (hb pins s1 Y H1 _ I1 q1) λu s2 hh=>?_;obtain⟨y,H2,I2,r2,q2⟩:=hh;exact hf v u s2 x y H2 I2 r1 r2 q2
theorem B6{op:Operator}{r:R2}(ho:br X (QJ op) r)(ha:PE X a ta)(hb:PE X b tb):PE X (.BinOp a op b pos) (mP r ta tb):=by intro pins s Y H Q I h;exact wpAny_BinOp (wM ha hb I h λv u s2 x y H2 I2 rx ry q=>ho pins s2 Y H2 x y v u Q I2 rx ry q)
theorem tH{f:Value->Value->Sem Value}{C:Int->Int->Prop}{g:Int->Int->Int}(rule:∀(i j:Int)(t u:Tok)(s:W2)(Q:Value->W2->Prop)(E:Value->W2->Prop),C i j->Q (.int (g i j) s.toks) {s with toks:=s.toks+1}->W8 (model X.prog X.w) X.A (f (.int i t) (.int j u)) Q E s):br X f (rI C λi j=>.int (g i j)):=by intro pins s Y H x y v u Q I rx ry h;obtain⟨i,j,rfl,rfl,hc,q⟩:=h;obtain⟨t,rfl⟩:=rx;obtain⟨t',rfl⟩:=ry;exact rule i j t t' s _ _ hc ⟨.int (g i j),H,I.tok _,⟨_,rfl⟩,q⟩
theorem B7{f:Value->Value->Sem Value}{g:Int->Int->Int}(rule:∀(i j:Int)(t u:Tok)(s:W2)(Q:Value->W2->Prop)(E:Value->W2->Prop),Q (.int (g i j) s.toks) {s with toks:=s.toks+1}->W8 (model X.prog X.w) X.A (f (.int i t) (.int j u)) Q E s):br X f (iL λi j=>.int (g i j)):=by intro pins s Y H x y v u Q I rx ry h;obtain⟨i,j,rfl,rfl,q⟩:=h;obtain⟨t,rfl⟩:=rx;obtain⟨t',rfl⟩:=ry;exact rule i j t t' s _ _ ⟨.int (g i j),H,I.tok _,⟨_,rfl⟩,q⟩
theorem tJ{f:Value->Value->Sem Value}{g:Int->Int->Bool}(rule:∀(i j:Int)(t u:Tok)(s:W2)(Q:Value->W2->Prop)(E:Value->W2->Prop),Q (.bool (g i j)) s->W8 (model X.prog X.w) X.A (f (.int i t) (.int j u)) Q E s):br X f (iL λi j=>.bl (g i j)):=by intro pins s Y H x y v u Q I rx ry h;obtain⟨i,j,rfl,rfl,q⟩:=h;obtain⟨t,rfl⟩:=rx;obtain⟨t',rfl⟩:=ry;exact rule i j t t' s _ _ ⟨.bl (g i j),H,I,rfl,q⟩
def B8(i j:Int):Prop:=0<j/\j<1073741824
def B9(i j:Int):Prop:=0<=j/\j<=1000000/\i.natAbs<2^64
def pZ(i j:Int):Prop:=-2^64<i/\i<2^64\/-2^64<j/\j<2^64
theorem pZ.ok{i}(h:pZ i j):IntMulOk i j:=by
 rcases h with⟨h1,h2⟩|⟨h1,h2⟩;.exact .of_left (intBits_le_64 h1 h2)
 .exact .of_right (intBits_le_64 h1 h2)
theorem NI:br X (QJ .Add) (iL λi j=>.int (i+j)):=B7 λk k k k k k k q=>add_int q
theorem NJ:br X (QJ .Sub) (iL λi j=>.int (i-j)):=B7 λk k k k k k k q=>sub_int q
theorem NL:br X (QJ .Mult) (rI pZ λi j=>.int (i*j)):=tH λk k k k k k k hc q=>mul_int q hc.ok
theorem B_:br X (QJ .FloorDiv) (rI B8 λi j=>.int (i/j)):=tH λi j k k k k k hc q=>by have h1:(0:Int)<j:=hc.1;have h2:j<1073741824:=hc.2;exact floordiv_int Y' %[Int.fdiv_eq_ediv_of_nonneg i Y'|q] (.inl (PyProof.noPylong_small Y'))
theorem Ca:br X (QJ .Mod) (rI (λk j=>0<j) λi j=>.int (i%j)):=tH λi j k k k k k hc q=>by have h1:(0:Int)<j:=hc;exact mod_int' Y' %[Int.fmod_eq_emod_of_nonneg i Y'|q]
theorem NM:br X (QJ .Pow) (rI B9 λi j=>.int (i^j.toNat)):=tH λk k k k k k k hc q=>pow_int_small hc.1 hc.2.1 hc.2.2 q
theorem tK{Q}(I:Inv X pins Y H s)(q:Q (.bl k) H)(e:k=k'):EP X pins Y Q (.bool k') s:=by subst e;exact⟨.bl k,H,I,rfl,q⟩
theorem NN:br X (WA .Lt) (iL λi j=>.bl (decide (i<j))):=tJ λk k k k k k k q=>lt_int q
theorem NO:br X (WA .LtE) (iL λi j=>.bl (decide (i<=j))):=tJ λk k k k k k k q=>le_int q
theorem NP:br X (WA .Gt) (iL λi j=>.bl (decide (j<i))):=tJ λk k k k k k k q=>gt_int q
theorem NQ:br X (WA .GtE) (iL λi j=>.bl (decide (j<=i))):=tJ λk k k k k k k q=>ge_int q
theorem NR:br X (WA .Lt) λx y H Q=>∃i j,x=.str i/\y=.str j/\Q (.bl (decide (i.cps.toList<j.cps.toList))) H:=by intro pins s Y H x y v u Q I rx ry h;obtain⟨i,j,rfl,rfl,q⟩:=h;obtain⟨t,rfl⟩:=rx;obtain⟨t',rfl⟩:=ry;exact lt_str (tK I q rfl)
theorem zev:br X (WA .Is) λx y H Q=>y=.ax/\Q (.bl (decide (x=.ax))) H:=by intro pins s Y H x y v u Q I rx ry h;obtain⟨rfl,q⟩:=h;cases ry;refine is_none_gen (tK I q ?_);cases x<;>first|(cases rx;rfl)|(obtain⟨t,rfl⟩:=rx;rfl)
theorem NS:br X (WA .NotIn) λx y H Q=>∃i j,x=.str i/\y=.str j/\Q (.bl !!(Builtin.Str.occurrences j i 0 j.length 1).isEmpty) H:=by intro pins s Y H x y v u Q I rx ry h;obtain⟨i,j,rfl,rfl,q⟩:=h;obtain⟨t,rfl⟩:=rx;obtain⟨t',rfl⟩:=ry;exact notIn_str (tK I q rfl)
theorem br.or{f}(h:br X f r)(h':br X f r'):br X f λx y H Q=>r x y H Q\/r' x y H Q:=by
 intro pins s Y H x y v u Q I rx ry q;rcases q with q|q;.exact h pins s Y H x y v u Q I rx ry q
 .exact h' pins s Y H x y v u Q I rx ry q
theorem Cb{r:R2}(ho:br X (WA op) r)(ha:PE X a ta)(hb:PE X b tb)(hm:JR op b=false):PE X (.Compare a [op] [b] pos) (mP r ta tb):=by intro pins s Y H Q I h;exact wpAny_Compare1 (wM ha hb I h λv u s2 x y H2 I2 rx ry q=>ho pins s2 Y H2 x y v u Q I2 rx ry q) hm
def Cc(t:TE):TT:=λY H Q=>t Y H λx H'=>∃k,x=.bl k/\Q k H'
theorem Cd(ho:br X (WA op) r)(ha:PE X a ta)(hb:PE X b tb)(hm:JR op b=false):PT X (.Compare a [op] [b] pos) (Cc (mP r ta tb)):=by intro pins s Y H Q I h;refine wpAny_isTrue_Compare1 (aX (ha pins s Y H _ I h) λv s1⟨x,H1,I1,r1,q1⟩=>aX (hb pins s1 Y H1 _ I1 q1) λu s2⟨y,H2,I2,r2,q2⟩=>aX (ho pins s2 Y H2 x y v u _ I2 r1 r2 q2) λc s3 hh=>?_) hm;obtain⟨z,H3,I3,r3,k,e,q3⟩:=hh;subst e;cases r3;exact Qk ⟨H3,I3,q3⟩
def wN(r r':R2)(ta tb tc:TE):TE:=λY H Q=>ta Y H λx H1=>tb Y H1 λy H2=>r x y H2 λz H3=>∃k,z=.bl k/\if k=true then tc Y H3 λw' H4=>r' y w' H4 Q else Q (.bl false) H3
theorem NT(ho:br X (WA op) r)(gI:br X (WA h_) r')(ha:PE X a ta)(hb:PE X b tb)(hc:PE X c tc)(hm:lastMarks [op,h_] [b,c]=false:=by with_unfolding_all rfl):PE X (.Compare a [op,h_] [b,c] pos) (wN r r' ta tb tc):=by intro pins s Y H Q I h;refine Compare_chain (aX (ha pins s Y H _ I h) λv s1⟨x,H1,I1,r1,q1⟩=>chain_link (aX (hb pins s1 Y H1 _ I1 q1) λu s2⟨y,H2,I2,r2,q2⟩=>aX (ho pins s2 Y H2 x y v u _ I2 r1 r2 q2) λd s3 hh=>?_)) hm;obtain⟨z,H3,I3,r3,k,e,q3⟩:=hh;subst e;cases r3;refine Qk ?_;cases k with|false=>exact ite_ff ⟨.bl false,H3,I3,rfl,q3⟩|true=>exact ite_tt (chain_last (aX (hc pins s3 Y H3 _ I3 q3) λw' s4⟨z',H4,I4,r4,q4⟩=>gI pins s4 Y H4 y z' u w' Q I4 r2 r4 q4))
theorem NU(ho:br X (WA op) r)(gI:br X (WA h_) r')(ha:PE X a ta)(hb:PE X b tb)(hc:PE X c tc)(hm:lastMarks [op,h_] [b,c]=false:=by with_unfolding_all rfl):PT X (.Compare a [op,h_] [b,c] pos) (Cc (wN r r' ta tb tc)):=by intro pins s Y H Q I h;refine isTrue_chain (aX (ha pins s Y H _ I h) λv s1⟨x,H1,I1,r1,q1⟩=>test_link (aX (hb pins s1 Y H1 _ I1 q1) λu s2⟨y,H2,I2,r2,q2⟩=>aX (ho pins s2 Y H2 x y v u _ I2 r1 r2 q2) λd s3 hh=>?_)) hm;obtain⟨z,H3,I3,r3,k,e,q3⟩:=hh;subst e;cases r3;refine Qk ?_;cases k with|false=>obtain⟨k',e',q'⟩:=q3;cases e';exact ite_ff ⟨H3,I3,q'⟩|true=>refine ite_tt (test_last (aX (hc pins s3 Y H3 _ I3 q3) λw' s4⟨z',H4,I4,r4,q4⟩=>aX (gI pins s4 Y H4 y z' u w' _ I4 r2 r4 q4) λd' s5 hh=>?_));obtain⟨z2,H5,I5,r5,k2,e2,q5⟩:=hh;subst e2;cases r5;exact Qk ⟨H5,I5,q5⟩
theorem oB:(Wb:Nat)<2^63:=by rw[WZ];decide
theorem NV:br X (QJ .Add) λx y H Q=>∃i j,x=.str i/\y=.str j/\i.length+j.length<=Wb/\Q (.str (i++j)) H:=by intro pins s Y H x y v u Q I rx ry h;obtain⟨i,j,rfl,rfl,hz,q⟩:=h;obtain⟨t,rfl⟩:=rx;obtain⟨t',rfl⟩:=ry;exact add_str (λt' tk=>⟨.str (i++j),H,I.tok _,⟨_,rfl⟩,q⟩) hz
theorem f9{x}(r:Vals [x] us):∃u,us=[u]/\RelV x u:=by cases r with|cons r1 r2=>cases r2;exact⟨_,rfl,r1⟩
theorem wO{x}(r:Vals [x,y] us):∃u w',us=[u,w']/\RelV x u/\RelV y w':=by cases r with|cons r1 r2=>cases r2 with|cons r3 r4=>cases r4;exact⟨_,_,rfl,r1,r3⟩
theorem NW(hc:X.calm=true):eF X (.builtin "max") λxs H Q=>∃i j,xs=[.int i,.int j]/\Q (.int (if j>i then j else i)) H:=by
 intro pins s Y H xs us Q I r h;obtain⟨i,j,rfl,q⟩:=h;obtain⟨u,w',rfl,⟨t,rfl⟩,⟨t',rfl⟩⟩:=wO r;refine max_two_ints (I.ok.hd hc) λh' tk k=>⟨_,H,I.kept k,?_,q⟩;by_cases hj:j>i;.rw[if_pos hj,if_pos hj];exact⟨_,rfl⟩
 .rw[if_neg hj,if_neg hj];exact⟨_,rfl⟩
theorem NX:eF X (.type "int") λxs H Q=>(∃i,xs=[.int i]/\Q (.int i) H)\/∃k,xs=[.bl k]/\Q (.int (if k then 1 else 0)) H:=by
 intro pins s Y H xs us Q I r h;rcases h with⟨i,rfl,q⟩|⟨k,rfl,q⟩;.obtain⟨u,rfl,t,rfl⟩:=f9 r;exact call_int_int ⟨.int i,H,I,⟨_,rfl⟩,q⟩
 .obtain⟨u,rfl,r1⟩:=f9 r;cases r1;exact call_int_bool ⟨.int (if k then 1 else 0),H,I.tok _,⟨_,rfl⟩,q⟩
end
structure wQ(h:Heap)(x dx C:Addr)(mA:Str->Option Value):Prop where
 obj:h.get? x=some (PySem.W.instObj C dx)ns:h.Ns1 dx mA
 ne:dx≠x
set_option tactic.hygienic true in theorem NY{h:Heap}{dx:Addr}(n:h.Ns1 dx mA):∃od,h.get? dx=some od/\∀name,PySem.W.lookIn name od=some (mA name):=by
 obtain⟨o,es,ep,ho,hd,hk,_,hm⟩:=n;refine⟨o,ho,λname=>?_⟩;have e:=hm name;unfold nsFind findBy at e;rw[<-Array.find?_toList]at e;unfold PySem.W.lookIn;rw[hd];dsimp only;split;.rename_i y q;rw[q]at e;exact congrArg some e
 .rename_i q;rw[q]at e;have a:es.toList.any (·.refKey)=false:=by rw[List.any_eq_false];intro y hy;obtain⟨z,t,hkey⟩:=hk y (Array.mem_toList_iff.mp hy);simp[DictEntry.refKey,hkey]
  have a':¬es.toList.any (·.refKey)=true:=%[a|WN];rw[if_neg a'];exact congrArg some e
theorem wQ.look{x dx}(I:wQ h x dx C mA):∃od,PySem.W.InstAt h x (PySem.W.instObj C dx) C (some od)/\∀name,PySem.W.lookIn name od=some (mA name):=let⟨od,ho,hl⟩:=NY I.ns
 ⟨od,⟨I.obj,rfl,rfl,ho⟩,hl⟩
theorem fW.some_of(r:fW (some v) o):∃u,o=some u/\RelV v u:=by cases o with|none=>exact(show False from r).elim|some u=>exact⟨u,rfl,r⟩
theorem fW.none_of(r:fW none o):o=none:=by cases o with|none=>rfl|some u=>exact(show False from r).elim
section
variable{h:Heap}{dx:Addr}{fs:List (Str×V)}
theorem NZ(ay:cx P w H h)(e:H a=some (.ins C dx fs)):∃mA,wQ h a dx C mA/\(∀f,fW (fs.lookup f) (mA f))/\PySem.Within mA (fs.map (·.1))/\fs.length<=1000/\H dx=some (.own a):=by obtain⟨d,z,ne,ob,mA,n,r,q⟩:=show bw P w H h a (.ins C dx fs)from ay a _ e;exact⟨mA,⟨ob,n,ne⟩,r,q,z,d⟩
end
structure wR(K:W3)(C:Addr):Prop where
 pg:PySem.W.plainGet K C Str.empty=true
 hd:PySem.W.hasDictIn K C=true
 po:PySem.W.plainOver K C=true
 sa:PySem.W.findIn K (.ref C) "__setattr__"=some (some (.builtin "object.__setattr__"))
theorem wR.get(c:wR K C)(f:Str):PySem.W.plainGet K C f=true:=c.pg
section
variable{c:Value}{b:Bool}
inductive iM(K:W3)(H:Hp):V->Value->Prop where|ax:iM K H .ax (.type "NoneType")|bl(x:Bool):iM K H (.bl x) (.type "bool")|int(i:Int):iM K H (.int i) (.type "int")|str(x:Str):iM K H (.str x) (.type "str")|flt(x:UInt64):iM K H (.flt x) (.type "float")|lst{a:Addr}{xs:List V}(e:H a=some (.lst xs)):iM K H (.ref a) (.type "list")|frz{a:Addr}{o:Obj}{xs:List V}(e:H a=some (.frz o (.lst xs))):iM K H (.ref a) (.type "list")|tup{a:Addr}{xs:List V}(e:H a=some (.tup xs)):iM K H (.ref a) (.type "tuple")|dK{a:Addr}{ao:List (Key×V)}(e:H a=some (.dK ao)):iM K H (.ref a) (.type "dict")|dT{a:Addr}{ao:List (List Key×V)}(e:H a=some (.dT ao)):iM K H (.ref a) (.type "dict")|ins{a C dx:Addr}{fs:List (Str×V)}(e:H a=some (.ins C dx fs))(cl:wR K C)(ha:PySem.W.findIn K (.ref C) "__class__"=some (some (.builtin "object.__class__")))(hn:PySem.W.specialIn K (.builtin "object.__class__") "__get__"=some (some (.builtin "getset_descriptor.__get__")))(Ce:PySem.W.takesIn K (.builtin "object.__class__")=some true)(hm:PySem.W.mroIn K C (.type "object")=some true):iM K H (.ref a) (.ref C)
theorem lN{x}(I:Inv X pins Y H s)(rx:RelV x u)(ty:iM X.K H x t)(e:QL X.K t c=some b)(h:∀tk,Q (.bool b) {s with toks:=tk}):W8 (model X.prog X.w) A (call (.builtin "isinstance") [u,c]) Q E s:=by cases ty with|ax=>cases show u=Value.none from rx;exact Qh PySem.W.kitx_none I.dw True.intro e (λz=>nomatch z) h|bl y=>cases show u=Value.bool y from rx;exact Qh PySem.W.kitx_bool I.dw True.intro e (λz=>nomatch z) h|int i=>obtain⟨t,q⟩:=show∃t,u=Value.int i t from rx;cases q;exact Qh PySem.W.kitx_int I.dw True.intro e (λz=>nomatch z) h|str y=>obtain⟨t,q⟩:=show∃t,u=Value.str y t from rx;cases q;exact Qh PySem.W.kitx_str I.dw True.intro e (λz=>nomatch z) h|flt y=>obtain⟨t,q⟩:=show∃t,u=Value.float y t from rx;cases q;exact Qh PySem.W.kitx_float I.dw True.intro e (λz=>nomatch z) h|@lst a xs ea=>cases show u=Value.ref a from rx;obtain⟨_,_,n,_,h1⟩:=show bw X.prog X.w H s.heap a (.lst xs)from I.ay a _ ea;exact Qh PySem.W.kitx_list I.dw ⟨_,h1,rfl⟩ e (λz=>nomatch z) h|@frz a ob xs ea=>cases show u=Value.ref a from rx;obtain⟨_,_,_,n,_,h1⟩:=show bw X.prog X.w H s.heap a (.frz ob (.lst xs))from I.ay a _ ea;exact Qh PySem.W.kitx_list I.dw ⟨_,h1,rfl⟩ e (λz=>nomatch z) h|@tup a xs ea=>cases show u=Value.ref a from rx;obtain⟨_,_,_,p⟩:=show bw X.prog X.w H s.heap a (.tup xs)from I.ay a _ ea;obtain⟨o,h1,h2,_⟩:=p.tup;exact Qh PySem.W.kitx_tuple I.dw ⟨o,h1,h2⟩ e (λz=>nomatch z) h|@dK a ao ea=>cases show u=Value.ref a from rx;obtain⟨_,_,vs,_,p⟩:=show bw X.prog X.w H s.heap a (.dK ao)from I.ay a _ ea;obtain⟨o,es,ep,h1,h2,_⟩:=p;exact Qh PySem.W.kitx_dict I.dw ⟨o,h1,h2.1⟩ e (λz=>nomatch z) h|@dT a ao ea=>cases show u=Value.ref a from rx;obtain⟨_,_,xs,_,o,es,ep,h1,h2,_⟩:=show bw X.prog X.w H s.heap a (.dT ao)from I.ay a _ ea;exact Qh PySem.W.kitx_dict I.dw ⟨o,h1,h2.1⟩ e (λz=>nomatch z) h|@ins a C dx fs ea cl ha hn Ce hm=>cases show u=Value.ref a from rx;obtain⟨mA,O,_⟩:=NZ I.ay ea;obtain⟨od,J,_⟩:=O.look;exact Qh (PySem.W.kitx_own (cl.get _) cl.hd ha hn Ce hm) I.dw J e (λz=>nomatch z) h
end
structure bM(k:Nat)(A:Wp):Prop where
 hd:A.handled=none
 dp:A.depth+3*k+5<recursionLimit
 un:A.units+16*k+200<WL
theorem bM.mono(r:bM k A)(h:j<=k):bM j A:=⟨r.hd,by have:=r.dp;lia,by have:=r.un;lia⟩
theorem bM.deeper(r:bM (k+1) A)(env:Env):bM k (A.deeper env):=⟨r.hd,by have:=r.dp;show A.depth+1+3*k+5<_;lia,by have:=r.un;show A.units+3+16*k+200<_;lia⟩
theorem bM.depth(r:bM k A):A.depth<recursionLimit:=by have:=r.dp;lia
def Cf:TA:=λj H Q=>Q [] H
def wU(ta:TE)(tr:TA):TA:=λY H Q=>ta Y H λx H1=>tr Y H1 λxs H2=>Q (x::xs) H2
section
variable{t:TA}
theorem f_:PA X [] Cf:=λj j j j H Q I h=>Calls.spliced_nil ⟨[],H,I,.nil,h⟩
theorem dJ(ha:PE X e te)(hr:PA X es t)(hs:W9 (e::es) X.env=(false,eval e X.env)::W9 es X.env:=by rfl):PA X (e::es) (wU te t):=by intro pos pins s Y H Q I h;rw[hs];show W8 _ _ (spliced ((false,eval e X.env)::Q3 pos (W9 es X.env))) _ _ s;refine Calls.spliced_cons (aX (ha pins s Y H _ I h) λu s1 hh=>?_);obtain⟨x,H1,I1,r1,q1⟩:=hh;exact aX (hr pos pins s1 Y H1 _ I1 q1) λus s2⟨xs,H2,I2,r2,q2⟩=>⟨x::xs,H2,I2,.cons r1 r2,q2⟩
def N0(t:TA):TE:=λY H Q=>t Y H λxs H1=>xs.length<=Wb/\∀p,H1 p=none->Q (.ref p) (upd H1 p (.tup xs))
def N1(t:TA):TE:=λY H Q=>t Y H λxs H1=>xs.length<=Wb/\∀p,H1 p=none->Q (.ref p) (upd H1 p (.lst xs))
theorem N2{x1}(h:PA X es t):PE X (.Tuple es x1 pos) (N0 t):=by intro pins s Y H Q I hq;refine wpAny_Tuple_spliced (aX (h pos pins s Y H _ I hq) λus s1⟨xs,H1,I1,r,z,q⟩=>⟨by rw[<-r.length];exact z,?_⟩);have hf:H1 s1.heap.objs.size=none:=I1.ay.fresh (Wc _);refine⟨.ref s1.heap.objs.size,upd H1 s1.heap.objs.size (.tup xs),I1.laid (t':=s1.toks) (λb u e=>W5 _ e) (Wc _) ?_,rfl,q _ hf⟩;exact⟨z,us,r,⟨_,Wf _ rfl⟩⟩
theorem N3(h:PA X es t):PE X (.List es pos) (N1 t):=by intro pins s Y H Q I hq;refine wpAny_List_spliced (aX (h pos pins s Y H _ I hq) λus s1⟨xs,H1,I1,r,z,q⟩=>⟨by rw[<-r.length];exact z,?_⟩);have hf:H1 s1.heap.objs.size=none:=I1.ay.fresh (Wc _);refine⟨.ref s1.heap.objs.size,upd H1 s1.heap.objs.size (.lst xs),I1.laid (t':=s1.toks) (λb u e=>W5 _ e) (Wc _) ?_,rfl,q _ hf⟩;exact⟨z,us,0,r,Wf _ rfl⟩
end
abbrev Sp:=List V->Hp->VK->XK->Prop
variable{sp:Sp}
abbrev jM:=List Env->Hp->W2->XK->Value->W2->Prop
variable{CX:jM}
structure mQ(P:Wn)(w:Ws)(K:W3)(mg:Str->Option Value)(base:Heap)(A:Wp)(outer:List Env)(s:W2)(H:Hp):Prop where
 frames:A.frames=some outer
 mod:Mod K mg base
 bs:∀b o,base.get? b=some o->s.heap.get? b=some o/\H b=none
 iJ:base.objs.size<=s.heap.objs.size
 f7:s.heap.FunFrames base outer
 je:∀b∈eC outer,H b=none
 ay:cx P w H s.heap
 bare:AllBare s.gens
def CE(outer:List Env)(P:Wn)(w:Ws)(H:Hp)(s:W2)(Q:VK)(u:Value)(s':W2):Prop:=∃v H',s'.os=s.os/\AllBare s'.gens/\Un (eC outer) [] H H' s.heap s'.heap/\cx P w H' s'.heap/\RelV v u/\Q v H'
def CR(CX:jM)(outer:List Env)(P:Wn)(w:Ws)(H:Hp)(s:W2)(Q:VK)(E:XK)(r:Result)(s':W2):Prop:=match r with|.ok (.ret u)=>CE outer P w H s Q u s'|.ok _=>False|.error e=>CX outer H s E e s'
structure gc(P:Wn)(w:Ws)(K:W3)(mg:Str->Option Value)(base:Heap)(CX:jM)(k:Nat)(f:Addr)(fd:WR)(ps:List Str)(sp:Sp):Prop where
 len:∀vs H Q E,sp vs H Q E->vs.length=ps.length
 run:∀(A:Wp)(outer:List Env)(s:W2)(H:Hp)(args:Args)(us:List Value)(vs:List V)(Q:VK)(E:XK),bM k A->mQ P w K mg base A outer s H->BindsTo s fd args (ps.zip us)->Vals vs us->sp vs H Q E->QR (model P w) A (.call (.ref f) args) (CR CX outer P w H s Q E) s
section
variable{s':W2}
theorem Inv.p8(I:Inv X pins Y H s):mQ X.prog X.w X.K X.mg X.base X.A X.stack s H:=⟨I.ok.frames,I.ok.mod,I.bs,Wy I.ok.iJ I.sz,I.stack,I.sX,I.ay,I.bare⟩
theorem Inv.after{Q}(I:Inv X pins Y H s)(h:CE X.stack X.prog X.w H s Q u s'):EP X pins Y Q u s':=by obtain⟨v,H',os,bare,un,ay,r,q⟩:=h;obtain⟨hh,g,d,t,os'⟩:=s';obtain rfl:os'=s.os:=os;exact⟨v,H',I.call (h':=hh) (g':=g) (d':=d) (t':=t) (ch:=[]) un ay bare λb z=>absurd z U',r,q⟩
end
def tL(sp:Sp)(lO:List V)(E:XK)(t:TA):TE:=λY H Q=>t Y H λvs H1=>sp (vs++lO) H1 Q E
def Binds(K:W3)(fd:WR)(ps:List Str)(ds:List Value):Prop:=∀(s:W2)(us:List Value),K.In s.heap->(us++ds).length=ps.length->BindsTo s fd ⟨us,[]⟩ (ps.zip (us++ds))
theorem Binds.all(h:∀us:List Value,us.length=ps.length->bindArgs fd ⟨us,[]⟩=pure (ps.zip us)):Binds K fd ps []:=λs us j hl=>by rw[WU]at hl⊢;exact .of_eq (h us hl)
def wV(CX:jM)(X:Cx)(E:XK):Prop:=∀(pins:List (Addr×Obj))(Y:St)(H:Hp)(s:W2)(e:Value)(s':W2),Inv X pins Y H s->CX X.stack H s E e s'->X.xe e s'
section
variable{k:Nat}{ds:List Value}{E:XK}{m:Str}{p:Pos}{o:Expr}{t:TA}
theorem N4{Q}(F:gc X.prog X.w X.K X.mg X.base CX k f fd ps sp)(hr:bM k X.A)(hb:Binds X.K fd ps ds)(hd:Vals lO ds)(hx:wV CX X E)(I:Inv X pins Y H s)(r:Vals vs us)(h:sp (vs++lO) H Q E):W8 (model X.prog X.w) X.A (call (.ref f) us) (EP X pins Y Q) X.xe s:=by
 have r2:Vals (vs++lO) (us++ds):=r.append hd;have hl:(us++ds).length=ps.length:=by rw[<-r2.length];exact F.len _ _ _ _ h
 refine wpAny_call (JI (F.run X.A X.stack s H ⟨us,[]⟩ (us++ds) (vs++lO) Q E hr I.p8 (hb s us I.dw hl) r2 h) λr s' hq=>?_);cases r with|error e=>exact hx pins Y H s e s' I hq|ok fl=>cases fl with|ret u=>exact I.after hq|next=>exact False.elim hq|brk=>exact False.elim hq|cont=>exact False.elim hq
theorem wW(F:gc X.prog X.w X.K X.mg X.base CX k f fd ps sp)(hr:bM k X.A)(hg:Gl X x)(hm:X.mg x=some (.ref f))(hk:Qm X.K (.ref f)=true)(hb:Binds X.K fd ps ds)(hd:Vals lO ds)(hx:wV CX X E)(ha:PA X (e::es) t)(cz:(x==("__debug__":Str))=false:=by decide)(he:W9 (e::es) X.env=(false,eval e X.env)::W9 es X.env:=by rfl)(bH:(Q3 pos (W9 es X.env)).any (·.1)=false:=by rfl):PE X (.Call (.Name x p) (e::es) [] pos) (tL sp lO E t):=by intro pins s Y H Q I h;refine QM (lK I hg hm ?_ cz);refine U3 (h₀:=X.base) I.ok.mod.lG hk (aX (ha pos pins s Y H _ I h) λus s1⟨vs,H1,I1,r,q⟩=>⟨I1.dw,?_⟩) he bH;exact N4 F hr hb hd hx I1 r q
end
def PK(X:Cx)(Cg:List Keyword)(t:TA):Prop:=∀(pos:Pos)(pins:List (Addr×Obj))(s:W2)(Y:St)(H:Hp)(Q:List V->Hp->Prop),Inv X pins Y H s->t Y H Q->W8 (model X.prog X.w) X.A (evalAll ((backToKw pos (JT Cg X.env)).map (·.2))) (AP X pins Y Q) X.xe s
structure dM(N P:List Str)(sc:Scope):Prop where
 kind:sc.kind=.function
 co:sc.isCoroutine=false
 gen:sc.isGenerator=false
 nd:N.Nodup
 pre:N.take P.length=P
 par:∀x∈P,sc.names.lookup x=some .local\/sc.names.lookup x=some .cell
 wX:∀y∈sc.names,y.2≠.free
theorem scc{N P:List Str}(kind:sc.kind=.function:=by rfl)(co:sc.isCoroutine=false:=by rfl)(gen:sc.isGenerator=false:=by rfl)(nd:N.Nodup:=by decide+kernel)(pre:N.take P.length=P:=by rfl)(par:∀x∈P,sc.names.lookup x=some .local\/sc.names.lookup x=some .cell:=by decide+kernel)(wX:∀y∈sc.names,y.2≠.free:=by decide+kernel):dM N P sc:=⟨kind,co,gen,nd,pre,par,wX⟩
theorem Ci:∀{binds:List (Str×Value)}{m:Str->Option Value},(∀v,(x,v)∉binds)->bindL kindOf binds m x=m x
 |[],_,_=>rfl|(n,v)::r,m,h=>by
  unfold bindL;rw[Ci λw hw=>h w (Wi _ hw)];split
  .have:x≠n:=by rintro rfl;exact h v Wl
   simp[this]
  .rfl
theorem Cj:∀{binds:List (Str×Value)}{m:Str->Option Value},(∀v,(x,v)∉binds)->bindC kindOf binds m x=m x
 |[],_,_=>rfl|(n,v)::r,m,h=>by
  unfold bindC;rw[Cj λw hw=>h w (Wi _ hw)];split;.rfl
  .have:x≠n:=by rintro rfl;exact h v Wl
   simp[this]
theorem Ck{kindOf:Str->Option NameKind}{x:Str}{v:Value}:∀{P:List Str}{vs:List Value}{i:Nat}{m:Str->Option Value},P.Nodup->P[i]?=some x->vs[i]?=some v->kindOf x=some .local->bindL kindOf (P.zip vs) m x=some v|[],_,_,_,_,h,_,_=>by simp at h|_::_,[],_,_,_,_,h,_=>by simp at h|p::P,w::vs,0,m,nd,h1,h2,hk=>by simp at h1 h2;subst h1;subst h2;show bindL kindOf ((p,w)::P.zip vs) m p=_;unfold bindL;rw[Ci λv hv=>(JD.mp nd).1 (Jc hv).1,if_pos hk];simp|p::P,w::vs,i+1,m,nd,h1,h2,hk=>by show bindL kindOf ((p,w)::P.zip vs) m x=_;unfold bindL;exact Ck (i:=i) (JD.mp nd).2 (~~~h1) (~~~h2) hk
theorem Cm{kindOf:Str->Option NameKind}{x:Str}{v:Value}:∀{P:List Str}{vs:List Value}{i:Nat}{m:Str->Option Value},P.Nodup->P[i]?=some x->vs[i]?=some v->kindOf x≠some .local->bindC kindOf (P.zip vs) m x=some v|[],_,_,_,_,h,_,_=>by simp at h|_::_,[],_,_,_,_,h,_=>by simp at h|p::P,w::vs,0,m,nd,h1,h2,hk=>by simp at h1 h2;subst h1;subst h2;show bindC kindOf ((p,w)::P.zip vs) m p=_;unfold bindC;rw[Cj λv hv=>(JD.mp nd).1 (Jc hv).1,if_neg hk];simp|p::P,w::vs,i+1,m,nd,h1,h2,hk=>by show bindC kindOf ((p,w)::P.zip vs) m x=_;unfold bindC;exact Cm (i:=i) (JD.mp nd).2 (~~~h1) (~~~h2) hk
def dm(N:List Str)(vs:List V):St:=vs.map some++Ww (N.length-vs.length) none
def cX(CX:jM)(P:Wn)(w:Ws)(K:W3)(mg:Str->Option Value)(base:Heap)(N:List Str)(qual:Str)(scope:Scope)(f:Addr)(cd:Value)(A:Wp)(outer:List Env)(s:W2)(H:Hp)(E:XK):Cx where
 prog:=P
 w:=w
 K:=K
 mg:=mg
 base:=base
 A:=A.deeper (Qx qual scope s.heap.objs.size f cd)
 N:=N
 s₀:=s
 H₀:=H
 env:=Qx qual scope s.heap.objs.size f cd
 outer:=outer
 stack:=Qx qual scope s.heap.objs.size f cd::outer
 ex:=[]
 calm:=true
 fn:=λj=>true
 pn:=[]
 xe:=λe s'=>W8 (model P w) (A.deeper (Qx qual scope s.heap.objs.size f cd)) (leaving (Qx qual scope s.heap.objs.size f cd) e) (λj p9=>CX outer H s E e p9) (λe' p9=>CX outer H s E e' p9) s'
theorem Cn(h:sc.names.lookup x=some .cell):∃c,(Qy n sc.names []).lookup x=some c:=by have q:=QZ sc.names n [] (.inl h);exact Qz.mp q
theorem wY{s1:W2}{E:XK}(S:dM N ps scope)(hd:A.handled=none)(e0:mQ P w K mg base A outer s H)(hl:vs.length=ps.length)(r:Vals vs us)(x:InCallC s s.heap.objs.size (bindL (Qx qual scope s.heap.objs.size f cd).kindOf (ps.zip us) λj=>none) (Qy (s.heap.objs.size+1) scope.names []) (bindC (Qx qual scope s.heap.objs.size f cd).kindOf (ps.zip us) λj=>none) s1):Inv (cX CX P w K mg base N qual scope f cd A outer s H E) [] (dm N vs) H s1:=by
 have bH:ps.length<=N.length:=by have:=congrArg Qf S.pre;rw[Jq]at this;lia
 obtain⟨h1,tk,rfl,hk⟩:=x.done;have kF:∀b:Addr,b∉(cX CX P w K mg base N qual scope f cd A outer s H E).ex:=λb z=>absurd (show b∈([]:List Addr)from z) U';refine⟨⟨e0.mod,S.kind,rfl,rfl,Wc _,λy z c h1 h2=>?_,λy hy=>?_,λy c j h=>?_,λj=>hd,Around.frames_deeper e0.frames,.inr ⟨rfl,rfl⟩,λb z=>absurd z (kF b),e0.bs,e0.iJ,λb j j=>kF b,λb z=>absurd z (kF b),e0.f7,e0.je⟩,rfl,e0.bare,Un.kept hk,⟨_,x.toInCall.ns,λi y v h1 h2 h3=>?_⟩,λy c h=>⟨_,x.cell y c h⟩,e0.ay.fresh (Wc _),λy c h=>?_,λp hp=>absurd (show p∈([]:List (Addr×Obj))from hp) U',e0.ay.kept hk,?_⟩;.exact name_of_addr x.apart (Wz h1) (Wz h2)
 .have hy:scope.names.lookup y=some .cell\/scope.names.lookup y=some .free:=hy;rcases hy with hy|hy;.exact Cn hy
  .exact absurd rfl (S.wX _ (Wz hy))
 .exact J0 (x.above y c (Wz h))
 .have hi:i<vs.length:=by
   unfold dm at h2;by_cases hi:i<vs.length;.exact hi
   .rw[List.getElem?_append_right (~~~hi)]at h2;rw[List.getElem?_replicate]at h2;split at h2<;>cases h2
  have ha:vs[i]?=some v:=by unfold dm at h2;rw[Qu (~~~hi),Wj]at h2;cases e:vs[i]? with|none=>rw[e]at h2;cases h2|some a=>rw[e]at h2;cases h2;rfl
  obtain⟨u,hu,rv⟩:=r.get ha;have hp:ps[i]?=some y:=by rw[<-S.pre,List.getElem?_take_of_lt Y'];exact h1
  have Co:ps.Nodup:=by rw[<-S.pre];exact S.nd.sublist (List.take_sublist _ _)
  refine⟨u,rv,?_⟩;rcases S.par y (Wx hp)with k|k;.exact .inl ⟨k,Ck Co hp hu k⟩
  .obtain⟨c,e⟩:=Cn (n:=s.heap.objs.size+1) k;refine .inr ⟨.inl k,c,e,?_⟩;have q:=x.cell y c e;rw[Cm Co hp hu (by show scope.names.lookup y≠_;rw[k];decide)]at q;exact q
 .exact e0.ay.fresh (J0 (x.above y c (Wz h)))
 .unfold dm;show _=N.length;rw[Q6,Wa,List.length_replicate];lia
theorem tM{k:Nat}{dV kV:Value}(lk:K.lookup f=some ⟨oc,od,.func (Q7 name qual params body scope dV kV doc pm an aE ct),de⟩)(da:PySem.W.codeIn K aE qual=true)(S:dM N ps scope)(len:∀vs H Q E,sp vs H Q E->vs.length=ps.length)(bZ:∀(A:Wp)(outer:List Env)(s:W2)(H:Hp)(vs:List V)(Q:VK)(E:XK),bM k (A.deeper (Qx qual scope s.heap.objs.size f aE))->sp vs H Q E->∃t,dI (cX CX P w K mg base N qual scope f aE A outer s H E) body t/\t {nx:=λj H'=>Q .ax H',rt:=Q} (dm N vs) H):gc P w K mg base CX (k+1) f (Q7 name qual params body scope dV kV doc pm an aE ct) ps sp:=by
 refine⟨len,λA outer s H args us vs Q E hr e0 hb r jN=>?_⟩;have hl:=len _ _ _ _ jN;have KX:K.In s.heap:=e0.mod.lG.keeps λb o e=>(e0.bs b o e).1;have lim:s.heap.NoLimit:=e0.mod.nolimit.keeps λb o e=>(e0.bs b o e).1;have p_:∀y∈ps.zip us,scope.names.lookup y.1=some .local\/scope.names.lookup y.1=some .cell/\((Qy (s.heap.objs.size+1) scope.names []).lookup y.1).isSome=true:=λ⟨n,v⟩hy=>by
  rcases S.par n (Jc hy).1 with q|q;.exact .inl q
  .exact .inr ⟨q,QZ _ _ _ (.inl q)⟩
 refine codeAny_call_function hr.depth (KX _ _ lk) rfl S.co S.gen rfl (PySem.W.codeRec_of KX da) (hb _ _ _ _ ?_);refine wpAny_newFunctionEnv_cells S.kind p_ λenv he s1 x=>?_;subst he;refine⟨lim.keeps x.toInCall.keep,codeAny_func ?_⟩;obtain⟨t,ht,hq⟩:=bZ A outer s H vs Q E (hr.deeper _) jN;have I:Inv (cX CX P w K mg base N qual scope f aE A outer s H E) [] (dm N vs) H s1:=wY S hr.hd e0 hl r x;refine Q9 (ht [] s1 (dm N vs) H _ I hq) (λfl s' hs=>?_) λe s' hs=>hs;have fin:∀{SL:St}{H':Hp}{v:V}{u:Value},Inv (cX CX P w K mg base N qual scope f aE A outer s H E) [] SL H' s'->RelV v u->Q v H'->CE outer P w H s Q u s':=λ{SL H' v u}J rv q=>⟨v,H',J.os,J.bare,J.base,J.ay,rv,q⟩;cases fl with|ret u=>obtain⟨v,SL,H',J,rv,q⟩:=hs;exact fin J rv q|next=>obtain⟨SL,H',J,q⟩:=hs;exact fin (v:=V.ax) (u:=Value.none) J rfl q|brk=>obtain⟨_,_,_,q⟩:=hs;exact False.elim q|cont=>obtain⟨_,_,_,q⟩:=hs;exact False.elim q
section
variable{p:Pos}{t:TA}{id T:String}{r:List V->Hp->VK->Prop}
def Cp(r:List V->Hp->VK->Prop)(t:TA):TE:=λY H Q=>t Y H λvs H1=>r vs H1 Q
theorem qa(hc:eF X (.builtin id) r)(hg:Gl X x)(hm:X.mg x=none)(hv:Qw x=some (.builtin id))(ha:PA X (e::es) t)(hn:x≠"__name__":=by decide)(cz:(x==("__debug__":Str))=false:=by decide)(he:W9 (e::es) X.env=(false,eval e X.env)::W9 es X.env:=by rfl)(bH:(Q3 pos (W9 es X.env)).any (·.1)=false:=by rfl):PE X (.Call (.Name x p) (e::es) [] pos) (Cp r t):=by intro pins s Y H Q I h;refine QM (mO I hg hm hv ?_ hn cz);exact PyProof.Rows.callWith_builtin1 (aX (ha pos pins s Y H _ I h) λus s1⟨vs,H1,I1,r1,q1⟩=>hc pins s1 Y H1 vs us Q I1 r1 q1) he bH
theorem N5(hc:eF X (.type T) r)(hg:Gl X x)(hm:X.mg x=none)(hv:Qw x=some (.type T))(ha:PA X (e::es) t)(hn:x≠"__name__":=by decide)(cz:(x==("__debug__":Str))=false:=by decide)(he:W9 (e::es) X.env=(false,eval e X.env)::W9 es X.env:=by rfl)(bH:(Q3 pos (W9 es X.env)).any (·.1)=false:=by rfl):PE X (.Call (.Name x p) (e::es) [] pos) (Cp r t):=by intro pins s Y H Q I h;refine QM (mO I hg hm hv ?_ hn cz);exact QG (aX (ha pos pins s Y H _ I h) λus s1⟨vs,H1,I1,r1,q1⟩=>hc pins s1 Y H1 vs us Q I1 r1 q1) he bH
end
theorem N6{vs}(ht:IsTup s.heap t vs.toArray)(hb:IsTup s.heap b ws.toArray)(hv:vs≠[])(h1:ws=[]->Q (.ref t) s)(h2:ws≠[]->Q (.ref s.heap.objs.size) {s with heap:=s.heap.push {cls:=.type "tuple",data:=.seq (vs++ws).toArray}})(hsz:vs.length+ws.length<=Wb):W8 (model prog w) A (QJ .Add (.ref t) (.ref b)) Q E s:=by
 obtain⟨⟨cls,dd,data,sl⟩,ho,hc,n,hd⟩:=id ht;obtain⟨⟨cls2,mR,data2,lP⟩,ho2,hc2,n2,hd2⟩:=id hb;simp only at hc hd hc2 hd2;subst hc hd hc2 hd2;have e:vs.toArray++ws.toArray=(vs++ws).toArray:=by simp
 by_cases hw:ws=[]
 .exact concat_meets ⟨_,ho,rfl⟩ ⟨_,ho2,rfl⟩ noFill_tuple_add seq_tuple_add PySem.F.slot_tuple_add PySem.F.entry_tuple_add (PySem.F.args_tuple_add_2 _ _) (tuple_addW1 t b vs.toArray ws.toArray n n2 dd mR sl lP (~~~hv) #v[hw]) ⟨ho,ho2,h1 hw⟩
 .refine concat_meets ⟨_,ho,rfl⟩ ⟨_,ho2,rfl⟩ noFill_tuple_add seq_tuple_add PySem.F.slot_tuple_add PySem.F.entry_tuple_add (PySem.F.args_tuple_add_2 _ _) (tuple_addW2 t b vs.toArray ws.toArray n n2 dd mR sl lP (~~~hv) (~~~hw) %[Wr,Wr|hsz]) ⟨ho,ho2,?_⟩;rw[e];exact h2 hw
def aU(n d:Nat):Option Int->Nat|none=>d|some v=>if v<0 then(v+(n:Int)).toNat else min v.toNat n
theorem Cq(n d:Nat):aU n d none=d:=rfl
theorem Cr(n d k:Nat):aU n d (some (k:Int))=min k n:=by show(if(k:Int)<0 then((k:Int)+(n:Int)).toNat else min (k:Int).toNat n)=min k n;rw[if_neg Y',QF]
theorem wZ(n d:Nat)(hd:d<=n)(o:Option Int):aU n d o<=n:=by cases o with|none=>exact hd|some v=>
 show(if v<0 then(v+(n:Int)).toNat else min v.toNat n)<=n;by_cases hv:v<0;.rw[if_pos hv];lia
 .rw[if_neg hv];exact Nat.min_le_right _ _
theorem Cs(v:Int)(n d:Nat):(if v<0 then max (v+(n:Int)) 0 else min v (n:Int))=((aU n d (some v):Nat):Int):=by
 show(if v<0 then max (v+(n:Int)) 0 else min v (n:Int))=(((if v<0 then(v+(n:Int)).toNat else min v.toNat n):Nat):Int);by_cases hv:v<0;.simp only[if_pos hv];lia
 .simp only[if_neg hv];lia
theorem N7(lo hi:Option Int)(n:Nat):Builtin.Slice.sliceAdjust lo hi 1 (n:Int)=(((aU n 0 lo:Nat):Int),((aU n n hi:Nat):Int)):=by
 have h1:¬(1:Int)<0:=by lia
 unfold Builtin.Slice.sliceAdjust;simp only[h1,if_false];refine Prod.ext ?_ ?_;.cases lo with|none=>rfl|some v=>exact Cs v n 0
 .cases hi with|none=>rfl|some v=>exact Cs v n n
theorem N8(i j:Nat):Jm (i:Int) (j:Int) 1=j-i:=by
 unfold Jm;have h1:(1:Int)>0:=by lia
 simp only[h1,if_true,Int.ediv_one];split<;>lia
theorem Ct{v Q}(p:IsPart v o)(h:Q o s):W8 (model prog w) A (Builtin.Slice.slicePartIndex v) Q E s:=by cases p with|none=>exact slicePart_none h|int i t=>exact slicePart_int h
theorem Cu{Q:Int×Int×Nat->W2->Prop}(hs:s.heap.IsSliceOf sl vl vu .none)(pl:IsPart vl lo)(pu:IsPart vu hi)(h:Q (((aU n 0 lo:Nat):Int),1,aU n n hi-aU n 0 lo) s):W8 (model prog w) A (Builtin.Slice.sliceApplied (.ref sl) (pure (n:Int))) Q E s:=by obtain⟨os,hos,hcs,hds⟩:=id hs;unfold Builtin.Slice.sliceApplied Builtin.Slice.sliceFields;refine W0 (W0 (WK hos hds (x:=vl) rfl (W0 (WK hos hds (x:=vu) rfl (W0 (WK hos hds (x:=.none) rfl (W4 ?_)))))));refine W0 (slicePart_none ?_);show W8 _ _ (if((1:Int)==0)=true then _ else _) _ _ s;rw[if_neg Z'];refine W0 (Ct pl (W0 (Ct pu (W0 (W4 ?_)))));show W8 _ _ (match Builtin.Slice.sliceAdjust lo hi 1 (n:Int)with|(lo,hi)=>pure (lo,(1:Int),Jm lo hi 1)) _ _ s;rw[N7 lo hi n];show W8 _ _ (pure (((aU n 0 lo:Nat):Int),(1:Int),Jm ((aU n 0 lo:Nat):Int) ((aU n n hi:Nat):Int) 1)) _ _ s;rw[N8];exact W4 h
theorem N9(xs:Array Value)(i k:Nat):((WI k).filterMap λ(m:Nat)=>xs[((i:Int)+(m:Int)*1).toNat]?).toArray=((xs.toList.drop i).take k).toArray:=by
 have e:(λ(m:Nat)=>xs[((i:Int)+(m:Int)*1).toNat]?)=λm=>xs[i+m]?:=by
  funext m;have:((i:Int)+(m:Int)*1).toNat=i+m:=by lia
  rw[this]
 rw[e];have:=pick_run xs i k;rw[List.filterMap_map]at this;have e2:((λx=>xs[x]?)∘λx=>i+x)=λm=>xs[i+m]?:=rfl;rw[e2]at this;rw[this]
theorem N_{t:Addr}(ht:IsTup s.heap t items)(hs:s.heap.IsSliceOf sl vl vu .none)(pl:IsPart vl lo)(pu:IsPart vu hi)(hw:¬(aU items.size 0 lo=0/\aU items.size items.size hi=items.size))(h:Q (.ref s.heap.objs.size) {s with heap:=s.heap.push {cls:=.type "tuple",data:=.seq ((items.toList.drop (aU items.size 0 lo)).take (aU items.size items.size hi-aU items.size 0 lo)).toArray}})(hsz:items.size<=Wb):W8 (model prog w) A (getItem (.ref t) (.ref sl)) Q E s:=by
 have tN:sizeOk (.seq ((items.toList.drop (aU items.size 0 lo)).take (aU items.size items.size hi-aU items.size 0 lo)).toArray):=by show((items.toList.drop (aU items.size 0 lo)).take (aU items.size items.size hi-aU items.size 0 lo)).toArray.size<=Wb;rw[Wr,Jq,List.length_drop,Qs];lia
 have hj:aU items.size items.size hi<=items.size:=wZ _ _ (Wc _) hi;obtain⟨os,hos,hcs,hds⟩:=id hs;have w6:s.TypeIs (.ref sl) "slice":=⟨os,hos,hcs⟩;unfold getItem;try with_reducible refine WC ?_
 first|refine W0 (W4 ?_)|skip
 refine W0 (wpAny_sequenceKey ht.typeIs Z' ?_);refine W0 (Q0 (name:=Str.ofString "__getitem__") ht.typeIs QP (WS QP ht.typeIs entry_tuple_getitem ?_ (args_tuple_getitem _ _)));show W8 _ _ (Builtin.Tuple.tupleItemsOf (.ref t)>>=_) _ _ s;refine W0 (tupleItemsOf_ ht ?_);refine W0 (J5 w6 ?_);rw[if_pos Z'];refine W0 (Cu hs pl pu ?_);have ic:¬(((aU items.size 0 lo:Nat):Int)==0&&(1:Int)==1&&aU items.size items.size hi-aU items.size 0 lo==items.size)=true:=by intro q;rw[Wq,Wq]at q;have q1:((aU items.size 0 lo:Nat):Int)=0:=eq_of_beq q.1.1;have q2:aU items.size items.size hi-aU items.size 0 lo=items.size:=eq_of_beq q.2;exact hw ⟨Y',Y'⟩
 show W8 _ _ (if(((aU items.size 0 lo:Nat):Int)==0&&(1:Int)==1&&aU items.size items.size hi-aU items.size 0 lo==items.size)=true then _ else _) _ _ s;rw[if_neg ic,N9];first|exact W0 (m:=Jr _) (Qg (W4 ⟨_,rfl,W4 h⟩) tN)|exact W0 (m:=Jr _) (Qg (W0 (W4 (W4 ⟨_,rfl,W4 h⟩))) tN)|exact W0 (W0 (m:=Jr _) (Qg (W4 (W4 ⟨_,rfl,W4 h⟩)) tN))|exact W0 (W0 (m:=Jr _) (Qg (W4 ⟨_,rfl,W4 h⟩) tN))
abbrev TO:=St->Hp->(Option Int->Hp->Prop)->Prop
def PO(X:Cx)(e:Option Expr)(t:TO):Prop:=∀(pins:List (Addr×Obj))(s:W2)(Y:St)(H:Hp)(Q:Option Int->Hp->Prop),Inv X pins Y H s->t Y H Q->W8 (model X.prog X.w) X.A (evalPart e X.env) (λu s'=>∃o H',Inv X pins Y H' s'/\IsPart u o/\Q o H') X.xe s
def Oa:TO:=λj H Q=>Q none H
def Ob(t:TE):TO:=λY H Q=>t Y H λx H1=>∃i,x=.int i/\Q (some i) H1
section
variable{lo hi:Option Expr}{tl th:TO}{p2:Pos}
theorem Oc:PO X none Oa:=by intro pins s Y H Q I h;rw[evalPart_none];exact W4 ⟨none,H,I,.none,h⟩
theorem Od(h:PE X e te):PO X (some e) (Ob te):=by intro pins s Y H Q I hw;rw[evalPart_some];refine aX (h pins s Y H _ I hw) λu s1 hh=>?_;obtain⟨x,H1,I1,r1,q1⟩:=hh;obtain⟨i,rfl,q⟩:=q1;obtain⟨t,rfl⟩:=r1;exact⟨some i,H1,I1,.int i t,q⟩
def jO(X:Cx)(r:V->Option Int->Option Int->Hp->VK->Prop):Prop:=∀(pins:List (Addr×Obj))(s:W2)(Y:St)(H:Hp)(x:V)(v vl vu:Value)(lo hi:Option Int)(sl:Addr)(Q:VK),Inv X pins Y H s->RelV x v->s.heap.IsSliceOf sl vl vu .none->IsPart vl lo->IsPart vu hi->r x lo hi H Q->∃T id,typeLookup (.type T) "__getitem__"=pure (some (.builtin id))/\s.TypeIs v T/\W8 (model X.prog X.w) X.A (getItem v (.ref sl)) (EP X pins Y Q) X.xe s
theorem jO.or{r'}(h:jO X r)(h':jO X r'):jO X λx lo hi H Q=>r x lo hi H Q\/r' x lo hi H Q:=by
 intro pins s Y H x v vl vu lo hi sl Q I rx hs pl pu q;rcases q with q|q;.exact h pins s Y H x v vl vu lo hi sl Q I rx hs pl pu q
 .exact h' pins s Y H x v vl vu lo hi sl Q I rx hs pl pu q
def Oe(r:V->Option Int->Option Int->Hp->VK->Prop)(te:TE)(tl th:TO):TE:=λY H Q=>te Y H λx H1=>tl Y H1 λl H2=>th Y H2 λu H3=>r x l u H3 Q
theorem Cv(hr:jO X r)(he:PE X e te)(hl:PO X lo tl)(hu:PO X hi th):PE X (.Subscript e (.Slice lo hi none p2) pos) (Oe r te tl th):=by intro pins s Y H Q I h;refine Subscript_ (aX (he pins s Y H _ I h) λv s1 hh=>?_);obtain⟨x,H1,I1,r1,q1⟩:=hh;refine wpAny_Slice (aX (hl pins s1 Y H1 _ I1 q1) λvl s2⟨l,H2,I2,pl,q2⟩=>aX (hu pins s2 Y H2 _ I2 q2) λvu s3 hh=>?_);obtain⟨u,H3,I3,pu,q3⟩:=hh;rw[evalPart_none];refine W4 ?_;have I4:Inv X pins Y H3 {s3 with heap:=s3.heap.push {cls:=.type "slice",data:=.fields #[vl,vu,.none]}}:=I3.kept (t':=s3.toks) λb ob q=>W5 _ q;obtain⟨T,id,hT,ht,hg⟩:=hr pins {s3 with heap:=s3.heap.push {cls:=.type "slice",data:=.fields #[vl,vu,.none]}} Y H3 x v vl vu l u s3.heap.objs.size Q I4 r1 (Heap.IsSliceOf.new ..) pl pu q3;show W8 (model X.prog X.w) X.A (subscriptTail e (.Slice lo hi none p2) v (.ref s3.heap.objs.size)) (EP X pins Y Q) X.xe {s3 with heap:=s3.heap.push {cls:=.type "slice",data:=.fields #[vl,vu,.none]}};exact tail_any (ops:=[.ref s3.heap.objs.size,v]) ht hT hg (by with_unfolding_all rfl)
def lQ(xs:List V)(lo hi:Option Int):List V:=(xs.drop (aU xs.length 0 lo)).take (aU xs.length xs.length hi-aU xs.length 0 lo)
theorem Cw(xs:List V)(lo hi:Option Int):(lQ xs lo hi).length<=xs.length:=by unfold lQ;rw[Jq,List.length_drop];lia
def Of(K:W3):V->Option Int->Option Int->Hp->VK->Prop:=λx lo hi H Q=>∃a xs,x=.ref a/\c9 K H a xs/\¬(aU xs.length 0 lo=0/\aU xs.length xs.length hi=xs.length)/\∀p,H p=none->Q (.ref p) (upd H p (.tup (lQ xs lo hi)))
theorem Og:jO X (Of X.K):=by intro pins s Y H x v vl vu lo hi sl Q I rx hs pl pu h;obtain⟨a,xs,rfl,hx,hw,q⟩:=h;cases rx;obtain⟨its,r,ht,hz⟩:=I.tuple hx;have hlen:its.toArray.size=xs.length:=%[Wr|r.length.symm];refine⟨"tuple",_,PyProof.Rows.slot_tuple_getitem.lookup,ht.typeIs,?_⟩;refine N_ ht hs pl pu %[hlen|hw] ?_ %[hlen|hz];rw[hlen];refine⟨.ref s.heap.objs.size,_,I.laid (t':=s.toks) (o:=.tup (lQ xs lo hi)) (λb ob q=>W5 _ q) (Wc _) ?_,rfl,q _ (I.ay.fresh (Wc _))⟩;exact⟨Wy (Cw xs lo hi) hz,_,(r.drop (aU xs.length 0 lo)).take (aU xs.length xs.length hi-aU xs.length 0 lo),jb.new _ _⟩
def Cy(K:W3):R2:=λx y H Q=>∃a b xs ys,x=.ref a/\y=.ref b/\c9 K H a xs/\c9 K H b ys/\xs≠[]/\xs.length+ys.length<=Wb/\(ys=[]->Q (.ref a) H)/\(ys≠[]->∀p,H p=none->Q (.ref p) (upd H p (.tup (xs++ys))))
theorem Vals.w8{xs}(r:Vals xs us):us=[]↔xs=[]:=by cases r with|nil=>simp|cons _ _=>simp
theorem Oh:br X (QJ .Add) (Cy X.K):=by intro pins s Y H x y v u Q I rx ry h;obtain⟨a,b,xs,ys,rfl,rfl,ha,hb,hx,hz,q1,q2⟩:=h;cases rx;cases ry;obtain⟨its,r1,p1,_⟩:=I.tuple ha;obtain⟨its2,r2,p2,_⟩:=I.tuple hb;refine N6 p1 p2 (λz=>hx (r1.w8.mp z)) (λz=>⟨.ref a,H,I,rfl,q1 (r2.w8.mp z)⟩) (λz=>?_) (by rw[<-r1.length,<-r2.length];exact hz);refine⟨.ref s.heap.objs.size,_,I.laid (t':=s.toks) (o:=.tup (xs++ys)) (λb ob q=>W5 _ q) (Wc _) ?_,rfl,q2 (λw=>z (r2.w8.mpr w)) _ (I.ay.fresh (Wc _))⟩;exact⟨%[Q6|hz],_,r1.append r2,jb.new _ _⟩
end
def fA(n:Nat)(i:Int):Option Nat:=if 0<=i then if i<n then some i.toNat else none else if-(n:Int)<=i then some (i+n).toNat else none
def fB{α:Type}(xs:List α)(i:Int):Option α:=(fA xs.length i).bind λj=>xs[j]?
theorem Cz{i}(h:fA n i=some j):seqIndex? i n=some j/\j<n/\-(n:Int)<=i/\i<n:=by
 unfold fA at h;by_cases h0:0<=i
 .rw[if_pos h0]at h;by_cases h1:i<n;.rw[if_pos h1]at h;have e:i.toNat=j:=WD h;exact⟨by rw[seqIndex_of h0 h1,e],Y',Y',h1⟩
  .rw[if_neg h1]at h;cases h
 .rw[if_neg h0]at h;by_cases h1:-(n:Int)<=i;.rw[if_pos h1]at h;have e:(i+n).toNat=j:=WD h;exact⟨by rw[seqIndex_neg Y' h1,e],Y',h1,Y'⟩
  .rw[if_neg h1]at h;cases h
theorem w_{α:Type}{xs:List α}{i v}(h:fB xs i=some v):∃j,seqIndex? i xs.length=some j/\xs[j]?=some v/\j<xs.length/\-(xs.length:Int)<=i/\i<xs.length:=by unfold fB at h;cases e:fA xs.length i with|none=>rw[e]at h;cases h|some j=>rw[e]at h;obtain⟨h1,h2,h3,h4⟩:=Cz e;exact⟨j,h1,h,h2,h3,h4⟩
def xa(b:Expr):Prop:=∀o i,subscripted b false o i=operate [o,i] (getItem o i)
def ie(X:Cx)(r:R2):Prop:=∀(value slice:Expr)(pins:List (Addr×Obj))(s:W2)(Y:St)(H:Hp)(x y:V)(v u:Value)(Q:VK),Inv X pins Y H s->RelV x v->RelV y u->r x y H Q->subscripted slice false v u=operate [v,u] (getItem v u)->W8 (model X.prog X.w) X.A (subscriptTail value slice v u) (EP X pins Y Q) X.xe s
def qb(X:Cx)(id:String)(r:V->List V->Hp->VK->Prop):Prop:=∀(pins:List (Addr×Obj))(s:W2)(Y:St)(H:Hp)(x:V)(xs:List V)(v:Value)(us:List Value)(Q:VK),Inv X pins Y H s->RelV x v->Vals xs us->r x xs H Q->W8 (model X.prog X.w) X.A (call (.builtin id) (v::us)) (EP X pins Y Q) X.xe s
section
variable{a b:Expr}{tb:TE}
theorem ie.or(h:ie X r)(h':ie X r'):ie X λx y H Q=>r x y H Q\/r' x y H Q:=by
 intro value slice pins s Y H x y v u Q I rx ry q hs;rcases q with q|q;.exact h value slice pins s Y H x y v u Q I rx ry q hs
 .exact h' value slice pins s Y H x y v u Q I rx ry q hs
theorem CA(hr:ie X r)(ha:PE X a ta)(hb:PE X b tb)(hs:xa b):PE X (.Subscript a b pos) (mP r ta tb):=by intro pins s Y H Q I h;exact Subscript_ (wM ha hb I h λv u s2 x y H2 I2 rx ry q=>hr a b pins s2 Y H2 x y v u Q I2 rx ry q (hs _ _))
def CB(K:W3):R2:=λx y H Q=>∃p xs i v,x=.ref p/\y=.int i/\cP K H p xs/\fB xs i=some v/\Q v H
def CD(K:W3):R2:=λx y H Q=>∃p xs i v,x=.ref p/\y=.int i/\c9 K H p xs/\fB xs i=some v/\Q v H
def CF:R2:=λx y H Q=>∃z i c,x=.str z/\y=.int i/\z.length<=Wb/\fB z.cps.toList i=some c/\Q (.str ⟨#[c]⟩) H
theorem Oi:ie X (CB X.K):=by
 intro value slice pins s Y H x y v u Q I rx ry h hs;obtain⟨p,xs,i,z,rfl,rfl,hq,he,q⟩:=h;cases rx;obtain⟨t,rfl⟩:=ry;obtain⟨its,r,pl,hz⟩:=I.list hq;obtain⟨j,h1,h2,h3,h4,h5⟩:=w_ he;obtain⟨w,ew,bT⟩:=r.get h2;have hl:=r.length;have hn:=oB;have fin:EP X pins Y Q w s:=⟨z,H,I,bT,q⟩;by_cases h0:0<=i
 .have hj:i.toNat=j:=by rw[seqIndex_of h0 h5]at h1;exact WD h1
  exact item_listR pl.isList h0 Y' (by rw[hj];simpa using ew) fin hs
 .have hj:(i+(its.toArray.size:Int)).toNat=j:=by rw[seqIndex_neg Y' h4]at h1;rw[Wr,<-hl];exact WD h1
  exact subscriptTail_builtinR (x:=w) pl.isList.typeIs slot_list_getitem.lookup (wpAny_getItem_list_neg (Q:=λr s'=>r=w/\EP X pins Y Q r s') pl.isList Y' (by rw[Wr]<;>lia) Y' (by rw[hj];simpa using ew) ⟨rfl,fin⟩) hs
theorem Oj:ie X (CD X.K):=by intro value slice pins s Y H x y v u Q I rx ry h hs;obtain⟨p,xs,i,z,rfl,rfl,hq,he,q⟩:=h;cases rx;obtain⟨t,rfl⟩:=ry;obtain⟨its,r,pl,hz⟩:=I.tuple hq;obtain⟨j,h1,h2,h3,h4,h5⟩:=w_ he;obtain⟨w,ew,bT⟩:=r.get h2;have hl:=r.length;have hn:=oB;have fin:EP X pins Y Q w s:=⟨z,H,I,bT,q⟩;exact subscriptTail_builtinR (x:=w) pl.typeIs slot_tuple_getitem.lookup (getItem_tuple (j:=j) (Q:=λr s'=>r=w/\EP X pins Y Q r s') pl Y' Y' (by rw[Wr,<-hl];exact h1) (~~~ew) ⟨rfl,fin⟩) hs
theorem Ol:ie X CF:=by intro value slice pins s Y H x y v u Q I rx ry h hs;obtain⟨z,i,c,rfl,rfl,hz,he,q⟩:=h;obtain⟨t,rfl⟩:=rx;obtain⟨t',rfl⟩:=ry;obtain⟨j,h1,h2,h3,h4,h5⟩:=w_ he;have hl:z.cps.toList.length=z.length:=#v[Str.length];rw[hl]at h1 h4 h5;have hn:=oB;exact tail_any (typeIs_str s z t) slot_str_getitem.lookup (getItem_str (c:=c) (by have e1:decide (i< -(2^63:Int))=false:=decide_eq_false Y';have e2:decide (i≥2^63)=false:=decide_eq_false Y';rw[e1,e2,Bool.or_false]) (by rw[h1];simpa using h2) ⟨.str ⟨#[c]⟩,H,I.tok _,⟨_,rfl⟩,q⟩) hs
def tO(K:W3):R2:=λx y H Q=>CB K x y H Q\/CD K x y H Q\/CF x y H Q
theorem xf:ie X (tO X.K):=Oi.or (Oj.or Ol)
theorem Om(its:List Value)(n j:Nat)(u:Value):Obj.mapSeq (·.setIfInBounds j u) {cls:=.type "list",data:=.seq its.toArray n}={cls:=.type "list",data:=.seq (its.set j u).toArray n}:=by simp[Obj.mapSeq]
theorem Inv.lst{X pins Y H s p xs}(I:Inv X pins Y H s)(h:H p=some (.lst xs)):∃(its:List Value)(n:Nat),Vals xs its/\s.heap.get? p=some {cls:=.type "list",data:=.seq its.toArray n}/\xs.length<=Wb:=by obtain⟨z,its,n,r,e⟩:=I.ay p _ h;exact⟨its,n,r,e,z⟩
theorem Inv.Oo{p:Addr}{xs ys:List V}{its its':List Value}{n n':Nat}{f:Obj->Obj}(I:Inv X pins Y H s)(h:H p=some (.lst xs))(ho:s.heap.get? p=some {cls:=.type "list",data:=.seq its.toArray n})(hf:f {cls:=.type "list",data:=.seq its.toArray n}={cls:=.type "list",data:=.seq its'.toArray n'})(r:Vals ys its')(hz:ys.length<=Wb)(t:Nat):Inv X pins Y (upd H p (.lst ys)) {s with heap:=s.heap.update p f,toks:=t}:=by
 have e:(s.heap.update p f).get? p=some {cls:=.type "list",data:=.seq its'.toArray n'}:=by rw[Qb f ho (by rw[hf]<;>rfl),hf]
 refine I.write (x:=p) (e:=p) (by rw[h];trivial) (.inl rfl) (λb u hb q=>(WX _ _ (Ne.symm hb)).trans q) ⟨_,e⟩ ?_;exact⟨hz,its',n',r,e⟩
def Oq:V->V->V->Hp->(Hp->Prop)->Prop:=λo i v H Q=>∃p xs k j,o=.ref p/\i=.int k/\H p=some (.lst xs)/\fA xs.length k=some j/\Q (upd H p (.lst (xs.set j v)))
theorem Ot:BV X Oq:=by
 intro pins s Y H o i v ov iv u Q I ro ri rv h;obtain⟨p,xs,k,j,rfl,rfl,hp,hj,q⟩:=h;cases ro;obtain⟨t,rfl⟩:=ri;obtain⟨its,n,r,ho,hz⟩:=I.lst hp;obtain⟨h1,h2,h3,h4⟩:=Cz hj;have hl:=r.length;have hn:=oB;have I':Inv X pins Y (upd H p (.lst (xs.set j v))) {s with heap:=s.heap.update p (Obj.mapSeq (·.setIfInBounds j u))}:=I.Oo hp ho (Om its n j u) (r.set rv j) %[QQ|hz] s.toks;by_cases h0:0<=k
 .have hk:k.toNat=j:=by rw[seqIndex_of h0 h4]at h1;exact WD h1
  exact PySem.W.ki_setAt ho h0 Y' (by rw[Wr,<-hl];exact h4) (by rw[hk];exact⟨_,I',q⟩)
 .have hk:(k+(its.toArray.size:Int)).toNat=j:=by rw[seqIndex_neg Y' h3]at h1;rw[Wr,<-hl];exact WD h1
  exact PySem.W.ki_setBack ho Y' (by rw[Wr,<-hl];exact h3) Y' (by rw[hk];exact⟨_,I',q⟩)
theorem Ou(lo hi:Option Int)(n:Nat):(JU lo hi none n).1=((aU n 0 lo:Nat):Int)/\(JU lo hi none n).2.1=((aU n n hi:Nat):Int)/\(JU lo hi none n).2.2=1:=by
 refine⟨?_,?_,rfl⟩;.cases lo with|none=>simp[JU,aU]|some i=>
   simp only[JU,aU,Option.getD_none,show(1:Int)>0 by decide,if_true];by_cases h:i<0;.simp only[h,if_true]<;>lia
   .simp only[h,if_false]<;>lia
 .cases hi with|none=>simp[JU,aU]|some i=>
 simp only[JU,aU,Option.getD_none,show(1:Int)>0 by decide,if_true];by_cases h:i<0;.simp only[h,if_true]<;>lia
 .simp only[h,if_false]<;>lia
theorem Ov(its:List Value)(lo hi:Option Int):slicePick its.toArray lo hi none=((its.drop (aU its.length 0 lo)).take (aU its.length its.length hi-aU its.length 0 lo)).toArray:=by obtain⟨h1,h2,h3⟩:=Ou lo hi its.toArray.size;unfold slicePick;rw[h1,h2,h3];simp only[sliceRange_one,pick_run,Wr]<;>rfl
def CG(K:W3):V->Option Int->Option Int->Hp->VK->Prop:=λx lo hi H Q=>∃a xs,x=.ref a/\cP K H a xs/\∀p,H p=none->Q (.ref p) (upd H p (.lst (lQ xs lo hi)))
theorem Ow:jO X (CG X.K):=by intro pins s Y H x v vl vu lo hi sl Q I rx hs pl pu h;obtain⟨a,xs,rfl,hx,q⟩:=h;cases rx;obtain⟨its,r,ht,hz⟩:=I.list hx;have hlen:=r.length;refine⟨"list",_,slot_list_getitem.lookup,ht.isList.typeIs,?_⟩;refine wpAny_getItem_list_slice ht.isList hs pl pu .none U' ?_ (by rw[Wr]<;>lia);rw[Ov,<-hlen];refine⟨.ref s.heap.objs.size,_,I.laid (t':=s.toks) (o:=.lst (lQ xs lo hi)) (λb ob q=>W5 _ q) (Wc _) ?_,rfl,q _ (I.ay.fresh (Wc _))⟩;exact⟨Wy (Cw xs lo hi) hz,_,0,(r.drop (aU xs.length 0 lo)).take (aU xs.length xs.length hi-aU xs.length 0 lo),Wf _ rfl⟩
def kG:V->Bool|.ax=>true|.bl _=>true|.int _=>true|.str _=>true|_=>false
def lR:V->V->Bool|.ax,.ax=>true|.bl a,.bl b=>a==b|.bl a,.int b=>(if a then 1 else 0)==b|.int a,.bl b=>a==if b then 1 else 0|.int a,.int b=>a==b|.str a,.str b=>a==b|_,_=>false
theorem Ox{x v}(ry:RelV y u)(rx:RelV x v)(fy:kG y=true)(fx:kG x=true):SeqAt.EqAt A s u v (lR y x):=by cases y with
 |ax=>cases ry;cases x with|ax=>cases rx;exact SeqAt.EqAt.same _|bl b=>cases rx;exact SeqAt.EqAt.none_bool b|int b=>obtain⟨t,rfl⟩:=rx;exact SeqAt.EqAt.none_int b t|str b=>obtain⟨t,rfl⟩:=rx;exact SeqAt.EqAt.none_str b t|_=>exact absurd (show false=true from fx) WN
 |bl a=>cases ry;cases x with|ax=>cases rx;exact SeqAt.EqAt.bool_none a|bl b=>cases rx;exact SeqAt.EqAt.bool_bool a b|int b=>obtain⟨t,rfl⟩:=rx;exact SeqAt.EqAt.bool_int a b t|str b=>obtain⟨t,rfl⟩:=rx;exact SeqAt.EqAt.bool_str a b t|_=>exact absurd (show false=true from fx) WN
 |int a=>obtain⟨t',rfl⟩:=ry;cases x with|ax=>cases rx;exact SeqAt.EqAt.int_none a t'|bl b=>cases rx;exact SeqAt.EqAt.int_bool a t' b|int b=>obtain⟨t,rfl⟩:=rx;exact SeqAt.EqAt.int_int a t' b t|str b=>obtain⟨t,rfl⟩:=rx;exact SeqAt.EqAt.int_str a t' b t|_=>exact absurd (show false=true from fx) WN
 |str a=>obtain⟨t',rfl⟩:=ry;cases x with|ax=>cases rx;exact SeqAt.EqAt.str_none a t'|bl b=>cases rx;exact SeqAt.EqAt.str_bool a t' b|int b=>obtain⟨t,rfl⟩:=rx;exact SeqAt.EqAt.str_int a t' b t|str b=>obtain⟨t,rfl⟩:=rx;exact SeqAt.EqAt.str_str a t' b t|_=>exact absurd (show false=true from fx) WN
 |_=>exact absurd (show false=true from fy) WN
def kH(x:V)(u:Value):Bool:=match u with|.none=>lR .ax x|.bool b=>lR (.bl b) x|.int i _=>lR (.int i) x|.str z _=>lR (.str z) x|_=>false
theorem CI{x}(r:RelV y u)(f:kG y=true):kH x u=lR y x:=by cases y with|ax=>cases r;rfl|bl b=>cases r;rfl|int i=>obtain⟨t,rfl⟩:=r;rfl|str z=>obtain⟨t,rfl⟩:=r;rfl|_=>exact absurd (show false=true from f) WN
theorem xg{x}{xs:List V}{us:List Value}(h:Vals xs us):xs.all kG=true->us.any (kH x)=xs.any λy=>lR y x:=by induction h with|nil=>exactλj=>rfl|cons r t ih=>intro f;rw[Uc,Wq]at f;rw[Qr,Qr,CI r f.1,ih f.2]
theorem xh{x v}(rx:RelV x v)(fx:kG x=true):∀{xs:List V}{us:List Value},Vals xs us->xs.all kG=true->∀u∈us,SeqAt.EqAt A s u v (kH x u)
 |_,_,.nil,_=>λu hu=>by cases hu|y::xs,u::us,.cons r t,f=>λu' hu=>by
  rw[Uc,Wq]at f;rcases Wt.mp hu with rfl|hu;.rw[CI r f.1];exact Ox r rx f.1 fx
  .exact xh rx fx t f.2 u' hu
def tP(x:V)(xs:List V):Bool:=xs.any λy=>lR y x
def CJ(K:W3)(neg:Bool):R2:=λx y H Q=>∃p xs,y=.ref p/\(cP K H p xs\/c9 K H p xs)/\kG x=true/\xs.all kG=true/\Q (.bl (if neg then !tP x xs else tP x xs)) H
theorem Oy:br X (WA .NotIn) (CJ X.K true):=by
 intro pins s Y H x y v u Q I rx ry h;obtain⟨p,xs,rfl,hq,fx,fs,q⟩:=h;cases ry;rcases hq with hq|hq;.obtain⟨its,r,pl,hz⟩:=I.list hq;refine SeqAt.notIn_listAt (kH x) pl.isList (λw hw=>xh rx fx r fs w (~~~hw)) ⟨.bl _,H,I,rfl,?_⟩;rw[show its.toArray.any (kH x)=its.any (kH x)by simp,xg r fs];exact q
 .obtain⟨its,r,pl,hz⟩:=I.tuple hq;refine SeqAt.notIn_tupleAt (kH x) pl (λw hw=>xh rx fx r fs w (~~~hw)) ⟨.bl _,H,I,rfl,?_⟩;rw[show its.toArray.any (kH x)=its.any (kH x)by simp,xg r fs];exact q
theorem Oz:eF X (.builtin "len") λxs H Q=>∃p ys,xs=[.ref p]/\(cP X.K H p ys\/c9 X.K H p ys)/\Q (.int ys.length) H:=by
 intro pins s Y H xs us Q I r h;obtain⟨p,ys,rfl,hq,q⟩:=h;obtain⟨u,rfl,rx⟩:=f9 r;cases rx;have hn:=oB;rcases hq with hq|hq;.obtain⟨its,r',pl,hz⟩:=I.list hq;have hlen:=r'.length;exact Calls.call_len_list pl.isList (by simp only[Wr]<;>lia) ⟨.int ys.length,H,I.tok _,⟨s.toks+1,by rw[Wr,hlen]⟩,q⟩
 .obtain⟨its,r',pl,hz⟩:=I.tuple hq;have hlen:=r'.length;exact len_tuple pl (by simp only[Wr]<;>lia) ⟨.int ys.length,H,I.tok _,⟨s.toks+1,by rw[Wr,hlen]⟩,q⟩
theorem OA:eF X (.builtin "len") λxs H Q=>∃z,xs=[.str z]/\z.length<=Wb/\Q (.int z.length) H:=by intro pins s Y H xs us Q I r h;obtain⟨z,rfl,hz,q⟩:=h;obtain⟨u,rfl,t,rfl⟩:=f9 r;have hn:=oB;exact len_str Y' ⟨.int z.length,H,I.tok _,⟨_,rfl⟩,q⟩
theorem eF.or{f r'}(h:eF X f r)(h':eF X f r'):eF X f λxs H Q=>r xs H Q\/r' xs H Q:=by
 intro pins s Y H xs us Q I rs q;rcases q with q|q;.exact h pins s Y H xs us Q I rs q
 .exact h' pins s Y H xs us Q I rs q
theorem OB:eF X (.type "tuple") λxs H Q=>∃p ys,xs=[.ref p]/\((cP X.K H p ys/\∀l,H l=none->Q (.ref l) (upd H l (.tup ys)))\/c9 X.K H p ys/\Q (.ref p) H):=by
 intro pins s Y H xs us Q I r h;obtain⟨p,ys,rfl,h⟩:=h;obtain⟨u,rfl,rx⟩:=f9 r;cases rx;rcases h with⟨hq,q⟩|⟨hq,q⟩;.obtain⟨its,r',pl,hz⟩:=I.list hq;have hlen:=r'.length;refine call_tuple_list pl.isList (λh' kp=>?_) (by simp only[Wr]<;>lia);have I1:Inv X pins Y H {s with heap:=h'}:=I.kept (t':=s.toks) kp;have I2:Inv X pins Y (upd H h'.objs.size (.tup ys)) {s with heap:=h'.push {cls:=.type "tuple",data:=.seq its.toArray}}:=I1.laid (t':=s.toks) (λb o e=>W5 _ e) (Wc _) (show bw X.prog X.w _ _ _ (.tup ys)from⟨hz,its,r',jb.new _ _⟩);exact⟨.ref h'.objs.size,_,I2,rfl,q _ (I1.ay.fresh (Wc _))⟩
 .obtain⟨its,r',pl,hz⟩:=I.tuple hq;exact call_tuple_same pl ⟨.ref p,H,I,rfl,q⟩
def qc(K:W3)(T:String)(x:V)(H:Hp):Prop:=match x with|.str _=>T="str"|.int _=>T="int"|.ref p=>(T="list"/\∃xs,cP K H p xs)\/(T="tuple"/\∃o,K.lookup p=some o/\o.cls=.type "tuple"/\o.dict=none)\/T="dict"/\((∃ao,H p=some (.dK ao))\/∃ao,H p=some (.dT ao))\/T="set"/\∃S n,H p=some (.set S n)|_=>False
theorem OC{x v}(I:Inv X pins Y H s)(r:RelV x v)(ty:qc X.K T x H):s.TypeIs v T/\∀a,v=.ref a->∃ob,s.heap.get? a=some ob/\ob.dict=none:=by
 cases x with|str z=>obtain⟨t,rfl⟩:=r;cases show T="str"from ty;exact⟨typeIs_str s z t,λj e=>nomatch e⟩|int i=>obtain⟨t,rfl⟩:=r;cases show T="int"from ty;exact⟨typeIs_int s i t,λj e=>nomatch e⟩|ref p=>
  cases r;rcases ty with⟨rfl,xs,hq⟩|⟨rfl,o,hk,hc,hd⟩|⟨rfl,hk⟩|⟨rfl,S,n,hk⟩;.obtain⟨its,_,pl,_⟩:=I.list hq;refine⟨pl.isList.typeIs,λa e=>?_⟩;cases e;obtain⟨o,n,e,c,hd,_⟩:=pl;exact⟨o,e,hd⟩
  .refine⟨⟨o,I.dw p o hk,hc⟩,λa e=>?_⟩;cases e;exact⟨o,I.dw _ o hk,hd⟩
  .have z:∃o,s.heap.get? p=some o/\o.ExactDict:=by
    rcases hk with⟨ao,hk⟩|⟨ao,hk⟩;.obtain⟨_,_,_,_,o,_,_,e,ex,_⟩:=I.ay p _ hk;exact⟨o,e,ex⟩
    .obtain⟨_,_,_,_,o,_,_,e,ex,_⟩:=I.ay p _ hk;exact⟨o,e,ex⟩
   obtain⟨o,e,ex⟩:=z;refine⟨⟨o,e,ex.1⟩,λa e2=>?_⟩;cases e2;exact⟨o,e,ex.2.1⟩
  .obtain⟨o,_,_,_,e,ex,_⟩:=I.ay p _ hk;refine⟨⟨o,e,ex.1⟩,λa e2=>?_⟩;cases e2;exact⟨o,e,ex.2.1⟩|_=>exact False.elim ty
def CK(K:W3)(T:String)(r:V->List V->Hp->VK->Prop)(to:TE)(t:TA):TE:=λY H Q=>to Y H λx H1=>qc K T x H1/\t Y H1 λxs H2=>r x xs H2 Q
variable{o:Expr}{to:TE}{t:TA}{T id:String}{r:V->List V->Hp->VK->Prop}
theorem qd(pa:PlainAttrs T)(slot:Slot T name id)(OD:typeOf (.builtin id)=pure (.type "method_descriptor"))(hm:qb X id r)(ho:PE X o to)(ha:PA X (e::es) t)(ji:JS o name X.env (eval o X.env)=eval o X.env:=by rfl)(jj:((Q3 bL (W9 (e::es) X.env)).all (λx=>!x.1)&&(backToKw bL (JT [] X.env)).all (λx=>x.1.isSome)&&decide ((e::es).length+([]:List Keyword).length+(if([]:List Keyword).isEmpty then 0 else 1)<30))=true:=by rfl)(jk:(apos.endLine==bL.line)=true:=by rfl)(hs:W9 (e::es) X.env=(false,eval e X.env)::W9 es X.env:=by rfl)(xi:(Q3 bL (W9 es X.env)).any (·.1)=false:=by rfl):PE X (.Call (.Attribute o name apos) (e::es) [] bL) (CK X.K T r to t):=by intro pins s Y H Q I h;refine wpAny_Call_method_late ji jj jk rfl (aX (ho pins s Y H _ I h) λv s1 hh=>?_);obtain⟨x,H1,I1,r1,ty,q1⟩:=hh;obtain⟨h1,h2⟩:=OC I1 r1 ty;refine⟨T,id,pa,slot,OD,h1,h2,?_⟩;have hA:=ha bL pins s1 Y H1 _ I1 q1;rw[hs]at hA⊢;refine Calls.callWith_builtin (by show(false||(Q3 bL (W9 es X.env)).any (·.1))=false;rw[xi]<;>rfl) (Calls.evalArgs_plain ?_);exact aX hA λus s2⟨vs,H2,I2,r2,q2⟩=>hm pins s2 Y H2 x vs v us Q I2 r1 r2 q2
end
def OE(X:Cx)(id:String)(r:V->List V->Hp->VK->Prop):Prop:=∀(pins:List (Addr×Obj))(s:W2)(Y:St)(H:Hp)(x:V)(xs:List V)(v:Value)(us:List Value)(Q:VK),Inv X pins Y H s->RelV x v->Vals xs us->r x xs H Q->W8 (model X.prog X.w) X.A (call (.builtin id) (v::us)) (EP X pins Y Q) X.xe s
theorem Vals.one{x:V}{us:List Value}(h:Vals [x] us):∃u,us=[u]/\RelV x u:=by cases h with|cons r t=>cases t;exact⟨_,rfl,r⟩
theorem Vals.two{x y:V}{us:List Value}(h:Vals [x,y] us):∃u v,us=[u,v]/\RelV x u/\RelV y v:=by cases h with|cons r t=>obtain⟨u,rfl,q⟩:=Vals.one t;exact⟨_,_,rfl,r,q⟩
section
variable{l b:Addr}{xs ys zs:List V}
theorem Inv.qe{its its':List Value}{n:Nat}{f:Array Value->Array Value}{t':Nat}(I:Inv X pins Y H s)(hH:H l=some (.lst xs))(e:s.heap.get? l=some {cls:=.type "list",data:=.seq its.toArray n})(hf:f its.toArray=its'.toArray)(hv:Vals ys its')(hz:ys.length<=Wb):Inv X pins Y (upd H l (.lst ys)) {s with heap:=s.heap.update l (Obj.mapSeq f),toks:=t'}:=by have q:=PySem.IsL.update e f;rw[hf]at q;refine I.write (x:=l) (e:=l) %[hH|trivial] (.inl rfl) (λb' u hb hu=>(WX s.heap (Obj.mapSeq f) (Ne.symm hb)).trans hu) ⟨_,q⟩ ?_;exact⟨hz,its',_,hv,q⟩
theorem Inv.CL(I:Inv X pins Y H s)(hv:Vals ys its)(hz:ys.length<=Wb):Inv X pins Y (upd H s.heap.objs.size (.lst ys)) {s with heap:=s.heap.push {cls:=.type "list",data:=.seq its.toArray},toks:=t'}:=I.laid (λj j q=>W5 _ q) (Wc _) ⟨hz,its,0,hv,Wf _ rfl⟩
theorem Inv.fresh(I:Inv X pins Y H s):H s.heap.objs.size=none:=I.ay.fresh (Wc _)
theorem Inv.OF(I:Inv X pins Y H s)(hH:H l=some (.lst xs)):xs.length<=Wb/\∃(its:List Value)(n:Nat),Vals xs its/\xs.length=its.length/\s.heap.get? l=some {cls:=.type "list",data:=.seq its.toArray n}:=by obtain⟨z,its,n,r,e⟩:=I.ay l _ hH;exact⟨z,its,n,r,r.length,e⟩
end
def CM:V->List V->Hp->VK->Prop:=λx vs H Q=>∃l xs y,x=.ref l/\vs=[y]/\H l=some (.lst xs)/\xs.length<Wb/\Q .ax (upd H l (.lst (xs++[y])))
theorem CN:OE X "list.append" CM:=by intro pins s Y H x vs v us Q I rx rv h;obtain⟨l,xs,y,rfl,rfl,hH,hz,q⟩:=h;cases rx;obtain⟨u,rfl,ru⟩:=(Vals.one rv);obtain⟨z,its,n,r,hl,e⟩:=I.OF hH;refine call_meets F.slot_list_append ⟨_,e,rfl⟩ F.entry_list_append (F.args_list_append_2 _ _) (PySem.list_append l its.toArray n u (by rw[Wr];lia)) ⟨e,?_⟩;refine⟨.ax,_,I.qe (its':=its++[u]) hH e U' (r.append (.cons ru .nil)) ?_,rfl,q⟩;rw[Q6,List.length_singleton];lia
section
variable{κ:Type}[DecidableEq κ]
def gr(ao:List (κ×V))(k:κ):Option V:=(ao.find? λkv=>decide (kv.1=k)).map (·.2)
def putK(ao:List (κ×V))(k:κ)(v:V):List (κ×V):=if(ao.any λkv=>decide (kv.1=k))=true then ao.map λkv=>if kv.1=k then(kv.1,v)else kv else ao++[(k,v)]
theorem xj{p:κ×V}{r:List (κ×V)}{k:κ}(e:p.1=k):gr (p::r) k=some p.2:=#v[gr,Q2,e]
theorem xk{p:κ×V}{r:List (κ×V)}{k:κ}(e:¬p.1=k):gr (p::r) k=gr r k:=#v[gr,Q2,e]
theorem CO(ao:List (κ×V))(k:κ)(v:V):(putK ao k v).length<=ao.length+1:=by
 unfold putK;split;.rw[Wa];lia
 .rw[Q6,WT,JZ];lia
theorem fW.CP{u}(r:fW o u):o.isSome=u.isSome:=by cases o with
 |none=>cases u with|none=>rfl|some _=>exact(show False from r).elim
 |some _=>cases u with|none=>exact(show False from r).elim|some _=>rfl
theorem KV.val{ao:List (κ×V)}{vs:List (κ×Value)}(r:KV ao vs)(k:κ):fW (gr ao k) (valueAt vs k):=by unfold KV at r;induction r with|nil=>exact True.intro|@cons p q ps qs h t ih=>
 obtain⟨h1,h2⟩:=h;by_cases e:p.1=k;.have e':q.1=k:=h1.symm.trans e;have b:valueAt (q::qs) k=some q.2:=#v[valueAt,Q2,e'];rw[xj e,b];exact h2
 .have e':¬q.1=k:=λz=>e (h1.trans z);have b:valueAt (q::qs) k=valueAt qs k:=#v[valueAt,Q2,e'];rw[xk e,b];exact ih
theorem KV.any{vs}(r:KV ao vs)(k:κ):(ao.any λkv=>decide (kv.1=k))=vs.any λkv=>decide (kv.1=k):=by unfold KV at r;induction r with|nil=>rfl|cons h t ih=>rw[Qr,Qr,ih,h.1]
theorem KV.OG{vs}(r:KV ao vs)(k:κ)(ry:RelV y u):KV (ao.map λkv=>if kv.1=k then(kv.1,y)else kv) (vs.map λkv=>if kv.1=k then(kv.1,u)else kv):=by unfold KV at r⊢;induction r with|nil=>exact .nil|@cons p q ps qs h t ih=>
 rw[Wm,Wm];refine .cons ?_ ih;obtain⟨h1,h2⟩:=h;by_cases e:p.1=k;.rw[if_pos e,if_pos (h1.symm.trans e)];exact⟨h1,ry⟩
 .rw[if_neg e,if_neg λz=>e (h1.trans z)];exact⟨h1,h2⟩
theorem KV.put{vs}(r:KV ao vs)(k:κ)(ry:RelV y u):KV (putK ao k y) (stored vs k u):=by
 unfold putK stored;rw[r.any k];by_cases e:(vs.any λkv=>decide (kv.1=k))=true;.rw[if_pos e,if_pos e];exact r.OG k ry
 .rw[if_neg e,if_neg e];exact Paired.snoc r ⟨rfl,ry⟩
theorem KV.length{κ:Type}{ao:List (κ×V)}{vs:List (κ×Value)}(r:KV ao vs):ao.length=vs.length:=Paired.length r
end
theorem qf(r:RelV (kV k) u):(fV P w).is k u=true:=by cases k with|inl i=>obtain⟨t,e⟩:=show∃t,u=Value.int i t from r;subst e;exact MM P w i t|inr x=>obtain⟨t,e⟩:=show∃t,u=Value.str x t from r;subst e;exact MN P w x t
theorem CQ:∀{ks:List Key}{us:List Value},Vals (ks.map kV) us->ItemsAre (fV P w) ks us|[],_,r=>by rw[List.map_nil]at r;cases r;exact .nil|k::ks,_,r=>by rw[Wm]at r;cases r with|cons h t=>exact .cons (qf h) (CQ t)
abbrev KT(H:Hp):List (List Key×V)->List (List Key×Addr×Value)->Prop:=Paired λp q=>p.1=q.1/\H q.2.1=some (.tup (p.1.map kV))/\RelV p.2 q.2.2
theorem KT.val{H:Hp}{ao:List (List Key×V)}{xs:List (List Key×Addr×Value)}(r:KT H ao xs)(k:List Key):fW (gr ao k) ((atKey xs k).map (·.2)):=by induction r with|nil=>exact True.intro|@cons p q ps qs h t ih=>
 obtain⟨h1,_,h2⟩:=h;by_cases e:p.1=k;.have e':q.1=k:=h1.symm.trans e;have b:atKey (q::qs) k=some q.2:=#v[atKey,Q2,e'];rw[xj e,b];exact h2
 .have e':¬q.1=k:=λz=>e (h1.trans z);have b:atKey (q::qs) k=atKey qs k:=#v[atKey,Q2,e'];rw[xk e,b];exact ih
section
variable{h:Heap}
theorem CS{u}(ok:cx P w H h)(e:Rd H a u):bw P w H h a u:=e.ok ok
theorem tQ(ok:cx P w H h)(e:Rd H a (.dK ao)):ao.length<=Wb/\(a==Qt)=false/\∃vs,KV ao vs/\h.DictOf (fV P w) a vs:=show bw P w H h a (.dK ao)from CS ok e
theorem CT(ok:cx P w H h)(e:H a=some (.dK ao)):ao.length<=Wb/\(a==Qt)=false/\∃vs,KV ao vs/\h.DictOf (fV P w) a vs:=tQ ok (.inl e)
theorem xn(ok:cx P w H h)(e:H a=some (.tup (ks.map kV))):(tupleKind (fV P w)).is h ks a:=by obtain⟨_,its,r,p⟩:=show bw P w H h a (.tup (ks.map kV))from ok a _ e;obtain⟨o,h1,h2,n,h3⟩:=p.tup;exact⟨o,its.toArray,n,h1,h2,h3,by simpa using CQ r⟩
theorem CU(ok:cx P w H h)(e:Rd H a (.dT ao)):ao.length<=Wb/\(a==Qt)=false/\∃xs,KT H ao xs/\h.DictOfH (tupleKind (fV P w)) a xs:=by
 obtain⟨z,y,xs,r,o,es,ep,h1,h2,h3,h4,h5⟩:=show bw P w H h a (.dT ao)from CS ok e;refine⟨z,y,xs,r,o,es,ep,h1,h2,h3,h4,λx hx=>?_,h5⟩;have all:∀{l:List (List Key×V)}{m:List (List Key×Addr×Value)},KT H l m->∀x∈m,(tupleKind (fV P w)).is h x.1 x.2.1:=by intro l m q;induction q with|nil=>intro x hx;exact nomatch hx|@cons p q ps qs hq t ih=>
   intro x hx;rcases Wt.mp hx with e|hx;.subst e;exact xn ok (by rw[<-hq.1];exact hq.2.1)
   .exact ih x hx
 exact all r x hx
end
def oC(H:Hp)(a:Addr)(y:V)(r:Option V):Prop:=(∃ao k,Rd H a (.dK ao)/\y=kV k/\r=gr ao k)\/∃ao k b,Rd H a (.dT ao)/\y=.ref b/\H b=some (.tup (k.map kV))/\r=gr ao k
theorem oC.k{ao:List (Key×V)}{k:Key}(e:H a=some (.dK ao)):oC H a (kV k) (gr ao k):=.inl ⟨ao,k,.inl e,rfl,rfl⟩
section
variable{y:V}{r:Value}{o:Option V}
theorem Inv.big(I:Inv X pins Y H s):Qt<s.heap.objs.size:=by have h:Wo<s.heap.objs.size:=(I.mod.glob.keeps I.bk).lt;exact Nat.lt_trans Z' h
theorem OH(hu:A.units+1<WL)(I:Inv X pins Y H s)(g:oC H a y (some v))(ry:RelV y u)(h:∀w' s',Inv X pins Y H s'->RelV v w'->Q w' s'):W8 (model X.prog X.w) A (getItem (.ref a) u) Q E s:=by
 rcases g with⟨ao,k,e,ey,l⟩|⟨ao,k,b,e,ey,eb,l⟩;.subst ey;obtain⟨z,hd,vs,rel,dd⟩:=tQ I.ay e;obtain⟨w',hw,bT⟩:=fW.some_of (v:=v) (o:=valueAt vs k) %[l|rel.val k];exact wpAny_getItem_of (qf ry) dd.mapOf hw (h w' _ (I.tok _) bT)
 .subst ey;cases show u=Value.ref b from ry;obtain⟨z,hd,xs,rel,dd⟩:=CU I.ay e;obtain⟨w',hw,bT⟩:=fW.some_of (v:=v) (o:=(atKey xs k).map (·.2)) %[l|rel.val k];obtain⟨p,hp,hp2⟩:=Option.map_eq_some_iff.mp hw;refine wpAny_getItem_heap (tupleKind_room_in1 hu) (xn I.ay eb) dd hp ?_;rw[hp2];exact h w' _ (I.tok _) bT
theorem OI(hu:A.units+1<WL)(I:Inv X pins Y H s)(g:oC H a y o)(ry:RelV y u)(h:∀s',Inv X pins Y H s'->Q (.bool !o.isSome) s'):W8 (model X.prog X.w) A (WA .NotIn u (.ref a)) Q E s:=by
 rcases g with⟨ao,k,e,ey,l⟩|⟨ao,k,b,e,ey,eb,l⟩;.subst ey;obtain⟨z,hd,vs,rel,dd⟩:=tQ I.ay e;refine wpAny_notIn_of (qf ry) hd dd.mapOf ?_;rw[<-(rel.val k).CP,<-l];exact h _ (I.tok _)
 .subst ey;cases show u=Value.ref b from ry;obtain⟨z,hd,xs,rel,dd⟩:=CU I.ay e;refine wpAny_notIn_heap (tupleKind_room_in1 hu) (xn I.ay eb) hd dd ?_;have q:=(rel.val k).CP;rw[Option.isSome_map]at q;rw[<-q,<-l];exact h _ (I.tok _)
theorem xo(I:Inv X pins Y H s)(mu:pR (H a))(hs:J4 a s.heap h')(he:∃q,h'.get? a=some q)(new:bw X.prog X.w (upd H a ob) h' a ob):Inv X pins Y (upd H a ob) {s with heap:=h',toks:=t'}:=I.write (x:=a) (e:=a) mu (.inl rfl) (λb q hb z=>(hs.2 b hb).trans z) he new
theorem OJ{vs}(z:ao.length<=Wb)(hd:(a==Qt)=false)(rel:KV ao vs)(dd:h'.DictOf (fV P w) a vs):bw P w H' h' a (.dK ao):=⟨z,hd,vs,rel,dd⟩
end
section
variable{ao:List (Key×V)}{k:Key}
theorem OK(I:Inv X pins Y H s)(e:Rd H a (.dK ao))(h:∀t s',Inv X pins Y H s'->Q (.int ao.length t) s'):W8 (model X.prog X.w) A (call (.builtin "len") [.ref a]) Q E s:=by obtain⟨z,hd,vs,rel,dd⟩:=tQ I.ay e;refine call_len_dict hd dd (by rw[<-rel.length];rw[WZ]at z;lia) ?_;rw[<-rel.length];exact h _ _ (I.tok _)
end
theorem OL(h:Heap)(hb:Qt<h.objs.size):bw P w H (h.push {cls:=.type "dict",data:=.dict #[]}) h.objs.size (.dK []):=⟨Q5 _,beq_eq_false_iff_ne.mpr (Ne.symm (WG hb)),[],.nil,Heap.DictOf.new h⟩
section
open PySem.W PySem.Calls
theorem OM{P}:∀(ns:List Int)(vs:List Value),WellAll P h vs (ns.map WData.int)->IntsAre vs ns:=by intro ns;induction ns with|nil=>intro vs w;rw[List.map_nil]at w;cases w;exact .nil|cons n ns ih=>intro vs w;rw[Wm]at w;cases w with|cons a b=>cases a;exact .cons _ _ (ih _ b)
theorem ON{l:OpenLaw}(hn:l.most=some n){P:Params}{h:Heap}{args:List WData}{vals:List Value}(tR:l.row.toRowW.claim.pre args=true)(xq:WellAll P h vals args):∃a vs ns,vals=[Value.ref a]/\args=[WData.list (ns.map WData.int)]/\h.get? a=some {cls:=.type "list",data:=.seq vs.toArray}/\IntsAre vs ns/\ns.length<=n:=by
 have OO:WShape.hasAll [] args [.list .int]=true:=(pre_splitW tR).1;have hc:l.pre.holds [] {args:=args}=true:=(pre_splitW tR).2;obtain⟨d,r,rfl,h1,h2⟩:=hasAllW_cons OO;obtain rfl:=hasAllW_nil h2;obtain⟨xs,rfl,h3⟩:=hasW_list h1;obtain⟨ns,rfl⟩:=items_int h3;have hlen:ns.length<=n:=by
  unfold OpenLaw.pre at hc;have h4:(WTm.not (.lt (.lit (.int (n:Int))) (.len (.arg 0)))).holds [] {args:=[.list (ns.map .int)]}=true:=by have h4:=(holds_andW hc).1;rw[hn]at h4;exact h4
  have h5:=condW_of h4 (w_not (w_lt w_lit (w_len_list (w_arg rfl))));rw[Wa]at h5;refine Nat.le_of_not_lt λq=>?_;have q':(n:Int)<((ns.length:Nat):Int):=by lia
  first|(rw[decide_eq_true q']at h5;exact absurd h5 Z')|(simp at h5;lia)
 cases xq with|cons w1 w2=>cases w2;cases w1 with|list ho hall=>exact⟨_,_,ns,rfl,rfl,ho,OM ns _ hall,hlen⟩
theorem OP(l:OpenLaw)(args:List WData):l.row.toRowW.claim.post args (.bool true) args=true:=postW_of (r:=l.row.toRowW) (X:=true==true) (show WShape.has [] (.bool true) .bool=true by first|rfl|decide|simp[WShape.has,WShape.arms,WShape.armsAll]) (show(WTm.eq .res (.lit (.bool true))).value [] {args:=args,res:=some (.bool true),after:=args}=some (.bool (true==true))from w_eq_bool (w_res rfl) w_lit) rfl
theorem OQ{l:OpenLaw}{q:Wn}{d:DefRec}(hn:l.most=some n)(xu:d.params.defaults=[])(call:∀(w:Ws)(s₀ s₁:W2)(mg mb:Str->Option Value)(fa:Addr)(o:Obj)(pm cd doc:Value)(a:Addr)(vs:List Value)(ns:List Int),Ground q loose [] XP w s₀ mg mb s₁.heap->YP w s₁.heap->s₁.heap.get? fa=some o->o.data=.func (docDef d.name d.params d.body d.scope pm cd doc)->s₁.heap.CodeRec cd d.name->mg d.name=some (.ref fa)->s₁.heap.get? a=some {cls:=.type "list",data:=.seq vs.toArray}->IntsAre vs ns->ns.length<=n->s₁.gens=#[]->QR (model l.prog w) callerA (.call (.ref fa) ⟨[.ref a],[]⟩) (λr s'=>r=.ok (.ret (.bool true))/\OldK s₁.heap s'.heap/\s'.os=s₁.os/\AllBare s'.gens) s₁):WalkO q loose XP YP l.row.toRowW d [] λf vs=>PySem.call f vs:=by intro w s₀ s₁ mg mb G M' fa o pm cd doc dV kV ho hd da hD mT hg args vals as tR hlay hrd xq CV;obtain rfl:dV=.none:=Dflts.none hD xu;obtain rfl:kV=.none:=Dflts.noKw hD;obtain⟨a,vs,ns,rfl,rfl,xw,hints,hlen⟩:=ON hn tR xq;refine enter_call (JI (call w s₀ s₁ mg mb fa o pm cd doc a vs ns G M' ho (fd_plain hd) da mT xw hints hlen hg) λr s' hq=>?_);obtain⟨rfl,h2,h3,h4⟩:=hq;exact⟨.inl ⟨.bool true,.bool true,[],rfl,λj=>rfl,.bool true,OP l _,λj=>⟨List.Pairwise.nil,λj hm=>nomatch hm⟩⟩,h2,h3,h4⟩
end
theorem CW{vs:List Value}{ns:List Int}(h:IntsAre vs ns):Vals (ns.map V.int) vs:=by induction h with|nil=>exact .nil|cons n t h ih=>exact .cons ⟨t,rfl⟩ ih
def gv(s:Stmt):Arguments:=match s with|.FunctionDef _ a _ _ _ _ _ _ _ _=>a|_=>{posonlyargs:=[],args:=[],vararg:=none,kwonlyargs:=[],kw_defaults:=[],kwarg:=none,defaults:=[]}
def cQ(s:Stmt):List Stmt:=match s with|.FunctionDef _ _ b _ _ _ _ _ _ _=>b|_=>[]
def aR(s:Stmt):Scope:=match s with|.FunctionDef _ _ _ _ _ _ sc _ _ _=>sc|_=>{kind:=.function,names:=[],isGenerator:=false,isCoroutine:=false}
abbrev cY:jM:=λj j j j j j=>False
abbrev E0:XK:=λj j j=>False
theorem xx:wV cY X E0:=λj j j j j j j h=>h.elim
structure cZ(K:W3)(x qual:Str)(st:Stmt)(f:Addr)(fd:WR):Prop where
 ex:∃(oc:Value)(od:Option Addr)(kV doc pm:Value)(an:Option Addr)(aE ct:Value)(de:Array (Option Value)),fd=Q7 x qual (gv st) (cQ st) (aR st) .none kV doc pm an aE ct/\K.lookup f=some ⟨oc,od,.func fd,de⟩/\PySem.W.codeIn K aE qual=true
 kp:Qm K (.ref f)=true
theorem cZ.ok{st:Stmt}{k:Nat}(F:cZ K x qual st f fd)(S:dM N ps (aR st))(len:∀vs H Q E,sp vs H Q E->vs.length=ps.length)(bZ:∀(aE:Value)(A:Wp)(outer:List Env)(s:W2)(H:Hp)(vs:List V)(Q:VK)(E:XK),bM k (A.deeper (Qx qual (aR st) s.heap.objs.size f aE))->sp vs H Q E->∃t,dI (cX cY P w K mg base N qual (aR st) f aE A outer s H E).fM (cQ st) t/\t {nx:=λj H'=>Q .ax H',rt:=Q} (dm N vs) H):gc P w K mg base cY (k+1) f fd ps sp:=by obtain⟨oc,od,kV,doc,pm,an,aE,ct,de,rfl,lk,da⟩:=F.ex;refine tM lk da S len λA outer s H vs Q E hr jN=>?_;obtain⟨t,h,q⟩:=bZ aE A outer s H vs Q E hr jN;exact⟨t,h.fM,q⟩
theorem cZ.binds{st:Stmt}(F:cZ K x qual st f fd)(h:∀(kV doc pm:Value)(an:Option Addr)(aE ct:Value)(us:List Value),us.length=ps.length->bindArgs (Q7 x qual (gv st) (cQ st) (aR st) .none kV doc pm an aE ct) ⟨us,[]⟩=pure (ps.zip us)):Binds K fd ps []:=by obtain⟨oc,od,kV,doc,pm,an,aE,ct,de,rfl,lk,da⟩:=F.ex;exact .all (h kV doc pm an aE ct)
theorem xy{st:Stmt}{kV:Value}(l:K.lookup f=some ⟨oc,od,.func (Q7 x qual (gv st) (cQ st) (aR st) .none kV doc pm an aE ct),de⟩)(c:PySem.W.codeIn K aE qual=true)(k:Qm K (.ref f)=true):cZ K x qual st f (Q7 x qual (gv st) (cQ st) (aR st) .none kV doc pm an aE ct):=⟨⟨oc,od,kV,doc,pm,an,aE,ct,de,rfl,l,c⟩,k⟩
theorem OR(h:n<=1000):n<Wb:=QA h Z'
theorem pv(i:Nat)(hN:X.N[i]?=some x:=by rfl)(hv:sW X.env.scope x:=by first|exact Or.inl rfl|exact Or.inr (Or.inl rfl)|exact Or.inr (Or.inr rfl))(hd:(x==("__debug__":Str))=false:=by decide)(da:(x==("__classdict__":Str))=false:=by decide):PE X (.Name x pos) (eW i):=MX hN hv hd da
theorem OS:eF X (.builtin "len") λxs H Q=>∃a ao,xs=[V.ref a]/\H a=some (.dK ao)/\Q (.int ao.length) H:=by intro pins s Y H xs us Q I r h;obtain⟨a,ao,rfl,ha,q⟩:=h;obtain⟨u,rfl,ru⟩:=f9 r;cases ru;exact OK I (.inl ha) λt s' I'=>⟨.int ao.length,H,I',⟨t,rfl⟩,q⟩
def gf(cells:List (Str×Addr)):List (Str×NameKind)->List (Str×Addr)->List (Str×Addr)|[],acc=>acc|(n,k)::r,acc=>gf cells r (if k==.free then match cells.lookup n with|some a=>(n,a)::acc|none=>acc else acc)
theorem xA(f:Str×NameKind->List (Str×Addr)->Sem (ForInStep (List (Str×Addr))))(hf:∀name kind cs,f (name,kind) cs=if kind==.free then do let a<-cellOf env name;pure (.yield ((name,a)::cs))else pure (.yield cs)):∀(names:List (Str×NameKind))(acc:List (Str×Addr)),(∀x∈names,x.2=NameKind.free->∃c,env.cells.lookup x.1=some c)->(forIn names acc f:Sem (List (Str×Addr)))=pure (gf env.cells names acc)
 |[],acc,_=>by rw[JJ];rfl|(n,k)::r,acc,h=>by
  rw[JE,hf];unfold gf;by_cases hk:(k==NameKind.free)=true
  .obtain⟨c,hc⟩:=h (n,k) Wl (~~~hk);have hZ:env.cells.lookup n=some c:=hc;have e:cellOf env n=pure c:=by unfold cellOf;rw[hZ]
   rw[if_pos hk,if_pos hk,e,hZ];exact xA f hf r _ λx hx=>h x (Wi _ hx)
  .rw[if_neg hk,if_neg hk];exact xA f hf r _ λx hx=>h x (Wi _ hx)
theorem CY(h:∀x∈scope.names,x.2=NameKind.free->∃c,env.cells.lookup x.1=some c):closureFor scope env=pure (gf env.cells scope.names []):=by unfold closureFor;dsimp only;rw[xA (env:=env) _ λname kind cs=>by all_goals grind scope.names [] h];rfl
theorem CZ{n}:∀(names:List (Str×NameKind))(acc:List (Str×Addr)),(n,c)∈gf cells names acc->(n,c)∈acc\/(n,NameKind.free)∈names/\cells.lookup n=some c|[],acc,h=>.inl h|(y,k)::r,acc,h=>by unfold gf at h;rcases CZ r _ h with q|⟨q,e⟩;all_goals grind
theorem C0{n}:∀(names:List (Str×NameKind))(acc:List (Str×Addr)),(acc.lookup n).isSome=true\/(n,NameKind.free)∈names/\(cells.lookup n).isSome=true->((gf cells names acc).lookup n).isSome=true
 |[],acc,h=>h.elim id (by grind)|(y,k)::r,acc,h=>by
  unfold gf;apply C0 r;by_cases hk:(k==NameKind.free)=true;.rw[if_pos hk];cases e:cells.lookup y with
 |none=>
    rcases h with h|⟨h1,h2⟩;.exact .inl h
    .rcases Wt.mp h1 with z|z;.cases z;rw[e]at h2;cases h2
     .exact .inr ⟨z,h2⟩|some a=>
    by_cases hn:(n==y)=true;.refine .inl ?_;show(List.lookup n ((y,a)::acc)).isSome=true;rw[Qp,hn];rfl
    .rcases h with h|⟨h1,h2⟩;.refine .inl ?_;show(List.lookup n ((y,a)::acc)).isSome=true;have pW:(n==y)=false:= ~~~hn;rw[Qp,pW];exact h
     .rcases Wt.mp h1 with z|z;.cases z;exact absurd U' hn
      .exact .inr ⟨z,h2⟩
  .rw[if_neg hk];rcases h with h|⟨h1,h2⟩;.exact .inl h
   .rcases Wt.mp h1 with z|z;.cases z;exact absurd rfl hk
    .exact .inr ⟨z,h2⟩
theorem xB{n}:∀(names:List (Str×NameKind))(h:Heap)(acc:List (Str×Addr)),(n,c)∈Qy h.objs.size names acc->(n,c)∈acc\/(n,NameKind.cell)∈names/\h.objs.size<=c/\(U4 h names).IsCell c none
 |[],_,_,h=>.inl h|(y,k)::r,h,acc,hm=>by
  unfold Qy at hm;unfold U4;by_cases hk:(k==NameKind.cell)=true
  .rw[if_pos hk]at hm;rw[if_pos hk];have oD:k=NameKind.cell:= ~~~hk;have sz:(h.push {cls:=.type "cell",data:=.cell none}).objs.size=h.objs.size+1:=QV ..;rw[<-sz]at hm;rcases xB r _ _ hm with q|⟨q1,q2,q3⟩
   .rcases Wt.mp q with z|z;.cases z;refine .inr ⟨%[oD|Wl],Wc _,?_⟩;exact Heap.IsCell.keeps ⟨_,Wf _ rfl,rfl⟩ (pushCells_keeps r _)
    .exact .inl z
   .exact .inr ⟨Wi _ q1,by rw[sz]at q2;lia,q3⟩
  .rw[if_neg hk]at hm;rw[if_neg hk];rcases xB r _ _ hm with q|⟨q1,q2,q3⟩;.exact .inl q
   .exact .inr ⟨Wi _ q1,q2,q3⟩
theorem xC:∀(names:List (Str×NameKind))(k:Nat)(acc:List (Str×Addr)),(∀n n' c,(n,c)∈acc->(n',c)∈acc->n=n')->(∀n c,(n,c)∈acc->c<k)->∀n n' c,(n,c)∈Qy k names acc->(n',c)∈Qy k names acc->n=n'
 |[],_,_,h,_=>h|(y,kd)::r,k,acc,h,hb=>by
  unfold Qy;by_cases hk:(kd==NameKind.cell)=true;.rw[if_pos hk];refine xC r (k+1) _ (λn n' c h1 h2=>?_) λn c hm=>?_;all_goals grind
  .rw[if_neg hk];exact xC r k acc h hb
theorem mU{env:Env}{x:Str}:∀{names:List (Str×NameKind)}{k:NameKind},(names.map λ(y:Str×NameKind)=>if y.2==NameKind.free&&env.scope.kind==.function&&env.kindOf y.1==some .cell then(y.1,NameKind.cell)else(y.1,y.2)).lookup x=some k->names.lookup x=some k\/k=NameKind.cell/\names.lookup x=some .free
 |[],_,h=>by simp at h|(n,kd)::r,k,h=>by
  rw[Wm]at h;have ih:=@mU env x r k;cases hx:x==n with|true=>
 by_cases hc:(kd==NameKind.free&&env.scope.kind==.function&&env.kindOf n==some .cell)=true;.rw[if_pos hc,Qp,hx]at h;cases h;simp only[Wq]at hc;have:kd=NameKind.free:= ~~~hc.1.1;exact .inr ⟨rfl,by rw[Qp,hx,this]⟩
 .rw[if_neg hc,Qp,hx]at h;cases h;exact .inl (by rw[Qp,hx])|false=>
   have h':(r.map λ(y:Str×NameKind)=>if y.2==NameKind.free&&env.scope.kind==.function&&env.kindOf y.1==some .cell then(y.1,NameKind.cell)else(y.1,y.2)).lookup x=some k:=by
    by_cases hc:(kd==NameKind.free&&env.scope.kind==.function&&env.kindOf n==some .cell)=true;.rw[if_pos hc,Qp,hx]at h;exact h
    .rw[if_neg hc,Qp,hx]at h;exact h
   rw[Qp,hx];exact ih h'
def fN(X:Cx)(scope:Scope)(s₀:W2)(H₀:Hp)(ex:List Addr):Cx:={X with
 env:={scope:=relabel scope X.env,locals:=s₀.heap.objs.size,globals:=X.env.globals,cells:=Qy (s₀.heap.objs.size+1) scope.names (gf X.env.cells scope.names []),qual:=X.env.qual,func:=none,code:=X.env.code,frame:=X.env.frame,builtins:=X.env.builtins}
 s₀:=s₀
 H₀:=H₀
 outer:=X.stack
 ex:=ex
 fn:=λx=>scope.names.lookup x==some .cell
 pn:=[]
 xe:=λj j=>False}
structure mV(X:Cx)(scope:Scope)(cs:List Nat):Prop where
 kind:scope.kind=.function
 names:∀x∈scope.names,x.2=.local->scope.names.lookup x.1=some .local
 free:∀x∈scope.names,x.2=.free->X.env.kindOf x.1=some .cell\/X.env.kindOf x.1=some .free
 nd:(scope.names.map (·.1)).Nodup
 own:∀(i:Nat)x,X.N[i]?=some x->scope.names.lookup x=some .local\/scope.names.lookup x=some .cell->i∈cs
def bA(cs:List Nat)(Y:St):St:=cs.foldl (λY i=>Y.set i none) Y
theorem tS(cs:List Nat):∀Y:St,(bA cs Y).length=Y.length:=by induction cs with|nil=>intro Y;rfl|cons i r ih=>intro Y;show(bA r (Y.set i none)).length=_;rw[ih];simp
theorem lT:∀(cs:List Nat)(Y:St)(i:Nat)(v:V),(bA cs Y)[i]?=some (some v)->Y[i]?=some (some v)/\i∉cs:=by intro cs;induction cs with|nil=>intro Y i v h;exact⟨h,U'⟩|cons j r ih=>
 intro Y i v h;have h':(bA r (Y.set j none))[i]?=some (some v):=h;obtain⟨h1,h2⟩:=ih _ i v h';by_cases e:j=i;.subst e;rw[Q4]at h1;simp at h1
 .rw[Wd e]at h1;exact⟨h1,by simp only[Wt,not_or];exact⟨Ne.symm e,h2⟩⟩
theorem xD:∀{l:List (Str×α)},(l.map (·.1)).Nodup->(x,k)∈l->(x,k')∈l->k=k'
 |(y,j)::r,nd,h1,h2=>by
  rw[Wm,List.nodup_cons]at nd;rcases Wt.mp h1 with e|g1<;>rcases Wt.mp h2 with e'|g2;.grind
  .grind
  .grind
  .exact xD nd.2 g1 g2
section
variable{fp:List Addr}
theorem OT(I:Inv X pins Y H s)(S:mV X scope cs)(hf:∀b∈fp,fz X pins H b)(bc:∀b∈fp,b<s.heap.objs.size):Inv (fN X scope s H fp) [] (bA cs Y) H {s with heap:=U4 (s.heap.push {cls:=.type "dict",data:=.dict #[]}) scope.names}:=by
 have sz:(s.heap.push {cls:=.type "dict",data:=.dict #[]}).objs.size=s.heap.objs.size+1:=QV ..;have kp:∀b o,s.heap.get? b=some o->(U4 (s.heap.push {cls:=.type "dict",data:=.dict #[]}) scope.names).get? b=some o:=λb o e=>pushCells_keeps _ _ b o (W5 _ e);have tU:∀n c,(n,c)∈gf X.env.cells scope.names []->(n,NameKind.free)∈scope.names/\X.env.cells.lookup n=some c:=λn c h=>(CZ _ _ h).elim (by grind) id;have OU:∀n c,(n,c)∈gf X.env.cells scope.names []->c<s.heap.objs.size:=λn c h=>by obtain⟨v,q⟩:=I.cell n c (tU n c h).2;exact q.lt
 have jP:∀n c,(n,c)∈Qy (s.heap.objs.size+1) scope.names (gf X.env.cells scope.names [])->(n,NameKind.free)∈scope.names/\X.env.cells.lookup n=some c\/(n,NameKind.cell)∈scope.names/\s.heap.objs.size+1<=c/\(U4 (s.heap.push {cls:=.type "dict",data:=.dict #[]}) scope.names).IsCell c none:=λn c h=>by
  rw[<-sz]at h;rcases xB _ _ _ h with q|q;.exact .inl (tU n c q)
  .rw[sz]at q;exact .inr q
 have OV:=xC scope.names (s.heap.objs.size+1) (gf X.env.cells scope.names []) (λn n' c h1 h2=>I.ok.inj n n' c (tU n c h1).2 (tU n' c h2).2) λn c h=>Nat.lt_succ_of_lt (OU n c h);have qg:∀x∈scope.names,x.2=.free->∃c,X.env.cells.lookup x.1=some c:=λx hx hk=>I.ok.has x.1 (S.free x hx hk);have OW:∀b∈fp,b∉eC X.stack:=λb hb z=>by
  obtain⟨_,f1,f2,_⟩:=hf b hb;rcases Wt.mp (I.oz b z)with e|e;.exact f1 e
  .exact f2 e
 have OX:∀x,(fN X scope s H fp).env.kindOf x=some .cell\/(fN X scope s H fp).env.kindOf x=some .free->scope.names.lookup x=some .cell\/scope.names.lookup x=some .free:=λx h=>by
  rcases h with h|h
  .have h':(relabel scope X.env).names.lookup x=some .cell:=h;rcases mU (env:=X.env) (names:=scope.names) h' with q|⟨_,q⟩;.exact .inl q
   .exact .inr q
  .have h':(relabel scope X.env).names.lookup x=some .free:=h;rcases mU (env:=X.env) (names:=scope.names) h' with q|⟨q,_⟩;.exact .inr q
   .cases q
 have C1:∀x,scope.names.lookup x=some .cell\/scope.names.lookup x=some .free->∃c,(Qy (s.heap.objs.size+1) scope.names (gf X.env.cells scope.names [])).lookup x=some c:=λx h=>by
  refine Qz.mp (QZ scope.names _ _ ?_);rcases h with h|h;.exact .inl h
  .refine .inr (C0 _ _ (.inr ⟨Wz h,?_⟩));obtain⟨c,hc⟩:=qg _ (Wz h) rfl;grind
 have OY:(U4 (s.heap.push {cls:=.type "dict",data:=.dict #[]}) scope.names).Ns s.heap.objs.size λj=>none:=(Heap.Ns.new s.heap (.type "dict")).keeps (pushCells_keeps _ _);refine⟨⟨I.ok.mod,S.kind,I.ok.glob,I.ok.blt,Wc _,λy z c h1 h2=>OV y z c (Wz h1) (Wz h2),λx hx=>C1 x (OX x hx),λx c jg h=>?_,I.ok.hd,I.ok.frames,.inl rfl,λb hb=>⟨WG (bc b hb),λx c h e=>?_⟩,I.bs,Wy I.ok.iJ I.sz,λb o e hb=>?_,OW,I.stack,I.sX⟩,rfl,I.bare,Un.kept kp,⟨λj=>none,OY,λi x v h1 h2 h3=>?_⟩,λx c h=>?_,I.ay.fresh (Wc _),λx c h=>?_,λp hp=>absurd (show p∈([]:List (Addr×Obj))from hp) U',I.ay.kept kp,(tS cs Y).trans I.len⟩
 .rcases jP x c (Wz h)with q|q
  .have OZ:scope.names.lookup x=some .cell:=by have:(scope.names.lookup x==some .cell)=true:=jg;exact eq_of_beq this
   have:=xD S.nd q.1 (Wz OZ);cases this
  .exact Nat.le_of_succ_le q.2.1
 .subst e;rcases jP x c (Wz h)with q|q;.exact(hf c hb).2.2.2.2.1 x c q.2 rfl
  .exact absurd (WB (bc c hb) (Nat.le_of_succ_le q.2.1)) (Qd _)
 .obtain⟨_,_,_,f3,_⟩:=hf b hb;rcases f3 with z|z;.exact I.ok.lH b o e z
  .exact absurd (WB (Wh (I.ok.bs b o e).1) z) (Qd _)
 .obtain⟨h2',hni⟩:=lT cs Y i v h2;have O0:¬(scope.names.lookup x=some .local\/scope.names.lookup x=some .cell):=λz=>hni (S.own i x h1 z);have oA:scope.names.lookup x=some .free:=by
   rcases h3 with h3|h3|h3;.rcases mU (env:=X.env) (names:=scope.names) h3 with q|⟨q,_⟩;all_goals grind
   .rcases mU (env:=X.env) (names:=scope.names) h3 with q|⟨_,q⟩;.exact absurd (.inr q) O0
    .exact q
   .rcases mU (env:=X.env) (names:=scope.names) h3 with q|⟨q,_⟩;.exact q
    .cases q
  have hk:=S.free _ (Wz oA) rfl;obtain⟨m,hn,hl⟩:=I.loc;have O1:sW X.env.scope x:=by
   rcases hk with hk|hk;.exact .inr (.inl hk)
   .exact .inr (.inr hk)
  obtain⟨u,r,l⟩:=hl i x v h1 h2' O1;refine⟨u,r,?_⟩;rcases l with⟨k,_⟩|⟨_,c,hc,hcell⟩;.grind
  .obtain⟨c',hZ⟩:=C1 x (.inr oA);have e:c'=c:=by
    rcases jP x c' (Wz hZ)with q|q;.have q2:=q.2;rw[hc]at q2;exact(WD q2).symm
    .have:=xD S.nd q.1 (Wz oA);cases this
   subst e;refine .inr ⟨?_,c',hZ,hcell.keeps kp⟩;rcases h3 with h3|h3|h3;.rcases mU (env:=X.env) (names:=scope.names) h3 with q|⟨q,_⟩;all_goals grind
   .exact .inl h3
   .exact .inr h3
 .rcases jP x c (Wz h)with q|q;.obtain⟨v,z⟩:=I.cell x c q.2;exact⟨v,z.keeps kp⟩
  .exact⟨none,q.2.2⟩
 .rcases jP x c (Wz h)with q|q;.exact I.fq x c q.2
  .exact I.ay.fresh (Nat.le_of_succ_le q.2.1)
end
abbrev kI:Value->W2->Prop:=λj j=>False
def C2(ifs:List Expr)(env:Env):Sem Bool:=forIn ifs true λc r=>if r=true then do let ok<-isTrue c env (eval c env);pure (ForInStep.yield ok)else pure (ForInStep.yield r)
theorem O2{it}(I:Nat->W2->Prop)(turn:∀n s,I n s->W8 (model prog w) A (QE it) (λr s₁=>match r with|none=>R (.ok .next) s₁|some v=>W8 (model prog w) A (JC target it v) (λj C3=>W8 (model prog w) A (assign target env v) (λj s₂=>W8 (model prog w) A (C2 ifs env) (λok s₃=>if ok=true then W8 (model prog w) A (eval elt env) (λx s₄=>W8 (model prog w) A (call (.builtin "list.append") [acc,x]) (λj s₅=>∃m,m<n/\I m s₅) kI s₄) kI s₃ else∃m,m<n/\I m s₃) kI s₂) kI C3) kI s₁) kI s)(n:Nat)(h:I n s):QR (model prog w) A (.compLoop (.ListComp elt [⟨target,iter,ifs,0⟩] scope pos) 0 it acc env) R s:=by refine codeAny_loop rfl I (λn s hI=>?_) n h;show W8 _ A ((compTurn (.ListComp elt [⟨target,iter,ifs,0⟩] scope pos) 0 it acc env).onRaise λx=>do U5 x env;theTreesLotGoes x) _ _ s;refine wpAny_noted ?_;rw[compTurn_list];refine W0 (wpAny_standAt (W0 (Q9 (turn n s hI) (λr s₁ h₁=>?_) (by grind))));cases r with|none=>exact W4 h₁|some v=>refine W0 (Q9 h₁ (λj C3 O3=>?_) (by grind));refine W0 (Q9 O3 (λj s₂ h₂=>W0 (Q9 h₂ (λok s₃ h₃=>?_) (by grind))) (by grind));cases ok with|false=>exact W4 ⟨rfl,h₃⟩|true=>exact W0 (W0 (Q9 h₃ (λx s₄ h₄=>W0 (Q9 h₄ (λj s₅ h₅=>W4 (W4 ⟨rfl,h₅⟩)) (by grind))) (by grind)))
theorem O4{Q}(h:Q {scope,locals:=s.heap.objs.size,globals,cells:=Qy (s.heap.objs.size+1) scope.names cl,qual,func:=none,code:=env.code,frame:=env.frame,builtins:=env.builtins} {s with heap:=U4 (s.heap.push {cls:=.type "dict",data:=.dict #[]}) scope.names}):W8 M A (newFunctionEnv scope globals cl [] qual none .none (some env)) Q E s:=by simp only[newFunctionEnv,Option.isSome_some,if_true];refine W0 (wpAny_alloc ?_);refine W0 (wpAny_layCells _ λname kind cells=>by all_goals grind _ _ _ _ ?_);rw[show({s with heap:=s.heap.push {cls:=.type "dict",data:=.dict #[]}}:W2).heap.objs.size=s.heap.objs.size+1 from QV ..];exact W0 (W4 (W4 h))
def oE(X:Cx)(ifs:List Expr)(t:TT):Prop:=∀(pins:List (Addr×Obj))(s:W2)(Y:St)(H:Hp)(Q:Bool->Hp->Prop),Inv X pins Y H s->t Y H Q->W8 (model X.prog X.w) X.A (C2 ifs X.env) (TP X pins Y Q) X.xe s
def O5:TT:=λj H Q=>Q true H
theorem O6:oE X [] O5:=λpins s Y H Q I h=>wpAny_tests_nil ⟨H,I,h⟩
theorem O7(h:PT X c t):oE X [c] t:=λpins s Y H Q I q=>wpAny_tests_one (h pins s Y H Q I q)
def Le(Y SL:St):Prop:=SL.length=Y.length/\∀(i:Nat)(v:V),Y[i]?=some (some v)->SL[i]?=some (some v)
def C4(cs:List Nat)(g:TG)(tt:TT)(te:TE)(Y:St)(Q:VK)(J:It)(H1:Hp):Prop:=∀l,H1 l=none->∃W:Nat->Nat->Hp->Prop,(∃m,W 0 m (upd H1 l (.lst [])))/\∀i m H2,W i m H2->J.stop i H2/\Q (.ref l) H2\/J.go i H2/\∀x H3,J.pX i H2 x H3->g x (bA cs Y) H3 λPi H4=>Le (bA cs Y) Pi/\tt Pi H4 λb H5=>if b=true then te Pi H5 λv H6=>∃ys m',H6 l=some (.lst ys)/\ys.length<Wb/\m'<m/\W (i+1) m' (upd H6 l (.lst (ys++[v])))else∃m',m'<m/\W (i+1) m' H5
def xE(cs:List Nat)(wi:TI)(g:TG)(tt:TT)(te:TE):TE:=λY H Q=>wi Y H λJ H1=>C4 cs g tt te Y Q J H1
section
variable{iter:Expr}{g:TG}{tt:TT}
theorem C5{fp:List Addr}{J:It}{Q:VK}{E:Value->W2->Prop}(hc:X.calm=true)(I:Inv X pins Y H s)(S:mV X scope cs)(T:Turn X.prog X.w X.K tg J fp it tn)(st:tn 0 s.heap)(hf:∀b∈fp,fz X pins H b)(hg:∀s₀ H₀ ex,PG (fN X scope s₀ H₀ ex) tg g)(ht:∀s₀ H₀ ex,oE (fN X scope s₀ H₀ ex) ifs tt)(he:∀s₀ H₀ ex,PE (fN X scope s₀ H₀ ex) elt te)(q:C4 cs g tt te Y Q J H)(O8:∀l C s' H',Inv X pins Y H' s'->fz X pins H' C->(∃m,s'.heap.Ns C m)->Q (.ref l) H'->RR (.ref l) C (.ok .next) s'):W8 (model X.prog X.w) X.A (newList []) (λacc s₃=>W8 (model X.prog X.w) X.A (newFunctionEnv scope X.env.globals (gf X.env.cells scope.names []) [] X.env.qual none .none (some X.env)) (λC6 s₄=>QR (model X.prog X.w) X.A (.compStart (.ListComp elt [⟨tg,iter,ifs,0⟩] scope pos) 0 (.ref it) acc {C6 with scope:=relabel scope X.env}) (RR acc C6.locals) s₄) E s₃) E s:=by
 refine Qg ?_;have df:H s.heap.objs.size=none:=I.ay.fresh (Wc _);obtain⟨W,⟨m0,w0⟩,turn⟩:=q s.heap.objs.size df;generalize hl:s.heap.objs.size=l at*;have I3:Inv X pins Y (upd H l (.lst [])) {s with heap:=s.heap.push {cls:=.type "list",dict:=none,data:=.seq ([]:List Value).toArray}}:=I.laid (t':=s.toks) (λb u e=>W5 _ e) (Nat.le_of_eq hl) ⟨Q5 _,[],0,.nil,by rw[<-hl];exact Wf _ rfl⟩;have O9:∀b o,s.heap.get? b=some o->(s.heap.push {cls:=.type "list",dict:=none,data:=.seq ([]:List Value).toArray}).get? b=some o:=λb o e=>W5 _ e;have qj:∀b∈fp,b≠l:=λb hb e=>by obtain⟨o,ho,_⟩:=T.obj 0 _ st b hb;exact absurd (Wh ho) %[e,hl|Qd _]
 have xF:∀b∈fp,fz X pins (upd H l (.lst [])) b:=λb hb=>⟨by rw[aO (qj b hb)];exact(hf b hb).1,(hf b hb).2⟩;have iK:tn 0 (s.heap.push {cls:=.type "list",dict:=none,data:=.seq ([]:List Value).toArray}):=T.keep 0 _ _ st λb j o e=>O9 b o e;generalize hs3:({s with heap:=s.heap.push {cls:=.type "list",dict:=none,data:=.seq ([]:List Value).toArray}}:W2)=s3 at I3;have C7:tn 0 s3.heap:=by rw[<-hs3];exact iK
 have O_:∀b∈fp,b<s3.heap.objs.size:=λb hb=>by obtain⟨o,ho,_⟩:=T.obj 0 _ C7 b hb;exact Wh ho
 refine O4 ?_;have I4:=OT I3 S xF O_;generalize hX:fN X scope s3 (upd H l (.lst [])) fp=X' at I4;generalize hs4:({s3 with heap:=U4 (s3.heap.push {cls:=.type "dict",data:=.dict #[]}) scope.names}:W2)=s4 at I4⊢;have tV:=hg s3 (upd H l (.lst [])) fp;have iN:=ht s3 (upd H l (.lst [])) fp;have tW:=he s3 (upd H l (.lst [])) fp;rw[hX]at tV iN tW;have C8:tn 0 s4.heap:=T.keep 0 _ _ C7 λb j o e=>by rw[<-hs4];exact pushCells_keeps _ _ b o (W5 _ e)
 have hP:X'.prog=X.prog:=by rw[<-hX];rfl
 have hw:X'.w=X.w:=by rw[<-hX];rfl
 have hA:X'.A=X.A:=by rw[<-hX];rfl
 have hK:X'.K=X.K:=by rw[<-hX];rfl
 have hZ:X'.calm=true:=by rw[<-hX];exact hc
 have oF:X'.xe=kI:=by rw[<-hX];rfl
 have C9:X'.env.locals=s3.heap.objs.size:=by rw[<-hX];rfl
 have Pa:({scope:=relabel scope X.env,locals:=s3.heap.objs.size,globals:=X.env.globals,cells:=Qy (s3.heap.objs.size+1) scope.names (gf X.env.cells scope.names []),qual:=X.env.qual,func:=none,code:=X.env.code,frame:=X.env.frame,builtins:=X.env.builtins}:Env)=X'.env:=by rw[<-hX];rfl
 have xG:∀{H':Hp},(∀b∈fp,H' b=none)->∀b∈fp,fz X' [] H' b:=λ{H'}hn b hb=>by
  have ex:X'.ex=fp:=by rw[<-hX];rfl
  have pn:X'.pn=[]:=by rw[<-hX];rfl
  refine⟨hn b hb,(I4.ok.mL b %[ex|hb]).1,I4.ok.lI b %[ex|hb],.inl %[ex|hb],(I4.ok.mL b %[ex|hb]).2,λp hp=>?_⟩;rw[pn]at hp;simp at hp
 show QR (model X.prog X.w) X.A (.compStart (.ListComp elt [⟨tg,iter,ifs,0⟩] scope pos) 0 (.ref it) (.ref l) ({scope:=relabel scope X.env,locals:=s3.heap.objs.size,globals:=X.env.globals,cells:=Qy (s3.heap.objs.size+1) scope.names (gf X.env.cells scope.names []),qual:=X.env.qual,func:=none,code:=X.env.code,frame:=X.env.frame,builtins:=X.env.builtins}:Env)) (RR (.ref l) s3.heap.objs.size) s4;rw[Pa];have loop:QR (model X.prog X.w) X.A (.compLoop (.ListComp elt [⟨tg,iter,ifs,0⟩] scope pos) 0 (.ref it) (.ref l) X'.env) (RR (.ref l) s3.heap.objs.size) s4:=by
  refine O2 (λn s'=>∃i H',Inv X' [] (bA cs Y) H' s'/\tn i s'.heap/\(∀b∈fp,H' b=none)/\W i n H') ?_ m0 ⟨0,_,I4,C8,λb hb=>(xF b hb).1,w0⟩;rintro n s5⟨i,H5,I5,st5,fr5,w5⟩;rcases turn i n H5 w5 with⟨stop,qn⟩|⟨go,step⟩
  .have:=T.done X' hP hw hK hZ i [] s5 (bA cs Y) H5 kI I5 (xG fr5) st5 stop;rw[hA]at this;refine aX this λr s6⟨hr,I6⟩=>?_;subst hr;have b6:=I6.base;have e1:X'.fs=eC X.stack:=by rw[<-hX];rfl
   have e2:X'.ex=fp:=by rw[<-hX];rfl
   have e3:X'.H₀=upd H l (.lst []):=by rw[<-hX];rfl
   have e4:X'.s₀=s3:=by rw[<-hX];rfl
   rw[e1,e2,e3,e4]at b6;have o6:s6.os=s3.os:=by rw[<-e4];exact I6.os
   have Pb:cx X.prog X.w H5 s6.heap:=by rw[<-hP,<-hw];exact I6.ay
   have J6:Inv X pins Y H5 s6:=I3.BK o6 b6 Pb I6.bare λb hb=>by obtain⟨_,f1,_,f3,f4,f5⟩:=xF b hb;exact⟨f3,f1,f4,f5⟩
   obtain⟨m6,n6,_⟩:=I6.loc;rw[C9]at n6;refine O8 l s3.heap.objs.size s6 H5 J6 (I3.jh (Wc _) ?_) ⟨m6,n6⟩ qn;rw[<-C9];exact I6.free
  .have:=T.item X' hP hw hK hZ i [] s5 (bA cs Y) H5 kI I5 (xG fr5) st5 go;rw[hA]at this;refine aX this λr s6⟨u,hr,h6⟩=>?_;subst hr;refine aX h6 λj s7 hh=>?_;obtain⟨x,H7,I7,r7,y7,st7,fr7⟩:=hh;have Pc:=I7.pinned (xG fr7) (T.obj _ _ st7);have a8:=tV _ s7 (bA cs Y) H7 x u _ Pc r7 (step x H7 y7);rw[hP,hw,hA,oF]at a8;refine aX a8 λj s8 hh=>?_;obtain⟨GM,H8,I8,le8,q8⟩:=hh;have a9:=iN _ s8 GM H8 _ I8 q8;rw[hP,hw,hA,oF]at a9;refine aX a9 λok s9⟨H9,I9,q9⟩=>?_;have back:∀{H':Hp}{s':W2},Inv X' ([]++pY fp s7.heap) GM H' s'->Inv X' [] (bA cs Y) H' s'/\tn (i+1) s'.heap/\∀b∈fp,H' b=none:=λ{H' s'}J=>by refine⟨J.tG.weak le8.1.symm le8.2,T.keep _ _ _ st7 λb hb o e=>(J.pin (b,o) (Qa _ (Qa _ (tF hb e)))).1,λb hb=>?_⟩;obtain⟨o,e,d⟩:=T.obj _ _ st7 b hb;exact(J.pin (b,o) (Qa _ (Qa _ (tF hb e)))).2.1
   cases ok with|false=>rw[if_neg WN]at q9⊢;obtain⟨m',hm,w9⟩:=q9;obtain⟨b1,b2,b3⟩:=back I9;exact⟨m',hm,i+1,H9,b1,b2,b3,w9⟩|true=>rw[if_pos rfl]at q9⊢;have C_:=tW _ s9 GM H9 _ I9 q9;rw[hP,hw,hA,oF]at C_;refine aX C_ λx10 s10 hh=>?_;obtain⟨v,H10,I10,r10,ys,m',hy,hz,hm,w10⟩:=hh;have Dc:=CN (X:=X') _ s10 GM H10 (.ref l) [v] (.ref l) [x10] (λj H'=>W (i+1) m' H') I10 rfl (.cons r10 .nil) ⟨l,ys,v,rfl,rfl,hy,hz,w10⟩;rw[hP,hw,hA,oF]at Dc;refine aX Dc λj s11 hh=>?_;obtain⟨_,H11,I11,_,w11⟩:=hh;obtain⟨b1,b2,b3⟩:=back I11;exact⟨m',hm,i+1,H11,b1,b2,b3,w11⟩
 exact codeAny_compStart_list loop (T.self X.A 0 s4 _ _ C8 loop)
theorem Pd(hc:X.calm=true)(S:mV X scope cs)(hi:PI X tg iter wi)(hg:∀s₀ H₀ ex,PG (fN X scope s₀ H₀ ex) tg g)(ht:∀s₀ H₀ ex,oE (fN X scope s₀ H₀ ex) ifs tt)(he:∀s₀ H₀ ex,PE (fN X scope s₀ H₀ ex) elt te)(hs:∀x,Jj iter X.env x=pure x:=by intro _;rfl):PE X (.ListComp elt [⟨tg,iter,ifs,0⟩] scope pos) (xE cs wi g tt te):=by intro pins s Y H Q I h;have qg:∀x∈scope.names,x.2=.free->∃c,X.env.cells.lookup x.1=some c:=λx hx hk=>I.ok.has x.1 (S.free x hx hk);rw[eval_ListComp];refine wpAny_comprehension_free (use:=none) rfl hs (CY qg) S.kind S.names (aX (hi pins s Y H _ I h) λxv s1 h1=>aX h1 λtj s2 h2=>?_);obtain⟨it,fp,tn,J,H2,e,I2,T,st2,f2,q2⟩:=h2;subst e;refine C5 (RR:=λacc C=>compPost (model X.prog X.w) X.A X.xe none (EP X pins Y Q) acc C) hc I2 S T st2 f2 hg ht he q2 ?_;intro l C s' H' I' fC⟨m,n⟩q;exact⟨m,n,λh' gK=>⟨.ref l,H',I'.turned (t':=s'.toks) (λb o hb e=>(gK.2 b hb).trans e) fC.1 fC.2.1 fC.2.2.2.1 fC.2.2.2.2.1 fC.2.2.2.2.2,rfl,q⟩⟩
theorem Pe(hc:X.calm=true)(S:mV X scope cs)(hN:X.N.Nodup)(eG:X.N[i]?=some y)(hy:X.env.scope.names.lookup y=some .local)(hi:PI X tg iter wi)(hg:∀s₀ H₀ ex,PG (fN X scope s₀ H₀ ex) tg g)(ht:∀s₀ H₀ ex,oE (fN X scope s₀ H₀ ex) ifs tt)(he:∀s₀ H₀ ex,PE (fN X scope s₀ H₀ ex) elt te)(qk:JB (.ListComp elt [⟨tg,iter,ifs,0⟩] scope pos) (some (.Name y py)) tY.line X.env=pure true:=by rfl)(hs:∀x,Jj iter X.env x=pure x:=by intro _;rfl):PS X (.Assign [.Name y py] (.ListComp elt [⟨tg,iter,ifs,0⟩] scope pos) tY) (tf (xE cs wi g tt te) (s_ i)):=by
 intro pins s Y H D I h;have qg:∀x∈scope.names,x.2=.free->∃c,X.env.cells.lookup x.1=some c:=λx hx hk=>I.ok.has x.1 (S.free x hx hk);rw[exec_Assign_Name_used _ _ _ _ qk];refine W0 (wpAny_standAt (W0 ?_));show W8 _ X.A (do let _<-comprehension (.ListComp elt [⟨tg,iter,ifs,0⟩] scope pos) scope X.env _ (newList []) false (eval iter X.env) (some (assign (.Name y py) X.env))) _ _ s;refine W0 (Q9 (wpAny_comprehension_free (use:=some (assign (.Name y py) X.env)) (Q:=λj s'=>SP X pins D .next s') rfl hs (CY qg) S.kind S.names (aX (hi pins s Y H _ I h) λxv s1 h1=>aX h1 λtj s2 h2=>?_)) (λj s' hq=>W4 (W4 hq)) λj j e=>e);obtain⟨it,fp,tn,J,H2,e,I2,T,st2,f2,q2⟩:=h2;subst e;refine C5 (RR:=λacc C=>compPost (model X.prog X.w) X.A X.xe (some (assign (.Name y py) X.env)) (λj s'=>SP X pins D .next s') acc C) hc I2 S T st2 f2 hg ht he q2 ?_;intro l C s' H' I' fC⟨m,n⟩q;show W8 _ X.A (assign (.Name y py) X.env (.ref l)) _ _ _;refine wpAny_assign_Name (sZ I' hN eG (.inl hy) (v:=.ref l) rfl (λp9 I''⟨a,xH,ha⟩=>?_) (.inr hy));have bN:C≠a:=by
  rcases ha with rfl|ha;.exact fC.2.1
  .exactλe=>fC.2.2.2.2.1 y a ha e.symm
 refine⟨m,n.sameBut xH bN,λh' gK=>⟨_,H',I''.turned (t':=p9.toks) (λb o hb e=>(gK.2 b hb).trans e) fC.1 fC.2.1 fC.2.2.2.1 fC.2.2.2.2.1 fC.2.2.2.2.2,q⟩⟩
end
abbrev Tx:=List Nat
variable{ce:Tx->Nat}{ks:List (List Tx)}{tab:Tx->Bool}
def toS(x:Tx):Str:=⟨x.toArray⟩
theorem kJ(x:Tx):(toS x).cps.toList=x:=#v[toS]
theorem lU(x:Tx):(toS x).length=x.length:=#v[toS,Str.length]
theorem ql{x}(h:toS x=toS y):x=y:=by have:=congrArg (λz:Str=>z.cps.toList) h;simpa[toS]using this
theorem Pf(z:Str):z=toS z.cps.toList:=#v[toS]
abbrev bU:=Sum Int Tx
def eJ:bU->Key|.inl i=>.inl i|.inr x=>.inr (toS x)
inductive D where|ax|bl(b:Bool)|int(i:Int)|str(x:Tx)|tup(xs:List D)|lst(xs:List D)|bV(ao:List (bU×D))|exc(n:Nat)(fl:D)|xd(fs:List (Tx×D))|fn(a:Nat)|dic(ao:List (D×D))
variable{F:D->Option D}{ds:List D}
mutual noncomputable def cF:Nat->D->Option NK|_,.int i=>some (.i i)|_,.bl b=>some (.i (if b then 1 else 0))|_,.str x=>some (.s (toS x))|n+1,.tup xs=>(iO n xs).map .t|_,_=>none noncomputable def iO:Nat->List D->Option (List NK)|_,[]=>some []|n,x::xs=>(cF n x).bind λk=>(iO n xs).map λks=>k::ks end
def excAt(C:Addr)(v:V)(a:Addr):Heap->Prop:=λh=>∃o,h.get? a=some o/\o.cls=.ref C/\(∀x,v=.ref x->o.dict=some x)/\∃vs,o.data=.fields vs
def Pg(fs:List (Str×V))(x:Addr):Heap->Prop:=λh=>∃mA,h.Ns1 x mA/\∀f,fW (fs.lookup f) (mA f)
inductive S where|pure(d:D)|own(d:D)
variable{aC ss:List S}{p':D->D->Option S}
def S.d:S->D|.pure d=>d|.own d=>d
abbrev Dl:=List (Option S)
variable{Z S' W':Dl}
inductive Rep(H:Hp)(O:Addr->Prop):V->D->Prop|ax:Rep H O .ax .ax|bl(b:Bool):Rep H O (.bl b) (.bl b)|int(i:Int):Rep H O (.int i) (.int i)|str(x:Tx):Rep H O (.str (toS x)) (.str x)|tup{a:Addr}{vs:List V}{ds:List D}:¬O a->H a=some (.tup vs)->vs.length=ds.length->(∀(i:Nat)v d,vs[i]?=some v->ds[i]?=some d->Rep H O v d)->Rep H O (.ref a) (.tup ds)|lst{a:Addr}{vs:List V}{ds:List D}:¬O a->Rd H a (.lst vs)->vs.length=ds.length->(∀(i:Nat)v d,vs[i]?=some v->ds[i]?=some d->Rep H O v d)->Rep H O (.ref a) (.lst ds)|bV{a:Addr}{ws:List (Key×V)}{ds:List (bU×D)}:¬O a->H a=some (.dK ws)->ws.map (·.1)=ds.map (λp=>eJ p.1)->(∀(i:Nat)p q,ws[i]?=some p->ds[i]?=some q->Rep H O p.2 q.2)->Rep H O (.ref a) (.bV ds)|exc{a:Addr}{n:Nat}{v:V}{fl:D}:¬O a->H a=some (.ext (excAt n v a))->Rep H O v fl->Rep H O (.ref a) (.exc n fl)|xd{x:Addr}{fs:List (Str×V)}{ds:List (Tx×D)}:¬O x->H x=some (.ext (Pg fs x))->fs.map (·.1)=ds.map (λp=>toS p.1)->(∀(i:Nat)p q,fs[i]?=some p->ds[i]?=some q->Rep H O p.2 q.2)->Rep H O (.ref x) (.xd ds)|fn(a:Addr):Rep H O (.ref a) (.fn a)|dic{a:Addr}{ep:Nat}{ws:List (NK×V×V)}{ds:List (D×D)}:¬O a->H a=some (.dN ep ws)->ws.length=ds.length->(∀(i:Nat)p q,ws[i]?=some p->ds[i]?=some q->Rep H O p.2.1 q.1)->(∀(i:Nat)p q,ws[i]?=some p->ds[i]?=some q->Rep H O p.2.2 q.2)->(∀(i:Nat)p q,ws[i]?=some p->ds[i]?=some q->cF 6 q.1=some p.1)->Rep H O (.ref a) (.dic ds)
abbrev aH(H:Hp)(O:Addr->Prop)(vs:List V)(ds:List D):Prop:=vs.length=ds.length/\∀(i:Nat)v d,vs[i]?=some v->ds[i]?=some d->Rep H O v d
structure DN(H:Hp)(O:Addr->Prop)(ws:List (NK×V×V))(ds:List (D×D)):Prop where
 len:ws.length=ds.length
 key:∀(i:Nat)p q,ws[i]?=some p->ds[i]?=some q->Rep H O p.2.1 q.1val:∀(i:Nat)p q,ws[i]?=some p->ds[i]?=some q->Rep H O p.2.2 q.2mW:∀(i:Nat)p q,ws[i]?=some p->ds[i]?=some q->cF 6 q.1=some p.1
def fD(H:Hp)(O:Addr->Prop)(a:Addr):D->Prop|.lst ds=>∃vs,H a=some (.lst vs)/\aH H O vs ds|.bV ds=>∃ws:List (Key×V),H a=some (.dK ws)/\ws.map (·.1)=ds.map (λp=>eJ p.1)/\∀(i:Nat)p q,ws[i]?=some p->ds[i]?=some q->Rep H O p.2 q.2|.dic ds=>∃(ep:Nat)(ws:List (NK×V×V)),H a=some (.dN ep ws)/\DN H O ws ds|_=>False
section
variable{O:Addr->Prop}{d:D}
theorem Rd.keep{u}(h:Rd H a u)(k:∀o,H a=Option.some o->H' a=Option.some o):Rd H' a u:=by
 rcases h with h|⟨o,h⟩;.exact .inl (k _ h)
 .exact .inr ⟨o,k _ h⟩
theorem Rd.some{u}(h:Rd H a u):∃o,H a=some o:=by
 rcases h with h|⟨o,h⟩;.exact⟨_,h⟩
 .exact⟨_,h⟩
theorem Rep.keep(h:Rep H O v d)(k:∀a o,H a=some o->¬O a->H' a=some o):Rep H' O v d:=by induction h with|ax=>exact .ax|bl b=>exact .bl b|int i=>exact .int i|str x=>exact .str x|tup h1 h2 h3 _ ih=>exact .tup h1 (k _ _ h2 h1) h3 ih|lst h1 h2 h3 _ ih=>exact .lst h1 (Rd.keep h2 λo e=>k _ o e h1) h3 ih|bV h1 h2 h3 _ ih=>exact .bV h1 (k _ _ h2 h1) h3 ih|exc h1 h2 _ ih=>exact .exc h1 (k _ _ h2 h1) ih|xd h1 h2 h3 _ ih=>exact .xd h1 (k _ _ h2 h1) h3 ih|fn a=>exact .fn a|dic h1 h2 h3 _ _ h6 ih ih'=>exact .dic h1 (k _ _ h2 h1) h3 ih ih' h6
theorem Rep.aP(h:Rep H O v d)(k:∀a,O' a->O a\/H a=none):Rep H O' v d:=by
 have no:∀{a:Addr}{u:HO},¬O a->Rd H a u->¬O' a:=λ{a u}h1 h2 z=>by grind[Rd.some]
 induction h with|ax=>exact .ax|bl b=>exact .bl b|int i=>exact .int i|str x=>exact .str x|tup h1 h2 h3 _ ih=>exact .tup (no h1 (.inl h2)) h2 h3 ih|lst h1 h2 h3 _ ih=>exact .lst (no h1 h2) h2 h3 ih|bV h1 h2 h3 _ ih=>exact .bV (no h1 (.inl h2)) h2 h3 ih|exc h1 h2 _ ih=>exact .exc (no h1 (.inl h2)) h2 ih|xd h1 h2 h3 _ ih=>exact .xd (no h1 (.inl h2)) h2 h3 ih|fn a=>exact .fn a|dic h1 h2 h3 _ _ h6 ih ih'=>exact .dic (no h1 (.inl h2)) h2 h3 ih ih' h6
theorem DN.keep{ws:List (NK×V×V)}{ds:List (D×D)}(h:DN H O ws ds)(k:∀a o,H a=some o->¬O a->H' a=some o):DN H' O ws ds:=⟨h.len,λi p q e1 e2=>(h.key i p q e1 e2).keep k,λi p q e1 e2=>(h.val i p q e1 e2).keep k,h.mW⟩
theorem DN.aP{ws:List (NK×V×V)}{ds:List (D×D)}(h:DN H O ws ds)(k:∀a,O' a->O a\/H a=none):DN H O' ws ds:=⟨h.len,λi p q e1 e2=>(h.key i p q e1 e2).aP k,λi p q e1 e2=>(h.val i p q e1 e2).aP k,h.mW⟩
theorem aH.keep(h:aH H O vs ds)(k:∀a o,H a=some o->¬O a->H' a=some o):aH H' O vs ds:=⟨h.1,λi v d e1 e2=>(h.2 i v d e1 e2).keep k⟩
theorem aH.aP(h:aH H O vs ds)(k:∀a,O' a->O a\/H a=none):aH H O' vs ds:=⟨h.1,λi v d e1 e2=>(h.2 i v d e1 e2).aP k⟩
theorem aH.nil:aH H O [] []:=⟨rfl,λi v d e j=>by simp at e⟩
theorem aH.cons{H O v d vs ds}(h:Rep H O v d)(r:aH H O vs ds):aH H O (v::vs) (d::ds):=by refine⟨#v[r.1],λi v' d' e1 e2=>?_⟩;cases i with|zero=>simp at e1 e2;subst e1;subst e2;exact h|succ i=>exact r.2 i v' d' (~~~e1) (~~~e2)
theorem aH.head(r:aH H O (v::vs) (d::ds)):Rep H O v d:=r.2 0 v d rfl rfl
theorem aH.tail(r:aH H O (v::vs) (d::ds)):aH H O vs ds:=⟨~~~r.1,λi v' d' e1 e2=>r.2 (i+1) v' d' (~~~e1) (~~~e2)⟩
theorem aH.append(h:aH H O vs ds)(h':aH H O mX eX):aH H O (vs++mX) (ds++eX):=by induction vs generalizing ds with
 |nil=>cases ds with|nil=>exact h'|cons d r=>have:=h.1;simp at this
 |cons v r ih=>cases ds with|nil=>have:=h.1;simp at this|cons d q=>exact .cons h.head (ih h.tail)
theorem aH.get(h:aH H O vs ds)(e:ds[i]?=some d):∃v,vs[i]?=some v/\Rep H O v d:=by have hi:i<ds.length:=(W6.mp e).1;have hv:i<vs.length:=%[h.1|hi];exact⟨vs[i],#v[hv],h.2 i _ d #v[hv] e⟩
theorem aH.take(n:Nat)(h:aH H O vs ds):aH H O (vs.take n) (ds.take n):=by
 refine⟨#v[h.1],λi v d e1 e2=>?_⟩;by_cases hi:i<n;.rw[List.getElem?_take_of_lt hi]at e1 e2;exact h.2 i v d e1 e2
 .rw[List.getElem?_take_eq_none Y']at e1;cases e1
theorem aH.drop(n:Nat)(h:aH H O vs ds):aH H O (vs.drop n) (ds.drop n):=by refine⟨#v[h.1],λi v d e1 e2=>?_⟩;rw[List.getElem?_drop]at e1 e2;exact h.2 (n+i) v d e1 e2
theorem aH.set(h:aH H O vs ds)(r:Rep H O v d)(j:Nat):aH H O (vs.set j v) (ds.set j d):=by
 refine⟨#v[h.1],λi v' d' e1 e2=>?_⟩;by_cases hi:j=i;.subst hi;rw[Q4]at e1 e2;simp at e1 e2;obtain⟨_,rfl⟩:=e1;obtain⟨_,rfl⟩:=e2;exact r
 .rw[Wd hi]at e1 e2;exact h.2 i v' d' e1 e2
theorem fD.keep(h:fD H O a d)(hk:∀b o,H b=Option.some o->¬O b->H' b=Option.some o)(ha:∀o,H a=Option.some o->H' a=Option.some o):fD H' O a d:=by cases d<;>first|exact h.elim|(obtain⟨vs,e,r⟩:=h;exact⟨vs,ha _ e,aH.keep r hk⟩)|(obtain⟨ws,e,r,q⟩:=h;exact⟨ws,ha _ e,r,λi p p' e1 e2=>(q i p p' e1 e2).keep hk⟩)|(obtain⟨ep,ws,e,r⟩:=h;exact⟨ep,ws,ha _ e,r.keep hk⟩)
theorem fD.aP(h:fD H O a d)(k:∀a,O' a->O a\/H a=none):fD H O' a d:=by cases d<;>first|exact h.elim|(obtain⟨vs,e,r⟩:=h;exact⟨vs,e,aH.aP r k⟩)|(obtain⟨ws,e,r,q⟩:=h;exact⟨ws,e,r,λi p p' e1 e2=>(q i p p' e1 e2).aP k⟩)|(obtain⟨ep,ws,e,r⟩:=h;exact⟨ep,ws,e,r.aP k⟩)
theorem fD.some(h:fD H O a d):∃o,H a=some o:=by cases d<;>first|exact h.elim|(obtain⟨vs,e,r⟩:=h;exact⟨_,e⟩)|(obtain⟨ep,vs,e,r⟩:=h;exact⟨_,e⟩)
theorem fD.rep(h:fD H O a d)(ho:¬O a):Rep H O (.ref a) d:=by cases d with|lst ds=>obtain⟨vs,e,r⟩:=h;exact .lst ho (.inl e) r.1 r.2|bV ds=>obtain⟨ws,e,r,q⟩:=h;exact .bV ho e r q|dic ds=>obtain⟨ep,ws,e,r⟩:=h;exact .dic ho e r.len r.key r.val r.mW|_=>exact h.elim
end
structure Xc where
 cls:Tx
 jQ:D
structure Fc where
 H₀:Hp
 B:Addr->Prop
 pin:List (Nat×Addr)xc:Xc->Dl->Prop:=λj j=>False
variable{c:Fc}
def Fc.plus(c:Fc)(p:Addr):Fc:={c with B:=λa=>c.B a\/a=p}
def Fc.I(c:Fc)(a:Addr):Prop:=∃i,(i,a)∈c.pin
def Own(Y:St)(Z:Dl)(a:Addr):Prop:=∃(i:Nat)(d:D),Z[i]?=some (some (.own d))/\Y[i]?=some (some (.ref a))
def Av(c:Fc)(Y:St)(Z:Dl)(a:Addr):Prop:=c.B a\/Own Y Z a
structure Ok(c:Fc)(Y:St)(Z:Dl)(H:Hp):Prop where
 keep:∀a o,c.H₀ a=some o->¬c.I a->H a=some o
 bd:∀a,c.B a->∃o,H a=some o
 cR:∀a,c.I a->∃o,H a=some o
 len:Z.length=Y.length
 slot:∀(i:Nat)d,Z[i]?=some (some (.pure d))->∃v,Y[i]?=some (some v)/\Rep H (Av c Y Z) v d
 own:∀(i:Nat)d,Z[i]?=some (some (.own d))->∃a,Y[i]?=some (some (.ref a))/\fD H (Av c Y Z) a d/\(c.I a\/c.H₀ a=none)/\¬c.B a
 inj:∀(i j:Nat)a d d',Z[i]?=some (some (.own d))->Z[j]?=some (some (.own d'))->Y[i]?=some (some (.ref a))->Y[j]?=some (some (.ref a))->i=j
 pinned:∀p∈c.pin,Y[p.1]?=some (some (.ref p.2))
structure aG(c:Fc)(Y:St)(Z:Dl)(H:Hp)(SL:St)(S':Dl)(H':Hp):Prop where
 ok:Ok c SL S' H'
 keep:∀a o,H a=some o->¬Own Y Z a->H' a=some o
 own:∀a,Own SL S' a->Own Y Z a\/H a=none
 there:∀a o,H a=some o->∃o',H' a=some o'
section
variable{Y'':St}{Z'':Dl}{Dd:Hp}{d:D}{p:Addr}
theorem Ok.Ph(k:Ok c Y Z H)(h:c.B a):∃o,H a=some o:=k.bd a h
theorem Ok.xI(k:Ok c Y Z H)(h:Own Y Z a):∃o,H a=some o:=by obtain⟨i,d,e1,e2⟩:=h;obtain⟨b,e3,q,_⟩:=k.own i d e1;rw[e2]at e3;cases e3;exact q.some
theorem Ok.tZ(k:Ok c Y Z H)(h:Av c Y Z a):∃o,H a=some o:=h.elim k.Ph k.xI
theorem Ok.iP(k:Ok c Y Z H)(h:H a=none):¬Av c Y Z a:=λz=>by obtain⟨o,e⟩:=k.tZ z;grind
theorem aG.refl(k:Ok c Y Z H):aG c Y Z H Y Z H:=⟨k,λj j e j=>e,λj h=>.inl h,λj o e=>⟨o,e⟩⟩
theorem aG.trans(x:aG c Y Z H SL S' H')(y:aG c SL S' H' Y'' Z'' Dd):aG c Y Z H Y'' Z'' Dd:=by
 refine⟨y.ok,λa o e n=>?_,λa h=>?_,λa o e=>?_⟩;.refine y.keep a o (x.keep a o e n) λz=>?_;rcases x.own a z with q|q;all_goals grind
 .rcases y.own a h with q|q;.exact x.own a q
  .right;cases e:H a with|none=>rfl|some o=>obtain⟨o',e'⟩:=x.there a o e;grind
 .obtain⟨o',e'⟩:=x.there a o e;exact y.there a o' e'
theorem aG.av(x:aG c Y Z H SL S' H'):∀a,Av c SL S' a->Av c Y Z a\/H a=none:=λa h=>by
 rcases h with h|h;.exact .inl (.inl h)
 .rcases x.own a h with q|q;.exact .inl (.inr q)
  .exact .inr q
theorem Rep.dg(h:Rep H (Av c Y Z) v d)(x:aG c Y Z H SL S' H'):Rep H' (Av c SL S') v d:=by have h1:Rep H (λa=>Av c Y Z a\/Av c SL S' a) v d:=Rep.aP h λa z=>z.elim .inl (x.av a);exact(h1.keep λa o e n=>x.keep a o e λz=>n (.inl (.inr z))).aP λa z=>.inl (.inr z)
theorem aH.dg(h:aH H (Av c Y Z) vs ds)(x:aG c Y Z H SL S' H'):aH H' (Av c SL S') vs ds:=⟨h.1,λi v d e1 e2=>Rep.dg (h.2 i v d e1 e2) x⟩
def aS(c:Fc)(Y:St)(Z:Dl)(Hs H:Hp)(v:V):S->Prop|.pure d=>Rep H (Av c Y Z) v d|.own d=>∃a,v=.ref a/\fD H (Av (c.plus a) Y Z) a d/\¬c.B a/\c.H₀ a=none/\Ok (c.plus a) Y Z H/\Hs a=none
theorem oG(k:Ok (c.plus a) Y Z H):¬Own Y Z a:=λ⟨i,d,e1,e2⟩=>by obtain⟨b,e3,_,_,n⟩:=k.own i d e1;rw[e2]at e3;cases e3;exact n (.inr rfl)
theorem aS.rep(h:aS c Y Z Hs H v r):Rep H (Av c Y Z) v r.d:=by cases r with|pure d=>exact h|own d=>obtain⟨a,rfl,o,n,f,k,_⟩:=h;refine(o.aP λb z=>.inl ?_).rep λz=>z.elim n (oG k);exact z.elim (λz=>.inl (.inl z)) .inr
theorem aS.back(h:aS c Y Z Hs H v r)(x:aG c Y₀ Z₀ H' SL S' Hs):aS c Y Z H' H v r:=by cases r with|pure d=>exact h|own d=>obtain⟨a,e,o,n,f,k,hs⟩:=h;refine⟨a,e,o,n,f,k,?_⟩;cases q:H' a with|none=>rfl|some o=>obtain⟨o',e'⟩:=x.there a o q;grind
theorem aS.Pj(h:aS c Y Z Hs H v r):aS c Y Z c.H₀ H v r:=by cases r with|pure d=>exact h|own d=>obtain⟨a,e,o,n,f,k,hs⟩:=h;exact⟨a,e,o,n,f,k,f⟩
theorem Ok.alloc(k:Ok c Y Z H)(hp:H p=none)(o:HO):Ok c Y Z (upd H p o):=by
 have up:∀a w,H a=some w->upd H p o a=some w:=λa w e=>by rw[aO (d_ e hp)];exact e
 refine⟨λa w e n=>up a w (k.keep a w e n),λa z=>(k.bd a z).elim λw e=>⟨w,up a w e⟩,λa z=>(k.cR a z).elim λw e=>⟨w,up a w e⟩,k.len,λi d e=>?_,λi d e=>?_,k.inj,k.pinned⟩;.obtain⟨v,e1,r⟩:=k.slot i d e;exact⟨v,e1,r.keep λa w q j=>up a w q⟩
 .obtain⟨a,e1,r,q⟩:=k.own i d e;exact⟨a,e1,r.keep (λb w q j=>up b w q) λw q=>up a w q,q⟩
theorem aG.alloc(k:Ok c Y Z H)(hp:H p=none)(o:HO):aG c Y Z H Y Z (upd H p o):=by
 have up:∀a w,H a=some w->upd H p o a=some w:=λa w e=>by rw[aO (d_ e hp)];exact e
 exact⟨k.alloc hp o,λa w e j=>up a w e,λa h=>.inl h,λa w e=>⟨w,up a w e⟩⟩
theorem Ok.kK(k:Ok c Y Z H)(hp:H p=none):c.H₀ p=none:=by cases e:c.H₀ p with|none=>rfl|some o=>
 by_cases q:c.I p;.obtain⟨w,e'⟩:=k.cR p q;grind
 .have:=k.keep p o e q;grind
theorem Ok.plus(k:Ok c Y Z H)(hp:H p=none)(o:HO):Ok (c.plus p) Y Z (upd H p o):=by
 have k':=k.alloc hp o;have sub:∀b,Av (c.plus p) Y Z b->Av c Y Z b\/b=p:=λb z=>by
  rcases z with(z|z)|z;.exact .inl (.inl z)
  .exact .inr z
  .exact .inl (.inr z)
 have t4:∀b,Av (c.plus p) Y Z b->Av c Y Z b\/H b=none:=λb z=>(sub b z).elim .inl λe=>.inr %[e|hp];have up:∀a w,H a=some w->upd H p o a=some w:=λa w e=>by rw[aO (d_ e hp)];exact e
 refine⟨k'.keep,λa z=>?_,k'.cR,k.len,λi d e=>?_,λi d e=>?_,k.inj,k.pinned⟩
 .rcases z with z|z;.exact k'.bd a z
  .exact⟨o,%[z|bS]⟩
 .obtain⟨v,e1,r⟩:=k.slot i d e;exact⟨v,e1,(r.aP t4).keep λa w q j=>up a w q⟩
 .obtain⟨a,e1,r,q,nb⟩:=k.own i d e;refine⟨a,e1,(r.aP t4).keep (λb w q j=>up b w q) λw q=>up a w q,q,λz=>?_⟩;rcases z with z|z;all_goals grind[fD.some]
theorem aS.mY(k:Ok c Y Z H)(r:aH H (Av c Y Z) vs ds)(hp:H p=none):aS c Y Z H (upd H p (.lst vs)) (.ref p) (.own (.lst ds)):=by
 have up:∀a w,H a=some w->upd H p (.lst vs) a=some w:=λa w e=>by rw[aO (d_ e hp)];exact e
 refine⟨p,rfl,⟨vs,bS,?_⟩,λz=>k.iP hp (.inl z),k.kK hp,k.plus hp _,hp⟩;have r1:aH H (Av (c.plus p) Y Z) vs ds:=aH.aP r λb z=>by
  rcases z with(z|z)|z;.exact .inl (.inl z)
  .exact .inr %[z|hp]
  .exact .inl (.inr z)
 exact aH.keep r1 λb w e j=>up b w e
theorem aS.qo(k:Ok c Y Z H)(r:aH H (Av c Y Z) vs ds)(hp:H p=none):aS c Y Z H (upd H p (.tup vs)) (.ref p) (.pure (.tup ds)):=by
 have up:∀a w,H a=some w->upd H p (.tup vs) a=some w:=λa w e=>by rw[aO (d_ e hp)];exact e
 have r1:=aH.keep r (H':=upd H p (.tup vs)) λb w e j=>up b w e;exact .tup (k.iP hp) bS r1.1 r1.2
end
inductive Rs(α:Type)where|ok(a:α)(Z:Dl)|exc(x:Xc)(Z:Dl)|stuck
noncomputable def Rs.bind{α β:Type}(r:Rs α)(f:α->Dl->Rs β):Rs β:=match r with|.ok a Z=>f a Z|.exc x Z=>.exc x Z|.stuck=>.stuck
abbrev DE:=Dl->Rs S
variable{el fa fe:DE}
def XC(c:Fc)(x:Xc)(Z:Dl):Prop:=c.xc x Z
def post{α:Type}(c:Fc)(r:Rs α)(k:α->Dl->Prop):Prop:=match r with|.ok a Z=>k a Z|.exc x Z=>XC c x Z|.stuck=>False
theorem bh{f}:post c (r.bind f) k↔post c r λa Z=>post c (f a Z) k:=by cases r<;>exact Iff.rfl
theorem aQ(h:post c r k)(m:∀a Z,k a Z->k' a Z):post c r k':=by cases r with|ok a Z=>exact m a Z h|exc x Z=>exact h|stuck=>exact h
def tD(c:Fc)(f:DE):TE:=λY H Q=>∃Z,Ok c Y Z H/\post c (f Z) λr S'=>∀v H',aG c Y Z H Y S' H'->aS c Y S' H H' v r->Q v H'
abbrev SE(X:Cx)(c:Fc)(e:Expr)(f:DE):Prop:=PE X e (tD c f)
def c7(c:Fc)(Y:St)(Z:Dl)(H:Hp)(v:V)(d:D):Prop:=Rep H (Av c Y Z) v d\/∃a,v=.ref a/\fD H (Av c Y Z) a d
abbrev BE:=Dl->Rs D
variable{fb fc:BE}
def UF(c:Fc)(f:BE):TE:=λY H Q=>∃Z,Ok c Y Z H/\post c (f Z) λd S'=>∀v H',aG c Y Z H Y S' H'->c7 c Y S' H' v d->Q v H'
abbrev SB(X:Cx)(c:Fc)(e:Expr)(f:BE):Prop:=PE X e (UF c f)
theorem PE.weak{t'}(h:PE X e t)(w:∀Y H Q,t' Y H Q->t Y H Q):PE X e t':=λpins s Y H Q I q=>h pins s Y H Q I (w Y H Q q)
def ae(f:DE):BE:=λZ=>(f Z).bind λr S'=>.ok r.d S'
theorem aS.b(h:aS c Y Z Hs H v r):c7 c Y Z H v r.d:=.inl h.rep
theorem Pk{f:DE}(h:SE X c e f):SB X c e (ae f):=PE.weak h λY H Q⟨Z,k,p⟩=>⟨Z,k,by unfold ae at p;rw[bh]at p;exact aQ p λr S' q v H' a s=>q v H' a s.b⟩
def au(i:Nat):BE:=λZ=>match Z[i]? with|some (some r)=>.ok r.d Z|_=>.stuck
def aa(i:Nat):DE:=λZ=>match Z[i]? with|some (some (.pure d))=>.ok (.pure d) Z|some (some (.own d))=>.ok (.pure d) (Z.set i (some (.pure d)))|_=>.stuck
def eD(d:D):DE:=λZ=>.ok (.pure d) Z
theorem Pl(h:PE X e (eW i)):SB X c e (au i):=PE.weak h λY H Q⟨Z,k,p⟩=>by unfold au at p;cases e:Z[i]? with|none=>rw[e]at p;exact p.elim|some o=>cases o with|none=>rw[e]at p;exact p.elim|some r=>rw[e]at p;cases r with|pure d=>obtain⟨v,e1,r⟩:=k.slot i d e;exact⟨v,e1,p v H (.refl k) (.inl r)⟩|own d=>obtain⟨a,e1,r,_⟩:=k.own i d e;exact⟨.ref a,e1,p _ H (.refl k) (.inr ⟨a,rfl,r⟩)⟩
theorem Own.sub(h:Own Y (Z.set i (some (.pure d))) a):Own Y Z a:=by
 obtain⟨j,d',e1,e2⟩:=h;by_cases hj:i=j;.subst hj;rw[Q4]at e1;simp at e1
 .rw[Wd hj]at e1;exact⟨j,d',e1,e2⟩
theorem Ok.give(k:Ok c Y Z H)(e:Z[i]?=some (some (.own d))):∃a,Y[i]?=some (some (.ref a))/\aG c Y Z H Y (Z.set i (some (.pure d))) H/\Rep H (Av c Y (Z.set i (some (.pure d)))) (.ref a) d:=by
 obtain⟨a,e1,r,q,nb⟩:=k.own i d e;have hi:i<Z.length:=(W6.mp e).1;have sub:∀b,Av c Y (Z.set i (some (.pure d))) b->Av c Y Z b:=λb z=>z.elim .inl λz=>.inr z.sub;have na:¬Av c Y (Z.set i (some (.pure d))) a:=by
  rintro(z|⟨j,d',f1,f2⟩);.exact nb z
  .by_cases hj:i=j;.subst hj;rw[Q4]at f1;simp at f1
   .rw[Wd hj]at f1;exact hj (k.inj i j a d d' e f1 e1 f2)
 have rep:Rep H (Av c Y (Z.set i (some (.pure d)))) (.ref a) d:=(r.aP λb z=>.inl (sub b z)).rep na;refine⟨a,e1,⟨⟨k.keep,k.bd,k.cR,%[QQ|k.len],λj d' f=>?_,λj d' f=>?_,λj l b d1 d2 f1 f2=>?_,k.pinned⟩,λy y w y=>w,λb z=>.inl z.sub,λy o w=>⟨o,w⟩⟩,rep⟩
 .by_cases hj:i=j;.subst hj;rw[Wv hi]at f;cases f;exact⟨.ref a,e1,rep⟩
  .rw[Wd hj]at f;obtain⟨v,g1,g2⟩:=k.slot j d' f;exact⟨v,g1,g2.aP λb z=>.inl (sub b z)⟩
 .by_cases hj:i=j;.subst hj;rw[Wv hi]at f;cases f
  .rw[Wd hj]at f;obtain⟨b,g1,g2,g3⟩:=k.own j d' f;exact⟨b,g1,g2.aP λb z=>.inl (sub b z),g3⟩
 .have h1:Z[j]?=some (some (.own d1)):=by
   by_cases hj:i=j;.subst hj;rw[Wv hi]at f1;cases f1
   .rw[Wd hj]at f1;exact f1
  have h2:Z[l]?=some (some (.own d2)):=by
   by_cases hj:i=l;.subst hj;rw[Wv hi]at f2;cases f2
   .rw[Wd hj]at f2;exact f2
  exact k.inj j l b d1 d2 h1 h2
theorem Pm(h:PE X e (eW i)):SE X c e (aa i):=PE.weak h λY H Q⟨Z,k,p⟩=>by unfold aa at p;cases e:Z[i]? with|none=>rw[e]at p;exact p.elim|some o=>cases o with|none=>rw[e]at p;exact p.elim|some r=>rw[e]at p;cases r with|pure d=>obtain⟨v,e1,r⟩:=k.slot i d e;exact⟨v,e1,p v H (.refl k) r⟩|own d=>obtain⟨a,e1,x,r⟩:=k.give e;exact⟨.ref a,e1,p _ H x r⟩
theorem De{i j pos}:SE X c (.Constant (.int i) j pos) (eD (.int i)):=PE.weak MY λY H Q⟨Z,k,p⟩=>p _ H (.refl k) (.int i)
theorem Df{b j pos}:SE X c (.Constant (.bool b) j pos) (eD (.bl b)):=PE.weak wI λY H Q⟨Z,k,p⟩=>p _ H (.refl k) (.bl b)
theorem Dg{j pos}:SE X c (.Constant .none j pos) (eD .ax):=PE.weak MZ λY H Q⟨Z,k,p⟩=>p _ H (.refl k) .ax
theorem Dh{x j pos}(y:Tx)(h:x=toS y:=by decide+kernel):SE X c (.Constant (.str x) j pos) (eD (.str y)):=by subst h;exact PE.weak BL λY H Q⟨Z,k,p⟩=>p _ H (.refl k) (.str y)
theorem Pn{i}(hg:Gl X x)(hm:X.mg x=some (.int i t))(hd:(x==("__debug__":Str))=false:=by decide):SE X c (.Name x pos) (eD (.int i)):=PE.weak (M0 (v:=.int i) hg hm ⟨t,rfl⟩ hd) λY H Q⟨Z,k,p⟩=>p _ H (.refl k) (.int i)
open PySem.SeqAt
mutual noncomputable def aY:D->D->Bool
 |.ax,e=>match e with|.ax=>true|_=>false
 |.bl a,e=>match e with|.bl b=>a==b|.int b=>(if a then 1 else 0)==b|_=>false
 |.int a,e=>match e with|.int b=>a==b|.bl b=>a==if b then 1 else 0|_=>false
 |.str a,e=>match e with|.str b=>a==b|_=>false
 |.tup xs,e=>match e with|.tup ys=>dS xs ys|_=>false
 |.lst xs,e=>match e with|.lst ys=>dS xs ys|_=>false
 |_,_=>false noncomputable def dS:List D->List D->Bool|[],[]=>true|x::xs,y::ys=>aY x y&&dS xs ys|_,_=>false end
mutual noncomputable def flat:Nat->D->Bool|_,.ax=>true|_,.bl _=>true|_,.int _=>true|_,.str _=>true|0,.tup _=>false|n+1,.tup xs=>gX n xs|0,.lst _=>false|n+1,.lst xs=>gX n xs|_,.bV _=>false|_,.exc _ _=>false|_,.xd _=>false|_,.fn _=>false|_,.dic _=>false noncomputable def gX:Nat->List D->Bool|_,[]=>true|n,x::xs=>flat n x&&gX n xs end
theorem mZ:∀{xs:List D}{x:D},gX n xs=true->x∈xs->flat n x=true
 |[],_,_,h=>by simp at h|y::ys,x,h,hm=>by
  simp only[gX,Wq]at h;rcases Wt.mp hm with e|hm;.rw[e];exact h.1
  .exact mZ h.2 hm
theorem t5:∀{xs ys:List D}{f:Nat->Bool},xs.length=ys.length->(∀(j:Nat)x y,xs[j]?=some x->ys[j]?=some y->f j=aY x y)->(WI xs.length).all f=dS xs ys|[],[],f,_,_=>rfl|[],y::ys,f,h,_=>by simp at h|x::xs,[],f,h,_=>by simp at h|x::xs,y::ys,f,h,hf=>by simp only[dS];rw[WT,List.range_succ_eq_map,Uc,hf 0 x y rfl rfl,JK];rw[<-t5 (f:=λj=>f (j+1)) (~~~h) λj a b e1 e2=>hf (j+1) a b (~~~e1) (~~~e2)];rfl
theorem t7:∀{xs ys:List D},xs.length≠ys.length->dS xs ys=false|[],[],h=>absurd rfl h|[],y::ys,_=>rfl|x::xs,[],_=>rfl|x::xs,y::ys,h=>by simp only[dS];rw[t7 (xs:=xs) (ys:=ys) (by intro e;exact h #v[e])];simp
mutual theorem xJ:∀{n:Nat}{d:D},flat n d=true->aY d d=true|_,.ax,_=>rfl|_,.bl b,_=>#v[aY]|_,.int i,_=>#v[aY]|_,.str x,_=>#v[aY]|0,.tup xs,h=>by simp[flat]at h|n+1,.tup xs,h=>by simp only[aY];exact xK (n:=n) (by simpa[flat]using h)|0,.lst xs,h=>by simp[flat]at h|n+1,.lst xs,h=>by simp only[aY];exact xK (n:=n) (by simpa[flat]using h)|_,.bV xs,h=>by simp[flat]at h|_,.exc n _,h=>by simp[flat]at h|_,.xd n,h=>by simp[flat]at h;theorem xK:∀{n:Nat}{ds:List D},gX n ds=true->dS ds ds=true|_,[],_=>rfl|n,x::xs,h=>by simp only[gX,Wq]at h;simp only[dS];rw[xJ h.1,xK h.2];rfl;end
abbrev cT:Addr->Prop:=λj=>False
theorem Rep.un(h:Rep H O v d):Rep H cT v d:=Rep.aP h λj z=>z.elim
theorem c7.un(h:c7 c Y Z H v d):Rep H cT v d:=by
 rcases h with h|⟨a,rfl,o⟩;.exact Rep.un h
 .exact(o.aP (O':=cT) λj z=>z.elim).rep λz=>z
theorem Inv.lV(I:Inv X pins Y H s)(h:Rd H a (.lst vs)):∃its:List Value,Vals vs its/\s.heap.IsList a its.toArray:=by obtain⟨its,r,p,_⟩:=I.list (.inl h);exact⟨its,r,p.isList⟩
theorem Inv.lW(I:Inv X pins Y H s)(h:H a=some (.tup vs)):∃its:List Value,Vals vs its/\s.heap.IsTuple a its.toArray:=by obtain⟨its,r,p,_⟩:=I.tuple (.of h);exact⟨its,r,p⟩
theorem oH(x y:Tx):((toS x:Str)==toS y)=(x==y):=by rw[Qi];simp only[beq_iff_eq];exact⟨ql,λe=>by rw[e]⟩
theorem Po(A:Wp):A.in1.units=A.units+1:=rfl
theorem Rd.inj{u w}(h:Rd H a u)(k:Rd H a w)(hu:∀o z,u≠.frz o z)(hw:∀o z,w≠.frz o z):u=w:=by
 rcases h with h|⟨o,h⟩<;>rcases k with k|⟨o',k⟩;.rw[h]at k;exact WD k
 .rw[h]at k;exact absurd (WD k) (hu _ _)
 .rw[h]at k;exact absurd (WD k).symm (hw _ _)
 .rw[h]at k;have:=WD k;injection this
theorem aH.inj:∀{ds es:List D},vs.length=ds.length->vs.length=es.length->(∀(i:Nat)v d e,vs[i]?=some v->ds[i]?=some d->es[i]?=some e->d=e)->ds=es:=by
 intro ds es h1 h2 h;apply JF;intro i;by_cases hi:i<vs.length
 .have a1:i<ds.length:=by lia
  have a2:i<es.length:=by lia
  rw[W7 a1,W7 a2];rw[h i vs[i] ds[i] es[i] #v[hi] #v[a1] #v[a2]]
 .rw[WQ Y',WQ Y']
theorem Rep.inj{O:Addr->Prop}{d:D}(h:Rep H O v d):∀{n:Nat}{e:D},flat n d=true->flat n e=true->Rep H O v e->d=e:=by induction h with
 |ax=>intro n e _ _ k;cases k;rfl|bl b=>intro n e _ _ k;cases k;rfl|int i=>intro n e _ _ k;cases k;rfl|str x=>intro n e _ _ k;generalize hz:V.str (toS x)=z at k;cases k with|str y=>injection hz with hz;rw[ql hz]|_=>cases hz
 |@tup a vs ds h1 h2 h3 h4 ih=>intro n e fd fe k;cases n with|zero=>simp[flat]at fd|succ n=>simp only[flat]at fd;cases k with|@tup _ ws es k1 k2 k3 k4=>simp only[flat]at fe;have e1:=Rd.inj (.inl h2) (.inl k2) (λj j z=>by cases z) (λj j z=>by cases z);injection e1 with e1;subst e1;rw[aH.inj h3 k3 λi v d e q1 q2 q3=>ih i v d q1 q2 (mZ fd (Wx q2)) (mZ fe (Wx q3)) (k4 i v e q1 q3)]|lst k1 k2=>exact absurd (Rd.inj (.inl h2) k2 (λj j z=>by cases z) λj j z=>by cases z) λz=>by cases z|bV k1 k2=>exact absurd (Rd.inj (.inl h2) (.inl k2) (λj j z=>by cases z) λj j z=>by cases z) λz=>by cases z|exc k1 k2=>simp[flat]at fe|xd k1 k2=>simp[flat]at fe|fn _=>simp[flat]at fe|dic _=>simp[flat]at fe
 |@lst a vs ds h1 h2 h3 h4 ih=>intro n e fd fe k;cases n with|zero=>simp[flat]at fd|succ n=>simp only[flat]at fd;cases k with|@lst _ ws es k1 k2 k3 k4=>simp only[flat]at fe;have e1:=Rd.inj h2 k2 (λj j z=>by cases z) (λj j z=>by cases z);injection e1 with e1;subst e1;rw[aH.inj h3 k3 λi v d e q1 q2 q3=>ih i v d q1 q2 (mZ fd (Wx q2)) (mZ fe (Wx q3)) (k4 i v e q1 q3)]|tup k1 k2=>exact absurd (Rd.inj h2 (.inl k2) (λj j z=>by cases z) λj j z=>by cases z) λz=>by cases z|bV k1 k2=>exact absurd (Rd.inj h2 (.inl k2) (λj j z=>by cases z) λj j z=>by cases z) λz=>by cases z|exc k1 k2=>simp[flat]at fe|xd k1 k2=>simp[flat]at fe|fn _=>simp[flat]at fe|dic _=>simp[flat]at fe
 |bV h1 h2 h3 h4 ih=>intro n e fd _ _;cases n<;>simp[flat]at fd|exc h1 h2=>intro n e fd _ _;cases n<;>simp[flat]at fd|xd h1 h2=>intro n e fd _ _;cases n<;>simp[flat]at fd|fn _=>intro n e fd _ _;cases n<;>simp[flat]at fd|dic h1 h2=>intro n e fd _ _;cases n<;>simp[flat]at fd
def xM(H:Hp)(s:W2)(n:Nat):Prop:=∀(A:Wp)(x y:V)(u w:Value)(d e:D),A.units+n+1<WL->flat n d=true->flat n e=true->Rep H cT x d->Rep H cT y e->RelV x u->RelV y w->EqAt A s u w (aY d e)
def m3(H:Hp)(s:W2)(A:Wp)(n:Nat):Prop:=match n with|0=>True|m+1=>A.units+m+2<WL/\xM H s m
def t8(ds es:List D)(j:Nat):Bool:=match ds[j]?,es[j]? with|some p,some q=>aY p q|_,_=>false
theorem t9{es}(j:Nat)(p q:D)(e1:ds[j]?=some p)(e2:es[j]?=some q):t8 ds es j=aY p q:=by unfold t8;rw[e1,e2]
theorem t_{ws:List V}{es:List D}{gw:List Value}(hu:A.units+n+2<WL)(ih:xM H s n)(r1:Vals vs its)(r2:Vals ws gw)(l1:vs.length=ds.length)(l2:ws.length=es.length)(g1:∀(i:Nat)v d,vs[i]?=some v->ds[i]?=some d->Rep H cT v d)(g2:∀(i:Nat)v d,ws[i]?=some v->es[i]?=some d->Rep H cT v d)(f1:gX n ds=true)(f2:gX n es=true):∀j(h1:j<its.toArray.size)(h2:j<gw.toArray.size),EqAt A.in1 s its.toArray[j] gw.toArray[j] (t8 ds es j):=by
 intro j h1 h2;have e1:=r1.length;have e2:=r2.length;simp at h1 h2;have hd:j<ds.length:=by lia
 have he:j<es.length:=by lia
 have hv:j<vs.length:=by lia
 have hw:j<ws.length:=by lia
 obtain⟨u',hu',ru'⟩:=r1.get (i:=j) (x:=vs[j]) #v[hv];obtain⟨w',hw',rw''⟩:=r2.get (i:=j) (x:=ws[j]) #v[hw];have eu:its.toArray[j]=u':=by simpa[h1]using hu'
 have ew:gw.toArray[j]=w':=by simpa[h2]using hw'
 rw[eu,ew,t9 j ds[j] es[j] #v[hd] #v[he]];exact ih A.in1 vs[j] ws[j] u' w' ds[j] es[j] (by rw[Po];lia) (mZ f1 (QK hd)) (mZ f2 (QK he)) (g1 j _ _ #v[hv] #v[hd]) (g2 j _ _ #v[hw] #v[he]) ru' rw''
theorem Di{m es}(h1:n=ds.length)(h2:m=es.length):((WI (min n m)).all (t8 ds es)&&n==m)=dS ds es:=by
 subst h1 h2;by_cases hl:ds.length=es.length;.rw[<-hl,Nat.min_self,t5 hl t9];simp
 .rw[t7 hl];simp[hl]
theorem Pp{es}(I:Inv X pins Y H s)(n:Nat)(A:Wp)(bB:A.units<WL)(t1:s.heap.IsTuple a its.toArray)(t2:s.heap.IsTuple b gw.toArray)(r1:Vals vs its)(r2:Vals ws gw)(l1:vs.length=ds.length)(l2:ws.length=es.length)(g1:∀(i:Nat)v d,vs[i]?=some v->ds[i]?=some d->Rep H cT v d)(g2:∀(i:Nat)v d,ws[i]?=some v->es[i]?=some d->Rep H cT v d)(f1:flat n (.tup ds)=true)(f2:flat n (.tup es)=true)(ih:m3 H s A n):RcAt A s (.ref a) (.ref b) (dS ds es):=by cases n with|zero=>simp[flat]at f1|succ n=>simp only[flat]at f1 f2;obtain⟨hu,ih⟩:=ih;have q:=RcAt.tuples (A:=A) (s:=s) t1 t2 bB (t_ hu ih r1 r2 l1 l2 g1 g2 f1 f2);rw[Di (by have:=r1.length;simp;lia) (by have:=r2.length;simp;lia)]at q;exact q
theorem Pq{es}(I:Inv X pins Y H s)(n:Nat)(A:Wp)(bB:A.units<WL)(t1:s.heap.IsTuple a its.toArray)(t2:s.heap.IsTuple b gw.toArray)(r1:Vals vs its)(r2:Vals ws gw)(l1:vs.length=ds.length)(l2:ws.length=es.length)(g1:∀(i:Nat)v d,vs[i]?=some v->ds[i]?=some d->Rep H cT v d)(g2:∀(i:Nat)v d,ws[i]?=some v->es[i]?=some d->Rep H cT v d)(f1:flat n (.tup ds)=true)(f2:flat n (.tup es)=true)(ih:m3 H s A n):RcNeAt A s (.ref a) (.ref b) !dS ds es:=by cases n with|zero=>simp[flat]at f1|succ n=>simp only[flat]at f1 f2;obtain⟨hu,ih⟩:=ih;have q:=RcNeAt.tuples (A:=A) (s:=s) t1 t2 bB (t_ hu ih r1 r2 l1 l2 g1 g2 f1 f2);rw[Di (by have:=r1.length;simp;lia) (by have:=r2.length;simp;lia)]at q;exact q
theorem Pr{es}(I:Inv X pins Y H s)(n:Nat)(A:Wp)(bB:A.units<WL)(t1:s.heap.IsList a its.toArray)(t2:s.heap.IsList b gw.toArray)(r1:Vals vs its)(r2:Vals ws gw)(l1:vs.length=ds.length)(l2:ws.length=es.length)(g1:∀(i:Nat)v d,vs[i]?=some v->ds[i]?=some d->Rep H cT v d)(g2:∀(i:Nat)v d,ws[i]?=some v->es[i]?=some d->Rep H cT v d)(f1:flat n (.lst ds)=true)(f2:flat n (.lst es)=true)(ih:m3 H s A n):RcAt A s (.ref a) (.ref b) (dS ds es):=by cases n with|zero=>simp[flat]at f1|succ n=>
 simp only[flat]at f1 f2;obtain⟨hu,ih⟩:=ih;have z1:its.toArray.size=ds.length:=by have:=r1.length;simp;lia
 have z2:gw.toArray.size=es.length:=by have:=r2.length;simp;lia
 by_cases hl:ds.length=es.length;.have q:=RcAt.lists (A:=A) (s:=s) t1 t2 %[z1,z2|hl] bB (t_ hu ih r1 r2 l1 l2 g1 g2 f1 f2);rw[z1,t5 hl t9]at q;exact q
 .rw[t7 hl];exact RcAt.lists_lengths (A:=A) (s:=s) t1 t2 (by rw[z1,z2];simpa using hl) bB
theorem Pu{es}(I:Inv X pins Y H s)(n:Nat)(A:Wp)(bB:A.units<WL)(t1:s.heap.IsList a its.toArray)(t2:s.heap.IsList b gw.toArray)(r1:Vals vs its)(r2:Vals ws gw)(l1:vs.length=ds.length)(l2:ws.length=es.length)(g1:∀(i:Nat)v d,vs[i]?=some v->ds[i]?=some d->Rep H cT v d)(g2:∀(i:Nat)v d,ws[i]?=some v->es[i]?=some d->Rep H cT v d)(f1:flat n (.lst ds)=true)(f2:flat n (.lst es)=true)(ih:m3 H s A n):RcNeAt A s (.ref a) (.ref b) !dS ds es:=by cases n with|zero=>simp[flat]at f1|succ n=>
 simp only[flat]at f1 f2;obtain⟨hu,ih⟩:=ih;have z1:its.toArray.size=ds.length:=by have:=r1.length;simp;lia
 have z2:gw.toArray.size=es.length:=by have:=r2.length;simp;lia
 by_cases hl:ds.length=es.length;.have q:=RcNeAt.lists (A:=A) (s:=s) t1 t2 %[z1,z2|hl] bB (t_ hu ih r1 r2 l1 l2 g1 g2 f1 f2);rw[z1,t5 hl t9]at q;exact q
 .rw[t7 hl];exact RcNeAt.lists_lengths (A:=A) (s:=s) t1 t2 (by rw[z1,z2];simpa using hl) bB
theorem xN(I:Inv X pins Y H s)(n:Nat)(A:Wp)(x y:V)(u w:Value)(d e:D)(bB:A.units<WL)(fd:flat n d=true)(fe:flat n e=true)(ih:m3 H s A n)(rx:Rep H cT x d)(ry:Rep H cT y e)(ru:RelV x u)(bT:RelV y w):RcAt A s u w (aY d e):=by cases rx with
 |tup h1 h2 h3 h4=>cases ru;obtain⟨its1,r1,t1⟩:=Inv.lW I h2;cases ry with|tup k1 k2 k3 k4=>cases bT;obtain⟨its2,r2,t2⟩:=Inv.lW I k2;simp only[aY];exact Pp I n A bB t1 t2 r1 r2 h3 k3 h4 k4 fd fe ih|lst k1 k2 k3 k4=>cases bT;obtain⟨its2,r2,t2⟩:=Inv.lV I k2;simp only[aY];exact RcAt.tuple_list t1 t2 bB|_=>first|(cases n<;>simp[flat]at fe;done)|((first|obtain⟨t2,rfl⟩:=bT|cases bT);simp only[aY];with_reducible first|exact RcAt.tuple_none t1 bB|exact RcAt.tuple_bool _ t1 bB|exact RcAt.tuple_int _ _ t1 bB|exact RcAt.tuple_str _ _ t1 bB)
 |lst h1 h2 h3 h4=>cases ru;obtain⟨its1,r1,t1⟩:=Inv.lV I h2;cases ry with|tup k1 k2 k3 k4=>cases bT;obtain⟨its2,r2,t2⟩:=Inv.lW I k2;simp only[aY];exact RcAt.list_tuple t1 t2 bB|lst k1 k2 k3 k4=>cases bT;obtain⟨its2,r2,t2⟩:=Inv.lV I k2;simp only[aY];exact Pr I n A bB t1 t2 r1 r2 h3 k3 h4 k4 fd fe ih|_=>first|(cases n<;>simp[flat]at fe;done)|((first|obtain⟨t2,rfl⟩:=bT|cases bT);simp only[aY];with_reducible first|exact RcAt.list_none t1 bB|exact RcAt.list_bool _ t1 bB|exact RcAt.list_int _ _ t1 bB|exact RcAt.list_str _ _ t1 bB)
 |_=>
 first|(cases n<;>simp[flat]at fd;done)|skip
 all_goals first|obtain⟨t1,rfl⟩:=ru|cases ru
 all_goals cases ry with
 |tup k1 k2 k3 k4=>cases bT;obtain⟨its2,r2,t2⟩:=Inv.lW I k2;simp only[aY];with_reducible first|exact RcAt.none_tuple t2 bB|exact RcAt.bool_tuple _ t2 bB|exact RcAt.int_tuple _ _ t2 bB|exact RcAt.str_tuple _ _ t2 bB
 |lst k1 k2 k3 k4=>cases bT;obtain⟨its2,r2,t2⟩:=Inv.lV I k2;simp only[aY];with_reducible first|exact RcAt.none_list t2 bB|exact RcAt.bool_list _ t2 bB|exact RcAt.int_list _ _ t2 bB|exact RcAt.str_list _ _ t2 bB
 |_=>first|(cases n<;>simp[flat]at fe;done)|((first|obtain⟨t2,rfl⟩:=bT|cases bT);simp only[aY];with_reducible first|exact RcAt.none_none|exact RcAt.none_bool _|exact RcAt.none_int _ _|exact RcAt.none_str _ _|exact RcAt.bool_none _|exact RcAt.bool_bool _ _|exact RcAt.bool_int _ _ _|exact RcAt.bool_str _ _ _|exact RcAt.int_none _ _|exact RcAt.int_bool _ _ _|exact RcAt.int_int _ _ _ _|exact RcAt.int_str _ _ _ _|exact RcAt.str_none _ _|exact RcAt.str_bool _ _ _|exact RcAt.str_int _ _ _ _|(rw[<-oH];exact RcAt.str_str _ _ _ _))
theorem Pw(I:Inv X pins Y H s)(n:Nat)(A:Wp)(x y:V)(u w:Value)(d e:D)(bB:A.units<WL)(fd:flat n d=true)(fe:flat n e=true)(ih:m3 H s A n)(rx:Rep H cT x d)(ry:Rep H cT y e)(ru:RelV x u)(bT:RelV y w):RcNeAt A s u w !aY d e:=by cases rx with
 |tup h1 h2 h3 h4=>cases ru;obtain⟨its1,r1,t1⟩:=Inv.lW I h2;cases ry with|tup k1 k2 k3 k4=>cases bT;obtain⟨its2,r2,t2⟩:=Inv.lW I k2;simp only[aY];exact Pq I n A bB t1 t2 r1 r2 h3 k3 h4 k4 fd fe ih|lst k1 k2 k3 k4=>cases bT;obtain⟨its2,r2,t2⟩:=Inv.lV I k2;simp only[aY,QW];exact RcNeAt.tuple_list t1 t2 bB|_=>first|(cases n<;>simp[flat]at fe;done)|((first|obtain⟨t2,rfl⟩:=bT|cases bT);simp only[aY,QW,Jz];with_reducible first|exact RcNeAt.tuple_none t1 bB|exact RcNeAt.tuple_bool _ t1 bB|exact RcNeAt.tuple_int _ _ t1 bB|exact RcNeAt.tuple_str _ _ t1 bB)
 |lst h1 h2 h3 h4=>cases ru;obtain⟨its1,r1,t1⟩:=Inv.lV I h2;cases ry with|tup k1 k2 k3 k4=>cases bT;obtain⟨its2,r2,t2⟩:=Inv.lW I k2;simp only[aY,QW];exact RcNeAt.list_tuple t1 t2 bB|lst k1 k2 k3 k4=>cases bT;obtain⟨its2,r2,t2⟩:=Inv.lV I k2;simp only[aY];exact Pu I n A bB t1 t2 r1 r2 h3 k3 h4 k4 fd fe ih|_=>first|(cases n<;>simp[flat]at fe;done)|((first|obtain⟨t2,rfl⟩:=bT|cases bT);simp only[aY,QW,Jz];with_reducible first|exact RcNeAt.list_none t1 bB|exact RcNeAt.list_bool _ t1 bB|exact RcNeAt.list_int _ _ t1 bB|exact RcNeAt.list_str _ _ t1 bB)
 |_=>
 first|(cases n<;>simp[flat]at fd;done)|skip
 all_goals first|obtain⟨t1,rfl⟩:=ru|cases ru
 all_goals cases ry with
 |tup k1 k2 k3 k4=>cases bT;obtain⟨its2,r2,t2⟩:=Inv.lW I k2;simp only[aY,QW,Jz];with_reducible first|exact RcNeAt.none_tuple t2 bB|exact RcNeAt.bool_tuple _ t2 bB|exact RcNeAt.int_tuple _ _ t2 bB|exact RcNeAt.str_tuple _ _ t2 bB
 |lst k1 k2 k3 k4=>cases bT;obtain⟨its2,r2,t2⟩:=Inv.lV I k2;simp only[aY,QW,Jz];with_reducible first|exact RcNeAt.none_list t2 bB|exact RcNeAt.bool_list _ t2 bB|exact RcNeAt.int_list _ _ t2 bB|exact RcNeAt.str_list _ _ t2 bB
 |_=>first|(cases n<;>simp[flat]at fe;done)|((first|obtain⟨t2,rfl⟩:=bT|cases bT);simp only[aY,QW,Jz];with_reducible first|exact RcNeAt.none_none|exact RcNeAt.none_bool _|exact RcNeAt.none_int _ _|exact RcNeAt.none_str _ _|exact RcNeAt.bool_none _|exact RcNeAt.bool_bool _ _|exact RcNeAt.bool_int _ _ _|exact RcNeAt.bool_str _ _ _|exact RcNeAt.int_none _ _|exact RcNeAt.int_bool _ _ _|exact RcNeAt.int_int _ _ _ _|exact RcNeAt.int_str _ _ _ _|exact RcNeAt.str_none _ _|exact RcNeAt.str_bool _ _ _|exact RcNeAt.str_int _ _ _ _|(rw[<-oH];exact RcNeAt.str_str _ _ _ _))
theorem Dj{w}(h:RcAt A s u w k)(hs:u=w->k=true)(hf:∀b t,u≠Value.float b t):EqAt A s u w k:=λprog w' E Q hq=>by
 unfold eqBool;refine WC ?_;refine wpAny_ite_split (λlX=>?_) λj=>?_;.have e:=eq_of_beq lX;rw[hs e]at hq;exact W0 (QC (W4 hq))
 .cases u with|float b t=>exact absurd rfl (hf b t)|_=>exact W0 (h prog w' E _ (Qk hq))
theorem Dk{x}(r:Rep H cT x d)(ru:RelV x u)(b:UInt64)(t:Tok):u≠Value.float b t:=by intro e;subst e;cases r<;>first|(cases ru;done)|(obtain⟨t',e⟩:=ru;cases e)
theorem Px(I:Inv X pins Y H s)(n:Nat):xM H s n:=by induction n with|zero=>intro A x y u w d e hu fd fe rx ry ru bT;refine Dj (xN I 0 A x y u w d e Y' fd fe trivial rx ry ru bT) (λh=>?_) (Dk rx ru);subst h;have:=ru.inj bT;subst this;rw[Rep.inj rx fd fe ry];exact xJ fe|succ n ih=>intro A x y u w d e hu fd fe rx ry ru bT;refine Dj (xN I (n+1) A x y u w d e Y' fd fe ⟨Y',ih⟩ rx ry ru bT) (λh=>?_) (Dk rx ru);subst h;have:=ru.inj bT;subst this;rw[Rep.inj rx fd fe ry];exact xJ fe
theorem xO(I:Inv X pins Y H s):∀n:Nat,A.units+n+1<WL->m3 H s A n|0,_=>trivial|n+1,h=>⟨Y',Px I n⟩
def Dm:R2:=λx y H Q=>∃d e,Rep H cT x d/\Rep H cT y e/\flat 50 d=true/\flat 50 e=true/\Q (.bl (aY d e)) H
def Dn:R2:=λx y H Q=>∃d e,Rep H cT x d/\Rep H cT y e/\flat 50 d=true/\flat 50 e=true/\Q (.bl !aY d e) H
theorem ua(hu:X.A.units+64<WL):br X (WA .Eq) Dm:=by intro pins s Y H x y v u Q I rx ry h;obtain⟨d,e,r1,r2,f1,f2,q⟩:=h;exact xN I 50 X.A x y v u d e Y' f1 f2 (xO I 50 Y') r1 r2 rx ry X.prog X.w X.xe _ ⟨.bl _,H,I,rfl,q⟩
theorem ub(hu:X.A.units+64<WL):br X (WA .NotEq) Dn:=by intro pins s Y H x y v u Q I rx ry h;obtain⟨d,e,r1,r2,f1,f2,q⟩:=h;exact Pw I 50 X.A x y v u d e Y' f1 f2 (xO I 50 Y') r1 r2 rx ry X.prog X.w X.xe _ ⟨.bl _,H,I,rfl,q⟩
def b_{α:Type}(xs:List α)(lo hi:Option Int):List α:=(xs.drop (aU xs.length 0 lo)).take (aU xs.length xs.length hi-aU xs.length 0 lo)
theorem Dp(xs:List V)(lo hi:Option Int):b_ xs lo hi=lQ xs lo hi:=rfl
theorem Dq(xs:List α)(lo hi:Option Int):(b_ xs lo hi).length<=xs.length:=by unfold b_;rw[Jq,List.length_drop];lia
theorem aH.cut(lo hi:Option Int)(h:aH H O vs ds):aH H O (b_ vs lo hi) (b_ ds lo hi):=by unfold b_;rw[h.1];exact aH.take _ (aH.drop _ h)
theorem Py{α:Type}{xs:List α}(h:aU xs.length 0 lo=0/\aU xs.length xs.length hi=xs.length):b_ xs lo hi=xs:=by unfold b_;rw[h.1,h.2];simp
theorem Pz{t:Addr}(ht:IsTup s.heap t items)(hs:s.heap.IsSliceOf sl vl vu .none)(pl:IsPart vl lo)(pu:IsPart vu hi)(hw:aU items.size 0 lo=0/\aU items.size items.size hi=items.size)(h:Q (.ref t) s):W8 (model prog w) A (getItem (.ref t) (.ref sl)) Q E s:=by
 obtain⟨os,hos,hcs,hds⟩:=id hs;have w6:s.TypeIs (.ref sl) "slice":=⟨os,hos,hcs⟩;unfold getItem;try with_reducible refine WC ?_
 first|refine W0 (W4 ?_)|skip
 refine W0 (wpAny_sequenceKey ht.typeIs Z' ?_);refine W0 (Q0 (name:=Str.ofString "__getitem__") ht.typeIs QP (WS QP ht.typeIs entry_tuple_getitem ?_ (args_tuple_getitem _ _)));show W8 _ _ (Builtin.Tuple.tupleItemsOf (.ref t)>>=_) _ _ s;refine W0 (tupleItemsOf_ ht ?_);refine W0 (J5 w6 ?_);rw[if_pos Z'];refine W0 (Cu hs pl pu ?_);show W8 _ _ (if(((aU items.size 0 lo:Nat):Int)==0&&(1:Int)==1&&aU items.size items.size hi-aU items.size 0 lo==items.size)=true then _ else _) _ _ s;rw[hw.1,hw.2];rw[if_pos U'];refine W0 (m:=Builtin.Tuple.tupleIsExact (.ref t)) ?_;unfold Builtin.Tuple.tupleIsExact;refine W0 (J5 ht.typeIs (W4 ?_));rw[if_pos Z'];exact W0 (QC (W0 (W4 (W4 ⟨_,rfl,W4 h⟩))))
def Dr(K:W3):V->Option Int->Option Int->Hp->VK->Prop:=λx lo hi H Q=>∃a xs,x=.ref a/\c9 K H a xs/\((aU xs.length 0 lo=0/\aU xs.length xs.length hi=xs.length)->Q (.ref a) H)/\(¬(aU xs.length 0 lo=0/\aU xs.length xs.length hi=xs.length)->∀p,H p=none->Q (.ref p) (upd H p (.tup (lQ xs lo hi))))
theorem PB:jO X (Dr X.K):=by
 intro pins s Y H x v vl vu lo hi sl Q I rx hs pl pu h;obtain⟨a,xs,rfl,hx,q1,q2⟩:=h;by_cases hw:aU xs.length 0 lo=0/\aU xs.length xs.length hi=xs.length;.cases rx;obtain⟨its,r,ht,hz⟩:=I.tuple hx;have hlen:its.toArray.size=xs.length:=%[Wr|r.length.symm];refine⟨"tuple",_,PyProof.Rows.slot_tuple_getitem.lookup,ht.typeIs,?_⟩;exact Pz ht hs pl pu %[hlen|hw] ⟨.ref a,H,I,rfl,q1 hw⟩
 .exact Og pins s Y H (.ref a) v vl vu lo hi sl Q I rx hs pl pu ⟨a,xs,rfl,hx,hw,q2 hw⟩
theorem PC(a b:Nat):sliceRange (a:Int) (b:Int) 1=(WI (b-a)).map λk=>a+k:=by
 have h0:((1:Int)>0)=True:=by simp
 unfold sliceRange;simp only[h0,if_true];by_cases bc:(a:Int)<(b:Int)
 .rw[if_pos bc];have e3:(((b:Int)-(a:Int)+1-1)/1).toNat=b-a:=by rw[Int.ediv_one];lia
  rw[e3];refine Ju λk j=>?_;lia
 .rw[if_neg bc];have:b-a=0:=by lia
  rw[this];rfl
theorem Ds(lo hi:Option Int)(n:Nat):QH lo hi 1 n=(WI (aU n n hi-aU n 0 lo)).map λk=>aU n 0 lo+k:=by
 have c:∀(i:Int)(d:Nat),max 0 (min (if i<0 then i+(n:Int)else i) (n:Int))=((aU n d (some i):Nat):Int):=by
  intro i d;show max 0 (min (if i<0 then i+(n:Int)else i) (n:Int))=(((if i<0 then(i+(n:Int)).toNat else min i.toNat n):Nat):Int);by_cases hi:i<0;.simp only[if_pos hi];lia
  .simp only[if_neg hi];lia
 have h0:((1:Int)>0)=True:=by simp
 rw[<-PC];unfold QH;simp only[h0,if_true];cases lo with
 |none=>cases hi with|none=>rfl|some j=>show sliceRange 0 (max 0 (min (if j<0 then j+(n:Int)else j) (n:Int))) 1=_;rw[c j n];rfl
 |some i=>cases hi with|none=>show sliceRange (max 0 (min (if i<0 then i+(n:Int)else i) (n:Int))) (n:Int) 1=_;rw[c i 0];rfl|some j=>grind
theorem PF(x:Tx)(lo hi:Option Int):(⟨((QH lo hi 1 (toS x).length).filterMap ((toS x).cps[.]?)).toArray⟩:Str)=toS (b_ x lo hi):=by unfold toS;congr 1;rw[Ds];have:=pick_run x.toArray (aU x.length 0 lo) (aU x.length x.length hi-aU x.length 0 lo);have hl:({cps:=x.toArray}:Str).length=x.length:=#v[Str.length];rw[hl];rw[this];rfl
def Dt:V->Option Int->Option Int->Hp->VK->Prop:=λx lo hi H Q=>∃z:Tx,x=.str (toS z)/\z.length<=Wb/\Q (.str (toS (b_ z lo hi))) H
theorem Du{v}(p:IsPart v o):∃q:Option (Int×Tok),v=partValue q/\q.map (·.1)=o:=by cases p with|none=>exact⟨none,rfl,rfl⟩|int i t=>exact⟨some (i,t),rfl,rfl⟩
theorem PH:jO X Dt:=by
 intro pins s Y H x v vl vu lo hi sl Q I rx hs pl pu h;obtain⟨z,rfl,hz,q⟩:=h;obtain⟨t,rfl⟩:=rx;obtain⟨l,rfl,el⟩:=Du pl;obtain⟨u,rfl,eu⟩:=Du pu;obtain⟨o,ho,hc,hd⟩:=hs;refine⟨"str",_,F.slot_str_getitem.lookup,typeIs_str s _ t,?_⟩;refine wpAny_getItem_str_slice (l:=l) (u:=u) (st:=none) ⟨o,ho,hc,hd⟩ rfl ?_;unfold sliceMade;have e:slicePicked (toS z) l u none=QH lo hi 1 (toS z).length:=by unfold slicePicked;rw[el,eu];rfl
 rw[e];by_cases hw:(((none:Option (Int×Tok)).map (·.1)).getD 1==1&&(QH lo hi 1 (toS z).length).length==(toS z).length)=true
 .rw[if_pos hw];refine⟨.str (toS (b_ z lo hi)),H,I,⟨t,?_⟩,q⟩;congr 1;rw[Wq]at hw;have xP:=eq_of_beq hw.2;rw[Ds,Wa,Jk,lU]at xP;have h1:=wZ z.length 0 (Q5 _) lo;have h2:=wZ z.length z.length (Wc _) hi;unfold b_;congr 1;by_cases h0:z.length=0;.grind
  .have a1:aU z.length 0 lo=0:=by lia
   rw[a1]at xP⊢;rw[xP];simp
 .rw[if_neg hw];show Made.post (.str _) _ _;rw[PF];exact⟨%[lU|Wy (Dq z lo hi) hz],.str (toS (b_ z lo hi)),H,I.tok _,⟨_,rfl⟩,q⟩
theorem PJ:br X (QJ .Add) λx y H Q=>∃a b ys,x=.ref a/\y=.ref b/\c9 X.K H a []/\c9 X.K H b ys/\Q (.ref b) H:=by intro pins s Y H x y v u Q I rx ry h;obtain⟨a,b,ys,rfl,rfl,ha,hb,q⟩:=h;cases rx;cases ry;obtain⟨its,r1,p1,_⟩:=I.tuple ha;obtain⟨its2,r2,p2,_⟩:=I.tuple hb;cases r1;obtain⟨⟨cls,dd,data,sl⟩,ho,hc,n,hd⟩:=id p1;obtain⟨⟨cls2,mR,data2,lP⟩,ho2,hc2,n2,hd2⟩:=id p2;simp only at hc hd hc2 hd2;subst hc hd hc2 hd2;exact concat_meets ⟨_,ho,rfl⟩ ⟨_,ho2,rfl⟩ noFill_tuple_add seq_tuple_add PySem.F.slot_tuple_add PySem.F.entry_tuple_add (PySem.F.args_tuple_add_2 _ _) (tuple_addW0 a b #[] its2.toArray n n2 dd mR sl lP rfl) ⟨ho,ho2,.ref b,H,I,rfl,q⟩
def Dv(K:W3):R2:=λx y H Q=>∃l b xs zs,x=.ref l/\y=.ref b/\cP K H l xs/\cP K H b zs/\xs.length+zs.length<=Wb/\∀p,H p=none->Q (.ref p) (upd H p (.lst (xs++zs)))
theorem PL:br X (QJ .Add) (Dv X.K):=by
 intro pins s Y H x y v u Q I rx ry h;obtain⟨l,b,xs,zs,rfl,rfl,hH,hB,hz,q⟩:=h;cases rx;cases ry;obtain⟨its,r,⟨⟨cls,dd,data,sl⟩,n,e,hc,iQ,hd⟩,z⟩:=I.list hH;obtain⟨its2,r2,⟨⟨cls2,mR,data2,lP⟩,n2,e2,hc2,hdd2,hd2⟩,z2⟩:=I.list hB;simp only at hc hd iQ hc2 hd2 hdd2;subst hc hd iQ hc2 hd2 hdd2;have hl:=r.length;have m4:=r2.length;refine concat_meets ⟨_,e,rfl⟩ ⟨_,e2,rfl⟩ noFill_list_add seq_list_add PySem.F.slot_list_add PySem.F.entry_list_add (PySem.F.args_list_add_2 _ _) (list_addW l b its.toArray its2.toArray n n2 none none sl lP (by rw[Wr,Wr];lia)) ⟨e,e2,?_⟩;have ea:its.toArray++its2.toArray=(its++its2).toArray:=by simp
 rw[ea];exact⟨.ref _,_,I.CL (t':=s.toks) (r.append r2) (by rw[Q6];lia),rfl,q _ I.fresh⟩
theorem xQ:∀{ys:List Str}{us:List Value},Vals (ys.map V.str) us->StrsAre us ys|[],us,r=>by cases r;exact .nil|y::ys,us,r=>by cases r with|cons r1 r2=>obtain⟨t,rfl⟩:=r1;exact .cons y t (xQ r2)
def uc(K:W3):V->List V->Hp->VK->Prop:=λx vs H Q=>∃(z:Str)(a:Addr)(ys:List Str),x=.str z/\vs=[.ref a]/\(cP K H a (ys.map V.str)\/c9 K H a (ys.map V.str))/\(ys.map (·.length)).sum+ys.length*z.length<=16777216/\Q (.str (Txt.join z ys)) H
theorem PM:qb X "str.join" (uc X.K):=by
 intro pins s Y H x vs v us Q I rx rv h;obtain⟨z,a,ys,rfl,rfl,hq,hz,q⟩:=h;obtain⟨t,rfl⟩:=rx;obtain⟨u,rfl,ru⟩:=(Vals.one rv);cases ru;rcases hq with hq|hq;.obtain⟨its,r,p,_⟩:=I.list hq;exact join_list p.isList (by simpa using xQ r) hz λt' k=>⟨.str _,H,I.tok _,⟨t',rfl⟩,q⟩
 .obtain⟨its,r,p,_⟩:=I.tuple hq;exact join_tuple p (by simpa using xQ r) hz λt' k=>⟨.str _,H,I.tok _,⟨t',rfl⟩,q⟩
theorem Dw:∀{bs:List Bool}{us:List Value},Vals (bs.map V.bl) us->∀(i:Nat)v,us[i]?=some v->∃b,bs[i]?=some b/\v=.bool b|[],us,r,i,v,e=>by cases r;simp at e|b::bs,us,r,i,v,e=>by cases r with|cons r1 r2=>cases i with|zero=>simp at e;subst e;exact⟨b,rfl,r1⟩|succ i=>exact Dw r2 i v (~~~e)
theorem Dx:∀bs:List Bool,((WI bs.length).all λi=>bs[i]?.getD true)=bs.all id|[]=>rfl|b::bs=>by rw[WT,List.range_succ_eq_map,Uc,JK];have:=Dx bs;simp only[List.getElem?_cons_zero,Option.getD_some,Uc,id];rw[<-this];rfl
theorem PN(hc:X.calm=true):eF X (.builtin "all") λxs H Q=>∃(a:Addr)(bs:List Bool),xs=[.ref a]/\cP X.K H a (bs.map V.bl)/\Q (.bl (bs.all λb=>b)) H:=by
 intro pins s Y H xs us Q I r h;obtain⟨a,bs,rfl,hq,q⟩:=h;obtain⟨u,rfl,ru⟩:=f9 r;cases ru;obtain⟨its,r',p,_⟩:=I.list hq;have hl:=p.isList;have bc:a<s.heap.objs.size:=by obtain⟨_,e,_⟩:=hl;exact Wh e
 have hlen:=r'.length;rw[Wa]at hlen;refine call_all_walk (JG hl ?_);refine⟨s.heap.objs.size,[s.heap.objs.size,a],[s.heap.objs.size],its.toArray.size,_,_,λi=>bs[i]?.getD true,rfl,Walks.list (A:=X.A.in1) (I.ok.hd hc) _ a (WG bc) its.toArray,⟨⟨_,Wf _ rfl,rfl,rfl⟩,hl.push _⟩,λi v s' Q' E' hP hQ=>?_,λh' tk hk=>?_⟩;.obtain⟨b,e,rfl⟩:=Dw r' i v (~~~hP);simp only[e,Option.getD_some]at hQ;exact Qk hQ
 .have e:((WI its.toArray.size).all λi=>bs[i]?.getD true)=bs.all id:=by rw[Wr,<-hlen];exact Dx bs
  rw[e];exact⟨.bl _,H,I.kept λb o e=>hk b o (λhm=>by rw[QN.mp hm]at e;exact Qd _ (Wh e)) (W5 _ e),rfl,q⟩
noncomputable def p2(p:D->D->Option S)(x y:D)(Z:Dl):Rs S:=match p x y with|some s=>.ok s Z|none=>.stuck
def ar(p:D->D->Option S)(fa:DE)(fb:BE):DE:=λZ=>(fa Z).bind λx W'=>(fb W').bind λy SZ=>p2 p x.d y SZ
def ck(p:D->D->Option S)(i:Nat)(fb:BE):DE:=λZ=>(fb Z).bind λy W'=>(au i W').bind λx SZ=>p2 p x y SZ
def bW(r:R2)(p:D->D->Option S):Prop:=∀(c:Fc)(Y:St)(Z:Dl)(H:Hp)(x y:V)(d e:D)(s:S)(Q:VK),Ok c Y Z H->c7 c Y Z H x d->c7 c Y Z H y e->p d e=some s->(∀v H',aG c Y Z H Y Z H'->aS c Y Z H H' v s->Q v H')->r x y H Q
section
variable{a b:Expr}{r:R2}{p:D->D->Option S}
theorem qp{x e Q}(hp:bW r p)(k:Ok c Y Z H)(rx:c7 c Y Z H x d)(ry:c7 c Y Z H y e)(h:post c (p2 p d e Z) λs S'=>∀v H',aG c Y Z H Y S' H'->aS c Y S' H H' v s->Q v H'):r x y H Q:=by unfold p2 at h;cases e1:p d e with|none=>rw[e1]at h;exact h.elim|some s=>rw[e1]at h;exact hp c Y Z H x y d e s Q k rx ry e1 h
theorem ud{Q}(hp:bW r p)(h:tD c (ar p fa fb) Y H Q):mP r (tD c fa) (UF c fb) Y H Q:=by obtain⟨Z,k,q⟩:=h;refine⟨Z,k,?_⟩;unfold ar at q;rw[bh]at q;refine aQ q λx W' q1 v H1 a1 r1=>⟨W',a1.ok,?_⟩;rw[bh]at q1;refine aQ q1 λy SZ q2 u H2 a2 r2=>?_;exact qp hp a2.ok (.inl (Rep.dg r1.rep a2)) r2 (aQ q2 λs SC q3 v' H3 a3 r3=>q3 v' H3 (a1.trans (a2.trans a3)) (aS.back r3 (a1.trans a2)))
theorem PQ{Q}(hp:bW r p)(h:tD c (ck p i fb) Y H Q)(hv:∀Z,Ok c Y Z H->post c (fb Z) (λj j=>True)->∃v,Y[i]?=some (some v)):mP r (eW i) (UF c fb) Y H Q:=by obtain⟨Z,k,q⟩:=h;unfold ck at q;rw[bh]at q;obtain⟨v,ev⟩:=hv Z k (aQ q λj j j=>trivial);refine⟨v,ev,Z,k,aQ q λy W' q1 u H1 a1 r1=>?_⟩;rw[bh]at q1;unfold au at q1;cases e:W'[i]? with|none=>rw[e]at q1;exact q1.elim|some o=>cases o with|none=>rw[e]at q1;exact q1.elim|some w=>
 rw[e]at q1;have xR:post c (p2 p w.d y W') λs S'=>∀v H',aG c Y Z H Y S' H'->aS c Y S' H H' v s->Q v H':=q1;have rb:c7 c Y W' H1 v w.d:=by cases w with|pure d=>obtain⟨v',e1,r⟩:=a1.ok.slot i d e;rw[ev]at e1;cases e1;exact .inl r|own d=>obtain⟨a,e1,r,_⟩:=a1.ok.own i d e;rw[ev]at e1;cases e1;exact .inr ⟨a,rfl,r⟩
 exact qp hp a1.ok rb r1 (aQ xR λs SC q3 v' H3 a3 r3=>q3 v' H3 (a1.trans a3) (aS.back r3 a1))
theorem oI(k:Ok c Y Z H){w:S}(e:Z[i]?=some (some w)):∃v,Y[i]?=some (some v):=by cases w with|pure d=>obtain⟨v,e1,_⟩:=k.slot i d e;exact⟨v,e1⟩|own d=>obtain⟨a,e1,_⟩:=k.own i d e;exact⟨_,e1⟩
end
noncomputable def aj(p:D->D->Option S)(i:Nat)(fb:BE):DE:=λZ=>match Z[i]? with|some (some _)=>ck p i fb Z|_=>.stuck
section
variable{a b:Expr}{r:R2}{p:D->D->Option S}
theorem ue(hp:bW r p){Q:VK}(h:tD c (aj p i fb) Y H Q):mP r (eW i) (UF c fb) Y H Q:=by obtain⟨Z,k,q⟩:=h;unfold aj at q;cases e:Z[i]? with|none=>rw[e]at q;exact q.elim|some o=>cases o with|none=>rw[e]at q;exact q.elim|some w=>rw[e]at q;obtain⟨v,ev⟩:=oI k e;exact PQ hp (i:=i) ⟨Z,k,q⟩ λj j j=>⟨v,ev⟩
theorem oJ{op:Operator}(ho:br X (QJ op) r)(hp:bW r p)(ha:SE X c a fa)(hb:SB X c b fb):SE X c (.BinOp a op b pos) (ar p fa fb):=PE.weak (B6 ho ha hb) λj j j h=>ud hp h
theorem uf{op:Operator}(ho:br X (QJ op) r)(hp:bW r p)(ha:PE X a (eW i))(hb:SB X c b fb):SE X c (.BinOp a op b pos) (aj p i fb):=PE.weak (B6 ho ha hb) λj j j h=>ue hp h
theorem lY(ho:br X (WA op) r)(hp:bW r p)(ha:SE X c a fa)(hb:SB X c b fb)(hm:JR op b=false):SE X c (.Compare a [op] [b] pos) (ar p fa fb):=PE.weak (Cb ho ha hb hm) λj j j h=>ud hp h
theorem qq(ho:br X (WA op) r)(hp:bW r p)(ha:PE X a (eW i))(hb:SB X c b fb)(hm:JR op b=false):SE X c (.Compare a [op] [b] pos) (aj p i fb):=PE.weak (Cb ho ha hb hm) λj j j h=>ue hp h
theorem Dy(hr:ie X r)(hp:bW r p)(ha:SE X c a fa)(hb:SB X c b fb)(hs:xa b):SE X c (.Subscript a b pos) (ar p fa fb):=PE.weak (CA hr ha hb hs) λj j j h=>ud hp h
theorem Dz(hr:ie X r)(hp:bW r p)(ha:PE X a (eW i))(hb:SB X c b fb)(hs:xa b):SE X c (.Subscript a b pos) (aj p i fb):=PE.weak (CA hr ha hb hs) λj j j h=>ue hp h
end
abbrev DT:=Dl->Rs Bool
def tT(c:Fc)(f:DT):TT:=λY H Q=>∃Z,Ok c Y Z H/\post c (f Z) λb S'=>∀H',aG c Y Z H Y S' H'->Q b H'
abbrev ST(X:Cx)(c:Fc)(e:Expr)(f:DT):Prop:=PT X e (tT c f)
theorem PT.weak{t'}(h:PT X e t)(w:∀Y H Q,t' Y H Q->t Y H Q):PT X e t':=λpins s Y H Q I q=>h pins s Y H Q I (w Y H Q q)
def aD(f:DE):DT:=λZ=>(f Z).bind λr S'=>match r with|.pure (.bl b)=>.ok b S'|_=>.stuck
section
variable{a b:Expr}{f:DE}{r:R2}{p:D->D->Option S}
set_option tactic.hygienic true in theorem ug{Q}(h:tT c (aD f) Y H Q):tD c f Y H λx H'=>∃k,x=.bl k/\Q k H':=by obtain⟨Z,k,q⟩:=h;refine⟨Z,k,?_⟩;unfold aD at q;rw[bh]at q;refine aQ q λr W' q1 v H1 a1 r1=>?_;cases r with|own d=>exact q1.elim|pure d=>
 cases d<;>first|exact q1.elim|skip
 rename_i b;cases r1;exact⟨b,rfl,q1 H1 a1⟩
theorem kL(ho:br X (WA op) r)(hp:bW r p)(ha:SE X c a fa)(hb:SB X c b fb)(hm:JR op b=false):ST X c (.Compare a [op] [b] pos) (aD (ar p fa fb)):=PT.weak (Cd ho ha hb hm) λY H Q h=>ud hp (ug h)
theorem qr(ho:br X (WA op) r)(hp:bW r p)(ha:PE X a (eW i))(hb:SB X c b fb)(hm:JR op b=false):ST X c (.Compare a [op] [b] pos) (aD (aj p i fb)):=PT.weak (Cd ho ha hb hm) λY H Q h=>ue hp (ug h)
theorem PR(h:SE X c e f)(he:∀whole,isTrue e X.env whole=(do let v<-whole;standAt e.pos;holding [v] (truthy v)):=by intro _;rfl):ST X c e (aD f):=PT.weak (M1 h he) λY H Q h=>ug h
def xS(t u:DT):DT:=λZ=>(t Z).bind λb W'=>if b then u W' else .ok false W'
def dz(t u:DT):DT:=λZ=>(t Z).bind λb W'=>if b then .ok true W' else u W'
def cU(t:DT):DT:=λZ=>(t Z).bind λb W'=>.ok (!b) W'
abbrev SW(X:Cx)(c:Fc)(e:Expr)(f:DT):Prop:=PW X e (tT c f)
theorem PW.weak{t'}(h:PW X e t)(w:∀Y H Q,t' Y H Q->t Y H Q):PW X e t':=λwh pins s Y H Q I q=>h wh pins s Y H Q I (w Y H Q q)
variable{t u:DT}{rest:List Expr}
theorem PX(ha:ST X c a t):SW X c (.BoolOp .Or [a] pos) t:=M5 ha
theorem PY(ha:ST X c a t)(hb:SW X c (.BoolOp .Or (b::rest) pos) u):SW X c (.BoolOp .Or (a::b::rest) pos) (dz t u):=PW.weak (pw_or ha hb) λY H Q⟨Z,k,q⟩=>by unfold dz at q;rw[bh]at q;refine⟨Z,k,aQ q λx W' q1 H1 a1=>?_⟩;cases x with|false=>exact⟨W',a1.ok,aQ q1 λy SZ q2 H2 a2=>q2 H2 (a1.trans a2)⟩|true=>exact q1 H1 a1
theorem PZ(h:SW X c a t):ST X c a t:=PW.pt h
theorem P0(ha:ST X c a t):ST X c (.UnaryOp .Not a pos) (cU t):=PT.weak (M6 ha) λY H Q⟨Z,k,q⟩=>by unfold cU at q;rw[bh]at q;exact⟨Z,k,q⟩
def lZ(f g:DE):DE:=λZ=>(f Z).bind λr W'=>match r with|.pure (.bl true)=>g W'|.pure (.bl false)=>.ok (.pure (.bl false)) W'|_=>.stuck
def P5(t:DT)(f g:DE):DE:=λZ=>(t Z).bind λb W'=>if b then f W' else g W'
variable{g:DE}
theorem P_{op}(h:SE X c a f):SE X c (.BoolOp op [a] pos) f:=M8 h
set_option tactic.hygienic true in theorem Q_(ha:SE X c a f)(hb:SE X c (.BoolOp .And (b::rest) pos) g):SE X c (.BoolOp .And (a::b::rest) pos) (lZ f g):=PE.weak (M9 ha hb) λY H Q⟨Z,k,q⟩=>by unfold lZ at q;rw[bh]at q;refine⟨Z,k,aQ q λr W' q1 v H1 a1 r1=>?_⟩;cases r with|own d=>exact q1.elim|pure d=>
 cases d<;>first|exact q1.elim|skip
 rename_i b;cases r1;refine⟨b,rfl,?_⟩;cases b with|true=>exact⟨W',a1.ok,aQ q1 λy SZ q2 v H2 a2 r2=>q2 v H2 (a1.trans a2) (aS.back r2 a1)⟩|false=>exact q1 _ H1 a1 (.bl false)
def jR(p p':D->D->Option S)(fa:DE)(fb:DE)(fc:BE):DE:=λZ=>(fa Z).bind λx W'=>(fb W').bind λy SZ=>(p2 p x.d y.d SZ).bind λz SC=>match z with|.pure (.bl true)=>(fc SC).bind λw PP=>p2 p' y.d w PP|.pure (.bl false)=>.ok (.pure (.bl false)) SC|_=>.stuck
set_option tactic.hygienic true in theorem DC{fb:DE}(hp:bW r p)(cm:bW r' p'){Q:VK}(h:tD c (jR p p' fa fb fc) Y H Q):wN r r' (tD c fa) (tD c fb) (UF c fc) Y H Q:=by obtain⟨Z,k,q⟩:=h;unfold jR at q;rw[bh]at q;refine⟨Z,k,aQ q λx W' q1 v H1 a1 r1=>⟨W',a1.ok,?_⟩⟩;rw[bh]at q1;refine aQ q1 λy SZ q2 u H2 a2 r2=>?_;rw[bh]at q2;refine qp hp a2.ok (.inl (Rep.dg r1.rep a2)) (.inl r2.rep) (aQ q2 λs SC q3 v' H3 a3 r3=>?_);cases s with|own d=>exact q3.elim|pure d=>
 cases d<;>first|exact q3.elim|skip
 rename_i b;cases r3;refine⟨b,rfl,?_⟩;cases b with|false=>exact q3 _ H3 (a1.trans (a2.trans a3)) (.bl false)|true=>rw[if_pos rfl];have DH:post c ((fc SC).bind λw PP=>p2 p' y.d w PP) λr S'=>∀v H',aG c Y Z H Y S' H'->aS c Y S' H H' v r->Q v H':=q3;rw[bh]at DH;refine⟨SC,a3.ok,aQ DH λw PP q4 v4 H4 a4 r4=>?_⟩;exact qp cm a4.ok (.inl (Rep.dg r2.rep (a3.trans a4))) r4 (aQ q4 λs5 KM q5 v5 H5 a5 r5=>q5 v5 H5 (a1.trans (a2.trans (a3.trans (a4.trans a5)))) (aS.back r5 (a1.trans (a2.trans (a3.trans a4)))))
theorem Ra{fb:DE}(ho:br X (WA op) r)(gI:br X (WA h_) r')(hp:bW r p)(cm:bW r' p')(ha:SE X c a fa)(hb:SE X c b fb)(he:SB X c e fc)(hm:lastMarks [op,h_] [b,e]=false:=by with_unfolding_all rfl):SE X c (.Compare a [op,h_] [b,e] pos) (jR p p' fa fb fc):=PE.weak (NT ho gI ha hb he hm) λj j j h=>DC hp cm h
theorem Rb{fb:DE}(ho:br X (WA op) r)(gI:br X (WA h_) r')(hp:bW r p)(cm:bW r' p')(ha:SE X c a fa)(hb:SE X c b fb)(he:SB X c e fc)(hm:lastMarks [op,h_] [b,e]=false:=by with_unfolding_all rfl):ST X c (.Compare a [op,h_] [b,e] pos) (aD (jR p p' fa fb fc)):=PT.weak (NU ho gI ha hb he hm) λj j j h=>DC hp cm (ug h)
end
section
variable{x:V}
theorem c7.int{i}(h:c7 c Y Z H x (.int i)):x=.int i:=by
 rcases h with h|⟨_,_,h⟩;.cases h;rfl
 .exact h.elim
theorem c7.bl(h:c7 c Y Z H x (.bl b)):x=.bl b:=by
 rcases h with h|⟨_,_,h⟩;.cases h;rfl
 .exact h.elim
theorem c7.str(h:c7 c Y Z H x (.str z)):x=.str (toS z):=by
 rcases h with h|⟨_,_,h⟩;.cases h;rfl
 .exact h.elim
theorem c7.tup{c Y Z H x ds}(h:c7 c Y Z H x (.tup ds)):∃a vs,x=.ref a/\H a=some (.tup vs)/\aH H (Av c Y Z) vs ds:=by
 rcases h with h|⟨_,_,h⟩;.cases h with|tup h1 h2 h3 h4=>exact⟨_,_,rfl,h2,h3,h4⟩
 .exact h.elim
theorem c7.lst{c Y Z H x ds}(h:c7 c Y Z H x (.lst ds)):∃a vs,x=.ref a/\Rd H a (.lst vs)/\aH H (Av c Y Z) vs ds:=by
 rcases h with h|⟨a,e,h⟩;.cases h with|lst h1 h2 h3 h4=>exact⟨_,_,rfl,h2,h3,h4⟩
 .obtain⟨vs,h1,h2⟩:=h;exact⟨a,vs,e,.inl h1,h2⟩
theorem c7.bV{ds}(h:c7 c Y Z H x (.bV ds)):∃a ws,x=.ref a/\H a=some (.dK ws)/\ws.map (·.1)=ds.map (λp=>eJ p.1)/\∀(i:Nat)p q,ws[i]?=some p->ds[i]?=some q->Rep H (Av c Y Z) p.2 q.2:=by
 rcases h with h|⟨a,e,h⟩;.cases h with|bV h1 h2 h3 h4=>exact⟨_,_,rfl,h2,h3,h4⟩
 .obtain⟨ws,h1,h2,h3⟩:=h;exact⟨a,ws,e,h1,h2,h3⟩
end
theorem DJ(h:z.length<=Wb):(toS z).length<=Wb:=%[lU|h]
theorem Rc(x y:Tx):toS x++toS y=toS (x++y):=by show Str.append (toS x) (toS y)=_;simp[toS,Str.append]
noncomputable def a_(d e:D):Option S:=match d with
 |.int i=>match e with|.int j=>some (.pure (.int (i+j)))|_=>none
 |.str x=>match e with|.str y=>if x.length+y.length<=Wb then some (.pure (.str (x++y)))else none|_=>none
 |.tup xs=>match e with|.tup ys=>if xs.length+ys.length<=Wb then some (.pure (.tup (xs++ys)))else none|_=>none
 |.lst xs=>match e with|.lst ys=>if xs.length+ys.length<=Wb then some (.own (.lst (xs++ys)))else none|_=>none
 |_=>none
def DK(K:W3):R2:=λx y H Q=>iL (λi j=>V.int (i+j)) x y H Q\/(∃i j,x=.str i/\y=.str j/\i.length+j.length<=Wb/\Q (.str (i++j)) H)\/(∃a b ys,x=.ref a/\y=.ref b/\c9 K H a []/\c9 K H b ys/\Q (.ref b) H)\/Cy K x y H Q\/Dv K x y H Q
theorem DL:br X (QJ .Add) (DK X.K):=NI.or (NV.or (PJ.or (Oh.or PL)))
set_option tactic.hygienic true in theorem DM:bW (DK K) a_:=by
 intro c Y Z H x y d e s Q k rx ry hp q;cases d<;>cases e<;>first|(simp[a_]at hp;done)|skip
 .rename_i i j;simp only[a_,We]at hp;subst hp;exact .inl ⟨i,j,rx.int,ry.int,q _ H (.refl k) (.int _)⟩
 .rename_i u w;simp only[a_]at hp;split at hp;.rename_i hz;simp only[We]at hp;subst hp;refine .inr (.inl ⟨toS u,toS w,rx.str,ry.str,%[lU,lU|hz],?_⟩);rw[Rc];exact q _ H (.refl k) (.str _)
  .cases hp
 .rename_i us ws;simp only[a_]at hp;split at hp
  .rename_i hz;simp only[We]at hp;subst hp;obtain⟨a,vs,ea,ha,ra⟩:=rx.tup;obtain⟨b,zs,eb,hb,rb⟩:=ry.tup
   cases vs with|nil=>
    have:us=[]:=by have:=ra.1;simpa using this.symm
    subst this;refine .inr (.inr (.inl ⟨a,b,zs,ea,eb,.of ha,.of hb,?_⟩));rw[eb]at ry;rcases ry with ry|⟨_,_,ry⟩;.exact q _ H (.refl k) ry
    .exact ry.elim|cons v0 vr=>
    refine .inr (.inr (.inr (.inl ⟨a,b,_,zs,ea,eb,.of ha,.of hb,U',%[ra.1,rb.1|hz],λe0=>?_,λ_ p hp=>?_⟩)))
    .subst e0;have:ws=[]:=by have:=rb.1;simpa using this.symm
     subst this;rw[ea]at rx;rcases rx with rx|⟨_,_,rx⟩;.rw[WU]at q;exact q _ H (.refl k) rx
     .exact rx.elim
    .exact q _ _ (.alloc k hp _) (aS.qo k (ra.append rb) hp)
  .cases hp
 .rename_i us ws;simp only[a_]at hp;split at hp;.rename_i hz;simp only[We]at hp;subst hp;obtain⟨a,vs,ea,ha,ra⟩:=rx.lst;obtain⟨b,zs,eb,hb,rb⟩:=ry.lst;exact .inr (.inr (.inr (.inr ⟨a,b,vs,zs,ea,eb,.inl ha,.inl hb,%[ra.1,rb.1|hz],λp hp=>q _ _ (.alloc k hp _) (aS.mY k (ra.append rb) hp)⟩)))
  .cases hp
noncomputable def gx(C:Int->Int->Bool)(g:Int->Int->D):D->D->Option S|.int i,.int j=>if C i j then some (.pure (g i j))else none|_,_=>none
set_option tactic.hygienic true in theorem uh{C g'}(hC:∀i j,C' i j=true->C i j)(hg:∀i j H O,Rep H O (g i j) (g' i j)):bW (rI C g) (gx C' g'):=by
 intro c Y Z H x y d e s Q k rx ry hp q;cases d<;>cases e<;>first|(simp[gx]at hp;done)|skip
 rename_i i j;simp only[gx]at hp;split at hp;.rename_i hc;simp only[We]at hp;subst hp;exact⟨i,j,rx.int,ry.int,hC i j hc,q _ H (.refl k) (hg i j H _)⟩
 .cases hp
set_option tactic.hygienic true in theorem Rf{g'}(hg:∀i j H O,Rep H O (g i j) (g' i j)):bW (iL g) (gx (λ_ _=>true) g'):=by
 intro c Y Z H x y d e s Q k rx ry hp q;cases d<;>cases e<;>first|(simp[gx]at hp;done)|skip
 rename_i i j;simp only[gx,if_true,We]at hp;subst hp;exact⟨i,j,rx.int,ry.int,q _ H (.refl k) (hg i j H _)⟩
def m5:=gx (λk k=>true) λi j=>.int (i-j)
theorem Rh:bW (iL λi j=>V.int (i-j)) m5:=Rf λk k k k=>.int _
def l7(i j:Int):Bool:=decide (-2^64<i)&&decide (i<2^64)||decide (-2^64<j)&&decide (j<2^64)
def cG:=gx l7 λi j=>.int (i*j)
theorem DO:bW (rI pZ λi j=>V.int (i*j)) cG:=uh (λi j h=>by unfold l7 at h;simp only[Bool.or_eq_true,Wq,decide_eq_true_eq]at h;exact h) λk k k k=>.int _
def l8(_ j:Int):Bool:=decide (0<j)&&decide (j<1073741824)
def ig:=gx l8 λi j=>.int (i/j)
theorem DP:bW (rI B8 λi j=>V.int (i/j)) ig:=uh (λi j h=>by unfold l8 at h;simp only[Wq,decide_eq_true_eq]at h;exact h) λk k k k=>.int _
def iR:=gx (λk j=>decide (0<j)) λi j=>.int (i%j)
theorem DQ:bW (rI (λk j=>0<j) λi j=>V.int (i%j)) iR:=uh (λi j h=>~~~h) λk k k k=>.int _
def xT(i j:Int):Bool:=decide (0<=j)&&decide (j<=1000000)&&decide (i.natAbs<2^64)
def ui:=gx xT λi j=>.int (i^j.toNat)
theorem Ri:bW (rI B9 λi j=>V.int (i^j.toNat)) ui:=uh (λi j h=>by unfold xT at h;simp only[Wq,decide_eq_true_eq]at h;exact⟨h.1.1,h.1.2,h.2⟩) λk k k k=>.int _
noncomputable def bz(d e:D):Option S:=if flat 50 d&&flat 50 e then some (.pure (.bl (aY d e)))else none
noncomputable def eK(d e:D):Option S:=if flat 50 d&&flat 50 e then some (.pure (.bl !aY d e))else none
set_option tactic.hygienic true in theorem uj:bW Dm bz:=by
 intro c Y Z H x y d e s Q k rx ry hp q;unfold bz at hp;split at hp;.rename_i hf;rw[Wq]at hf;simp only[We]at hp;subst hp;exact⟨d,e,rx.un,ry.un,hf.1,hf.2,q _ H (.refl k) (.bl _)⟩
 .cases hp
set_option tactic.hygienic true in theorem uk:bW Dn eK:=by
 intro c Y Z H x y d e s Q k rx ry hp q;unfold eK at hp;split at hp;.rename_i hf;rw[Wq]at hf;simp only[We]at hp;subst hp;exact⟨d,e,rx.un,ry.un,hf.1,hf.2,q _ H (.refl k) (.bl _)⟩
 .cases hp
noncomputable def jl(f:Int->Int->Bool)(g:Tx->Tx->Bool):D->D->Option S|.int i,.int j=>some (.pure (.bl (f i j)))|.str x,.str y=>some (.pure (.bl (g x y)))|_,_=>none
def oK(f:Int->Int->Bool)(g:List Nat->List Nat->Bool):R2:=λx y H Q=>iL (λi j=>V.bl (f i j)) x y H Q\/∃i j,x=.str i/\y=.str j/\Q (.bl (g i.cps.toList j.cps.toList)) H
set_option tactic.hygienic true in theorem jS{f}:bW (oK f g) (jl f g):=by
 intro c Y Z H x y d e s Q k rx ry hp q;cases d<;>cases e<;>first|(simp[jl]at hp;done)|skip
 .rename_i i j;simp only[jl,We]at hp;subst hp;exact .inl ⟨i,j,rx.int,ry.int,q _ H (.refl k) (.bl _)⟩
 .rename_i i j;simp only[jl,We]at hp;subst hp;refine .inr ⟨toS i,toS j,rx.str,ry.str,?_⟩;rw[kJ,kJ];exact q _ H (.refl k) (.bl _)
theorem xU{g:List Nat->List Nat->Bool}(rule:∀(i j:Str)(t u:Tok)(Q:Value->W2->Prop)(s:W2),Q (.bool (g i.cps.toList j.cps.toList)) s->W8 (model X.prog X.w) X.A (WA op (.str i t) (.str j u)) Q X.xe s):br X (WA op) λx y H Q=>∃i j,x=.str i/\y=.str j/\Q (.bl (g i.cps.toList j.cps.toList)) H:=by intro pins s Y H x y v u Q I rx ry h;obtain⟨i,j,rfl,rfl,q⟩:=h;obtain⟨t,rfl⟩:=rx;obtain⟨t',rfl⟩:=ry;exact rule i j t t' _ s ⟨.bl _,H,I,rfl,q⟩
def gL:=jl (λi j=>decide (i<j)) λx y=>decide (x<y)
theorem um:br X (WA .Lt) (oK (λi j=>decide (i<j)) λx y=>decide (x<y)):=NN.or NR
theorem uo:bW (oK (λi j=>decide (i<j)) λx y=>decide (x<y)) gL:=jS
noncomputable def ag(d e:D):Option S:=match d with
 |.lst ds=>match e with|.int i=>(fB ds i).map .pure|_=>none
 |.tup ds=>match e with|.int i=>(fB ds i).map .pure|_=>none
 |.str x=>match e with|.int i=>if x.length<=Wb then(fB x i).map λn=>.pure (.str [n])else none|_=>none
 |_=>none
theorem DU{i}(r:aH H O vs ds)(h:fB ds i=some d):∃v,fB vs i=some v/\Rep H O v d:=by unfold fB at h⊢;rw[r.1];cases e:fA ds.length i with|none=>rw[e]at h;cases h|some j=>rw[e]at h;exact r.get h
set_option tactic.hygienic true in theorem xV:bW (tO K) ag:=by
 intro c Y Z H x y d e s Q k rx ry hp q;cases d<;>cases e<;>first|(simp[ag]at hp;done)|skip
 .rename_i z i;simp only[ag]at hp;split at hp;.rename_i hz;cases e1:fB z i with|none=>rw[e1]at hp;cases hp|some n=>rw[e1]at hp;simp only[WE,We]at hp;subst hp;refine .inr (.inr ⟨toS z,i,n,rx.str,ry.int,DJ hz,%[kJ|e1],?_⟩);exact q (.str (toS [n])) H (.refl k) (.str [n])
  .cases hp
 .rename_i ds i;simp only[ag]at hp;cases e1:fB ds i with|none=>rw[e1]at hp;cases hp|some n=>rw[e1]at hp;simp only[WE,We]at hp;subst hp;obtain⟨a,vs,ea,ha,ra⟩:=rx.tup;obtain⟨v,e2,r2⟩:=DU ra e1;exact .inr (.inl ⟨a,vs,i,v,ea,ry.int,.of ha,e2,q v H (.refl k) r2⟩)
 .rename_i ds i;simp only[ag]at hp;cases e1:fB ds i with|none=>rw[e1]at hp;cases hp|some n=>rw[e1]at hp;simp only[WE,We]at hp;subst hp;obtain⟨a,vs,ea,ha,ra⟩:=rx.lst;obtain⟨v,e2,r2⟩:=DU ra e1;exact .inl ⟨a,vs,i,v,ea,ry.int,.inl ha,e2,q v H (.refl k) r2⟩
def l9:=jl (λi j=>decide (i<=j)) λx y=>!decide (y<x)
def gM:=jl (λi j=>decide (j<i)) λx y=>decide (y<x)
def xW:=jl (λi j=>decide (j<=i)) λx y=>!decide (x<y)
theorem uq:br X (WA .LtE) (oK (λi j=>decide (i<=j)) λx y=>!decide (y<x)):=NO.or (xU (g:=λx y=>!decide (y<x)) λk k k k k k h=>PySem.P.le_str h)
theorem ur:br X (WA .Gt) (oK (λi j=>decide (j<i)) λx y=>decide (y<x)):=NP.or (xU (g:=λx y=>decide (y<x)) λk k k k k k h=>PySem.P.gt_str h)
theorem Rj:br X (WA .GtE) (oK (λi j=>decide (j<=i)) λx y=>!decide (x<y)):=NQ.or (xU (g:=λx y=>!decide (x<y)) λk k k k k k h=>PySem.P.ge_str h)
abbrev DA:=Dl->Rs (List D)
def Rk(c:Fc)(f:DA):TA:=λY H Q=>∃Z,Ok c Y Z H/\post c (f Z) λds S'=>∀vs H',aG c Y Z H Y S' H'->aH H' (Av c Y S') vs ds->Q vs H'
structure SA(X:Cx)(c:Fc)(es:List Expr)(f:DA):Prop where pa:PA X es (Rk c f)len:∀Z ds S',f Z=.ok ds S'->ds.length=es.length
theorem PA.weak{t'}(h:PA X es t)(w:∀Y H Q,t' Y H Q->t Y H Q):PA X es t':=λpos pins s Y H Q I q=>h pos pins s Y H Q I (w Y H Q q)
def aN:DA:=λZ=>.ok [] Z
def aw(f:DE)(g:DA):DA:=λZ=>(f Z).bind λx W'=>(g W').bind λxs SZ=>.ok (x.d::xs) SZ
section
variable{f:DE}{g:DA}
theorem DW:SA X c [] aN:=⟨PA.weak f_ λY H Q⟨Z,k,q⟩=>q [] H (.refl k) .nil,λZ ds S' h=>by cases h;rfl⟩
theorem DY(ha:SE X c e f)(hr:SA X c es g)(hs:W9 (e::es) X.env=(false,eval e X.env)::W9 es X.env:=by rfl):SA X c (e::es) (aw f g):=by
 refine⟨PA.weak (dJ ha hr.pa hs) λY H Q⟨Z,k,q⟩=>?_,λZ ds S' h=>?_⟩;.unfold aw at q;rw[bh]at q;refine⟨Z,k,aQ q λx W' q1 v H1 a1 r1=>⟨W',a1.ok,?_⟩⟩;rw[bh]at q1;exact aQ q1 λxs SZ q2 vs H2 a2 r2=>q2 (v::vs) H2 (a1.trans a2) (.cons (Rep.dg r1.rep a2) r2)
 .unfold aw at h;cases h1:f Z with
 |ok x W'=>rw[h1]at h;cases h2:g W' with|ok xs SZ=>simp only[Rs.bind,h2]at h;cases h;simp[hr.len _ _ _ h2]|exc x N'=>simp only[Rs.bind,h2]at h;cases h|stuck=>simp only[Rs.bind,h2]at h;cases h
 |exc x N'=>rw[h1]at h;cases h|stuck=>rw[h1]at h;cases h
def a7(f:DA):DE:=λZ=>(f Z).bind λds S'=>.ok (.pure (.tup ds)) S'
def dq(f:DA):DE:=λZ=>(f Z).bind λds S'=>.ok (.own (.lst ds)) S'
theorem DZ(h:n<=1000):n<=Wb:=J0 (OR h)
theorem D0(h:post c r k):post c r λa Z=>r=.ok a Z/\k a Z:=by cases r with|ok a Z=>exact⟨rfl,h⟩|exc x N'=>exact h|stuck=>exact h
theorem D3{x1}(h:SA X c es g)(hz:es.length<=1000:=by decide):SE X c (.Tuple es x1 pos) (a7 g):=PE.weak (N2 h.pa) λY H Q⟨Z,k,q⟩=>by unfold a7 at q;rw[bh]at q;refine⟨Z,k,aQ (D0 q) λds W'⟨e1,q1⟩vs H1 a1 r1=>?_⟩;have hl:=h.len _ _ _ e1;exact⟨%[r1.1,hl|DZ hz],λp hp=>q1 _ _ (a1.trans (.alloc a1.ok hp _)) (aS.back (aS.qo a1.ok r1 hp) a1)⟩
theorem D4(h:SA X c es g)(hz:es.length<=1000:=by decide):SE X c (.List es pos) (dq g):=PE.weak (N3 h.pa) λY H Q⟨Z,k,q⟩=>by unfold dq at q;rw[bh]at q;refine⟨Z,k,aQ (D0 q) λds W'⟨e1,q1⟩vs H1 a1 r1=>?_⟩;have hl:=h.len _ _ _ e1;exact⟨%[r1.1,hl|DZ hz],λp hp=>q1 _ _ (a1.trans (.alloc a1.ok hp _)) (aS.back (aS.mY a1.ok r1 hp) a1)⟩
end
noncomputable def p1(p:D->Option S)(x:D)(Z:Dl):Rs S:=match p x with|some s=>.ok s Z|none=>.stuck
def aF(p:D->Option S)(fb:BE):DE:=λZ=>(fb Z).bind λx W'=>p1 p x W'
def jm(r:V->Hp->VK->Prop)(p:D->Option S):Prop:=∀(c:Fc)(Y:St)(Z:Dl)(H:Hp)(x:V)(d:D)(s:S)(Q:VK),Ok c Y Z H->c7 c Y Z H x d->p d=some s->(∀v H',aG c Y Z H Y Z H'->aS c Y Z H H' v s->Q v H')->r x H Q
section
variable{r:V->Hp->VK->Prop}{p:D->Option S}{id T:String}
theorem xX{Q}(hp:jm r p)(k:Ok c Y Z H)(rx:c7 c Y Z H v d)(h:post c (p1 p d Z) λs S'=>∀v H',aG c Y Z H Y S' H'->aS c Y S' H H' v s->Q v H'):r v H Q:=by unfold p1 at h;cases e1:p d with|none=>rw[e1]at h;exact h.elim|some s=>rw[e1]at h;exact hp c Y Z H v d s Q k rx e1 h
theorem qt{Q}(hp:jm r p)(h:tD c (aF p fb) Y H Q):NH r (UF c fb) Y H Q:=by obtain⟨Z,k,q⟩:=h;unfold aF at q;rw[bh]at q;exact⟨Z,k,aQ q λy W' q1 v H1 a1 r1=>xX hp a1.ok r1 (aQ q1 λs SZ q2 w H2 a2 r2=>q2 w H2 (a1.trans a2) (aS.back r2 a1))⟩
theorem qu(hc:eF X (.builtin id) rl)(hl:∀v H Q,r v H Q->rl [v] H Q)(hp:jm r p)(hg:Gl X x)(hm:X.mg x=none)(hv:Qw x=some (.builtin id))(he:SB X c e fb)(hn:x≠"__name__":=by decide)(cz:(x==("__debug__":Str))=false:=by decide)(hs:W9 [e] X.env=(false,eval e X.env)::W9 [] X.env:=by rfl)(bH:(Q3 pos (W9 [] X.env)).any (·.1)=false:=by rfl):SE X c (.Call (.Name x pp) [e] [] pos) (aF p fb):=PE.weak (qa hc hg hm hv (dJ he f_ hs) hn cz hs bH) λY H Q h=>by obtain⟨Z,k,q⟩:=qt hp h;exact⟨Z,k,aQ q λy W' q1 v H1 a1 r1=>hl _ _ _ (q1 v H1 a1 r1)⟩
theorem uu(hc:eF X (.type T) rl)(hl:∀v H Q,r v H Q->rl [v] H Q)(hp:jm r p)(hg:Gl X x)(hm:X.mg x=none)(hv:Qw x=some (.type T))(he:SB X c e fb)(hn:x≠"__name__":=by decide)(cz:(x==("__debug__":Str))=false:=by decide)(hs:W9 [e] X.env=(false,eval e X.env)::W9 [] X.env:=by rfl)(bH:(Q3 pos (W9 [] X.env)).any (·.1)=false:=by rfl):SE X c (.Call (.Name x pp) [e] [] pos) (aF p fb):=PE.weak (N5 hc hg hm hv (dJ he f_ hs) hn cz hs bH) λY H Q h=>by obtain⟨Z,k,q⟩:=qt hp h;exact⟨Z,k,aQ q λy W' q1 v H1 a1 r1=>hl _ _ _ (q1 v H1 a1 r1)⟩
noncomputable def bI:D->Option S|.lst ds=>some (.pure (.int ds.length))|.tup ds=>some (.pure (.int ds.length))|.str z=>if z.length<=Wb then some (.pure (.int z.length))else none|.bV ds=>some (.pure (.int ds.length))|_=>none
def Rl(K:W3):V->Hp->VK->Prop:=λv H Q=>((∃p ys,v=.ref p/\(cP K H p ys\/c9 K H p ys)/\Q (.int ys.length) H)\/∃z,v=.str z/\z.length<=Wb/\Q (.int z.length) H)\/∃a ao,v=V.ref a/\H a=some (.dK ao)/\Q (.int ao.length) H
set_option tactic.hygienic true in theorem Rm:jm (Rl K) bI:=by intro c Y Z H x d s Q k rx hp q;cases d with
 |lst ds=>simp only[bI,We]at hp;subst hp;obtain⟨a,vs,ea,ha,ra⟩:=rx.lst;exact .inl (.inl ⟨a,vs,ea,.inl (.inl ha),%[ra.1|q _ H (.refl k) (.int _)]⟩)|tup ds=>simp only[bI,We]at hp;subst hp;obtain⟨a,vs,ea,ha,ra⟩:=rx.tup;exact .inl (.inl ⟨a,vs,ea,.inr (.of ha),%[ra.1|q _ H (.refl k) (.int _)]⟩)|str z=>
 simp only[bI]at hp;split at hp;.rename_i hz;simp only[We]at hp;subst hp;exact .inl (.inr ⟨toS z,rx.str,DJ hz,%[lU|q _ H (.refl k) (.int _)]⟩)
 .cases hp|bV ds=>
 simp only[bI,We]at hp;subst hp;obtain⟨a,ws,ea,ha,h1,h2⟩:=rx.bV;have hl:ws.length=ds.length:=by have:=congrArg Qf h1;simpa using this
 exact .inr ⟨a,ws,ea,ha,%[hl|q _ H (.refl k) (.int _)]⟩|_=>simp[bI]at hp
theorem Rn(hg:Gl X "len")(hm:X.mg "len"=none)(he:SB X c e fb)(hs:W9 [e] X.env=(false,eval e X.env)::W9 [] X.env:=by rfl):SE X c (.Call (.Name "len" pp) [e] [] pos) (aF bI fb):=qu ((Oz.or OA).or OS) (λv H Q h=>by
 rcases h with(⟨p,ys,e,h⟩|⟨z,e,h⟩)|⟨a,ao,e,h⟩;.exact .inl (.inl ⟨p,ys,by rw[e],h⟩)
 .exact .inl (.inr ⟨z,by rw[e],h⟩)
 .exact .inr ⟨a,ao,by rw[e],h⟩) (Rm (K:=X.K)) hg hm PySem.boot_len he Z' Z' hs
noncomputable def dt:D->Option S|.lst ds=>some (.pure (.tup ds))|.tup ds=>some (.pure (.tup ds))|_=>none
def Ro(K:W3):V->Hp->VK->Prop:=λv H Q=>∃p ys,v=.ref p/\((cP K H p ys/\∀l,H l=none->Q (.ref l) (upd H l (.tup ys)))\/c9 K H p ys/\Q (.ref p) H)
theorem Rp:jm (Ro K) dt:=by
 intro c Y Z H x d s Q k rx hp q
 cases d with|lst ds=>simp only[dt,We]at hp;subst hp;obtain⟨a,vs,ea,ha,ra⟩:=rx.lst;exact⟨a,vs,ea,.inl ⟨.inl ha,λl hl=>q _ _ (.alloc k hl _) (aS.qo k ra hl)⟩⟩|tup ds=>
 simp only[dt,We]at hp;subst hp;obtain⟨a,vs,ea,ha,ra⟩:=rx.tup;refine⟨a,vs,ea,.inr ⟨.of ha,?_⟩⟩;rw[ea]at rx;rcases rx with rx|⟨_,_,rx⟩;.exact q _ H (.refl k) rx
 .exact rx.elim|_=>simp[dt]at hp
theorem Rq(hg:Gl X "tuple")(hm:X.mg "tuple"=none)(he:SB X c e fb)(hs:W9 [e] X.env=(false,eval e X.env)::W9 [] X.env:=by rfl):SE X c (.Call (.Name "tuple" pp) [e] [] pos) (aF dt fb):=uu OB (λv H Q⟨p,ys,e,h⟩=>⟨p,ys,by rw[e],h⟩) (Rp (K:=X.K)) hg hm PyProof.Rows.boot_tuple he Z' Z' hs
noncomputable def oM:D->Option S|.int i=>some (.pure (.int i))|.bl b=>some (.pure (.int (if b then 1 else 0)))|_=>none
theorem Rr(hg:Gl X "int")(hm:X.mg "int"=none)(he:SB X c e fb)(hs:W9 [e] X.env=(false,eval e X.env)::W9 [] X.env:=by rfl):SE X c (.Call (.Name "int" pp) [e] [] pos) (aF oM fb):=uu (r:=λv H Q=>(∃i,v=.int i/\Q (.int i) H)\/∃k,v=.bl k/\Q (.int (if k then 1 else 0)) H) NX (λv H Q h=>by
 rcases h with⟨i,e,q⟩|⟨k,e,q⟩;.exact .inl ⟨i,by rw[e],q⟩
 .exact .inr ⟨k,by rw[e],q⟩) (λc Y Z H x d s Q k rx hp q=>by cases d with|int i=>simp only[oM,We]at hp;subst hp;exact .inl ⟨i,rx.int,q _ H (.refl k) (.int _)⟩|bl b=>simp only[oM,We]at hp;subst hp;exact .inr ⟨b,rx.bl,q _ H (.refl k) (.int _)⟩|_=>simp[oM]at hp) hg hm PyProof.Rows.boot_int he Z' Z' hs
noncomputable def gY:List D->Option (List Bool)|[]=>some []|.bl b::r=>(gY r).map (b::.)|_::_=>none
noncomputable def dh:List D->Option (List Tx)|[]=>some []|.str x::r=>(dh r).map (x::.)|_::_=>none
theorem uv:∀{ds:List D}{vs:List V}{bs:List Bool},gY ds=some bs->aH H O vs ds->vs=bs.map V.bl|[],vs,bs,h,r=>by simp only[gY,We]at h;subst h;have:=r.1;simpa using this|d::ds,[],bs,h,r=>by have:=r.1;simp at this|d::ds,v::vs,bs,h,r=>by cases d with
 |bl b=>simp only[gY]at h;cases e:gY ds with|none=>rw[e]at h;cases h|some aA=>rw[e]at h;simp only[WE,We]at h;subst h;have:=r.head;cases this;rw[uv e r.tail];rfl
 |_=>simp[gY]at h
theorem qv:∀{ds:List D}{vs:List V}{bs:List Tx},dh ds=some bs->aH H O vs ds->vs=bs.map λz=>V.str (toS z)|[],vs,bs,h,r=>by simp only[dh,We]at h;subst h;have:=r.1;simpa using this|d::ds,[],bs,h,r=>by have:=r.1;simp at this|d::ds,v::vs,bs,h,r=>by cases d with
 |str b=>simp only[dh]at h;cases e:dh ds with|none=>rw[e]at h;cases h|some aA=>rw[e]at h;simp only[WE,We]at h;subst h;have:=r.head;cases this;rw[qv e r.tail];rfl
 |_=>simp[dh]at h
noncomputable def kM:D->Option S|.lst ds=>(gY ds).map λbs=>.pure (.bl (bs.all λb=>b))|_=>none
theorem Rt:Qw "all"=some (.builtin "all"):=by decide+kernel
theorem Ru(hc:X.calm=true)(hg:Gl X "all")(hm:X.mg "all"=none)(he:SB X c e fb)(hs:W9 [e] X.env=(false,eval e X.env)::W9 [] X.env:=by rfl):SE X c (.Call (.Name "all" pp) [e] [] pos) (aF kM fb):=qu (r:=λv H Q=>∃(a:Addr)(bs:List Bool),v=.ref a/\cP X.K H a (bs.map V.bl)/\Q (.bl (bs.all λb=>b)) H) (PN hc) (λv H Q⟨a,bs,e,h⟩=>⟨a,bs,by rw[e],h⟩) (λc Y Z H x d s Q k rx hp q=>by cases d with
 |lst ds=>simp only[kM]at hp;cases e:gY ds with|none=>rw[e]at hp;cases hp|some bs=>rw[e]at hp;simp only[WE,We]at hp;subst hp;obtain⟨a,vs,ea,ha,ra⟩:=rx.lst;have:=uv e ra;subst this;exact⟨a,bs,ea,.inl ha,q _ H (.refl k) (.bl _)⟩
 |_=>simp[kM]at hp) hg hm Rt he Z' Z' hs
noncomputable def xY:D->D->Option S|.int i,.int j=>some (.pure (.int (if j>i then j else i)))|_,_=>none
def uw(f g:DE):DE:=λZ=>(f Z).bind λx W'=>(g W').bind λy SZ=>p2 xY x.d y.d SZ
set_option tactic.hygienic true in theorem Rv{a b:Expr}{f g:DE}(hc:X.calm=true)(hg:Gl X "max")(hm:X.mg "max"=none)(ha:SE X c a f)(hb:SE X c b g)(hs:W9 [a,b] X.env=(false,eval a X.env)::W9 [b] X.env:=by rfl)(jT:W9 [b] X.env=(false,eval b X.env)::W9 [] X.env:=by rfl)(bH:(Q3 pos (W9 [b] X.env)).any (·.1)=false:=by rfl):SE X c (.Call (.Name "max" pp) [a,b] [] pos) (uw f g):=PE.weak (qa (NW hc) hg hm PyProof.Rows.boot_max (dJ ha (dJ hb f_ jT) hs) Z' Z' hs bH) λY H Q⟨Z,k,q⟩=>by
 unfold uw at q;rw[bh]at q;refine⟨Z,k,aQ q λx W' q1 v H1 a1 r1=>⟨W',a1.ok,?_⟩⟩;rw[bh]at q1;refine aQ q1 λy SZ q2 u H2 a2 r2=>?_;unfold p2 at q2;have hx:c7 c Y SZ H2 v x.d:=.inl (Rep.dg r1.rep a2);have hy:=r2.b;generalize x.d=dx at q2 hx;generalize y.d=dy at q2 hy;cases dx<;>cases dy<;>first|exact q2.elim|skip
 rename_i i j;exact⟨i,j,by rw[hx.int,hy.int],q2 _ H2 (a1.trans a2) (.int _)⟩
noncomputable def iS(T:String):D->Option Bool|.ax=>some (T=="NoneType")|.bl _=>some (T=="bool"||T=="int")|.int _=>some (T=="int")|.str _=>some (T=="str")|.tup _=>some (T=="tuple")|.lst _=>some (T=="list")|.bV _=>some (T=="dict")|.exc _ _=>none|.xd _=>none|.fn _=>none|.dic _=>none
structure m7(K:W3)(T:String):Prop where ax:QL K (.type "NoneType") (.type T)=some (T=="NoneType")bl:QL K (.type "bool") (.type T)=some (T=="bool"||T=="int")int:QL K (.type "int") (.type T)=some (T=="int")str:QL K (.type "str") (.type T)=some (T=="str")tup:QL K (.type "tuple") (.type T)=some (T=="tuple")lst:QL K (.type "list") (.type T)=some (T=="list")bV:QL K (.type "dict") (.type T)=some (T=="dict")
def fO(T:String)(fb:BE):DE:=λZ=>(fb Z).bind λd S'=>match iS T d with|some b=>.ok (.pure (.bl b)) S'|none=>.stuck
theorem Rw{Q}(ty:m7 X.K T)(I:Inv X pins Y H s)(ru:RelV v u)(r:Rep H cT v d)(e:iS T d=some b)(q:Q (.bl b) H):W8 (model X.prog X.w) X.A (call (.builtin "isinstance") [u,.type T]) (EP X pins Y Q) X.xe s:=by
 have fin:∀tk,EP X pins Y Q (.bool b) {s with toks:=tk}:=λtk=>⟨.bl b,H,I.tok tk,rfl,q⟩
 cases r with|ax=>exact lN I ru .ax (ty.ax.trans e) fin|bl x=>exact lN I ru (.bl x) (ty.bl.trans e) fin|int x=>exact lN I ru (.int x) (ty.int.trans e) fin|str x=>exact lN I ru (.str _) (ty.str.trans e) fin|tup _ h2 _ _=>exact lN I ru (.tup h2) (ty.tup.trans e) fin|lst _ h2 _ _=>
 rcases h2 with h2|⟨o,h2⟩;.exact lN I ru (.lst h2) (ty.lst.trans e) fin
 .exact lN I ru (.frz h2) (ty.lst.trans e) fin|bV _ h2 _ _=>exact lN I ru (.dK h2) (ty.bV.trans e) fin|exc _ _=>cases e|xd _ _=>cases e|fn _=>cases e|dic _=>cases e
theorem Rx(ty:m7 X.K T):eF X (.builtin "isinstance") λxs H Q=>∃v d b,xs=[v,.ty T]/\Rep H cT v d/\iS T d=some b/\Q (.bl b) H:=by intro pins s Y H xs us Q I r h;obtain⟨v,d,b,rfl,rp,e,q⟩:=h;obtain⟨u,w',rfl,r1,r2⟩:=wO r;cases r2;exact Rw ty I r1 rp e q
theorem Ry{y:Str}{py:Pos}(ty:m7 X.K T)(hg:Gl X "isinstance")(hm:X.mg "isinstance"=none)(qw:Gl X y)(qx:X.mg y=none)(xZ:Qw y=some (.type T))(he:SB X c e fb)(x3:y≠"__name__":=by decide)(qy:(y==("__debug__":Str))=false:=by decide)(hs:W9 [e,.Name y py] X.env=(false,eval e X.env)::W9 [.Name y py] X.env:=by rfl)(bH:(Q3 pos (W9 [.Name y py] X.env)).any (·.1)=false:=by rfl):SE X c (.Call (.Name "isinstance" pp) [e,.Name y py] [] pos) (fO T fb):=PE.weak (qa (Rx ty) hg hm PyProof.Rows.boot_isinstance (dJ he (dJ (BM (v:=.ty T) qw qx xZ rfl x3 qy) f_) hs) Z' Z' hs bH) λY H Q⟨Z,k,q⟩=>by unfold fO at q;rw[bh]at q;refine⟨Z,k,aQ q λd W' q1 v H1 a1 r1=>?_⟩;cases e1:iS T d with|none=>rw[e1]at q1;exact q1.elim|some b=>rw[e1]at q1;exact⟨v,d,b,rfl,r1.un,e1,q1 _ H1 a1 (.bl _)⟩
end
abbrev l_:=Dl->Rs (Option Int)
def RA(c:Fc)(f:l_):TO:=λY H Q=>∃Z,Ok c Y Z H/\post c (f Z) λo S'=>∀H',aG c Y Z H Y S' H'->Q o H'
abbrev SO(X:Cx)(c:Fc)(e:Option Expr)(f:l_):Prop:=PO X e (RA c f)
theorem PO.weak{e t'}(h:PO X e t)(w:∀Y H Q,t' Y H Q->t Y H Q):PO X e t':=λpins s Y H Q I q=>h pins s Y H Q I (w Y H Q q)
def dF:l_:=λZ=>.ok none Z
def cK(f:DE):l_:=λZ=>(f Z).bind λr S'=>match r with|.pure (.int i)=>.ok (some i) S'|_=>.stuck
section
variable{f:DE}{fl fh:l_}{lo hi:Option Expr}{p2:Pos}
theorem RC:SO X c none dF:=PO.weak Oc λY H Q⟨Z,k,q⟩=>q H (.refl k)
set_option tactic.hygienic true in theorem RD(h:SE X c e f):SO X c (some e) (cK f):=PO.weak (Od h) λY H Q⟨Z,k,q⟩=>by unfold cK at q;rw[bh]at q;refine⟨Z,k,aQ q λr W' q1 v H1 a1 r1=>?_⟩;cases r with|own d=>exact q1.elim|pure d=>
 cases d<;>first|exact q1.elim|skip
 rename_i i;cases r1;exact⟨i,rfl,q1 H1 a1⟩
noncomputable def dG(lo hi:Option Int):D->Option S|.str x=>if x.length<=Wb then some (.pure (.str (b_ x lo hi)))else none|.tup ds=>some (.pure (.tup (b_ ds lo hi)))|.lst ds=>some (.own (.lst (b_ ds lo hi)))|_=>none
def D5(K:W3):V->Option Int->Option Int->Hp->VK->Prop:=λx lo hi H Q=>Dt x lo hi H Q\/Dr K x lo hi H Q\/CG K x lo hi H Q
theorem D6:jO X (D5 X.K):=PH.or (PB.or Ow)
set_option tactic.hygienic true in theorem D7(lo hi:Option Int):jm (λx H Q=>D5 K x lo hi H Q) (dG lo hi):=by intro c Y Z H x d s Q k rx hp q;cases d with
 |str z=>
  simp only[dG]at hp;split at hp;.rename_i hz;simp only[We]at hp;subst hp;exact .inl ⟨z,rx.str,hz,q _ H (.refl k) (.str _)⟩
  .cases hp|tup ds=>
  simp only[dG,We]at hp;subst hp;obtain⟨a,vs,ea,ha,ra⟩:=rx.tup;refine .inr (.inl ⟨a,vs,ea,.of ha,λhw=>?_,λ_ p hp=>?_⟩)
  .rw[ra.1]at hw;rw[Py hw]at q;rw[ea]at rx;rcases rx with rx|⟨_,_,rx⟩;.exact q _ H (.refl k) rx
   .exact rx.elim
  .rw[<-Dp];exact q _ _ (.alloc k hp _) (aS.qo k (ra.cut lo hi) hp)|lst ds=>simp only[dG,We]at hp;subst hp;obtain⟨a,vs,ea,ha,ra⟩:=rx.lst;refine .inr (.inr ⟨a,vs,ea,.inl ha,λp hp=>?_⟩);rw[<-Dp];exact q _ _ (.alloc k hp _) (aS.mY k (ra.cut lo hi) hp)|_=>simp[dG]at hp
def gN(f:DE)(fl fh:l_):DE:=λZ=>(f Z).bind λx W'=>(fl W').bind λl SZ=>(fh SZ).bind λh SC=>p1 (dG l h) x.d SC
theorem RE(he:SE X c e f)(hl:SO X c lo fl)(hh:SO X c hi fh):SE X c (.Subscript e (.Slice lo hi none p2) pos) (gN f fl fh):=PE.weak (Cv D6 he hl hh) λY H Q⟨Z,k,q⟩=>by unfold gN at q;rw[bh]at q;refine⟨Z,k,aQ q λx W' q1 v H1 a1 r1=>⟨W',a1.ok,?_⟩⟩;rw[bh]at q1;refine aQ q1 λl SZ q2 H2 a2=>⟨SZ,a2.ok,?_⟩;rw[bh]at q2;refine aQ q2 λh SC q3 H3 a3=>?_;exact xX (D7 l h) a3.ok (.inl (Rep.dg r1.rep (a2.trans a3))) (aQ q3 λs PP q4 w H4 a4 r4=>q4 w H4 (a1.trans (a2.trans (a3.trans a4))) (aS.back r4 (a1.trans (a2.trans a3))))
def fE(i:Nat)(fl fh:l_):DE:=λZ=>match Z[i]? with|some (some _)=>(fl Z).bind λl SZ=>(fh SZ).bind λh SC=>(au i SC).bind λx PP=>p1 (dG l h) x PP|_=>.stuck
theorem x4{w:S}(k:Ok c Y Z H)(e:Z[i]?=some (some w))(ev:Y[i]?=some (some v)):c7 c Y Z H v w.d:=by cases w with|pure d=>obtain⟨v',e1,r⟩:=k.slot i d e;rw[ev]at e1;cases e1;exact .inl r|own d=>obtain⟨a,e1,r,_⟩:=k.own i d e;rw[ev]at e1;cases e1;exact .inr ⟨a,rfl,r⟩
theorem RF(h:post c ((au i Z).bind g) kk):∃w,Z[i]?=some (some w)/\post c (g w.d Z) kk:=by unfold au at h;cases e:Z[i]? with|none=>rw[e]at h;exact h.elim|some o=>cases o with|none=>rw[e]at h;exact h.elim|some w=>rw[e]at h;exact⟨w,rfl,h⟩
theorem RH(he:PE X e (eW i))(hl:SO X c lo fl)(hh:SO X c hi fh):SE X c (.Subscript e (.Slice lo hi none p2) pos) (fE i fl fh):=PE.weak (Cv D6 he hl hh) λY H Q⟨Z,k,q⟩=>by unfold fE at q;cases e:Z[i]? with|none=>rw[e]at q;exact q.elim|some o=>cases o with|none=>rw[e]at q;exact q.elim|some w=>rw[e]at q;obtain⟨v,ev⟩:=oI k e;have q':post c ((fl Z).bind λl SZ=>(fh SZ).bind λh SC=>(au i SC).bind λx PP=>p1 (dG l h) x PP) λr S'=>∀v H',aG c Y Z H Y S' H'->aS c Y S' H H' v r->Q v H':=q;rw[bh]at q';refine⟨v,ev,Z,k,aQ q' λl SZ q2 H2 a2=>⟨SZ,a2.ok,?_⟩⟩;rw[bh]at q2;refine aQ q2 λh SC q3 H3 a3=>?_;obtain⟨w3,e3,q4⟩:=RF q3;exact xX (D7 l h) a3.ok (x4 a3.ok e3 ev) (aQ q4 λs PP q4 w H4 a4 r4=>q4 w H4 (a2.trans (a3.trans a4)) (aS.back r4 (a2.trans a3)))
def jo(z:Tx):List Tx->Tx|[]=>[]|[x]=>x|x::y::r=>x++z++jo z (y::r)
theorem D8(z:Tx):∀(r:List Tx)(acc:Tx),(r.map toS).foldl (λ(acc:Array Nat)p=>acc++(toS z).cps++p.cps) acc.toArray=(match r with|[]=>acc|x::r'=>acc++z++jo z (x::r')).toArray|[],acc=>rfl|x::r,acc=>by rw[Wm,U0];have e:acc.toArray++(toS z).cps++(toS x).cps=(acc++z++x).toArray:=#v[toS];rw[e,D8 z r (acc++z++x)];cases r with|nil=>simp[jo]|cons y r'=>simp[jo]
theorem RI(z:Tx)(ts:List Tx):Txt.join (toS z) (ts.map toS)=toS (jo z ts):=by show Builtin.Str.glued _ _=_;unfold Builtin.Str.glued;cases ts with|nil=>rfl|cons x r=>rw[Wm];show(⟨List.foldl _ (toS x).cps (r.map toS)⟩:Str)=_;have:=D8 z r x;have e:(toS x).cps=x.toArray:=rfl;rw[e,this];cases r with|nil=>rfl|cons y r'=>rfl
def ij(ts:List Tx):Nat:=(ts.map (·.length)).sum
noncomputable def eM(z:Tx):D->Option S
 |.lst ds=>match dh ds with|some ts=>if ij ts+ts.length*z.length<=16777216 then some (.pure (.str (jo z ts)))else none|none=>none
 |.tup ds=>match dh ds with|some ts=>if ij ts+ts.length*z.length<=16777216 then some (.pure (.str (jo z ts)))else none|none=>none
 |_=>none
set_option tactic.hygienic true in theorem RJ(z:Tx):jm (λx H Q=>uc K (.str (toS z)) [x] H Q) (eM z):=by
 intro c Y Z H x d s Q k rx hp q;have key:∀(a:Addr)(vs:List V)(ds:List D),x=.ref a->cP K H a vs\/c9 K H a vs->aH H (Av c Y Z) vs ds->(match dh ds with|some ts=>if ij ts+ts.length*z.length<=16777216 then some (S.pure (.str (jo z ts)))else none|none=>none)=some s->uc K (.str (toS z)) [x] H Q:=by intro a vs ds ea ha ra hp;cases e:dh ds with|none=>rw[e]at hp;cases hp|some ts=>
   rw[e]at hp;simp only at hp;split at hp
   .rename_i hz;simp only[We]at hp;subst hp;have:=qv e ra;subst this;refine⟨toS z,a,ts.map toS,rfl,by rw[ea],?_,?_,?_⟩;.rw[WV];exact ha
    .rw[WV,Wa,lU];have:(λx:Str=>x.length)∘toS=λx:Tx=>x.length:=funext λx=>lU x;rw[this];exact hz
    .rw[RI];exact q _ H (.refl k) (.str _)
   .cases hp
 cases d with|lst ds=>obtain⟨a,vs,ea,ha,ra⟩:=rx.lst;exact key a vs ds ea (.inl (.inl ha)) ra hp|tup ds=>obtain⟨a,vs,ea,ha,ra⟩:=rx.tup;exact key a vs ds ea (.inr (.of ha)) ra hp|_=>simp[eM]at hp
theorem RK{j}{p0 apos bL:Pos}(z:Tx)(he:SB X c e fb)(hx:x=toS z:=by decide+kernel)(ji:JS (.Constant (.str x) j p0) "join" X.env (eval (.Constant (.str x) j p0) X.env)=eval (.Constant (.str x) j p0) X.env:=by rfl)(jj:((Q3 bL (W9 [e] X.env)).all (λx=>!x.1)&&(backToKw bL (JT [] X.env)).all (λx=>x.1.isSome)&&decide ([e].length+([]:List Keyword).length+(if([]:List Keyword).isEmpty then 0 else 1)<30))=true:=by rfl)(jk:(apos.endLine==bL.line)=true:=by rfl)(hs:W9 [e] X.env=(false,eval e X.env)::W9 [] X.env:=by rfl):SE X c (.Call (.Attribute (.Constant (.str x) j p0) "join" apos) [e] [] bL) (aF (eM z) fb):=by subst hx;refine PE.weak (qd PySem.F.plainAttrs_str PySem.F.slot_str_join PySem.F.type_str_join PM BL (dJ he f_ hs) ji jj jk hs rfl) λY H Q h=>?_;obtain⟨Z,k,q⟩:=qt (r:=λx H Q=>uc X.K (.str (toS z)) [x] H Q) (RJ z) h;refine⟨?_,Z,k,q⟩;show("str":String)="str";rfl
end
inductive Fl where|next|ret(r:S)|brk|cont
abbrev DS:=Dl->Rs Fl
variable{iy:Addr->(D->Option D)->DS}
def fin(c:Fc)(D:Ends)(Y:St)(Z:Dl)(H:Hp):Fl->Prop|.next=>D.nx Y H|.ret r=>∀v,aS c Y Z c.H₀ H v r->D.rt v H|.brk=>D.bk Y H|.cont=>D.ct Y H
def dO(c:Fc)(D:Ends)(Y:St)(Z:Dl)(H:Hp)(r:Rs Fl):Prop:=post c r λfl S'=>∀SL H',aG c Y Z H SL S' H'->fin c D SL S' H' fl
def jq(c:Fc)(f:DS):TS:=λD Y H=>∃Z,Ok c Y Z H/\dO c D Y Z H (f Z)
abbrev SS(X:Cx)(c:Fc)(st:Stmt)(f:DS):Prop:=PS X st (jq c f)
abbrev eN(X:Cx)(c:Fc)(st:List Stmt)(f:DS):Prop:=dI X st (jq c f)
theorem PS.weak{st:Stmt}{t t':TS}(h:PS X st t)(w:∀D Y H,t' D Y H->t D Y H):PS X st t':=λpins s Y H D I q=>h pins s Y H D I (w D Y H q)
theorem dI.weak{st:List Stmt}{t t':TS}(h:dI X st t)(w:∀D Y H,t' D Y H->t D Y H):dI X st t':=λpins s Y H D I q=>h pins s Y H D I (w D Y H q)
def bj:DS:=λZ=>.ok .next Z
def aq(f g:DS):DS:=λZ=>(f Z).bind λfl W'=>match fl with|.next=>g W'|.ret r=>.ok (.ret r) W'|.brk=>.ok .brk W'|.cont=>.ok .cont W'
def jU(f:DE):DS:=λZ=>(f Z).bind λj W'=>.ok .next W'
def aM(f:DE):DS:=λZ=>(f Z).bind λr W'=>.ok (.ret r) W'
def bf(t:DT)(f g:DS):DS:=λZ=>(t Z).bind λb W'=>if b then f W' else g W'
def ux:DS:=λj=>.stuck
def qay(np:List Nat)(i:Nat):DE:=λZ=>match Z[i]? with|some (some (.own d))=>if np.contains i then .ok (.pure d) (Z.set i (some (.pure d)))else .ok (.own d) (Z.set i none)|some (some (.pure d))=>.ok (.pure d) Z|_=>.stuck
section
variable{st:Stmt}{a:Expr}{f g:DS}{t:DT}{pos':Pos}
theorem D_:eN X c [] bj:=dI.weak Nc λD Y H⟨Z,k,q⟩=>q Y H (.refl k)
theorem Ea(h1:SS X c st f)(h2:eN X c D9 g):eN X c (st::D9) (aq f g):=dI.weak (Nf h1 h2) λD Y H⟨Z,k,q⟩=>by unfold aq dO at q;rw[bh]at q;refine⟨Z,k,aQ q λfl W' q1 On H1 a1=>?_⟩;cases fl with|next=>exact⟨W',a1.ok,aQ q1 λfl2 SZ q2 Pv H2 a2=>q2 Pv H2 (a1.trans a2)⟩|ret r=>exact q1 On H1 a1|brk=>exact q1 On H1 a1|cont=>exact q1 On H1 a1
theorem Eb(h1:SS X c st f):eN X c [st] f:=dI.weak (Ng h1) λD Y H h=>h
theorem RL:SS X c st ux:=PS.weak Nl λD Y H⟨Z,k,q⟩=>q
theorem RM(he:SE X c e fe):SS X c (.Return (some e) pos) (aM fe):=PS.weak (BR he) λD Y H⟨Z,k,q⟩=>by unfold aM dO at q;rw[bh]at q;exact⟨Z,k,aQ q λr W' q1 v H1 a1 r1=>q1 Y H1 a1 v r1.Pj⟩
theorem RN{b1 b2:List Stmt}(ht:ST X c e t)(h1:eN X c b1 f)(h2:eN X c b2 g):SS X c (.If e b1 b2 pos) (bf t f g):=PS.weak (Nj ht h1 h2) λD Y H⟨Z,k,q⟩=>by unfold bf dO at q;rw[bh]at q;refine⟨Z,k,aQ q λb W' q1 H1 a1=>?_⟩;cases b with|true=>exact⟨W',a1.ok,aQ q1 λfl SZ q2 Pv H2 a2=>q2 Pv H2 (a1.trans a2)⟩|false=>exact⟨W',a1.ok,aQ q1 λfl SZ q2 Pv H2 a2=>q2 Pv H2 (a1.trans a2)⟩
theorem Own.qz(h:Own (Y.set i (some v)) (Z.set i (some r)) b):Own Y Z b\/v=.ref b/\∃d,r=.own d:=by
 obtain⟨j,d,e1,e2⟩:=h;by_cases hj:i=j;.subst hj;right;rw[Q4]at e1 e2;simp at e1 e2;obtain⟨_,h1⟩:=e1;obtain⟨_,h2⟩:=e2;exact⟨h2,d,h1⟩
 .rw[Wd hj]at e1 e2;exact .inl ⟨j,d,e1,e2⟩
theorem Ok.set(x:aG c Y₀ Z₀ H₁ Y Z H)(hr:aS c Y Z H₁ H v r)(hp:∀p∈c.pin,p.1≠i):aG c Y₀ Z₀ H₁ (Y.set i (some v)) (Z.set i (some r)) H:=by
 have k:=x.ok;have all:∃c':Fc,c'.H₀=c.H₀/\c'.pin=c.pin/\Ok c' Y Z H/\∀b,Av c (Y.set i (some v)) (Z.set i (some r)) b->Av c' Y Z b:=by cases r with
 |pure d=>
   refine⟨c,rfl,rfl,k,λb z=>?_⟩;rcases z with z|z;.exact .inl z
   .rcases z.qz with z|⟨_,d',e⟩;.exact .inr z
    .cases e|own d=>
   obtain⟨a,ea,o,n,f,k2,_⟩:=hr;refine⟨c.plus a,rfl,rfl,k2,λb z=>?_⟩;rcases z with z|z;.exact .inl (.inl z)
   .rcases z.qz with z|⟨e,_⟩;.exact .inr z
    .rw[ea]at e;cases e;exact .inl (.inr rfl)
 obtain⟨c',eH,eP,k2,sub⟩:=all;have eI:∀a,c'.I a↔c.I a:=λa=>by unfold Fc.I;rw[eP]
 have RO:Rep H (Av c (Y.set i (some v)) (Z.set i (some r))) v r.d\/∃d,r=.own d:=by cases r with
 |pure d=>
   left;refine Rep.aP hr λb z=>?_;rcases z with z|z;.exact .inl (.inl z)
   .rcases z.qz with z|⟨_,d',e⟩;.exact .inl (.inr z)
    .cases e|own d=>exact .inr ⟨d,rfl⟩
 refine⟨⟨k.keep,k.bd,k.cR,%[QQ,QQ|k.len],λj d e=>?_,λj d e=>?_,λj l a d d' e1 e2 e3 e4=>?_,λp hm=>?_⟩,x.keep,λb z=>?_,x.there⟩
 .by_cases hj:i=j
  .subst hj;rw[Q4]at e;simp at e;obtain⟨hi,rfl⟩:=e;have eG:i<Y.length:=by rw[<-k.len];exact hi
   rcases RO with h|⟨_,h⟩;.exact⟨v,by rw[Wv eG],h⟩
   .cases h
  .rw[Wd hj]at e;obtain⟨w,e1,q⟩:=k2.slot j d e;exact⟨w,%[Wd hj|e1],q.aP λb z=>.inl (sub b z)⟩
 .by_cases hj:i=j
  .subst hj;rw[Q4]at e;simp at e;obtain⟨hi,rfl⟩:=e;have eG:i<Y.length:=by rw[<-k.len];exact hi
   obtain⟨a,ea,o,n,f,k3,_⟩:=hr;refine⟨a,by rw[Wv eG,ea],o.aP λb z=>.inl ?_,.inr f,n⟩;rcases z with z|z;.exact .inl (.inl z)
   .rcases z.qz with z|⟨e,_⟩;.exact .inr z
    .rw[ea]at e;cases e;exact .inl (.inr rfl)
  .rw[Wd hj]at e;obtain⟨a,e1,q,q2,q3⟩:=k.own j d e;obtain⟨a',uy,q',_,_⟩:=k2.own j d e;rw[e1]at uy;cases uy;exact⟨a,%[Wd hj|e1],q'.aP λb z=>.inl (sub b z),q2,q3⟩
 .by_cases hj:i=j
  .subst hj;by_cases hl:i=l;.exact hl
   .rw[Wd hl]at e2 e4;rw[Q4]at e1 e3;simp at e1 e3;obtain⟨_,rfl⟩:=e1;obtain⟨_,rfl⟩:=e3;obtain⟨a',ea,o,n,f,k3,_⟩:=hr;cases ea;exact absurd ⟨l,d',e2,e4⟩ (oG k3)
  .rw[Wd hj]at e1 e3;by_cases hl:i=l;.subst hl;rw[Q4]at e2 e4;simp at e2 e4;obtain⟨_,rfl⟩:=e2;obtain⟨_,rfl⟩:=e4;obtain⟨a',ea,o,n,f,k3,_⟩:=hr;cases ea;exact absurd ⟨j,d,e1,e3⟩ (oG k3)
   .rw[Wd hl]at e2 e4;exact k.inj j l a d d' e1 e2 e3 e4
 .rw[Wd (Ne.symm (hp p hm))];exact k.pinned p hm
 .rcases z.qz with z|⟨e,d,ed⟩;.exact x.own b z
  .subst ed;obtain⟨a,ea,_,_,_,_,hs⟩:=hr;grind
abbrev DG:=S->Dl->Option Dl
def x5(c:Fc)(g:DG):TG:=λv Y H Q=>∃Y₀ Z₀ H₁ Z r S',aG c Y₀ Z₀ H₁ Y Z H/\aS c Y Z H₁ H v r/\g r Z=some S'/\∀SL,aG c Y₀ Z₀ H₁ SL S' H->Q SL H
abbrev SG(X:Cx)(c:Fc)(tg:Expr)(g:DG):Prop:=PG X tg (x5 c g)
def ak(np:List Nat)(i:Nat):DG:=λr Z=>if np.contains i then none else some (Z.set i (some r))
def Np(c:Fc)(np:List Nat):Prop:=∀p∈c.pin,np.contains p.1=true
set_option tactic.hygienic true in theorem x8{Q}(hp:Np c np)(h:x5 c (ak np i) v Y H Q):s_ i v Y H Q:=by
 obtain⟨Y₀,Z₀,H₁,Z,r,S',x,rr,e,q⟩:=h;unfold ak at e;split at e;.cases e
 .rename_i hn;cases e;exact q _ (Ok.set x rr λp hm e=>hn (by rw[<-e];exact hp p hm))
theorem PG.weak{t t':TG}(h:PG X tg t)(w:∀v Y H Q,t' v Y H Q->t v Y H Q):PG X tg t':=λpins s Y H v u Q I r q=>h pins s Y H v u Q I r (w v Y H Q q)
theorem h9.weak{tg:List Expr}{t t':lM}(h:h9 X tg t)(w:∀v Y H Q,t' v Y H Q->t v Y H Q):h9 X tg t':=λpins s Y H v u Q I r q=>h pins s Y H v u Q I r (w v Y H Q q)
theorem RP(hp:Np c np)(hN:X.N.Nodup)(hi:X.N[i]?=some x)(hx:Loc X.env.scope x)(hf:X.fn x=true\/X.env.scope.names.lookup x=some .local):SG X c (.Name x pos) (ak np i):=PG.weak (BW hN hi hx hf) λv Y H Q h=>x8 hp h
abbrev iT:=List D->Dl->Option Dl
def RQ(c:Fc)(g:iT):lM:=λvs Y H Q=>∃Z ds S',Ok c Y Z H/\aH H (Av c Y Z) vs ds/\g ds Z=some S'/\∀SL,aG c Y Z H SL S' H->Q SL H
abbrev qA(X:Cx)(c:Fc)(tg:List Expr)(g:iT):Prop:=h9 X tg (RQ c g)
def bX:iT:=λds Z=>match ds with|[]=>some Z|_=>none
def aT(g:DG)(gs:iT):iT:=λds Z=>match ds with|[]=>none|d::r=>(g (.pure d) Z).bind λW'=>gs r W'
theorem RS:qA X c [] bX:=h9.weak BX λvs Y H Q hh=>by
 obtain⟨Z,ds,S',k,r,e,q⟩:=hh
 cases ds with|nil=>
 cases e;have:vs=[]:=by have:=r.1;simpa using this
 exact⟨this,q Y (.refl k)⟩|cons d r=>cases e
theorem RT{g:DG}{gs:iT}(h1:SG X c e g)(h2:qA X c es gs)(hs:(Qo (e::es) X.env).map (·.2)=assign e X.env::(Qo es X.env).map (·.2):=by rfl):qA X c (e::es) (aT g gs):=h9.weak (BY h1 h2 hs) λvs Y H Q hh=>by obtain⟨Z,ds,S',k,r,e,q⟩:=hh;cases ds with|nil=>cases e|cons d ds=>cases vs with|nil=>have:=r.1;simp at this|cons v vs=>simp only[aT]at e;cases e1:g (.pure d) Z with|none=>rw[e1]at e;cases e|some W'=>rw[e1]at e;refine⟨v,vs,rfl,Y,Z,H,Z,.pure d,W',.refl k,r.head,e1,λOn a1=>?_⟩;exact⟨W',ds,S',a1.ok,aH.dg r.tail a1,e,λPv a2=>q Pv (a1.trans a2)⟩
def bR(n:Nat)(gs:iT):DG:=λr Z=>match r.d with|.tup ds=>if ds.length=n then gs ds Z else none|_=>none
set_option tactic.hygienic true in theorem RU{k:Nat}{gs:iT}(hc:X.calm=true)(h:qA X c es gs)(hn:(Qo es X.env).length=n:=by rfl)(cE:(Qo es X.env).findIdx? (·.1)=none:=by rfl):SG X c (.Tuple es k pos) (bR n gs):=PG.weak (BZ hc h hn cE) λv Y H Q hw=>by
 obtain⟨Y₀,Z₀,H₁,Z,r,S',x,rr,e,q⟩:=hw;have hb:=rr.b;unfold bR at e;generalize r.d=d at e hb;cases d<;>first|(cases e;done)|skip
 rename_i ds;simp only at e;split at e;.rename_i hl;obtain⟨a,vs,ea,ha,ra⟩:=hb.tup;exact⟨a,vs,ea,.of ha,%[ra.1|hl],Z,ds,S',x.ok,ra,e,λSL a1=>q SL (x.trans a1)⟩
 .cases e
def az(f:DE)(g:DG):DS:=λZ=>(f Z).bind λr W'=>match g r W' with|some SZ=>.ok .next SZ|none=>.stuck
theorem x9{g:DG}{D:Ends}{tg:TG}(he:∀Y H Q,tD c fe Y H Q->te Y H Q)(hg:∀v Y H Q,x5 c g v Y H Q->tg v Y H Q)(h:jq c (az fe g) D Y H):tf te tg D Y H:=by obtain⟨Z,k,q⟩:=h;unfold az dO at q;rw[bh]at q;refine he _ _ _ ⟨Z,k,aQ q λr W' q1 v H1 a1 r1=>hg _ _ _ _ ?_⟩;cases e:g r W' with|none=>rw[e]at q1;exact q1.elim|some SZ=>rw[e]at q1;exact⟨Y,Z,H,W',r,SZ,a1,r1,e,λSL a2=>q1 SL H1 a2⟩
theorem RV{g:DG}(he:SE X c e fe)(hg:SG X c tg g)(hs:swapsWithSole [tg] e pos.line X.env=pure false:=by rfl)(hw:swappedStores [tg] e X.env=pure none:=by rfl)(h1:(Qo [tg] X.env).map (·.2)=[assign tg X.env]:=by rfl):SS X c (.Assign [tg] e pos) (az fe g):=PS.weak (B0 he hg hs hw h1) λD Y H h=>x9 (λj j j h=>h) (λj j j j h=>h) h
theorem RW(hp:Np c np)(hN:X.N.Nodup)(hi:X.N[i]?=some x)(hx:Loc X.env.scope x)(he:SE X c e fe)(hs:JB e (some (.Name x pos')) pos.line X.env=pure false)(hf:X.fn x=true\/X.env.scope.names.lookup x=some .local):SS X c (.Assign [.Name x pos'] e pos) (az fe (ak np i)):=PS.weak (Nu hN hi hx he hs hf) λD Y H h=>x9 (λj j j h=>h) (λj j j j h=>x8 hp h) h
theorem RX(he:SE X c e fe)(hs:∀(x:Value),JB e none pos.line X.env=pure false:=by intro _;rfl)(hd:True:=trivial)(h:PS X (.Expr e pos) (wJ (tD c fe))):SS X c (.Expr e pos) (jU fe):=PS.weak h λD Y H⟨Z,k,q⟩=>by unfold jU dO at q;rw[bh]at q;exact⟨Z,k,aQ q λr W' q1 v H1 a1 r1=>q1 Y H1 a1⟩
theorem Ok.Ec{eX:List D}{a:Addr}(k:Ok c Y Z H)(e:Z[i]?=some (some (.own (.lst ds))))(ea:Y[i]?=some (some (.ref a)))(r:aH H (Av c Y Z) mX eX):aG c Y Z H Y (Z.set i (some (.own (.lst eX)))) (upd H a (.lst mX)):=by
 have hi:i<Z.length:=(W6.mp e).1;obtain⟨a',ea',oa,ia,nb⟩:=k.own i _ e;rw[ea]at ea';cases ea';obtain⟨vs,ha,_⟩:=oa;have x_:Own Y Z a:=⟨i,_,e,ea⟩;have ya:Av c Y Z a:=.inr x_;have qC:∀b,Own Y (Z.set i (some (.own (.lst eX)))) b↔Own Y Z b:=λb=>by
  constructor
  .rintro⟨j,d,e1,e2⟩;by_cases hj:i=j;.subst hj;exact⟨i,_,e,e2⟩
   .rw[Wd hj]at e1;exact⟨j,d,e1,e2⟩
  .rintro⟨j,d,e1,e2⟩;by_cases hj:i=j;.subst hj;exact⟨i,_,by rw[Wv hi],e2⟩
   .exact⟨j,d,%[Wd hj|e1],e2⟩
 have m8:∀b,Av c Y (Z.set i (some (.own (.lst eX)))) b->Av c Y Z b:=λb z=>z.elim .inl λz=>.inr ((qC b).mp z);have ne:∀b,¬Av c Y Z b->b≠a:=λb n z=>n %[z|ya];have kp:∀b o,H b=some o->¬Av c Y Z b->upd H a (.lst mX) b=some o:=λb o h n=>%[aO (ne b n)|h];have ik:∀b o,H b=some o->∃o',upd H a (.lst mX) b=some o':=λb o h=>by
  by_cases hb:b=a;.exact⟨_,%[hb|bS]⟩
  .exact⟨o,%[aO hb|h]⟩
 refine⟨⟨λb o h n=>?_,λb z=>?_,λb z=>?_,%[QQ|k.len],λj d h=>?_,λj d h=>?_,λj l b d d' h1 h2 h3 h4=>?_,k.pinned⟩,λb o h n=>?_,λb z=>.inl ((qC b).mp z),ik⟩
 .have hb:b≠a:=λz=>by grind
  rw[aO hb];exact k.keep b o h n
 .obtain⟨o,h⟩:=k.bd b z;exact ik b o h
 .obtain⟨o,h⟩:=k.cR b z;exact ik b o h
 .have hj:i≠j:=λz=>by subst z;rw[Wv hi]at h;cases h
  rw[Wd hj]at h;obtain⟨v,h1,h2⟩:=k.slot j d h;exact⟨v,h1,(h2.keep kp).aP λb z=>.inl (m8 b z)⟩
 .by_cases hj:i=j;.subst hj;rw[Wv hi]at h;cases h;exact⟨a,ea,⟨mX,bS,aH.aP (aH.keep r kp) λb z=>.inl (m8 b z)⟩,ia,nb⟩
  .rw[Wd hj]at h;obtain⟨b,h1,h2,h3,h4⟩:=k.own j d h;have hb:b≠a:=λz=>by subst z;exact hj (k.inj i j b _ d e h ea h1)
   exact⟨b,h1,(h2.keep kp λo q=>%[aO hb|q]).aP λb z=>.inl (m8 b z),h3,h4⟩
 .have f1:∃d,Z[j]?=some (some (.own d)):=by
   by_cases hj:i=j;.subst hj;exact⟨_,e⟩
   .rw[Wd hj]at h1;exact⟨d,h1⟩
  have f2:∃d,Z[l]?=some (some (.own d)):=by
   by_cases hj:i=l;.subst hj;exact⟨_,e⟩
   .rw[Wd hj]at h2;exact⟨d',h2⟩
  obtain⟨_,f1⟩:=f1;obtain⟨_,f2⟩:=f2;exact k.inj j l b _ _ f1 f2 h3 h4
 grind[aO]
def gO(Z:Dl)(i:Nat):Bool:=match Z[i]? with
 |some (some s)=>match s with|.own d=>(match d with|.lst _=>true|_=>false)|_=>false
 |_=>false
noncomputable def putL(Z:Dl)(i:Nat)(f:List D->Option (List D)):Rs Fl:=match Z[i]? with
 |some (some (.own (.lst ds)))=>match f ds with|some eX=>.ok .next (Z.set i (some (.own (.lst eX))))|none=>.stuck
 |_=>.stuck
theorem Ed(h:gO Z i=true):∃ds,Z[i]?=some (some (.own (.lst ds))):=by unfold gO at h;cases e:Z[i]? with|none=>rw[e]at h;cases h|some o=>
 rw[e]at h;rcases o with _|_|d<;>first|(cases h;done)|skip
 cases d<;>first|exact⟨_,rfl⟩|cases h
set_option tactic.hygienic true in theorem Ee{g:List D->Option (List D)}{kk:Fl->Dl->Prop}(h:post c (putL Z i g) kk):∃ds eX,Z[i]?=some (some (.own (.lst ds)))/\g ds=some eX/\kk .next (Z.set i (some (.own (.lst eX)))):=by
 unfold putL at h;split at h
 .rename_i ds e;split at h;.rename_i eX e2;exact⟨ds,eX,e,e2,h⟩
  .exact h.elim
 .exact h.elim
def cA(i:Nat)(f:DE):DS:=λZ=>if gO Z i then(f Z).bind λr W'=>putL W' i λds=>if ds.length<Wb then some (ds++[r.d])else none else .stuck
set_option tactic.hygienic true in theorem RY{o:Expr}{p0:Pos}(ho:PE X o (eW i))(he:SE X c e fe)(h:PS X (.Expr (.Call (.Attribute o "append" apos) [e] [] bL) pos) (wJ (CK X.K "list" CM (eW i) (wU (tD c fe) Cf)))):SS X c (.Expr (.Call (.Attribute o "append" apos) [e] [] bL) pos) (cA i fe):=PS.weak h λD Y H⟨Z,k,q⟩=>by
  unfold cA dO at q;split at q
  .rename_i m9;obtain⟨ds0,e0⟩:=Ed m9;rw[bh]at q;obtain⟨a,ea,oa,_⟩:=k.own i _ e0;refine⟨.ref a,ea,?_,Z,k,aQ q λr W' q1 v H1 a1 r1=>?_⟩;.obtain⟨vs,ha,_⟩:=oa;exact .inl ⟨rfl,vs,.of ha⟩
   .obtain⟨ds,eX,e1,e2,q2⟩:=Ee q1;split at e2;.rename_i hz;cases e2;obtain⟨a',ea',oa1,_⟩:=a1.ok.own i _ e1;rw[ea]at ea';cases ea';obtain⟨vs,ha,ra⟩:=id oa1;refine⟨a,vs,v,rfl,rfl,ha,%[ra.1|hz],?_⟩;exact q2 Y _ (a1.trans (Ok.Ec a1.ok e1 ea (ra.append (.cons r1.rep .nil))))
    .cases e2
  .exact q.elim
def fF(i:Nat)(fi:DE)(fe:DE):DS:=λZ=>if gO Z i then(fe Z).bind λr W'=>(fi W').bind λk SZ=>match k with|.pure (.int j)=>putL SZ i λds=>(fA ds.length j).map λn=>ds.set n r.d|_=>.stuck else .stuck
set_option tactic.hygienic true in theorem RZ{o ix:Expr}{fi:DE}{sp:Pos}(ho:PE X o (eW i))(hi:SE X c ix fi)(he:SE X c e fe)(ha:∀v,assign (.Subscript o ix sp) X.env v=(do
   let ov<-holding [v] (eval o X.env)let iv<-holding [v,ov] (eval ix X.env)standAt sp
   holding [v,ov,iv] (setItem ov iv v)release [v,ov,iv] []):=by intro _;rfl)(hs:swapsWithSole [.Subscript o ix sp] e pos.line X.env=pure false:=by rfl)(hw:swappedStores [.Subscript o ix sp] e X.env=pure none:=by rfl)(h1:(Qo [.Subscript o ix sp] X.env).map (·.2)=[assign (.Subscript o ix sp) X.env]:=by rfl):SS X c (.Assign [.Subscript o ix sp] e pos) (fF i fi fe):=PS.weak (B0 he (Nt ho hi Ot ha) hs hw h1) λD Y H⟨Z,k,q⟩=>by
  unfold fF dO at q;split at q;.rename_i m9;obtain⟨ds0,e0⟩:=Ed m9;rw[bh]at q;obtain⟨a,ea,_,_⟩:=k.own i _ e0;refine⟨Z,k,aQ q λr W' q1 v H1 a1 r1=>⟨.ref a,ea,W',a1.ok,?_⟩⟩;rw[bh]at q1;refine aQ q1 λkx SZ q2 u H2 a2 r2=>?_;cases kx with|own d=>exact q2.elim|pure d=>
    cases d<;>first|exact q2.elim|skip
    rename_i j;cases r2;obtain⟨ds,eX,e1,e2,q3⟩:=Ee q2;cases e3:fA ds.length j with|none=>rw[e3]at e2;cases e2|some n=>rw[e3]at e2;cases e2;obtain⟨a',ea',oa1,_⟩:=a2.ok.own i _ e1;rw[ea]at ea';cases ea';obtain⟨vs,ha,ra⟩:=id oa1;refine⟨a,vs,j,n,rfl,rfl,ha,%[ra.1|e3],?_⟩;exact q3 Y _ (a1.trans (a2.trans (Ok.Ec a2.ok e1 ea (ra.set (Rep.dg r1.rep a2) n))))
  .exact q.elim
end
variable{gs:iT}
abbrev DI:=Dl->Rs (List D)
def oN(c:Fc)(Y:St)(Z:Dl)(H:Hp)(J:It)(ds:List D):Prop:=∀H2,(∀a o,H a=some o->¬Own Y Z a->H2 a=some o)->J.stop ds.length H2/\∀(i:Nat)d,ds[i]?=some d->J.go i H2/\∀x H3,J.pX i H2 x H3->H3=H2/\Rep H (Av c Y Z) x d\/∃p vs es,H2 p=none/\H3=upd H2 p (.tup vs)/\x=.ref p/\d=.tup es/\aH H (Av c Y Z) vs es
def tI(c:Fc)(f:DI):TI:=λY H R=>∃Z,Ok c Y Z H/\post c (f Z) λds S'=>∀J H',aG c Y Z H Y S' H'->oN c Y S' H' J ds->R J H'
abbrev SI(X:Cx)(c:Fc)(tg iter:Expr)(f:DI):Prop:=PI X tg iter (tI c f)
theorem PI.weak{t'}(h:PI X tg iter t)(w:∀Y H R,t' Y H R->t Y H R):PI X tg iter t':=λpins s Y H R I q=>h pins s Y H R I (w Y H R q)
theorem R0(K:W3)(h:H a=some (.tup vs))(n:¬Own Y Z a)(r:aH H (Av c Y Z) vs ds):oN c Y Z H (wK K a) ds:=by intro H2 kp;have h2:=kp a _ h n;refine⟨⟨vs,.of h2,%[r.1|Wc _]⟩,λi d e=>?_⟩;obtain⟨v,ev,rv⟩:=r.get e;refine⟨⟨vs,v,.of h2,ev⟩,λx H3⟨e3,y⟩=>.inl ⟨e3,?_⟩⟩;have:=y vs (.of h2);grind
def dA(lo:Int)(n:Nat):List D:=(WI n).map λk:Nat=>D.int (lo+k)
theorem R3{lo:Int}{d:D}(h:(dA lo n)[i]?=some d):i<n/\d=.int (lo+i):=by
 unfold dA at h;rw[Wj]at h;by_cases hi:i<n;.rw[List.getElem?_range hi]at h;simp at h;exact⟨hi,h.symm⟩
 .rw[WQ (~~~hi)]at h;cases h
theorem R4(lo:Int)(n:Nat):oN c Y Z H (tE lo n) (dA lo n):=by intro H2 kp;refine⟨by show n<=(dA lo n).length;simp[dA],λi d e=>?_⟩;obtain⟨hi,rfl⟩:=R3 e;exact⟨hi,λx H3⟨e3,ex⟩=>.inl ⟨e3,%[ex|.int _]⟩⟩
def oO(j:Int):Bool:=decide (-2^62<=j)&&decide (j<2^62)
def fP(f:DE):DI:=λZ=>(f Z).bind λr W'=>match r with|.pure (.int j)=>if oO j then .ok (dA 0 j.toNat) W' else .stuck|_=>.stuck
set_option tactic.hygienic true in theorem R5(hg:Gl X "range")(hm:X.mg "range"=none)(he:SE X c e fe)(hs:W9 [e] X.env=[(false,eval e X.env)]:=by rfl):SI X c tg (.Call (.Name "range" pp) [e] [] pos) (fP fe):=PI.weak (NB hg hm (dJ he f_ hs) hs) λY H R⟨Z,k,q⟩=>by unfold fP at q;rw[bh]at q;refine⟨Z,k,aQ q λr W' q1 v H1 a1 r1=>?_⟩;cases r with|own d=>exact q1.elim|pure d=>
 cases d<;>first|exact q1.elim|skip
 rename_i j;cases r1;simp only at q1;split at q1;.rename_i hj;unfold oO at hj;simp only[Wq,decide_eq_true_eq]at hj;exact⟨j,rfl,hj.1,hj.2,q1 _ H1 a1 (R4 0 j.toNat)⟩
 .exact q1.elim
noncomputable def forL(g:DG)(b:DS):List D->DS|[],Z=>.ok .next Z|d::r,Z=>match g (.pure d) Z with|none=>.stuck|some W'=>(b W').bind λfl SZ=>match fl with|.next=>forL g b r SZ|.cont=>forL g b r SZ|.brk=>.ok .next SZ|.ret v=>.ok (.ret v) SZ
def bC(it:DI)(g:DG)(b:DS):DS:=λZ=>(it Z).bind λds W'=>forL g b ds W'
theorem Ef{x}(io:oN c Y Z H J ds)(a:aG c Y Z H Pv SZ H2)(e:ds[i]?=some d)(y:J.pX i H2 x H3):aG c Pv SZ H2 Pv SZ H3/\Rep H3 (Av c Pv SZ) x d:=by
 obtain⟨_,t⟩:=io H2 a.keep;rcases(t i d e).2 x H3 y with⟨e3,r⟩|⟨p,vs,es,hp,e3,ex,ed,r⟩;.subst e3;exact⟨.refl a.ok,Rep.dg r a⟩
 .subst e3 ex ed;have:=aS.qo a.ok (aH.dg r a) hp;exact⟨.alloc a.ok hp _,this⟩
theorem Eg{iter:Expr}{it:DI}{g:DG}{b:DS}(hp:PassesOwn (model X.prog X.w) X.A X.env X.xe)(hc:X.calm=true)(hi:SI X c tg iter it)(hg:SG X c tg g)(hb:eN X c body b)(hs:∀x,Jj iter X.env x=pure x:=by intro _;rfl):SS X c (.For tg iter body [] pos) (bC it g b):=PS.weak (NF hp hc hi hg hb hs) λD Y H⟨Z,k,q⟩=>by
 unfold bC dO at q;rw[bh]at q;refine⟨Z,k,aQ q λds W' q1 J H1 a1 io=>?_⟩;refine⟨λi m Pv H2=>∃SZ,m=ds.length-i/\i<=ds.length/\aG c Y W' H1 Pv SZ H2/\dO c D Pv SZ H2 (forL g b (ds.drop i) SZ),⟨ds.length,W',U',Q5 _,.refl a1.ok,?_⟩,?_⟩;.rw[List.drop_zero];exact aQ q1 λfl SZ q2 Pv H2 a2=>q2 Pv H2 (a1.trans a2)
 .rintro i m Pv H2⟨SZ,rfl,yb,a2,p2⟩;by_cases bc:i<ds.length;.right;have e:ds[i]?=some ds[i]:=#v[bc];rw[QO bc]at p2;refine⟨((io H2 a2.keep).2 i _ e).1,λPi H4=>∃PP,aG c Y W' H1 Pi PP H4/\dO c D Pi PP H4 (forL g b (ds.drop (i+1)) PP),λPi H4⟨PP,a4,p4⟩=>⟨ds.length-(i+1),Y',PP,rfl,bc,a4,p4⟩,λx H3 y=>?_⟩;obtain⟨a3,r3⟩:=Ef io a2 e y;simp only[forL,dO]at p2;cases eg:g (.pure ds[i]) SZ with|none=>rw[eg]at p2;exact p2.elim|some SC=>rw[eg]at p2;refine⟨Pv,SZ,H3,SZ,.pure ds[i],SC,.refl a3.ok,r3,eg,λK' a3'=>?_⟩;have p3:post c ((b SC).bind λfl SZ=>match fl with|.next=>forL g b (ds.drop (i+1)) SZ|.cont=>forL g b (ds.drop (i+1)) SZ|.brk=>.ok .next SZ|.ret v=>.ok (.ret v) SZ) λfl S'=>∀SL H',aG c Pv SZ H2 SL S' H'->fin c D SL S' H' fl:=p2;rw[bh]at p3;have R6:aG c Pv SZ H2 K' SC H3:=a3.trans a3';refine⟨SC,a3'.ok,aQ p3 λfl PP p4 Pi H4 a4=>?_⟩;have ip:=R6.trans a4;cases fl with|next=>exact⟨PP,a2.trans ip,aQ p4 λfl KM p5 IR H5 a5=>p5 IR H5 (ip.trans a5)⟩|cont=>exact⟨PP,a2.trans ip,aQ p4 λfl KM p5 IR H5 a5=>p5 IR H5 (ip.trans a5)⟩|brk=>exact p4 Pi H4 ip|ret r=>exact p4 Pi H4 ip
  .left;have yc:i=ds.length:=by lia
   subst yc;rw[List.drop_length]at p2;exact⟨(io H2 a2.keep).1,p2 Pv H2 (.refl a2.ok)⟩
def gi(t:DT)(b:DS):Nat->DS|0,_=>.stuck|n+1,Z=>(t Z).bind λx W'=>if x then(b W').bind λfl SZ=>match fl with|.next=>gi t b n SZ|.cont=>gi t b n SZ|.brk=>.ok .next SZ|.ret v=>.ok (.ret v) SZ else .ok .next W'
theorem R7{t:DT}{b:DS}(n:Nat)(hw:∀{tt:TT}{tb:TS},PT X e tt->dI X body tb->PS X (.While e body [] pos) (B3 tt tb))(ht:ST X c e t)(hb:eN X c body b):SS X c (.While e body [] pos) (gi t b n):=PS.weak (hw ht hb) λD Y H⟨Z,k,q⟩=>by refine⟨λm Pv H2=>∃SZ,Ok c Pv SZ H2/\dO c D Pv SZ H2 (gi t b m SZ),⟨n,Z,k,q⟩,?_⟩;rintro m Pv H2⟨SZ,k2,q2⟩;cases m with|zero=>exact q2.elim|succ m=>simp only[gi,dO]at q2;rw[bh]at q2;refine⟨SZ,k2,aQ q2 λx SC q3 H3 a3=>?_⟩;cases x with|false=>exact q3 Pv H3 a3|true=>have p3:post c ((b SC).bind λfl SZ=>match fl with|.next=>gi t b m SZ|.cont=>gi t b m SZ|.brk=>.ok .next SZ|.ret v=>.ok (.ret v) SZ) λfl S'=>∀SL H',aG c Pv SZ H2 SL S' H'->fin c D SL S' H' fl:=q3;rw[bh]at p3;refine⟨λPi H4=>∃PP,Ok c Pi PP H4/\dO c D Pi PP H4 (gi t b m PP),λPi H4 w=>⟨m,Nat.lt_succ_self _,w⟩,SC,a3.ok,aQ p3 λfl PP p4 Pi H4 a4=>?_⟩;have ip:=a3.trans a4;cases fl with|next=>exact⟨PP,a4.ok,aQ p4 λfl KM p5 IR H5 a5=>p5 IR H5 (ip.trans a5)⟩|cont=>exact⟨PP,a4.ok,aQ p4 λfl KM p5 IR H5 a5=>p5 IR H5 (ip.trans a5)⟩|brk=>exact p4 Pi H4 ip|ret r=>exact p4 Pi H4 ip
def bp(cs:List Nat)(Z:Dl):Dl:=cs.foldl (λZ i=>Z.set i none) Z
def di(cs:List Nat)(Z₁ Z:Dl):Dl:=cs.foldl (λZ i=>match Z₁[i]? with|some o=>Z.set i o|none=>Z) Z
def dj(Z:Dl)(i:Nat):Bool:=match Z[i]? with|some (some (.own _))=>true|_=>false
theorem Eh(cs:List Nat):∀Z:Dl,(bp cs Z).length=Z.length:=by induction cs with|nil=>intro Z;rfl|cons i r ih=>intro Z;show(bp r (Z.set i none)).length=_;rw[ih];simp
theorem iU:∀(cs:List Nat)(Z:Dl)(i:Nat)(v:S),(bp cs Z)[i]?=some (some v)->Z[i]?=some (some v)/\i∉cs:=by intro cs;induction cs with|nil=>intro Z i v h;exact⟨h,U'⟩|cons j r ih=>
 intro Z i v h;have h':(bp r (Z.set j none))[i]?=some (some v):=h;obtain⟨h1,h2⟩:=ih _ i v h';by_cases e:j=i;.subst e;rw[Q4]at h1;simp at h1
 .rw[Wd e]at h1;exact⟨h1,by simp only[Wt,not_or];exact⟨Ne.symm e,h2⟩⟩
theorem kO:∀(cs:List Nat)(Y:St)(i:Nat),i∉cs->(bA cs Y)[i]?=Y[i]?:=by intro cs;induction cs with|nil=>intro Y i _;rfl|cons j r ih=>intro Y i h;simp only[Wt,not_or]at h;show(bA r (Y.set j none))[i]?=_;rw[ih _ _ h.2,Wd (Ne.symm h.1)]
theorem R8:∀(cs:List Nat)(Z:Dl)(i:Nat),i∉cs->(bp cs Z)[i]?=Z[i]?:=by intro cs;induction cs with|nil=>intro Y i _;rfl|cons j r ih=>intro Y i h;simp only[Wt,not_or]at h;show(bp r (Y.set j none))[i]?=_;rw[ih _ _ h.2,Wd (Ne.symm h.1)]
theorem R9(cs:List Nat)(Z₁:Dl):∀Z:Dl,(di cs Z₁ Z).length=Z.length:=by induction cs with|nil=>intro Z;rfl|cons i r ih=>intro Z;unfold di;rw[U0];have:=ih (match Z₁[i]? with|some o=>Z.set i o|none=>Z);unfold di at this;rw[this];cases Z₁[i]?<;>simp
theorem uz:∀(cs:List Nat)(Z₁ Z:Dl)(i:Nat),i∉cs->(di cs Z₁ Z)[i]?=Z[i]?:=by intro cs Z₁;induction cs with|nil=>intro Z i _;rfl|cons j r ih=>intro Z i h;simp only[Wt,not_or]at h;unfold di;rw[U0];have:=ih (match Z₁[j]? with|some o=>Z.set j o|none=>Z) i h.2;unfold di at this;rw[this];cases Z₁[j]? with|none=>rfl|some o=>simp only;rw[Wd (Ne.symm h.1)]
theorem yd:∀(cs:List Nat)(Z₁ Z:Dl)(i:Nat),Z₁.length=Z.length->i∈cs->(di cs Z₁ Z)[i]?=Z₁[i]?:=by intro cs Z₁;induction cs with|nil=>intro Z i _ h;simp at h|cons j r ih=>
  intro Z i hl h;unfold di;rw[U0];have m4:Z₁.length=(match Z₁[j]? with|some o=>Z.set j o|none=>Z).length:=by cases Z₁[j]?<;>simp[hl]
  by_cases hr:i∈r;.have:=ih (match Z₁[j]? with|some o=>Z.set j o|none=>Z) i m4 hr;unfold di at this;exact this
  .have e:i=j:=by grind
   subst e;have:=uz r Z₁ (match Z₁[i]? with|some o=>Z.set i o|none=>Z) i hr;unfold di at this;rw[this];cases e:Z₁[i]? with|none=>simp only;have:=List.getElem?_eq_none_iff.mp e;exact WQ Y'|some o=>simp only;have:=(W6.mp e).1;rw[Wv Y']
section
variable{l:Addr}
theorem Ok.less(k:Ok (c.plus l) Y Z H):Ok c Y Z H:=by
 have sub:∀b,Av c Y Z b->Av (c.plus l) Y Z b:=λb z=>z.elim (λz=>.inl (.inl z)) .inr;refine⟨k.keep,λa z=>k.bd a (.inl z),k.cR,k.len,λi d e=>?_,λi d e=>?_,k.inj,k.pinned⟩;.obtain⟨v,h1,h2⟩:=k.slot i d e;exact⟨v,h1,h2.aP λb z=>.inl (sub b z)⟩
 .obtain⟨a,h1,h2,h3,h4⟩:=k.own i d e;exact⟨a,h1,h2.aP λb z=>.inl (sub b z),h3,λz=>h4 (.inl z)⟩
theorem Ok.R_(k:Ok c Y Z H)(hb:c.B l)(h0:c.H₀ l=none)(o:HO):Ok c Y Z (upd H l o):=by
 have kp:∀b w,H b=some w->¬Av c Y Z b->upd H l o b=some w:=λb w e n=>by rw[aO λz=>n %[z|.inl hb]];exact e
 have ik:∀b w,H b=some w->∃w',upd H l o b=some w':=λb w h=>by
  by_cases hb:b=l;.exact⟨_,%[hb|bS]⟩
  .exact⟨w,%[aO hb|h]⟩
 refine⟨λa w e n=>?_,λa z=>?_,λa z=>?_,k.len,λi d e=>?_,λi d e=>?_,k.inj,k.pinned⟩
 .have:a≠l:=λz=>by grind
  rw[aO this];exact k.keep a w e n
 .obtain⟨w,e⟩:=k.bd a z;exact ik a w e
 .obtain⟨w,e⟩:=k.cR a z;exact ik a w e
 .obtain⟨v,h1,h2⟩:=k.slot i d e;exact⟨v,h1,h2.keep kp⟩
 .obtain⟨a,h1,h2,h3,h4⟩:=k.own i d e;have:a≠l:=λz=>h4 %[z|hb];exact⟨a,h1,h2.keep kp λw q=>%[aO this|q],h3,h4⟩
theorem Own.bA(h:Own (bA cs Y) (bp cs Z) l):Own Y Z l:=by obtain⟨i,d,e1,e2⟩:=h;exact⟨i,d,(iU cs Z i _ e1).1,(lT cs Y i _ e2).1⟩
theorem Ok.bA(k:Ok c Y Z H)(hp:∀p∈c.pin,p.1∉cs):Ok c (Lake.bA cs Y) (bp cs Z) H:=by
 have sub:∀b,Av c (Lake.bA cs Y) (bp cs Z) b->Av c Y Z b:=λb z=>z.elim .inl λz=>.inr z.bA;refine⟨k.keep,k.bd,k.cR,%[Eh,tS|k.len],λi d e=>?_,λi d e=>?_,λi j a d d' e1 e2 e3 e4=>?_,λp hm=>?_⟩;.obtain⟨e',hi⟩:=iU cs Z i _ e;obtain⟨v,h1,h2⟩:=k.slot i d e';exact⟨v,%[kO cs Y i hi|h1],h2.aP λb z=>.inl (sub b z)⟩
 .obtain⟨e',hi⟩:=iU cs Z i _ e;obtain⟨a,h1,h2,h3⟩:=k.own i d e';exact⟨a,%[kO cs Y i hi|h1],h2.aP λb z=>.inl (sub b z),h3⟩
 .exact k.inj i j a d d' (iU cs Z i _ e1).1 (iU cs Z j _ e2).1 (lT cs Y i _ e3).1 (lT cs Y j _ e4).1
 .rw[kO cs Y _ (hp p hm)];exact k.pinned p hm
theorem aG.back(k:Ok c₀ Y Z H)(uA:c.pin=c₀.pin)(hB:∀b,c.B b->c₀.B b\/H b=none)(ic:cs.any (dj Z)=false)(x:aG c (Lake.bA cs Y) (bp cs Z) H (Lake.bA cs Y) S' H'):aG c Y Z H Y (di cs Z S') H':=by
 have len:Z.length=S'.length:=by have:=x.ok.len;rw[tS]at this;rw[this];exact k.len
 have g_:∀i d,i∈cs->Z[i]?≠some (some (.own d)):=λi d hi e=>by have:=List.any_eq_false.mp ic i hi;unfold dj at this;rw[e]at this;simp at this
 have ownOut:∀i d,(di cs Z S')[i]?=some (some (.own d))->i∉cs/\S'[i]?=some (some (.own d)):=λi d e=>by
  by_cases hi:i∈cs;.rw[yd cs Z S' i len hi]at e;exact absurd e (g_ i d hi)
  .rw[uz cs Z S' i hi]at e;exact⟨hi,e⟩
 have sub:∀b,Own Y (di cs Z S') b->Own (Lake.bA cs Y) S' b:=λb⟨i,d,e1,e2⟩=>by obtain⟨hi,e⟩:=ownOut i d e1;exact⟨i,d,e,%[kO cs Y i hi|e2]⟩
 have m_:∀b,Av c Y (di cs Z S') b->Av c (Lake.bA cs Y) S' b:=λb z=>z.elim .inl λz=>.inr (sub b z);have ownEq:∀b,Own Y Z b->Own (Lake.bA cs Y) (bp cs Z) b:=λb⟨i,d,e1,e2⟩=>by have hi:i∉cs:=λz=>g_ i d z e1;exact⟨i,d,%[R8 cs Z i hi|e1],%[kO cs Y i hi|e2]⟩
 refine⟨⟨x.ok.keep,x.ok.bd,x.ok.cR,by rw[R9,<-len];exact k.len,λi d e=>?_,λi d e=>?_,λi j a d d' e1 e2 e3 e4=>?_,%[uA|k.pinned]⟩,λa o e n=>?_,λa z=>?_,x.there⟩
 .by_cases hi:i∈cs
  .rw[yd cs Z S' i len hi]at e;obtain⟨v,h1,h2⟩:=k.slot i d e;have h3:Rep H (Av c (Lake.bA cs Y) (bp cs Z)) v d:=h2.aP λb z=>by
    rcases z with z|z;.exact(hB b z).elim (λz=>.inl (.inl z)) .inr
    .exact .inl (.inr z.bA)
   exact⟨v,h1,(Rep.dg h3 x).aP λb z=>.inl (m_ b z)⟩
  .rw[uz cs Z S' i hi]at e;obtain⟨v,h1,h2⟩:=x.ok.slot i d e;exact⟨v,(lT cs Y i v h1).1,h2.aP λb z=>.inl (m_ b z)⟩
 .obtain⟨hi,e'⟩:=ownOut i d e;obtain⟨a,h1,h2,h3⟩:=x.ok.own i d e';exact⟨a,(lT cs Y i _ h1).1,h2.aP λb z=>.inl (m_ b z),h3⟩
 .obtain⟨hi,f1⟩:=ownOut i d e1;obtain⟨hj,f2⟩:=ownOut j d' e2;exact x.ok.inj i j a d d' f1 f2 %[kO cs Y i hi|e3] %[kO cs Y j hj|e4]
 .exact x.keep a o e λz=>n z.bA
 .rcases x.own a (sub a z)with q|q;.exact .inl q.bA
  .exact .inr q
end
noncomputable def dU(cs:List Nat)(g:DG)(t:DT)(el:DE):List D->Dl->List D->Rs (List D)|[],Z,acc=>.ok acc Z|d::r,Z,acc=>match g (.pure d) Z with|none=>.stuck|some W'=>(t W').bind λb SZ=>if b then(el SZ).bind λx SC=>if acc.length<Wb then dU cs g t el r (bp cs SC) (acc++[x.d])else .stuck else dU cs g t el r (bp cs SZ) acc
def cb(cs:List Nat)(it:DI)(g:DG)(t:DT)(el:DE):DE:=λZ=>(it Z).bind λds W'=>if cs.any (dj W')then .stuck else(dU cs g t el ds (bp cs W') []).bind λacc SZ=>.ok (.own (.lst acc)) (di cs W' SZ)
def cH:DT:=λZ=>.ok true Z
abbrev qD(X:Cx)(c:Fc)(ifs:List Expr)(t:DT):Prop:=oE X ifs (tT c t)
theorem Sa:qD X c [] cH:=λpins s Y H Q I⟨Z,k,q⟩=>O6 pins s Y H Q I (q H (.refl k))
theorem Sb{t:DT}(h:ST X c e t):qD X c [e] t:=O7 h
section
variable{iter:Expr}{it:DI}{g:DG}{t:DT}
theorem aG.clear(x:aG c (Lake.bA cs Y) Z H Pi PP H4)(le:Le (Lake.bA cs Y) Pi)(hp:∀p∈c.pin,p.1∉cs)(hs:∀(i:Nat)v,Pi[i]?=some (some v)->i∉cs->Y[i]?=some (some v)):aG c (Lake.bA cs Y) Z H (Lake.bA cs Y) (bp cs PP) H4:=by
 have eq:∀i,i∉cs->∀v,Pi[i]?=some (some v)->(Lake.bA cs Y)[i]?=some (some v):=λi hi v e=>%[kO cs Y i hi|hs i v e hi];have own:∀b,Own (Lake.bA cs Y) (bp cs PP) b->Own Pi PP b:=λb⟨i,d,e1,e2⟩=>by exact⟨i,d,(iU cs PP i _ e1).1,le.2 i _ e2⟩
 have sub:∀b,Av c (Lake.bA cs Y) (bp cs PP) b->Av c Pi PP b:=λb z=>z.elim .inl λz=>.inr (own b z);have k:=x.ok;refine⟨⟨k.keep,k.bd,k.cR,%[Eh,k.len|le.1],λi d e=>?_,λi d e=>?_,λi j a d d' e1 e2 e3 e4=>?_,λp hm=>?_⟩,x.keep,λa z=>x.own a (own a z),x.there⟩;.obtain⟨e',hi⟩:=iU cs PP i _ e;obtain⟨v,h1,h2⟩:=k.slot i d e';exact⟨v,eq i hi v h1,h2.aP λb z=>.inl (sub b z)⟩
 .obtain⟨e',hi⟩:=iU cs PP i _ e;obtain⟨a,h1,h2,h3⟩:=k.own i d e';exact⟨a,eq i hi _ h1,h2.aP λb z=>.inl (sub b z),h3⟩
 .exact k.inj i j a d d' (iU cs PP i _ e1).1 (iU cs PP j _ e2).1 (le.2 i _ e3) (le.2 j _ e4)
 .exact eq p.1 (hp p hm) _ (k.pinned p hm)
def Out(cs:List Nat)(Y SL:St):Prop:=SL.length=Y.length/\∀i,i∉cs->SL[i]?=Y[i]?
theorem Out.trans(a:Out cs Y SL)(b:Out cs SL Y''):Out cs Y Y'':=⟨b.1.trans a.1,λi h=>(b.2 i h).trans (a.2 i h)⟩
def uB(cs:List Nat)(c:Fc)(g:DG):TG:=λv Y H Q=>∃Y₀ Z₀ H₁ Z r S',aG c Y₀ Z₀ H₁ Y Z H/\aS c Y Z H₁ H v r/\g r Z=some S'/\∀SL,aG c Y₀ Z₀ H₁ SL S' H->Out cs Y SL->Q SL H
abbrev oP(X:Cx)(c:Fc)(cs:List Nat)(tg:Expr)(g:DG):Prop:=PG X tg (uB cs c g)
set_option tactic.hygienic true in theorem Se(hp:Np c np)(hN:X.N.Nodup)(hi:X.N[i]?=some x)(hx:Loc X.env.scope x)(hf:X.fn x=true\/X.env.scope.names.lookup x=some .local)(hc:i∈cs):oP X c cs (.Name x pos) (ak np i):=PG.weak (BW hN hi hx hf) λv Y H Q hh=>by
 obtain⟨Y₀,Z₀,H₁,Z,r,S',x,rr,e,q⟩:=hh
 unfold ak at e;split at e;.cases e
 .rename_i hn;cases e;refine q _ (Ok.set x rr λp hm e=>hn (by rw[<-e];exact hp p hm)) ⟨U',λj hj=>?_⟩;rw[Wd λz=>hj (by rw[<-z];exact hc)]
def Sf(cs:List Nat)(c:Fc)(g:iT):lM:=λvs Y H Q=>∃Z ds S',Ok c Y Z H/\aH H (Av c Y Z) vs ds/\g ds Z=some S'/\∀SL,aG c Y Z H SL S' H->Out cs Y SL->Q SL H
abbrev qE(X:Cx)(c:Fc)(cs:List Nat)(tg:List Expr)(g:iT):Prop:=h9 X tg (Sf cs c g)
theorem Sg:qE X c cs [] bX:=h9.weak BX λvs Y H Q hh=>by
 obtain⟨Z,ds,S',k,r,e,q⟩:=hh
 cases ds with|nil=>
 cases e;have:vs=[]:=by have:=r.1;simpa using this
 exact⟨this,q Y (.refl k) ⟨rfl,λj j=>rfl⟩⟩|cons d r=>cases e
theorem Sh{g:DG}(h1:oP X c cs e g)(h2:qE X c cs es gs)(hs:(Qo (e::es) X.env).map (·.2)=assign e X.env::(Qo es X.env).map (·.2):=by rfl):qE X c cs (e::es) (aT g gs):=h9.weak (BY h1 h2 hs) λvs Y H Q hh=>by obtain⟨Z,ds,S',k,r,e,q⟩:=hh;cases ds with|nil=>cases e|cons d ds=>cases vs with|nil=>have:=r.1;simp at this|cons v vs=>simp only[aT]at e;cases e1:g (.pure d) Z with|none=>rw[e1]at e;cases e|some W'=>rw[e1]at e;refine⟨v,vs,rfl,Y,Z,H,Z,.pure d,W',.refl k,r.head,e1,λOn a1 o1=>?_⟩;exact⟨W',ds,S',a1.ok,aH.dg r.tail a1,e,λPv a2 o2=>q Pv (a1.trans a2) (o1.trans o2)⟩
set_option tactic.hygienic true in theorem Si{k:Nat}(hc:X.calm=true)(h:qE X c cs es gs)(hn:(Qo es X.env).length=n:=by rfl)(cE:(Qo es X.env).findIdx? (·.1)=none:=by rfl):oP X c cs (.Tuple es k pos) (bR n gs):=PG.weak (BZ hc h hn cE) λv Y H Q hw=>by
 obtain⟨Y₀,Z₀,H₁,Z,r,S',x,rr,e,q⟩:=hw;have hb:=rr.b;unfold bR at e;generalize r.d=d at e hb;cases d<;>first|(cases e;done)|skip
 rename_i ds;simp only at e;split at e;.rename_i hl;obtain⟨a,vs,ea,ha,ra⟩:=hb.tup;exact⟨a,vs,ea,.of ha,%[ra.1|hl],Z,ds,S',x.ok,ra,e,λSL a1 o1=>q SL (x.trans a1) o1⟩
 .cases e
theorem aG.less(x:aG (c.plus l) Y Z H SL S' H'):aG c Y Z H SL S' H':=⟨x.ok.less,x.keep,x.own,x.there⟩
set_option tactic.hygienic true in theorem Ei{Q}(Sj:∀Y H R,tI c it Y H R->wi Y H R)(hg:∀l v Y H Q,uB cs (c.plus l) g v Y H Q->gt v Y H Q)(ht:∀l Y H Q,tT (c.plus l) t Y H Q->tt Y H Q)(he:∀l Y H Q,tD (c.plus l) el Y H Q->te Y H Q)(hp:∀p∈c.pin,p.1∉cs)(h:tD c (cb cs it g t el) Y H Q):xE cs wi gt tt te Y H Q:=by
 obtain⟨Z,k,q⟩:=h;unfold cb at q;rw[bh]at q;refine Sj _ _ _ ⟨Z,k,aQ q λds W' q1 J H1 a1 io=>?_⟩;intro l hl;split at q1;.exact q1.elim
 .rename_i ic;have Ej:cs.any (dj W')=false:=by grind
  rw[bh]at q1;have k1:=a1.ok;have kp:=k1.plus hl (.lst []);have k0:Ok (c.plus l) (Lake.bA cs Y) (bp cs W') (upd H1 l (.lst [])):=kp.bA hp;have up:∀a w,H1 a=some w->upd H1 l (.lst []) a=some w:=λa w e=>by rw[aO (d_ e hl)];exact e
  have h0:c.H₀ l=none:=k1.kK hl;have ye:oN (c.plus l) (Lake.bA cs Y) (bp cs W') H1 J ds:=by
   intro H2 kp2;obtain⟨s1,s2⟩:=io H2 λa o e n=>kp2 a o e λz=>n z.bA;have cv:∀{x:V}{d:D},Rep H1 (Av c Y W') x d->Rep H1 (Av (c.plus l) (Lake.bA cs Y) (bp cs W')) x d:=λ{x d}r=>r.aP λb z=>by
     rcases z with(z|z)|z;.exact .inl (.inl z)
     .exact .inr %[z|hl]
     .exact .inl (.inr z.bA)
   refine⟨s1,λi d e=>⟨(s2 i d e).1,λx H3 y=>?_⟩⟩;rcases(s2 i d e).2 x H3 y with⟨e3,r⟩|⟨p,vs,es,hp,e3,ex,ed,r⟩;.exact .inl ⟨e3,cv r⟩
   .exact .inr ⟨p,vs,es,hp,e3,ex,ed,r.1,λi v d e1 e2=>cv (r.2 i v d e1 e2)⟩
  let Fin:List D->Dl->Prop:=λacc S'=>∀H' vs,aG (c.plus l) (Lake.bA cs Y) (bp cs W') H1 (Lake.bA cs Y) S' H'->H' l=some (.lst vs)->aH H' (Av (c.plus l) (Lake.bA cs Y) S') vs acc->Q (.ref l) H';have q2:post c (dU cs g t el ds (bp cs W') []) Fin:=aQ q1 λacc SZ q2 H' vs x hv r=>by
   have b1:aG (c.plus l) Y W' H1 Y (di cs W' SZ) H':=aG.back k1 rfl (λb z=>z.elim .inl λz=>.inr %[z|hl]) Ej x;have b2:aG c Y W' H1 Y (di cs W' SZ) H':=b1.less;have len:W'.length=SZ.length:=by have:=x.ok.len;rw[tS]at this;rw[this];exact k1.len
   have Sk:H l=none:=by cases e:H l with|none=>rfl|some o=>obtain⟨o',e'⟩:=a1.there l o e;grind
   refine q2 _ H' (a1.trans b2) ⟨l,rfl,⟨vs,hv,aH.aP r λb z=>.inl ?_⟩,λz=>k1.iP hl (.inl z),h0,b1.ok,Sk⟩;rcases z with z|⟨i,d,e1,e2⟩;.exact .inl z
   .have hi:i∉cs:=λhi=>by rw[yd cs W' SZ i len hi]at e1;have:=List.any_eq_false.mp Ej i hi;unfold dj at this;rw[e1]at this;simp at this
    rw[uz cs W' SZ i hi]at e1;exact .inr ⟨i,d,e1,%[kO cs Y i hi|e2]⟩
  refine⟨λi m H2=>∃SZ acc vs,m=ds.length-i/\i<=ds.length/\aG (c.plus l) (Lake.bA cs Y) (bp cs W') H1 (Lake.bA cs Y) SZ H2/\H2 l=some (.lst vs)/\aH H2 (Av (c.plus l) (Lake.bA cs Y) SZ) vs acc/\post c (dU cs g t el (ds.drop i) SZ acc) Fin,⟨ds.length,bp cs W',[],[],U',Q5 _,⟨k0,λa w e _=>up a w e,λa z=>.inl z,λa w e=>⟨w,up a w e⟩⟩,bS,.nil,%[List.drop_zero|q2]⟩,?_⟩;rintro i m H2⟨SZ,acc,vs,rfl,yb,a2,hv,rv,p2⟩;by_cases bc:i<ds.length;.right;have e:ds[i]?=some ds[i]:=#v[bc];rw[QO bc]at p2;refine⟨((ye H2 a2.keep).2 i _ e).1,λx H3 y=>hg l _ _ _ _ ?_⟩;obtain⟨a3,r3⟩:=Ef ye a2 e y;simp only[dU]at p2;cases eg:g (.pure ds[i]) SZ with|none=>rw[eg]at p2;exact p2.elim|some SC=>
    rw[eg]at p2;have p3:post c ((t SC).bind λb SZ=>if b then(el SZ).bind λx SC=>if acc.length<Wb then dU cs g t el (ds.drop (i+1)) (bp cs SC) (acc++[x.d])else .stuck else dU cs g t el (ds.drop (i+1)) (bp cs SZ) acc) Fin:=p2;refine⟨Lake.bA cs Y,SZ,H3,SZ,.pure ds[i],SC,.refl a3.ok,r3,eg,λPi a4 o4=>?_⟩;have le:Le (Lake.bA cs Y) Pi:=⟨o4.1,λj v ej=>by rw[o4.2 j (lT cs Y j v ej).2];exact ej⟩;have hs:∀(j:Nat)v,Pi[j]?=some (some v)->j∉cs->Y[j]?=some (some v):=λj v ej hj=>by rw[o4.2 j hj]at ej;exact(lT cs Y j v ej).1
    refine⟨le,ht l _ _ _ ⟨SC,a4.ok,?_⟩⟩;rw[bh]at p3;have Ek:∀p∈(c.plus l).pin,p.1∉cs:=hp;have ip:=a2.trans (a3.trans a4);have ln:∀{SL:St}{S':Dl}{H':Hp},Ok (c.plus l) SL S' H'->¬Own SL S' l:=λ{SL S' H'}k=>oG k;have Sl:post (c.plus l) (t SC) λb KM=>post c (if b then(el KM).bind λx SC=>if acc.length<Wb then dU cs g t el (ds.drop (i+1)) (bp cs SC) (acc++[x.d])else .stuck else dU cs g t el (ds.drop (i+1)) (bp cs KM) acc) Fin:=p3;refine aQ Sl λb KM p5 H5 a5=>?_;have Em:=ip.trans a5;have Sm:H3 l=some (.lst vs):=a3.keep l _ hv (ln a2.ok);have En:H5 l=some (.lst vs):=a5.keep l _ Sm (ln a4.ok);have Eo:=aH.dg (aH.dg (aH.dg rv a3) a4) a5;cases b with|false=>have c5:=Em.clear le Ek hs;refine⟨ds.length-(i+1),Y',bp cs KM,acc,vs,rfl,bc,c5,En,aH.aP Eo λb z=>.inl ?_,p5⟩;exact z.elim .inl λ⟨j,d,e1,e2⟩=>.inr ⟨j,d,(iU cs KM j _ e1).1,le.2 j _ e2⟩|true=>
     have Ep:post c ((el KM).bind λx SC=>if acc.length<Wb then dU cs g t el (ds.drop (i+1)) (bp cs SC) (acc++[x.d])else .stuck) Fin:=p5;rw[bh]at Ep;refine he l _ _ _ ⟨KM,a5.ok,?_⟩;have p6:post (c.plus l) (el KM) λx KB=>post c (if acc.length<Wb then dU cs g t el (ds.drop (i+1)) (bp cs KB) (acc++[x.d])else .stuck) Fin:=Ep;refine aQ p6 λx KB p7 v H6 a6 r6=>?_;split at p7
     .rename_i hz;have Sn:=Em.trans a6;have So:H6 l=some (.lst vs):=a6.keep l _ En (ln a5.ok);have Er:=aH.dg Eo a6;have rr:aH H6 (Av (c.plus l) Pi KB) (vs++[v]) (acc++[x.d]):=Er.append (.cons r6.rep .nil);have c6:=Sn.clear le Ek hs;have uC:∀b o,H6 b=some o->¬Av (c.plus l) Pi KB b->upd H6 l (.lst (vs++[v])) b=some o:=λb o e n=>by rw[aO λz=>n %[z|.inl (.inr rfl)]];exact e
      have Sq:∀b,Av (c.plus l) (Lake.bA cs Y) (bp cs KB) b->Av (c.plus l) Pi KB b:=λb z=>z.elim .inl λ⟨j,d,e1,e2⟩=>.inr ⟨j,d,(iU cs KB j _ e1).1,le.2 j _ e2⟩;refine⟨vs,ds.length-(i+1),So,%[Er.1|hz],Y',bp cs KB,acc++[x.d],vs++[v],rfl,bc,?_,bS,aH.aP (aH.keep rr uC) λb z=>.inl (Sq b z),p7⟩;refine⟨c6.ok.R_ (.inr rfl) h0 _,λa o ea n=>?_,λa z=>c6.own a z,λa o ea=>?_⟩
      .have kP:a≠l:=λz=>by grind
       rw[aO kP];exact c6.keep a o ea n
      .by_cases kP:a=l;.grind
       .obtain⟨o',e'⟩:=c6.there a o ea;exact⟨o',%[aO kP|e']⟩
     .exact p7.elim
  .left;have yc:i=ds.length:=by lia
   subst yc;rw[List.drop_length]at p2;exact⟨(ye H2 a2.keep).1,p2 H2 vs a2 hv rv⟩
theorem Sr(hc:X.calm=true)(S:mV X scope cs)(hi:SI X c tg iter it)(hg:∀l s₀ H₀ ex,oP (fN X scope s₀ H₀ ex) (c.plus l) cs tg g)(ht:∀l s₀ H₀ ex,qD (fN X scope s₀ H₀ ex) (c.plus l) ifs t)(he:∀l s₀ H₀ ex,SE (fN X scope s₀ H₀ ex) (c.plus l) elt el)(hp:∀p∈c.pin,p.1∉cs)(hs:∀x,Jj iter X.env x=pure x:=by intro _;rfl):SE X c (.ListComp elt [⟨tg,iter,ifs,0⟩] scope pos) (cb cs it g t el):=PE.weak (Pd (g:=λv Y H Q=>∃l,uB cs (c.plus l) g v Y H Q) (tt:=λY H Q=>∃l,tT (c.plus l) t Y H Q) (te:=λY H Q=>∃l,tD (c.plus l) el Y H Q) hc S hi (λs₀ H₀ ex pins s Y H v u Q I r⟨l,q⟩=>hg l s₀ H₀ ex pins s Y H v u Q I r q) (λs₀ H₀ ex pins s Y H Q I⟨l,q⟩=>ht l s₀ H₀ ex pins s Y H Q I q) (λs₀ H₀ ex pins s Y H Q I⟨l,q⟩=>he l s₀ H₀ ex pins s Y H Q I q) hs) λY H Q h=>Ei (λj j j h=>h) (λl j j j j h=>⟨l,h⟩) (λl j j j h=>⟨l,h⟩) (λl j j j h=>⟨l,h⟩) hp h
theorem Ss{y:Str}{tY:Pos}(dW:Np c np)(hc:X.calm=true)(S:mV X scope cs)(hN:X.N.Nodup)(eG:X.N[i]?=some y)(hy:X.env.scope.names.lookup y=some .local)(hi:SI X c tg iter it)(hg:∀l s₀ H₀ ex,oP (fN X scope s₀ H₀ ex) (c.plus l) cs tg g)(ht:∀l s₀ H₀ ex,qD (fN X scope s₀ H₀ ex) (c.plus l) ifs t)(he:∀l s₀ H₀ ex,SE (fN X scope s₀ H₀ ex) (c.plus l) elt el)(hp:∀p∈c.pin,p.1∉cs)(qk:JB (.ListComp elt [⟨tg,iter,ifs,0⟩] scope pos) (some (.Name y py)) tY.line X.env=pure true:=by rfl)(hs:∀x,Jj iter X.env x=pure x:=by intro _;rfl):SS X c (.Assign [.Name y py] (.ListComp elt [⟨tg,iter,ifs,0⟩] scope pos) tY) (az (cb cs it g t el) (ak np i)):=PS.weak (Pe (g:=λv Y H Q=>∃l,uB cs (c.plus l) g v Y H Q) (tt:=λY H Q=>∃l,tT (c.plus l) t Y H Q) (te:=λY H Q=>∃l,tD (c.plus l) el Y H Q) hc S hN eG hy hi (λs₀ H₀ ex pins s Y H v u Q I r⟨l,q⟩=>hg l s₀ H₀ ex pins s Y H v u Q I r q) (λs₀ H₀ ex pins s Y H Q I⟨l,q⟩=>ht l s₀ H₀ ex pins s Y H Q I q) (λs₀ H₀ ex pins s Y H Q I⟨l,q⟩=>he l s₀ H₀ ex pins s Y H Q I q) qk hs) λD Y H h=>x9 (λY H Q h=>Ei (λj j j h=>h) (λl j j j j h=>⟨l,h⟩) (λl j j j h=>⟨l,h⟩) (λl j j j h=>⟨l,h⟩) hp h) (λj j j j h=>x8 dW h) h
end
abbrev DF:=List S->Option (S×List S)
variable{G:DF}
def bq:Nat->List S->List V->List (Nat×Addr)|n,.own _::ss,.ref a::vs=>(n,a)::bq (n+1) ss vs|n,_::ss,_::vs=>bq (n+1) ss vs|_,_,_=>[]
theorem iV:∀{n:Nat}{ss:List S}{vs:List V}{i:Nat}{a:Addr},(i,a)∈bq n ss vs->∃j d,i=n+j/\ss[j]?=some (.own d)/\vs[j]?=some (.ref a)
 |n,[],vs,i,a,h=>by simp[bq]at h|n,s::ss,[],i,a,h=>by cases s<;>simp[bq]at h|n,s::ss,v::vs,i,a,h=>by
  have yf:(i,a)∈bq (n+1) ss vs->∃j d,i=n+j/\(s::ss)[j]?=some (.own d)/\(v::vs)[j]?=some (.ref a):=λh=>by obtain⟨j,d,e,h1,h2⟩:=iV h;exact⟨j+1,d,Y',~~~h1,~~~h2⟩
  cases s with|pure d=>exact yf h|own d=>
 cases v with|ref b=>
    rcases Wt.mp h with e|h;.cases e;exact⟨0,d,rfl,rfl,rfl⟩
    .exact yf h|_=>exact yf h
theorem uD:∀{n:Nat}{ss:List S}{vs:List V}{j:Nat}{d:D}{a:Addr},ss[j]?=some (.own d)->vs[j]?=some (.ref a)->(n+j,a)∈bq n ss vs
 |n,[],vs,j,d,a,h,_=>by simp at h|n,s::ss,[],j,d,a,_,h=>by simp at h|n,s::ss,v::vs,0,d,a,h1,h2=>by simp at h1 h2;subst h1 h2;exact Wl|n,s::ss,v::vs,j+1,d,a,h1,h2=>by
  have ih:=uD (n:=n+1) (ss:=ss) (vs:=vs) (j:=j) (d:=d) (a:=a) (~~~h1) (~~~h2);have e:n+1+j=n+(j+1):=by lia
  rw[e]at ih;cases s with|pure d=>exact ih|own d=>cases v with|ref b=>exact Wi _ ih|_=>exact ih
abbrev bJ(vs:List V):St:=vs.map some
abbrev bP(ss:List S):Dl:=ss.map some
theorem eY{r:S}:(bP ss)[i]?=some (some r)↔ss[i]?=some r:=by rw[Wj];cases ss[i]?<;>simp
theorem fG:(bJ vs)[i]?=some (some v)↔vs[i]?=some v:=by rw[Wj];cases vs[i]?<;>simp
def oQ(n:Nat)(G:DF):Sp:=λvs H Q j=>∃ss B,vs.length=n/\Ok ⟨H,B,bq 0 ss vs,λj j=>False⟩ (bJ vs) (bP ss) H/\∃r aC,G ss=some (r,aC)/\∀v H',aG ⟨H,B,bq 0 ss vs,λj j=>False⟩ (bJ vs) (bP ss) H (bJ vs) (bP aC) H'->aS ⟨H,B,bq 0 ss vs,λj j=>False⟩ (bJ vs) (bP aC) H H' v r->Q v H'
def aW(P:Wn)(w:Ws)(K:W3)(mg:Str->Option Value)(base:Heap)(k:Nat)(x:Str)(n:Nat)(G:DF):Prop:=∃(f:Addr)(fd:WR)(ps:List Str),mg x=some (.ref f)/\Qm K (.ref f)=true/\Binds K fd ps []/\gc P w K mg base cY k f fd ps (oQ n G)
def bx(n:Nat)(ss:List S):Dl:=bP ss++Ww (n-ss.length) none
def bF:Nat->List S->Dl->Option (List S)|_,[],_=>some []|n,.pure d::ss,Z=>(bF (n+1) ss Z).map (.pure d::.)|n,.own _::ss,Z=>match Z[n]? with|some (some (.own d'))=>(bF (n+1) ss Z).map (.own d'::.)|_=>none
noncomputable def c_:Fl->Option S|.next=>some (.pure .ax)|.ret r=>some r|_=>none
def dP(f:DS)(n:Nat)(ss:List S):Option (S×List S):=match f (bx n ss)with|.ok fl Z=>(c_ fl).bind λr=>(bF 0 ss Z).map λaC=>(r,aC)|_=>none
def cy(np:List Nat):Nat->List S->Bool|_,[]=>true|n,.own _::ss=>np.contains n&&cy np (n+1) ss|n,.pure _::ss=>cy np (n+1) ss
theorem oR:∀{n:Nat}{ss:List S}{j:Nat}{d:D},cy np n ss=true->ss[j]?=some (.own d)->np.contains (n+j)=true
 |n,[],j,d,_,h=>by simp at h|n,s::ss,0,d,h,e=>by simp at e;subst e;simp only[cy,Wq]at h;exact h.1|n,s::ss,j+1,d,h,e=>by
  have h':cy np (n+1) ss=true:=by cases s with|pure d=>exact h|own d=>simp only[cy,Wq]at h;exact h.2
  have:=oR (n:=n+1) (j:=j) h' (~~~e);rw[show n+(j+1)=n+1+j by lia];exact this
set_option tactic.hygienic true in theorem qF:∀{n:Nat}{ss aC:List S}{Z:Dl},bF n ss Z=some aC->aC.length=ss.length/\∀(i:Nat)s,ss[i]?=some s->(∃d,s=.pure d/\aC[i]?=some (.pure d))\/∃d d',s=.own d/\Z[n+i]?=some (some (.own d'))/\aC[i]?=some (.own d')
 |n,[],aC,Z,h=>by simp only[bF,We]at h;subst h;exact⟨rfl,λi s e=>by simp at e⟩|n,.pure d::ss,aC,Z,h=>by simp only[bF]at h;cases e:bF (n+1) ss Z with|none=>rw[e]at h;cases h|some os=>rw[e]at h;simp only[WE,We]at h;subst h;obtain⟨h1,h2⟩:=qF e;refine⟨#v[h1],λi s es=>?_⟩;cases i with|zero=>simp at es;subst es;exact .inl ⟨d,rfl,rfl⟩|succ i=>
    rcases h2 i s (~~~es)with⟨d,z1,z2⟩|⟨d,d',z1,z2,z3⟩;.exact .inl ⟨d,z1,~~~z2⟩
    .exact .inr ⟨d,d',z1,%[show n+(i+1)=n+1+i by lia|z2],~~~z3⟩
 |n,.own d::ss,aC,Z,h=>by
  simp only[bF]at h;split at h;.rename_i d' ed;cases e:bF (n+1) ss Z with|none=>rw[e]at h;cases h|some os=>rw[e]at h;simp only[WE,We]at h;subst h;obtain⟨h1,h2⟩:=qF e;refine⟨#v[h1],λi s es=>?_⟩;cases i with|zero=>simp at es;subst es;exact .inr ⟨d,d',rfl,ed,rfl⟩|succ i=>
     rcases h2 i s (~~~es)with⟨d,z1,z2⟩|⟨d,d',z1,z2,z3⟩;.exact .inl ⟨d,z1,~~~z2⟩
     .exact .inr ⟨d,d',z1,%[show n+(i+1)=n+1+i by lia|z2],~~~z3⟩
  .cases h
theorem ma{α:Type}{l:List (Option α)}{k:Nat}{v:α}(h:(l++Ww k none)[i]?=some (some v)):l[i]?=some (some v):=by
 by_cases hi:i<l.length;.rw[Qu hi]at h;exact h
 .rw[List.getElem?_append_right Y',List.getElem?_replicate]at h;split at h<;>cases h
theorem kQ{α:Type}{l:List (Option α)}{k:Nat}{v:α}(h:l[i]?=some (some v)):(l++Ww k none)[i]?=some (some v):=by have hi:i<l.length:=(W6.mp h).1;rw[Qu hi];exact h
theorem Own.ext{k:Nat}:Own (Y++Ww k none) (Z++Ww k none) a↔Own Y Z a:=⟨λ⟨i,d,e1,e2⟩=>⟨i,d,ma e1,ma e2⟩,λ⟨i,d,e1,e2⟩=>⟨i,d,kQ e1,kQ e2⟩⟩
theorem Ok.ext(k:Ok c Y Z H)(n:Nat):Ok c (Y++Ww n none) (Z++Ww n none) H:=by
 have sub:∀b,Av c (Y++Ww n none) (Z++Ww n none) b->Av c Y Z b:=λb z=>z.elim .inl λz=>.inr (Own.ext.mp z);refine⟨k.keep,k.bd,k.cR,#v[k.len],λi d e=>?_,λi d e=>?_,λi j a d d' e1 e2 e3 e4=>k.inj i j a d d' (ma e1) (ma e2) (ma e3) (ma e4),λp hm=>kQ (k.pinned p hm)⟩;.obtain⟨v,h1,h2⟩:=k.slot i d (ma e);exact⟨v,kQ h1,h2.aP λb z=>.inl (sub b z)⟩
 .obtain⟨a,h1,h2,h3⟩:=k.own i d (ma e);exact⟨a,kQ h1,h2.aP λb z=>.inl (sub b z),h3⟩
theorem gy(hc:c=⟨H,B,bq 0 ss vs,λy y=>False⟩)(k:Ok c (bJ vs) (bP ss) H)(x:aG c (bJ vs++Ww n none) (bP ss++Ww n none) H SL S' H')(ho:bF 0 ss S'=some aC):aG c (bJ vs) (bP ss) H (bJ vs) (bP aC) H'/\∀v r,aS c SL S' H H' v r->aS c (bJ vs) (bP aC) H H' v r:=by
 obtain⟨hlen,hat⟩:=qF ho;have iq:ss.length=vs.length:=by have:=k.len;simpa using this
 have pin:∀(i:Nat)(a:Addr)(d:D),ss[i]?=some (.own d)->vs[i]?=some (.ref a)->SL[i]?=some (some (.ref a)):=λi a d h1 h2=>by have:=uD (n:=0) h1 h2;rw[U6]at this;exact x.ok.pinned (i,a) %[hc|this]
 have uE:∀(i:Nat)(d:D),aC[i]?=some (.own d)->(∃d₀,ss[i]?=some (.own d₀))/\S'[i]?=some (some (.own d)):=λi d e=>by
  have hi:i<ss.length:=by rw[<-hlen];exact(W6.mp e).1
  rcases hat i ss[i] #v[hi]with⟨d₁,z1,z2⟩|⟨d₁,d',z1,z2,z3⟩;all_goals grind
 have sub:∀b,Own (bJ vs) (bP aC) b->Own SL S' b:=λb⟨i,d,e1,e2⟩=>by obtain⟨⟨d₀,h0⟩,h1⟩:=uE i d (eY.mp e1);exact⟨i,d,h1,pin i b d₀ h0 (fG.mp e2)⟩
 have m_:∀b,Av c (bJ vs) (bP aC) b->Av c SL S' b:=λb z=>z.elim .inl λz=>.inr (sub b z);have Es:∀{c':Fc},c'.pin=c.pin->Ok c' SL S' H'->(∀b,c.B b->c'.B b)->(∀(i:Nat)d v,ss[i]?=some (.pure d)->vs[i]?=some v->Rep H' (Av c' SL S') v d)->Ok c' (bJ vs) (bP aC) H':=λ{c'}ep k' hB yg=>by
  have Et:∀b,Av c' (bJ vs) (bP aC) b->Av c' SL S' b:=λb z=>z.elim .inl λz=>.inr (sub b z);refine⟨k'.keep,k'.bd,k'.cR,#v[hlen,iq],λi d e=>?_,λi d e=>?_,λi j a d d' e1 e2 e3 e4=>?_,λp hm=>?_⟩
  .have e':=eY.mp e;have hi:i<ss.length:=by rw[<-hlen];exact(W6.mp e').1
   have hv:i<vs.length:=by lia
   rcases hat i ss[i] #v[hi]with⟨d₁,z1,z2⟩|⟨d₁,d',z1,z2,z3⟩;.rw[e']at z2;cases z2;exact⟨vs[i],#v[hv],(yg i d vs[i] (by rw[W7 hi,z1]) #v[hv]).aP λb z=>.inl (Et b z)⟩
   grind
  .have e':=eY.mp e;obtain⟨⟨d₀,h0⟩,h1⟩:=uE i d e';obtain⟨a₀,h2,_⟩:=k.own i d₀ (eY.mpr h0);obtain⟨a,h3,h4,h5⟩:=k'.own i d h1;rw[pin i a₀ d₀ h0 (fG.mp h2)]at h3;cases h3;exact⟨a₀,h2,h4.aP λb z=>.inl (Et b z),h5⟩
  .obtain⟨⟨d₀,h0⟩,h1⟩:=uE i d (eY.mp e1);obtain⟨⟨d₁,h2⟩,h3⟩:=uE j d' (eY.mp e2);exact k'.inj i j a d d' h1 h3 (pin i a d₀ h0 (fG.mp e3)) (pin j a d₁ h2 (fG.mp e4))
  .exact k.pinned p (by rw[<-ep];exact hm)
 have slots:∀(i:Nat)d v,ss[i]?=some (.pure d)->vs[i]?=some v->Rep H' (Av c SL S') v d:=λi d v h1 h2=>by obtain⟨w,e1,r⟩:=(k.ext n).slot i d (kQ (eY.mpr h1));rw[kQ (fG.mpr h2)]at e1;cases e1;exact Rep.dg r x
 refine⟨⟨Es rfl x.ok (λy z=>z) slots,λa o e m=>x.keep a o e λz=>m (Own.ext.mp z),λa z=>(x.own a (sub a z)).elim (λz=>.inl (Own.ext.mp z)) .inr,x.there⟩,λv r hr=>?_⟩;cases r with|pure d=>exact Rep.aP hr λb z=>.inl (m_ b z)|own d=>
  obtain⟨a,ea,o,nb,h0,kp,hs⟩:=hr;refine⟨a,ea,o.aP λb z=>.inl (z.elim .inl λz=>.inr (sub b z)),nb,h0,Es rfl kp (λy z=>.inl z) λi d v h1 h2=>?_,hs⟩;obtain⟨w,e1,r⟩:=(k.ext n).slot i d (kQ (eY.mpr h1));rw[kQ (fG.mpr h2)]at e1;cases e1;have oS:H a=none:=hs;have r1:Rep H (Av c (bJ vs++Ww n none) (bP ss++Ww n none)) v d:=r;have r2:Rep H (λb=>Av c (bJ vs++Ww n none) (bP ss++Ww n none) b\/Av (c.plus a) SL S' b) v d:=r1.aP λb z=>by
   rcases z with z|(z|z)|z;.exact .inl z
   .exact .inl (.inl z)
   .exact .inr %[z|oS]
   .rcases x.own b z with q|q;.exact .inl (.inr q)
    .exact .inr q
  exact(r2.keep λb o e m=>x.keep b o e λz=>m (.inl (.inr z))).aP λb z=>.inl (.inr z)
theorem Su{st:Stmt}{k:Nat}{fb:DS}(F:cZ K x qual st f fd)(S:dM N ps (aR st))(bZ:∀(c:Fc)(aE:Value)(A:Wp)(outer:List Env)(s:W2)(H:Hp)(E:XK),bM k (A.deeper (Qx qual (aR st) s.heap.objs.size f aE))->Np c np->eN (cX cY P w K mg base N qual (aR st) f aE A outer s H E).fM c (cQ st) fb)(hG:∀ss y,G ss=some y->cy np 0 ss=true/\dP fb N.length ss=some y):gc P w K mg base cY (k+1) f fd ps (oQ ps.length G):=by
 refine F.ok S (λvs H Q E h=>?_) λaE A outer s H vs Q E hr h=>?_;.obtain⟨ss,B,hl,_⟩:=h;exact hl
 .obtain⟨ss,B,hl,ok,r,aC,hg,q⟩:=h;obtain⟨dB,hrun⟩:=hG ss _ hg;have iq:ss.length=vs.length:=by have:=ok.len;simpa using this
  have kR:Np ⟨H,B,bq 0 ss vs,λu u=>False⟩ np:=λp hp=>by obtain⟨j,d,e,h1,_⟩:=iV (i:=p.1) (a:=p.2) hp;rw[e];exact oR dB h1
  refine⟨jq ⟨H,B,bq 0 ss vs,λu u=>False⟩ fb,bZ ⟨H,B,bq 0 ss vs,λu u=>False⟩ aE A outer s H E hr kR,?_⟩;have cE:dm N vs=bJ vs++Ww (N.length-ss.length) none:=by rw[iq];rfl
  refine⟨bx N.length ss,%[cE|ok.ext _],?_⟩;unfold dP at hrun;unfold dO;cases e:fb (bx N.length ss)with|exc x N'=>rw[e]at hrun;cases hrun|stuck=>rw[e]at hrun;cases hrun|ok fl S'=>rw[e]at hrun;show∀SL H',aG _ (dm N vs) (bx N.length ss) H SL S' H'->fin _ _ SL S' H' fl;intro SL H' a;rw[cE]at a;simp only at hrun;cases fl with
 |brk=>cases hrun|cont=>cases hrun|next=>simp only[c_,Wu]at hrun;cases eo:bF 0 ss S' with|none=>rw[eo]at hrun;cases hrun|some os=>rw[eo]at hrun;cases hrun;obtain⟨l1,l2⟩:=gy rfl ok a eo;exact q .ax H' l1 .ax
 |ret r'=>simp only[c_,Wu]at hrun;cases eo:bF 0 ss S' with|none=>rw[eo]at hrun;cases hrun|some os=>rw[eo]at hrun;cases hrun;obtain⟨l1,l2⟩:=gy rfl ok a eo;exactλv rv=>q v H' l1 (l2 v _ rv)
theorem Sv{st:Stmt}{k:Nat}{fb:DS}(F:cZ K x qual st f fd)(hm:mg x=some (.ref f))(hb:Binds K fd ps [])(S:dM N ps (aR st))(bZ:∀(c:Fc)(aE:Value)(A:Wp)(outer:List Env)(s:W2)(H:Hp)(E:XK),bM k (A.deeper (Qx qual (aR st) s.heap.objs.size f aE))->Np c np->eN (cX cY P w K mg base N qual (aR st) f aE A outer s H E).fM c (cQ st) fb)(hG:∀ss y,G ss=some y->cy np 0 ss=true/\dP fb N.length ss=some y):aW P w K mg base (k+1) x ps.length G:=⟨f,fd,ps,hm,F.kp,hb,Su F S bZ hG⟩
inductive Ak where|val(f:DE)|io(i:Nat)
variable{as:List Ak}
def cf:List Ak->Dl->Rs (List (Option D))|[],Z=>.ok [] Z|.val f::r,Z=>(f Z).bind λx W'=>(cf r W').bind λxs SZ=>.ok (some x.d::xs) SZ|.io _::r,Z=>(cf r Z).bind λxs SZ=>.ok (none::xs) SZ
inductive iW(c:Fc)(Y:St)(Z:Dl)(H:Hp):List V->List Ak->List (Option D)->Prop|nil:iW c Y Z H [] [] []|val{v:V}{d:D}{f:DE}{vs:List V}{as:List Ak}{ds:List (Option D)}:Rep H (Av c Y Z) v d->iW c Y Z H vs as ds->iW c Y Z H (v::vs) (.val f::as) (some d::ds)|io{v:V}{i:Nat}{vs:List V}{as:List Ak}{ds:List (Option D)}:Y[i]?=some (some v)->iW c Y Z H vs as ds->iW c Y Z H (v::vs) (.io i::as) (none::ds)
def tX(c:Fc)(as:List Ak):TA:=λY H Q=>∃Z,Ok c Y Z H/\(∀i,Ak.io i∈as->∃v,Y[i]?=some (some v))/\post c (cf as Z) λds S'=>∀vs H',aG c Y Z H Y S' H'->iW c Y S' H' vs as ds->Q vs H'
abbrev SX(X:Cx)(c:Fc)(es:List Expr)(as:List Ak):Prop:=PA X es (tX c as)
theorem Sw:SX X c [] []:=PA.weak f_ λY H Q⟨Z,k,_,q⟩=>q [] H (.refl k) .nil
theorem Sx(ha:SE X c e fe)(hr:SX X c es as)(hs:W9 (e::es) X.env=(false,eval e X.env)::W9 es X.env:=by rfl):SX X c (e::es) (.val fe::as):=PA.weak (dJ ha hr hs) λY H Q⟨Z,k,dB,q⟩=>by unfold cf at q;rw[bh]at q;refine⟨Z,k,aQ q λx W' q1 v H1 a1 r1=>⟨W',a1.ok,λi hi=>dB i (Wi _ hi),?_⟩⟩;rw[bh]at q1;exact aQ q1 λxs SZ q2 vs H2 a2 r2=>q2 (v::vs) H2 (a1.trans a2) (.val (Rep.dg r1.rep a2) r2)
theorem Sy(ha:PE X e (eW i))(hr:SX X c es as)(hs:W9 (e::es) X.env=(false,eval e X.env)::W9 es X.env:=by rfl):SX X c (e::es) (.io i::as):=PA.weak (dJ ha hr hs) λY H Q⟨Z,k,dB,q⟩=>by obtain⟨v,ev⟩:=dB i Wl;unfold cf at q;rw[bh]at q;exact⟨v,ev,Z,k,λi hi=>dB i (Wi _ hi),aQ q λxs SZ q2 vs H2 a2 r2=>q2 (v::vs) H2 a2 (.io ev r2)⟩
def bD:List Ak->List (Option D)->Dl->Option (List S)
 |[],[],_=>some []|.val _::as,some d::ds,Z=>(bD as ds Z).map (.pure d::.)|.io i::as,none::ds,Z=>match Z[i]? with|some (some (.own d))=>(bD as ds Z).map (.own d::.)|_=>none
 |_,_,_=>none
def bo:List Ak->List Nat|[]=>[]|.val _::as=>bo as|.io i::as=>i::bo as
def ba:List Ak->List S->Dl->Dl|.io i::as,r::rs,Z=>ba as rs (Z.set i (some r))|.val _::as,_::rs,Z=>ba as rs Z|_,_,Z=>Z
def cL:List Nat->Bool|[]=>true|i::r=>!r.contains i&&cL r
def aB(G:DF)(as:List Ak):DE:=λZ=>if(bo as).all (dj Z)&&cL (bo as)then(cf as Z).bind λds W'=>match bD as ds W' with|none=>.stuck|some ss=>match G ss with|none=>.stuck|some (r,aC)=>.ok r (ba as aC W')else .stuck
theorem uF:∀{l:List Nat},cL l=true->l.Nodup|[],_=>.nil|i::r,h=>by simp only[cL,Wq,Bool.not_eq_true']at h;exact List.nodup_cons.mpr ⟨λhm=>by have:=h.1;simp at this;exact this hm,uF h.2⟩
theorem jV:∀{as:List Ak}{i:Nat},i∈bo as↔Ak.io i∈as|[],i=>#v[bo]|.val f::as,i=>#v[bo,jV (as:=as)]|.io j::as,i=>#v[bo,jV (as:=as)]
theorem yh:∀{as:List Ak}{i j k:Nat},(bo as).Nodup->as[j]?=some (.io i)->as[k]?=some (.io i)->j=k
 |[],i,j,k,_,h,_=>by simp at h|.val f::as,i,j,k,nd,h1,h2=>by cases j with|zero=>simp at h1|succ j=>cases k with|zero=>simp at h2|succ k=>exact congrArg (.+1) (yh (as:=as) nd (~~~h1) (~~~h2))
 |.io n::as,i,j,k,nd,h1,h2=>by have oU:=JD.mp nd;cases j with|zero=>grind[jV]|succ j=>cases k with|zero=>grind[jV]|succ k=>exact congrArg (.+1) (yh (as:=as) oU.2 (~~~h1) (~~~h2))
section
variable{ds:List (Option D)}
set_option tactic.hygienic true in theorem oV(h:iW c Y Z H vs as ds):∀{ss:List S},bD as ds Z=some ss->ss.length=vs.length/\as.length=vs.length/\∀(j:Nat)s v,ss[j]?=some s->vs[j]?=some v->(∃d f,s=.pure d/\as[j]?=some (.val f)/\Rep H (Av c Y Z) v d)\/∃d i,s=.own d/\as[j]?=some (.io i)/\Y[i]?=some (some v)/\Z[i]?=some (some (.own d)):=by induction h with
 |nil=>intro ss h;simp only[bD,We]at h;subst h;exact⟨rfl,rfl,λj s v e _=>by simp at e⟩|@val v d f vs as ds r _ ih=>intro ss h;simp only[bD]at h;cases e:bD as ds Z with|none=>rw[e]at h;cases h|some rs=>rw[e]at h;simp only[WE,We]at h;subst h;obtain⟨h1,h2,h3⟩:=ih e;refine⟨#v[h1],#v[h2],λj s v' e1 e2=>?_⟩;cases j with|zero=>simp at e1 e2;subst e1 e2;exact .inl ⟨d,f,rfl,rfl,r⟩|succ j=>simpa using h3 j s v' (~~~e1) (~~~e2)
 |@io v i vs as ds ev _ ih=>
 intro ss h;simp only[bD]at h;split at h;.rename_i d ed;cases e:bD as ds Z with|none=>rw[e]at h;cases h|some rs=>rw[e]at h;simp only[WE,We]at h;subst h;obtain⟨h1,h2,h3⟩:=ih e;refine⟨#v[h1],#v[h2],λj s v' e1 e2=>?_⟩;cases j with|zero=>simp at e1 e2;subst e1 e2;exact .inr ⟨d,i,rfl,rfl,ev,ed⟩|succ j=>simpa using h3 j s v' (~~~e1) (~~~e2)
 .cases h
theorem yi:∀(as:List Ak)(rs:List S)(Z:Dl),(ba as rs Z).length=Z.length|[],rs,Z=>#v[ba]|.val f::as,[],Z=>#v[ba]|.io i::as,[],Z=>#v[ba]|.val f::as,r::rs,Z=>#v[ba,yi as rs Z]|.io i::as,r::rs,Z=>#v[ba,yi as rs]
theorem qG:∀(as:List Ak)(rs:List S)(Z:Dl)(i:Nat),i∉bo as->(ba as rs Z)[i]?=Z[i]?|[],rs,Z,i,_=>#v[ba]|.val f::as,[],Z,i,_=>#v[ba]|.io j::as,[],Z,i,_=>#v[ba]|.val f::as,r::rs,Z,i,h=>%[ba|qG as rs Z i h]|.io j::as,r::rs,Z,i,h=>by simp only[bo,Wt,not_or]at h;rw[ba,qG as rs _ i h.2,Wd (Ne.symm h.1)]
theorem uG:∀(as:List Ak)(rs:List S)(Z:Dl)(i j:Nat)(r:S),(bo as).Nodup->as[j]?=some (.io i)->rs[j]?=some r->i<Z.length->(ba as rs Z)[i]?=some (some r)
 |[],rs,Z,i,j,r,_,h,_,_=>by simp at h|a::as,[],Z,i,j,r,_,_,h,_=>by simp at h|.val f::as,r0::rs,Z,i,j,r,nd,h1,h2,hi=>by cases j with|zero=>simp at h1|succ j=>rw[ba];exact uG as rs Z i j r nd (~~~h1) (~~~h2) hi
 |.io k::as,r0::rs,Z,i,j,r,nd,h1,h2,hi=>by have oU:=JD.mp nd;cases j with|zero=>simp at h1 h2;subst h1 h2;rw[ba,qG as rs _ k oU.1,Wv hi]|succ j=>rw[ba];exact uG as rs _ i j r oU.2 (~~~h1) (~~~h2) (~~~hi)
theorem uH(k:Ok c Y Z H)(hr:iW c Y Z H vs as ds)(hm:bD as ds Z=some ss)(nd:(bo as).Nodup):Ok ⟨H,λa=>Av c Y Z a/\¬∃(j:Nat)(d:D),ss[j]?=some (S.own d)/\vs[j]?=some (V.ref a),bq 0 ss vs,λy y=>False⟩ (bJ vs) (bP ss) H:=by
 obtain⟨h1,h2,h3⟩:=oV hr hm;have at':∀(j:Nat)s,ss[j]?=some s->∃v,vs[j]?=some v:=λj s e=>by
  have:j<vs.length:=by rw[<-h1];exact(W6.mp e).1
  simp_all
 have Eu:∀a,Own (bJ vs) (bP ss) a↔∃(j:Nat)(d:D),ss[j]?=some (S.own d)/\vs[j]?=some (V.ref a):=λa=>⟨λ⟨j,d,e1,e2⟩=>⟨j,d,eY.mp e1,fG.mp e2⟩,λ⟨j,d,e1,e2⟩=>⟨j,d,eY.mpr e1,fG.mpr e2⟩⟩;have Ew:∀a,Own (bJ vs) (bP ss) a->Own Y Z a:=λa z=>by
  obtain⟨j,d,e1,e2⟩:=(Eu a).mp z;rcases h3 j _ _ e1 e2 with⟨d',f,e,_⟩|⟨d',i,e,_,es,ed⟩;.cases e
  .exact⟨i,d',ed,es⟩
 have sub:∀a,Av ⟨H,λa=>Av c Y Z a/\¬∃(j:Nat)(d:D),ss[j]?=some (S.own d)/\vs[j]?=some (V.ref a),bq 0 ss vs,λy y=>False⟩ (bJ vs) (bP ss) a->Av c Y Z a:=λa z=>z.elim (λz=>z.1) λz=>.inr (Ew a z);refine⟨λa o e y=>e,λa z=>k.tZ z.1,λa⟨i,hi⟩=>?_,#v[h1],λj d e=>?_,λj d e=>?_,λi j a d d' e1 e2 e3 e4=>?_,λp hp=>?_⟩;.obtain⟨j,d,_,e1,e2⟩:=iV hi;exact k.xI (Ew a ((Eu a).mpr ⟨j,d,e1,e2⟩))
 .have e':=eY.mp e;obtain⟨v,ev⟩:=at' j _ e';rcases h3 j _ v e' ev with⟨d',f,e,_,r⟩|⟨d',i,e,_⟩;.cases e;exact⟨v,fG.mpr ev,r.aP λb z=>.inl (sub b z)⟩
  .cases e
 .have e':=eY.mp e;obtain⟨v,ev⟩:=at' j _ e';rcases h3 j _ v e' ev with⟨d',f,e,_,r⟩|⟨d',i,e,_,es,ed⟩;.cases e
  .cases e;obtain⟨a,g1,g2,g3⟩:=k.own i d ed;rw[es]at g1;cases g1;refine⟨a,fG.mpr ev,g2.aP λb z=>.inl (sub b z),.inl ⟨0+j,uD e' ev⟩,λz=>z.2 ⟨j,d,e',ev⟩⟩
 .have f1:=eY.mp e1;have f2:=eY.mp e2;rcases h3 i _ _ f1 (fG.mp e3)with⟨_,_,e,_⟩|⟨d1,i1,e,a1,s1,x1⟩;.cases e
  .rcases h3 j _ _ f2 (fG.mp e4)with⟨_,_,e',_⟩|⟨d2,i2,e',a2,s2,x2⟩;.cases e'
   .have:=k.inj i1 i2 a d1 d2 x1 x2 s1 s2;subst this;exact yh nd a1 a2
 .obtain⟨j,d,e,e1,e2⟩:=iV (i:=p.1) (a:=p.2) hp;rw[U6]at e;rw[e];exact fG.mpr e2
theorem qH(k:Ok c Y Z H)(hr:iW c Y Z H vs as ds)(hm:bD as ds Z=some ss)(nd:(bo as).Nodup)(hB:B=λa=>Av c Y Z a/\¬∃(j:Nat)(d:D),ss[j]?=some (S.own d)/\vs[j]?=some (V.ref a))(x:aG ⟨H,B,bq 0 ss vs,λy y=>False⟩ (bJ vs) (bP ss) H (bJ vs) (bP aC) H')(dB:∀(j:Nat)d,ss[j]?=some (.own d)->∃d',aC[j]?=some (.own d'))(hpo:∀(j:Nat)d,ss[j]?=some (.pure d)->∃d',aC[j]?=some (.pure d')):aG c Y Z H Y (ba as aC Z) H'/\∀v r,aS ⟨H,B,bq 0 ss vs,λy y=>False⟩ (bJ vs) (bP aC) H H' v r->aS c Y (ba as aC Z) H H' v r:=by
 obtain⟨h1,h2,h3⟩:=oV hr hm;have uI:∀i,i∈bo as->∃(j:Nat)(d:D)(a:Addr),as[j]?=some (.io i)/\ss[j]?=some (.own d)/\vs[j]?=some (.ref a)/\Y[i]?=some (some (.ref a))/\Z[i]?=some (some (.own d)):=λi hi=>by
  obtain⟨j,hj,ej⟩:=JQ.mp (jV.mp hi);have hv:j<vs.length:=by lia
  have hs:j<ss.length:=by lia
  have Ex:as[j]?=some (.io i):=by rw[W7 hj,ej]
  rcases h3 j ss[j] vs[j] #v[hs] #v[hv]with⟨d,f,e,a1,_⟩|⟨d,i',e,a1,s1,x1⟩;.grind
  .rw[Ex]at a1;cases a1;obtain⟨a,g1,_⟩:=k.own i d x1;rw[s1]at g1;have g2:vs[j]=.ref a:=by have:=WD g1;exact WD this
   exact⟨j,d,a,Ex,by rw[W7 hs,e],by rw[W7 hv,g2],by rw[s1,g2],x1⟩
 have uJ:∀a,(∃(j:Nat)(d:D),ss[j]?=some (S.own d)/\vs[j]?=some (V.ref a))->Own Y Z a:=λa⟨j,d,e1,e2⟩=>by
  rcases h3 j _ _ e1 e2 with⟨d',f,e,_⟩|⟨d',i,e,_,es,ed⟩;.cases e
  .exact⟨i,d',ed,es⟩
 have qaz:∀a,(⟨H,B,bq 0 ss vs,λy y=>False⟩:Fc).I a↔∃(j:Nat)(d:D),ss[j]?=some (S.own d)/\vs[j]?=some (V.ref a):=λa=>⟨λ⟨i,hi⟩=>by obtain⟨j,d,_,e1,e2⟩:=iV hi;exact⟨j,d,e1,e2⟩,λ⟨j,d,e1,e2⟩=>⟨0+j,uD e1 e2⟩⟩;have ownIn:∀a,Own (bJ vs) (bP ss) a->∃(j:Nat)(d:D),ss[j]?=some (S.own d)/\vs[j]?=some (V.ref a):=λa⟨j,d,e1,e2⟩=>⟨j,d,eY.mp e1,fG.mp e2⟩;have uK:∀(i:Nat)(d:D),(ba as aC Z)[i]?=some (some (.own d))->i∉bo as/\Z[i]?=some (some (.own d))\/i∈bo as/\∃(j:Nat)(d0:D)(a:Addr),as[j]?=some (.io i)/\ss[j]?=some (.own d0)/\vs[j]?=some (.ref a)/\Y[i]?=some (some (.ref a))/\aC[j]?=some (.own d):=λi d e=>by
  by_cases hi:i∈bo as;.right;obtain⟨j,d0,a,a1,a2,a3,a4,a5⟩:=uI i hi;obtain⟨d',ed'⟩:=dB j d0 a2;have bc:i<Z.length:=(W6.mp a5).1;have:=uG as aC Z i j (.own d') nd a1 ed' bc;rw[e]at this;cases this;exact⟨hi,j,d0,a,a1,a2,a3,a4,ed'⟩
  .rw[qG as aC Z i hi]at e;exact .inl ⟨hi,e⟩
 have qI:∀b,Own Y (ba as aC Z) b->Own Y Z b:=λb⟨i,d,e1,e2⟩=>by
  rcases uK i d e1 with⟨_,e⟩|⟨hi,j,d0,a,_,a2,a3,a4,_⟩;.exact⟨i,d,e,e2⟩
  grind
 have Sz:∀(i:Nat)(d:D),(ba as aC Z)[i]?=some (some (.pure d))->i∉bo as/\Z[i]?=some (some (.pure d)):=λi d e=>by
  by_cases hi:i∈bo as;.obtain⟨j,d0,a,a1,a2,a3,a4,a5⟩:=uI i hi;obtain⟨d',ed'⟩:=dB j d0 a2;have bc:i<Z.length:=(W6.mp a5).1;have:=uG as aC Z i j (.own d') nd a1 ed' bc;rw[e]at this;cases this
  .rw[qG as aC Z i hi]at e;exact⟨hi,e⟩
 have Ey:∀a o,H a=some o->¬Av c Y Z a->H' a=some o:=λa o e n=>x.keep a o e λz=>n (.inr (uJ a (ownIn a z)));have m_:∀b,Av c Y (ba as aC Z) b->Av c Y Z b:=λb z=>z.elim .inl λz=>.inr (qI b z);have big:∀{c':Fc},c'.B=B->∀b,Av c Y Z b->Av c' (bJ vs) (bP aC) b:=λ{c'}hB' b z=>by
  by_cases hp:∃(j:Nat)(d:D),ss[j]?=some (S.own d)/\vs[j]?=some (V.ref b);.obtain⟨j,d,e1,e2⟩:=hp;obtain⟨d',ed'⟩:=dB j d e1;exact .inr ⟨j,d',eY.mpr ed',fG.mpr e2⟩
  .exact .inl (by rw[hB',hB];exact⟨z,hp⟩)
 have Ez:∀(c1 c2:Fc),c1.H₀=c.H₀->c1.pin=c.pin->(∀b,c1.B b->c.B b\/c2.B b/\H b=none)->c2.pin=bq 0 ss vs->(∀b,B b->c2.B b)->Ok c2 (bJ vs) (bP aC) H'->(∀b,c1.B b->∃o,H' b=some o)->Ok c1 Y (ba as aC Z) H':=λc1 c2 e0 e1 e2 e3 e4 k2 hex=>by
  have EA:∀b,Av c1 Y (ba as aC Z) b->Av c Y Z b\/H b=none:=λb z=>by
   rcases z with z|z
   .rcases e2 b z with z|⟨_,z⟩;.exact .inl (.inl z)
    .exact .inr z
   .exact .inl (.inr (qI b z))
  have t4:∀b,Av c1 Y (ba as aC Z) b->Av c2 (bJ vs) (bP aC) b:=λb z=>by
   have bg:∀b,Av c Y Z b->Av c2 (bJ vs) (bP aC) b:=λb z=>by
    by_cases hp:∃(j:Nat)(d:D),ss[j]?=some (S.own d)/\vs[j]?=some (V.ref b);.obtain⟨j,d,e1,e2⟩:=hp;obtain⟨d',ed'⟩:=dB j d e1;exact .inr ⟨j,d',eY.mpr ed',fG.mpr e2⟩
    .exact .inl (e4 b (by rw[hB];exact⟨z,hp⟩))
   rcases z with z|z
   .rcases e2 b z with z|⟨z,_⟩;.exact bg b (.inl z)
    .exact .inl z
   .exact bg b (.inr (qI b z))
  have SD:∀{v:V}{d:D},Rep H (Av c Y Z) v d->Rep H' (Av c1 Y (ba as aC Z)) v d:=λ{v d}r=>by have r1:Rep H (λb=>Av c Y Z b\/Av c1 Y (ba as aC Z) b) v d:=r.aP λb z=>z.elim .inl (EA b);exact(r1.keep λb o e n=>Ey b o e λz=>n (.inl z)).aP λb z=>.inl (.inr z)
  refine⟨λa o e n=>?_,hex,λa z=>?_,%[yi|k.len],λi d e=>?_,λi d e=>?_,λi j a d d' f1 f2 f3 f4=>?_,%[e1|k.pinned]⟩;.rw[e0]at e;have n':¬c.I a:=λz=>n (by unfold Fc.I at z⊢;rw[e1];exact z);refine x.keep a o (k.keep a o e n') λz=>?_;obtain⟨i,d,g1,g2⟩:=uJ a (ownIn a z);obtain⟨a',g3,_,g4,_⟩:=k.own i d g1;grind
  .have z':c.I a:=by unfold Fc.I at z⊢;rw[<-e1];exact z
   obtain⟨o,e⟩:=k.cR a z';exact x.there a o e
  .obtain⟨hi,e'⟩:=Sz i d e;obtain⟨v,g1,g2⟩:=k.slot i d e';exact⟨v,g1,SD g2⟩
  .rcases uK i d e with⟨hi,e'⟩|⟨hi,j,d0,a,b1,b2,b3,b4,b5⟩
   .obtain⟨a,g1,g2,g3,g4⟩:=k.own i d e';have na:¬Own (bJ vs) (bP ss) a:=λz=>by
     obtain⟨j,d1,q1,q2⟩:=ownIn a z;rcases h3 j _ _ q1 q2 with⟨d',f,ee,_⟩|⟨d',i',ee,ai,es,ed⟩;.cases ee
     .have:=k.inj i i' a d d' e' ed g1 es;grind[jV]
    have SF:fD H' (Av c1 Y (ba as aC Z)) a d:=by have o1:fD H (λb=>Av c Y Z b\/Av c1 Y (ba as aC Z) b) a d:=g2.aP λb z=>z.elim .inl (EA b);exact(o1.keep (λb o e n=>Ey b o e λz=>n (.inl z)) λo e=>x.keep a o e na).aP λb z=>.inl (.inr z)
    refine⟨a,g1,SF,by unfold Fc.I at g3⊢;rw[e0,e1];exact g3,λz=>?_⟩;rcases e2 a z with z|⟨_,z⟩;.exact g4 z
    .obtain⟨o,eo⟩:=g2.some;rw[z]at eo;cases eo
   .obtain⟨a',g1,g2,g3,g4⟩:=k2.own j d (eY.mpr b5);rw[fG.mpr b3]at g1;cases g1;obtain⟨i0,d1,q1,q2⟩:=uJ a ⟨j,d0,b2,b3⟩;obtain⟨a'',q3,q4,q5,q6⟩:=k.own i0 d1 q1;rw[q2]at q3;cases q3;refine⟨a,b4,g2.aP λb z=>.inl (t4 b z),by unfold Fc.I at q5⊢;rw[e0,e1];exact q5,λz=>?_⟩;grind
  .obtain⟨d1,g1⟩:∃d1,Z[i]?=some (some (.own d1)):=by
    rcases uK i d f1 with⟨_,e'⟩|⟨hi,_⟩;.exact⟨d,e'⟩
    .obtain⟨_,d1,_,_,_,_,_,a5⟩:=uI i hi;exact⟨d1,a5⟩
   obtain⟨d2,g2⟩:∃d2,Z[j]?=some (some (.own d2)):=by
    rcases uK j d' f2 with⟨_,e'⟩|⟨hi,_⟩;.exact⟨d',e'⟩
    .obtain⟨_,d1,_,_,_,_,_,a5⟩:=uI j hi;exact⟨d1,a5⟩
   exact k.inj i j a d1 d2 g1 g2 f3 f4
 have SH:Ok c Y (ba as aC Z) H':=Ez c ⟨H,B,bq 0 ss vs,λy y=>False⟩ rfl rfl (λb z=>.inl z) rfl (λb z=>z) x.ok λb z=>by obtain⟨o,e⟩:=k.bd b z;exact x.there b o e
 refine⟨⟨SH,λa o e n=>x.keep a o e λz=>n (uJ a (ownIn a z)),λa z=>.inl (qI a z),x.there⟩,λv r hr=>?_⟩;cases r with|pure d=>exact Rep.aP hr λb z=>.inl (big rfl b (m_ b z))|own d=>
  obtain⟨a,ea,o,nb,h0,kp,hs⟩:=hr;have oS:H a=none:=hs;have iP:¬Av c Y Z a:=k.iP oS;refine⟨a,ea,o.aP λb z=>.inl ?_,λz=>iP (.inl z),k.kK oS,?_,oS⟩
  .rcases z with(z|z)|z;.exact(big rfl b (.inl z)).elim (λz=>.inl (.inl z)) .inr
   .exact .inl (.inr z)
   .exact(big rfl b (.inr (qI b z))).elim (λz=>.inl (.inl z)) .inr
  .refine Ez (c.plus a) (Fc.plus ⟨H,B,bq 0 ss vs,λy y=>False⟩ a) rfl rfl (λb z=>?_) rfl (λb z=>.inl z) kp λb z=>?_
   .rcases z with z|z;.exact .inl z
    .exact .inr ⟨.inr z,%[z|oS]⟩
   .rcases z with z|z;.obtain⟨o,e⟩:=k.bd b z;exact x.there b o e
    .rw[z];exact o.some
end
def md(G:DF):Prop:=∀ss r aC,G ss=some (r,aC)->aC.length=ss.length/\∀(j:Nat),(∀d,ss[j]?=some (.own d)->∃d',aC[j]?=some (.own d'))/\∀d,ss[j]?=some (.pure d)->∃d',aC[j]?=some (.pure d')
theorem SJ{fb}(hG:∀ss y,G ss=some y->dP fb n ss=some y):md G:=λss r aC h=>by have:=hG ss _ h;unfold dP at this;cases e:fb (bx n ss)with|exc x N'=>rw[e]at this;cases this|stuck=>rw[e]at this;cases this|ok fl Z=>rw[e]at this;simp only at this;cases e1:c_ fl with|none=>rw[e1]at this;cases this|some r'=>rw[e1]at this;simp only[Wu]at this;cases e2:bF 0 ss Z with|none=>rw[e2]at this;cases this|some os=>
    rw[e2]at this;cases this;obtain⟨h1,h2⟩:=qF e2;refine⟨h1,λj=>⟨λd ed=>?_,λd ed=>?_⟩⟩
    .rcases h2 j _ ed with⟨d',z,_⟩|⟨d',d'',_,_,z⟩;.cases z
     .exact⟨d'',z⟩
    .rcases h2 j _ ed with⟨d',z,z'⟩|⟨d',d'',z,_⟩;.exact⟨d',z'⟩
     .cases z
section
variable{k:Nat}
set_option tactic.hygienic true in theorem yj{ps:List Str}(hK:md G){Q:VK}(hl:as.length=n)(h:tD c (aB G as) Y H Q):tL (oQ n G) [] E0 (tX c as) Y H Q:=by
 obtain⟨Z,kk,q⟩:=h;unfold aB at q;split at q
 .rename_i hc;rw[Wq]at hc;have nd:=uF hc.2;rw[bh]at q;refine⟨Z,kk,λi hi=>?_,aQ q λds W' q1 vs H1 a1 r1=>?_⟩
  .have:=WF.mp hc.1 i (jV.mpr hi);unfold dj at this;split at this;.rename_i d ed;exact oI kk ed
   .cases this
  .cases em:bD as ds W' with|none=>rw[em]at q1;exact q1.elim|some ss=>rw[em]at q1;simp only at q1;cases eg:G ss with|none=>rw[eg]at q1;exact q1.elim|some y=>obtain⟨r,aC⟩:=y;rw[eg]at q1;have kS:=uH a1.ok r1 em nd;obtain⟨m1,m2,_⟩:=oV r1 em;obtain⟨g1,g2⟩:=hK ss r aC eg;refine⟨ss,_,by rw[WU,<-m2];exact hl,%[WU|kS],r,aC,eg,λv H2 a2 r2=>?_⟩;rw[WU]at a2 r2;obtain⟨o1,o2⟩:=qH a1.ok r1 em nd rfl a2 (λj d ed=>(g2 j).1 d ed) λj d ed=>(g2 j).2 d ed;exact q1 v H2 (a1.trans o1) (aS.back (o2 v r r2) a1)
 .exact q.elim
theorem SK(F:aW X.prog X.w X.K X.mg X.base k x n G)(hK:md G)(hr:bM k X.A)(hg:Gl X x)(ha:SX X c (e::es) as)(hl:as.length=n)(cz:(x==("__debug__":Str))=false:=by decide)(he:W9 (e::es) X.env=(false,eval e X.env)::W9 es X.env:=by rfl)(bH:(Q3 pos (W9 es X.env)).any (·.1)=false:=by rfl):SE X c (.Call (.Name x pp) (e::es) [] pos) (aB G as):=by obtain⟨f,fd,ps,hm,hk,hb,ok⟩:=F;exact PE.weak (wW ok hr hg hm hk hb .nil xx ha cz he bH) λY H Q h=>yj (ps:=ps) hK hl h
end
def bt(np:List Nat)(n:Nat)(b:DS):DF:=λss=>if cy np 0 ss then dP b n ss else none
set_option tactic.hygienic true in theorem oW(h:bt np n b ss=some y):cy np 0 ss=true/\dP b n ss=some y:=by
 unfold bt at h;split at h;.rename_i hi;exact⟨hi,h⟩
 .cases h
theorem EB:md (bt np n b):=SJ λj j h=>(oW h).2
theorem kT(r:bM k A):A.units+64<WL:=by have:=r.un;lia
theorem EC(h:Np c np)(hc:cs.all (λi=>!np.contains i)=true):∀p∈c.pin,p.1∉cs:=λp hp z=>by have h1:=h p hp;grind
def uL:List Str->Bool|[]=>true|x::r=>!r.contains x&&uL r
theorem ED:∀{l:List Str},uL l=true->l.Nodup|[],_=>.nil|x::r,h=>by simp only[uL,Wq,Bool.not_eq_true']at h;exact List.nodup_cons.mpr ⟨λhm=>by have:=h.1;simp at this;exact this hm,ED h.2⟩
def iu(names:List (Str×NameKind))(x:Str)(k:NameKind):Bool:=match names.lookup x with|some j=>j==k|none=>false
set_option tactic.hygienic true in theorem yk(h:iu names x k=true):names.lookup x=some k:=by
 unfold iu at h;split at h;.rename_i j e;rw[e,eq_of_beq h]
 .cases h
def EE(names:List (Str×NameKind))(N:List Str)(sc:List (Str×NameKind))(cs:List Nat):Bool:=sc.all (λx=>!x.2==.local||iu sc x.1 .local)&&sc.all (λx=>!x.2==.free||(iu names x.1 .cell||iu names x.1 .free))&&uL (sc.map (·.1))&&(WI N.length).all λi=>match N[i]? with|some x=>!(iu sc x .local||iu sc x .cell)||cs.contains i|none=>true
theorem SM(h:names.lookup x=some k):iu names x k=true:=by unfold iu;rw[h];simp
theorem EF{X:Cx}{scope:Scope}{cs:List Nat}(hk:scope.kind=.function)(h:EE X.env.scope.names X.N scope.names cs=true):mV X scope cs:=by
 unfold EE at h;simp only[Wq]at h;obtain⟨⟨⟨h1,h2⟩,h3⟩,h4⟩:=h;refine⟨hk,λx hx hl=>?_,λx hx hf=>?_,ED h3,λi x hi hl=>?_⟩;.have:=WF.mp h1 x hx;rw[hl]at this;exact yk (~~~this)
 .have:=WF.mp h2 x hx;rw[hf]at this;have:iu X.env.scope.names x.1 .cell=true\/iu X.env.scope.names x.1 .free=true:= ~~~this;exact this.elim (λz=>.inl (yk z)) λz=>.inr (yk z)
 .have yb:i<X.N.length:=(W6.mp hi).1;have:=WF.mp h4 i (List.mem_range.mpr yb);rw[hi]at this;have hV:(iu scope.names x .local||iu scope.names x .cell)=true:=by grind[SM]
  grind
theorem SN:m7 K "str":=⟨rfl,rfl,rfl,rfl,rfl,rfl,rfl⟩
theorem SQ:m7 K "tuple":=⟨rfl,rfl,rfl,rfl,rfl,rfl,rfl⟩
theorem EG:br X (QJ .Mult) (rI pZ λi j=>.int (i*j)):=NL
def nc:Expr->Bool|.Starred ..=>false|_=>true
theorem oX(h:nc e=true):W9 (e::es) env=(false,eval e env)::W9 es env:=by
 cases e<;>first|(cases h;done)|rw[W9]|rfl
 all_goals(intros;contradiction)
section
variable{f:DE}{g:DA}
theorem SR(ha:SE X c e f)(hr:SA X c es g)(hs:nc e=true:=by rfl):SA X c (e::es) (aw f g):=DY ha hr (oX hs)
theorem SU(ha:SE X c e fe)(hr:SX X c es as)(hs:nc e=true:=by rfl):SX X c (e::es) (.val fe::as):=Sx ha hr (oX hs)
theorem SV(ha:PE X e (eW i))(hr:SX X c es as)(hs:nc e=true:=by rfl):SX X c (e::es) (.io i::as):=Sy ha hr (oX hs)
end
mutual def jr:Nat->Expr->Option D
 |_,.Constant c _ _=>match c with|.int i=>some (.int i)|.bool b=>some (.bl b)|.none=>some .ax|.str x=>some (.str x.cps.toList)|_=>none
 |n+1,.Tuple es _ _=>if es.length<=1000 then(me n es).map .tup else none|_,_=>none def me:Nat->List Expr->Option (List D)|_,[]=>some []|n,e::es=>match jr n e,me n es with|some d,some ds=>some (d::ds)|_,_=>none end
theorem SY:∀{n:Nat}{e:Expr}{d:D},jr n e=some d->nc e=true:=λ{n e d}h=>by cases e<;>first|rfl|(cases n<;>simp[jr]at h)
theorem EH{k:Const}{a:Nat}{b:Pos}{d:D}(h:jr n (.Constant k a b)=some d):SE X c (.Constant k a b) (eD d):=by cases k<;>cases n<;>simp[jr]at h<;>subst h<;>first|exact De|exact Df|exact Dg|exact Dh _ (Pf _)
set_option tactic.hygienic true in theorem yl(ih:∀{e:Expr}{d:D},jr n e=some d->SE X c e (eD d)):∀{es:List Expr}{ds:List D},me n es=some ds->SA X c es λZ=>.ok ds Z
 |[],ds,h=>by simp only[me,We]at h;subst h;exact DW|e::es,ds,h=>by
  simp only[me]at h;split at h;.rename_i d eX h1 h2;cases h;exact DY (ih h1) (yl ih h2) (oX (SY h1))
  .cases h
set_option tactic.hygienic true in theorem EI:∀{e:Expr}{d:D},jr n e=some d->SE X c e (eD d):=by induction n with
 |zero=>intro e d h;cases e<;>first|exact EH h|(simp[jr]at h;done)
 |succ n ih=>
 intro e d h;cases e<;>first|exact EH h|(simp[jr]at h;done)|skip
 simp only[jr]at h;split at h;.rename_i es _ _ hl;cases e:me n es with|none=>rw[e]at h;cases h|some ds=>rw[e]at h;simp only[WE,We]at h;subst h;exact D3 (yl ih e) hl
 .cases h
theorem S0(h:me n es=some ds):SA X c es λZ=>.ok ds Z:=yl EI h
def uM(ds:List D):DE:=λZ=>.ok (.own (.lst ds)) Z
theorem S3{d:D}(h:jr 9 e=some d):SE X c e (eD d):=EI h
theorem S4(h:me 9 es=some ds)(hl:es.length<=1000):SE X c (.List es pos) (uM ds):=D4 (S0 h) hl
theorem S5{i:Int}(hg:Gl X x)(hm:∃t,X.mg x=some (.int i t))(hd:(x==("__debug__":Str))=false:=by decide):SE X c (.Name x pos) (eD (.int i)):=by obtain⟨t,h⟩:=hm;exact Pn hg h hd
theorem S6(he:SE X c e fe)(hs:JB e none pos.line X.env=pure false:=by rfl):SS X c (.Expr e pos) (jU fe):=RX he (λj=>hs) trivial (BQ he hs)
theorem S7{o:Expr}{apos bL:Pos}(ho:PE X o (eW i))(he:SE X c e fe)(ji:JS o "append" X.env (eval o X.env)=eval o X.env:=by rfl)(jj:((Q3 bL (W9 [e] X.env)).all (λx=>!x.1)&&(backToKw bL (JT [] X.env)).all (λx=>x.1.isSome)&&decide ([e].length+([]:List Keyword).length+(if([]:List Keyword).isEmpty then 0 else 1)<30))=true:=by rfl)(jk:(apos.endLine==bL.line)=true:=by rfl)(hs:W9 [e] X.env=(false,eval e X.env)::W9 [] X.env:=by rfl)(qk:JB (.Call (.Attribute o "append" apos) [e] [] bL) none pos.line X.env=pure false:=by rfl):SS X c (.Expr (.Call (.Attribute o "append" apos) [e] [] bL) pos) (cA i fe):=RY (p0:=apos) ho he (BQ (qd Jv PySem.F.slot_list_append PySem.F.type_list_append CN ho (dJ he f_ hs) ji jj jk hs rfl) qk)
def ym(K:W3):Bool:=K.all λp=>match p.2.cls with|.type t=>!t=="list"|_=>true
theorem EJ[BEq α][LawfulBEq α]:∀{K:List (α×β)}{a:α}{o:β},K.lookup a=some o->(a,o)∈K|[],a,o,e=>by simp at e|(b,o')::r,a,o,e=>by rw[Qp]at e;cases hb:a==b with|true=>rw[hb]at e;have h1:o'=o:=WD e;have h2:a=b:=eq_of_beq hb;rw[h1,h2];exact Wl|false=>rw[hb]at e;exact Wi _ (EJ e)
theorem S8{o:Obj}(h:ym K=true)(e:K.lookup a=some o)(hc:o.cls=.type "list"):False:=by have hm:(a,o)∈(K:List (Addr×Obj)):=EJ e;have h1:=WF.mp h (a,o) hm;have h2:(match o.cls with|.type t=>!t=="list"|_=>true)=true:=h1;rw[hc]at h2;have h3:!("list":String)=="list"=true:=h2;rw[beq_self_eq_true]at h3;cases h3
def yn(x:Str):It:=⟨λi j=>i<x.cps.size,λi H y H'=>H'=H/\∃c,x.cps[i]?=some c/\y=.str ⟨#[c]⟩,λi j=>i=x.cps.size⟩
theorem S9(x:Str)(t:Tok)(it:Addr)(T:String)(hT:T="str_ascii_iterator"\/T="str_iterator"):Turn P w K tg (yn x) [it] it λi h=>h.IsStrIter it T x t i:=by
 have W:∀A:Wp,A.handled=none->Walks P w A it [it] [it] x.cps.size (SignAt x) λi h=>h.IsStrIter it T x t i:=λA hh=>by
  rcases hT with rfl|rfl;.exact Walks.strAscii hh it x t
  .exact Walks.strWide hh it x t
 refine⟨U',λi h st b hb=>?_,λi h h' st k=>?_,?_,?_,λA i s Q E st h=>?_⟩;.have e:b=it:= ~~~hb;subst e;obtain⟨o,e,c,d⟩:=st;exact⟨o,e,λv z=>by rw[d]at z;cases z⟩
 .obtain⟨o,e,r⟩:=st;exact⟨o,k it U' o e,r⟩
 .intro X hP hw hK hc i pins s Y H E I hf st hg;subst hP hw hK;obtain⟨f0,f1,f2,f3,f4,f5⟩:=hf it U';refine(W X.A (I.ok.hd hc)).item i s _ _ hg st λv h' tk hv eE kk=>?_;obtain⟨c,u,hx,rfl⟩:=hv;have I1:Inv X pins Y H {s with heap:=h',toks:=tk}:=I.turned (λb o hb e=>kk b o (~~~hb) e) f0 f1 f3 f4 f5;obtain⟨o,e,c',d⟩:=id eE;refine⟨_,rfl,tm (s:={s with heap:=h',toks:=tk}) e c' d (by rcases hT with rfl|rfl<;>decide) ⟨.str ⟨#[c]⟩,H,I1,⟨u,rfl⟩,⟨rfl,c,hx,rfl⟩,eE,λb hb=>(hf b hb).1⟩⟩
 .intro X hP hw hK hc i pins s Y H E I hf st hg;subst hP hw hK;have tV:i=x.cps.size:=hg;subst tV;obtain⟨f0,f1,f2,f3,f4,f5⟩:=hf it U';exact(W X.A (I.ok.hd hc)).done s _ _ st λh' tk eb=>⟨rfl,I.turned (λb o hb e=>eb b o (~~~hb) e) f0 f1 f3 f4 f5⟩
 grind[wpAny_pyIter_striter_ascii,wpAny_pyIter_striter_wide]
def S_(K:W3)(tl:TE):TI:=λY H R=>tl Y H λx H1=>(∃a,x=.ref a/\(∃xs,cP K H1 a xs)/\R (B5 K a) H1)\/(∃a,x=.ref a/\(∃xs,c9 K H1 a xs)/\R (wK K a) H1)\/∃z,x=.str z/\R (yn z) H1
theorem Ta{l:Expr}{tl:TE}(hl:PE X l tl):PI X tg l (S_ X.K tl):=by
 intro pins s Y H R I h;refine aX (hl pins s Y H _ I h) λv s1 hh=>?_;obtain⟨x,H1,I1,r1,q1⟩:=hh;rcases q1 with q1|q1|⟨z,e,q⟩;.obtain⟨a,e,⟨xs,hq⟩,q⟩:=q1;subst e;cases r1;obtain⟨its,rv,p,hz⟩:=I1.list hq;refine JG p.isList ?_;refine⟨s1.heap.objs.size,[s1.heap.objs.size],_,_,H1,rfl,I1.kept (t':=s1.toks) λb o e=>W5 _ e,Nw a _,⟨_,Wf _ rfl,rfl,rfl⟩,λb hb=>?_,q⟩;have e:b=s1.heap.objs.size:= ~~~hb;subst e;exact I1.jh (Wc _) (I1.ay.fresh (Wc _))
 .obtain⟨a,e,⟨xs,hq⟩,q⟩:=q1;subst e;cases r1;obtain⟨its,rv,p,hz⟩:=I1.tuple hq;refine U7 (show s1.heap.IsTuple a its.toArray from p) ?_;refine⟨s1.heap.objs.size,[s1.heap.objs.size],_,_,H1,rfl,I1.kept (t':=s1.toks) λb o e=>W5 _ e,Nx a _,⟨_,Wf _ rfl,rfl,rfl⟩,λb hb=>?_,q⟩;have e:b=s1.heap.objs.size:= ~~~hb;subst e;exact I1.jh (Wc _) (I1.ay.fresh (Wc _))
 .subst e;obtain⟨t,rfl⟩:=r1;refine wpAny_pyIter_strU ?_;have hT:Jn z="str_ascii_iterator"\/Jn z="str_iterator":=by
   unfold Jn;split;.exact .inl rfl
   .exact .inr rfl
  refine⟨s1.heap.objs.size,[s1.heap.objs.size],_,_,H1,rfl,I1.kept (t':=s1.toks) λb o e=>W5 _ e,S9 z t _ _ hT,⟨_,Wf _ rfl,rfl,rfl⟩,λb hb=>?_,q⟩;have e:b=s1.heap.objs.size:= ~~~hb;subst e;exact I1.jh (Wc _) (I1.ay.fresh (Wc _))
theorem Tb(z:Tx):oN c Y Z H (yn (toS z)) (z.map λn=>D.str [n]):=by intro H2 kp;have hsz:(toS z).cps.size=z.length:=#v[toS];refine⟨by show(z.map _).length=_;rw[hsz];simp,λi d e=>?_⟩;rw[Wj]at e;cases ez:z[i]? with|none=>rw[ez]at e;cases e|some n=>rw[ez]at e;cases e;have hi:i<z.length:=(W6.mp ez).1;refine⟨by show i<_;rw[hsz];exact hi,λx H3⟨e3,cc,hc,hx⟩=>.inl ⟨e3,?_⟩⟩;have:(toS z).cps[i]?=z[i]?:=#v[toS];rw[this,ez]at hc;cases hc;rw[hx];exact .str [n]
def aV(f:DE):DI:=λZ=>(f Z).bind λr W'=>match r.d with|.lst ds=>.ok ds W'|.tup ds=>.ok ds W'|.str x=>.ok (x.map λn=>.str [n]) W'|_=>.stuck
set_option tactic.hygienic true in theorem Tc(he:SE X c e fe):SI X c tg e (aV fe):=PI.weak (Ta he) λY H R⟨Z,k,q⟩=>by
 unfold aV at q;rw[bh]at q;refine⟨Z,k,aQ q λr W' q1 v H1 a1 r1=>?_⟩;have rr:=r1.rep;generalize r.d=d at q1 rr;cases d<;>first|exact q1.elim|skip
 .cases rr;exact .inr (.inr ⟨_,rfl,q1 _ H1 a1 (Tb _)⟩)
 .cases rr with|tup h1 h2 h3 h4=>exact .inr (.inl ⟨_,rfl,⟨_,.of h2⟩,q1 _ H1 a1 (R0 _ h2 (λz=>h1 (.inr z)) ⟨h3,h4⟩)⟩)
 .cases rr with|lst h1 h2 h3 h4=>refine .inl ⟨_,rfl,⟨_,.inl h2⟩,q1 _ H1 a1 ?_⟩;intro H2 kp;rename_i a vs;have h5:Rd H2 a (.lst vs):=Rd.keep h2 λo e=>kp a o e λz=>h1 (.inr z);have r':aH H1 (Av c Y W') vs _:=⟨h3,h4⟩;refine⟨⟨vs,.inl h5,%[r'.1|Wc _]⟩,λi d e=>?_⟩;obtain⟨v,ev,rv⟩:=r'.get e;refine⟨⟨vs,v,.inl h5,ev⟩,λx H3⟨e3,y⟩=>.inl ⟨e3,?_⟩⟩;have:=y vs (.inl h5);grind
def EK:DE:=λZ=>.ok (.own (.bV [])) Z
theorem EL:entryFor table "dict.update.loop"=some Builtin.«dict.update.loop»:=entryFor_of_tree (by kernel_rfl)
theorem ng:plainId "dict.update.loop"=true:=by decide+kernel
theorem Td:typeLookup (.type "tuple") "keys"=pure none:=by rw[typeLookup_type,JL];kernel_rfl
theorem Te:typeLookup (.type "list") "keys"=pure none:=by rw[typeLookup_type,JL];kernel_rfl
set_option maxRecDepth 8000 in theorem EM{Q xs}(hx:s.heap.get? a=some o)(hc:o.cls=.type "tuple")(mf:o.data=.seq xs k)(hd:o.dict=none)(hA:A.handled=none)(h:∀h' tk,(∀b ob,s.heap.get? b=some ob->h'.get? b=some ob)->Q none {s with heap:=h',toks:=tk}):W8 (model prog w) A (getAttr? (.ref a) "keys") Q E s:=by
 obtain⟨c,bV,dat,sl⟩:=o;simp only at hc mf hd;subst hc mf hd;obtain⟨hp,g,d,tk,os⟩:=s;have hT:∀mh,(⟨hp,g,d,mh,os⟩:W2).TypeIs (.ref a) "tuple":=λj=>⟨_,hx,rfl⟩;have f1:=sub_AttributeError;have f3:=F.slot_tuple_getattribute.lookup;have f4:=F.slot_tuple_getattribute.bind (.ref a);have f5:=am_tuple_getattr_none;have yo:=Td;unfold getAttr? getAttrBy? getAttrBy;repeat(any_goals(first|assumption|exact hT _|((with_reducible show W8 _ _ (call (Value.builtin "tuple.__getattribute__") _ _) _ _ _);refine call_meets F.slot_tuple_getattribute (hT _) am_entry_tuple_getattribute (F.args_tuple_getattribute_2 _ _) (meets_getattribute_miss_tuple a xs k sl "keys" _ yo P3) ⟨hx,hA,λh' mh e nh=>?_⟩)|wp_step))
 obtain⟨t',u',he⟩:=nh.there;show W8 _ _ (U8 _ _ _ _ _ _ _) _ _ _;unfold U8;repeat(any_goals(first|assumption|wp_step))
 exact h _ _ nh.keeps
set_option maxRecDepth 8000 in theorem EN{Q xs}(hx:s.heap.get? a=some o)(hc:o.cls=.type "list")(mf:o.data=.seq xs k)(hd:o.dict=none)(hA:A.handled=none)(h:∀h' tk,(∀b ob,s.heap.get? b=some ob->h'.get? b=some ob)->Q none {s with heap:=h',toks:=tk}):W8 (model prog w) A (getAttr? (.ref a) "keys") Q E s:=by
 obtain⟨c,bV,dat,sl⟩:=o;simp only at hc mf hd;subst hc mf hd;obtain⟨hp,g,d,tk,os⟩:=s;have hT:∀mh,(⟨hp,g,d,mh,os⟩:W2).TypeIs (.ref a) "list":=λj=>⟨_,hx,rfl⟩;have f1:=sub_AttributeError;have f3:=F.slot_list_getattribute.lookup;have f4:=F.slot_list_getattribute.bind (.ref a);have f5:=am_list_getattr_none;have yo:=Te;unfold getAttr? getAttrBy? getAttrBy;repeat(any_goals(first|assumption|exact hT _|((with_reducible show W8 _ _ (call (Value.builtin "list.__getattribute__") _ _) _ _ _);refine call_meets F.slot_list_getattribute (hT _) am_entry_list_getattribute (F.args_list_getattribute_2 _ _) (meets_getattribute_miss_list a xs k sl "keys" _ yo P3) ⟨hx,hA,λh' mh e nh=>?_⟩)|wp_step))
 obtain⟨t',u',he⟩:=nh.there;show W8 _ _ (U8 _ _ _ _ _ _ _) _ _ _;unfold U8;repeat(any_goals(first|assumption|wp_step))
 exact h _ _ nh.keeps
def gj(kps:List (Key×V))(acc:List (Key×V)):List (Key×V):=kps.foldl (λa kv=>putK a kv.1 kv.2) acc
theorem EO{R:Result->W2->Prop}{s:W2}{dl:Addr}{i:Int}{t0:Tok}(hn:W8 (model prog w) A.in1 (QE (.ref it)) (λr s1=>∃(q:Addr)(k v:Value)(n:Nat),r=some (.ref q)/\s1.heap.get? q=some {cls:=.type "tuple",dict:=none,data:=.seq #[k,v] n,slots:=#[]}/\W8 (model prog w) A.in1 (dictSet dl k v) (λj s2=>QR (model prog w) A (.builtin "dict.update.loop" ⟨[.ref dl,.ref it,WW (i+1),.none],[]⟩) R s2) (λj j=>False) s1) (λj j=>False) s):QR (model prog w) A (.builtin "dict.update.loop" ⟨[.ref dl,.ref it,.int i t0,.none],[]⟩) R s:=by
 refine U1 EL ?_;rw[Around.under_plainId ng _];show W8 _ A.in1 (QE (.ref it)>>=_) _ _ s;refine W0 (Q9 hn (λr s1 hr=>?_) (by grind));obtain⟨q,k,v,n,rfl,hq,hd⟩:=hr;dsimp only;refine W0 ?_;try with_reducible refine WC ?_
 refine W0 (wpAny_tryCatch ?_);have hT:s1.TypeIs (.ref q) "tuple":=⟨_,hq,rfl⟩;unfold Builtin.Dict.pairItems;refine W0 (J5 hT ?_);rw[if_pos Z'];refine W0 ?_;unfold seqItems?;refine W0 (wpAny_load hq (W4 ?_));refine W4 ?_;show W8 _ A.in1 (holding [k,v] (dictSet dl k v)) _ _ s1;try with_reducible refine WC ?_
 refine Q9 hd (λj s2 h2=>?_) (by grind);exact W4 ⟨JA ng _,h2⟩
theorem ER{i:Int}(hn:W8 (model prog w) A.in1 (QE (.ref it)) (λr s1=>r=none/\R (.ok (.ret .none)) s1) (λj j=>False) s):QR (model prog w) A (.builtin "dict.update.loop" ⟨[.ref dl,.ref it,.int i t0,.none],[]⟩) R s:=by refine U1 EL ?_;rw[Around.under_plainId ng _];show W8 _ A.in1 (QE (.ref it)>>=_) _ _ s;refine W0 (Q9 hn (λr s1 hr=>?_) (by grind));obtain⟨rfl,hd⟩:=hr;dsimp only;show W8 _ A.in1 (Builtin.Dict.addKeywords dl []>>=_) _ _ s1;exact W0 (W4 (W4 hd))
theorem Rd.sub{u}(h:Rd H a u)(k:∀b o,H b=Option.some o->H' b=Option.some o):Rd H' a u:=by
 rcases h with h|⟨o,h⟩;.exact .inl (k _ _ h)
 .exact .inr ⟨o,k _ _ h⟩
def uN(H:Hp)(ys:List V)(kps:List (Key×V)):Prop:=ys.length=kps.length/\∀(i:Nat)y kv,ys[i]?=some y->kps[i]?=some kv->∃q,y=.ref q/\H q=some (.tup [kV kv.1,kv.2])
theorem ES:∀(kps acc:List (Key×V)),(gj kps acc).length<=acc.length+kps.length|[],acc=>Wc _|kv::r,acc=>by have h1:=ES r (putK acc kv.1 kv.2);have h2:=CO acc kv.1 kv.2;show(gj r (putK acc kv.1 kv.2)).length<=_;simp only[WT];lia
theorem Tf(kps:List (Key×V))(kv:Key×V)(acc:List (Key×V)):gj (kps++[kv]) acc=putK (gj kps acc) kv.1 kv.2:=by unfold gj;rw[List.foldl_append];rfl
theorem ET{ys:List V}(hP:uN H ys kps)(fQ:H dl=none)(hz:kps.length<=Wb)(item:∀(i:Nat)(y:V)(H':Hp)(s:W2)(Q:Option Value->W2->Prop),(∀b o,H b=some o->H' b=some o)->H' it=none->Inv X pins Y H' s->tn i s.heap->ys[i]?=some y->(∀u s',RelV y u->Inv X pins Y H' s'->tn (i+1) s'.heap->Q (some u) s')->W8 (model X.prog X.w) A.in1 (QE (.ref it)) Q (λc c=>False) s)(done:∀(H':Hp)(s:W2)(Q:Option Value->W2->Prop),(∀b o,H b=some o->H' b=some o)->H' it=none->Inv X pins Y H' s->tn ys.length s.heap->(∀s',Inv X pins Y H' s'->Q none s')->W8 (model X.prog X.w) A.in1 (QE (.ref it)) Q (λc c=>False) s)(keep:∀(i:Nat)(h h':Heap),tn i h->(∀o,h.get? it=some o->h'.get? it=some o)->tn i h')(hit:H it=none)(bN:it≠dl)(hR:∀s',Inv X pins Y (upd H dl (.dK (gj kps []))) s'->R (.ok (.ret .none)) s'):∀(k i:Nat)(s:W2)(j:Int)(t0:Tok),ys.length-i=k->i<=ys.length->Inv X pins Y (upd H dl (.dK (gj (kps.take i) []))) s->tn i s.heap->QR (model X.prog X.w) A (.builtin "dict.update.loop" ⟨[.ref dl,.ref it,.int j t0,.none],[]⟩) R s:=by
 have up:∀(acc:List (Key×V))b o,H b=some o->upd H dl (.dK acc) b=some o:=λacc b o e=>%[aO (d_ e fQ)|e]
 have jf:∀acc:List (Key×V),upd H dl (.dK acc) it=none:=λacc=>%[aO bN|hit];intro k;induction k with|zero=>
 intro i s j t0 hk hi I st;have e:i=ys.length:=by lia
 subst e;rw[hP.1,List.take_of_length_le (Wc _)]at I;refine ER (done _ s _ (up _) (jf _) I st λs' I'=>⟨rfl,hR s' I'⟩)|succ k ih=>
 intro i s j t0 hk hi I st;have bc:i<ys.length:=by lia
 have gZ:i<kps.length:=by rw[<-hP.1];exact bc
 obtain⟨q,ey,hq⟩:=hP.2 i ys[i] kps[i] #v[bc] #v[gZ];have main:∀s1,Inv X pins Y (upd H dl (.dK (gj (kps.take i) []))) s1->tn (i+1) s1.heap->∃(kk vv:Value)(n:Nat),s1.heap.get? q=some {cls:=.type "tuple",dict:=none,data:=.seq #[kk,vv] n,slots:=#[]}/\RelV (kV kps[i].1) kk/\RelV kps[i].2 vv:=λs1 I1 c=>by obtain⟨_,its,r,n,e⟩:=show bw X.prog X.w _ s1.heap q (.tup [kV kps[i].1,kps[i].2])from I1.ay q _ (up _ q _ hq);obtain⟨u,v,rfl,r1,r2⟩:=Vals.two r;exact⟨u,v,n,e,r1,r2⟩
 refine EO (item i ys[i] _ s _ (up _) (jf _) I st #v[bc] λu s' ru I' eE=>?_);rw[ey]at ru;cases ru;obtain⟨kk,vv,n,e,r1,r2⟩:=main s' I' eE;refine⟨q,kk,vv,n,rfl,e,?_⟩;obtain⟨z,hd,vs,rel,dd⟩:=CT I'.ay bS;have iq:vs.length<=Wb:=by rw[<-rel.length];exact z
 have hl:(putK (gj (kps.take i) []) kps[i].1 kps[i].2).length<=Wb:=by have h1:=CO (gj (kps.take i) []) kps[i].1 kps[i].2;have h2:=ES (kps.take i) [];simp at h2;lia
 refine wpAny_dictSet_pairs (hsz:=iq) (qf r1) dd λh' EU hs=>?_;have he:∃q,h'.get? dl=some q:=let⟨q,_,_,hq,_⟩:=EU;⟨q,hq⟩;have I2:=xo (t':=s'.toks+1) I' %[bS|True.intro] hs he (OJ hl hd (rel.put kps[i].1 r2) EU);rw[ox]at I2;have et:kps.take (i+1)=kps.take i++[kps[i]]:=by simp_all
 rw[show putK (gj (kps.take i) []) kps[i].1 kps[i].2=gj (kps.take (i+1)) []by rw[et,Tf]]at I2;exact ih (i+1) _ (j+1) _ Y' bc I2 (keep (i+1) _ _ eE λo eo=>(hs.2 it bN).trans eo)
theorem Tg(hc:X.calm=true):eF X (.type "dict") λxs H Q=>∃p ys kps,xs=[.ref p]/\(H p=some (.tup ys)\/Rd H p (.lst ys))/\uN H ys kps/\kps.length<=Wb/\∀l,H l=none->Q (.ref l) (upd H l (.dK (gj kps []))):=by
 intro pins s Y H xs us Q I r h;obtain⟨p,ys,kps,rfl,hp,hP,hz,q⟩:=h;obtain⟨u,rfl,rx⟩:=f9 r;cases rx;have hA:X.A.handled=none:=I.ok.hd hc;refine callType_codes (Q₁:=λobj s₁=>obj=.ref s.heap.objs.size/\s₁={s with heap:=s.heap.push {cls:=.type "dict",data:=.dict #[]}}) F.kt_called_dict (F.kt_typeCall_dict_1 _) F.entry_dict_init (kt_code_dict_new _ ⟨rfl,rfl⟩) ?_;rintro obj s₁⟨rfl,rfl⟩;have fQ:H s.heap.objs.size=none:=I.ay.fresh (Wc _);have I1:Inv X pins Y (upd H s.heap.objs.size (.dK [])) {s with heap:=s.heap.push {cls:=.type "dict",data:=.dict #[]}}:=I.laid (t':=s.toks) (λj j q=>W5 _ q) (Wc _) (OL s.heap I.big);generalize iQ:s.heap.objs.size=dl at fQ I1;have up:∀(acc:List (Key×V))b o,H b=some o->upd H dl (.dK acc) b=some o:=λacc b o e=>%[aO (d_ e fQ)|e];have qJ:({s with heap:=s.heap.push {cls:=.type "dict",data:=.dict #[]}}:W2).TypeIs (.ref dl) "dict":=⟨_,by rw[<-iQ];exact Wf _ rfl,rfl⟩;refine⟨qJ,F.args_dict_init_2 _ _,?_⟩;unfold Builtin.«dict.__init__»;refine W0 ?_;unfold Builtin.Dict.selfAndRest;refine W0 (JM qJ ?_);show W8 _ _ (pure (dl,[Value.ref p])) _ _ _;refine W4 ?_;show W8 _ _ (Jw "dict.__init__" dl (.ref p) [] .none) _ _ _;unfold Jw;have fin:∀s',Inv X pins Y (upd H dl (.dK (gj kps []))) s'->EP X pins Y Q (.ref dl) s':=λs' I'=>⟨.ref dl,_,I',rfl,q dl fQ⟩;rcases hp with hp|hp
 .obtain⟨_,its,r,n,e⟩:=show bw X.prog X.w _ (s.heap.push {cls:=.type "dict",data:=.dict #[]}) p (.tup ys)from I1.ay p _ (up _ p _ hp);refine W0 (J5 ⟨_,e,rfl⟩ ?_);rw[if_pos Z'];refine W0 (EM e rfl rfl rfl hA λh' tk kp=>?_);rw[if_pos (show(none:Option Value).isNone=true from rfl)];refine W0 (QC ?_);have I2:Inv X pins Y (upd H dl (.dK [])) {s with heap:=h',toks:=tk}:=I1.kept kp;have jW:h'.IsTuple p its.toArray:=⟨_,kp _ _ e,rfl,n,rfl⟩;refine W0 (U7 (s:={s with heap:=h',toks:=tk}) jW ?_);refine W4 ⟨JA ng _,?_⟩;have df:upd H dl (.dK []) h'.objs.size=none:=I2.ay.fresh (Wc _);have bN:h'.objs.size≠dl:=λz=>by grind[bS]
  have hit:H h'.objs.size=none:=by rw[aO bN]at df;exact df
  have fp:∀H':Hp,H' h'.objs.size=none->fz X pins H' h'.objs.size:=λH' hn=>I2.jh (Wc _) hn;refine ET (X:=X) (pins:=pins) (Y:=Y) (H:=H) (dl:=dl) (it:=h'.objs.size) (ys:=ys) (kps:=kps) (tn:=λi h=>h.IsTupleIter h'.objs.size p i) hP fQ hz ?_ ?_ (λi h h2 st k=>st.at k) hit bN (λs' I'=>⟨rfl,fin s' I'⟩) ys.length 0 _ 0 _ (Ue _) (Q5 _) ?_ ?_;.intro i y H' s' Q' sub hn I' st hy k;obtain⟨_,its2,r2,n2,e2⟩:=show bw X.prog X.w _ s'.heap p (.tup ys)from I'.ay p _ (sub p _ hp);obtain⟨v,hv,rv⟩:=r2.get hy;obtain⟨f0,f1,f2,f3,f4,f5⟩:=fp H' hn;refine wpAny_pyNext_tuple_item st (items:=its2.toArray) ⟨_,e2,rfl,n2,rfl⟩ (x:=v) (~~~hv) λh3 iK sb=>?_;exact k v {s' with heap:=h3} rv (I'.turned (t':=s'.toks) (λb o hb e=>(sb.2 b hb).trans e) f0 f1 f3 f4 f5) iK
  .intro H' s' Q' sub hn I' st k;obtain⟨_,its2,r2,n2,e2⟩:=show bw X.prog X.w _ s'.heap p (.tup ys)from I'.ay p _ (sub p _ hp);obtain⟨f0,f1,f2,f3,f4,f5⟩:=fp H' hn;have m4:=r2.length;exact wpAny_pyNext_tuple_end (show X.A.in1.in1.handled=none from hA) st (items:=its2.toArray) ⟨_,e2,rfl,n2,rfl⟩ V' λh3 eb=>k {s' with heap:=h3} (I'.turned (t':=s'.toks) (λb o hb e=>eb b o hb e) f0 f1 f3 f4 f5)
  .exact I2.kept (t':=tk) λb o e=>W5 _ e
  .exact⟨_,Wf _ rfl,rfl,rfl⟩
 .obtain⟨_,its,n,r,e⟩:=show bw X.prog X.w _ (s.heap.push {cls:=.type "dict",data:=.dict #[]}) p (.lst ys)from(Rd.sub hp (up _)).ok I1.ay;refine W0 (J5 ⟨_,e,rfl⟩ ?_);rw[if_pos Z'];refine W0 (EN e rfl rfl rfl hA λh' tk kp=>?_);rw[if_pos (show(none:Option Value).isNone=true from rfl)];refine W0 (QC ?_);have I2:Inv X pins Y (upd H dl (.dK [])) {s with heap:=h',toks:=tk}:=I1.kept kp;have jW:h'.IsList p its.toArray:=⟨_,kp _ _ e,rfl,n,rfl⟩;refine W0 (JG (s:={s with heap:=h',toks:=tk}) jW ?_);refine W4 ⟨JA ng _,?_⟩;have df:upd H dl (.dK []) h'.objs.size=none:=I2.ay.fresh (Wc _);have bN:h'.objs.size≠dl:=λz=>by grind[bS]
  have hit:H h'.objs.size=none:=by rw[aO bN]at df;exact df
  have fp:∀H':Hp,H' h'.objs.size=none->fz X pins H' h'.objs.size:=λH' hn=>I2.jh (Wc _) hn;refine ET (X:=X) (pins:=pins) (Y:=Y) (H:=H) (dl:=dl) (it:=h'.objs.size) (ys:=ys) (kps:=kps) (tn:=λi h=>h.IsListIter h'.objs.size p i) hP fQ hz ?_ ?_ (λi h h2 st k=>st.at k) hit bN (λs' I'=>⟨rfl,fin s' I'⟩) ys.length 0 _ 0 _ (Ue _) (Q5 _) ?_ ?_;.intro i y H' s' Q' sub hn I' st hy k;obtain⟨_,its2,n2,r2,e2⟩:=show bw X.prog X.w _ s'.heap p (.lst ys)from(Rd.sub hp sub).ok I'.ay;obtain⟨v,hv,rv⟩:=r2.get hy;obtain⟨f0,f1,f2,f3,f4,f5⟩:=fp H' hn;refine wpAny_pyNext_list_item st (items:=its2.toArray) ⟨_,e2,rfl,n2,rfl⟩ (x:=v) (~~~hv) λh3 iK sb=>?_;exact k v {s' with heap:=h3} rv (I'.turned (t':=s'.toks) (λb o hb e=>(sb.2 b hb).trans e) f0 f1 f3 f4 f5) iK
  .intro H' s' Q' sub hn I' st k;obtain⟨_,its2,n2,r2,e2⟩:=show bw X.prog X.w _ s'.heap p (.lst ys)from(Rd.sub hp sub).ok I'.ay;obtain⟨f0,f1,f2,f3,f4,f5⟩:=fp H' hn;have m4:=r2.length;exact wpAny_pyNext_list_end (show X.A.in1.in1.handled=none from hA) st (items:=its2.toArray) ⟨_,e2,rfl,n2,rfl⟩ V' λh3 eb=>k {s' with heap:=h3} (I'.turned (t':=s'.toks) (λb o hb e=>eb b o hb e) f0 f1 f3 f4 f5)
  .exact I2.kept (t':=tk) λb o e=>W5 _ e
  .exact⟨_,Wf _ rfl,rfl,rfl⟩
def dH(ao:List (bU×D))(k:bU):Option D:=(ao.find? λkv=>decide (kv.1=k)).map (·.2)
def putD(ao:List (bU×D))(k:bU)(v:D):List (bU×D):=if(ao.any λkv=>decide (kv.1=k))=true then ao.map λkv=>if kv.1=k then(kv.1,v)else kv else ao++[(k,v)]
def ni(kps acc:List (bU×D)):List (bU×D):=kps.foldl (λa kv=>putD a kv.1 kv.2) acc
theorem Ti(h:eJ k=eJ j):k=j:=by
 cases k<;>cases j<;>simp[eJ]at h;.rw[h]
 .rw[ql h]
def DR(H:Hp)(O:Addr->Prop):List (Key×V)->List (bU×D)->Prop|[],[]=>True|p::ws,q::ds=>p.1=eJ q.1/\Rep H O p.2 q.2/\DR H O ws ds|_,_=>False
section
variable{O:Addr->Prop}
theorem DR.of:∀{ws:List (Key×V)}{ds:List (bU×D)},ws.map (·.1)=ds.map (λp=>eJ p.1)->(∀(i:Nat)p q,ws[i]?=some p->ds[i]?=some q->Rep H O p.2 q.2)->DR H O ws ds|[],[],_,_=>trivial|[],_::_,h,_=>by simp at h|_::_,[],h,_=>by simp at h|p::ws,q::ds,h,k=>by simp only[Wm,List.cons.injEq]at h;exact⟨h.1,k 0 p q rfl rfl,DR.of h.2 λi p' q' e1 e2=>k (i+1) p' q' (~~~e1) (~~~e2)⟩
theorem DR.keys:∀{ws:List (Key×V)}{ds:List (bU×D)},DR H O ws ds->ws.map (·.1)=ds.map λp=>eJ p.1|[],[],_=>rfl|[],_::_,h=>h.elim|_::_,[],h=>h.elim|p::ws,q::ds,h=>by simp only[Wm,h.1,DR.keys h.2.2]
theorem DR.vals:∀{ws:List (Key×V)}{ds:List (bU×D)},DR H O ws ds->∀(i:Nat)p q,ws[i]?=some p->ds[i]?=some q->Rep H O p.2 q.2|[],[],_,i,p,q,e,_=>by simp at e|[],_::_,h,_,_,_,_,_=>h.elim|_::_,[],h,_,_,_,_,_=>h.elim|p::ws,q::ds,h,i,p',q',e1,e2=>by cases i with|zero=>simp at e1 e2;subst e1 e2;exact h.2.1|succ i=>exact DR.vals h.2.2 i p' q' (~~~e1) (~~~e2)
theorem DR.map:∀{ws:List (Key×V)}{ds:List (bU×D)},DR H O ws ds->(∀v d,Rep H O v d->Rep H' O' v d)->DR H' O' ws ds|[],[],_,_=>trivial|[],_::_,h,_=>h.elim|_::_,[],h,_=>h.elim|p::ws,q::ds,h,k=>⟨h.1,k _ _ h.2.1,DR.map h.2.2 k⟩
theorem nj(h:p=eJ q):p=eJ k↔q=k:=⟨λe=>Ti (by rw[<-h];exact e),by grind⟩
theorem DR.any:∀{ws:List (Key×V)}{ds:List (bU×D)}(k:bU),DR H O ws ds->(ws.any λkv=>decide (kv.1=eJ k))=ds.any λkv=>decide (kv.1=k)|[],[],_,_=>rfl|[],_::_,_,h=>h.elim|_::_,[],_,h=>h.elim|p::ws,q::ds,k,h=>by rw[Qr,Qr,DR.any k h.2.2];congr 1;exact decide_eq_decide.mpr (nj h.1)
theorem DR.val{H O}:∀{ws:List (Key×V)}{ds:List (bU×D)}(k:bU),DR H O ws ds->dH ds k=none/\gr ws (eJ k)=none\/∃v d,dH ds k=some d/\gr ws (eJ k)=some v/\Rep H O v d
 |[],[],_,_=>.inl ⟨rfl,rfl⟩|[],_::_,_,h=>h.elim|_::_,[],_,h=>h.elim|p::ws,q::ds,k,h=>by
  by_cases e:q.1=k;.have e':=(nj h.1).mpr e;exact .inr ⟨p.2,q.2,#v[dH,Q2,e],xj e',h.2.1⟩
  .have e':¬p.1=eJ k:=λz=>e ((nj h.1).mp z);have ev:dH (q::ds) k=dH ds k:=#v[dH,Q2,e];rw[ev,xk e'];exact DR.val k h.2.2
theorem DR.append:∀{ws EV:List (Key×V)}{ds eX:List (bU×D)},DR H O ws ds->DR H O EV eX->DR H O (ws++EV) (ds++eX)|[],_,[],_,_,h'=>h'|[],_,_::_,_,h,_=>h.elim|_::_,_,[],_,h,_=>h.elim|p::ws,_,q::ds,_,h,h'=>⟨h.1,h.2.1,DR.append h.2.2 h'⟩
theorem DR.store:∀{ws:List (Key×V)}{ds:List (bU×D)}{k:bU}{v:V}{d:D},DR H O ws ds->Rep H O v d->DR H O (ws.map λkv=>if kv.1=eJ k then(kv.1,v)else kv) (ds.map λkv=>if kv.1=k then(kv.1,d)else kv)
 |[],[],_,_,_,_,_=>trivial|[],_::_,_,_,_,h,_=>h.elim|_::_,[],_,_,_,h,_=>h.elim|p::ws,q::ds,k,v,d,h,r=>by
  refine⟨?_,?_,DR.store h.2.2 r⟩
  .by_cases e:q.1=k;.dsimp only;rw[if_pos ((nj h.1).mpr e),if_pos e];exact h.1
   .dsimp only;rw[if_neg λz=>e ((nj h.1).mp z),if_neg e];exact h.1
  .by_cases e:q.1=k;.dsimp only;rw[if_pos ((nj h.1).mpr e),if_pos e];exact r
   .dsimp only;rw[if_neg λz=>e ((nj h.1).mp z),if_neg e];exact h.2.1
theorem DR.put{ds}(h:DR H O ws ds)(r:Rep H O v d):DR H O (putK ws (eJ k) v) (putD ds k d):=by
 unfold putK putD;rw[DR.any k h];split;.exact DR.store h r
 .exact DR.append h ⟨rfl,r,trivial⟩
theorem DR.nq:∀{kps:List (Key×V)}{uO:List (bU×D)}{ws:List (Key×V)}{ds:List (bU×D)},DR H O kps uO->DR H O ws ds->DR H O (gj kps ws) (ni uO ds)|[],[],_,_,_,h=>h|[],_::_,_,_,h,_=>h.elim|_::_,[],_,_,h,_=>h.elim|p::kps,q::uO,ws,ds,h,h'=>by show DR H O (gj kps (putK ws p.1 p.2)) (ni uO (putD ds q.1 q.2));rw[h.1];exact DR.nq h.2.2 (DR.put h' h.2.1)
end
noncomputable def eQ:D->Option bU|.int i=>some (.inl i)|.str x=>some (.inr x)|_=>none
theorem EW(h:eQ d=some k)(r:Rep H O v d):v=kV (eJ k):=by cases d<;>simp[eQ]at h<;>subst h<;>cases r<;>rfl
theorem EX(h:eQ d=some k)(r:c7 c Y Z H v d):v=kV (eJ k):=by
 rcases r with r|⟨a,rfl,r⟩;.exact EW h r
 .cases d<;>simp[eQ]at h<;>exact r.elim
noncomputable def g0:List D->Option (List (bU×D))
 |[]=>some []|.tup [k,v]::r=>match eQ k,g0 r with|some k',some r'=>some ((k',v)::r')|_,_=>none
 |_::_=>none
noncomputable def cN:D->Option S|.lst ds=>(g0 ds).bind λps=>if ps.length<=Wb then some (.own (.bV (ni ps [])))else none|.tup ds=>(g0 ds).bind λps=>if ps.length<=Wb then some (.own (.bV (ni ps [])))else none|_=>none
set_option tactic.hygienic true in theorem yp:∀{ds:List D}{vs:List V}{ps:List (bU×D)},g0 ds=some ps->aH H O vs ds->∃kps,uN H vs kps/\DR H O kps ps/\kps.length=ps.length
 |[],[],ps,h,_=>by simp[g0]at h;subst h;exact⟨[],⟨rfl,λi y kv e=>by simp at e⟩,trivial,rfl⟩|[],_::_,_,_,r=>by have:=r.1;simp at this|_::_,[],_,_,r=>by have:=r.1;simp at this|d::ds,v::vs,ps,h,r=>by
  unfold g0 at h;split at h;.grind
  .rename_i k w r' heq;cases heq;split at h;.rename_i k' r'' hk hr;cases h;obtain⟨kps,hP,hD,hL⟩:=yp hr r.tail;have rp:=r.head;cases rp with|tup h1 h2 h3 h4=>rename_i a us;rcases us with _|⟨x,_|⟨y,_|_⟩⟩<;>cases h3;have rk:=h4 0 x k rfl rfl;have rv:=h4 1 y w rfl rfl;have ek:=EW hk rk;subst ek;refine⟨(eJ k',y)::kps,⟨#v[hP.1],λi z kv e1 e2=>?_⟩,⟨rfl,rv,hD⟩,#v[hL]⟩;cases i with|zero=>simp at e1 e2;subst e1 e2;exact⟨a,rfl,h2⟩|succ i=>exact hP.2 i z kv (~~~e1) (~~~e2)
   .cases h
  .cases h
theorem aS.EY{ds}(k:Ok c Y Z H)(hp:H p=none)(r:DR H (Av c Y Z) ws ds):aS c Y Z H (upd H p (.dK ws)) (.ref p) (.own (.bV ds)):=by
 have up:∀a w,H a=some w->upd H p (.dK ws) a=some w:=λa w e=>%[aO (d_ e hp)|e];have r1:DR (upd H p (.dK ws)) (Av (c.plus p) Y Z) ws ds:=r.map λv d h=>(h.aP λb z=>by
 rcases z with(z|z)|z;.exact .inl (.inl z)
 .exact .inr %[z|hp]
 .exact .inl (.inr z)).keep λb w e j=>up b w e;exact⟨p,rfl,⟨ws,bS,r1.keys,r1.vals⟩,λz=>k.iP hp (.inl z),k.kK hp,k.plus hp _,hp⟩
theorem EZ:Qw "dict"=some (.type "dict"):=by decide+kernel
set_option tactic.hygienic true in theorem Tj(hc:X.calm=true)(hg:Gl X "dict")(hm:X.mg "dict"=none)(he:SB X c e fb)(hs:nc e=true:=by rfl):SE X c (.Call (.Name "dict" pp) [e] [] pos) (aF cN fb):=uu (r:=λv H Q=>∃p ys kps,v=.ref p/\(H p=some (.tup ys)\/Rd H p (.lst ys))/\uN H ys kps/\kps.length<=Wb/\∀l,H l=none->Q (.ref l) (upd H l (.dK (gj kps [])))) (Tg hc) (λv H Q⟨p,ys,kps,e,h⟩=>⟨p,ys,kps,by rw[e],h⟩) (λc Y Z H x d s Q k rx hp q=>by cases d with
 |lst ds=>simp only[cN]at hp;cases hps:g0 ds with|none=>rw[hps]at hp;cases hp|some ps=>
 rw[hps]at hp;simp only[Wu]at hp;split at hp;.rename_i hz;cases hp;obtain⟨a,vs,ex,ha,r⟩:=rx.lst;obtain⟨kps,hP,hD,hL⟩:=yp hps r;exact⟨a,vs,kps,ex,.inr ha,hP,%[hL|hz],λl hl=>q _ _ (.alloc k hl _) (aS.EY k hl (DR.nq hD (ws:=[]) (ds:=[]) trivial))⟩
 .cases hp|tup ds=>simp only[cN]at hp;cases hps:g0 ds with|none=>rw[hps]at hp;cases hp|some ps=>
 rw[hps]at hp;simp only[Wu]at hp;split at hp;.rename_i hz;cases hp;obtain⟨a,vs,ex,ha,r⟩:=rx.tup;obtain⟨kps,hP,hD,hL⟩:=yp hps r;exact⟨a,vs,kps,ex,.inl ha,hP,%[hL|hz],λl hl=>q _ _ (.alloc k hl _) (aS.EY k hl (DR.nq hD (ws:=[]) (ds:=[]) trivial))⟩
 .cases hp|_=>simp[cN]at hp) hg hm EZ he Z' Z' (oX hs)
theorem E1{ds}(r:c7 c Y Z H v (.bV ds)):∃a ws,v=.ref a/\H a=some (.dK ws)/\DR H (Av c Y Z) ws ds:=by obtain⟨a,ws,e,h,k1,k2⟩:=r.bV;exact⟨a,ws,e,h,DR.of k1 k2⟩
def E2(neg:Bool):R2:=λx y H Q=>∃a ao k,y=.ref a/\H a=some (.dK ao)/\x=kV k/\Q (.bl (if neg then !(gr ao k).isSome else(gr ao k).isSome)) H
theorem Tn(hu:X.A.units+64<WL):br X (WA .NotIn) (E2 true):=by intro pins s Y H x y v u Q I rx ry h;obtain⟨a,ao,k,rfl,ha,rfl,q⟩:=h;cases ry;exact OI Y' I (oC.k ha) rx λs' I'=>⟨.bl _,H,I',rfl,q⟩
def E3(K:W3)(neg:Bool):R2:=λx y H Q=>E2 neg x y H Q\/CJ K neg x y H Q\/∃i j,x=.str i/\y=.str j/\Q (.bl (if neg then !!(Builtin.Str.occurrences j i 0 j.length 1).isEmpty else !(Builtin.Str.occurrences j i 0 j.length 1).isEmpty)) H
theorem E4{X:Cx}(hu:X.A.units+64<WL):br X (WA .NotIn) (E3 X.K true):=(Tn hu).or (Oy.or NS)
noncomputable def gk(neg:Bool)(x y:D):Option S:=match y with
 |.bV ds=>(eQ x).map λk=>.pure (.bl (if neg then !(dH ds k).isSome else(dH ds k).isSome))|.str y=>match x with|.str [n]=>some (.pure (.bl (if neg then !decide (n∈y)else decide (n∈y))))|_=>none
 |.lst ds=>match x,dh ds with|.str z,some ts=>some (.pure (.bl (if neg then !ts.contains z else ts.contains z)))|_,_=>none
 |.tup ds=>match x,dh ds with|.str z,some ts=>some (.pure (.bl (if neg then !ts.contains z else ts.contains z)))|_,_=>none
 |_=>none
theorem E5(z:Tx)(ts:List Tx):tP (V.str (toS z)) (ts.map λz=>V.str (toS z))=ts.contains z:=by unfold tP;rw[Uf];induction ts with|nil=>rfl|cons t r ih=>rw[Qr,List.contains_cons,ih];congr 1;show(toS t==toS z)=(z==t);rw[oH,Bool.beq_comm]
theorem E6(ts:List Tx):(ts.map λz=>V.str (toS z)).all kG=true:=by rw[JK];exact List.all_eq_true.mpr λj j=>rfl
set_option tactic.hygienic true in theorem E7{K:W3}(neg:Bool):bW (E3 K neg) (gk neg):=by
 intro c Y Z H x y d e s Q k rx ry hp q;cases e<;>first|(simp[gk]at hp;done)|skip
 .rename_i z;simp only[gk]at hp;split at hp<;>first|(cases hp;done)|skip
  rename_i n;cases hp;refine .inr (.inr ⟨toS [n],toS z,rx.str,ry.str,?_⟩);rw[show toS [n]=⟨#[n]⟩from rfl,PySem.StrLaws.found_one,show(toS z).cps.toList=z by simp[toS]];exact q _ H (.refl k) (.bl _)
 .rename_i ds;simp only[gk]at hp;split at hp<;>first|(cases hp;done)|skip
  rename_i z ts ht;cases hp;obtain⟨a,vs,ea,ha,r⟩:=ry.tup;have ev:=qv ht r;refine .inr (.inl ⟨a,vs,ea,.inr (.of ha),by rw[rx.str];rfl,%[ev|E6 ts],?_⟩);rw[rx.str,ev,E5];exact q _ H (.refl k) (.bl _)
 .rename_i ds;simp only[gk]at hp;split at hp<;>first|(cases hp;done)|skip
  rename_i z ts ht;cases hp;obtain⟨a,vs,ea,ha,r⟩:=ry.lst;have ev:=qv ht r;refine .inr (.inl ⟨a,vs,ea,.inl (.inl ha),by rw[rx.str];rfl,%[ev|E6 ts],?_⟩);rw[rx.str,ev,E5];exact q _ H (.refl k) (.bl _)
 .rename_i ds;simp only[gk]at hp;cases hk:eQ d with|none=>rw[hk]at hp;cases hp|some kk=>
   rw[hk]at hp;cases hp;obtain⟨a,ws,ea,ha,dr⟩:=E1 ry;refine .inl ⟨a,ws,eJ kk,ea,ha,EX hk rx,?_⟩;have:(gr ws (eJ kk)).isSome=(dH ds kk).isSome:=by
    rcases dr.val kk with⟨e1,e2⟩|⟨v,d,e1,e2,_⟩;.rw[e1,e2];rfl
    .rw[e1,e2];rfl
   rw[this];exact q _ H (.refl k) (.bl _)
def yq:R2:=λx y H Q=>∃a ao k v,x=.ref a/\H a=some (.dK ao)/\y=kV k/\gr ao k=some v/\Q v H
noncomputable def cg:D->D->Option S|.bV ds,k=>(eQ k).bind λk=>(dH ds k).map .pure|x,y=>ag x y
theorem To(hu:X.A.units+64<WL):ie X yq:=by intro value slice pins s Y H x y v u Q I rx ry h hs;obtain⟨a,ao,k,w,rfl,ha,rfl,hv,q⟩:=h;cases rx;obtain⟨_,_,vs,_,dd⟩:=CT I.ay ha;have hT:s.TypeIs (.ref a) "dict":=dd.typeIs;exact tail_any hT F.slot_dict_getitem.lookup (OH (v:=w) Y' I (by rw[<-hv];exact oC.k ha) ry λw' s' I' bT=>⟨w,H,I',bT,q⟩) hs
theorem E8:bW (λx y H Q=>yq x y H Q\/tO K x y H Q) cg:=by intro c Y Z H x y d e s Q k rx ry hp q;cases d with
 |bV ds=>simp only[cg]at hp;cases hk:eQ e with|none=>rw[hk]at hp;cases hp|some kk=>
 rw[hk]at hp;simp only[Wu,Qc]at hp;obtain⟨dv,hv,rfl⟩:=hp;obtain⟨a,ws,ea,ha,dr⟩:=E1 rx;rcases dr.val kk with⟨e1,e2⟩|⟨v,d',e1,e2,r⟩;.grind
 .rw[e1]at hv;cases hv;exact .inl ⟨a,ws,eJ kk,v,ea,ha,EX hk ry,e2,q v H (.refl k) r⟩
 |_=>exact .inr (xV c Y Z H x y _ e s Q k rx ry hp q)
open Sem(wp)
section
open AutoSeq1(wpAny_loadPart')
theorem Tp{x}{items}(hit:s.heap.IsTupleIter it l i)(hl:s.heap.IsTuple l items)(hx:items[i]?=some x)(hQ:∀h',h'.IsTupleIter it l (i+1)->J4 it s.heap h'->Q x {s with heap:=h'}):W8 (model prog w) A (WJ (.ref it)) Q E s:=by obtain⟨o,ho,hc,hd⟩:=id hit;obtain⟨ol,qK,_,nl,fQ⟩:=hl;unfold WJ;refine W0 (Q0 (name:=Str.ofString "__next__") hit.typeIs Jf (WS Jf hit.typeIs F.entry_tuple_iterator_next ?_ (F.args_tuple_iterator_next_1 _)));show W8 _ _ (field (.ref it) 0>>=_) _ _ s;refine W0 (WK ho hd (x:=.ref l) rfl ?_);show W8 _ _ (if(Value.ref l==Value.none)=true then _ else _) _ _ s;rw[if_neg (show¬(Value.ref l==Value.none)=true from WN)];show W8 _ _ (field (.ref it) 1>>=_) _ _ s;refine W0 (WK ho hd (x:=.int i 0) rfl ?_);show W8 _ _ (seqItems? (.ref l)>>=_) _ _ s;refine W0 (Qn qK fQ ?_);simp only[QF,hx];refine W0 (Jp ho hd U' (W4 ⟨x,rfl,W4 (hQ _ ?_ (QU ..))⟩));exact⟨_,Qb _ ho (Obj.isFreed_of_fields (Obj.data_mapFields hd _)),(Obj.cls_mapFields ..).trans hc,by rw[Obj.data_mapFields hd];simp[WW]⟩
theorem Tq{items}(hh:A.handled=none)(hit:s.heap.IsTupleIter it l i)(hl:s.heap.IsTuple l items)(hx:items[i]?=none)(hE:∀h' e,Heap.ExtBut it s.heap h'->(∃o,h'.get? e=some o/\o.cls=.type "StopIteration")->E (.ref e) {s with heap:=h'}):W8 (model prog w) A (WJ (.ref it)) Q E s:=by
 obtain⟨o,ho,hc,hd⟩:=id hit;obtain⟨ol,qK,_,nl,fQ⟩:=hl;unfold WJ;refine W0 (Q0 (name:=Str.ofString "__next__") hit.typeIs Jf (WS Jf hit.typeIs F.entry_tuple_iterator_next ?_ (F.args_tuple_iterator_next_1 _)));show W8 _ _ (field (.ref it) 0>>=_) _ _ s;refine W0 (WK ho hd (x:=.ref l) rfl ?_);show W8 _ _ (if(Value.ref l==Value.none)=true then _ else _) _ _ s;rw[if_neg (show¬(Value.ref l==Value.none)=true from WN)];show W8 _ _ (field (.ref it) 1>>=_) _ _ s;refine W0 (WK ho hd (x:=.int i 0) rfl ?_);show W8 _ _ (seqItems? (.ref l)>>=_) _ _ s;refine W0 (Qn qK fQ ?_);simp only[QF,hx];refine W0 (QC (W0 (Jp ho hd U' ?_)));show W8 _ _ (newExc (.type "StopIteration") []>>=_) _ _ _;refine W0 ?_;simp only[newExc,newTuple];refine W0 (Qg ?_ (by size_fits));refine W0 (m:=firstArgMember _ _) (wpAny_of_eq (a:=Value.none) (by first|rfl|(simp only[firstArgMember];rfl)) ?_);refine Qg ?_ (by size_fits);simp only[raiseNew];refine W0 (wpAny_handled ?_);first|rw[show A.in1.handled=none from hh]|rw[hh]
 refine W0 (W4 (wpAny_throw ?_));exact hE _ _ (((QU ..).extBut.push _).push _) ⟨_,Wf _ rfl,rfl⟩
theorem IsTuple.at'{h:Heap}{l:Addr}(x:h.IsTuple l items)(k:∀o,h.get? l=some o->h'.get? l=some o):h'.IsTuple l items:=by obtain⟨o,ho,r⟩:=x;exact⟨o,k o ho,r⟩
theorem Draws.tuple'(hh:A.handled=none)(it l:Addr)(bN:l≠it)(items:Array Value):Draws prog w A it [it,l] items.size (λi v=>items[i]?=some v) λi h=>h.IsTupleIter it l i/\h.IsTuple l items where
 live:=λj j st=>let⟨o,ho,_⟩:=st.1;⟨o,ho⟩
 frame:=λj j j st hk=>⟨st.1.at λo e=>hk it U' o e,IsTuple.at' st.2 λo e=>hk l U' o e⟩
 item:=λi s Q E hi st hQ=>by refine Tp st.1 st.2 (x:=items[i]) #v[hi] λh' oY gK=>?_;exact hQ _ h' s.toks #v[hi] ⟨oY,IsTuple.at' st.2 λo e=>(gK.2 l bN).trans e⟩ gK
 done:=λs Q E st hE=>Tq hh st.1 st.2 U' hE
end
theorem Inv.uP(fp:List Addr)(I:Inv X pins Y H s)(k:∀b o,b∉fp->s.heap.get? b=some o->h'.get? b=some o)(hf:∀b∈fp,fz X pins H b):Inv X pins Y H {s with heap:=h',toks:=t'}:=by
 have jf:∀b u,H b=some u->b∉fp:=λb u e z=>by rw[(hf b z).1]at e;cases e
 refine I.step (g':=s.gens) (d':=s.drawn) (ch:=fp) (λb hb=>?_) (λb o j j hc e j=>k b o hc e) (λb o j j hc e j=>⟨o.slots,k b o hc e⟩) (λj j j j n=>n) (λb o hc e=>⟨o,k b o hc e⟩) (λj j e=>e) (λj j j e=>e) (λb ps e=>⟨#[],by rw[e];simp⟩) (λm hm=>?_) (λb u e=>?_) I.bare;.obtain⟨f0,f1,f2,f3,f4,f5⟩:=hf b hb;exact⟨f3,f1,f4,f5⟩
 .obtain⟨o,es,ep,ho,r⟩:=hm;exact⟨o,es,ep,k _ o (λz=>(hf _ z).2.1 rfl) ho,r⟩
 .refine(I.ay b u e).fm (λc v hc q=>k c v ?_ q) (λj q=>q) (λj j q=>q) λj j j q=>q;rcases hc with z|z;.rw[z];exact jf b u e
  .exact jf c _ z
section
variable{p2:Pos}
noncomputable def uQ:D->Bool|.ax=>true|_=>false
noncomputable def fX(neg:Bool)(d e:D):Option S:=match e with|.ax=>some (.pure (.bl (neg !=uQ d)))|_=>none
theorem E9:bW (λx y H Q=>y=.ax/\Q (.bl (decide (x=.ax))) H) (fX false):=by
 intro c Y Z H x y d e s Q k rx ry hp q
 cases e with|ax=>
  simp only[fX,We]at hp;subst hp;have ey:y=.ax:=by
   rcases ry with r|⟨a,e,o⟩;.cases r;rfl
   .exact o.elim
  have:decide (x=V.ax)=(false !=uQ d):=by
   rcases rx with r|⟨a,e,o⟩;.cases r<;>simp[uQ]
   .subst e;cases d<;>first|exact o.elim|simp[uQ]
  exact⟨ey,%[this|q _ H (.refl k) (.bl _)]⟩|_=>simp[fX]at hp
end
structure yr(P:Wn)(w:Ws)(K:W3)(mg:Str->Option Value)(base:Heap)(k:Nat)(f:Addr)(fd:WR)(ps:List Str)(sp:List Env->W2->Sp):Prop where
 len:∀outer s vs H Q E,sp outer s vs H Q E->vs.length=ps.length
 run:∀(A:Wp)(outer:List Env)(s:W2)(H:Hp)(args:Args)(us:List Value)(vs:List V)(Q:VK)(E:XK),bM k A->mQ P w K mg base A outer s H->BindsTo s fd args (ps.zip us)->Vals vs us->sp outer s vs H Q E->QR (model P w) A (.call (.ref f) args) (CR cY outer P w H s Q E) s
theorem cZ.Tr{st:Stmt}{k:Nat}{sp:List Env->W2->Sp}(F:cZ K x qual st f fd)(S:dM N ps (aR st))(len:∀outer s vs H Q E,sp outer s vs H Q E->vs.length=ps.length)(bZ:∀(aE:Value)(A:Wp)(outer:List Env)(s:W2)(H:Hp)(vs:List V)(Q:VK)(E:XK),bM k (A.deeper (Qx qual (aR st) s.heap.objs.size f aE))->A.frames=some outer->sp outer s vs H Q E->∃t,dI (cX cY P w K mg base N qual (aR st) f aE A outer s H E).fM (cQ st) t/\t {nx:=λj H'=>Q .ax H',rt:=Q} (dm N vs) H):yr P w K mg base (k+1) f fd ps sp:=by
 obtain⟨oc,od,kV,doc,pm,an,aE,ct,de,rfl,lk,da⟩:=F.ex;refine⟨len,λA outer s H args us vs Q E hr e0 hb r jN=>?_⟩;have hl:=len _ _ _ _ _ _ jN;have KX:K.In s.heap:=e0.mod.lG.keeps λb o e=>(e0.bs b o e).1;have lim:s.heap.NoLimit:=e0.mod.nolimit.keeps λb o e=>(e0.bs b o e).1;have p_:∀y∈ps.zip us,(aR st).names.lookup y.1=some .local\/(aR st).names.lookup y.1=some .cell/\((Qy (s.heap.objs.size+1) (aR st).names []).lookup y.1).isSome=true:=λ⟨n,v⟩hy=>by
  rcases S.par n (Jc hy).1 with q|q;.exact .inl q
  .exact .inr ⟨q,QZ _ _ _ (.inl q)⟩
 refine codeAny_call_function hr.depth (KX _ _ lk) rfl S.co S.gen rfl (PySem.W.codeRec_of KX da) (hb _ _ _ _ ?_);refine wpAny_newFunctionEnv_cells S.kind p_ λenv he s1 x=>?_;subst he;refine⟨lim.keeps x.toInCall.keep,codeAny_func ?_⟩;obtain⟨t,qL,hq⟩:=bZ aE A outer s H vs Q E (hr.deeper _) e0.frames jN;have ht:=qL.fM;have I:Inv (cX cY P w K mg base N qual (aR st) f aE A outer s H E) [] (dm N vs) H s1:=wY S hr.hd e0 hl r x;refine Q9 (ht [] s1 (dm N vs) H _ I hq) (λfl s' hs=>?_) λe s' hs=>hs;have fin:∀{SL:St}{H':Hp}{v:V}{u:Value},Inv (cX cY P w K mg base N qual (aR st) f aE A outer s H E) [] SL H' s'->RelV v u->Q v H'->CE outer P w H s Q u s':=λ{SL H' v u}J rv q=>⟨v,H',J.os,J.bare,J.base,J.ay,rv,q⟩;cases fl with|ret u=>obtain⟨v,SL,H',J,rv,q⟩:=hs;exact fin J rv q|next=>obtain⟨SL,H',J,q⟩:=hs;exact fin (v:=V.ax) (u:=Value.none) J rfl q|brk=>obtain⟨_,_,_,q⟩:=hs;exact False.elim q|cont=>obtain⟨_,_,_,q⟩:=hs;exact False.elim q
structure nr(H:Hp)(fs:List Addr)(h:Heap)(fa:Addr)(qual:Str)(params:Arguments)(body:Expr)(scope:Scope)(cl:List (Str×Addr))(fr:List Str)(fv:List V):Prop where
 obj:∃pm c' eS oc,h.get? fa=some (U2 "<lambda>" qual params body scope cl pm c' eS)/\H fa=none/\fa∉fs/\H c'=some (.frz oc (.ext λj=>True))/\∃vs tq,oc.data=.fields vs/\vs[1]?=some (.str qual tq)cell:∀x c,cl.lookup x=some c->(∃v,h.IsCell c v)/\H c=none/\c∉fs
 inj:∀x y c,cl.lookup x=some c->cl.lookup y=some c->x=y
 val:∀(i:Nat)x v,fr[i]?=some x->fv[i]?=some v->∃c u,cl.lookup x=some c/\h.IsCell c (some u)/\RelV v u
 yt:fv.length=fr.length
theorem nr.keep{fa body}(C:nr H fs h fa qual params body scope cl fr fv)(k:∀b o,h.get? b=some o->H b=none->b∉fs->h'.get? b=some o/\H' b=none)(kf:∀b o u,H b=some (.frz o u)->H' b=some (.frz o u)):nr H' fs h' fa qual params body scope cl fr fv:=by
 have kc:∀x c v,cl.lookup x=some c->h.IsCell c v->h'.IsCell c v:=λx c v e⟨o,ho,hd⟩=>⟨o,(k c o ho (C.cell x c e).2.1 (C.cell x c e).2.2).1,hd⟩;obtain⟨pm,c',eS,oc,h1,h2,h3,h4,h5⟩:=C.obj;refine⟨⟨pm,c',eS,oc,(k _ _ h1 h2 h3).1,(k _ _ h1 h2 h3).2,h3,kf _ _ _ h4,h5⟩,λx c e=>?_,C.inj,λi x v e1 e2=>?_,C.yt⟩;.obtain⟨⟨v,o,ho,hd⟩,q1,q2⟩:=C.cell x c e;exact⟨⟨v,o,(k c o ho q1 q2).1,hd⟩,(k c o ho q1 q2).2,q2⟩
 .obtain⟨c,u,q1,q2,q3⟩:=C.val i x v e1 e2;exact⟨c,u,q1,kc x c _ q1 q2,q3⟩
def qM(P:Wn)(w:Ws)(K:W3)(mg:Str->Option Value)(base:Heap)(N:List Str)(qual:Str)(scope:Scope)(f:Addr)(cd:Value)(cl:List (Str×Addr))(A:Wp)(outer:List Env)(s:W2)(H:Hp):Cx where
 prog:=P
 w:=w
 K:=K
 mg:=mg
 base:=base
 A:=A.deeper (JN qual scope s.heap.objs.size f cd cl)
 N:=N
 s₀:=s
 H₀:=H
 env:=JN qual scope s.heap.objs.size f cd cl
 outer:=outer
 stack:=JN qual scope s.heap.objs.size f cd cl::outer
 ex:=[]
 calm:=true
 fn:=λj=>false
 pn:=[]
 xe:=λj j=>False
structure uR(p:Str)(fr:List Str)(sc:Scope):Prop where
 kind:sc.kind=.function
 co:sc.isCoroutine=false
 gen:sc.isGenerator=false
 loc:sc.names.lookup p=some .local
 E_:∀y∈sc.names,y.2≠.cell
 free:∀x,sc.names.lookup x=some .free->x∈fr
 Ts:∀x∈fr,sc.names.lookup x=some .free
section
variable{fa:Addr}{body:Expr}{p:Str}{k:Nat}{t:TE}{Q:VK}
theorem Tt(I:Inv X pins Y H s)(C:nr H X.fs s.heap fa qual params body scope cl fr fv)(L:uR p fr scope)(hr:bM (k+1) X.A)(rv:RelV v u)(hb:∀pm aE eS(u:Value),bindArgs (PySem.W.kla_fn "<lambda>" qual params body scope cl pm aE eS) ⟨[u],[]⟩=pure [(p,u)])(bZ:∀cd,bM k (X.A.deeper (JN qual scope s.heap.objs.size fa cd cl))->PE (qM X.prog X.w X.K X.mg X.base (p::fr) qual scope fa cd cl X.A X.stack s H) body t)(q:t (some v::fv.map some) H Q):W8 (model X.prog X.w) X.A (call (.ref fa) [u]) (EP X pins Y Q) X.xe s:=by
 obtain⟨pm,c',eS,oc,h1,h2,h3,iw,vs,tq,h5,h6⟩:=C.obj;have h4:s.heap.get? c'=some oc:=(I.ay c' _ iw).1;have e0:=I.p8;have lim:s.heap.NoLimit:=e0.mod.nolimit.keeps λb o e=>(e0.bs b o e).1;refine wpAny_call (JI (R:=CR cY X.stack X.prog X.w H s Q E0) ?_ λr s' hq=>?_)
 .refine PySem.W.kla_callFunE hr.depth h1 rfl L.co L.gen rfl ⟨c',oc,vs,tq,rfl,h4,h5,h6⟩ ?_;rw[hb];refine W4 ?_;refine wpAny_newFunctionEnv L.E_ (λy hy=>by have:y=(p,u):= ~~~hy;subst this;exact L.loc) (λh' qN xH=>?_) L.kind;have hk:∀b o,s.heap.get? b=some o->h'.get? b=some o:=λb o e=>xH.extBut b o (WG (Wh e)) (W5 _ e);refine⟨lim.keeps hk,?_⟩;show QR _ _ (.expr body (JN qual scope s.heap.objs.size fa (.ref c') cl)) _ _;refine PySem.W.kla_codeExpr ?_;have J:Inv (qM X.prog X.w X.K X.mg X.base (p::fr) qual scope fa (.ref c') cl X.A X.stack s H) [] (some v::fv.map some) H {s with heap:=h',toks:=s.toks+[(p,u)].length}:=by
   have kF:∀b:Addr,b∉(qM X.prog X.w X.K X.mg X.base (p::fr) qual scope fa (.ref c') cl X.A X.stack s H).ex:=λb z=>absurd (show b∈([]:List Addr)from z) U';refine⟨⟨e0.mod,L.kind,rfl,rfl,Wc _,C.inj,λy hy=>?_,λy c z j=>by(have z':false=true:=z;cases z'),λj=>hr.hd,Around.frames_deeper e0.frames,.inr ⟨rfl,rfl⟩,λb z=>absurd z (kF b),e0.bs,e0.iJ,λb j j=>kF b,λb z=>absurd z (kF b),e0.f7,e0.je⟩,rfl,e0.bare,Un.kept hk,⟨_,qN,λi y w e1 e2 e3=>?_⟩,λy c e=>?_,e0.ay.fresh (Wc _),λy c e=>(C.cell y c e).2.1,λz hz=>absurd (show z∈([]:List (Addr×Obj))from hz) U',e0.ay.kept hk,?_⟩
   .have hy:scope.names.lookup y=some .cell\/scope.names.lookup y=some .free:=hy;rcases hy with hy|hy;.exact absurd rfl (L.E_ _ (Wz hy))
    .obtain⟨i,hi,rfl⟩:=List.getElem_of_mem (L.free y hy);have Tu:i<fv.length:=%[C.yt|hi];obtain⟨c,u',q1,_⟩:=C.val i fr[i] fv[i] #v[hi] #v[Tu];exact⟨c,q1⟩
   .cases i with|zero=>simp at e2;have e1:some p=some y:=e1;cases e1;subst e2;refine⟨u,rv,.inl ⟨L.loc,?_⟩⟩;simp|succ i=>
     have e1:fr[i]?=some y:=e1;have e2:fv[i]?=some w:=by have nt:(fv.map some)[i]?=some (some w):=e2;rw[Wj]at nt;cases z:fv[i]? with|none=>rw[z]at nt;cases nt|some a=>rw[z]at nt;cases nt;rfl
     obtain⟨c,u',q1,⟨o,ho,hd⟩,q3⟩:=C.val i y w e1 e2;exact⟨u',q3,.inr ⟨.inr (L.Ts y (Wx e1)),c,q1,o,hk c o ho,hd⟩⟩
   .obtain⟨⟨w,o,ho,hd⟩,_⟩:=C.cell y c e;exact⟨w,o,hk c o ho,hd⟩
   .show(some v::fv.map some).length=(p::fr).length;simp[C.yt]
  refine Q9 (bZ (.ref c') (hr.deeper _) [] _ _ H Q J q) (λu' s' hh=>?_) λe s' z=>z.elim;obtain⟨v',H',J',r',q'⟩:=hh;exact⟨v',H',J'.os,J'.bare,J'.base,J'.ay,r',q'⟩
 .cases r with|error e=>exact hq.elim|ok fl=>cases fl with|ret u=>exact I.after hq|next=>exact False.elim hq|brk=>exact False.elim hq|cont=>exact False.elim hq
end
theorem Ok.mono(k:Ok c Y Z H)(up:∀a o,H a=some o->H' a=some o):Ok c Y Z H':=⟨λa o e n=>up _ _ (k.keep a o e n),λa z=>(k.bd a z).elim λw e=>⟨w,up _ _ e⟩,λa z=>(k.cR a z).elim λw e=>⟨w,up _ _ e⟩,k.len,λi d e=>let⟨v,e1,r⟩:=k.slot i d e;⟨v,e1,r.keep λa o q j=>up a o q⟩,λi d e=>let⟨a,e1,r,q⟩:=k.own i d e;⟨a,e1,r.keep (λb o q j=>up b o q) λo q=>up a o q,q⟩,k.inj,k.pinned⟩
theorem aG.mono(k:Ok c Y Z H)(up:∀a o,H a=some o->H' a=some o):aG c Y Z H Y Z H':=⟨k.mono up,λa o e j=>up a o e,λa h=>.inl h,λa o e=>⟨o,up a o e⟩⟩
structure uS(X:Cx)(c:Fc)(fa:Addr)(F:D->Option D):Prop where there:∀pins Y H s,Inv X pins Y H s->∃fd,s.heap.get? fa=some {cls:=.type "function",data:=.func fd}run:∀pins s Y Z H v u d d' Q,Inv X pins Y H s->Ok c Y Z H->Rep H (Av c Y Z) v d->RelV v u->F d=some d'->(∀v' H',aG c Y Z H Y Z H'->Rep H' (Av c Y Z) v' d'->Q v' H')->W8 (model X.prog X.w) X.A (call (.ref fa) [u]) (EP X pins Y Q) X.xe s
noncomputable def jX(fb:DE)(dv:List D):D->Option D:=λd=>match fb (some (.pure d)::dv.map λx=>some (.pure x))with|.ok r _=>some r.d|_=>none
theorem Tv{fa body fb}(hex:X.ex=[])(hH:c.H₀=X.H₀)(hp:c.pin=[])(C:nr X.H₀ X.fs X.s₀.heap fa qual params body scope cl fr fv)(L:uR p fr scope)(hr:bM (k+1) X.A)(hb:∀pm aE eS(u:Value),bindArgs (PySem.W.kla_fn "<lambda>" qual params body scope cl pm aE eS) ⟨[u],[]⟩=pure [(p,u)])(rv:aH X.H₀ c.B fv dv)(bZ:∀(c':Fc)(cd:Value)(s:W2)(H:Hp),bM k (X.A.deeper (JN qual scope s.heap.objs.size fa cd cl))->c'.pin=[]->SE (qM X.prog X.w X.K X.mg X.base (p::fr) qual scope fa cd cl X.A X.stack s H) c' body fb):uS X c fa (jX fb dv):=by
 have Fb:∀a,¬c.I a:=λa⟨i,z⟩=>by rw[hp]at z;simp at z
 have CC:∀pins Y H s,Inv X pins Y H s->nr H X.fs s.heap fa qual params body scope cl fr fv:=λpins Y H s I=>C.keep (λb o e n hb=>⟨I.base.keep b o e n hb (by rw[hex];simp),I.base.free b o e n (by rw[hex];simp)⟩) I.base.hJ;refine⟨λpins Y H s I=>?_,λpins s Y Z H v u d d' Q I ok rd ru hF q=>?_⟩;.obtain⟨pm,c',eS,oc,h1,_⟩:=(CC pins Y H s I).obj;exact⟨_,h1⟩
 .have key:∀(i:Nat)w x,fv[i]?=some w->dv[i]?=some x->Rep H (Av c Y Z) w x:=λi w x e1 e2=>by
   have r0:=rv.2 i w x e1 e2;have r1:Rep X.H₀ (Av c Y Z) w x:=r0.aP λa z=>by
    rcases z with z|⟨j,d,z1,z2⟩;.exact .inl z
    .obtain⟨b,z3,_,z4,_⟩:=ok.own j d z1;rw[z2]at z3;cases z3;rcases z4 with z4|z4;.exact absurd z4 (Fb _)
     .exact .inr (by rw[<-hH];exact z4)
   exact r1.keep λa o e f=>ok.keep a o %[hH|e] (Fb a)
  have c'':Fc:=⟨H,Av c Y Z,[],λf f=>False⟩;refine Tt (t:=tD ⟨H,Av c Y Z,[],λf f=>False⟩ fb) I (CC pins Y H s I) L hr ru hb (λcd kU=>bZ _ cd s H kU rfl) ?_;have g_:∀(i:Nat)x,(some (S.pure d)::dv.map λx=>some (S.pure x))[i]?=some (some (.own x))->False:=λi x e=>by cases i with|zero=>simp at e|succ i=>rw[List.getElem?_cons_succ,Wj]at e;cases z:dv[i]? with|none=>rw[z]at e;cases e|some y=>rw[z]at e;cases e
  have uT:∀b,Av ⟨H,Av c Y Z,[],λf f=>False⟩ (some v::fv.map some) (some (S.pure d)::dv.map λx=>some (S.pure x)) b->Av c Y Z b:=λb z=>by
   rcases z with z|⟨i,x,z1,_⟩;.exact z
   .exact(g_ i x z1).elim
  refine⟨some (.pure d)::dv.map λx=>some (.pure x),⟨λa o e f=>e,λa z=>ok.tZ z,λa⟨i,z⟩=>by simp at z,?_,λi x e=>?_,λi x e=>(g_ i x e).elim,λi j a x x' e=>(g_ i x e).elim,λz hz=>by simp at hz⟩,?_⟩;.simp[rv.1]
  .cases i with|zero=>simp at e;subst e;exact⟨v,rfl,rd.aP λb z=>.inl (uT b z)⟩|succ i=>rw[List.getElem?_cons_succ,Wj]at e;cases z:dv[i]? with|none=>rw[z]at e;cases e|some y=>
     rw[z]at e;cases e;have hi:i<fv.length:=by rw[rv.1];exact(W6.mp z).1
     refine⟨fv[i],?_,(key i fv[i] x #v[hi] z).aP λb z=>.inl (uT b z)⟩;rw[List.getElem?_cons_succ,Wj];simp[hi]
  .unfold jX at hF;cases e:fb (some (.pure d)::dv.map λx=>some (.pure x))with|exc x N'=>rw[e]at hF;cases hF|stuck=>rw[e]at hF;cases hF|ok r S'=>
 rw[e]at hF;cases hF;intro v' H' a rs;have up:∀b o,H b=some o->H' b=some o:=λb o eb=>a.ok.keep b o eb λ⟨i,z⟩=>by simp at z
 exact q v' H' (.mono ok up) (rs.rep.aP λb z=>.inl (.inl z))
set_option tactic.hygienic true in theorem Own.unset(h:Own Y (Z.set i none) b):Own Y Z b:=by
 obtain⟨j,d',e1,e2⟩:=h;by_cases hj:i=j
 .subst hj;rw[Q4]at e1;split at e1;.split at e1<;>cases e1
  .rename_i q;exact absurd rfl q
 .rw[Wd hj]at e1;exact⟨j,d',e1,e2⟩
def qaA(i:Nat)(g:DG)(b:DS):DS:=λZ=>match Z[i]? with
 |some (some (.own (.lst ds)))=>(forL g b ds (Z.set i none)).bind λfl S'=>match fl with|.ret (.own _)=>.stuck|fl=>.ok fl (S'.set i (some (.own (.lst ds))))
 |_=>.stuck
section
variable{iter:Expr}{g:DG}{b:DS}
def uU(np:List Nat)(i:Nat):DS:=λZ=>match Z[i]? with|some (some (.own d))=>if np.contains i||!np.all (dj Z)then .ok (.ret (.pure d)) (Z.set i (some (.pure d)))else .ok (.ret (.own d)) (Z.set i none)|some (some (.pure d))=>.ok (.ret (.pure d)) Z|_=>.stuck
set_option tactic.hygienic true in theorem Tw(dW:Np c np)(he:PE X e (eW i)):SS X c (.Return (some e) pos) (uU np i):=PS.weak (BR he) λD Y H⟨Z,k,q⟩=>by
 unfold uU dO at q;split at q
 .rename_i d e;obtain⟨a,ea,oa,ia,nb⟩:=k.own i d e;refine⟨.ref a,ea,?_⟩;split at q;.obtain⟨a',ea',x,r⟩:=k.give e;rw[ea]at ea';cases ea';exact q Y H x _ r
  .rename_i hc;simp only[Bool.or_eq_true,not_or,Bool.not_eq_true,Bool.not_eq_false',WF]at hc;obtain⟨hc1,hc2⟩:=hc;have nI:¬c.I a:=λ⟨j,z⟩=>by
    have z1:=dW (j,a) z;have z2:=k.pinned (j,a) z;have z3:=hc2 j (~~~z1);unfold dj at z3;split at z3;.rename_i d' ej;have:=k.inj i j a _ _ e ej ea z2;grind
    .cases z3
   have h0:c.H₀ a=none:=ia.resolve_left nI;have hi:i<Z.length:=(W6.mp e).1;have ne:∀j d,(Z.set i none)[j]?=some (some d)->i≠j/\Z[j]?=some (some d):=λj d q=>by
    by_cases hj:i=j;.subst hj;rw[Wv hi]at q;cases q
    .rw[Wd hj]at q;exact⟨hj,q⟩
   have sub:∀b,Av (c.plus a) Y (Z.set i none) b->Av c Y Z b:=λb z=>by
    rcases z with(z|z)|z;.exact .inl z
    .subst z;exact .inr ⟨i,_,e,ea⟩
    .exact .inr z.unset
   have kp:Ok (c.plus a) Y (Z.set i none) H:=by
    refine⟨k.keep,λb z=>?_,k.cR,%[QQ|k.len],λj d q=>?_,λj d q=>?_,λj l b d d' q1 q2=>k.inj j l b d d' (ne j _ q1).2 (ne l _ q2).2,k.pinned⟩
    .rcases z with z|z;.exact k.bd b z
     .subst z;exact k.xI ⟨i,_,e,ea⟩
    .obtain⟨_,q⟩:=ne j _ q;obtain⟨v,g1,g2⟩:=k.slot j d q;exact⟨v,g1,g2.aP λb z=>.inl (sub b z)⟩
    .obtain⟨hj,q⟩:=ne j _ q;obtain⟨b,g1,g2,g3,g4⟩:=k.own j d q;refine⟨b,g1,g2.aP λb z=>.inl (sub b z),g3,λz=>?_⟩;rcases z with z|z;.exact g4 z
     .subst z;exact hj (k.inj i j b _ _ e q ea g1)
   have x:aG c Y Z H Y (Z.set i none) H:=by
    refine⟨⟨k.keep,k.bd,k.cR,%[QQ|k.len],λj d q=>?_,λj d q=>?_,λj l b d d' q1 q2=>k.inj j l b d d' (ne j _ q1).2 (ne l _ q2).2,k.pinned⟩,λ_ _ w _=>w,λb z=>.inl z.unset,λ_ o w=>⟨o,w⟩⟩;.obtain⟨_,q⟩:=ne j _ q;obtain⟨v,g1,g2⟩:=k.slot j d q;exact⟨v,g1,g2.aP λb z=>.inl (z.elim .inl λz=>.inr z.unset)⟩
    .obtain⟨hj,q⟩:=ne j _ q;obtain⟨b,g1,g2,g3,g4⟩:=k.own j d q;exact⟨b,g1,g2.aP λb z=>.inl (z.elim .inl λz=>.inr z.unset),g3,g4⟩
   exact q Y H x _ ⟨a,rfl,oa.aP λb z=>.inl (sub b z),nb,h0,kp,h0⟩
 .rename_i d e;obtain⟨v,e1,r⟩:=k.slot i d e;exact⟨v,e1,q Y H (.refl k) v r⟩
 .exact q.elim
end
theorem Fd(hu:X.A.units+64<WL):ie X λx y H Q=>yq x y H Q\/tO X.K x y H Q:=(To hu).or xf
section
variable{d:D}
set_option tactic.hygienic true in theorem g6{xs x}(h:(xs++[x])[i]?=some y):xs[i]?=some y\/i=xs.length/\y=x:=by
 rw[List.getElem?_append]at h;split at h;.exact .inl h
 .rename_i hi;right;have:i-xs.length=0:=by cases hk:i-xs.length with|zero=>rfl|succ k=>rw[hk]at h;simp at h
  rw[this]at h;simp at h;exact⟨Y',h.symm⟩
theorem getL{α:Type}{xs:List α}{x y:α}(h:xs[i]?=some y):(xs++[x])[i]?=some y:=by rw[Qu (W6.mp h).1];exact h
theorem Fe(hl:Z.length=Y.length):Own (Y++[some (V.ref a)]) (Z++[some (S.own d)]) b->Own Y Z b\/b=a:=by
 rintro⟨i,d',e1,e2⟩;rcases g6 e1 with e1|⟨hi,_⟩
 .rcases g6 e2 with e2|⟨hi,_⟩;.exact .inl ⟨i,d',e1,e2⟩
  .have:=(W6.mp e1).1;lia
 .rcases g6 e2 with e2|⟨_,e2⟩;.have:=(W6.mp e2).1;lia
  .cases e2;exact .inr rfl
theorem uV(hl:Z.length=Y.length)(h:Av c (Y++[some (V.ref a)]) (Z++[some (S.own d)]) b):Av (c.plus a) Y Z b:=by
 rcases h with h|h;.exact .inl (.inl h)
 .rcases Fe hl h with h|h;.exact .inr h
  .exact .inl (.inr h)
theorem Ok.Tz(k:Ok (c.plus a) Y Z H)(o:fD H (Av (c.plus a) Y Z) a d)(nb:¬c.B a)(h0:c.H₀ a=none):Ok c (Y++[some (.ref a)]) (Z++[some (.own d)]) H:=by
 have hl:=k.len;refine⟨k.keep,λb z=>k.bd b (.inl z),k.cR,#v[hl],λi d' e=>?_,λi d' e=>?_,λi j b d1 d2 e1 e2 s1 s2=>?_,λp hp=>getL (k.pinned p hp)⟩
 .rcases g6 e with e|⟨_,e⟩;.obtain⟨v,g1,g2⟩:=k.slot i d' e;exact⟨v,getL g1,g2.aP λb z=>.inl (uV hl z)⟩
  .cases e
 .rcases g6 e with e|⟨hi,e⟩;.obtain⟨b,g1,g2,g3,g4⟩:=k.own i d' e;exact⟨b,getL g1,g2.aP λb z=>.inl (uV hl z),g3,λz=>g4 (.inl z)⟩
  .cases e;subst hi;exact⟨a,by rw[hl];simp,o.aP λb z=>.inl (uV hl z),.inr h0,nb⟩
 .have na:∀(i:Nat)(d:D),Z[i]?=some (some (.own d))->Y[i]?=some (some (.ref a))->False:=λi d q1 q2=>oG k ⟨i,d,q1,q2⟩;rcases g6 e1 with e1|⟨h1,_⟩<;>rcases g6 e2 with e2|⟨h2,_⟩
  .have i1:=(W6.mp e1).1;have i2:=(W6.mp e2).1;rcases g6 s1 with s1|⟨z,_⟩
   .rcases g6 s2 with s2|⟨z,_⟩;.exact k.inj i j b d1 d2 e1 e2 s1 s2
    .lia
   .lia
  .subst h2;rw[hl]at s2;have hb:b=a:= ~~~s2.symm;subst hb;rcases g6 s1 with s1|⟨z,_⟩;.exact(na i d1 e1 s1).elim
   .have:=(W6.mp e1).1;lia
  .subst h1;rw[hl]at s1;have hb:b=a:= ~~~s1.symm;subst hb;rcases g6 s2 with s2|⟨z,_⟩;.exact(na j d2 e2 s2).elim
   .have:=(W6.mp e2).1;lia
  .rw[h1,h2]
theorem Ok.yu(hl:Z.length=Y.length)(k:Ok c (Y++[some (.ref a)]) (Z++[some (.own d)]) H)(hp:∀p∈c.pin,p.1<Y.length):Ok c Y Z H:=by
 have sub:∀b,Av c Y Z b->Av c (Y++[some (.ref a)]) (Z++[some (.own d)]) b:=λb z=>z.elim .inl λ⟨i,d',e1,e2⟩=>.inr ⟨i,d',getL e1,getL e2⟩;refine⟨k.keep,k.bd,k.cR,hl,λi d' e=>?_,λi d' e=>?_,λi j b d1 d2 e1 e2 s1 s2=>k.inj i j b d1 d2 (getL e1) (getL e2) (getL s1) (getL s2),λp hm=>?_⟩
 .obtain⟨v,g1,g2⟩:=k.slot i d' (getL e);have hi:=(W6.mp e).1;rcases g6 g1 with g1|⟨z,_⟩;.exact⟨v,g1,g2.aP λb z=>.inl (sub b z)⟩
  .lia
 .obtain⟨b,g1,g2,g3⟩:=k.own i d' (getL e);have hi:=(W6.mp e).1;rcases g6 g1 with g1|⟨z,_⟩;.exact⟨b,g1,g2.aP λb z=>.inl (sub b z),g3⟩
  .lia
 .rcases g6 (k.pinned p hm)with g|⟨z,_⟩;.exact g
  .have:=hp p hm;lia
end
def mj(G:DF)(f0:DE)(as:List Ak):DE:=λZ=>if(bo as).isEmpty then(f0 Z).bind λr W'=>match r with
 |.own d=>(cf as W').bind λds SZ=>match bD as ds SZ with|none=>.stuck|some ss=>match G (.own d::ss)with|none=>.stuck|some (r,_)=>.ok r SZ
 |_=>.stuck else .stuck
theorem Ff{x}:∀{as:List Ak}{ds:List (Option D)}{Z:Dl},bo as=[]->bD as ds (Z++[x])=bD as ds Z|[],[],Z,_=>rfl|[],_::_,Z,_=>rfl|.val f::as,[],Z,_=>rfl|.val f::as,none::ds,Z,_=>rfl|.val f::as,some d::ds,Z,h=>by simp only[bD];rw[Ff (as:=as) (ds:=ds) (Z:=Z) (by simpa[bo]using h)]|.io i::as,ds,Z,h=>by simp[bo]at h
theorem TB{d:D}{ds:List (Option D)}(hl:Z.length=Y.length)(h:iW (c.plus a) Y Z H vs as ds):iW c (Y++[some (.ref a)]) (Z++[some (.own d)]) H vs as ds:=by induction h with|nil=>exact .nil|val r _ ih=>exact .val (r.aP λb z=>.inl (uV hl z)) ih|io e _ ih=>exact .io (getL e) ih
section
variable{f0:DE}{k:Nat}
set_option tactic.hygienic true in theorem TC(hK:md G){Q:VK}(hl:as.length+1=n)(h:tD c (mj G f0 as) Y H Q):tL (oQ n G) [] E0 (wU (tD c f0) λY H Q=>∃a,tX (c.plus a) as Y H Q) Y H Q:=by
 obtain⟨Z,kk,q⟩:=h;unfold mj at q;split at q;case isFalse=>exact q.elim
 rename_i dB;have uW:bo as=[]:= ~~~dB;rw[bh]at q;refine⟨Z,kk,aQ q λr W' q1 v0 H1 a1 r1=>?_⟩;cases r with|pure d=>exact q1.elim|own d=>
 obtain⟨a,rfl,oa,nb,h0,kp,hs⟩:=r1;simp only at q1;rw[bh]at q1;refine⟨a,W',kp,λi hi=>absurd (jV.mpr hi) (by rw[uW];simp),?_⟩;have xR:post (c.plus a) (cf as W') λds SZ=>post c (match bD as ds SZ with|none=>.stuck|some ss=>match G (.own d::ss)with|none=>.stuck|some (r,_)=>.ok r SZ) λr S'=>∀v H',aG c Y Z H Y S' H'->aS c Y S' H H' v r->Q v H':=by cases hf:cf as W' with|ok fl S'=>rw[hf]at q1;exact q1|exc x N'=>rw[hf]at q1;exact q1|stuck=>rw[hf]at q1;exact q1
 refine aQ xR λds SZ q2 vs H2 a2 r2=>?_;cases em:bD as ds SZ with|none=>rw[em]at q2;exact q2.elim|some ss=>rw[em]at q2;simp only at q2;cases eg:G (.own d::ss)with|none=>rw[eg]at q2;exact q2.elim|some y=>
    obtain⟨r,aC⟩:=y;rw[eg]at q2;have nu:=a2.ok.len;have TF:fD H2 (Av (c.plus a) Y SZ) a d:=by have o1:fD H1 (λb=>Av (c.plus a) Y W' b\/Av (c.plus a) Y SZ b) a d:=oa.aP λb z=>z.elim .inl (a2.av b);exact(o1.keep (λb o e n=>a2.keep b o e λz=>n (.inl (.inr z))) λo e=>a2.keep a o e (oG kp)).aP λb z=>.inl (.inr z)
    have k':=Ok.Tz a2.ok TF nb h0;have r':iW c (Y++[some (.ref a)]) (SZ++[some (.own d)]) H2 (.ref a::vs) (.io Y.length::as) (none::ds):=.io U' (TB nu r2);have yv:bD (.io Y.length::as) (none::ds) (SZ++[some (.own d)])=some (.own d::ss):=by simp only[bD];rw[<-nu,show(SZ++[some (S.own d)])[SZ.length]?=some (some (.own d))by simp];simp only[Ff uW,em,WE]
    have nd:(bo (.io Y.length::as)).Nodup:=#v[bo,uW];have kS:=uH k' r' yv nd;obtain⟨m1,m2,_⟩:=oV r' yv;obtain⟨g1,g2⟩:=hK _ r aC eg;refine⟨.own d::ss,_,by rw[WU];rw[<-m2];simpa using hl,%[WU|kS],r,aC,eg,λv H3 a3 r3=>?_⟩;rw[WU]at a3 r3;obtain⟨o1,o2⟩:=qH k' r' yv nd rfl a3 (λj d ed=>(g2 j).1 d ed) λj d ed=>(g2 j).2 d ed;have o3:=o2 v r r3;obtain⟨d',ed'⟩:=(g2 0).1 d rfl;obtain⟨rs,ers⟩:∃rs,aC=.own d'::rs:=by cases aC with|nil=>simp at ed'|cons z rs=>simp at ed';subst ed';exact⟨rs,rfl⟩
    subst ers;have TJ:ba (.io Y.length::as) (.own d'::rs) (SZ++[some (.own d)])=SZ++[some (.own d')]:=by
     have hp:∀(as:List Ak)(rs:List S)(Z:Dl),bo as=[]->ba as rs Z=Z:=by intro as;induction as with|nil=>intro rs Z _;cases rs<;>rfl|cons x as ih=>intro rs Z h;cases x with
 |val f=>cases rs with|nil=>rfl|cons y rs=>simp only[ba];exact ih rs Z (by simpa[bo]using h)
 |io i=>simp[bo]at h
     simp only[ba];rw[hp as rs _ uW,<-nu];simp
    rw[TJ]at o1 o3;have yw:∀p∈c.pin,p.1<Y.length:=λp hm=>(W6.mp (kk.pinned p hm)).1;have kc:Ok c Y SZ H3:=Ok.yu nu o1.ok yw;have Fg:∀b,Own Y SZ b->Own (Y++[some (.ref a)]) (SZ++[some (.own d')]) b:=λb⟨i,d1,e1,e2⟩=>⟨i,d1,getL e1,getL e2⟩;have qO:aG c Y Z H Y SZ H2:=a1.trans ⟨Ok.yu nu k' yw,a2.keep,a2.own,a2.there⟩;have fin:aG c Y Z H Y SZ H3:=by
     refine⟨kc,λb o eb nO=>?_,qO.own,λb o eb=>?_⟩
     .have TK:=qO.keep b o eb nO;refine o1.keep b o TK λz=>?_;rcases Fe nu z with z|z
      .rcases qO.own b z with w|w;.exact nO w
       .rw[w]at eb;cases eb
      .subst z;rw[hs]at eb;cases eb
     .obtain⟨o',e'⟩:=qO.there b o eb;exact o1.there b o' e'
    have sub:∀b,Av c Y SZ b->Av c (Y++[some (.ref a)]) (SZ++[some (.own d')]) b:=λb z=>z.elim .inl λz=>.inr (Fg b z);refine q2 v H3 fin ?_;cases r with|pure dr=>exact Rep.aP (show Rep H3 (Av c (Y++[some (.ref a)]) (SZ++[some (.own d')])) v dr from o3) λb z=>.inl (sub b z)|own dr=>
     obtain⟨p,e1,oo,np,f,kq,jT⟩:=o3;have TM:SZ.length=Y.length:=nu;refine⟨p,e1,oo.aP λb z=>.inl ?_,np,f,Ok.yu TM kq yw,?_⟩
     .rcases z with z|z;.exact .inl z
      .exact .inr (Fg b z)
     .cases eH:H p with|none=>rfl|some o=>obtain⟨o',e'⟩:=qO.there p o eH;rw[jT]at e';cases e'
theorem TN(F:aW X.prog X.w X.K X.mg X.base k x n G)(hK:md G)(hr:bM k X.A)(hg:Gl X x)(h0:SE X c e f0)(ha:∀a,SX X (c.plus a) es as)(hl:as.length+1=n)(cz:(x==("__debug__":Str))=false:=by decide)(he:W9 (e::es) X.env=(false,eval e X.env)::W9 es X.env:=by rfl)(bH:(Q3 pos (W9 es X.env)).any (·.1)=false:=by rfl):SE X c (.Call (.Name x pp) (e::es) [] pos) (mj G f0 as):=by obtain⟨f,fd,ps,hm,hk,hb,ok⟩:=F;exact PE.weak (wW ok hr hg hm hk hb .nil xx (dJ h0 (t:=λY H Q=>∃a,tX (c.plus a) as Y H Q) (λppp pins s Y H Q I⟨a,q⟩=>ha a ppp pins s Y H Q I q) he) cz he bH) λY H Q h=>TC hK hl h
end
noncomputable def ny(fa:Addr)(F:D->Option D)(i:Nat)(fe:DE):DE:=λZ=>match Z[i]? with|some (some (.pure (.fn a)))=>if a=fa then(fe Z).bind λr W'=>match F r.d with|some d'=>.ok (.pure d') W'|none=>.stuck else .stuck|_=>.stuck
theorem TQ{E:Value->W2->Prop}{s:W2}{first:List Value}{Q:Value->W2->Prop}{rest:List Expr}(h:W8 M A (spliced (Q3 pos (W9 (e::rest) env))) (λvs s₁=>(∃fd,s₁.heap.get? a=some {cls:=.type "function",data:=.func fd})/\W8 M A (call (.ref a) (first++vs)) Q E s₁) E s)(he:W9 (e::rest) env=(false,eval e env)::W9 rest env:=by rfl)(xi:(Q3 pos (W9 rest env)).any (·.1)=false:=by rfl):W8 M A (callWith pos (.ref a) first (Q3 pos (W9 (e::rest) env)) []) Q E s:=by rw[he]at h⊢;exact PySem.W.callWith_of (P:=λh=>∃fd,h.get? a=some {cls:=.type "function",data:=.func fd}) (by show((false||(Q3 pos (W9 rest env)).any (·.1))||false)=false;rw[xi];rfl) (λh⟨fd,hf⟩=>⟨.frame,.inl rfl,(PySem.W.Looks.ld (part:=none) hf).andThen .now⟩) (Calls.evalArgs_plain h)
set_option tactic.hygienic true in theorem TR{fa:Addr}{p pos:Pos}(hc:uS X c fa F)(hv:PE X (.Name x p) (eW i))(he:SE X c e fe)(hs:W9 [e] X.env=(false,eval e X.env)::W9 [] X.env:=by rfl):SE X c (.Call (.Name x p) [e] [] pos) (ny fa F i fe):=by
 intro pins s Y H Q I⟨Z,k,q⟩;unfold ny at q;split at q
 .rename_i a e1;split at q
  .rename_i ea;subst ea;obtain⟨v,e2,r⟩:=k.slot i (.fn a) e1;cases r;refine QM (Q9 (hv pins s Y H (λv' H'=>v'=.ref a/\H'=H) I ⟨.ref a,e2,rfl,rfl⟩) (λu s1 hh=>?_) λ_ _ z=>z);obtain⟨v',H',I1,ru,ev,eH⟩:=hh;subst ev eH;obtain rfl:u=Value.ref a:=ru;have ha:=dJ he f_ hs;refine TQ (aX (ha pos pins s1 Y H' (λvs H2=>∃r W' d',vs.length=1/\F r=some d'/\(∀v∈vs,Rep H2 (Av c Y W') v r)/\aG c Y Z H' Y W' H2/\∀v' H3,aG c Y Z H' Y W' H3->Rep H3 (Av c Y W') v' d'->Q v' H3) I1 ⟨Z,k,?_⟩) λus s2 hh=>?_) hs rfl;.rw[bh]at q;refine aQ q λr W' q1 v H1 a1 r1=>?_;cases hF:F r.d with|none=>rw[hF]at q1;exact q1.elim|some d'=>rw[hF]at q1;exact⟨r.d,W',d',rfl,hF,λv' TU=>by have:v'=v:= ~~~TU;subst this;exact r1.rep,a1,λv' H3 a3 r3=>q1 v' H3 a3 r3⟩
   .obtain⟨vs,H2,I2,rr,r,W',d',hl,hF,hr,af,hq⟩:=hh;refine⟨hc.there _ _ _ _ I2,?_⟩;rcases vs with _|⟨v,_|_⟩<;>cases hl
    obtain⟨u,rfl,ru⟩:=f9 rr;exact hc.run pins s2 Y W' H2 v u r d' Q I2 af.ok (hr v U') ru hF λv' H3 a3 r3=>hq v' H3 (af.trans a3) r3
  .exact q.elim
 .exact q.elim
theorem Fh{a b:Value}{x y:Int}{t u:Tok}:∀{l:List Value},TriplesOk l->TriplesOk (l++[.int x t,.int y u,b])|[],_=>trivial|.int _ _::.int _ _::_::r,h=>Fh (a:=a) (l:=r) h
set_option tactic.hygienic true in theorem Fi{x u}:∀{l:List Value},TriplesOk l->codeAmong pos l=none->codeAmong pos (l++[.int x t,.int y u,b])=some cv->cv=b
 |[],_,_,h=>by
  simp only[Qv,codeAmong]at h;split at h;.exact(WD h).symm
  .cases h|.int i _::.int j _::c::r,h,hn,e=>by
  simp only[codeAmong]at hn;split at hn;.cases hn
  .rename_i q;simp only[List.cons_append,codeAmong]at e;rw[if_neg q]at e;exact Fi (l:=r) h hn e
section
variable{body:Expr}{c P:Addr}
theorem Inv.TV{a}(I:Inv X pins Y H s)(h:s.heap.objs.size<=a):a∉eC X.stack:=λz=>by
 rcases Wt.mp (I.oz a z)with e|e;.have:=I.lt;rw[<-e]at this;exact absurd (WB this h) (Qd _)
 .exact I.BH h e
theorem Inv.TX(I:Inv X pins Y H s)(jg:∀x,X.fn x=true)(h:X.env.cells.lookup x=some c):c∉eC X.stack:=λz=>by
 rcases Wt.mp (I.oz c z)with e|e;.exact I.gU x c h e
 .obtain⟨_,o,ho,_⟩:=I.ok.f7.mem e;exact absurd (WB (Wh ho) (I.ok.kD x c (jg x) h)) (Qd _)
theorem TY(I:Inv X pins Y H s)(hP:H P=some (.ctab pos (X.env.qual++"<lambda>")))(jg:∀x,X.fn x=true)(yx:defaultsOf params X.env=([],[]))(uX:closureFor scope X.env=pure cl)(uY:X.env.code=.ref c)(CH:Js X.K c P=true)(yy:Wo≠P)(hB:X.base.BuiltinsAt X.mg P)(kW:∀x a,cl.lookup x=some a->X.env.cells.lookup x=some a)(hlen:fv.length=fr.length)(TZ:∀(i:Nat)x v,fr[i]?=some x->fv[i]?=some v->∃(j:Nat)(a:Addr),X.N[j]?=some x/\Y[j]?=some (some v)/\X.env.scope.names.lookup x=some .cell/\cl.lookup x=some a)(h:∀fa H' s',Inv X pins Y H' s'->(∀a o,H a=some o->H' a=some o)->nr H' (eC X.stack) s'.heap fa (X.env.qual++"<lambda>") params body scope cl fr fv->Q (.ref fa) s'):W8 (model X.prog X.w) X.A (eval (.Lambda params body scope pos) X.env) Q E s:=by
 obtain⟨ps,hp,ht,hr⟩:=I.ay P _ hP;have Fj:=PySem.W.codeHd_of_K I.dw CH;have hg:s.heap.Ns Wo X.mg:=I.mod.glob.keeps I.bk;have hb:=hB.keeps I.bk;have fin:∀(H':Hp)(h':Heap)(tk:Tok)(pm eS:Value)(c':Addr)(oc:Obj),(∀b o,b≠P->s.heap.get? b=some o->h'.get? b=some o)->s.heap.objs.size<=h'.objs.size->(∀a o,H a=some o->H' a=some o)->(∀b,H b=none->b<s.heap.objs.size->H' b=none)->H' h'.objs.size=none->H' c'=some (.frz oc (.ext λk=>True))->(∃vs tq,oc.data=.fields vs/\vs[1]?=some (.str (X.env.qual++"<lambda>") tq))->cx X.prog X.w H' (h'.push (U2 "<lambda>" (X.env.qual++"<lambda>") params body scope cl pm c' eS))->(∃o,h'.get? P=some o)->Q (.ref h'.objs.size) {s with heap:=h'.push (U2 "<lambda>" (X.env.qual++"<lambda>") params body scope cl pm c' eS),toks:=tk}:=by
  intro H' h' tk pm eS c' oc hk hsz up dn yz hZ hoc ay hPo;have kp:∀b o,b≠P->s.heap.get? b=some o->(h'.push (U2 "<lambda>" (X.env.qual++"<lambda>") params body scope cl pm c' eS)).get? b=some o:=λb o nb e=>W5 _ (hk b o nb e);have nP:∀b,H b=none->b≠P:=λb n z=>by grind
  have J:Inv X pins Y H' {s with heap:=h'.push (U2 "<lambda>" (X.env.qual++"<lambda>") params body scope cl pm c' eS),toks:=tk}:=I.un ⟨λb o e n k k=>kp b o (nP b n) e,λb o e n k k=>⟨o.slots,kp b o (nP b n) e⟩,λb o e n k=>dn b n (Wh e),λb o e k=>by
    by_cases z:b=P;.obtain⟨o',q⟩:=hPo;exact⟨o',%[z|W5 _ q]⟩
    .exact⟨o,kp b o z e⟩,λb xs e=>up _ _ e,λb o u e=>up _ _ e,λb ps e=>⟨#[],by rw[up _ _ e];simp⟩⟩ ay;refine h _ H' _ J up ⟨⟨pm,c',eS,oc,Wf _ rfl,yz,I.TV hsz,hZ,hoc⟩,λx a e=>?_,λx y a e1 e2=>I.ok.inj x y a (kW x a e1) (kW y a e2),λi x v e1 e2=>?_,hlen⟩;.exact⟨J.cell x a (kW x a e),J.fq x a (kW x a e),J.TX jg (kW x a e)⟩
  .obtain⟨j,a,q1,q2,q3,q4⟩:=TZ i x v e1 e2;obtain⟨m,_,hl⟩:=J.loc;obtain⟨u,r1,r2⟩:=hl j x v q1 q2 (.inr (.inl q3));rcases r2 with⟨z,_⟩|⟨_,a',z1,z2⟩;.have z':X.env.scope.names.lookup x=some .local:=z;rw[q3]at z';cases z'
   .rw[kW x a q4]at z1;cases z1;exact⟨a,u,q4,z2,r1⟩
 refine PySem.W.kla_eval yx ?_;cases e:codeAmong pos ps.toList with|some cv=>obtain⟨c',oc,rfl,q1,q2⟩:=hr cv e;refine PySem.W.kla_makeFunctionHit uX I.ok.glob hg uY Fj hp ht e hb λeS h' tk hk hsz=>?_;exact fin H h' tk _ eS c' oc (λb o k q=>hk b o q) hsz (λk k q=>q) (λk n k=>n) (I.ay.fresh hsz) q1 q2 (I.ay.kept λb u q=>W5 _ (hk b u q)) ⟨_,hk _ _ hp⟩|none=>
  refine PySem.W.kla_makeFunction uX I.ok.glob hg uY Fj hp ht e yy hb λc' eS h' tk hx yA bc T3 Fm=>?_;obtain⟨c2,oc,vs,tq,ec,hoc,hd,hv⟩:=T3;cases ec;have hn:H c'=none:=I.ay.fresh yA;have up:∀a o,H a=some o->upd H c' (.frz oc (.ext λk=>True)) a=some o:=λa o q=>%[aO (d_ q hn)|q];have hsz:s.heap.objs.size<=h'.objs.size:=Wy yA (J0 bc);refine fin (upd H c' (.frz oc (.ext λk=>True))) h' tk _ eS c' oc (λb o nb q=>hx b o nb q) hsz up (λb n hb=>%[aO (WG (WB hb yA))|n]) %[aO (Qq bc)|I.ay.fresh hsz] bS ⟨vs,tq,hd,hv⟩ ?_ ⟨_,Fm⟩;intro a o ea;by_cases h1:a=c';.subst h1;rw[bS]at ea;cases ea;exact⟨W5 _ hoc,trivial,⟨_,W5 _ hoc⟩,by grind⟩
  .rw[aO h1]at ea;by_cases h2:a=P
   .subst h2;rw[hP]at ea;cases ea;refine⟨_,W5 _ Fm,?_,λcv z=>?_⟩;.rw[Array.toList_append];exact Fh (a:=.none) ht
    .rw[Array.toList_append]at z;have:=Fi ht e z;subst this;exact⟨c',oc,rfl,bS,vs,tq,hd,hv⟩
   .refine(I.ay a o ea).fm (λb u hb q=>W5 _ (hx b u (λz=>?_) q)) (λb q=>up _ _ q) (λb xs q=>up _ _ q) λb o u q=>up _ _ q;grind
end
abbrev g7:=List (Addr×Pos×Str)
variable{ts:g7}
def TH(ts:g7)(H:Hp):Prop:=∀t∈ts,H t.1=some (.ctab t.2.1 t.2.2)
structure FT(ts:g7)(c:Fc):Prop where
 h:TH ts c.H₀
 n:∀t∈ts,¬c.I t.1
theorem FT.now(f:FT ts c)(k:Ok c Y Z H):TH ts H:=λt ht=>k.keep _ _ (f.h t ht) (f.n t ht)
def spS(P:Wn)(w:Ws)(K:W3)(mg:Str->Option Value)(base:Heap)(N:List Str)(qual:Str)(scope:Scope)(f:Addr)(k:Nat)(iy:Addr->(D->Option D)->DS):List Env->W2->Sp:=λouter s vs H Q j=>∃(d:D)(fa:Addr)(F:D->Option D)(B:Addr->Prop)(v:V),vs=[v,.ref fa]/\Ok ⟨H,B,[],λj j=>False⟩ [some v,some (.ref fa)] [some (.pure d),some (.pure (.fn fa))] H/\(∀aE A E,bM k (A.deeper (Qx qual scope s.heap.objs.size f aE))->A.frames=some outer->uS (cX cY P w K mg base N qual scope f aE A outer s H E).fM ⟨H,B,[],λj j=>False⟩ fa F)/\∃r aC,dP (iy fa F) N.length [.pure d,.pure (.fn fa)]=some (r,aC)/\∀v' H',aG ⟨H,B,[],λj j=>False⟩ [some v,some (.ref fa)] [some (.pure d),some (.pure (.fn fa))] H [some v,some (.ref fa)] (bP aC) H'->aS ⟨H,B,[],λj j=>False⟩ [some v,some (.ref fa)] (bP aC) H H' v' r->Q v' H'
theorem T4{st:Stmt}{k:Nat}(F:cZ K x qual st f fd)(S:dM N ps (aR st))(h2:ps.length=2)(bZ:∀(c:Fc)(aE:Value)(A:Wp)(outer:List Env)(s:W2)(H:Hp)(E:XK)(fa:Addr)(Fn:D->Option D),bM k (A.deeper (Qx qual (aR st) s.heap.objs.size f aE))->Np c []->uS (cX cY P w K mg base N qual (aR st) f aE A outer s H E).fM c fa Fn->eN (cX cY P w K mg base N qual (aR st) f aE A outer s H E).fM c (cQ st) (iy fa Fn)):yr P w K mg base (k+1) f fd ps (spS P w K mg base N qual (aR st) f k iy):=by
 refine F.Tr S (λouter s vs H Q E h=>?_) λaE A outer s H vs Q E hr df h=>?_;.obtain⟨d,fa,Fn,B,v,rfl,_⟩:=h;exact h2.symm
 .obtain⟨d,fa,Fn,B,v,rfl,ok,Fo,r,aC,hrun,q⟩:=h;refine⟨jq ⟨H,B,[],λj j=>False⟩ (iy fa Fn),bZ ⟨H,B,[],λj j=>False⟩ aE A outer s H E fa Fn hr (λp hp=>by simp at hp) (Fo aE A E hr df),?_⟩;have cE:dm N [v,.ref fa]=bJ [v,.ref fa]++Ww (N.length-2) none:=rfl;refine⟨bx N.length [.pure d,.pure (.fn fa)],%[cE|ok.ext _],?_⟩;unfold dP at hrun;unfold dO;have uA:bq 0 [.pure d,.pure (.fn fa)] [v,.ref fa]=[]:=#v[bq];cases e:iy fa Fn (bx N.length [.pure d,.pure (.fn fa)])with|exc x N'=>rw[e]at hrun;cases hrun|stuck=>rw[e]at hrun;cases hrun|ok fl S'=>rw[e]at hrun;show∀SL H',aG _ (dm N [v,.ref fa]) (bx N.length [.pure d,.pure (.fn fa)]) H SL S' H'->fin _ _ SL S' H' fl;intro SL H' a;rw[cE]at a;simp only at hrun;cases fl with
 |brk=>cases hrun|cont=>cases hrun|next=>simp only[c_,Wu]at hrun;cases eo:bF 0 [.pure d,.pure (.fn fa)] S' with|none=>rw[eo]at hrun;cases hrun|some os=>rw[eo]at hrun;cases hrun;obtain⟨l1,l2⟩:=gy (vs:=[v,.ref fa]) (by rw[uA]) ok a eo;exact q .ax H' l1 .ax
 |ret r'=>simp only[c_,Wu]at hrun;cases eo:bF 0 [.pure d,.pure (.fn fa)] S' with|none=>rw[eo]at hrun;cases hrun|some os=>rw[eo]at hrun;cases hrun;obtain⟨l1,l2⟩:=gy (vs:=[v,.ref fa]) (by rw[uA]) ok a eo;exactλv' rv=>q v' H' l1 (l2 v' _ rv)
def nA(ts:g7)(n:Nat)(G:DF):Sp:=λvs H Q E=>TH ts H/\oQ n G vs H Q E
def oZ(P:Wn)(w:Ws)(K:W3)(mg:Str->Option Value)(base:Heap)(ts:g7)(k:Nat)(x:Str)(n:Nat)(G:DF):Prop:=∃(f:Addr)(fd:WR)(ps:List Str),mg x=some (.ref f)/\Qm K (.ref f)=true/\Binds K fd ps []/\gc P w K mg base cY k f fd ps (nA ts n G)
theorem Fp{st:Stmt}{k:Nat}{fb:DS}(F:cZ K x qual st f fd)(S:dM N ps (aR st))(bZ:∀(c:Fc)(aE:Value)(A:Wp)(outer:List Env)(s:W2)(H:Hp)(E:XK),bM k (A.deeper (Qx qual (aR st) s.heap.objs.size f aE))->Np c np->FT ts c->(∃oc od kV doc pm an ct de,K.lookup f=some ⟨oc,od,.func (Q7 x qual (gv st) (cQ st) (aR st) .none kV doc pm an aE ct),de⟩)->eN (cX cY P w K mg base N qual (aR st) f aE A outer s H E).fM c (cQ st) fb)(hG:∀ss y,G ss=some y->cy np 0 ss=true/\dP fb N.length ss=some y):gc P w K mg base cY (k+1) f fd ps (nA ts ps.length G):=by
 obtain⟨oc,od,kV,doc,pm,an,aE,ct,de,rfl,lk,da⟩:=F.ex;refine tM lk da S (λvs H Q E h=>?_) λA outer s H vs Q E hr h=>?_;.obtain⟨_,ss,B,hl,_⟩:=h;exact hl
 .obtain⟨hT,ss,B,hl,ok,r,aC,hg,q⟩:=h;obtain⟨dB,hrun⟩:=hG ss _ hg;have iq:ss.length=vs.length:=by have:=ok.len;simpa using this
  have kR:Np ⟨H,B,bq 0 ss vs,λu u=>False⟩ np:=λp hp=>by obtain⟨j,d,e,h1,_⟩:=iV (i:=p.1) (a:=p.2) hp;rw[e];exact oR dB h1
  have ft:FT ts ⟨H,B,bq 0 ss vs,λu u=>False⟩:=⟨hT,λt ht⟨i,z⟩=>by obtain⟨j,d,_,h1,h2⟩:=iV z;obtain⟨a,e1,o,_⟩:=ok.own j d (eY.mpr h1);rw[fG.mpr h2]at e1;cases e1;have:=hT t ht;cases d with|lst ds=>obtain⟨_,e,_⟩:=o;grind|bV ds=>obtain⟨_,e,_⟩:=o;grind|dic ds=>obtain⟨_,_,e,_⟩:=o;grind|_=>exact o.elim⟩;have hb:=bZ ⟨H,B,bq 0 ss vs,λu u=>False⟩ aE A outer s H E hr kR ft ⟨oc,od,kV,doc,pm,an,ct,de,lk⟩;refine⟨jq ⟨H,B,bq 0 ss vs,λu u=>False⟩ fb,hb.fM,?_⟩;have cE:dm N vs=bJ vs++Ww (N.length-ss.length) none:=by rw[iq];rfl
  refine⟨bx N.length ss,%[cE|ok.ext _],?_⟩;unfold dP at hrun;unfold dO;cases e:fb (bx N.length ss)with|exc x N'=>rw[e]at hrun;cases hrun|stuck=>rw[e]at hrun;cases hrun|ok fl S'=>rw[e]at hrun;show∀SL H',aG _ (dm N vs) (bx N.length ss) H SL S' H'->fin _ _ SL S' H' fl;intro SL H' a;rw[cE]at a;simp only at hrun;cases fl with
 |brk=>cases hrun|cont=>cases hrun|next=>simp only[c_,Wu]at hrun;cases eo:bF 0 ss S' with|none=>rw[eo]at hrun;cases hrun|some os=>rw[eo]at hrun;cases hrun;obtain⟨l1,l2⟩:=gy rfl ok a eo;exact q .ax H' l1 .ax
 |ret r'=>simp only[c_,Wu]at hrun;cases eo:bF 0 ss S' with|none=>rw[eo]at hrun;cases hrun|some os=>rw[eo]at hrun;cases hrun;obtain⟨l1,l2⟩:=gy rfl ok a eo;exactλv rv=>q v H' l1 (l2 v _ rv)
section
variable{k:Nat}
theorem T5(F:oZ X.prog X.w X.K X.mg X.base ts k x n G)(ft:FT ts c)(hK:md G)(hr:bM k X.A)(hg:Gl X x)(ha:SX X c (e::es) as)(hl:as.length=n)(cz:(x==("__debug__":Str))=false:=by decide)(he:W9 (e::es) X.env=(false,eval e X.env)::W9 es X.env:=by rfl)(bH:(Q3 pos (W9 es X.env)).any (·.1)=false:=by rfl):SE X c (.Call (.Name x pp) (e::es) [] pos) (aB G as):=by obtain⟨f,fd,ps,hm,hk,hb,ok⟩:=F;refine PE.weak (wW ok hr hg hm hk hb .nil xx ha cz he bH) λY H Q h=>?_;obtain⟨Z,kk,dB,q⟩:=yj (ps:=ps) hK hl h;exact⟨Z,kk,dB,aQ q λds W' q1 vs H1 a1 r1=>⟨ft.now a1.ok,q1 vs H1 a1 r1⟩⟩
end
def jY:List Nat->Dl->Option (List D×Dl)|[],Z=>some ([],Z)|j::js,Z=>match Z[j]? with|some (some (.pure d))=>(jY js Z).map λp=>(d::p.1,p.2)|some (some (.own d))=>(jY js (Z.set j (some (.pure d)))).map λp=>(d::p.1,p.2)|_=>none
set_option tactic.hygienic true in theorem Fq:∀{js:List Nat}{Z SZ:Dl}{dv:List D},Ok c Y Z H->jY js Z=some (dv,SZ)->aG c Y Z H Y SZ H/\∃fv:List V,fv.length=js.length/\(∀(i:Nat)j,js[i]?=some j->∃v,fv[i]?=some v/\Y[j]?=some (some v))/\aH H (Av c Y SZ) fv dv
 |[],Z,SZ,dv,k,h=>by simp only[jY,We,Prod.mk.injEq]at h;obtain⟨rfl,rfl⟩:=h;exact⟨.refl k,[],rfl,λi j e=>by simp at e,.nil⟩|j::js,Z,SZ,dv,k,h=>by
  have core:∀{W':Dl}{d:D}{v:V},aG c Y Z H Y W' H->Rep H (Av c Y W') v d->Y[j]?=some (some v)->(jY js W').map (λp=>(d::p.1,p.2))=some (dv,SZ)->aG c Y Z H Y SZ H/\∃fv:List V,fv.length=(j::js).length/\(∀(i:Nat)j',(j::js)[i]?=some j'->∃v,fv[i]?=some v/\Y[j']?=some (some v))/\aH H (Av c Y SZ) fv dv:=by intro W' d v a1 r1 e1 hm;cases e:jY js W' with|none=>rw[e]at hm;cases hm|some p=>obtain⟨dv',S'⟩:=p;rw[e]at hm;simp only[WE,We,Prod.mk.injEq]at hm;obtain⟨rfl,rfl⟩:=hm;obtain⟨a2,fv,h1,h2,h3⟩:=Fq a1.ok e;refine⟨a1.trans a2,v::fv,#v[h1],λi j' ej=>?_,.cons (Rep.dg r1 a2) h3⟩;cases i with|zero=>simp at ej;subst ej;exact⟨v,rfl,e1⟩|succ i=>obtain⟨v',q1,q2⟩:=h2 i j' (~~~ej);exact⟨v',~~~q1,q2⟩
  simp only[jY]at h;split at h;.rename_i d e;obtain⟨v,e1,r⟩:=k.slot j d e;exact core (.refl k) r e1 h
  .rename_i d e;obtain⟨a,e1,af,r⟩:=k.give e;exact core af r e1 h
  .cases h
def o_(fe:DE)(js:List Nat)(fb:DE)(W:(D->Option D)->D->Option D):DE:=λZ=>(fe Z).bind λr W'=>match jY js W' with
 |some (dv,SZ)=>match W (jX fb dv) r.d with|some d'=>.ok (.pure d') SZ|none=>.stuck
 |none=>.stuck
def yB(P:Wn)(w:Ws)(K:W3)(mg:Str->Option Value)(base:Heap)(k:Nat)(x:Str)(m:Nat)(iy:Addr->(D->Option D)->DS):Prop:=∃(f:Addr)(fd:WR)(ps:List Str)(qual:Str)(scope:Scope)(N:List Str),N.length=m/\mg x=some (.ref f)/\Qm K (.ref f)=true/\Binds K fd ps []/\ps.length=2/\yr P w K mg base (k+1) f fd ps (spS P w K mg base N qual scope f k iy)
theorem T6(h:∀q∈cl,cells.lookup q.1=some q.2):∀x a,cl.lookup x=some a->cells.lookup x=some a:=λx a e=>h (x,a) (Wz e)
theorem T7(h1:sc.kind=.function:=by rfl)(h2:sc.isCoroutine=false:=by rfl)(h3:sc.isGenerator=false:=by rfl)(h4:sc.names.lookup p=some .local:=by rfl)(h5:∀y∈sc.names,y.2≠.cell:=by decide+kernel)(h6:∀y∈sc.names,y.2=.free->y.1∈fr:=by decide+kernel)(h7:∀x∈fr,sc.names.lookup x=some .free:=by decide+kernel):uR p fr sc:=⟨h1,h2,h3,h4,h5,λx e=>h6 _ (Wz e) rfl,h7⟩
theorem T8{P:Wn}{w:Ws}{k:Nat}{fa T c:Addr}{tpos:Pos}{tq:Str}{fd:WR}{G:DF}{s₁:W2}{vs:List Value}{ns:List Int}(KX:K.In s₁.heap)(qN:s₁.heap.Ns Wo mg)(hb:s₁.heap.Ns builtinsNs mb)(T9:∀x:Str,x≠"__name__"->mb x=Qw x)(T_:s₁.heap.NoLimit)(hg:s₁.gens=#[])(ha:s₁.heap.get? a=some {cls:=.type "list",data:=.seq vs.toArray})(hi:IntsAre vs ns)(hl:ns.length<=Wb)(hr:bM k callerA)(hL:ym K=true)(hT:s₁.heap.get? T=some (PySem.W.tabObj #[]))(hC:PySem.W.CodeHd s₁.heap c T)(hB:∃bm o,mg "__builtins__"=some (.ref bm)/\bm≠builtinsNs/\s₁.heap.get? bm=some o/\o.cls=.type "module"/\o.dict=some builtinsNs/\o.data=.plain)(Fs:K.lookup T=none)(F:∀base:Heap,K.In base->base.Ns Wo mg->base.BuiltinsAt mg T->gc P w K mg base cY k fa fd [x] (nA [(T,tpos,tq)] 1 G))(Ui:∀(s:W2)(u:Value),BindsTo s fd ⟨[u],[]⟩ [(x,u)])(hG:∃aC,G [.pure (.lst (ns.map .int))]=some (.pure (.bl true),aC)):QR (model P w) callerA (.call (.ref fa) ⟨[.ref a],[]⟩) (λr s'=>r=.ok (.ret (.bool true))/\OldK s₁.heap s'.heap/\s'.os=s₁.os/\AllBare s'.gens) s₁:=by
 have rv:=Lake.CW hi;have qaB:=hi.length;have Uj:T≠a:=λz=>by grind
 have hka:K.lookup a=none:=by cases hk:K.lookup a with|none=>rfl|some o=>have e:=KX a o hk;rw[ha]at e;cases e;exact(S8 hL hk rfl).elim
 let H:Hp:=λb=>if b=a then some (.frz {cls:=.type "list",data:=.seq vs.toArray} (.lst (ns.map V.int)))else if b=T then some (.ctab tpos tq)else none;have Ha:H a=some (.frz {cls:=.type "list",data:=.seq vs.toArray} (.lst (ns.map V.int))):=if_pos rfl;have HT:H T=some (.ctab tpos tq):=by show(if T=a then _ else _)=_;rw[if_neg Uj,if_pos rfl]
 have Hn:∀b,b≠a->b≠T->H b=none:=λb h1 h2=>by show(if b=a then _ else _)=_;rw[if_neg h1,if_neg h2]
 have ay:cx P w H s₁.heap:=λb u z=>by
  by_cases h1:b=a;.subst h1;rw[Ha]at z;cases z;exact⟨ha,%[Wa|hl],vs,_,rv,ha⟩
  .by_cases h2:b=T;.subst h2;rw[HT]at z;cases z;exact⟨#[],hT,trivial,λcv q=>by cases q⟩
   .rw[Hn b h1 h2]at z;cases z
 have yC:∀{b:Addr}{o:Obj},s₁.heap.get? b=some o->H b=none->(jK s₁.heap H).get? b=some o:=λe n=>MS e n;have kF:∀{b:Addr}{o:Obj}{es:Array DictEntry}{ep:Nat},s₁.heap.get? b=some o->o.data=.dict es ep->H b=none:=λ{b o es ep}e d=>by grind
 have uZ:∀{b:Addr}{m:Str->Option Value},s₁.heap.Ns b m->(jK s₁.heap H).Ns b m:=λ{b m}⟨o,es,ep,e,d,r⟩=>⟨o,es,ep,yC e (kF e d),d,r⟩;have Ft:K.In (jK s₁.heap H):=λb o e=>yC (KX b o e) (Hn b λz=>by grind λz=>by grind);have hM:Mod K mg (jK s₁.heap H):=⟨Ft,uZ qN,⟨mb,uZ hb,T9⟩,let⟨mc,h1,h2⟩:=T_;⟨mc,uZ h1,h2⟩⟩;have e0:mQ P w K mg (jK s₁.heap H) callerA [] s₁ H:=⟨rfl,hM,λb o e=>MT e,Nat.le_of_eq (MR _ _),trivial,λb hb=>absurd (show b∈([]:List Addr)from hb) U',ay,.of_eq hg⟩;have Uk:TH [(T,tpos,tq)] H:=λt ht=>by have:t=(T,tpos,tq):= ~~~ht;subst this;exact HT
 have hR:Rd H a (.lst (ns.map V.int)):=.inr ⟨_,Ha⟩;have sp:nA [(T,tpos,tq)] 1 G [.ref a] H (λv H'=>v=.bl true/\H' T=some (.ctab tpos tq)) E0:=by
  obtain⟨aC,hg⟩:=hG;have rep:∀O:Addr->Prop,¬O a->Rep H O (.ref a) (.lst (ns.map D.int)):=λO hO=>.lst hO hR U' λi v d e1 e2=>by rw[Wj]at e1 e2;cases e:ns[i]? with|none=>rw[e]at e1;cases e1|some k=>rw[e]at e1 e2;cases e1;cases e2;exact .int k
  refine⟨Uk,[.pure (.lst (ns.map .int))],λy=>False,rfl,⟨λb o e y=>e,λb z=>z.elim,λb⟨i,z⟩=>?_,rfl,λi d e=>?_,λi d e=>?_,λi j b d d' e1 e2 e3 e4=>?_,λp z=>?_⟩,_,aC,hg,λv H' x r=>?_⟩;.simp[bq]at z
  .cases i with
 |zero=>
 simp at e;subst e;refine⟨.ref a,rfl,rep _ λz=>?_⟩;rcases z with z|⟨j,d',z1,z2⟩;.exact z
 .cases j with|zero=>simp at z1|succ j=>simp at z1
 |succ i=>simp at e
  .cases i with|zero=>simp at e|succ i=>simp at e
  .cases i with|zero=>simp at e1|succ i=>simp at e1
  .simp[bq]at z
  .cases r;exact⟨rfl,x.ok.keep T _ HT λ⟨i,z⟩=>by simp[bq]at z⟩
 have Ul:(jK s₁.heap H).BuiltinsAt mg T:=by
  obtain⟨bm,o,b1,b2,b3,b4,b5,b6⟩:=hB;refine⟨bm,o,b1,b2,λz=>?_,λz=>?_,yC b3 (Hn bm (λz=>?_) λz=>?_),b4,b5,b6⟩;.obtain⟨o2,es,ep,e,d,_⟩:=qN;grind
  all_goals grind
 refine JI ((F _ Ft (uZ qN) Ul).run callerA [] s₁ H ⟨[.ref a],[]⟩ [.ref a] [.ref a] _ _ hr e0 (Ui s₁ (.ref a)) (.cons rfl .nil) sp) λr s' h=>?_;cases r with|error e=>exact h.elim|ok fl=>cases fl with|next=>exact False.elim h|brk=>exact False.elim h|cont=>exact False.elim h|ret u=>
   obtain⟨v,H',os,bare,un,hok',r',q⟩:=h;obtain⟨q1,q2⟩:=q;subst q1;obtain rfl:u=Value.bool true:=r';have old:∀b o,s₁.heap.get? b=some o->asItWas s₁.heap s'.heap b o/\∃o',s'.heap.get? b=some o':=λb o e=>by
    by_cases h1:b=a;.subst h1;have z2:=un.hJ b _ _ Ha;obtain⟨e2,_⟩:=hok' b _ z2;rw[ha]at e;cases e;exact⟨.inl e2,_,e2⟩
    .by_cases h2:b=T;.subst h2;obtain⟨ps,e2,_⟩:=hok' b _ q2;rw[hT]at e;cases e;exact⟨.inr (.inl ⟨(hC.tab hT).isCodeTable,rfl,#[],ps,rfl,by rw[e2];simp⟩),_,e2⟩
     .have:=un.keep b o e (Hn b h1 h2) (by intro z;exact absurd (show b∈([]:List Addr)from z) U') U';exact⟨.inl this,_,this⟩
   exact⟨rfl,⟨λb o e=>(old b o e).1,λb o e=>(old b o e).2⟩,os,bare⟩
theorem Um{l:PySem.W.OpenLaw}{q:Wn}{d:DefRec}{K:Params->W3}{k:Nat}{T:Addr}(hn:l.most=some 63)(xu:d.params.defaults=[])(hr:bM k callerA)(hY:∀(w:Ws)(h:Heap),YP w h->(K w.params).In h/\h.get? T=some (PySem.W.tabObj #[]))(hL:∀p:Params,ym (K p)=true)(Fs:∀p:Params,(K p).lookup T=none)(hG:∀ns:List Int,ns.length<=63->∃aC,G [.pure (.lst (ns.map .int))]=some (.pure (.bl true),aC))(F:∀(w:Ws)(mg:Str->Option Value)(fa:Addr)(h:Heap),(K w.params).In h->h.Ns Wo mg->mg d.name=some (.ref fa)->(∃c,Js (K w.params) c T=true)/\∃fd:WR,(∀(s:W2)(u:Value),BindsTo s fd ⟨[u],[]⟩ [("script",u)])/\∀base:Heap,(K w.params).In base->base.Ns Wo mg->base.BuiltinsAt mg T->gc l.prog w (K w.params) mg base cY k fa fd ["script"] (nA [(T,tpos,tq)] 1 G)):PySem.W.WalkO q loose XP YP l.row.toRowW d [] λf vs=>PySem.call f vs:=by refine OQ hn xu λw s₀ s₁ mg mb fa o pm cd doc a vs ns G' M' ho hd da mT xw hints hlen hg=>?_;obtain⟨KX,hT⟩:=hY w _ M';obtain⟨⟨c,hC⟩,fd,hb,hF⟩:=F w mg fa _ KX G'.T.g mT;exact T8 KX G'.T.g G'.T.b G'.T.builtins G'.T.nolimit hg xw hints (Wy hlen Z') hr (hL _) hT (PySem.W.codeHd_of_K KX hC) G'.T.bmain (Fs _) hF hb (hG ns hlen)
def iX(h:Heap)(a C T:Addr)(dx:Option Addr)(fl:Value):Prop:=∃vs sl oT ts a0,h.get? a=some ⟨.ref C,dx,.fields vs,sl⟩/\vs[0]?=some a0/\vs[1]?=some (.ref T)/\T≠a/\h.get? T=some oT/\oT.data=.fields ts/\ts[3]?=some fl
structure yD(h h':Heap)(fs:List Addr)(a T:Addr)(old:Value):Prop where
 new:h.get? T=none
 keep:∀b o,h.get? b=some o->b≠a->old≠.ref b->b∉fs->h'.get? b=some o
 frame:∀b o,h.get? b=some o->(∀vs,o.data≠.fields vs)->∃sl,h'.get? b=some {o with slots:=sl}
theorem Fu{vs sl Q}(df:A.frames=some (env::outer))(hl:s.heap.FunFrames base (env::outer))(hf:env.frame=some L)(he:s.heap.get? a=some ⟨.ref C,dx,.fields vs,sl⟩)(h0:vs[0]?=some a0)(h1:1<vs.size)(q:∀h' T,iX h' a C T dx (WW L)->yD s.heap h' ((env::outer).filterMap (·.frame)) a T .none->Q () {s with heap:=h'}):W8 M A (do let x<-frameOf env;let pl<-entryPlaceOf L b0;let y<-EntryCells.newEntry head x .none (WW L) .none pl;setField (.ref a) 1 y) Q E s:=by
 have na:a∉(env::outer).filterMap (·.frame):=λz=>by obtain⟨_,o,g1,g2⟩:=hl.mem z;rw[he]at g1;cases g1;exact g2 vs rfl
 refine W0 (wpAny_frameOf_fun df hl hf λhA k=>W0 (wpAny_entryPlaceOf λpl bH=>?_));unfold EntryCells.newEntry newFields;refine W0 (Qg ?_ (bH.sizeOk5 _ _ _ _ _));have eA:hA.get? a=some ⟨.ref C,dx,.fields vs,sl⟩:=(k.2.1 a na).trans he;generalize u5:([head,.ref L,.none,WW L,.none]++if pl.isEmpty then Ww 6 Value.none else pl).toArray=ts;have t3:ts[3]?=some (WW L):=by rw[<-u5];rcases bH with rfl|⟨_,_,_,_,_,_,_,rfl⟩<;>simp
 have eB:=W5 (h:=hA) {cls:=.type "traceback",dict:=none,data:=.fields ts} eA;have nT:hA.objs.size≠a:=Qq (Wh eA);refine Jp eB rfl h1 (q _ hA.objs.size ⟨vs.setIfInBounds 1 (.ref hA.objs.size),sl,{cls:=.type "traceback",dict:=none,data:=.fields ts},ts,a0,?_,?_,?_,nT,?_,rfl,t3⟩ ⟨?_,λb o e n j nf=>?_,λb o e d=>?_⟩);.exact Qb _ eB rfl
 .rw[Array.getElem?_setIfInBounds_ne Z'];exact h0
 .simp[h1]
 .rw[WX _ _ (Ne.symm nT)];exact Wf hA rfl
 .cases z:s.heap.get? hA.objs.size with|none=>rfl|some o=>obtain⟨sl',z'⟩:=k.2.2 _ o z;exact absurd (Wh z') (Qd _)
 .rw[WX _ _ (Ne.symm n)];exact W5 _ ((k.2.1 b nf).trans e)
 .have nb:b≠a:=λz=>by rw[z,he]at e;cases e;exact d vs rfl
  obtain⟨sl',z⟩:=k.2.2 b o e;exact⟨sl',%[WX _ _ (Ne.symm nb)|W5 _ z]⟩
theorem Uo{vs sl Q}(df:A.frames=some (env::outer))(hl:s.heap.FunFrames base (env::outer))(hf:env.frame=some L)(he:s.heap.get? a=some ⟨.ref C,dx,.fields vs,sl⟩)(h0:vs[0]?=some a0)(h1:vs[1]?=some .none)(q:∀h' T,iX h' a C T dx (WW L)->yD s.heap h' ((env::outer).filterMap (·.frame)) a T .none->Q () {s with heap:=h'}):W8 M A (U5 (.ref a) env) Q E s:=by unfold U5;simp only[hf];refine W0 (WK he rfl h1 ?_);rw[if_neg Z'];exact Fu df hl hf he h0 (Jg.mp h1).1 q
theorem Up{Q}(df:A.frames=some (env::outer))(hl:s.heap.FunFrames base (env::outer))(hf:env.frame=some L)(hx:iX s.heap a C T₀ dx .none)(q:∀h' T,iX h' a C T dx (WW L)->yD s.heap h' ((env::outer).filterMap (·.frame)) a T (.ref T₀)->Q () {s with heap:=h'}):W8 M A (U5 (.ref a) env) Q E s:=by
 obtain⟨vs,sl,oT,ts,a0,e1,e2,e3,e4,e5,e6,e7⟩:=hx;unfold U5;simp only[hf];refine W0 (WK e1 rfl e3 ?_);rw[if_pos U'];refine W0 (WK e5 e6 e7 ?_);rw[if_neg #v[WW]];refine W0 (Jp e5 e6 (Jg.mp e7).1 ?_);have iA:∀b,b≠T₀->(s.heap.update T₀ (Obj.mapFields (·.setIfInBounds 3 Value.none))).get? b=s.heap.get? b:=λb n=>WX _ _ (Ne.symm n);have Fv:∀b o,s.heap.get? b=some o->(∀us,o.data≠.fields us)->b≠T₀:=λb o e d z=>by rw[z,e5]at e;cases e;exact d ts e6
 refine Fu (s:={s with heap:=s.heap.update T₀ (Obj.mapFields (·.setIfInBounds 3 Value.none))}) df (hl.of_keeps λb o e d=>⟨o,(iA b (Fv b o e d)).trans e,rfl⟩) hf ((iA a (Ne.symm e4)).trans e1) e2 (Jg.mp e3).1 λh' T f n=>q h' T f ⟨?_,λb o e n1 n2 n3=>?_,λb o e d=>n.frame b o ((iA b (Fv b o e d)).trans e) d⟩
 .have:=n.new;by_cases z:T=T₀;.exfalso;rw[z]at this;have g:=Qb (h:=s.heap) (Obj.mapFields (·.setIfInBounds 3 Value.none)) e5 (Obj.isFreed_of_fields (Obj.data_mapFields e6 _));rw[this]at g;cases g
  .exact(iA T z).symm.trans this
 .exact n.keep b o ((iA b λz=>n2 (by rw[z])).trans e) n1 U' n3
theorem Uq{T:Addr}{Q:Unit->W2->Prop}(hf:env.frame=some L)(hx:iX s.heap a C T dx (WW L))(q:Q () s):W8 M A (U5 (.ref a) env) Q E s:=by obtain⟨vs,sl,oT,ts,a0,e1,e2,e3,e4,e5,e6,e7⟩:=hx;unfold U5;simp only[hf];refine W0 (WK e1 rfl e3 ?_);rw[if_pos U'];refine W0 (WK e5 e6 e7 ?_);rw[if_pos U'];exact W4 q
theorem Ur{Q}(hx:iX s.heap a C T dx fl)(q:∀h',iX h' a C T dx (o.elim .none λf=>WW f)->(∀b,b≠T->h'.get? b=s.heap.get? b)->Q () {s with heap:=h'}):W8 M A (setFlight (.ref a) o) Q E s:=by obtain⟨vs,sl,oT,ts,a0,e1,e2,e3,e4,e5,e6,e7⟩:=hx;have hi:=(Jg.mp e7).1;have iA:∀b,b≠T->(s.heap.update T (Obj.mapFields (·.setIfInBounds 3 (o.elim Value.none λf=>WW f)))).get? b=s.heap.get? b:=λb n=>WX _ _ (Ne.symm n);unfold setFlight;refine W0 (WK e1 rfl e3 ?_);rw[if_pos U'];exact Jp e5 e6 hi (q _ ⟨vs,sl,_,_,a0,(iA a (Ne.symm e4)).trans e1,e2,e3,e4,Qb _ e5 (Obj.isFreed_of_fields (Obj.data_mapFields e6 _)),Obj.data_mapFields e6 _,#v[hi]⟩ iA)
abbrev u6:List Value:=[.type "ValueError",.type "Exception",.type "BaseException",.type "object"]
def jZ(K:W3)(C:Addr):Prop:=PySem.W.excIn K C u6 "ValueError.__new__"=true
set_option tactic.hygienic true in theorem jZ.obj{h:Heap}(q:jZ K C)(X:K.In h):∃(bm:List Value)(N:Addr)(nm qn:Str)(bs:List Value)(hdct:Bool)(sn:List Str)(sub:List Value)(ab:Bool)(col:Option Bool)(dd:Option Addr)(k0 k1 k2 k3 k5:Option Value)(mN:Str->Option Value),h.get? C=some (excClassObj nm qn C N bs bm hdct sn sub ab col dd k0 k1 k2 k3 k5 "ValueError.__new__")/\h.Ns N mN/\mN "__init__"=none/\OwnTail h u6 bm:=by
 unfold jZ PySem.W.excIn at q;split at q;next dd cd sl lk=>
  split at q;next C' bm k0 k1 k2 k3 n k5 e1 e2=>
   simp only[Wq,beq_iff_eq,Bool.not_eq_true']at q;obtain⟨⟨⟨⟨⟨c1,c2⟩,c3⟩,c4⟩,c5⟩,c6⟩:=q;subst c1;subst c2;have e3:sl=#[k0,k1,k2,k3,some (.builtin "ValueError.__new__"),k5]:=by cases sl;simp only at e2;rw[e2]
   subst e3;cases cd;simp only at e1 c3 c4 c5 c6 lk;subst e1;subst c3;exact⟨bm,_,_,_,_,_,_,_,_,_,dd,k0,k1,k2,k3,k5,_,X _ _ lk,.of_isNs (PySem.W.isNs_of_in X c5),PySem.W.nsMap_none_of_in X c5 c6,PySem.W.tail_of_in X c4⟩
  next=>cases q
 next=>cases q
def gP(P:Wn)(w:Ws):jM:=λouter H s E v s'=>∃(a C T:Addr)(dx:Option Addr)(H':Hp),v=.ref a/\s'.os=s.os/\AllBare s'.gens/\Un (eC outer) [] H H' s.heap s'.heap/\cx P w H' s'.heap/\iX s'.heap a C T dx .none/\s.heap.get? a=none/\s.heap.get? T=none/\H' a=none/\H' T=none/\E (.ref C) dx H'
section
variable{np:Pos}
theorem Us{W:St->Hp->Prop}(q:jZ X.K C)(hc:X.calm=true)(hg:Gl X x)(hm:X.mg x=some (.ref C))(hd:(x==("__debug__":Str))=false)(oF:∀pins Y H s h' e,Inv X pins Y H s->W Y H->Heap.MadeExcOf s.heap h' e (.ref C) []->X.xe (.ref e) {s with heap:=h'}):PS X (.Raise (some (.Call (.Name x np) [] [] bL)) none pos) λj Y H=>W Y H:=by intro pins s Y H D I hw;obtain⟨bm,N,nm,qn,bs,hdct,sn,sub,ab,col,dd,k0,k1,k2,k3,k5,mN,hC,hN,hi,hT⟩:=q.obj I.dw;refine wpAny_Raise_call_subT (C:=C) (nm:=nm) (q:=qn) (N:=N) (bs:=bs) (bm:=bm) (hdct:=hdct) (sn:=sn) (sub:=sub) (ab:=ab) (col:=col) (dd:=dd) (k0:=k0) (k1:=k1) (k2:=k2) (k3:=k3) (k5:=k5) (mN:=mN) PySem.F.excBase_ValueError (hT.hasType rfl) (I.ok.hd hc) rfl hi (lK I hg hm ⟨rfl,?_⟩ hd);exact evalArgs_empty ⟨rfl,Q5 _,hC,hN,hT,λh' e hm=>oF pins Y H s h' e I hw hm⟩
end
theorem Inv.gone(I:Inv X pins Y H s)(hx:X.ex=[])(e:s.heap.get? b=none):H b=none/\X.s₀.heap.get? b=none:=by
 constructor;.cases q:H b with|none=>rfl|some o=>
   exfalso;have:∃u,s.heap.get? b=some u:=by have z:=I.ay b o q;clear q;induction o with|lst xs=>obtain⟨_,_,_,_,e⟩:=z;exact⟨_,e⟩|tup xs=>obtain⟨_,_,_,_,e⟩:=z;exact⟨_,e⟩|dK ao=>obtain⟨_,_,_,_,_,_,_,e,_⟩:=z;exact⟨_,e⟩|dT ao=>obtain⟨_,_,_,_,_,_,_,e,_⟩:=z;exact⟨_,e⟩|set S n=>obtain⟨_,_,_,_,e,_⟩:=z;exact⟨_,e⟩|ins C dx fs=>obtain⟨_,_,_,e,_⟩:=z;exact⟨_,e⟩|own y=>exact z|xd fs=>obtain⟨_,⟨_,_,_,e,_⟩,_⟩:=z;exact⟨_,e⟩|jJ lo hi=>obtain⟨_,_,_,e⟩:=z;exact⟨_,e⟩|frz ob u ih=>exact⟨_,z.1⟩|tbl ps=>exact⟨_,z⟩|ctab pos q=>obtain⟨_,e,_⟩:=z;exact⟨_,e⟩|dN ep ao=>obtain⟨_,_,_,_,e,_⟩:=z;exact⟨_,e⟩|met f y=>exact⟨_,z⟩|ext φ=>exact z.2.1
   obtain⟨u,q⟩:=this;rw[e]at q;cases q
 .cases q:X.s₀.heap.get? b with|none=>rfl|some o=>obtain⟨o',q'⟩:=I.base.there b o q (by rw[hx];simp);rw[e]at q';cases q'
structure Apart(X:Cx)(pins:List (Addr×Obj))(H:Hp)(b:Addr):Prop where
 old:X.s₀.heap.get? b=none
 free:H b=none
 loc:b≠X.env.locals
 jP:∀x c,X.env.cells.lookup x=some c->c≠b
 pin:∀p∈X.pn++pins,p.1≠b
section
variable{T:Addr}
theorem Inv.mM(I:Inv X pins Y H s)(e:X.s₀.heap.get? b=some o):b≠X.env.locals:=WG (WB (Wh e) I.ok.above)
theorem Inv.yE(I:Inv X pins Y H s)(ha:Apart X pins H a)(hT:Apart X pins H T)(k1:∀b o,s.heap.get? b=some o->b∉eC X.stack->b≠a->b≠T->h'.get? b=some o)(k2:∀b o,s.heap.get? b=some o->b∈eC X.stack->∃sl,h'.get? b=some {o with slots:=sl}):Inv X pins Y H {s with heap:=h'}:=by
 have any:∀b o,s.heap.get? b=some o->b≠a->b≠T->∃sl,h'.get? b=some {o with slots:=sl}:=λb o e n1 n2=>by
  by_cases hb:b∈eC X.stack;.exact k2 b o e hb
  .exact⟨o.slots,k1 b o e hb n1 n2⟩
 have ne:∀b o,X.s₀.heap.get? b=some o->b≠a/\b≠T:=λb o e=>⟨λz=>(by rw[z,ha.old]at e;cases e),λz=>by rw[z,hT.old]at e;cases e⟩;have Fw:∀b,b≠X.env.locals->b∉X.fs->b∉eC X.stack:=λb n1 n2 z=>(Wt.mp (I.oz b z)).elim n1 n2;have cellK:∀y c,X.env.cells.lookup y=some c->∀v,s.heap.IsCell c v->h'.IsCell c v:=λy c e v⟨o,ho,hd⟩=>by obtain⟨sl,q⟩:=any c o ho (ha.jP y c e) (hT.jP y c e);exact⟨_,q,hd⟩
 refine⟨I.ok,I.os,I.bare,⟨λb o e n hb hx=>?_,λb o e n hb hx=>?_,I.base.free,λb o e hx=>?_,I.base.jc,I.base.hJ,I.base.jd⟩,?_,λy c e=>?_,I.free,I.fq,λp hp=>?_,λb o e=>?_,I.len⟩;.exact k1 b o (I.base.keep b o e n hb hx) (Fw b (I.mM e) hb) (ne b o e).1 (ne b o e).2
 .obtain⟨sl,q⟩:=I.base.slot b o e n hb hx;obtain⟨sl',q'⟩:=any b _ q (ne b o e).1 (ne b o e).2;exact⟨sl',q'⟩
 .obtain⟨o',q⟩:=I.base.there b o e hx;obtain⟨sl',q'⟩:=any b _ q (ne b o e).1 (ne b o e).2;exact⟨_,q'⟩
 .obtain⟨m,⟨o,es,ep,ho,hd,r⟩,hl⟩:=I.loc;obtain⟨sl,q⟩:=any _ o ho (λz=>ha.loc z.symm) λz=>hT.loc z.symm;refine⟨m,⟨_,es,ep,q,hd,r⟩,λi y v e1 e2 e3=>?_⟩;obtain⟨u,ru,lk⟩:=hl i y v e1 e2 e3;refine⟨u,ru,lk.elim .inl λ⟨k,c,e,z⟩=>.inr ⟨k,c,e,cellK y c e _ z⟩⟩
 .obtain⟨v,z⟩:=I.cell y c e;exact⟨v,cellK y c e v z⟩
 .obtain⟨e,n,nl,nf,d⟩:=I.pin p hp;exact⟨k1 p.1 p.2 e (Fw _ nl nf) (ha.pin p hp) (hT.pin p hp),n,nl,nf,d⟩
 .refine(I.ay b o e).fm (λc u hc q=>k1 c u q (λz=>?_) (λz=>?_) λz=>?_) (λj q=>q) (λj j q=>q) λj j j q=>q
  .have:=I.sX c z;rcases hc with rfl|hc;.rw[e]at this;cases this
   .rw[hc]at this;cases this
  .subst z;rcases hc with rfl|hc;.rw[ha.free]at e;cases e
   .rw[ha.free]at hc;cases hc
  .subst z;rcases hc with rfl|hc;.rw[hT.free]at e;cases e
   .rw[hT.free]at hc;cases hc
theorem Inv.Ut(I:Inv X pins Y H s)(ha:Apart X pins H a)(ob:bw X.prog X.w (upd H a o) s.heap a o):Inv X pins Y (upd H a o) s:=by
 have ne:∀{b:Addr}{u:HO},H b=some u->b≠a:=λ{b u}e z=>by rw[z,ha.free]at e;cases e
 have up:∀{b:Addr}{u:HO},H b=some u->upd H a o b=some u:=λ{b u}e=>%[aO (ne e)|e];have no:∀{b:Addr},b≠a->H b=none->upd H a o b=none:=λ{b}n e=>%[aO n|e];refine⟨I.ok,I.os,I.bare,⟨I.base.keep,I.base.slot,λb u e n hx=>no (λz=>by rw[z,ha.old]at e;cases e) (I.base.free b u e n hx),I.base.there,λb xs e=>up (I.base.jc b xs e),λb u z e=>up (I.base.hJ b u z e),λb ps e=>?_⟩,I.loc,I.cell,no (Ne.symm ha.loc) I.free,λx c e=>no (ha.jP x c e) (I.fq x c e),λp hp=>?_,λb u e=>?_,I.len⟩;.obtain⟨m,q⟩:=I.base.jd b ps e;exact⟨m,up q⟩
 .obtain⟨e,n,nl,nf,d⟩:=I.pin p hp;exact⟨e,no (ha.pin p hp) n,nl,nf,d⟩
 .by_cases hb:b=a;.subst hb;rw[bS]at e;cases e;exact ob
  .rw[aO hb]at e;exact(I.ay b u e).fm (λj j j q=>q) (λc q=>up q) (λc xs q=>up q) λj j j q=>up q
theorem Uu{Q}(I:Inv X pins Y H s)(hN:X.N.Nodup)(hi:X.N[i]?=some x)(hk:X.env.scope.names.lookup x=some .local)(h:∀s',Inv X pins (Y.set i none) H s'->Q () s'):W8 M A (do bindName X.env x .none;unbindBehindTheSuite X.env x pos) Q E s:=by
 have pV:i<Y.length:=by rw[I.len];exact(W6.mp hi).1
 refine W0 (wpAny_bindName (sZ (v:=.ax) (u:=.none) I hN hi (.inl hk) rfl (λs1 I1 f=>?_) (.inr hk)));obtain⟨m,hn,hl⟩:=id I1.loc;obtain⟨u,ru,lk⟩:=hl i x .ax hi (Wv pV) (.inl hk);have hv:m x=some u:=by
  rcases lk with⟨_,e⟩|⟨z,_⟩;.exact e
  .have:X.env.kindOf x=some .local:=hk;rw[this]at z;rcases z with z|z<;>cases z
 refine wpAny_onRaise (wpAny_unbindName_local hk hn hv (by rw[I.ok.kind];rfl) λh' w' pW hs=>h _ ?_);obtain⟨oL,_,_,gW,_⟩:=id hn;have gU:=I1.gU;refine⟨I1.ok,I1.os,I1.bare,⟨λb o e n hb hx=>?_,λb o e n hb hx=>?_,I1.base.free,λb o e hx=>?_,I1.base.jc,I1.base.hJ,I1.base.jd⟩,⟨_,pW,λj y v' e1 e2 e3=>?_⟩,λy c e=>?_,I1.free,I1.fq,λp hp=>?_,λb ob e=>?_,~~~I.len⟩;.exact(hs.2 b (I1.mM e)).trans (I1.base.keep b o e n hb hx)
 .obtain⟨sl,q⟩:=I1.base.slot b o e n hb hx;exact⟨sl,(hs.2 b (I1.mM e)).trans q⟩
 .obtain⟨o',q⟩:=I1.base.there b o e hx;exact⟨o',(hs.2 b (I1.mM e)).trans q⟩
 .by_cases hj:j=i;.subst hj;rw[Wv pV]at e2;cases e2
  .rw[Wd (Ne.symm hj)]at e2;obtain⟨u',r',q⟩:=hl j y v' e1 %[Wd (Ne.symm hj)|e2] e3;have yF:y≠x:=λz=>hj (wH hN e1 (z▸hi));refine⟨u',r',?_⟩;rcases q with⟨k,e⟩|⟨k,c,e,z⟩;.exact .inl ⟨k,#v[yF,e]⟩
   .exact .inr ⟨k,c,e,z.sameBut hs (gU y c e)⟩
 .obtain⟨w2,z⟩:=I1.cell y c e;exact⟨w2,z.sameBut hs (gU y c e)⟩
 .obtain⟨e,n,nl,nf,d⟩:=I1.pin p hp;exact⟨(hs.2 p.1 nl).trans e,n,nl,nf,d⟩
 .refine(I1.ay b ob e).fm (λc u' hc q=>(hs.2 c λz=>?_).trans q) (λf q=>q) (λf f q=>q) λf f f q=>q;subst z;have:=I1.free;rcases hc with rfl|hc;.rw[e]at this;cases this
  .rw[hc]at this;cases this
end
def Fx(neg:Bool):R2:=λx y H Q=>∃c d:Bool,x=.bl c/\y=.bl d/\Q (.bl (if neg then c !=d else c==d)) H
theorem Uv:br X (WA .Is) (Fx false):=by intro pins s Y H x y v u Q I rx ry h;obtain⟨c,d,rfl,rfl,q⟩:=h;cases rx;cases ry;exact is_bool (tK I q rfl)
noncomputable def pb(neg:Bool):D->D->Option S|.bl c,.bl d=>some (.pure (.bl (if neg then c !=d else c==d)))|_,_=>none
set_option tactic.hygienic true in theorem Uw(neg:Bool):bW (Fx neg) (pb neg):=by
 intro c Y Z H x y d e s Q k rx ry hp q;cases d<;>cases e<;>first|(simp[pb]at hp;done)|skip
 rename_i i j;simp only[pb,We]at hp;subst hp;have ex:x=.bl i:=by
  rcases rx with r|⟨a,e,o⟩;.cases r;rfl
  .exact o.elim
 have ey:y=.bl j:=by
  rcases ry with r|⟨a,e,o⟩;.cases r;rfl
  .exact o.elim
 exact⟨i,j,ex,ey,q _ H (.refl k) (.bl _)⟩
noncomputable def j0:List D->Option (List Int)|[]=>some []|.int i::r=>(j0 r).map (i::.)|_::_=>none
theorem ints_map(ns:List Int):j0 (ns.map D.int)=some ns:=by induction ns with|nil=>rfl|cons n r ih=>simp[j0,ih]
theorem Ux{B e:Addr}{h:Heap}{g:Array GenState}{d:Drawn}{t:Nat}{Q:Bool->W2->Prop}(X:K.In h)(qB:jZ K B)(qm:PySem.W.mroIn K C (.ref B)=some true)(he:h.get? e=some oe)(hc:oe.cls=.ref C)(hq:Q true ⟨h,g,d,t,os⟩):W8 (model prog w) A (excMatches (.ref e) (.ref B)) Q E ⟨h,g,d,t,os⟩:=by
 obtain⟨bm,N,nm,qn,bs,hdct,sn,sub,ab,col,dd,k0,k1,k2,k3,k5,mN,hB,_,_,hT⟩:=qB.obj X;have cB:(Value.ref B::bm).contains (.type "BaseException")=true:=by rw[List.contains_cons,hT.hasType (X:="BaseException") (b:=true) rfl,Bool.or_true]
 have lk:=PySem.W.looks_mroIn (M:=model prog w) X qm;have f:=tc_notTuple;unfold excMatches;repeat(first|with_reducible refine PySem.W.Looks.at lk ?_|(with_reducible refine Ub he ?_;rw[hc])|with_reducible refine Ub hB ?_|(with_reducible refine wpAny_isSubtype_exc hB ?_;rw[cB])|wp_step)
 exact hq
def Cx.wt(X:Cx)(pn:List (Addr×Obj))(xe:Value->W2->Prop):Cx:={X with pn:=pn,xe:=xe}
def Cx.hand(X:Cx)(a:Addr):Cx:={X with A:=X.A.mark (some (.ref a)),calm:=false,xe:=λj j=>False}
section
variable{ps:List (Addr×Obj)}
theorem Cx.Ok.wt(o:X.Ok):(X.wt pn xe).Ok:=⟨o.mod,o.kind,o.glob,o.blt,o.above,o.inj,o.has,o.kD,o.hd,o.frames,o.mK,o.mL,o.bs,o.iJ,o.lH,o.lI,o.f7,o.je⟩
theorem Cx.Ok.hand(o:X.Ok):(X.hand a).Ok:=⟨o.mod,o.kind,o.glob,o.blt,o.above,o.inj,o.has,o.kD,λz=>(by cases z),o.frames,o.mK,o.mL,o.bs,o.iJ,o.lH,o.lI,o.f7,o.je⟩
theorem Inv.wt(I:Inv X pins Y H s):Inv (X.wt (X.pn++pins) xe) [] Y H s:=⟨I.ok.wt,I.os,I.bare,I.base,I.loc,I.cell,I.free,I.fq,λp hp=>I.pin p (by simpa[Cx.wt]using hp),I.ay,I.len⟩
theorem Inv.jt(o:X.Ok)(J:Inv (X.wt (X.pn++pins) xe) ps Y H s):Inv X pins Y H s:=⟨o,J.os,J.bare,J.base,J.loc,J.cell,J.free,J.fq,λp hp=>J.pin p (JP _ hp),J.ay,J.len⟩
theorem Inv.hand(I:Inv X pins Y H s):Inv (X.hand a) pins Y H s:=⟨I.ok.hand,I.os,I.bare,I.base,I.loc,I.cell,I.free,I.fq,I.pin,I.ay,I.len⟩
theorem Inv.Uy(o:X.Ok)(J:Inv (X.hand a) pins Y H s):Inv X pins Y H s:=⟨o,J.os,J.bare,J.base,J.loc,J.cell,J.free,J.fq,J.pin,J.ay,J.len⟩
theorem Apart.jt(h:Apart (X.wt (X.pn++pins) xe) ps H a):Apart X pins H a:=⟨h.old,h.free,h.loc,h.jP,λp hp=>h.pin p (JP _ hp)⟩
theorem SP.jt{D f}(o:X.Ok)(h:SP (X.wt (X.pn++pins) xe) ps D f s):SP X pins D f s:=by cases f with|next=>obtain⟨SL,H',J,q⟩:=h;exact⟨SL,H',Inv.jt o J,q⟩|brk=>obtain⟨SL,H',J,q⟩:=h;exact⟨SL,H',Inv.jt o J,q⟩|cont=>obtain⟨SL,H',J,q⟩:=h;exact⟨SL,H',Inv.jt o J,q⟩|ret u=>obtain⟨v,SL,H',J,r,q⟩:=h;exact⟨v,SL,H',Inv.jt o J,r,q⟩
def qP(X:Cx)(pins:List (Addr×Obj))(H:Hp)(s:W2)(a C:Addr)(dx:Option Addr):Prop:=∃T fl,iX s.heap a C T dx fl/\(fl=.none\/∃L,X.env.frame=some L/\fl=WW L)/\Apart X pins H a/\Apart X pins H T
def u7(X:Cx)(ps:List (Addr×Obj))(H:Hp)(s:W2)(a C:Addr)(dx:Option Addr):Prop:=(∃vs sl a0,s.heap.get? a=some ⟨.ref C,dx,.fields vs,sl⟩/\vs[0]?=some a0/\vs[1]?=some .none)/\Apart X ps H a
theorem Inv.apart(I:Inv X pins Y H s)(hx:X.ex=[])(e:s.heap.get? b=none)(f:H' b=none):Apart X pins H' b:=by
 refine⟨(I.gone hx e).2,f,λz=>?_,λx c hc z=>?_,λp hp z=>?_⟩;.obtain⟨m,⟨o,_,_,ho,_⟩,_⟩:=I.loc;rw[<-z,e]at ho;cases ho
 .obtain⟨v,o,ho,_⟩:=I.cell x c hc;rw[z,e]at ho;cases ho
 .have:=(I.pin p hp).1;rw[z,e]at this;cases this
section
variable{Q:Unit->W2->Prop}
theorem Inv.Fy(I:Inv X pins Y H s)(cE:X.stack=X.env::X.outer)(hf:X.env.frame=some L)(hex:X.ex=[])(hc:qP X pins H s a C dx\/u7 X pins H s a C dx)(q:∀h' T,Inv X pins Y H {s with heap:=h'}->iX h' a C T dx (WW L)->Apart X pins H a->Apart X pins H T->Q () {s with heap:=h'}):W8 M X.A (U5 (.ref a) X.env) Q E s:=by
 have df:X.A.frames=some (X.env::X.outer):=by rw[<-cE];exact I.ok.frames
 have hl:s.heap.FunFrames X.base (X.env::X.outer):=by rw[<-cE];exact I.stack
 have mem:∀{b},b∈eC X.stack->∃o,s.heap.get? b=some o/\∀vs,o.data≠.fields vs:=λ{b}z=>let⟨_,o,g1,g2⟩:=I.stack.mem z;⟨o,g1,g2⟩;rcases hc with⟨T,fl,f,qj,pa,pT⟩|⟨⟨vs,sl,a0,e1,e2,e3⟩,pa⟩
 .rcases qj with rfl|⟨L',e,rfl⟩;.refine Up df hl hf f λh' T' f' n=>?_;refine q h' T' (I.yE pa pT (λb o z m n1 n2=>n.keep b o z n1 (λw=>n2 (by cases w;rfl)) (by rw[<-cE];exact m)) λb o z m=>?_) f' pa (I.apart hex n.new (I.gone hex n.new).1);obtain⟨o',g1,g2⟩:=mem m;rw[z]at g1;cases g1;exact n.frame b o z g2
  .rw[hf]at e;cases e;exact Uq hf f (q s.heap T I f pa pT)
 .refine Uo df hl hf e1 e2 e3 λh' T' f' n=>?_;refine q h' T' (I.yE pa pa (λb o z m n1 n2=>n.keep b o z n1 (λw=>by cases w) (by rw[<-cE];exact m)) λb o z m=>?_) f' pa (I.apart hex n.new (I.gone hex n.new).1);obtain⟨o',g1,g2⟩:=mem m;rw[z]at g1;cases g1;exact n.frame b o z g2
theorem Inv.yG{A:Wp}{o:Option Addr}{fl:Value}(I:Inv X pins Y H s)(f:iX s.heap a C T dx fl)(pT:Apart X pins H T)(q:∀h',Inv X pins Y H {s with heap:=h'}->iX h' a C T dx (o.elim .none λf=>WW f)->Q () {s with heap:=h'}):W8 M A (setFlight (.ref a) o) Q E s:=Ur f λh' f' k=>q h' (I.yE pT pT (λb u z j n j=>(k b n).trans z) λb u z j=>by
 by_cases n:b=T;.subst n;obtain⟨vs,sl,oT,ts,a0,e1,e2,e3,e4,e5,e6,e7⟩:=f;have:=I.sX b ‹_›;obtain⟨_,o',g1,g2⟩:=I.stack.mem ‹b∈eC X.stack›;rw[e5]at g1;cases g1;exact absurd e6 (g2 ts)
 .exact⟨u.slots,(k b n).trans z⟩) f'
end
def Ends.hand(D:Ends)(i:Nat):Ends where
 nx:=λY H=>D.nx (Y.set i none) H
 rt:=D.rt
 bk:=λY H=>D.bk (Y.set i none) H
 ct:=λY H=>D.ct (Y.set i none) H
theorem Uz{n:Str}{np yH:Pos}{B:Addr}{tb:(Addr->Option Addr->St->Hp->Prop)->TS}(hex:X.ex=[])(cE:X.stack=X.env::X.outer)(hf:X.env.frame=some X.env.locals)(hN:X.N.Nodup)(hi:X.N[i]?=some n)(hl:X.env.scope.names.lookup n=some .local)(hg:Gl X x)(hm:X.mg x=some (.ref B))(qB:jZ X.K B)(cz:(x==("__debug__":Str))=false)(bZ:∀(W:Addr->Option Addr->St->Hp->Prop)(pn:List (Addr×Obj))(xe:Value->W2->Prop),(∀ps Y H s a C dx,Inv (X.wt pn xe) ps Y H s->qP (X.wt pn xe) ps H s a C dx\/u7 (X.wt pn xe) ps H s a C dx->W C dx Y H->xe (.ref a) s)->dI (X.wt pn xe) body (tb W))(UA:∀C a,dI (X.hand a) (b₀::u9) (th C a)):PS X (.Try body [.ExceptHandler (some (.Name x np)) (some n) (b₀::u9) yH] [] [] pos) λD Y H=>tb (λC dx SL H'=>PySem.W.mroIn X.K C (.ref B)=some true/\∃v,(∀x,v=.ref x->dx=some x)/\∀a,H' a=none->th C a (D.hand i) (SL.set i (some (.ref a))) (upd H' a (.ext (excAt C v a)))) D Y H:=by
 intro pins s Y H D I hw;refine wpAny_Try_except (Q9 (bZ _ (X.pn++pins) _ (λps On H1 s1 a C dx J hc hW=>?_) [] s Y H D I.wt hw) (λf s1 hs=>?_) λe s1 he=>he)
 .have J:Inv X pins On H1 s1:=Inv.jt I.ok J;have hc:qP X pins H1 s1 a C dx\/u7 X pins H1 s1 a C dx:=by
   rcases hc with⟨T,fl,f,qj,pa,pT⟩|⟨y,pa⟩;.exact .inl ⟨T,fl,f,qj,pa.jt,pT.jt⟩
   .exact .inr ⟨y,pa.jt⟩
  refine J.Fy cE hf hex hc λh2 T J2 f2 pa pT=>?_;refine J2.yG f2 pT λh3 I3 f3=>?_;obtain⟨vs3,sl3,_,_,_,u3,_⟩:=id f3;obtain⟨qm,v,hv,qh⟩:=hW;refine wpAny_handleBy_cons (codeAny_handlers_test ?_) (by intro z;cases z);have UB:Inv (X.hand a) pins On H1 {s1 with heap:=h3}:=I3.hand;refine lK (X:=X.hand a) UB hg hm ?_ cz;refine Ux I3.dw qB qm u3 rfl ?_;refine codeAny_handlers_suite_as (I3.yG f3 pT λh4 I4 f4=>?_);obtain⟨vs4,sl4,_,_,_,u1,_⟩:=f4;have I5:Inv X pins On (upd H1 a (.ext (excAt C v a))) {s1 with heap:=h4}:=I4.Ut pa ⟨⟨_,u1,rfl,λx z=>hv x z,vs4,rfl⟩,⟨_,u1⟩,λh1 h2⟨o,e1,e2⟩k=>⟨o,k o e1,e2⟩⟩;refine sZ (v:=.ref a) (u:=.ref a) (X:=X.hand a) I5.hand hN hi (.inl hl) rfl (λs6 I6 j=>?_) (.inr hl);refine Q9 (UA C a pins s6 _ _ (D.hand i) I6 (qh a pa.free)) (λf s7 hs=>?_) λe s7 he=>he.elim;have un:∀{SL:St}{H':Hp}{Q:Flow->W2->Prop},Inv (X.hand a) pins SL H' s7->(∀s8,Inv X pins (SL.set i none) H' s8->Q f s8)->W8 (model X.prog X.w) X.A (do bindName X.env n .none;unbindBehindTheSuite X.env n yH) (λj s8=>Q f s8) X.xe s7:=λ{SL H' Q}J7 k=>Uu (Inv.Uy I.ok J7) hN hi hl λs8 J8=>k s8 J8;cases f with|next=>obtain⟨SL,H',J7,q⟩:=hs;exact un J7 λs8 J8=>⟨_,_,J8,q⟩|brk=>obtain⟨SL,H',J7,q⟩:=hs;exact un J7 λs8 J8=>⟨_,_,J8,q⟩|cont=>obtain⟨SL,H',J7,q⟩:=hs;exact un J7 λs8 J8=>⟨_,_,J8,q⟩|ret u=>obtain⟨v,SL,H',J7,r,q⟩:=hs;exact un J7 λs8 J8=>⟨v,_,_,J8,r,q⟩
 .have hs:=SP.jt I.ok hs;cases f with|next=>exact JX hs|brk=>exact hs|cont=>exact hs|ret u=>exact hs
end
def j4(X:Cx)(W:Addr->Option Addr->St->Hp->Prop):Prop:=∀ps Y H s a C dx,Inv X ps Y H s->qP X ps H s a C dx\/u7 X ps H s a C dx->W C dx Y H->X.xe (.ref a) s
section
variable{b:Addr}
theorem Inv.UC{E v}(I:Inv X pins Y H s)(hx:X.ex=[])(h:gP X.prog X.w X.stack H s E v s'):∃a C dx H',v=.ref a/\Inv X pins Y H' s'/\qP X pins H' s' a C dx/\E (.ref C) dx H':=by obtain⟨a,C,T,dx,H',rfl,ho,hb,un,ay,fl,na,nT,fa,fT,q⟩:=h;exact⟨a,C,dx,H',rfl,I.BK (ch:=[]) ho un ay hb λb z=>absurd z U',⟨T,.none,fl,.inl rfl,I.apart hx na fa,I.apart hx nT fT⟩,q⟩
end
section
variable{k:Nat}{p:Pos}{t:TA}
theorem u_(F:gc X.prog X.w X.K X.mg X.base (gP X.prog X.w) k f fd ps sp)(hr:bM k X.A)(hex:X.ex=[])(hg:Gl X x)(hm:X.mg x=some (.ref f))(hk:Qm X.K (.ref f)=true)(hb:Binds X.K fd ps [])(hx:j4 X W)(ha:PA X (e::es) t)(cz:(x==("__debug__":Str))=false:=by decide)(he:W9 (e::es) X.env=(false,eval e X.env)::W9 es X.env:=by rfl)(bH:(Q3 pos (W9 es X.env)).any (·.1)=false:=by rfl):PE X (.Call (.Name x p) (e::es) [] pos) λY H Q=>t Y H λvs H1=>sp vs H1 Q λc dx H'=>∃C,c=.ref C/\W C dx Y H':=by
 intro pins s Y H Q I h;refine QM (lK I hg hm ?_ cz);refine U3 (h₀:=X.base) I.ok.mod.lG hk (aX (ha pos pins s Y H _ I h) λus s1⟨vs,H1,I1,r,q⟩=>⟨I1.dw,?_⟩) he bH;have hl:(us++[]).length=ps.length:=by rw[WU,<-r.length];exact F.len _ _ _ _ q
 refine wpAny_call (JI (F.run X.A X.stack s1 H1 ⟨us,[]⟩ us vs Q _ hr I1.p8 (by have:=hb s1 us I1.dw hl;rwa[WU]at this) r q) λr s' hq=>?_);cases r with|error e=>obtain⟨a,C,dx,H',ea,I2,co,C',hC,hW⟩:=I1.UC (E:=λc dx H'=>∃C,c=.ref C/\W C dx Y H') (v:=e) (s':=s') hex hq;cases hC;subst ea;exact hx pins Y H' s' a C dx I2 (.inl co) hW|ok fl=>cases fl with|ret u=>exact I1.after hq|next=>exact False.elim hq|brk=>exact False.elim hq|cont=>exact False.elim hq
end
section
variable{s₀:W2}{H₀:Hp}{E:XK}
theorem Fz(hW:∀C dx Y H,W C dx Y H->E (.ref C) dx H):j4 (cX (gP P w) P w K mg base N qual scope f cd A outer s₀ H₀ E) W:=λps Y H s a C dx I hc q=>by show W8 _ _ (leaving _ _) _ _ _;unfold leaving;refine W0 (I.Fy rfl rfl rfl hc λh2 T I2 f2 pa pT=>I2.yG f2 pT λh3 I3 f3=>?_);exact⟨a,C,T,dx,H,rfl,I3.os,I3.bare,I3.base,I3.ay,f3,pa.old,pT.old,pa.free,pT.free,hW C dx Y H q⟩
end
def Cx.loop(X:Cx):Cx:={X with xe:=notedBy (model X.prog X.w) X.A X.env (cameBackBy (model X.prog X.w) X.A X.env X.xe)}
section
variable{g:Xc->Dl->Prop}
theorem Ok.since(h0:c.H₀=H)(k:Ok c Y Z H)(hI:∀a,c.I a->Own Y Z a)(k':Ok c SL S' H'):aG c Y Z H SL S' H':=by
 refine⟨k',λa o e n=>k'.keep a o %[h0|e] λz=>n (hI a z),λa⟨i,d,e1,e2⟩=>?_,λa o e=>?_⟩
 .obtain⟨b,e3,_,q,_⟩:=k'.own i d e1;rw[e2]at e3;cases e3;rcases q with q|q;.exact .inl (hI a q)
  .rw[h0]at q;exact .inr q
 .by_cases z:c.I a;.exact k'.cR a z
  .exact⟨o,k'.keep a o %[h0|e] z⟩
end
def wD(mg:Str->Option Value)(c:Fc)(C:Addr)(dx:Option Addr)(Y:St)(H:Hp):Prop:=∃(x:Xc)(Z:Dl)(v:V),mg (toS x.cls)=some (.ref C)/\Ok c Y Z H/\Rep H (Av c Y Z) v x.jQ/\(∀y,v=.ref y->dx=some y)/\c.xc x Z
def FA(x:Tx):DS:=λZ=>.exc ⟨x,.ax⟩ Z
theorem UD{np bL pos:Pos}(y:Tx)(q:jZ X.K C)(hc:X.calm=true)(hg:Gl X x)(hm:X.mg x=some (.ref C))(hx:j4 X (wD X.mg c))(hy:x=toS y:=by decide+kernel)(hd:(x==("__debug__":Str))=false:=by decide)(hex:X.ex=[]:=by rfl):SS X c (.Raise (some (.Call (.Name x np) [] [] bL)) none pos) (FA y):=PS.weak (Us (W:=λY H=>wD X.mg c C none Y H) q hc hg hm hd λps Y H s h' e I w hm=>by obtain⟨t,ht,_⟩:=hm.there;have I1:Inv X ps Y H {s with heap:=h'}:=I.kept (t':=s.toks) hm.keeps;exact hx ps Y H _ e C none I1 (.inr ⟨⟨_,_,_,ht,rfl,rfl⟩,I.apart hex hm.new (I.gone hex hm.new).1⟩) w) λD Y H⟨Z,k,w⟩=>⟨⟨y,.ax⟩,Z,.ax,by rw[<-hy];exact hm,k,.ax,λj z=>(by cases z),w⟩
abbrev DX:=List S->Option ((S×List S)⊕Xc×List S)
def iY(f:DS)(n:Nat)(ss:List S):Option ((S×List S)⊕Xc×List S):=match f (bx n ss)with|.ok fl Z=>(c_ fl).bind λr=>(bF 0 ss Z).map λaC=>.inl (r,aC)|.exc x Z=>(bF 0 ss Z).map λaC=>.inr (x,aC)|.stuck=>none
def qQ(mg:Str->Option Value)(n:Nat)(G:DX):Sp:=λvs H Q E=>∃ss B,vs.length=n/\Ok ⟨H,B,bq 0 ss vs,λj j=>False⟩ (bJ vs) (bP ss) H/\∃y,G ss=some y/\match y with|.inl (r,aC)=>∀v H',aG ⟨H,B,bq 0 ss vs,λj j=>False⟩ (bJ vs) (bP ss) H (bJ vs) (bP aC) H'->aS ⟨H,B,bq 0 ss vs,λj j=>False⟩ (bJ vs) (bP aC) H H' v r->Q v H'|.inr (x,aC)=>∀C dx v H',mg (toS x.cls)=some (.ref C)->aG ⟨H,B,bq 0 ss vs,λj j=>False⟩ (bJ vs) (bP ss) H (bJ vs) (bP aC) H'->Rep H' (Av ⟨H,B,bq 0 ss vs,λj j=>False⟩ (bJ vs) (bP aC)) v x.jQ->(∀y,v=.ref y->dx=some y)->E (.ref C) dx H'
def mv(P:Wn)(w:Ws)(K:W3)(mg:Str->Option Value)(base:Heap)(k:Nat)(x:Str)(n:Nat)(G:DX):Prop:=∃(f:Addr)(fd:WR)(ps:List Str),mg x=some (.ref f)/\Qm K (.ref f)=true/\Binds K fd ps []/\gc P w K mg base (gP P w) k f fd ps (qQ mg n G)
theorem FC(h:(⟨H,B,bq 0 ss vs,g⟩:Fc).I a):Own (bJ vs) (bP ss) a:=by obtain⟨i,hi⟩:=h;obtain⟨j,d,_,e1,e2⟩:=iV hi;exact⟨j,d,eY.mpr e1,fG.mpr e2⟩
theorem aS.FD(h:aS {c with xc:=g} Y Z Hs H v r):aS c Y Z Hs H v r:=by cases r with|pure d=>exact h|own d=>obtain⟨a,e,o,n,f,k,q⟩:=h;exact⟨a,e,o,n,f,⟨k.keep,k.bd,k.cR,k.len,k.slot,k.own,k.inj,k.pinned⟩,q⟩
theorem UE{st:Stmt}{k:Nat}{fb:DS}{G:DX}(F:cZ K x qual st f fd)(S:dM N ps (aR st))(bZ:∀(c:Fc)(aE:Value)(A:Wp)(outer:List Env)(s:W2)(H:Hp)(E:XK),bM k (A.deeper (Qx qual (aR st) s.heap.objs.size f aE))->Np c np->j4 (cX (gP P w) P w K mg base N qual (aR st) f aE A outer s H E) (wD mg c)->eN (cX (gP P w) P w K mg base N qual (aR st) f aE A outer s H E) c (cQ st) fb)(hG:∀ss y,G ss=some y->cy np 0 ss=true/\iY fb N.length ss=some y):gc P w K mg base (gP P w) (k+1) f fd ps (qQ mg ps.length G):=by
 obtain⟨oc,od,kV,doc,pm,an,aE,ct,de,rfl,lk,da⟩:=F.ex;refine tM lk da S (λvs H Q E h=>?_) λA outer s H vs Q E hr h=>?_;.obtain⟨ss,B,hl,_⟩:=h;exact hl
 .obtain⟨ss,B,hl,ok,y,hg,q⟩:=h;obtain⟨dB,hrun⟩:=hG ss _ hg;have iq:ss.length=vs.length:=by have:=ok.len;simpa using this
  let g:Xc->Dl->Prop:=λx S'=>∃aC,bF 0 ss S'=some aC/\y=.inr (x,aC);have kR:Np ⟨H,B,bq 0 ss vs,g⟩ np:=λp hp=>by obtain⟨j,d,e,h1,_⟩:=iV (i:=p.1) (a:=p.2) hp;rw[e];exact oR dB h1
  have cE:dm N vs=bJ vs++Ww (N.length-ss.length) none:=by rw[iq];rfl
  have eZ:Ok ⟨H,B,bq 0 ss vs,λu u=>False⟩ (dm N vs) (bx N.length ss) H:=%[cE|ok.ext _];have gJ:∀C dx SL H',wD mg ⟨H,B,bq 0 ss vs,g⟩ C dx SL H'->E (.ref C) dx H':=λC dx SL H' hh=>by obtain⟨z,S',v,hm,k',rv,hv,aC,ho,hy⟩:=hh;rw[hy]at q;have k1:Ok ⟨H,B,bq 0 ss vs,λu u=>False⟩ SL S' H':=⟨k'.keep,k'.bd,k'.cR,k'.len,k'.slot,k'.own,k'.inj,k'.pinned⟩;have a:aG ⟨H,B,bq 0 ss vs,λu u=>False⟩ (bJ vs++Ww (N.length-ss.length) none) (bP ss++Ww (N.length-ss.length) none) H SL S' H':=Ok.since rfl (by rw[cE]at eZ;exact eZ) (λa z=>Own.ext.mpr (FC z)) k1;exact q C dx v H' hm (gy rfl ok a ho).1 ((gy rfl ok a ho).2 v (.pure z.jQ) rv) hv
  refine⟨jq ⟨H,B,bq 0 ss vs,g⟩ fb,bZ ⟨H,B,bq 0 ss vs,g⟩ aE A outer s H E hr kR (Fz gJ),bx N.length ss,⟨eZ.keep,eZ.bd,eZ.cR,eZ.len,eZ.slot,eZ.own,eZ.inj,eZ.pinned⟩,?_⟩;unfold iY at hrun;unfold dO;cases e:fb (bx N.length ss)with
 |stuck=>rw[e]at hrun;cases hrun|exc x N'=>rw[e]at hrun;simp only at hrun;cases eo:bF 0 ss N' with|none=>rw[eo]at hrun;cases hrun|some os=>rw[eo]at hrun;cases hrun;exact⟨os,eo,rfl⟩
 |ok fl S'=>rw[e]at hrun;show∀SL H',aG _ (dm N vs) (bx N.length ss) H SL S' H'->fin _ _ SL S' H' fl;intro SL H' a;rw[cE]at a;have k1:=a.ok;have a1:aG ⟨H,B,bq 0 ss vs,λu u=>False⟩ (bJ vs++Ww (N.length-ss.length) none) (bx N.length ss) H SL S' H':=⟨⟨k1.keep,k1.bd,k1.cR,k1.len,k1.slot,k1.own,k1.inj,k1.pinned⟩,a.keep,a.own,a.there⟩;simp only at hrun;cases fl with
 |brk=>cases hrun|cont=>cases hrun|next=>simp only[c_,Wu]at hrun;cases eo:bF 0 ss S' with|none=>rw[eo]at hrun;cases hrun|some os=>rw[eo]at hrun;cases hrun;obtain⟨l1,l2⟩:=gy rfl ok a1 eo;exact q .ax H' l1 .ax
 |ret r'=>simp only[c_,Wu]at hrun;cases eo:bF 0 ss S' with|none=>rw[eo]at hrun;cases hrun|some os=>rw[eo]at hrun;cases hrun;obtain⟨l1,l2⟩:=gy rfl ok a1 eo;exactλv rv=>q v H' l1 (l2 v _ (aS.FD (c:=⟨H,B,bq 0 ss vs,λu u=>False⟩) (g:=g) rv))
theorem FE{st:Stmt}{k:Nat}{fb:DS}{G:DX}(F:cZ K x qual st f fd)(hm:mg x=some (.ref f))(hb:Binds K fd ps [])(S:dM N ps (aR st))(bZ:∀(c:Fc)(aE:Value)(A:Wp)(outer:List Env)(s:W2)(H:Hp)(E:XK),bM k (A.deeper (Qx qual (aR st) s.heap.objs.size f aE))->Np c np->j4 (cX (gP P w) P w K mg base N qual (aR st) f aE A outer s H E) (wD mg c)->eN (cX (gP P w) P w K mg base N qual (aR st) f aE A outer s H E) c (cQ st) fb)(hG:∀ss y,G ss=some y->cy np 0 ss=true/\iY fb N.length ss=some y):mv P w K mg base (k+1) x ps.length G:=⟨f,fd,ps,hm,F.kp,hb,UE F S bZ hG⟩
def yI:S×List S⊕Xc×List S->List S|.inl y=>y.2|.inr y=>y.2
def nB(G:DX):Prop:=∀ss y,G ss=some y->∀(j:Nat),(∀d,ss[j]?=some (.own d)->∃d',(yI y)[j]?=some (.own d'))/\∀d,ss[j]?=some (.pure d)->∃d',(yI y)[j]?=some (.pure d')
theorem UG{os:List S}(e:bF 0 ss Z=some os)(j:Nat):(∀d,ss[j]?=some (.own d)->∃d',os[j]?=some (.own d'))/\∀d,ss[j]?=some (.pure d)->∃d',os[j]?=some (.pure d'):=by
 obtain⟨h1,h2⟩:=qF e;refine⟨λd ed=>?_,λd ed=>?_⟩
 .rcases h2 j _ ed with⟨d',z,_⟩|⟨d',d'',_,_,z⟩;.cases z
  .exact⟨d'',z⟩
 .rcases h2 j _ ed with⟨d',z,z'⟩|⟨d',d'',z,_⟩;.exact⟨d',z'⟩
  .cases z
theorem UH{fb}(h:iY fb n ss=some y):∃Z,bF 0 ss Z=some (yI y):=by unfold iY at h;cases e:fb (bx n ss)with
 |stuck=>rw[e]at h;cases h|exc x Z=>rw[e]at h;simp only at h;cases e2:bF 0 ss Z with|none=>rw[e2]at h;cases h|some os=>rw[e2]at h;cases h;exact⟨Z,e2⟩
 |ok fl Z=>rw[e]at h;simp only at h;cases e1:c_ fl with|none=>rw[e1]at h;cases h|some r=>rw[e1]at h;simp only[Wu]at h;cases e2:bF 0 ss Z with|none=>rw[e2]at h;cases h|some os=>rw[e2]at h;cases h;exact⟨Z,e2⟩
def ju(np:List Nat)(n:Nat)(b:DS):DX:=λss=>if cy np 0 ss then iY b n ss else none
theorem va(h:ju np n b ss=some y):cy np 0 ss=true/\iY b n ss=some y:=by
 unfold ju at h;split at h;.exact⟨by assumption,h⟩
 .cases h
theorem UI{b:DS}:nB (ju np n b):=λss y h j=>by obtain⟨Z,e⟩:=UH (va h).2;exact UG e j
def gC(G:DX)(as:List Ak):DE:=λZ=>if(bo as).all (dj Z)&&cL (bo as)then(cf as Z).bind λds W'=>match bD as ds W' with|none=>.stuck|some ss=>match G ss with|none=>.stuck|some (.inl (r,aC))=>.ok r (ba as aC W')|some (.inr (x,aC))=>.exc x (ba as aC W')else .stuck
section
variable{k:Nat}{G:DX}
set_option tactic.hygienic true in theorem FF{Q}(hK:nB G)(hl:as.length=n)(h:tD c (gC G as) Y H Q):tX c as Y H λvs H1=>qQ X.mg n G vs H1 Q λc' dx H'=>∃C,c'=.ref C/\wD X.mg c C dx Y H':=by
 obtain⟨Z,kk,q⟩:=h;unfold gC at q;split at q
 .rename_i hc;rw[Wq]at hc;have nd:=uF hc.2;rw[bh]at q;refine⟨Z,kk,λi hi=>?_,aQ q λds W' q1 vs H1 a1 r1=>?_⟩
  .have:=WF.mp hc.1 i (jV.mpr hi);unfold dj at this;split at this;.rename_i d ed;exact oI kk ed
   .cases this
  .cases em:bD as ds W' with|none=>rw[em]at q1;exact q1.elim|some ss=>rw[em]at q1;simp only at q1;cases eg:G ss with|none=>rw[eg]at q1;exact q1.elim|some y=>rw[eg]at q1;have kS:=uH a1.ok r1 em nd;obtain⟨m1,m2,_⟩:=oV r1 em;have g2:=hK ss y eg;refine⟨ss,_,by rw[<-m2];exact hl,kS,y,eg,?_⟩;cases y with|inl y=>obtain⟨r,aC⟩:=y;intro v H2 a2 r2;obtain⟨o1,o2⟩:=qH a1.ok r1 em nd rfl a2 (λj d ed=>(g2 j).1 d ed) λj d ed=>(g2 j).2 d ed;exact q1 v H2 (a1.trans o1) (aS.back (o2 v r r2) a1)|inr y=>obtain⟨z,aC⟩:=y;intro C dx v H2 hm a2 rv hv;obtain⟨o1,o2⟩:=qH a1.ok r1 em nd rfl a2 (λj d ed=>(g2 j).1 d ed) λj d ed=>(g2 j).2 d ed;exact⟨C,rfl,z,ba as aC W',v,hm,o1.ok,o2 v (.pure z.jQ) rv,hv,q1⟩
 .exact q.elim
theorem UJ(F:mv X.prog X.w X.K X.mg X.base k x n G)(hK:nB G)(hr:bM k X.A)(hex:X.ex=[])(hx:j4 X (wD X.mg c))(hg:Gl X x)(ha:SX X c (e::es) as)(hl:as.length=n)(cz:(x==("__debug__":Str))=false:=by decide)(he:W9 (e::es) X.env=(false,eval e X.env)::W9 es X.env:=by rfl)(bH:(Q3 pos (W9 es X.env)).any (·.1)=false:=by rfl):SE X c (.Call (.Name x pp) (e::es) [] pos) (gC G as):=by obtain⟨f,fd,ps,hm,hk,hb,ok⟩:=F;exact PE.weak (u_ ok hr hex hg hm hk hb hx ha cz he bH) λY H Q h=>FF hK hl h
end
def yJ(Z:Dl):Bool:=Z.all fun|some (.own _)=>false|_=>true
def unset(i:Nat):Rs Fl->Rs Fl|.ok fl Z=>.ok fl (Z.set i none)|r=>r
def nC(ce:Tx->Nat)(ys:List Tx)(i:Nat)(fb fh:DS):DS:=λZ=>if yJ Z then match fb Z with|.exc x S'=>if ys.contains x.cls&&decide (i<S'.length)then unset i (fh (S'.set i (some (.pure (.exc (ce x.cls) x.jQ)))))else .stuck|r=>r else .stuck
theorem UK(h:Np c []):c.pin=[]:=by cases e:c.pin with|nil=>rfl|cons p r=>have:=h p %[e|Wl];simp at this
theorem aG.unset(x:aG c Y₀ Z₀ H₀ Y Z H)(hp:c.pin=[])(i:Nat):aG c Y₀ Z₀ H₀ (Y.set i none) (Z.set i none) H:=by
 have k:=x.ok;have back:∀{α:Type}{l:List (Option α)}{j:Nat}{v:α},(l.set i none)[j]?=some (some v)->l[j]?=some (some v)/\i≠j:=λ{α l j v}e=>by
  by_cases hj:i=j;.subst hj;rw[Q4]at e;simp at e
  .rw[Wd hj]at e;exact⟨e,hj⟩
 have own:∀a,Own (Y.set i none) (Z.set i none) a->Own Y Z a:=λa⟨j,d,e1,e2⟩=>⟨j,d,(back e1).1,(back e2).1⟩;have av:∀a,Av c (Y.set i none) (Z.set i none) a->Av c Y Z a:=λa z=>z.elim .inl λz=>.inr (own a z);refine⟨⟨k.keep,k.bd,k.cR,#v[k.len],λj d e=>?_,λj d e=>?_,λj1 j2 a d d' e1 e2 e3 e4=>k.inj j1 j2 a d d' (back e1).1 (back e2).1 (back e3).1 (back e4).1,λp hm=>by rw[hp]at hm;simp at hm⟩,x.keep,λa z=>x.own a (own a z),x.there⟩;.obtain⟨e',n⟩:=back e;obtain⟨v,e1,r⟩:=k.slot j d e';exact⟨v,%[Wd n|e1],r.aP λa z=>.inl (av a z)⟩
 .obtain⟨e',n⟩:=back e;obtain⟨a,e1,r,q⟩:=k.own j d e';exact⟨a,%[Wd n|e1],r.aP λa z=>.inl (av a z),q⟩
section
variable{g:Xc->Dl->Prop}
theorem Ok.FG(k:Ok c Y Z H)(h:yJ Z=true):Ok ⟨H,c.B,[],g⟩ Y Z H:=⟨λj j e j=>e,k.bd,λa⟨i,z⟩=>by simp at z,k.len,k.slot,λi d e=>(by have:=WF.mp h _ (Wx e);cases this),k.inj,λp z=>by simp at z⟩
theorem Ok.nD(k:Ok c Y Z H)(hp:c.pin=[])(k':Ok ⟨H,B',[],g⟩ SL S' H'):Ok {c with B:=B'} SL S' H':=by
 have nI:∀a,¬c.I a:=λa⟨i,z⟩=>by rw[hp]at z;simp at z
 have FH:∀a,¬(⟨H,B',[],g⟩:Fc).I a:=λa⟨i,z⟩=>by simp at z
 refine⟨λa o e n=>k'.keep a o (k.keep a o e n) (FH a),k'.bd,λa z=>absurd z (nI a),k'.len,k'.slot,λi d e=>?_,k'.inj,λp z=>by rw[show({c with B:=B'}:Fc).pin=c.pin from rfl,hp]at z;simp at z⟩;obtain⟨a,e1,r,q,nb⟩:=k'.own i d e;refine⟨a,e1,r,.inr ?_,nb⟩;rcases q with q|q;.exact absurd q (FH a)
 .exact k.kK q
theorem aG.nD(k:Ok c Y Z H)(hp:c.pin=[])(x:aG ⟨H,c.B,[],g⟩ Y Z H SL S' H'):aG c Y Z H SL S' H':=⟨k.nD hp x.ok,x.keep,x.own,x.there⟩
theorem aS.nD(k:Ok c Y Z H)(hp:c.pin=[])(h:aS ⟨H,c.B,[],g⟩ SL S' H H' v r):aS c SL S' c.H₀ H' v r:=by cases r with|pure d=>exact h|own d=>obtain⟨a,e,o,n,f,k',q⟩:=h;exact⟨a,e,o,n,k.kK f,k.nD hp k',k.kK f⟩
theorem aS.unset(hp:c.pin=[])(i:Nat)(h:aS c Y Z Hs H v r):aS c (Y.set i none) (Z.set i none) Hs H v r:=by
 have own:∀a,Own (Y.set i none) (Z.set i none) a->Own Y Z a:=λa⟨j,d,e1,e2⟩=>by
  have back:∀{α:Type}{l:List (Option α)}{v:α},(l.set i none)[j]?=some (some v)->l[j]?=some (some v):=λ{α l v}e=>by
   by_cases hj:i=j;.subst hj;rw[Q4]at e;simp at e
   .rw[Wd hj]at e;exact e
  exact⟨j,d,back e1,back e2⟩
 cases r with|pure d=>exact Rep.aP h λa z=>.inl (z.elim .inl λz=>.inr (own a z))|own d=>obtain⟨a,e,o,n,f,k,q⟩:=h;exact⟨a,e,o.aP λb z=>.inl (z.elim .inl λz=>.inr (own b z)),n,f,(aG.unset (aG.refl k) hp i).ok,q⟩
end
section
open PySem.W Builtin Builtin.ObjectAttr Builtin.Getset_descriptor
section
variable{e:Addr}{h:Heap}{g:Array GenState}{d:Drawn}{t:Nat}
structure nE(K:W3)(C:Addr):Prop where
 ga:findIn K (.ref C) "__getattribute__"=some (some (.builtin "BaseException.__getattribute__"))gt:findIn K (.ref C) "__getattr__"=some none
 cl:findIn K (.ref C) "__class__"=some (some (.builtin "object.__class__"))sp:specialIn K (.builtin "object.__class__") "__get__"=some (some (.builtin "getset_descriptor.__get__"))tk:takesIn K (.builtin "object.__class__")=some true
 mo:mroIn K C (.type "object")=some true
 mb:mroIn K C (.type "BaseException")=some true
theorem UL(X:K.In h)(k:nE K C)(he:h.get? e=some oe)(hc:oe.cls=.ref C)(q:R (.ok (.ret (.ref C))) ⟨h,g,d,t,os⟩):QR (model prog w) A (.call (.builtin "getset_descriptor.__get__") ⟨[.builtin "object.__class__",.ref e,tp],[]⟩) R ⟨h,g,d,t,os⟩:=by
 have l1:Looks (model prog w) h (typeOf (.ref e)) (.ref C):=hc▸(Looks.ld he).andThen .now;have l2:=looks_mroIn (M:=model prog w) X k.mo;refine codeAny_call_builtin KF.slot_gs.plain KF.entry_gs (KF.slot_gs.check _ _ _ _ _ _ _ _ KF.type_class (KF.args_gs _ _ _) ?_);unfold Builtin.«getset_descriptor.__get__» descrGet;rw[dga_obj];refine W0 (W4 ?_);unfold descrGetter descrCheckInstance descrNameAndClass isInstance;simp only[KF.owner_class];repeat lk
 refine⟨Code.quiet_builtin _ P3,U1 KF.entry_class ?_⟩;unfold Builtin.«object.__class__» shownTypeOf;repeat lk
 exact q
theorem UM{Q}(X:K.In h)(k:nE K C)(he:h.get? e=some oe)(hc:oe.cls=.ref C)(q:Q (.done (.ret (.ref C))) ⟨h,g,d,t,os⟩):W8 (model prog w) A (Builtin.«object.__getattribute__» ⟨[.ref e,.str "__class__" tk],[]⟩) Q E ⟨h,g,d,t,os⟩:=by
 have l0:Looks (model prog w) h (typeOf (.ref e)) (.ref C):=hc▸(Looks.ld he).andThen .now;have l1:=looks_findIn (M:=model prog w) X k.cl;have l2:=KF.type_class;have l3:=F.slot_gs_get.lookup;have l4:=F.slot_gs_set.lookup;repeat(any_goals(first|assumption|with_reducible refine Looks.at l0 ?_|with_reducible refine Looks.at l1 ?_|(with_reducible refine Ub he ?_;rw[hc])|wp_step))
 refine UL X k he hc ?_;repeat(any_goals(first|assumption|wp_step))
theorem UO{Q}(X:K.In h)(k:nE K C)(he:h.get? e=some oe)(hc:oe.cls=.ref C)(q:Q () ⟨h,g,d,t,os⟩):W8 (model prog w) A (checkBuiltinCall "BaseException.__getattribute__" ⟨[.ref e,nv],[]⟩) Q E ⟨h,g,d,t,os⟩:=by
 have l0:Looks (model prog w) h (typeOf (.ref e)) (.ref C):=hc▸(Looks.ld he).andThen .now;have l1:=looks_mroIn (M:=model prog w) X k.mb;have b1:builtinKind "BaseException.__getattribute__"=some .slot:=by decide+kernel
 have b2:splitId "BaseException.__getattribute__"=some ("BaseException","__getattribute__"):=by decide+kernel
 have b3:=F.args_bexc_ga (.ref e) nv;simp only[checkBuiltinCall,b1,b2];refine W0 ?_;unfold isInstance;repeat(first|with_reducible refine Looks.at l0 ?_|with_reducible refine Looks.at l1 ?_|(with_reducible refine Ub he ?_;rw[hc])|wp_step)
 exact q
theorem UP{Q}(X:K.In h)(k:nE K C)(he:h.get? e=some oe)(hc:oe.cls=.ref C)(q:Q (some (.ref C)) ⟨h,g,d,t+1,os⟩):W8 (model prog w) A (getAttr? (.ref e) "__class__") Q E ⟨h,g,d,t,os⟩:=by
 have L0:Looks (model prog w) h (typeOf (.ref e)) (.ref C):=hc▸(Looks.ld he).andThen .now;have L1:=looks_findIn (M:=model prog w) X k.ga;have L2:=looks_findIn (M:=model prog w) X k.gt;have L3:=looks_mroIn (M:=model prog w) X k.mb;have hx0:(false&&onTheHeap (Value.builtin "BaseException.__getattribute__"))=false:=rfl;have UQ:(Value.builtin "BaseException.__getattribute__"==Value.builtin "object.__getattribute__")=false:=by decide+kernel
 have f3:=F.attrBase_ValueError.ga.bind (.ref e);unfold getAttr? getAttrBy? getAttrBy;refine W0 (wpAny_mkText (W0 (wpAny_attempt (WC (W0 (L0.at (W0 (L1.at ?_))))))));dsimp only;rw[UQ,Bool.and_false];simp only[Q8,if_false];unfold getAttrByItsOwn hookBefore;repeat(any_goals(first|assumption|with_reducible refine Looks.at L2 ?_|wp_step))
 refine codeAny_call_builtin F.attrBase_ValueError.ga.plain F.entry_bexc_ga (UO X k he hc (UM X k he hc ?_));repeat(any_goals(first|assumption|wp_step))
set_option tactic.hygienic true in theorem UR(k:nE K C)(hk:(clsIn K C).isSome=true):KitX K (.ref e) (.ref C) (excAt C v e)where
 ty:=λM h X⟨o,h1,h2,_⟩=>h2▸(Looks.ld h1).andThen .now
 it:=λM h X j=>by
  obtain⟨cd,da⟩:=Qz.mp hk;unfold clsIn at da;split at da;next c' d' cd' sl' ho=>exactλA' Q' E' s' kk q=>by unfold isType loadHead;exact W0 (wpAny_loadPart (kk _ _ (X _ _ ho)) (W4 q))
  next=>cases da
 ne:=λh tp dd its n sl X US=>by
  obtain⟨cd,da⟩:=Qz.mp hk;refine Bool.eq_false_iff.mpr λq=>?_;obtain rfl:C=tp:=Value.ref.inj (beq_iff_eq.mp q);unfold clsIn at da;split at da;next c' d' cd' sl' ho=>have z:=(X _ _ ho).symm.trans US;cases z
  next=>cases da
 ca:=λ{prog w A E Q s}X⟨o,h1,h2,_⟩q=>by obtain⟨hh,gg,dd,tt,oo⟩:=s;exact UP X k h1 h2 q
end
section
variable{y:Str}{D:Addr}
theorem UT(hg:Gl X y)(hm:X.mg y=some (.ref D))(hd:(y==("__debug__":Str))=false:=by decide):PE X (.Name y pos) λY H Q=>Q (.ref D) H:=λpins s Y H Q I h=>lK I hg hm ⟨.ref D,H,I,rfl,h⟩ hd
structure IsT(K:W3)(ce:Tx->Nat)(ys:List Tx)(cv:Value)(tab:Tx->Bool):Prop where
 k:∀z∈ys,nE K (ce z)c:∀z∈ys,(PySem.W.clsIn K (ce z)).isSome=true
 one:∀z∈ys,QL K (.ref (ce z)) cv=some (tab z)
theorem FI(UU:∀u,RelV cV u->u=cv)(T:IsT X.K ce ys cv tab):eF X (.builtin "isinstance") λxs H Q=>∃(a:Addr)(z:Tx)(v:V),xs=[.ref a,cV]/\H a=some (.ext (excAt (ce z) v a))/\z∈ys/\Q (.bl (tab z)) H:=by intro pins s Y H xs us Q I r h;obtain⟨a,z,v,rfl,ha,hz,q⟩:=h;obtain⟨u,w',rfl,r1,r2⟩:=wO r;cases r1;have e:=UU _ r2;subst e;obtain⟨p,_,_⟩:=I.ay a _ ha;exact Qh (UR (T.k z hz) (T.c z hz)) I.dw p (T.one z hz) (λz=>nomatch z) λtk=>⟨.bl (tab z),H,I.tok tk,rfl,q⟩
end
structure gm(k:Nat)(A:Wp):Prop where
 dp:A.depth+3*k+5<recursionLimit
 un:A.units+16*k+200<WL
theorem gm.deeper(r:gm (k+1) A)(env:Env):gm k (A.deeper env):=⟨by have:=r.dp;show A.depth+1+3*k+5<_;lia,by have:=r.un;show A.units+3+16*k+200<_;lia⟩
theorem bM.h(r:bM k A):gm k A:=⟨r.dp,r.un⟩
theorem gm.mono(r:gm k A)(h:j<=k):gm j A:=⟨by have:=r.dp;lia,by have:=r.un;lia⟩
theorem gm.mark(r:gm k A)(v:Option Value):gm k (A.mark v):=⟨r.dp,r.un⟩
def Cx.vb(X:Cx):Cx:={X with calm:=false,xe:=λj j=>False}
structure yK(P:Wn)(w:Ws)(K:W3)(mg:Str->Option Value)(base:Heap)(k:Nat)(f:Addr)(fd:WR)(ps:List Str)(sp:Sp):Prop where
 len:∀vs H Q E,sp vs H Q E->vs.length=ps.length
 run:∀(A:Wp)(outer:List Env)(s:W2)(H:Hp)(args:Args)(us:List Value)(vs:List V)(Q:VK),gm k A->mQ P w K mg base A outer s H->BindsTo s fd args (ps.zip us)->Vals vs us->sp vs H Q E0->QR (model P w) A (.call (.ref f) args) (CR cY outer P w H s Q E0) s
section
variable{k:Nat}
theorem UW{st:Stmt}(F:cZ K x qual st f fd)(S:dM N ps (aR st))(len:∀vs H Q E,sp vs H Q E->vs.length=ps.length)(bZ:∀(aE:Value)(A:Wp)(outer:List Env)(s:W2)(H:Hp)(vs:List V)(Q:VK),gm k (A.deeper (Qx qual (aR st) s.heap.objs.size f aE))->sp vs H Q E0->∃t,dI (cX cY P w K mg base N qual (aR st) f aE A outer s H E0).vb (cQ st) t/\t {nx:=λj H'=>Q .ax H',rt:=Q} (dm N vs) H):yK P w K mg base (k+1) f fd ps sp:=by
 obtain⟨oc,od,kV,doc,pm,an,aE,ct,de,rfl,lk,da⟩:=F.ex;refine⟨len,λA outer s H args us vs Q hr e0 hb r jN=>?_⟩;have hl:=len _ _ _ _ jN;have KX:K.In s.heap:=e0.mod.lG.keeps λb o e=>(e0.bs b o e).1;have lim:s.heap.NoLimit:=e0.mod.nolimit.keeps λb o e=>(e0.bs b o e).1;have p_:∀y∈ps.zip us,(aR st).names.lookup y.1=some .local\/(aR st).names.lookup y.1=some .cell/\((Qy (s.heap.objs.size+1) (aR st).names []).lookup y.1).isSome=true:=λ⟨n,v⟩hy=>by
  rcases S.par n (Jc hy).1 with q|q;.exact .inl q
  .exact .inr ⟨q,QZ _ _ _ (.inl q)⟩
 have UX:A.depth<recursionLimit:=by have:=hr.dp;lia
 refine codeAny_call_function UX (KX _ _ lk) rfl S.co S.gen rfl (PySem.W.codeRec_of KX da) (hb _ _ _ _ ?_);refine wpAny_newFunctionEnv_cells S.kind p_ λenv he s1 x=>?_;subst he;refine⟨lim.keeps x.toInCall.keep,codeAny_func ?_⟩;obtain⟨t,ht,hq⟩:=bZ aE A outer s H vs Q (hr.deeper _) jN;have e1:mQ P w K mg base {A with handled:=none} outer s H:=⟨e0.frames,e0.mod,e0.bs,e0.iJ,e0.f7,e0.je,e0.ay,e0.bare⟩;have J:=wY (CX:=cY) (E:=E0) (qual:=qual) (f:=f) (cd:=aE) (A:={A with handled:=none}) S rfl e1 hl r x;have I:Inv (cX cY P w K mg base N qual (aR st) f aE A outer s H E0).vb [] (dm N vs) H s1:=by have o:=J.ok;exact⟨⟨o.mod,o.kind,o.glob,o.blt,o.above,o.inj,o.has,o.kD,λz=>(by cases z),Around.frames_deeper e0.frames,o.mK,o.mL,o.bs,o.iJ,o.lH,o.lI,o.f7,o.je⟩,J.os,J.bare,J.base,J.loc,J.cell,J.free,J.fq,J.pin,J.ay,J.len⟩
 refine Q9 (ht [] s1 (dm N vs) H _ I hq) (λfl s' hs=>?_) λe s' hs=>hs.elim;cases fl with|ret u=>obtain⟨v,SL,H',J2,rv,q⟩:=hs;exact⟨v,H',J2.os,J2.bare,J2.base,J2.ay,rv,q⟩|next=>obtain⟨SL,H',J2,q⟩:=hs;exact⟨V.ax,H',J2.os,J2.bare,J2.base,J2.ay,rfl,q⟩|brk=>obtain⟨_,_,_,q⟩:=hs;exact False.elim q|cont=>obtain⟨_,_,_,q⟩:=hs;exact False.elim q
end
section
variable{k:Nat}{p:Pos}{t:TA}
theorem UY(F:yK X.prog X.w X.K X.mg X.base k f fd ps sp)(hr:gm k X.A)(hg:Gl X x)(hm:X.mg x=some (.ref f))(hk:Qm X.K (.ref f)=true)(hb:Binds X.K fd ps [])(ha:PA X (e::es) t)(cz:(x==("__debug__":Str))=false:=by decide)(he:W9 (e::es) X.env=(false,eval e X.env)::W9 es X.env:=by rfl)(bH:(Q3 pos (W9 es X.env)).any (·.1)=false:=by rfl):PE X (.Call (.Name x p) (e::es) [] pos) (tL sp [] E0 t):=by
 intro pins s Y H Q I h;refine QM (lK I hg hm ?_ cz);refine U3 (h₀:=X.base) I.ok.mod.lG hk (aX (ha pos pins s Y H _ I h) λus s1⟨vs,H1,I1,r,q⟩=>⟨I1.dw,?_⟩) he bH;have q:sp vs H1 Q E0:=by have q':sp (vs++[]) H1 Q E0:=q;rwa[WU]at q'
 have hl:(us++[]).length=ps.length:=by rw[WU,<-r.length];exact F.len _ _ _ _ q
 refine wpAny_call (JI (F.run X.A X.stack s1 H1 ⟨us,[]⟩ us vs Q hr I1.p8 (by have:=hb s1 us I1.dw hl;rwa[WU]at this) r q) λr s' hq=>?_);cases r with|error e=>exact False.elim hq|ok fl=>cases fl with|ret u=>exact I1.after hq|next=>exact False.elim hq|brk=>exact False.elim hq|cont=>exact False.elim hq
end
end
def gn(ce:Tx->Nat)(ys:List Tx)(tab:Tx->Bool)(fb:BE):DE:=λZ=>(fb Z).bind λd S'=>match d with
 |.exc n _=>match ys.find? λz=>ce z==n with|some z=>.ok (.pure (.bl (tab z))) S'|none=>.stuck
 |_=>.stuck
section
variable{y:Str}{ys:List Tx}
set_option tactic.hygienic true in theorem FJ{Q}(h:tD c (gn ce ys tab fb) Y H Q):UF c fb Y H λv H1=>∃(a:Addr)(z:Tx)(w:V),[v,cV]=[.ref a,cV]/\H1 a=some (.ext (excAt (ce z) w a))/\z∈ys/\Q (.bl (tab z)) H1:=by
 obtain⟨Z,k,q⟩:=h;unfold gn at q;rw[bh]at q;refine⟨Z,k,aQ q λd W' q1 v H1 a1 r1=>?_⟩;cases d<;>first|exact q1.elim|skip
 rename_i n fl;simp only at q1;split at q1
 .rename_i z hz;have h1:=List.find?_some hz;have h2:=List.mem_of_find?_eq_some hz;have e:ce z=n:= ~~~h1;subst e;rcases r1 with r1|⟨a,_,o⟩;.cases r1 with|exc _ ha _=>exact⟨_,z,_,rfl,ha,h2,q1 _ H1 a1 (.bl _)⟩
  .exact o.elim
 .exact q1.elim
theorem UZ{D:Addr}(T:IsT X.K ce ys (.ref D) tab)(hg:Gl X "isinstance")(hm:X.mg "isinstance"=none)(qw:Gl X y)(qx:X.mg y=some (.ref D))(he:SB X c e fb)(qy:(y==("__debug__":Str))=false:=by decide)(hs:W9 [e,.Name y py] X.env=(false,eval e X.env)::W9 [.Name y py] X.env:=by rfl)(bH:(Q3 pos (W9 [.Name y py] X.env)).any (·.1)=false:=by rfl):SE X c (.Call (.Name "isinstance" pp) [e,.Name y py] [] pos) (gn ce ys tab fb):=PE.weak (qa (FI (cV:=.ref D) λu r=>by cases r;rfl T) hg hm PyProof.Rows.boot_isinstance (dJ he (dJ (UT qw qx qy) f_) hs) Z' Z' hs bH) λY H Q h=>FJ h
theorem U_(T:IsT X.K ce ys (.type T') tab)(hg:Gl X "isinstance")(hm:X.mg "isinstance"=none)(qw:Gl X y)(qx:X.mg y=none)(xZ:Qw y=some (.type T'))(he:SB X c e fb)(x3:y≠"__name__":=by decide)(qy:(y==("__debug__":Str))=false:=by decide)(hs:W9 [e,.Name y py] X.env=(false,eval e X.env)::W9 [.Name y py] X.env:=by rfl)(bH:(Q3 pos (W9 [.Name y py] X.env)).any (·.1)=false:=by rfl):SE X c (.Call (.Name "isinstance" pp) [e,.Name y py] [] pos) (gn ce ys tab fb):=PE.weak (qa (FI (cV:=.ty T') λu r=>by cases r;rfl T) hg hm PyProof.Rows.boot_isinstance (dJ he (dJ (BM (v:=.ty T') qw qx xZ rfl x3 qy) f_) hs) Z' Z' hs bH) λY H Q h=>FJ h
end
def qR(P:Wn)(w:Ws)(K:W3)(mg:Str->Option Value)(base:Heap)(k:Nat)(x:Str)(n:Nat)(G:DF):Prop:=∃(f:Addr)(fd:WR)(ps:List Str),mg x=some (.ref f)/\Qm K (.ref f)=true/\Binds K fd ps []/\yK P w K mg base k f fd ps (oQ n G)
theorem Va(r:gm k A):A.units+64<WL:=by have:=r.un;lia
theorem Vb{st:Stmt}{k:Nat}{fb:DS}(F:cZ K x qual st f fd)(hm:mg x=some (.ref f))(hb:Binds K fd ps [])(S:dM N ps (aR st))(bZ:∀(c:Fc)(aE:Value)(A:Wp)(outer:List Env)(s:W2)(H:Hp)(E:XK),gm k (A.deeper (Qx qual (aR st) s.heap.objs.size f aE))->Np c np->eN (cX cY P w K mg base N qual (aR st) f aE A outer s H E).vb c (cQ st) fb)(hG:∀ss y,G ss=some y->cy np 0 ss=true/\dP fb N.length ss=some y):qR P w K mg base (k+1) x ps.length G:=by
 refine⟨f,fd,ps,hm,F.kp,hb,UW F S (λvs H Q E h=>?_) λaE A outer s H vs Q hr h=>?_⟩;.obtain⟨ss,B,hl,_⟩:=h;exact hl
 .obtain⟨ss,B,hl,ok,r,aC,hg,q⟩:=h;obtain⟨dB,hrun⟩:=hG ss _ hg;have iq:ss.length=vs.length:=by have:=ok.len;simpa using this
  have kR:Np ⟨H,B,bq 0 ss vs,λu u=>False⟩ np:=λp hp=>by obtain⟨j,d,e,h1,_⟩:=iV (i:=p.1) (a:=p.2) hp;rw[e];exact oR dB h1
  refine⟨jq ⟨H,B,bq 0 ss vs,λu u=>False⟩ fb,bZ ⟨H,B,bq 0 ss vs,λu u=>False⟩ aE A outer s H E0 hr kR,?_⟩;have cE:dm N vs=bJ vs++Ww (N.length-ss.length) none:=by rw[iq];rfl
  refine⟨bx N.length ss,%[cE|ok.ext _],?_⟩;unfold dP at hrun;unfold dO;cases e:fb (bx N.length ss)with|exc x N'=>rw[e]at hrun;cases hrun|stuck=>rw[e]at hrun;cases hrun|ok fl S'=>rw[e]at hrun;show∀SL H',aG _ (dm N vs) (bx N.length ss) H SL S' H'->fin _ _ SL S' H' fl;intro SL H' a;rw[cE]at a;simp only at hrun;cases fl with
 |brk=>cases hrun|cont=>cases hrun|next=>simp only[c_,Wu]at hrun;cases eo:bF 0 ss S' with|none=>rw[eo]at hrun;cases hrun|some os=>rw[eo]at hrun;cases hrun;obtain⟨l1,l2⟩:=gy rfl ok a eo;exact q .ax H' l1 .ax
 |ret r'=>simp only[c_,Wu]at hrun;cases eo:bF 0 ss S' with|none=>rw[eo]at hrun;cases hrun|some os=>rw[eo]at hrun;cases hrun;obtain⟨l1,l2⟩:=gy rfl ok a eo;exactλv rv=>q v H' l1 (l2 v _ rv)
section
variable{k:Nat}
theorem Vc(F:qR X.prog X.w X.K X.mg X.base k x n G)(hK:md G)(hr:gm k X.A)(hg:Gl X x)(ha:SX X c (e::es) as)(hl:as.length=n)(cz:(x==("__debug__":Str))=false:=by decide)(he:W9 (e::es) X.env=(false,eval e X.env)::W9 es X.env:=by rfl)(bH:(Q3 pos (W9 es X.env)).any (·.1)=false:=by rfl):SE X c (.Call (.Name x pp) (e::es) [] pos) (aB G as):=by obtain⟨f,fd,ps,hm,hk,hb,ok⟩:=F;exact PE.weak (UY ok hr hg hm hk hb ha cz he bH) λY H Q h=>yj (ps:=ps) hK hl h
end
section
open PySem.SeqAt
theorem yL:∀{bs:List Bool}{us:List Value},Vals (bs.map V.bl) us->us=bs.map Value.bool|[],us,r=>by cases r;rfl|b::bs,us,r=>by cases r with|cons r1 r2=>cases r1;rw[yL r2];rfl
def qS:Value->Bool|.bool b=>b|_=>false
theorem FK:∀bs:List Bool,(bs.map Value.bool).countP qS=bs.count true|[]=>rfl|b::bs=>by rw[Wm,List.countP_cons,FK bs,List.count_cons];cases b<;>rfl
def FL(K:W3):V->List V->Hp->VK->Prop:=λx xs H Q=>∃(a:Addr)(bs:List Bool),x=.ref a/\xs=[.bl true]/\cP K H a (bs.map V.bl)/\Q (.int (bs.count true:Nat)) H
def FN(K:W3):V->List V->Hp->VK->Prop:=λx xs H Q=>∃(a:Addr)(bs:List Bool),x=.ref a/\xs=[.bl true]/\cP K H a (bs.map V.bl)/\true∈bs/\bs.length<=1000/\Q (.int (bs.idxOf true:Nat)) H
theorem Vd:qb X "list.count" (FL X.K):=by
 intro pins s Y H x xs v us Q I rx rs h;obtain⟨a,bs,rfl,rfl,hq,q⟩:=h;obtain⟨u,rfl,ru⟩:=f9 rs;cases ru;cases rx;obtain⟨its,r',p,_⟩:=I.list hq;obtain rfl:=yL r';obtain⟨⟨cls,dd,data,sl⟩,ho,hc,n,hd⟩:=p.isList;simp only at hc hd;subst hc;subst hd;refine call_meets PySem.F.slot_list_count ⟨_,ho,rfl⟩ PySem.F.entry_list_count (PySem.F.args_list_count_2 _ _) (list_countAt a _ n dd sl (.bool true) qS) ⟨ho,λy hy=>?_,?_⟩;.have kX:y∈bs.map Value.bool:= ~~~hy;obtain⟨b,_,rfl⟩:=WH.mp kX;have:=EqAt.bool_bool (A:=X.A.in1) (s:=s) b true;cases b<;>exact this
 .rw[show(bs.map Value.bool).toArray.toList=bs.map Value.bool from rfl,FK];exact⟨.int (bs.count true:Nat),H,I.tok _,⟨_,rfl⟩,q⟩
theorem Ve:qb X "list.index" (FN X.K):=by
 intro pins s Y H x xs v us Q I rx rs h;obtain⟨a,bs,rfl,rfl,hq,hm,hl,q⟩:=h;obtain⟨u,rfl,ru⟩:=f9 rs;cases ru;cases rx;obtain⟨its,r',p,_⟩:=I.list hq;obtain rfl:=yL r';obtain⟨⟨cls,dd,data,sl⟩,ho,hc,n,hd⟩:=p.isList;simp only at hc hd;subst hc;subst hd;have hj:bs.idxOf true<bs.length:=List.idxOf_lt_length_iff.mpr hm;refine call_meets Jx ⟨_,ho,rfl⟩ PySem.F.entry_list_index (PySem.F.args_list_index_2 _ _) (list_indexAt a _ n dd sl (.bool true) qS (bs.idxOf true) (~~~hj) Y' ?_ ?_) ⟨ho,λy hy=>?_,⟨.int (bs.idxOf true:Nat),H,I.tok _,⟨_,rfl⟩,q⟩⟩;.have:=List.getElem_idxOf hj;simp[qS,this]
 .intro m vc bc;have FO:m<bs.length:= ~~~vc;have:bs[m]≠true:=λz=>by have z2:=List.not_of_lt_findIdx (p:=(.==true)) (xs:=bs) (i:=m) bc;rw[z]at z2;cases z2
  simp[qS,this]
 .have kX:y∈bs.map Value.bool:= ~~~hy;obtain⟨b,_,rfl⟩:=WH.mp kX;have:=EqAt.bool_bool (A:=X.A.in1) (s:=s) b true;cases b<;>exact this
end
noncomputable def pe:D->Option S|.lst ds=>(gY ds).map λbs=>.pure (.int (bs.count true:Nat))|_=>none
noncomputable def pf:D->Option S
 |.lst ds=>match gY ds with|some bs=>if true∈bs/\bs.length<=1000 then some (.pure (.int (bs.idxOf true:Nat)))else none|none=>none
 |_=>none
theorem Vf:jm (λx H Q=>qc K "list" x H/\FL K x [.bl true] H Q) pe:=by intro c Y Z H x d s Q k rx hp q;cases d with
 |lst ds=>simp only[pe]at hp;cases e:gY ds with|none=>rw[e]at hp;cases hp|some bs=>rw[e]at hp;cases hp;obtain⟨a,vs,ea,ha,ra⟩:=rx.lst;obtain rfl:=uv e ra;subst ea;exact⟨.inl ⟨rfl,_,.inl ha⟩,a,bs,rfl,rfl,.inl ha,q _ H (.refl k) (.int _)⟩
 |_=>simp[pe]at hp
set_option tactic.hygienic true in theorem Vg:jm (λx H Q=>qc K "list" x H/\FN K x [.bl true] H Q) pf:=by intro c Y Z H x d s Q k rx hp q;cases d with
 |lst ds=>simp only[pf]at hp;cases e:gY ds with|none=>rw[e]at hp;cases hp|some bs=>
 rw[e]at hp;simp only at hp;split at hp;.rename_i hz;cases hp;obtain⟨a,vs,ea,ha,ra⟩:=rx.lst;obtain rfl:=uv e ra;subst ea;exact⟨.inl ⟨rfl,_,.inl ha⟩,a,bs,rfl,rfl,.inl ha,hz.1,hz.2,q _ H (.refl k) (.int _)⟩
 .cases hp|_=>simp[pf]at hp
theorem Vh{j}{p0 apos bL:Pos}(he:SB X c e fb)(ji:JS e "count" X.env (eval e X.env)=eval e X.env:=by rfl)(jj:((Q3 bL (W9 [.Constant (.bool true) j p0] X.env)).all (λx=>!x.1)&&(backToKw bL (JT [] X.env)).all (λx=>x.1.isSome)&&decide ([Expr.Constant (.bool true) j p0].length+([]:List Keyword).length+(if([]:List Keyword).isEmpty then 0 else 1)<30))=true:=by rfl)(jk:(apos.endLine==bL.line)=true:=by rfl)(hs:W9 [.Constant (.bool true) j p0] X.env=(false,eval (.Constant (.bool true) j p0) X.env)::W9 [] X.env:=by rfl):SE X c (.Call (.Attribute e "count" apos) [.Constant (.bool true) j p0] [] bL) (aF pe fb):=by refine PE.weak (qd Jv PySem.F.slot_list_count PySem.F.type_list_count Vd he (dJ wI f_ hs) ji jj jk hs rfl) λY H Q h=>?_;obtain⟨Z,k,q⟩:=qt (Vf (K:=X.K)) h;exact⟨Z,k,aQ q λy W' q1 v H1 a1 r1=>q1 v H1 a1 r1⟩
theorem Vi{j}{p0 apos bL:Pos}(he:SB X c e fb)(ji:JS e "index" X.env (eval e X.env)=eval e X.env:=by rfl)(jj:((Q3 bL (W9 [.Constant (.bool true) j p0] X.env)).all (λx=>!x.1)&&(backToKw bL (JT [] X.env)).all (λx=>x.1.isSome)&&decide ([Expr.Constant (.bool true) j p0].length+([]:List Keyword).length+(if([]:List Keyword).isEmpty then 0 else 1)<30))=true:=by rfl)(jk:(apos.endLine==bL.line)=true:=by rfl)(hs:W9 [.Constant (.bool true) j p0] X.env=(false,eval (.Constant (.bool true) j p0) X.env)::W9 [] X.env:=by rfl):SE X c (.Call (.Attribute e "index" apos) [.Constant (.bool true) j p0] [] bL) (aF pf fb):=by refine PE.weak (qd Jv Jx PySem.F.type_list_index Ve he (dJ wI f_ hs) ji jj jk hs rfl) λY H Q h=>?_;obtain⟨Z,k,q⟩:=qt (Vg (K:=X.K)) h;exact⟨Z,k,aQ q λy W' q1 v H1 a1 r1=>q1 v H1 a1 r1⟩
theorem SS.fM{st:Stmt}{f:DS}(h:SS X.fM c st f):SS X c st f:=λpins s Y H D I hw=>Q9 (h pins s Y H D (I.gJ _) hw) (λj j q=>q.kE) λj j z=>False.elim z
def FP:List (Tx×Nat)->Tx->Nat|[],_=>0|p::r,x=>bif p.1==x then p.2 else FP r x
structure ZA(z TI TO i1 i2:Addr)(f1 f2:List Addr):Prop where
 m1:i1∈f1
 m2:i2∈f2
 z1:z∉f1
 z2:z∉f2
 t1:TO∉f1
 t2:TO∉f2
 k1:i1∉f2
 k2:i2∉f1
 tz:TO≠z
 iz:TI≠z
 io:TI≠TO
 n1:TI≠i1
 n2:TI≠i2
def kY(b:Bool)(h:Heap)(a:Addr)(its:Array Value):Prop:=match b with|true=>h.IsList a its|false=>h.IsTuple a its
def FQ(b:Bool)(h:Heap)(it a:Addr)(i:Nat):Prop:=match b with|true=>h.IsListIter it a i|false=>h.IsTupleIter it a i
def FR(b:Bool)(a:Addr):Obj:={cls:=.type (match b with|true=>"list_iterator"|false=>"tuple_iterator"),data:=.fields #[.ref a,.int 0 0]}
theorem kY.lt{its}(q:kY b h a its):a<h.objs.size:=by
 cases b;.obtain⟨o,e,_⟩:=(q:h.IsTuple a its);exact Wh e
 .obtain⟨o,e,_⟩:=(q:h.IsList a its);exact Wh e
theorem kY.push{its}(q:kY b h a its)(o:Obj):kY b (h.push o) a its:=by
 cases b;.obtain⟨o,e,r⟩:=(q:h.IsTuple a its);exact⟨o,W5 _ e,r⟩
 .obtain⟨o,e,r⟩:=(q:h.IsList a its);exact⟨o,W5 _ e,r⟩
theorem Vj{its}(h:kY b s.heap a its)(q:Q (.ref s.heap.objs.size) {s with heap:=s.heap.push (FR b a)}):W8 (model prog w) A (pyIter (.ref a)) Q E s:=by
 cases b;.exact U7 h q
 .exact JG h q
theorem Vk(b:Bool)(hh:A.handled=none)(it a:Addr)(bN:a≠it)(its:Array Value):Draws prog w A it [it,a] its.size (λi v=>its[i]?=some v) λi h=>FQ b h it a i/\kY b h a its:=by
 cases b;.exact Draws.tuple' hh it a bN its
 .exact Draws.list hh it a bN its
theorem Inv.Vl{x v}(fp:List Addr)(I:Inv X pins Y H s)(hf:∀b∈fp,fz X pins H b)(bc:∀b∈fp,b<s.heap.objs.size)(ru:RelV x u)(rv:RelV y v)(hT:h'.get? s.heap.objs.size=some {cls:=.type "tuple",data:=.seq #[u,v]})(k:∀b o,b∉fp->s.heap.get? b=some o->h'.get? b=some o):Inv X pins Y (upd H s.heap.objs.size (.tup [x,y])) {s with heap:=h',toks:=t'}:=by
 have I1:Inv X pins Y (upd H s.heap.objs.size (.tup [x,y])) {s with heap:=s.heap.push {cls:=.type "tuple",data:=.seq #[u,v]},toks:=t'}:=I.laid (t':=t') (λb o e=>W5 _ e) (Wc _) (show bw X.prog X.w _ _ _ (.tup [x,y])from⟨by simp only[WT,JZ];rw[WZ];decide,[u,v],.cons ru (.cons rv .nil),jb.new _ _⟩);have:=Inv.uP (t':=t') (h':=h') fp I1 (λb o hb eb=>?_) λb hb=>?_;.exact this
 .rcases Heap.get?_push_cases eb with⟨z,z'⟩|eb;.subst z z';exact hT
  .exact k b o hb eb
 .obtain⟨f0,r⟩:=hf b hb;exact⟨%[aO (WG (bc b hb))|f0],r⟩
def nF(b:Bool)(K:W3)(H:Hp)(a:Addr)(xs:List V):Prop:=match b with|true=>cP K H a xs|false=>c9 K H a xs
theorem Inv.FU{xs}(I:Inv X pins Y H s)(h:nF b X.K H a xs):∃its,Vals xs its/\kY b s.heap a its.toArray:=by
 cases b;.obtain⟨its,rv,p,_⟩:=I.tuple (h:c9 X.K H a xs);exact⟨its,rv,p⟩
 .obtain⟨its,rv,p,_⟩:=I.list (h:cP X.K H a xs);exact⟨its,rv,p.isList⟩
theorem Inv.Vm{xs}(I:Inv X pins Y H s)(h:nF b X.K H a xs)(h':nF b X.K H a ys):xs=ys:=by
 cases b;.exact I.BP h h'
 .exact I.BO h h'
def kZ(xs ys:List D):List D:=List.zipWith (λx y=>D.tup [x,y]) xs ys
theorem FV{xs ys:List D}{d:D}(h:(kZ xs ys)[i]?=some d):∃x y,xs[i]?=some x/\ys[i]?=some y/\d=.tup [x,y]:=by unfold kZ at h;rw[List.getElem?_zipWith]at h;cases e1:xs[i]? with|none=>rw[e1]at h;cases h|some x=>cases e2:ys[i]? with|none=>rw[e1,e2]at h;cases h|some y=>rw[e1,e2]at h;cases h;exact⟨x,y,rfl,rfl,rfl⟩
theorem aH.two{u x}(r:Rep H O u x)(r':Rep H O v y):aH H O [u,v] [x,y]:=by refine⟨rfl,λj v' d' e1 e2=>?_⟩;match j with|0=>simp at e1 e2;subst e1 e2;exact r|1=>simp at e1 e2;subst e1 e2;exact r'|j+2=>simp at e1
noncomputable def qT:D->Option (List D)|.lst ds=>some ds|.tup ds=>some ds|_=>none
theorem Rep.sq{O:Addr->Prop}{d:D}(r:Rep H O v d)(e:qT d=some ds):∃(b:Bool)(a:Addr)(vs:List V),v=.ref a/\nF b K H a vs/\aH H O vs ds/\∀H2,(∀p o,H p=some o->¬O p->H2 p=some o)->nF b K H2 a vs:=by
 cases d<;>first|(simp[qT]at e;done)|skip
 .cases r with|tup h1 h2 h3 h4=>simp only[qT,We]at e;subst e;exact⟨false,_,_,rfl,c9.of h2,⟨h3,h4⟩,λH2 k=>c9.of (k _ _ h2 h1)⟩
 .cases r with|lst h1 h2 h3 h4=>simp only[qT,We]at e;subst e;exact⟨true,_,_,rfl,.inl h2,⟨h3,h4⟩,λH2 k=>.inl (Rd.keep h2 λo e=>k _ o e h1)⟩
def e_(G:DX)(as:List Ak):DE:=λZ=>if(bo as).all (dj Z)&&cL (bo as)then(cf as Z).bind λds W'=>match bD as ds W' with|none=>.stuck|some ss=>match G ss with|some (.inl (r,aC))=>.ok r (ba as aC W')|_=>.stuck else .stuck
section
variable{k:Nat}{G:DX}
set_option tactic.hygienic true in theorem FW{Q}(hK:nB G)(hl:as.length=n)(h:tD c (e_ G as) Y H Q):tX c as Y H λvs H1=>qQ X.mg n G vs H1 Q λc' _ H'=>∃C,c'=.ref C/\False:=by
 obtain⟨Z,kk,q⟩:=h;unfold e_ at q;split at q
 .rename_i hc;rw[Wq]at hc;have nd:=uF hc.2;rw[bh]at q;refine⟨Z,kk,λi hi=>?_,aQ q λds W' q1 vs H1 a1 r1=>?_⟩
  .have:=WF.mp hc.1 i (jV.mpr hi);unfold dj at this;split at this;.rename_i d ed;exact oI kk ed
   .cases this
  .cases em:bD as ds W' with|none=>rw[em]at q1;exact q1.elim|some ss=>rw[em]at q1;simp only at q1;cases eg:G ss with|none=>rw[eg]at q1;exact q1.elim|some y=>rw[eg]at q1;have kS:=uH a1.ok r1 em nd;obtain⟨m1,m2,_⟩:=oV r1 em;have g2:=hK ss y eg;cases y with|inl y=>refine⟨ss,_,by rw[<-m2];exact hl,kS,.inl y,eg,?_⟩;obtain⟨r,aC⟩:=y;intro v H2 a2 r2;obtain⟨o1,o2⟩:=qH a1.ok r1 em nd rfl a2 (λj d ed=>(g2 j).1 d ed) λj d ed=>(g2 j).2 d ed;exact q1 v H2 (a1.trans o1) (aS.back (o2 v r r2) a1)|inr y=>exact q1.elim
 .exact q.elim
theorem Vn(F:mv X.prog X.w X.K X.mg X.base k x n G)(hK:nB G)(hr:bM k X.A)(hex:X.ex=[])(hg:Gl X x)(ha:SX X c (e::es) as)(hl:as.length=n)(cz:(x==("__debug__":Str))=false:=by decide)(he:W9 (e::es) X.env=(false,eval e X.env)::W9 es X.env:=by rfl)(bH:(Q3 pos (W9 es X.env)).any (·.1)=false:=by rfl):SE X c (.Call (.Name x pp) (e::es) [] pos) (e_ G as):=by obtain⟨f,fd,ps,hm,hk,hb,ok⟩:=F;exact PE.weak (u_ (W:=λj j j j=>False) ok hr hex hg hm hk hb (λj j j j j j j j j h=>h.elim) ha cz he bH) λY H Q h=>FW hK hl h
end
section
variable{p:Addr}
theorem Ok.Vo(k:Ok (c.plus p) Y Z H)(h0:c.H₀ p=none)(o:HO):Ok (c.plus p) Y Z (upd H p o):=by
 have uC:∀b w,H b=some w->¬Av (c.plus p) Y Z b->upd H p o b=some w:=λb w e n=>by rw[aO λz:b=p=>n (.inl (.inr z))];exact e
 have ex:∀b,(∃w,H b=some w)->∃w,upd H p o b=some w:=λb⟨w,e⟩=>by
  by_cases z:b=p;.rw[z];exact⟨o,bS⟩
  .rw[aO z];exact⟨w,e⟩
 refine⟨λa w e n=>?_,λa z=>ex a (k.bd a z),λa z=>ex a (k.cR a z),k.len,λi d e=>?_,λi d e=>?_,k.inj,k.pinned⟩;.rw[aO λz:a=p=>by have e':c.H₀ a=some w:=e;grind];exact k.keep a w e n
 .obtain⟨v,e1,r⟩:=k.slot i d e;exact⟨v,e1,r.keep uC⟩
 .obtain⟨a,e1,oa,h1,h2⟩:=k.own i d e;exact⟨a,e1,oa.keep uC λw e=>%[aO λz:a=p=>h2 (.inr z)|e],h1,h2⟩
theorem FX(h:post c r k)(m:∀a Z,k a Z->k' a Z):post (c.plus p) r k':=by cases r with|ok a Z=>exact m a Z h|exc x Z=>exact h|stuck=>exact h
end
section
variable{h:Heap}{q:Str}{st:Stmt}
abbrev aZ(K:W3)(x:Str)(st:Stmt):Prop:=∃(f:Addr)(oc:Value)(od:Option Addr)(kV dc pm:Value)(an:Option Addr)(cd ct:Value)(sl:Array (Option Value)),PySem.W.nsIn K Wo x=some (some (.ref f))/\K.lookup f=some ⟨oc,od,.func (Q7 x x (gv st) (cQ st) (aR st) .none kV dc pm an cd ct),sl⟩/\PySem.W.codeIn K cd x=true/\Qm K (.ref f)=true
theorem nG(X:K.In h)(G:h.Ns Wo mg)(d:aZ K x st):∃f fd,cZ K x x st f fd/\mg x=some (.ref f):=by obtain⟨f,oc,od,kV,dc,pm,an,cd,ct,sl,a,l,c,k⟩:=d;exact⟨f,_,xy l c k,PySem.W.mg_of X G a⟩
abbrev Bd(x q:Str)(st:Stmt)(ps:List Str)(us:List Value):Prop:=∀(kV doc pm:Value)(an:Option Addr)(aE ct:Value),bindArgs (Q7 x q (gv st) (cQ st) (aR st) .none kV doc pm an aE ct) ⟨us,[]⟩=pure (ps.zip us)
variable{p1 p2 p3 p4 p5 p6:Str}
theorem FY(F:cZ K x q st f fd)(h:∀a,Bd x q st [p1] [a]):Binds K fd [p1] []:=F.binds λj j j j j j us hl=>by rcases us with _|⟨a,_|_⟩<;>cases hl;exact h a _ _ _ _ _ _
theorem nH(F:cZ K x q st f fd)(h:∀a b,Bd x q st [p1,p2] [a,b]):Binds K fd [p1,p2] []:=F.binds λj j j j j j us hl=>by rcases us with _|⟨a,_|⟨b,_|_⟩⟩<;>cases hl;exact h a b _ _ _ _ _ _
theorem yM(F:cZ K x q st f fd)(h:∀a b c,Bd x q st [p1,p2,p3] [a,b,c]):Binds K fd [p1,p2,p3] []:=F.binds λj j j j j j us hl=>by rcases us with _|⟨a,_|⟨b,_|⟨c,_|_⟩⟩⟩<;>cases hl;exact h a b c _ _ _ _ _ _
end
theorem cW{α:Type}{P:α->Prop}{a:α}(x:P a):∀z∈[a],P z:=λj h=>by cases h with|head=>exact x|tail _ h=>cases h
section
open PySem.SeqAt
def yN(z:Str):Value->Bool|.str x _=>x==z|_=>false
theorem Vp{xs}(h:Vals xs us):∀(j:Nat)(u:Value),us[j]?=some u->∃v,xs[j]?=some v/\RelV v u:=by induction h with|nil=>intro j u e;simp at e|cons r rs ih=>intro j u e;cases j with|zero=>simp at e;subst e;exact⟨_,rfl,r⟩|succ j=>simpa using ih j u (~~~e)
def FZ(K:W3):V->List V->Hp->VK->Prop:=λx xs H Q=>∃(a:Addr)(ts:List Tx)(z:Tx),x=.ref a/\xs=[.str (toS z)]/\cP K H a (ts.map λt=>V.str (toS t))/\z∈ts/\ts.length<=1000/\Q (.int (ts.idxOf z:Nat)) H
theorem Vq:qb X "list.index" (FZ X.K):=by
 intro pins s Y H x xs v us Q I rx rs h;obtain⟨a,ts,z,rfl,rfl,hq,hm,hl,q⟩:=h;obtain⟨u,rfl,ru⟩:=f9 rs;obtain⟨tk,rfl⟩:=ru;cases rx;obtain⟨its,r',p,_⟩:=I.list hq;obtain⟨⟨cls,dd,data,sl⟩,ho,hc,n,hd⟩:=p.isList;simp only at hc hd;subst hc;subst hd;have at':∀j(hj:j<its.length),∃t tk,ts[j]?=some t/\its[j]=.str (toS t) tk:=λj hj=>by obtain⟨v,e1,r1⟩:=Vp r' j _ (W7 hj);rw[Wj]at e1;obtain⟨t,e2,e3⟩:=Option.map_eq_some_iff.mp e1;subst e3;obtain⟨tk,e4⟩:=r1;exact⟨t,tk,e2,e4⟩
 have hlen:its.length=ts.length:=by have:=r'.length;simpa using this.symm
 have hj:ts.idxOf z<ts.length:=List.idxOf_lt_length_iff.mpr hm;have iB:ts.idxOf z<its.length:=by lia
 refine call_meets Jx ⟨_,ho,rfl⟩ PySem.F.entry_list_index (PySem.F.args_list_index_2 _ _) (list_indexAt a _ n dd sl (.str (toS z) tk) (yN (toS z)) (ts.idxOf z) (~~~iB) Y' ?_ ?_) ⟨ho,λy hy=>?_,⟨.int (ts.idxOf z:Nat),H,I.tok _,⟨_,rfl⟩,q⟩⟩;.obtain⟨t,mh,e1,e2⟩:=at' _ iB;have e3:ts[ts.idxOf z]=z:=List.getElem_idxOf hj;rw[W7 hj,e3]at e1;cases e1;simp only[List.getElem_toArray,e2,yN];exact beq_self_eq_true _
 .intro m vc bc;have vd:m<its.length:= ~~~vc;obtain⟨t,mh,e1,e2⟩:=at' m vd;have bN:t≠z:=λe=>by
   subst e;have FO:m<ts.length:=by lia
   have z2:=List.not_of_lt_findIdx (p:=(.==t)) (xs:=ts) (i:=m) bc;rw[W7 FO]at e1;cases e1;simp at z2
  simp only[List.getElem_toArray,e2,yN];rw[oH];exact beq_false_of_ne bN
 .have kX:y∈its:= ~~~hy;obtain⟨j,hjj,rfl⟩:=List.getElem_of_mem kX;obtain⟨t,mh,e1,e2⟩:=at' j hjj;rw[e2];exact EqAt.str_str _ _ _ _
end
noncomputable def Vr:D->Bool|.lst _=>true|_=>false
noncomputable def nJ(x y:D):Option S:=match x,y with
 |.lst ds,.str z=>match dh ds with|some ts=>if z∈ts/\ts.length<=1000 then some (.pure (.int (ts.idxOf z:Nat)))else none|none=>none
 |_,_=>none
def nK(i:Nat)(fb:DE):DE:=λZ=>match Z[i]? with|some (some s)=>if Vr s.d then(fb Z).bind λy W'=>match W'[i]? with|some (some s)=>p2 nJ s.d y.d W'|_=>.stuck else .stuck|_=>.stuck
section
variable{o:Expr}{fb:DE}
set_option tactic.hygienic true in theorem Vs:bW (λx y H Q=>FZ K x [y] H Q) nJ:=by intro c Y Z H x y d e s Q k rx ry hp q;cases d with
 |lst ds=>cases e with
  |str z=>
   simp only[nJ]at hp;split at hp
   .rename_i ts ht;split at hp;.rename_i hz;cases hp;obtain⟨a,vs,ea,ha,r⟩:=rx.lst;have ev:=qv ht r;subst ev;exact⟨a,ts,z,ea,by rw[ry.str],.inl ha,hz.1,hz.2,q _ H (.refl k) (.int _)⟩
    .cases hp
   .cases hp|_=>simp[nJ]at hp
 |_=>simp[nJ]at hp
set_option tactic.hygienic true in theorem Vt(he:PE X o (eW i))(hx:SE X c e fb)(ji:JS o "index" X.env (eval o X.env)=eval o X.env:=by rfl)(jj:((Q3 bL (W9 [e] X.env)).all (λx=>!x.1)&&(backToKw bL (JT [] X.env)).all (λx=>x.1.isSome)&&decide ([e].length+([]:List Keyword).length+(if([]:List Keyword).isEmpty then 0 else 1)<30))=true:=by rfl)(jk:(apos.endLine==bL.line)=true:=by rfl)(hs:W9 [e] X.env=(false,eval e X.env)::W9 [] X.env:=by rfl):SE X c (.Call (.Attribute o "index" apos) [e] [] bL) (nK i fb):=by refine PE.weak (qd Jv Jx PySem.F.type_list_index Vq he (dJ hx f_ hs) ji jj jk hs rfl) λY H Q h=>?_;obtain⟨Z,k,q⟩:=h;unfold nK at q;cases e0:Z[i]? with|none=>rw[e0]at q;exact q.elim|some o=>cases o with|none=>rw[e0]at q;exact q.elim|some w=>
   rw[e0]at q;simp only at q;split at q;case isFalse=>exact q.elim
   rename_i hL;obtain⟨v,ev⟩:=oI k e0;have rb:=x4 k e0 ev;have ty:qc X.K "list" v H:=by
    cases hd:w.d<;>rw[hd]at hL<;>try cases hL
    rw[hd]at rb;obtain⟨a,vs,ea,ha,_⟩:=rb.lst;subst ea;exact .inl ⟨rfl,_,.inl ha⟩
   rw[bh]at q;refine⟨v,ev,ty,Z,k,aQ q λy W' q1 u H1 a1 r1=>?_⟩;cases e:W'[i]? with|none=>rw[e]at q1;exact q1.elim|some o=>cases o with|none=>rw[e]at q1;exact q1.elim|some w1=>rw[e]at q1;have Vu:=x4 a1.ok e ev;exact qp Vs a1.ok Vu (.inl r1.rep) (aQ q1 λs SC q3 v' H3 a3 r3=>q3 v' H3 (a1.trans a3) (aS.back r3 a1))
end
section
open PySem.W
def Good(n:Nat){α:Type}:KasT α->(α->Prop)->Prop|.ret a,R=>R a|.ask i j k,R=>i<n/\j<n/\i≠j/\∀b,Good n (k b) R
def runK{α:Type}(lt:Nat->Nat->Bool):KasT α->α|.ret a=>a|.ask i j k=>runK lt (k (lt i j))
section
variable{α β:Type}
theorem Good.bind{R f}:∀{t:KasT α},Good n t R->(∀a,R a->Good n (f a) R')->Good n (t.bind f) R'|.ret a,h,k=>k a h|.ask i j g,h,k=>⟨h.1,h.2.1,h.2.2.1,λb=>Good.bind (h.2.2.2 b) k⟩
theorem Good.mono{R}:∀{t:KasT α},Good n t R->(∀a,R a->R' a)->Good n t R'|.ret a,h,k=>k a h|.ask i j g,h,k=>⟨h.1,h.2.1,h.2.2.1,λb=>Good.mono (h.2.2.2 b) k⟩
theorem Good.run{R}(lt:Nat->Nat->Bool):∀{t:KasT α},Good n t R->R (runK lt t)|.ret a,h=>h|.ask i j g,h=>Good.run (t:=g (lt i j)) lt (h.2.2.2 _)
theorem Good.wp{R G}(hc:∀i j,i<n->j<n->i≠j->∀C:Bool->W2->Prop,C (lt i j) s->cmp i j C s):∀{t:KasT α},Good n t R->G (runK lt t) s->t.kasWp cmp G s|.ret a,h,g=>g|.ask i j k,h,g=>hc i j h.1 h.2.1 h.2.2.1 _ (Good.wp hc (h.2.2.2 _) g)
end
section
variable{p:Array Nat}
abbrev cj(n:Nat)(p:Array Nat):Prop:=p.Perm (Jt (WI n))
theorem cj.size(h:cj n p):p.size=n:=by rw[Array.Perm.size_eq h];simp
theorem cj.list(h:cj n p):p.toList.Perm (WI n):=by simpa using Array.perm_iff_toList_perm.mp h
theorem cj.lt(h:cj n p)(h0:0<n)(i:Nat):p.getD i 0<n:=by
 by_cases hi:i<p.size
 .have:p[i]∈p.toList:=by simp
  have:=(h.list.mem_iff).mp this;simpa[Array.getD,hi]using this
 .simpa[Array.getD,hi]using h0
theorem cj.ne(h:cj n p)(hi:i<n)(hj:j<n)(e:i≠j):p.getD i 0≠p.getD j 0:=by
 have hs:=h.size;have nd:p.toList.Nodup:=h.list.nodup_iff.mpr List.nodup_range;have eG:i<p.size:=by lia
 have iB:j<p.size:=by lia
 intro z;have e1:p.getD i 0=p.toList[i]'(~~~eG):=#v[Array.getD,eG];have e2:p.getD j 0=p.toList[j]'(~~~iB):=#v[Array.getD,iB];rw[e1,e2]at z;rcases Nat.lt_or_gt_of_ne e with q|q;.exact(List.pairwise_iff_getElem.mp nd) i j (~~~eG) (~~~iB) q z
 .exact(List.pairwise_iff_getElem.mp nd) j i (~~~iB) (~~~eG) q z.symm
theorem cj.rev(h:cj n p)(i j:Nat):cj n (Je p i j):=(mirror_perm p i j _).trans h
theorem cj.F0(h:cj n p)(i j:Nat):cj n (bubble p i j):=(bubble_perm p i j).trans h
theorem yO(h:cj n p):∀(f m:Nat),1<=m->m+f<=n->Good n (JV p f m) λr=>m<=r/\r<=n|0,m,h1,h2=>⟨Wc _,h2⟩|f+1,m,h1,h2=>⟨h.lt Y' _,h.lt Y' _,h.ne Y' Y' Y',λb=>by
 cases b;.exact(yO h f (m+1) Y' Y').mono λr z=>⟨Y',z.2⟩
 .exact⟨Wc _,Y'⟩⟩
theorem ve:∀(f:Nat){p:Array Nat}(h:cj n p)(m q:Nat),1<=m->m+f<=n->Good n (Jh f p m q) λr=>cj n r.1/\1<=r.2.1/\r.2.1<=n|0,p,h,m,q,h1,h2=>⟨h,h1,h2⟩|f+1,p,h,m,q,h1,h2=>⟨h.lt Y' _,h.lt Y' _,h.ne Y' Y' Y',λb=>by
  cases b
  .refine⟨h.lt Y' _,h.lt Y' _,h.ne Y' Y' Y',λd=>?_⟩;cases d;.exact ve f h (m+1) (q+1) Y' Y'
   .exact⟨h,h1,show m<=n by lia⟩
  .show Good n (if q>0 then Jh f (Je p (m-(q+1)) m) (m+1) 0 else Jh f p (m+1) 0) _;split;.exact ve f (h.rev _ _) (m+1) 0 Y' Y'
   .exact ve f h (m+1) 0 Y' Y'⟩
theorem F3{m}(h:cj n p)(h1:1<=m)(h2:m<=n):Good n (kas_tail3 m n p) λr=>cj n r.2/\1<=r.1/\r.1<=n:=(yO (h.rev 0 m) (n-m) m h1 Y').bind λr z=>⟨h.rev _ _,by have:=z.1;lia,z.2⟩
theorem F4{m}(h:cj n p)(h1:1<=m)(h2:m+1<=n):Good n (J9 m n p) λr=>cj n r.2/\1<=r.1/\r.1<=n:=(ve (n-(m+1)) h (m+1) 0 Y' Y').bind λr z=>by
 show Good n (if r.2.2>0 then _ else _) _;split;.exact F3 (z.1.rev _ _) z.2.1 z.2.2
 .exact F3 z.1 z.2.1 z.2.2
set_option tactic.hygienic true in theorem Vv(h:cj n p)(h2:2<=n):Good n (U9 n p) λr=>cj n r.2/\1<=r.1/\r.1<=n:=(yO h (n-1) 1 Y' Y').bind λm z=>by
  show Good n (if(m==n)=true then _ else _) _;split;.exact⟨h,z.1,z.2⟩
  .rename_i hm;have vc:m≠n:=λe=>hm #v[e];split
   .refine⟨h.lt Y' _,h.lt Y' _,h.ne Y' Y' Y',λc=>?_⟩;cases c;.exact F4 (h.rev _ _) z.1 Y'
    .exact⟨h,z.1,z.2⟩
   .exact F4 h z.1 Y'
theorem yP(h:cj n p)(hk:k<n):∀(f l r:Nat),r<=k->Good n (QS p k f l r) λj=>True
 |0,l,r,_=>trivial|f+1,l,r,hr=>by
  show Good n (if l≥r then _ else _) _;split;.trivial
  .refine⟨h.lt Y' _,h.lt Y' _,h.ne Y' Y' Y',λc=>?_⟩;cases c;.exact yP h hk f _ _ hr
   .exact yP h hk f _ _ Y'
theorem F5:∀(f:Nat){p:Array Nat}(h:cj n p)(k:Nat),k+f<=n->Good n (kas_bin f p k) λr=>cj n r|0,p,h,k,_=>h|f+1,p,h,k,hk=>(yP h Y' k 0 k (Wc _)).bind λl j=>F5 f (h.F0 _ _) (k+1) Y'
theorem F6(h2:2<=n):Good n (kas_sort n) λr=>cj n r:=(Vv (.refl _) h2).bind λr z=>by
 show Good n (if r.1<n then _ else _) _;split;.exact F5 _ z.1 _ Y'
 .exact z.1
end
theorem Vals.at2(r:Vals vs its)(e1:vs[i]?=some v)(e2:its[i]?=some u):RelV v u:=by obtain⟨u',e,q⟩:=Vals.get r e1;rw[e2]at e;cases e;exact q
theorem Vals.pick(r:Vals vs its):∀is:List Nat,(∀i∈is,i<vs.length)->Vals (is.map λi=>vs.getD i .ax) (is.map λi=>its.getD i Value.none)|[],_=>.nil|i::is,h=>by refine .cons ?_ (Vals.pick r is λj hj=>h j (Wi _ hj));have hi:=h i Wl;have hl:=r.length;have e1:vs.getD i .ax=vs[i]:=#v[hi];have e2:its.getD i Value.none=its[i]' Y':=#v[show i<its.length by lia];show RelV (vs.getD i .ax) (its.getD i Value.none);rw[e1,e2];exact Vals.at2 (i:=i) r (W7 hi) (W7 Y')
end
theorem aH.pick(r:aH H O vs ds):∀is:List Nat,(∀i∈is,i<vs.length)->aH H O (is.map λi=>vs.getD i .ax) (is.map λi=>ds.getD i .ax)
 |[],_=>.nil|i::is,h=>by
  have hi:=h i Wl;have hl:=r.1;refine .cons (r.2 i _ _ ?_ ?_) (aH.pick r is λj hj=>h j (Wi _ hj));.simp[hi]
  .simp[show i<ds.length by lia]
section
open PySem.W
section
variable{vs:List Value}
theorem F7{P}(ho:s.heap.get? a=some (WM "list" vs.toArray n))(h1:vs.length<2)(h:P (.done (.ret .none)) {s with heap:=sortedHeap s.heap a vs vs.toArray}):W8 (model prog w) A (Builtin.«list.sort» ⟨[.ref a],[]⟩) P E s:=by
 obtain⟨e1,ho1⟩:∃e1,(s.heap.update a (Obj.mapSeq λj=>(#[]:Array Value))).get? a=some (WM "list" #[] e1):=⟨_,get?_update_seq ho λj=>#[]⟩;rw[list_sort_plain];refine W0 (listItems_at ho rfl (W0 (listUpdate_at ho rfl (W0 (seqEpoch_at ho1 rfl (W0 (wpAny_newTuple (W0 (wpAny_newList (WC ?_) (Q5 _))) (by show vs.length<=_;rw[WZ];lia))))) (by rw[Wr,WZ];lia) (Q5 _))));show W8 (model prog w) A _ P E {s with heap:=((s.heap.update a (Obj.mapSeq λj=>(#[]:Array Value))).push (WM "tuple" vs.toArray 0)).push (WM "list" #[] 0)};have h6:(((s.heap.update a (Obj.mapSeq λj=>(#[]:Array Value))).push (WM "tuple" vs.toArray 0)).push (WM "list" #[] 0)).get? a=some (WM "list" #[] e1):=W5 _ (W5 _ ho1);dsimp only;have qU:vs.toArray.size<2:=%[Wr|h1];rw[if_pos qU,if_pos qU];refine W0 (W4 (W0 (W4 ?_)));dsimp only;have q1:(arrOf (SortSt.mk' general' (vs.toArray.zip vs.toArray) #[] 7 none)).map (·.2)=vs.toArray:=by show(vs.toArray.zip vs.toArray).map (·.2)=vs.toArray;have:List.map (λx:Value×Value=>x.2) (vs.zip vs)=vs:=List.map_snd_zip (Wc _);simpa using this
 rw[q1];refine W0 (seqEpoch_at h6 rfl (W0 (listUpdate_at h6 rfl ?_ (Q5 _) (by rw[Wr,WZ];lia))));simp only[bne_self_eq_false,Q8,if_false];exact W4 h
theorem Vw(hl:s.heap.IsList l vs.toArray)(h1:vs.length<2)(h:Q (.ref (s.heap.objs.size+1)) {s with heap:=sortedAll s.heap vs vs.toArray}):W8 (model prog w) A (call (.builtin "sorted") [.ref l]) Q E s:=by
 refine Calls.call_function_entry kind_sorted plain_sorted entry_sorted (args_sorted1 _) ?_;unfold Builtin.«sorted»;refine W0 (m:=checkCount "sorted" 1 1 _) (W4 (W0 (collect_list hl (W0 (wpAny_newList ?_ (by rw[WZ];lia))) (by rw[WZ];lia))));have hz:((s.heap.push (WM "list" #[] 0)).update s.heap.objs.size (Obj.mapSeq (.++vs.toArray))).objs.size=s.heap.objs.size+1:=by rw[Heap.size_update,size_push']
 have gW:(((s.heap.push (WM "list" #[] 0)).update s.heap.objs.size (Obj.mapSeq (.++vs.toArray))).push (WM "list" vs.toArray 0)).get? (s.heap.objs.size+1)=some (WM "list" vs.toArray 0):=by rw[<-hz];exact Wf _ rfl
 show W8 _ _ _ _ _ {s with heap:=((s.heap.push (WM "list" #[] 0)).update s.heap.objs.size (Obj.mapSeq (.++vs.toArray))).push (WM "list" vs.toArray 0)};rw[hz];refine W0 (WC (WS slot_list_sort ⟨_,gW,rfl⟩ entry_list_sort (F7 (s:={s with heap:=((s.heap.push (WM "list" #[] 0)).update s.heap.objs.size (Obj.mapSeq (.++vs.toArray))).push (WM "list" vs.toArray 0)}) gW h1 ⟨_,rfl,?_⟩) (args_list_sort _)));exact W4 ⟨_,rfl,h⟩
end
theorem Vx:eF X (.builtin "sorted") λxs H Q=>∃(a:Addr)(vs:List V),xs=[.ref a]/\cP X.K H a vs/\vs.length<2/\∀p,H p=none->Q (.ref p) (upd H p (.lst vs)):=by intro pins s Y H xs us Q I r h;obtain⟨a,vs,rfl,hq,h1,q⟩:=h;obtain⟨u,rfl,ru⟩:=f9 r;cases ru;obtain⟨its,r',p,_⟩:=I.list hq;have hl:=r'.length;refine Vw p.isList Y' ?_;obtain⟨e,he⟩:=sortedAll_at s.heap its its.toArray;have I1:Inv X pins Y (upd H (s.heap.objs.size+1) (.lst vs)) {s with heap:=sortedAll s.heap its its.toArray}:=I.laid (t':=s.toks) (λb o z=>sortedAll_old z) (Nat.le_succ _) (show bw X.prog X.w _ _ _ (.lst vs)from⟨by rw[WZ];lia,its,e,r',he⟩);exact⟨.ref _,_,I1,rfl,q _ (I.ay.fresh (Nat.le_succ _))⟩
section
variable{lt:Nat->Nat->Bool}{r:Nat->Nat}{α β:Type}
structure Lt(lt:Nat->Nat->Bool)(r:Nat->Nat)(n:Nat):Prop where lt:∀i j,i<n->j<n->lt i j=decide (r i<r j)inj:∀i j,i<n->j<n->i≠j->r i≠r j
end
end
abbrev F8(K:W3):V->Hp->VK->Prop:=λv H Q=>∃(a:Addr)(vs:List V),v=.ref a/\cP K H a vs/\vs.length<2/\∀p,H p=none->Q (.ref p) (upd H p (.lst vs))
section
variable{α β:Type}
@[simp]theorem jv(a:α)(Z:Dl)(f:α->Dl->Rs β):(Rs.ok a Z).bind f=f a Z:=id rfl
@[simp]theorem zdG(f:α->Dl->Rs β):(Rs.stuck:Rs α).bind f=.stuck:=id rfl
@[simp]theorem qaC(d:D):(S.pure d).d=d:=id rfl
@[simp]theorem qaD(d:D):(S.own d).d=d:=id rfl
end
section
variable(Z:Dl)(i:Nat)(d e:D)(f g:DE)(fb:BE)(t u:DT)(p:D->D->Option S)
@[simp]theorem qaE:eD d Z=.ok (.pure d) Z:=id rfl
@[simp]theorem qaF:ae f Z=(f Z).bind λr S'=>.ok r.d S':=id rfl
@[simp]theorem qaG:ar p f fb Z=(f Z).bind λx W'=>(fb W').bind λy SZ=>p2 p x.d y SZ:=id rfl
@[simp]theorem qaH:xS t u Z=(t Z).bind λb W'=>if b then u W' else .ok false W':=id rfl
@[simp]theorem qaI:dz t u Z=(t Z).bind λb W'=>if b then .ok true W' else u W':=id rfl
@[simp]theorem qaJ:cU t Z=(t Z).bind λb W'=>.ok (!b) W':=id rfl
@[simp]theorem qaK:P5 t f g Z=(t Z).bind λb W'=>if b then f W' else g W':=id rfl
@[simp]theorem qaL:bj Z=.ok .next Z:=id rfl
@[simp]theorem qaM:cH Z=.ok true Z:=id rfl
@[simp]theorem qaN:jU f Z=(f Z).bind λj W'=>.ok .next W':=id rfl
@[simp]theorem qaO:aM f Z=(f Z).bind λr W'=>.ok (.ret r) W':=id rfl
@[simp]theorem qaP(a b:DS):bf t a b Z=(t Z).bind λx W'=>if x then a W' else b W':=id rfl
@[simp]theorem qaQ(it:DI)(gg:DG)(b:DS):bC it gg b Z=(it Z).bind λds W'=>forL gg b ds W':=id rfl
@[simp]theorem qaR(a:DA):a7 a Z=(a Z).bind λds S'=>.ok (.pure (.tup ds)) S':=id rfl
@[simp]theorem qaS(a:DA):dq a Z=(a Z).bind λds S'=>.ok (.own (.lst ds)) S':=id rfl
@[simp]theorem qaT(ds:List D):uM ds Z=.ok (.own (.lst ds)) Z:=id rfl
@[simp]theorem qaU:aN Z=.ok [] Z:=id rfl
@[simp]theorem qaV(a:DA):aw f a Z=(f Z).bind λx W'=>(a W').bind λxs SZ=>.ok (x.d::xs) SZ:=id rfl
@[simp]theorem qaW(q:D->Option S):aF q fb Z=(fb Z).bind λx W'=>p1 q x W':=id rfl
@[simp]theorem qaX:uw f g Z=(f Z).bind λx W'=>(g W').bind λy SZ=>p2 xY x.d y.d SZ:=id rfl
@[simp]theorem qaY(fl fh:l_):gN f fl fh Z=(f Z).bind λx W'=>(fl W').bind λl SZ=>(fh SZ).bind λh SC=>p1 (dG l h) x.d SC:=id rfl
@[simp]theorem qaZ:dF Z=.ok none Z:=id rfl
@[simp]theorem qa0(cs:List Nat)(it:DI)(gg:DG)(el:DE):cb cs it gg t el Z=(it Z).bind λds W'=>if cs.any (dj W')then .stuck else(dU cs gg t el ds (bp cs W') []).bind λacc SZ=>.ok (.own (.lst acc)) (di cs W' SZ):=id rfl
@[simp]theorem qa1(np:List Nat)(r:S):ak np i r Z=if np.contains i then none else some (Z.set i (some r)):=id rfl
@[simp]theorem zgI(gg:DG)(b:DS):forL gg b [] Z=.ok .next Z:=id rfl
end
section
variable(Z:Dl)(i:Nat)(d e:D)(f g:DE)(fb:BE)(p:D->D->Option S)(s:S)
@[simp]theorem qa2(x y:D):p2 p x y Z=match p x y with|some s=>.ok s Z|none=>.stuck:=id rfl
@[simp]theorem qa3(q:D->Option S)(x:D):p1 q x Z=match q x with|some s=>.ok s Z|none=>.stuck:=id rfl
@[simp]theorem qa4(a b:DS):aq a b Z=(a Z).bind λfl W'=>match fl with|.next=>b W'|.ret r=>.ok (.ret r) W'|.brk=>.ok .brk W'|.cont=>.ok .cont W':=id rfl
@[simp]theorem zgZ{α β:Type}(c:Prop)[Decidable c](x y:Rs α)(k:α->Dl->Rs β):(if c then x else y).bind k=if c then x.bind k else y.bind k:=by split<;>rfl
end
theorem jw:Wb=16777216:=rfl
theorem k6(xs:List α)(i:Nat):fB xs (i:Int)=xs[i]?:=by
 unfold fB fA;by_cases h:i<xs.length;.rw[if_pos Y',if_pos Y'];simp
 .rw[if_pos Y',if_neg Y'];simp[WQ (Nat.le_of_not_lt h)]
theorem yQ(xs:List α):fB xs 2=xs[2]?:=k6 xs 2
theorem ph(xs:List α):fB xs 0=xs[0]?:=k6 xs 0
theorem yR(xs:List α):fB xs 1=xs[1]?:=k6 xs 1
theorem yS{el}(I:Dl->Prop)(R:D->D->Prop):∀(ds:List D)(Z:Dl)(acc:List D),I Z->acc.length+ds.length<=Wb->(∀d∈ds,∀Z,I Z->∃W' SZ x SC,g (.pure d) Z=some W'/\t W'=.ok true SZ/\el SZ=.ok x SC/\I (bp cs SC)/\R d x.d)->∃xs S',dU cs g t el ds Z acc=.ok (acc++xs) S'/\I S'/\xs.length=ds.length/\∀(i:Nat)d x,ds[i]?=some d->xs[i]?=some x->R d x
 |[],Z,acc,h,_,_=>⟨[],Z,#v[dU],h,rfl,λi d x e=>by simp at e⟩|d::r,Z,acc,h,hl,hs=>by
  obtain⟨W',SZ,x,SC,e1,e2,e3,h3,hr⟩:=hs d Wl Z h;have hV:acc.length<Wb:=by simp at hl;lia
  obtain⟨xs,S',e4,h4,hn,hf⟩:=yS (g:=g) (t:=t) (el:=el) I R r (bp cs SC) (acc++[x.d]) h3 Re λd hd=>hs d (Wi _ hd);refine⟨x.d::xs,S',?_,h4,#v[hn],λi d' x' f1 f2=>?_⟩;.unfold dU;simp_all
  .cases i with|zero=>simp at f1 f2;subst f1 f2;exact hr|succ i=>exact hf i d' x' (~~~f1) (~~~f2)
theorem vf(I:Nat->Dl->Prop):∀(ds:List D)(n:Nat)(Z:Dl),I n Z->(∀(i:Nat)d Z,ds[i]?=some d->I (n+i) Z->∃W' SZ,g (.pure d) Z=some W'/\b W'=.ok .next SZ/\I (n+i+1) SZ)->∃S',forL g b ds Z=.ok .next S'/\I (n+ds.length) S'
 |[],n,Z,h,_=>⟨Z,rfl,h⟩|d::r,n,Z,h,hs=>by
  obtain⟨W',SZ,e1,e2,h2⟩:=hs 0 d Z rfl h;obtain⟨S',e3,h3⟩:=vf (g:=g) (b:=b) I r (n+1) SZ h2 λi d' S' e hi=>by have:=hs (i+1) d' S' (~~~e) %[show n+(i+1)=n+1+i by lia|hi];rw[show n+(i+1)+1=n+1+i+1 by lia]at this;exact this
  refine⟨S',?_,%[WT,show n+(r.length+1)=n+1+r.length by lia|h3]⟩;unfold forL;rw[e1];simp only[e2,jv,e3]
theorem yT(xs:List Tx):dh (xs.map .str)=some xs:=by induction xs with|nil=>rfl|cons x r ih=>simp[dh,ih]
theorem vg:∀ts:List Tx,jo [] ts=ts.flatten|[]=>rfl|[x]=>#v[jo]|x::y::r=>by rw[jo,vg (y::r)];simp
theorem Vy(xs:List Nat):ij (xs.map λn=>[n])=xs.length:=by unfold ij;induction xs with|nil=>rfl|cons x r ih=>simp at ih⊢;lia
theorem Vz(xs:List Nat):(xs.map λn=>[n]).flatten=xs:=by induction xs with|nil=>rfl|cons x r ih=>simp[ih]
theorem F9(xs:List Nat)(h:xs.length<=16777216):eM [] (.lst (xs.map λn=>.str [n]))=some (.pure (.str xs)):=by
 have e:(xs.map λn=>D.str [n])=(xs.map λn=>[n]).map D.str:=by simp
 unfold eM;simp only[e,yT,Vy,vg,Vz];rw[if_pos (~~~h)]
theorem VA(bs:List Bool):gY (bs.map .bl)=some bs:=by induction bs with|nil=>rfl|cons x r ih=>simp[gY,ih]
theorem vh(r:Tx)(c:Nat)(h:c<r.length)(hl:r.length<=64):ag (.str r) (.int c)=some (.pure (.str [r.getD c 0])):=by unfold ag;have:Wb=16777216:=rfl;simp only;rw[if_pos Y',k6];simp[h]
theorem F_(r:Tx)(hl:r.length<=64):bI (.str r)=some (.pure (.int r.length)):=by unfold bI;have:Wb=16777216:=rfl;simp only;rw[if_pos Y']
abbrev bu(fl:List Tx):D:=.tup (fl.map .str)
def turn(w:Nat)(fl:List Tx):List Tx:=(WI w).map λc=>fl.map λr=>r.getD c 0
def jJ(r:S)(W':Dl):Rs (List D):=match r with|.pure (.int j)=>if oO j then .ok (dA 0 j.toNat) W' else .stuck|_=>.stuck
@[simp]theorem VB(f:DE)(Z:Dl):fP f Z=(f Z).bind λr W'=>jJ r W':=id rfl
theorem VC(w:Nat)(hw:w<=1000000):oO (w:Int)=true:=by
 have h1:-(4611686018427387904:Int)<=(w:Int):=by lia
 have h2:(w:Int)<4611686018427387904:=by lia
 unfold oO;rw[Wq];exact⟨decide_eq_true h1,decide_eq_true h2⟩
theorem VD(j:Int)(hs:oO j=true)(Z:Dl):jJ (.pure (.int j)) Z=.ok (dA 0 j.toNat) Z:=by unfold jJ;grind
theorem vi(w:Nat)(hw:w<=1000000)(Z:Dl):jJ (.pure (.int w)) Z=.ok (dA 0 w) Z:=by have:=VD (w:Int) (VC w hw) Z;rwa[QF]at this
theorem VE(h:(dA 0 n)[i]?=some d):i<n/\d=.int (i:Int):=by
 unfold dA at h;rw[Wj]at h;by_cases hi:i<n;.rw[List.getElem?_range hi]at h;simp at h;exact⟨hi,h.symm⟩
 .rw[WQ (~~~hi)]at h;cases h
@[simp]theorem zeX(lo:Int)(n:Nat):(dA lo n).length=n:=#v[dA]
theorem VF(a b:Nat):([a]:Tx)<[b]↔a<b:=by
 constructor;.intro h;cases h<;>simp_all
 .intro h;exact List.Lex.rel h
theorem yU{P:Nat->Prop}:∀{xs:List D},(∀x∈xs,∃n,P n/\x=.str [n])->∃row:List Nat,xs=row.map (λn=>.str [n])/\∀n∈row,P n|[],_=>⟨[],rfl,U'⟩|x::r,h=>by obtain⟨n,hn,rfl⟩:=h x Wl;obtain⟨row,rfl,hr⟩:=yU (xs:=r) λy hy=>h y (Wi _ hy);exact⟨n::row,rfl,by simpa using⟨hn,hr⟩⟩
theorem Ga{R:D->D->Prop}{xs:List D}{Q:D->Prop}(hn:xs.length=ds.length)(hf:∀(i:Nat)d x,ds[i]?=some d->xs[i]?=some x->R d x)(hq:∀d x,d∈ds->R d x->Q x):∀x∈xs,Q x:=λx hx=>by obtain⟨i,hi⟩:=List.getElem?_of_mem hx;have h1:=(W6.mp hi).1;have h2:ds[i]?=some (ds[i]' Y'):=#v[show i<ds.length by lia];exact hq _ x (QK _) (hf i _ x h2 hi)
abbrev bG(b:Nat×List Tx):D:=.tup [.str [b.1],bu b.2]
abbrev aJ(h w:Nat)(bs:List (Nat×List Tx)):D:=.tup [.int h,.int w,.tup (bs.map bG)]
structure cC(h w:Nat)(bs:List (Nat×List Tx)):Prop where
 h0:0<h
 h1:h<=4w0:0<w
 w1:w<=4hw:2<h+w
 n0:0<bs.length
 n1:bs.length<=26up:(bs.map (·.1)).Pairwise (.<.)qV:∀b∈bs,97<=b.1/\b.1<=122bE:∀b∈bs,b.2.length=h/\∀r∈b.2,r.length=w/\∀n∈r,n∈bs.map (·.1)
theorem pj{el cs A}(f F:A->D)(Z:Dl):∀(as:List A)(acc:List D),acc.length+as.length<=Wb->(∀a∈as,∃W' SZ x SC,g (.pure (f a)) Z=some W'/\t W'=.ok true SZ/\el SZ=.ok x SC/\bp cs SC=Z/\x.d=F a)->dU cs g t el (as.map f) Z acc=.ok (acc++as.map F) Z
 |[],acc,_,_=>#v[dU]|a::r,acc,hl,hs=>by
  obtain⟨W',SZ,x,SC,e1,e2,e3,e4,e5⟩:=hs a Wl;have hV:acc.length<Wb:=by simp at hl;lia
  have ih:=pj (cs:=cs) (g:=g) (t:=t) (el:=el) f F Z r (acc++[x.d]) Re λa ha=>hs a (Wi _ ha);rw[Wm];unfold dU;simp_all
abbrev pk(h:Heap)(z TI TO a:Addr)(f:Bool):Prop:=h.get? z=some {cls:=.type "zip",dict:=none,data:=.fields #[WW a,.bool f,.bool false,.ref TI,.ref TO],slots:=#[]}
theorem VG{Q}(ho:s.heap.get? a=some o)(h:Q (some o) s):W8 (model prog w) A (loadIfAlive a) Q E s:=by have h':Q (s.heap.get? a) s:=%[ho|h];exactλj j j=>h'
theorem Gb{TI TO f Q}(hz:pk s.heap z TI TO a f)(ha:s.heap.get? a=some oa)(h:∀h',pk h' z TI TO a true->J4 z s.heap h'->Q false {s with heap:=h'}):W8 (model prog w) A (WP (.ref z)) Q E s:=by unfold WP;refine W0 (WK hz rfl (x:=WW a) rfl ?_);show W8 _ _ (loadIfAlive (a:Int).toNat>>=_) _ _ _;rw[QF];refine W0 (VG ha ?_);simp only[Option.isNone_some,Q8,if_false];refine W0 (WK hz rfl (x:=.bool f) rfl ?_);cases f with|true=>rw[if_neg (show¬(Value.bool true !=Value.bool true)=true from WN)];exact W4 (h s.heap hz (Heap.SameBut.refl _ _))|false=>rw[if_pos (show(Value.bool false !=Value.bool true)=true from rfl)];exact W0 (QB hz U' λh₃ VH VI=>W4 (h h₃ VH VI))
theorem VJ{z TI TO:Addr}{f:Bool}(D1:Draws prog w A i1 f1 n1 P1 S1)(D2:Draws prog w A i2 f2 n2 P2 S2)(C:ZA z TI TO i1 i2 f1 f2)(hz:pk s.heap z TI TO a f)(ha:s.heap.get? a=some oa)(hI:IsPair s.heap TI (.ref i1) (.ref i2))(g1:S1 i s.heap)(g2:S2 i s.heap)(l1:i<n1)(l2:i<n2)(q:∀x y h' tk,P1 i x->P2 i y->pk h' z TI TO a true->S1 (i+1) h'->S2 (i+1) h'->IsPair h' s.heap.objs.size x y->h'.objs.size=s.heap.objs.size+1->(∀c o,c≠z->c≠i1->c≠i2->s.heap.get? c=some o->h'.get? c=some o)->Q (.ref s.heap.objs.size) {s with heap:=h',toks:=tk}):W8 (model prog w) A (Builtin.«zip.__next__» ⟨[.ref z],[]⟩) (λfin s'=>∃v,fin=.done (.ret v)/\Q v s') E s:=by
 have i1z:i1≠z:=λe=>C.z1 (e▸C.m1);have i2z:i2≠z:=λe=>C.z2 (e▸C.m2);have i12:i1≠i2:=λe=>C.k1 (e▸C.m2);show W8 _ _ (field (.ref z) 2>>=_) _ _ _;refine W0 (WK hz rfl (x:=.bool false) rfl ?_);show W8 _ _ (field (.ref z) 3>>=_) _ _ _;refine W0 (WK hz rfl (x:=.ref TI) rfl (W0 (Qn hI rfl ?_)));show W8 _ _ (WP (.ref z)>>=_) _ _ _;refine W0 (Gb hz ha λh1 gD s1=>?_);simp only[Q8,if_false];refine W0 ?_;simp only[List.forIn_toArray,JE,JJ];refine W0 (W0 (WC ?_));show W8 _ _ (WJ (.ref i1)>>=_) _ _ _;have e1:S1 i h1:=D1.frame _ _ _ g1 λc hc o e=>s1.extBut _ _ (λx=>C.z1 (x▸hc)) e;refine W0 (D1.item i _ _ _ l1 e1 λx h2 yV p1 e2 s2=>W4 ?_);refine W4 (W0 (W0 (WC ?_)));show W8 _ _ (WJ (.ref i2)>>=_) _ _ _;have e3:S2 i h2:=D2.frame _ _ _ g2 λc hc o e=>s2.extBut _ _ (λx=>C.k1 (x▸hc)) (s1.extBut _ _ (λx=>C.z2 (x▸hc)) e);refine W0 (D2.item i _ _ _ l2 e3 λy h4 VL p2 e4 s4=>W4 ?_);refine W4 (W4 (W0 (wpAny_newTuple ?_ (by show 2<=Wb;decide))));have hsz:h4.objs.size=s.heap.objs.size:=by rw[s4.1,s2.1,s1.1]
 have vj:pk h4 z TI TO a true:=s4.extBut _ _ i2z.symm (s2.extBut _ _ i1z.symm gD);have r1:S1 (i+1) h4:=D1.frame _ _ _ e2 λc hc o e=>s4.extBut _ _ (λx=>C.k2 (x▸hc)) e;refine W4 ⟨_,rfl,?_⟩;show Q (.ref h4.objs.size) _;rw[hsz];refine q x y _ _ p1 p2 (W5 _ vj) (D1.frame _ _ _ r1 λc j o e=>W5 _ e) (D2.frame _ _ _ e4 λc j o e=>W5 _ e) ?_ (by rw[QV,hsz]) λc o c1 c3 c4 e=>W5 _ (s4.extBut _ _ c4 (s2.extBut _ _ c3 (s1.extBut _ _ c1 e)));rw[<-hsz];exact Wf _ rfl
theorem VM{TI TO f Q}(D1:Draws prog w A i1 f1 n1 P1 S1)(D2:Draws prog w A i2 f2 n2 P2 S2)(C:ZA z TI TO i1 i2 f1 f2)(hz:pk s.heap z TI TO a f)(ha:s.heap.get? a=some oa)(hI:IsPair s.heap TI (.ref i1) (.ref i2))(g1:S1 i s.heap)(g2:S2 i s.heap)(l:i=n1\/i<n1/\i=n2)(q:∀h' tk e,(∀c o,c≠z->c≠i1->c≠i2->s.heap.get? c=some o->h'.get? c=some o)->(∃o,h'.get? e=some o/\o.cls=.type "StopIteration")->E (.ref e) {s with heap:=h',toks:=tk}):W8 (model prog w) A (Builtin.«zip.__next__» ⟨[.ref z],[]⟩) Q E s:=by
 have i1z:i1≠z:=λe=>C.z1 (e▸C.m1);have i2z:i2≠z:=λe=>C.z2 (e▸C.m2);show W8 _ _ (field (.ref z) 2>>=_) _ _ _;refine W0 (WK hz rfl (x:=.bool false) rfl ?_);show W8 _ _ (field (.ref z) 3>>=_) _ _ _;refine W0 (WK hz rfl (x:=.ref TI) rfl (W0 (Qn hI rfl ?_)));show W8 _ _ (WP (.ref z)>>=_) _ _ _;refine W0 (Gb hz ha λh1 gD s1=>?_);simp only[Q8,if_false];refine W0 ?_;simp only[List.forIn_toArray,JE,JJ];refine W0 (W0 (WC ?_));show W8 _ _ (WJ (.ref i1)>>=_) _ _ _;have e1:S1 i h1:=D1.frame _ _ _ g1 λc hc o e=>s1.extBut _ _ (λx=>C.z1 (x▸hc)) e;rcases l with l|⟨l,l'⟩;.subst l;refine W0 (D1.done _ _ _ e1 λh2 e s2⟨oe,he,ce⟩=>?_);exact q h2 _ e (λc o c1 c3 j x=>s2 _ _ c3 (s1.extBut _ _ c1 x)) ⟨oe,he,ce⟩
 .refine W0 (D1.item i _ _ _ l e1 λx h2 yV p1 e2 s2=>W4 ?_);refine W4 (W0 (W0 (WC ?_)));show W8 _ _ (WJ (.ref i2)>>=_) _ _ _;have e3:S2 i h2:=D2.frame _ _ _ g2 λc hc o e=>s2.extBut _ _ (λx=>C.k1 (x▸hc)) (s1.extBut _ _ (λx=>C.z2 (x▸hc)) e);subst l';refine W0 (D2.done _ _ _ e3 λh4 e s4⟨oe,he,ce⟩=>?_);exact q h4 _ e (λc o c1 c3 c4 x=>s4 _ _ c4 (s2.extBut _ _ c3 (s1.extBut _ _ c1 x))) ⟨oe,he,ce⟩
theorem VN:typeLookup (.type "zip") "__len__"=pure none:=by rw[typeLookup_type,JL];kernel_rfl
theorem VO:typeLookup (.type "zip") "__length_hint__"=pure none:=by rw[typeLookup_type,JL];kernel_rfl
theorem Inv.adopt(I:Inv X pins Y H s)(hf:fz X pins H b)(new:bw X.prog X.w (upd H b o) s.heap b o):Inv X pins Y (upd H b o) s:=by
 obtain⟨hn,f1,f2,f3,f4,f5⟩:=hf;have ne:∀{c u},H c=some u->c≠b:=λe=>d_ e hn;refine I.step (g':=s.gens) (d':=s.drawn) (t':=s.toks) (h':=s.heap) (ch:=[b]) (λc hc=>?_) (λc u j j j e j=>e) (λc u j j j e j=>⟨u.slots,e⟩) (λc u hc j e=>?_) (λc u j e=>⟨u,e⟩) (λc xs e=>%[aO (ne e)|e]) (λc u xs e=>%[aO (ne e)|e]) (λc ps e=>⟨#[],by rw[aO (ne e),e];simp⟩) (λm h=>h) (λc u e=>?_) I.bare;.have z:c=b:= ~~~hc;subst z;exact⟨f3,f1,f4,f5⟩
 .rw[aO λz=>hc #v[z]];exact e
 .by_cases hb:c=b;.subst hb;rw[bS]at e;cases e;exact new
  .rw[aO hb]at e;exact(I.ay c u e).fm (λj j j q=>q) (λj q=>%[aO (ne q)|q]) (λj j q=>%[aO (ne q)|q]) λj j j q=>%[aO (ne q)|q]
noncomputable def wk(F:D->Option D):Nat->List Tx->Tx->Option (List Tx×Nat)|0,_,_=>none|n+1,seen,here=>if here∈seen then some (seen,seen.idxOf here)else match F (.str here)with|some (.str y)=>wk F n (seen++[here]) y|_=>none
theorem VP(hT:TH ts H)(ok:Ok ⟨H,B,bq 0 ss vs,λk k=>False⟩ (bJ vs) (bP ss) H):FT ts ⟨H,B,bq 0 ss vs,g⟩:=⟨hT,λt ht⟨i,z⟩=>by obtain⟨j,d,_,h1,h2⟩:=iV z;obtain⟨a,e1,o,_⟩:=ok.own j d (eY.mpr h1);rw[fG.mpr h2]at e1;cases e1;have:=hT t ht;cases d with|lst ds=>obtain⟨_,e,_⟩:=o;rw[this]at e;cases e|bV ds=>obtain⟨_,e,_⟩:=o;rw[this]at e;cases e|dic ds=>obtain⟨_,_,e,_⟩:=o;rw[this]at e;cases e|_=>exact o.elim⟩
def Gd(ts:g7)(mg:Str->Option Value)(n:Nat)(G:DX):Sp:=λvs H Q E=>TH ts H/\qQ mg n G vs H Q E
def pw(P:Wn)(w:Ws)(K:W3)(mg:Str->Option Value)(base:Heap)(ts:g7)(k:Nat)(x:Str)(n:Nat)(G:DX):Prop:=∃(f:Addr)(fd:WR)(ps:List Str),mg x=some (.ref f)/\Qm K (.ref f)=true/\Binds K fd ps []/\gc P w K mg base (gP P w) k f fd ps (Gd ts mg n G)
theorem VQ{st:Stmt}{k:Nat}{fb:DS}{G:DX}(F:cZ K x qual st f fd)(S:dM N ps (aR st))(bZ:∀(c:Fc)(aE:Value)(A:Wp)(outer:List Env)(s:W2)(H:Hp)(E:XK),bM k (A.deeper (Qx qual (aR st) s.heap.objs.size f aE))->Np c np->FT ts c->(∃oc od kV doc pm an ct de,K.lookup f=some ⟨oc,od,.func (Q7 x qual (gv st) (cQ st) (aR st) .none kV doc pm an aE ct),de⟩)->j4 (cX (gP P w) P w K mg base N qual (aR st) f aE A outer s H E) (wD mg c)->eN (cX (gP P w) P w K mg base N qual (aR st) f aE A outer s H E) c (cQ st) fb)(hG:∀ss y,G ss=some y->cy np 0 ss=true/\iY fb N.length ss=some y):gc P w K mg base (gP P w) (k+1) f fd ps (Gd ts mg ps.length G):=by
 obtain⟨oc,od,kV,doc,pm,an,aE,ct,de,rfl,lk,da⟩:=F.ex;refine tM lk da S (λvs H Q E h=>?_) λA outer s H vs Q E hr h=>?_;.obtain⟨_,ss,B,hl,_⟩:=h;exact hl
 .obtain⟨hT,ss,B,hl,ok,y,hg,q⟩:=h;obtain⟨dB,hrun⟩:=hG ss _ hg;have iq:ss.length=vs.length:=by have:=ok.len;simpa using this
  let g:Xc->Dl->Prop:=λx S'=>∃aC,bF 0 ss S'=some aC/\y=.inr (x,aC);have kR:Np ⟨H,B,bq 0 ss vs,g⟩ np:=λp hp=>by obtain⟨j,d,e,h1,_⟩:=iV (i:=p.1) (a:=p.2) hp;rw[e];exact oR dB h1
  have cE:dm N vs=bJ vs++Ww (N.length-ss.length) none:=by rw[iq];rfl
  have eZ:Ok ⟨H,B,bq 0 ss vs,λu u=>False⟩ (dm N vs) (bx N.length ss) H:=%[cE|ok.ext _];have gJ:∀C dx SL H',wD mg ⟨H,B,bq 0 ss vs,g⟩ C dx SL H'->E (.ref C) dx H':=λC dx SL H' hh=>by obtain⟨z,S',v,hm,k',rv,hv,aC,ho,hy⟩:=hh;rw[hy]at q;have k1:Ok ⟨H,B,bq 0 ss vs,λu u=>False⟩ SL S' H':=⟨k'.keep,k'.bd,k'.cR,k'.len,k'.slot,k'.own,k'.inj,k'.pinned⟩;have a:aG ⟨H,B,bq 0 ss vs,λu u=>False⟩ (bJ vs++Ww (N.length-ss.length) none) (bP ss++Ww (N.length-ss.length) none) H SL S' H':=Ok.since rfl (by rw[cE]at eZ;exact eZ) (λa z=>Own.ext.mpr (FC z)) k1;exact q C dx v H' hm (gy rfl ok a ho).1 ((gy rfl ok a ho).2 v (.pure z.jQ) rv) hv
  refine⟨jq ⟨H,B,bq 0 ss vs,g⟩ fb,bZ ⟨H,B,bq 0 ss vs,g⟩ aE A outer s H E hr kR (VP hT ok) ⟨oc,od,kV,doc,pm,an,ct,de,lk⟩ (Fz gJ),bx N.length ss,⟨eZ.keep,eZ.bd,eZ.cR,eZ.len,eZ.slot,eZ.own,eZ.inj,eZ.pinned⟩,?_⟩;unfold iY at hrun;unfold dO;cases e:fb (bx N.length ss)with
 |stuck=>rw[e]at hrun;cases hrun|exc x N'=>rw[e]at hrun;simp only at hrun;cases eo:bF 0 ss N' with|none=>rw[eo]at hrun;cases hrun|some os=>rw[eo]at hrun;cases hrun;exact⟨os,eo,rfl⟩
 |ok fl S'=>rw[e]at hrun;show∀SL H',aG _ (dm N vs) (bx N.length ss) H SL S' H'->fin _ _ SL S' H' fl;intro SL H' a;rw[cE]at a;have k1:=a.ok;have a1:aG ⟨H,B,bq 0 ss vs,λu u=>False⟩ (bJ vs++Ww (N.length-ss.length) none) (bx N.length ss) H SL S' H':=⟨⟨k1.keep,k1.bd,k1.cR,k1.len,k1.slot,k1.own,k1.inj,k1.pinned⟩,a.keep,a.own,a.there⟩;simp only at hrun;cases fl with
 |brk=>cases hrun|cont=>cases hrun|next=>simp only[c_,Wu]at hrun;cases eo:bF 0 ss S' with|none=>rw[eo]at hrun;cases hrun|some os=>rw[eo]at hrun;cases hrun;obtain⟨l1,l2⟩:=gy rfl ok a1 eo;exact q .ax H' l1 .ax
 |ret r'=>simp only[c_,Wu]at hrun;cases eo:bF 0 ss S' with|none=>rw[eo]at hrun;cases hrun|some os=>rw[eo]at hrun;cases hrun;obtain⟨l1,l2⟩:=gy rfl ok a1 eo;exactλv rv=>q v H' l1 (l2 v _ (aS.FD (c:=⟨H,B,bq 0 ss vs,λu u=>False⟩) (g:=g) rv))
theorem Ge{st:Stmt}{k:Nat}{fb:DS}(F:cZ K x qual st f fd)(hm:mg x=some (.ref f))(hb:Binds K fd ps [])(S:dM N ps (aR st))(bZ:∀(c:Fc)(aE:Value)(A:Wp)(outer:List Env)(s:W2)(H:Hp)(E:XK),bM k (A.deeper (Qx qual (aR st) s.heap.objs.size f aE))->Np c np->FT ts c->(∃oc od kV doc pm an ct de,K.lookup f=some ⟨oc,od,.func (Q7 x qual (gv st) (cQ st) (aR st) .none kV doc pm an aE ct),de⟩)->eN (cX cY P w K mg base N qual (aR st) f aE A outer s H E).fM c (cQ st) fb)(hG:∀ss y,G ss=some y->cy np 0 ss=true/\dP fb N.length ss=some y):oZ P w K mg base ts (k+1) x ps.length G:=⟨f,fd,ps,hm,F.kp,hb,Fp F S bZ hG⟩
theorem VR{st:Stmt}{k:Nat}{fb:DS}{G:DX}(F:cZ K x qual st f fd)(hm:mg x=some (.ref f))(hb:Binds K fd ps [])(S:dM N ps (aR st))(bZ:∀(c:Fc)(aE:Value)(A:Wp)(outer:List Env)(s:W2)(H:Hp)(E:XK),bM k (A.deeper (Qx qual (aR st) s.heap.objs.size f aE))->Np c np->FT ts c->(∃oc od kV doc pm an ct de,K.lookup f=some ⟨oc,od,.func (Q7 x qual (gv st) (cQ st) (aR st) .none kV doc pm an aE ct),de⟩)->j4 (cX (gP P w) P w K mg base N qual (aR st) f aE A outer s H E) (wD mg c)->eN (cX (gP P w) P w K mg base N qual (aR st) f aE A outer s H E) c (cQ st) fb)(hG:∀ss y,G ss=some y->cy np 0 ss=true/\iY fb N.length ss=some y):pw P w K mg base ts (k+1) x ps.length G:=⟨f,fd,ps,hm,F.kp,hb,VQ F S bZ hG⟩
theorem VS{st:Stmt}(h1:∃oc od kV doc pm an ct de,K.lookup f=some ⟨oc,od,.func (Q7 x qual (gv st) (cQ st) (aR st) .none kV doc pm an aE ct),de⟩)(h2:∃oc od kV doc pm an ct de,K.lookup f=some ⟨oc,od,.func (Q7 x qual (gv st) (cQ st) (aR st) .none kV doc pm an (.ref code) ct),de⟩):aE=.ref code:=by obtain⟨_,_,_,_,_,_,_,_,e1⟩:=h1;obtain⟨_,_,_,_,_,_,_,_,e2⟩:=h2;rw[e1]at e2;cases e2;rfl
section
variable{k:Nat}{G:DX}
theorem VT(F:pw X.prog X.w X.K X.mg X.base ts k x n G)(ft:FT ts c)(hK:nB G)(hr:bM k X.A)(hex:X.ex=[])(hx:j4 X (wD X.mg c))(hg:Gl X x)(ha:SX X c (e::es) as)(hl:as.length=n)(cz:(x==("__debug__":Str))=false:=by decide)(he:W9 (e::es) X.env=(false,eval e X.env)::W9 es X.env:=by rfl)(bH:(Q3 pos (W9 es X.env)).any (·.1)=false:=by rfl):SE X c (.Call (.Name x pp) (e::es) [] pos) (gC G as):=by obtain⟨f,fd,ps,hm,hk,hb,ok⟩:=F;refine PE.weak (u_ ok hr hex hg hm hk hb hx ha cz he bH) λY H Q h=>?_;obtain⟨Z,kk,dB,q⟩:=FF (X:=X) hK hl h;exact⟨Z,kk,dB,aQ q λds W' q1 vs H1 a1 r1=>⟨ft.now a1.ok,q1 vs H1 a1 r1⟩⟩
theorem VU(F:pw X.prog X.w X.K X.mg X.base ts k x n G)(ft:FT ts c)(hK:nB G)(hr:bM k X.A)(hex:X.ex=[])(hg:Gl X x)(ha:SX X c (e::es) as)(hl:as.length=n)(cz:(x==("__debug__":Str))=false:=by decide)(he:W9 (e::es) X.env=(false,eval e X.env)::W9 es X.env:=by rfl)(bH:(Q3 pos (W9 es X.env)).any (·.1)=false:=by rfl):SE X c (.Call (.Name x pp) (e::es) [] pos) (e_ G as):=by obtain⟨f,fd,ps,hm,hk,hb,ok⟩:=F;refine PE.weak (u_ (W:=λj j j j=>False) ok hr hex hg hm hk hb (λj j j j j j j j j h=>h.elim) ha cz he bH) λY H Q h=>?_;obtain⟨Z,kk,dB,q⟩:=FW (X:=X) hK hl h;exact⟨Z,kk,dB,aQ q λds W' q1 vs H1 a1 r1=>⟨ft.now a1.ok,q1 vs H1 a1 r1⟩⟩
end
set_option tactic.hygienic true in theorem VV{n B fb np}(ft:FT ts c)(hex:X.ex=[])(dW:Np c [])(cE:X.stack=X.env::X.outer)(hf:X.env.frame=some X.env.locals)(hN:X.N.Nodup)(hi:X.N[i]?=some n)(hl:X.env.scope.names.lookup n=some .local)(hg:Gl X x)(hm:X.mg x=some (.ref B))(qB:jZ X.K B)(VW:∀y∈ys,X.mg (toS y)=some (.ref (ce y))/\PySem.W.mroIn X.K (ce y) (.ref B)=some true)(hb:∀(c':Fc)(pn:List (Addr×Obj))(xe:Value->W2->Prop),Np c' []->FT ts c'->j4 (X.wt pn xe) (wD X.mg c')->eN (X.wt pn xe) c' body fb)(hh:∀a,eN (X.hand a) c (b₀::u9) fh)(cz:(x==("__debug__":Str))=false:=by decide):SS X c (.Try body [.ExceptHandler (some (.Name x np)) (some n) (b₀::u9) yH] [] [] pos) (nC ce ys i fb fh):=by
 have hp:=UK dW;refine PS.weak (Uz (i:=i) (B:=B) (th:=λ_ _=>jq c fh) (tb:=λW D Y H=>TH ts H/\jq ⟨H,c.B,[],λz S'=>∀SL H',Ok ⟨H,c.B,[],λ_ _=>False⟩ SL S' H'->∀C dx v,X.mg (toS z.cls)=some (.ref C)->Rep H' (Av ⟨H,c.B,[],λ_ _=>False⟩ SL S') v z.jQ->(∀y,v=.ref y->dx=some y)->W C dx SL H'⟩ fb D Y H) hex cE hf hN hi hl hg hm qB cz (λW pn xe acc pins s Y H D I⟨hT,hw⟩=>hb _ pn xe (λp z=>by simp at z) ⟨hT,λt _⟨j,z⟩=>by simp at z⟩ (λps SL H' s' a C dx J co⟨y,S',v,hy,k',rv,hv,w'⟩=>acc ps SL H' s' a C dx J co (w' SL H' ⟨k'.keep,k'.bd,k'.cR,k'.len,k'.slot,k'.own,k'.inj,k'.pinned⟩ C dx v hy rv hv)) pins s Y H D I hw) λ_ a=>hh a) λD Y H⟨Z,k,q⟩=>?_;unfold nC at q;split at q;.rename_i ic;refine⟨ft.now k,Z,k.FG ic,?_⟩;unfold dO at q⊢;cases e:fb Z with
 |stuck=>rw[e]at q;exact q.elim|ok fl S'=>rw[e]at q;intro SL H' a;have f0:=q SL H' (aG.nD k hp a);cases fl with|next=>exact f0|brk=>exact f0|cont=>exact f0|ret r=>exactλv rv=>f0 v (aS.nD k hp rv)
 |exc z S'=>
   rw[e]at q;simp only at q;split at q;.rename_i hc;simp only[Wq,decide_eq_true_eq]at hc;obtain⟨hy,bc⟩:=hc;intro SL H' k' C dx v hC rv hv;obtain⟨y1,y2⟩:=VW z.cls (~~~hy);rw[y1]at hC;cases hC;refine⟨y2,v,hv,λa ha=>?_⟩;have A1:aG c Y Z H SL S' H':=aG.nD k hp (Ok.since (c:=⟨H,c.B,[],λ_ _=>False⟩) rfl (k.FG ic) (λa⟨j,z⟩=>by simp at z) k');have A2:=A1.trans (aG.alloc A1.ok ha (.ext (excAt (ce z.cls) v a)));have A3:=Ok.set (i:=i) (v:=.ref a) (r:=.pure (.exc (ce z.cls) z.jQ)) A2 (.exc (A1.ok.iP ha) bS (Rep.dg rv (aG.alloc A1.ok ha _))) (λp zz=>by rw[hp]at zz;simp at zz);refine⟨S'.set i (some (.pure (.exc (ce z.cls) z.jQ))),A3.ok,?_⟩;unfold dO;generalize fh (S'.set i (some (.pure (.exc (ce z.cls) z.jQ))))=r at q;cases r with|stuck=>exact q.elim|exc z' PP=>exact q|ok fl PP=>intro Pi H4 A4;have f0:=q (Pi.set i none) H4 (aG.unset (A3.trans A4) hp i);cases fl with|next=>exact f0|brk=>exact f0|cont=>exact f0|ret r=>exactλv rv=>f0 v (aS.unset hp i rv)
   .exact q.elim
 .exact q.elim
def yW(K:W3)(neg:Bool):R2:=λx y H Q=>∃p vs ds d,y=.ref p/\cP K H p vs/\aH H cT vs ds/\Rep H cT x d/\flat 49 d=true/\(∀e∈ds,flat 49 e=true)/\Q (.bl (if neg then !ds.any λe=>aY e d else ds.any λe=>aY e d)) H
theorem Gf{x v}(hu:X.A.units+64<WL)(I:Lake.Inv X pins Y H s)(rx:RelV x v)(r1:Rep H cT x d)(f1:flat 49 d=true)(rv:Vals vs its)(rs:aH H cT vs ds)(fs:∀e∈ds,flat 49 e=true):∃e:Value->Bool,(∀y∈its.toArray,SeqAt.EqAt X.A.in1 s y v (e y))/\its.toArray.any e=ds.any λe=>aY e d:=by
 have pre:=xO I (A:=X.A) 50 Y';obtain⟨_,it⟩:=pre;have lv:=rv.length;have at_:∀(i:Nat)(y:Value)(e:D),its[i]?=some y->ds[i]?=some e->SeqAt.EqAt X.A.in1 s y v (aY e d):=λi y e h1 h2=>by
  have hi:i<vs.length:=by rw[rs.1];exact(W6.mp h2).1
  have hv:vs[i]?=some vs[i]:=W7 hi;obtain⟨y',e1,ry⟩:=rv.get hv;rw[h1]at e1;cases e1;exact it _ _ _ _ _ _ _ (show X.A.units+1+49+1<WL by lia) (fs e (Wx h2)) f1 (rs.2 i _ _ hv h2) r1 ry rx
 have dec:∀p:Prop,Decidable p:=Classical.propDecidable;refine⟨λy=>decide (∃(i:Nat)(e:D),its[i]?=some y/\ds[i]?=some e/\aY e d=true),λy hy=>?_,?_⟩
 .have kX:y∈its:= ~~~hy;obtain⟨i,h1⟩:=List.getElem?_of_mem kX;have hi:i<ds.length:=by have:=(W6.mp h1).1;rw[<-rs.1,lv];exact this
  have h2:ds[i]?=some ds[i]:=W7 hi;by_cases q:∃(i:Nat)(e:D),its[i]?=some y/\ds[i]?=some e/\aY e d=true;.obtain⟨j,e,q1,q2,q3⟩:=id q;have:=at_ j y e q1 q2;rw[q3]at this;show SeqAt.EqAt X.A.in1 s y v (decide _);rw[decide_eq_true q];exact this
  .have:=at_ i y _ h1 h2;have hf:aY ds[i] d=false:=by cases z:aY ds[i] d with|false=>rfl|true=>exact absurd ⟨i,_,h1,h2,z⟩ q
   rw[hf]at this;show SeqAt.EqAt X.A.in1 s y v (decide _);rw[decide_eq_false q];exact this
 .rw[Qi,Ud];simp only[List.any_toArray,Ud,decide_eq_true_eq];constructor;.rintro⟨y,_,i,e,h1,h2,h3⟩;exact⟨e,Wx h2,h3⟩
  .rintro⟨e,he,h3⟩;obtain⟨i,h2⟩:=List.getElem?_of_mem he;have hi:i<its.length:=by rw[<-lv,rs.1];exact(W6.mp h2).1
   have h1:its[i]?=some its[i]:=W7 hi;exact⟨its[i],QK hi,i,e,h1,h2,h3⟩
theorem Gg(hu:X.A.units+64<WL):br X (WA .NotIn) (yW X.K true):=by intro pins s Y H x y v u Q I rx ry h;obtain⟨p,vs,ds,d,rfl,hq,rs,r1,f1,fs,q⟩:=h;cases ry;obtain⟨its,r,pl,hz⟩:=I.list hq;obtain⟨e,h1,h2⟩:=Gf hu I rx r1 f1 r rs fs;refine SeqAt.notIn_listAt e pl.isList h1 ⟨.bl _,H,I,rfl,?_⟩;rw[h2];exact q
noncomputable def j5(neg:Bool)(x y:D):Option S:=match y with|.lst ds=>if flat 49 x&&ds.all (flat 49)then some (.pure (.bl (if neg then !ds.any λe=>aY e x else ds.any λe=>aY e x)))else none|_=>none
set_option tactic.hygienic true in theorem Gh(neg:Bool):bW (yW K neg) (j5 neg):=by
 intro c Y Z H x y d e s Q k rx ry hp q;cases e<;>first|(simp[j5]at hp;done)|skip
 rename_i ds;simp only[j5]at hp;split at hp;.rename_i hf;cases hp;simp only[Wq,WF]at hf;obtain⟨a,vs,ea,ha,r⟩:=ry.lst;exact⟨a,vs,ds,d,ea,.inl ha,aH.aP r λ_ z=>z.elim,rx.un,hf.1,hf.2,q _ H (.refl k) (.bl _)⟩
 .cases hp
section
open PySem.SeqAt
mutual def iC:NK->Nat|.i _=>1|.s _=>1|.t ks=>iZ ks+1def iZ:List NK->Nat|[]=>0|k::ks=>iC k+iZ ks end
inductive dC(h:Heap):Nat->NK->Value->Prop|int{n:Nat}(z:Int)(t:Tok):dC h n (.i z) (.int z t)|bl{n:Nat}(b:Bool):dC h n (.i (if b then 1 else 0)) (.bool b)|str{n:Nat}(x:Str)(t:Tok):dC h n (.s x) (.str x t)|tup{n:Nat}{a:Addr}{its:Array Value}{ks:List NK}:h.IsTuple a its->ks.length=its.toList.length->(∀(i:Nat)k v,ks[i]?=some k->its.toList[i]?=some v->dC h n k v)->dC h (n+1) (.t ks) (.ref a)
section
variable{h:Heap}
theorem VX{α β:Type}{xs ys:List α}{vs:List β}(h1:xs.length=vs.length)(h2:ys.length=vs.length)(q:∀(i:Nat)x y v,xs[i]?=some x->ys[i]?=some y->vs[i]?=some v->x=y):xs=ys:=by apply List.ext_getElem Y';intro i a b;exact q i _ _ vs[i] (W7 a) (W7 b) (W7 Y')
theorem dC.inj{x:NK}{v:Value}(r:dC h n x v):∀{m:Nat}{y:NK},dC h m y v->x=y:=by induction r with|int z t=>intro m y k;cases k;rfl|bl b=>intro m y k;cases k;rfl|str x t=>intro m y k;cases k;rfl|@tup n a its ks h1 h2 h3 ih=>intro m y k;cases k with|@tup m _ its' ks' k1 k2 k3=>obtain⟨o,e,c,q,d⟩:=h1;obtain⟨o',e',c',q',d'⟩:=k1;rw[e]at e';cases e';rw[d]at d';cases d';rw[VX h2 k2 λi x y v e1 e2 e3=>ih i x v e1 e3 (k3 i y v e2 e3)]
theorem dC.kept{x v}(r:dC h n x v)(k:∀b its,h.IsTuple b its->h'.IsTuple b its):dC h' n x v:=by induction r with|int z t=>exact .int z t|bl b=>exact .bl b|str x t=>exact .str x t|tup h1 h2 h3 ih=>exact .tup (k _ _ h1) h2 ih
theorem dC.up{x v}(r:dC h n x v):∀{m:Nat},n<=m->dC h m x v:=by induction r with|int z t=>intro m _;exact .int z t|bl b=>intro m _;exact .bl b|str x t=>intro m _;exact .str x t|tup h1 h2 h3 ih=>intro m l;obtain⟨m,rfl⟩:∃m',m=m'+1:=⟨m-1,Y'⟩;exact .tup h1 h2 λi k v e1 e2=>ih i k v e1 e2 Y'
end
theorem VY{Q}(h:Q (hashInt (if b then 1 else 0)) {s with toks:=s.toks+1}):W8 (model prog w) A (PySem.pyHash (.bool b)) Q E s:=by
 have z:reduceHash (if b then 1 else 0)=hashInt (if b then 1 else 0):=by cases b<;>decide+kernel
 refine PySem.W.pyHash_slot (id:="int.__hash__") (T:="bool") (hT:=rfl) (slot:=F.slot_bool_hash) (entry:=entry_int_hash) (args:=args_int_hash _) (hid:=beq_builtin_none _) (hu:=.inl rfl) (body:=?_);cases b;.exact show W8 _ _ (mkInt 0>>=λv=>ret v) _ _ _ from W0 (wpAny_mkInt (W4 ⟨_,_,rfl,z▸h⟩))
 .exact show W8 _ _ (mkInt 1>>=λv=>ret v) _ _ _ from W0 (wpAny_mkInt (W4 ⟨_,_,rfl,z▸h⟩))
theorem Gi(w:Ws):∀ks:List NK,sU w ks=ks.map (f6 w)|[]=>rfl|k::ks=>by simp only[sU,Wm,Gi w ks]
theorem Gj:∀xs ys:List NK,iZ (xs++ys)=iZ xs+iZ ys|[],ys=>#v[iZ]|x::xs,ys=>by simp only[List.cons_append,iZ,Gj xs ys];lia
theorem dC.pyHash{v}(r:dC h n k v):∀{A:Wp}{s:W2}{Q:Int->W2->Prop},s.heap=h->A.units+n<WL->Q (f6 w k) {s with toks:=s.toks+iC k}->W8 (model prog w) A (PySem.pyHash v) Q E s:=by induction r with|int z t=>intro A s Q _ _ q;exact wpAny_pyHash_int q|bl b=>intro A s Q _ _ q;exact VY q|str x t=>intro A s Q _ _ q;exact wpAny_pyHash_str q|@tup n a its ks h1 h2 h3 ih=>
  intro A s Q hs hu q;subst hs;obtain⟨o,ho,hc,m,hd⟩:=id h1;have hT:s.TypeIs (.ref a) "tuple":=⟨o,ho,hc⟩;refine PySem.W.pyHash_slot (T:="tuple") hT F.slot_tuple_hash F.entry_tuple_hash (F.args_tuple_hash_1 _) (beq_builtin_none _) (.inr Y') ?_;show W8 _ _ (Builtin.Tuple.tupleItemsOf (.ref a)>>=_) _ _ s;refine W0 (wpAny_tupleItemsOf ho hd ?_);refine W0 ?_;rw[<-Array.forIn_toList];refine wpAny_forIn_list _ (λrest(b:Array Int)s'=>∃i,i<=ks.length/\rest=its.toList.drop i/\b.toList=(ks.take i).map (f6 w)/\s'={s with toks:=s.toks+iZ (ks.take i)}) _ ?_ ?_ _ _ ⟨0,Q5 _,rfl,rfl,#v[iZ]⟩
  .rintro x rest b s'⟨i,hi,hr,hb,rfl⟩;have bc:i<its.toList.length:=by
    rcases Nat.lt_or_ge i its.toList.length with z|z;.exact z
    .rw[List.drop_eq_nil_of_le z]at hr;cases hr
   rw[QO bc]at hr;injection hr with hx hr;have gZ:i<ks.length:=by lia
   refine W0 (ih i ks[i] x (W7 gZ) %[hx|W7 bc] rfl (show A.units+1+n<WL by lia) ?_);have ht:ks.take (i+1)=ks.take i++[ks[i]]:=by simp_all
   have fin:∃j,j<=ks.length/\rest=its.toList.drop j/\(b.push (f6 w ks[i])).toList=(ks.take j).map (f6 w)/\({s with toks:=s.toks+iZ (ks.take i)+iC ks[i]}:W2)={s with toks:=s.toks+iZ (ks.take j)}:=by refine⟨i+1,gZ,hr,by rw[ht,WO,Array.toList_push,hb];rfl,?_⟩;rw[ht,Gj];simp only[iZ];rw[Nat.add_zero,Nat.add_assoc]
   first|exact W4 fin|exact W0 (W4 (W4 fin))
  .rintro b s'⟨i,hi,hr,hb,rfl⟩;have hz:i=ks.length:=by have:=congrArg Qf hr;simp at this;simp at h2;lia
   subst hz;rw[List.take_length]at hb⊢;show W8 _ _ (retInt (Builtin.Tuple.tupleHashOf b.toList)) _ _ _;rw[hb];refine W0 (wpAny_mkInt (W4 ⟨_,_,rfl,?_⟩));simp only[f6,iC,Gi]at q;simpa[Nat.add_assoc]using q
theorem dC.quiet{v}(r:dC s.heap n k v):∀{A:Wp}{m:Nat}{Q:Bool->W2->Prop},n<=m->Q true s->W8 (model prog w) A (eqIsQuiet m v) Q E s:=by induction r with|int z t=>intro A m Q _ q;rw[eqIsQuiet_byValue _ rfl];exact W4 q|bl b=>intro A m Q _ q;rw[eqIsQuiet_byValue _ rfl];exact W4 q|str x t=>intro A m Q _ q;rw[eqIsQuiet_byValue _ rfl];exact W4 q|@tup n a its ks h1 h2 h3 ih=>
  intro A m Q hm q;obtain⟨o,ho,hc,mm,hd⟩:=id h1;have hT:s.TypeIs (.ref a) "tuple":=⟨o,ho,hc⟩;obtain⟨m,rfl⟩:∃m',m=m'+1:=⟨m-1,Y'⟩;unfold eqIsQuiet;refine W0 (wpAny_specialOf hT F.slot_tuple_eq.lookup ?_);show W8 _ _ (isInstance (.ref a) (.type "tuple")>>=_) _ _ s;refine W0 (wpAny_isInstance hT isSubtype_tuple_tuple ?_);simp only[Jz,Q8,if_false];refine W0 (Qn ho hd ?_);refine W0 ?_;show W8 _ _ (forIn its _ _) _ _ s;rw[<-Array.forIn_toList];refine wpAny_forIn_list _ (λrest r s'=>r.1=none/\s'=s/\∃i,rest=its.toList.drop i) _ ?_ ?_ _ _ ⟨rfl,rfl,0,rfl⟩
  .rintro x rest r s'⟨hr,rfl,i,hi⟩;have bc:i<its.toList.length:=by grind[List.drop_eq_nil_of_le]
   rw[QO bc]at hi;injection hi with hx hi;have gZ:i<ks.length:=by lia
   refine W0 (ih i ks[i] x (W7 gZ) %[hx|W7 bc] Y' ?_);simp only[Jz,Q8,if_false];exact W4 ⟨rfl,rfl,i+1,hi⟩
  grind[W4]
theorem mw(a b:Int):decide (NK.i a=NK.i b)=(a==b):=by grind
theorem yX(a b:Str):decide (NK.s a=NK.s b)=(a==b):=by grind
theorem yY(a b:Bool):(a==b)=(((if a then 1 else 0:Int))==(if b then 1 else 0:Int)):=by cases a<;>cases b<;>rfl
theorem VZ{xs e}(he:∀(j:Nat)x y,xs[j]?=some x->ys[j]?=some y->e j=decide (x=y)):((WI (min xs.length ys.length)).all e&&xs.length==ys.length)=decide (NK.t xs=NK.t ys):=by
 by_cases hl:xs.length=ys.length
 .rw[<-hl,Nat.min_self];simp only[beq_self_eq_true,Bool.and_true];by_cases hx:xs=ys;.simp_all
  .rw[decide_eq_false λq=>hx (NK.t.inj q)];rw[List.all_eq_false];apply Classical.byContradiction;intro hn;apply hx;apply List.ext_getElem hl;intro j a b;apply Classical.byContradiction;intro bN;refine hn ⟨j,List.mem_range.mpr a,?_⟩;rw[he j _ _ (W7 a) (W7 b)];simpa using bN
 grind
theorem dC.V0{x}(r:dC s.heap n x u):∀{A:Wp}{m:Nat}{y:NK}{v:Value},dC s.heap m y v->A.units+n<WL->EqAt A s u v (decide (x=y)):=by induction r with
 |int z t=>intro A m y v k hu;cases k with|int z' t'=>rw[mw];exact EqAt.int_int _ _ _ _|bl b=>rw[mw];exact EqAt.int_bool _ _ _|str x t'=>rw[decide_eq_false λq=>nomatch q];exact EqAt.int_str _ _ _ _|tup k1 k2 k3=>rw[decide_eq_false λq=>nomatch q];exact EqAt.int_tuple _ _ k1 Y'
 |bl b=>intro A m y v k hu;cases k with|int z' t'=>rw[mw];exact EqAt.bool_int _ _ _|bl b=>rw[mw,<-yY];exact EqAt.bool_bool _ _|str x t'=>rw[decide_eq_false λq=>nomatch q];exact EqAt.bool_str _ _ _|tup k1 k2 k3=>rw[decide_eq_false λq=>nomatch q];exact EqAt.bool_tuple _ k1 Y'
 |str x t=>intro A m y v k hu;cases k with|int z' t'=>rw[decide_eq_false λq=>nomatch q];exact EqAt.str_int _ _ _ _|bl b=>rw[decide_eq_false λq=>nomatch q];exact EqAt.str_bool _ _ _|str x t'=>rw[yX];exact EqAt.str_str _ _ _ _|tup k1 k2 k3=>rw[decide_eq_false λq=>nomatch q];exact EqAt.str_tuple _ _ k1 Y'
 |@tup n a its ks h1 h2 h3 ih=>intro A m y v k hu;cases k with|int z' t'=>rw[decide_eq_false λq=>nomatch q];exact EqAt.tuple_int _ _ h1 Y'|bl b=>rw[decide_eq_false λq=>nomatch q];exact EqAt.tuple_bool _ h1 Y'|str x t'=>rw[decide_eq_false λq=>nomatch q];exact EqAt.tuple_str _ _ h1 Y'|@tup m' b its' ks' k1 k2 k3=>
   by_cases lX:a=b;.subst lX;have e:NK.t ks=NK.t ks':=dC.inj (dC.tup h1 h2 h3) (dC.tup k1 k2 k3);rw[decide_eq_true e];exact EqAt.same _
   .refine EqAt.of_refs lX ?_;let e:Nat->Bool:=λj=>match ks[j]?,ks'[j]? with|some x,some y=>decide (x=y)|_,_=>false;have z1:its.size=ks.length:= ~~~h2.symm;have z2:its'.size=ks'.length:= ~~~k2.symm;have q:=RcAt.tuples (A:=A) (s:=s) (e:=e) h1 k1 Y' λj j1 j2=>by
     have l1:j<ks.length:=by lia
     have l2:j<ks'.length:=by lia
     have ee:e j=decide (ks[j]=ks'[j]):=by simp only[e,W7 l1,W7 l2]
     rw[ee];exact ih j ks[j] its[j] (W7 l1) #v[j1] (k3 j ks'[j] its'[j] (W7 l2) #v[j2]) (show A.units+1+n<WL by lia)
    rw[z1,z2,VZ λj x y e1 e2=>by simp only[e,e1,e2]]at q;exact q
theorem V1{es ep}(ho:h.get? d=some o)(hd:o.data=.dict es ep)(hs:J4 d h h'):∀b its,h.IsTuple b its->h'.IsTuple b its:=λb its hh=>by
 obtain⟨o',e,c,n,q⟩:=hh
 have bN:b≠d:=by grind
 exact⟨o',(hs.2 b bN).trans e,c,n,q⟩
noncomputable def nkKind(prog:Wn)(w:Ws):HeapKind prog w NK where
 is:=λh k a=>dC h 6 k (.ref a)
 hash:=f6 w
 draws:=iC
 room:=λA=>A.units+6<WL
 inj:=λhx hy=>hx.inj hy
 keeps:=λx ho hd hs=>x.kept (V1 ho hd hs)
 pyHash:=λhu hk h=>hk.pyHash rfl hu h
 eqBool:=λhu hx hy h=>hx.V0 hy hu _ _ _ _ h
 quiet:=λhk h=>hk.quiet Y' h
def kN:Key->NK|.inl z=>.i z|.inr x=>.s x
theorem V2(h:kN p=kN q):p=q:=by cases p<;>cases q<;>first|(cases h;rfl)|cases h
def j6(h:Heap)(m:Bool)(k:NK)(u:Value):Prop:=match m with|true=>∃a,u=.ref a/\dC h 6 k u|false=>∃q:Key,iI q u=true/\k=kN q
theorem V3(h1:iI p u=true)(h2:iI q u=true):p=q:=by all_goals grind[jI]
def ent(w:Ws)(x:NK×Value×Value):DictEntry:=⟨f6 w x.1,x.2.1,x.2.2⟩
theorem Gk{Q}(hu:A.units+6<WL)(hk:j6 s.heap m k u)(h:Q (f6 w k) {s with toks:=s.toks+iC k}):W8 (model prog w) A (PySem.pyHash u) Q E s:=by cases m with|true=>obtain⟨a,rfl,r⟩:=hk;exact r.pyHash rfl hu h|false=>obtain⟨q,h1,rfl⟩:=hk;refine(fV prog w).pyHash (k:=q) h1 ?_;cases q<;>exact h
theorem Gm:∀{xs:List (NK×Value×Value)},(∀x∈xs,j6 h true x.1 x.2.1)->∃ys:List (NK×Addr×Value),xs=ys.map λy=>(y.1,Value.ref y.2.1,y.2.2)|[],_=>⟨[],rfl⟩|x::xs,q=>by obtain⟨ys,e⟩:=Gm (xs:=xs) λy hy=>q y (Wi _ hy);obtain⟨a,e1,_⟩:=q x Wl;exact⟨(x.1,a,x.2.2)::ys,by rw[Wm,<-e];simp only[<-e1]⟩
theorem Gn{k:NK}{d:Addr}{o:Obj}{es ep}{Q:Option Nat->W2->Prop}(hu:A.units+6<WL)(hk:j6 s.heap m k u)(ho:s.heap.get? d=some o)(hd:o.data=.dict es ep)(he:es.toList=xs.map (ent w))(hx:∀x∈xs,j6 s.heap m x.1 x.2.1)(hn:(xs.map (·.1)).Nodup)(Gp:(∀(j:Nat)p,xs[j]?≠some (k,p))->Q none s)(V4:∀(j:Nat)p,xs[j]?=some (k,p)->Q (some j) s):W8 (model prog w) A (dictFind d u (f6 w k)) Q E s:=by
 cases m with|true=>
 obtain⟨a,rfl,r⟩:=hk;obtain⟨ys,rfl⟩:=Gm hx;refine wpAny_dictFind_heap (knd:=nkKind prog w) (xs:=ys) hu r ho hd (by rw[he,WV];rfl) (λy hy=>?_) (by rw[WV]at hn;exact hn) (λic=>Gp λj p e=>?_) λj p e=>?_;.obtain⟨b,e1,e2⟩:=hx _ (Qj hy);cases e1;exact e2
 .rw[Wj]at e;cases q:ys[j]? with|none=>rw[q]at e;cases e|some y=>rw[q]at e;simp only[WE,We]at e;exact ic j y.2 (by rw[q,<-show y.1=k from congrArg Prod.fst e])
 .exact V4 j (.ref p.1,p.2) (by rw[Wj,e];rfl)|false=>
 obtain⟨q,h1,rfl⟩:=hk;have yZ:∀(j:Nat)e,es[j]?=some e->∃x,xs[j]?=some x/\e=ent w x:=λj e z=>by rw[<-JO,he,Wj]at z;cases y:xs[j]? with|none=>rw[y]at z;cases z|some x=>rw[y]at z;simp only[WE,We]at z;exact⟨x,rfl,z.symm⟩
 have ks:KeysOf (fV prog w) es:=λe kS=>by obtain⟨j,hj⟩:=List.mem_iff_getElem?.mp (Array.mem_toList_iff.mpr kS);obtain⟨x,e1,rfl⟩:=yZ j e (by rw[<-JO];exact hj);obtain⟨q',e2,e3⟩:=hx x (Wx e1);refine⟨q',e2,?_⟩;show f6 w x.1=_;rw[e3];cases q'<;>rfl
 have hh:f6 w (kN q)=(fV prog w).hash q:=by cases q<;>rfl
 rw[hh];refine wpAny_dictFind_of (knd:=fV prog w) (k:=q) h1 ho hd ks ?_;cases hf:es.findIdx? λe=>(fV prog w).is q e.key with|none=>
 refine Gp λj p e=>?_;have hj:j<xs.length:=(W6.mp e).1;have hz:es.size=xs.length:=by rw[<-Qs,he,Wa]
 obtain⟨x,e1,e2⟩:=yZ j es[j] #v[hz,hj];rw[e]at e1;cases e1;have:=Array.findIdx?_eq_none_iff.mp hf es[j] (Array.getElem_mem _);obtain⟨q',e3,e4⟩:=hx _ (Wx e);rw[V2 e4]at this;rw[e2]at this;have z:iI q' p.1=false:=this;grind|some j=>obtain⟨bc,hp,_⟩:=Array.findIdx?_eq_some_iff_getElem.mp hf;obtain⟨x,e1,e2⟩:=yZ j es[j] #v[bc];obtain⟨q',e3,e4⟩:=hx x (Wx e1);rw[e2]at hp;have:q=q':=V3 (show iI q x.2.1=true from hp) e3;grind
noncomputable def atN(xs:List (NK×Value×Value))(k:NK):Option (Value×Value):=(xs.find? λx=>decide (x.1=k)).map (·.2)
noncomputable def stN(xs:List (NK×Value×Value))(k:NK)(u v:Value):List (NK×Value×Value):=if(xs.any λx=>decide (x.1=k))=true then xs.map λx=>if x.1=k then(x.1,x.2.1,v)else x else xs++[(k,u,v)]
theorem Gq(h:∀(j:Nat)p,xs[j]?≠some (k,p)):atN xs k=none/\(xs.any λx=>decide (x.1=k))=false:=by
 have z:∀x∈xs,decide (x.1=k)=false:=λx hx=>by grind[List.mem_iff_getElem?]
 grind[atN]
theorem y3:∀{xs:List (NK×Value×Value)}{k:NK}{j:Nat}{p:Value×Value},(xs.map (·.1)).Nodup->xs[j]?=some (k,p)->atN xs k=some p/\(xs.any λx=>decide (x.1=k))=true|[],k,j,p,_,e=>by simp at e|x::xs,k,j,p,hn,e=>by rw[Wm,List.nodup_cons]at hn;cases j with|zero=>simp at e;subst e;simp[atN]|succ j=>have e':xs[j]?=some (k,p):= ~~~e;have bN:¬x.1=k:=λz=>hn.1 (by rw[z];exact WH.mpr ⟨_,Wx e',rfl⟩);obtain⟨h1,h2⟩:=y3 hn.2 e';grind[atN]
theorem V5{k:NK}{d:Addr}{o:Obj}{es ep}{Q:Option Value->W2->Prop}(hu:A.units+6<WL)(hk:j6 s.heap m k u)(ho:s.heap.get? d=some o)(hd:o.data=.dict es ep)(he:es.toList=xs.map (ent w))(hx:∀x∈xs,j6 s.heap m x.1 x.2.1)(hn:(xs.map (·.1)).Nodup)(h:Q ((atN xs k).map (·.2)) {s with toks:=s.toks+iC k}):W8 (model prog w) A (dictGet d u) Q E s:=by
 unfold dictGet;try with_reducible refine WC ?_
 refine W0 (Gk hu hk (W0 (Gn (s:={s with toks:=s.toks+iC k}) hu hk ho hd he hx hn ?_ ?_)));.intro ic;rw[(Gq ic).1]at h;exact W4 h
 .intro j p hj;rw[(y3 hn hj).1]at h;refine W0 (JH (s:={s with toks:=s.toks+iC k}) ho hd ?_);rw[<-JO,he,Wj,hj];exact W4 h
set_option tactic.hygienic true in theorem Gr{v}(hn:(xs.map (·.1)).Nodup):((stN xs k u v).map (·.1)).Nodup:=by
 unfold stN;split;.rw[WV];rw[show((λx:NK×Value×Value=>x.1)∘λx=>if x.1=k then(x.1,x.2.1,v)else x)=(·.1)from funext λx=>by simp only[Function.comp];split<;>rfl];exact hn
 .rename_i hh;rw[WO,List.nodup_append];refine⟨hn,U',λx hx y hy e=>?_⟩;simp only[Wm,List.map_nil,List.mem_singleton]at hy;subst hy e;obtain⟨z,hz,e⟩:=WH.mp hx;exact hh (List.any_eq_true.mpr ⟨z,hz,decide_eq_true e⟩)
theorem Gs{v}:∀{xs:List (NK×Value×Value)}{j:Nat}{p:Value×Value},(xs.map (·.1)).Nodup->xs[j]?=some (k,p)->(xs.map (ent w)).modify j (λe=>{e with val:=v})=(xs.map λx=>if x.1=k then(x.1,x.2.1,v)else x).map (ent w)
 |[],j,p,_,e=>by simp at e|x::xs,j,p,hn,e=>by
  rw[Wm,List.nodup_cons]at hn
  cases j with|zero=>
   simp at e;subst e;have z:(xs.map λx=>if x.1=k then(x.1,x.2.1,v)else x)=xs:=by
    conv=>rhs;rw[<-List.map_id xs]
    refine Ju λy hy=>?_;rw[if_neg λq=>hn.1 (WH.mpr ⟨y,hy,q⟩)];rfl
   rw[Wm,Wm,Wm,z,if_pos rfl];rfl|succ j=>have e':xs[j]?=some (k,p):= ~~~e;have bN:¬x.1=k:=λz=>hn.1 (by rw[z];exact WH.mpr ⟨_,Wx e',rfl⟩);rw[Wm,Wm,Wm,if_neg bN];show ent w x::(xs.map (ent w)).modify j _=_;rw[Gs hn.2 e']
theorem Gu{k:NK}{v:Value}{d:Addr}{o:Obj}{es ep}{Q:Unit->W2->Prop}(hu:A.units+6<WL)(hk:j6 s.heap m k u)(ho:s.heap.get? d=some o)(hc:o.ExactDict)(hd:o.data=.dict es ep)(he:es.toList=xs.map (ent w))(hx:∀x∈xs,j6 s.heap m x.1 x.2.1)(hn:(xs.map (·.1)).Nodup)(hz:xs.length<=Wb)(hQ:∀h' o' lJ fu,h'.get? d=some o'->o'.ExactDict->o'.data=.dict lJ fu->lJ.toList=(stN xs k u v).map (ent w)->J4 d s.heap h'->Q () {s with heap:=h',toks:=s.toks+iC k}):W8 (model prog w) A (dictSet d u v) Q E s:=by
 have hsz:es.size=xs.length:=by rw[<-Qs,he,Wa]
 unfold dictSet;try with_reducible refine WC ?_
 refine W0 (Gk hu hk ?_);unfold dictSetHashed;try with_reducible refine WC ?_
 refine W0 (Gn (s:={s with toks:=s.toks+iC k}) hu hk ho hd he hx hn ?_ ?_);.intro ic;refine W0 (QC (wpAny_updateDictKeys (hz:=by lia) (s:={s with toks:=s.toks+iC k}) ho hd (hQ _ _ _ (ep+1) (Qb _ ho (Obj.isFreed_of_dict (Obj.data_mapDictKeys hd _))) (hc.mapDictKeys _) (Obj.data_mapDictKeys hd _) ?_ (QU ..))));unfold stN;rw[if_neg (by rw[(Gq ic).2];simp)];simp[he,ent]
 .intro j p hj;refine W0 (QC (W0 (wpAny_updateDict (s:={s with toks:=s.toks+iC k}) ho hd (wpAny_point (hQ _ _ _ ep (Qb _ ho (Obj.isFreed_of_dict (Obj.data_mapDict hd _))) (hc.mapDict _) (Obj.data_mapDict hd _) ?_ (QU ..))))));unfold stN;rw[if_pos (y3 hn hj).2,<-Gs hn hj,<-he];grind
inductive i3(H:Hp):Nat->NK->V->Prop|int{n:Nat}(z:Int):i3 H n (.i z) (.int z)|bl{n:Nat}(b:Bool):i3 H n (.i (if b then 1 else 0)) (.bl b)|str{n:Nat}(x:Str):i3 H n (.s x) (.str x)|tup{n:Nat}{a:Addr}{vs:List V}{ks:List NK}:H a=some (.tup vs)->ks.length=vs.length->(∀(i:Nat)k v,ks[i]?=some k->vs[i]?=some v->i3 H n k v)->i3 H (n+1) (.t ks) (.ref a)
def gE(H:Hp)(m:Bool)(k:NK)(v:V):Prop:=match m with|true=>(∃a,v=.ref a)/\i3 H 6 k v|false=>∃q:Key,k=kN q/\v=kV q
theorem Vals.V6{xs:List V}(r:Vals xs us)(e:us[i]?=some u):∃x,xs[i]?=some x/\RelV x u:=by
 have h1:=r.length;have h2:i<xs.length:=by have:=(W6.mp e).1;lia
 obtain⟨u',e',rr⟩:=r.get (W7 h2);rw[e]at e';cases e';exact⟨_,W7 h2,rr⟩
theorem i3.nk{h:Heap}{k:NK}(ok:cx P w H h)(r:i3 H n k v):∀{u:Value},RelV v u->dC h n k u:=by induction r with|int z=>intro u q;obtain⟨t,rfl⟩:=q;exact .int z t|bl b=>intro u q;cases q;exact .bl b|str x=>intro u q;obtain⟨t,rfl⟩:=q;exact .str x t|@tup n a vs ks h1 h2 h3 ih=>intro u q;cases q;obtain⟨_,its,r,p⟩:=show bw P w H h a (.tup vs)from ok a _ h1;have ht:h.IsTuple a its.toArray:=p.tup;refine .tup ht (by rw[h2];simpa using r.length) λi k u e1 e2=>?_;obtain⟨x,e3,rx⟩:=r.V6 (u:=u) (i:=i) (~~~e2);exact ih i k x e1 e3 rx
theorem gE.key(ok:cx P w H h)(r:gE H m k v)(q:RelV v u):j6 h m k u:=by cases m with|true=>obtain⟨⟨a,rfl⟩,r⟩:=r;cases q;exact⟨a,rfl,r.nk ok rfl⟩|false=>obtain⟨q',rfl,rfl⟩:=r;exact⟨q',by rw[<-ML P w];exact qf q,rfl⟩
abbrev NE:=NK×V×V
def dX:List NE->List (NK×Value×Value)->Prop:=Paired λ(p:NE)(x:NK×Value×Value)=>p.1=x.1/\RelV p.2.1 x.2.1/\RelV p.2.2 x.2.2
theorem Gv{ao:List NE}{es:List DictEntry}(h:Paired (λ(p:NE)(e:DictEntry)=>e.hash=f6 w p.1/\RelV p.2.1 e.key/\RelV p.2.2 e.val) ao es):∃xs,dX ao xs/\es=xs.map (ent w):=by induction h with|nil=>exact⟨[],.nil,rfl⟩|@cons p e _ _ r t ih=>obtain⟨xs,h1,h2⟩:=ih;refine⟨(p.1,e.key,e.val)::xs,.cons ⟨rfl,r.2.1,r.2.2⟩ h1,?_⟩;rw[Wm,<-h2];unfold ent;rw[<-r.1]
theorem Gw{ao:List NE}{xs:List (NK×Value×Value)}(h:dX ao xs):Paired (λ(p:NE)(e:DictEntry)=>e.hash=f6 w p.1/\RelV p.2.1 e.key/\RelV p.2.2 e.val) ao (xs.map (ent w)):=by induction h with|nil=>exact .nil|@cons p x _ _ r t ih=>exact .cons ⟨by show f6 w x.1=_;rw[r.1],r.2.1,r.2.2⟩ ih
theorem dX.keys{ao:List NE}{xs:List (NK×Value×Value)}(h:dX ao xs):ao.map (·.1)=xs.map (·.1):=by induction h with|nil=>rfl|cons r t ih=>rw[Wm,Wm,r.1,ih]
noncomputable def valN(ao:List NE)(k:NK):Option V:=(ao.find? λp=>decide (p.1=k)).map (·.2.2)
noncomputable def putN(ao:List NE)(k:NK)(y v:V):List NE:=if(ao.any λp=>decide (p.1=k))=true then ao.map λp=>if p.1=k then(p.1,p.2.1,v)else p else ao++[(k,y,v)]
theorem dX.val(k:NK){ao:List NE}{xs:List (NK×Value×Value)}(h:dX ao xs):fW (valN ao k) ((atN xs k).map (·.2))/\(ao.any λp=>decide (p.1=k))=xs.any λx=>decide (x.1=k):=by induction h with|nil=>exact⟨trivial,rfl⟩|@cons p x ao xs r t ih=>
  obtain⟨i1,i2⟩:=ih;rw[Qr,Qr,i2,r.1];refine⟨?_,rfl⟩;unfold valN atN at i1⊢;rw[Q2,Q2,r.1];by_cases e:x.1=k;.rw[decide_eq_true e];exact r.2.2
  .rw[decide_eq_false e];exact i1
theorem dX.st(rv:RelV v r){ao:List NE}{xs:List (NK×Value×Value)}(h:dX ao xs):dX (ao.map λp=>if p.1=k then(p.1,p.2.1,v)else p) (xs.map λx=>if x.1=k then(x.1,x.2.1,r)else x):=by induction h with|nil=>exact .nil|@cons p x _ _ q t ih=>
  rw[Wm,Wm];refine .cons ?_ ih;rw[q.1];by_cases e:x.1=k;.rw[if_pos e,if_pos e];exact⟨rfl,q.2.1,rv⟩
  .rw[if_neg e,if_neg e];exact q
theorem dX.app(ry:RelV y u)(rv:RelV v r){ao:List NE}{xs:List (NK×Value×Value)}(h:dX ao xs):dX (ao++[(k,y,v)]) (xs++[(k,u,r)]):=by induction h with|nil=>exact .cons ⟨rfl,ry,rv⟩ .nil|cons q t ih=>exact .cons q ih
theorem dX.put(ry:RelV y u)(rv:RelV v r)(h:dX ao xs):dX (putN ao k y v) (stN xs k u r):=by
 unfold putN stN;rw[(dX.val k h).2];split;.exact h.st rv
 .exact h.app ry rv
section
variable{h:Heap}{ao:List NE}
structure mx(w:Ws)(h:Heap)(a:Addr)(ep:Nat)(xs:List (NK×Value×Value))(o:Obj)(es:Array DictEntry):Prop where
 get:h.get? a=some o
 ex:o.ExactDict
 data:o.data=.dict es ep
 ents:es.toList=xs.map (ent w)j7:(xs.map (·.1)).Nodup
theorem nM(ok:cx P w H h)(e:H a=some (.dN ep ao)):ao.length<=Wb/\(a==Qt)=false/\∃xs o es,dX ao xs/\mx w h a ep xs o es:=by obtain⟨z,hS,o,es,h1,h2,h3,h4,h5⟩:=show bw P w H h a (.dN ep ao)from ok a _ e;obtain⟨xs,q1,q2⟩:=Gv h4;exact⟨z,hS,xs,o,es,q1,h1,h2,h3,q2,by rw[<-q1.keys];exact h5⟩
theorem Gx{es}(z:ao.length<=Wb)(hS:(a==Qt)=false)(r:dX ao xs)(d:mx w h a ep xs o es):bw P w H h a (.dN ep ao):=⟨z,hS,o,es,d.get,d.ex,d.data,%[d.ents|Gw r],%[r.keys|d.j7]⟩
theorem mx.typeIs{o:Obj}{es:Array DictEntry}(d:mx w s.heap a ep xs o es):s.TypeIs (.ref a) "dict":=⟨o,d.get,d.ex.1⟩
theorem mx.noDict{es}(d:mx w h a ep xs o es):∀b,Value.ref a=.ref b->∃ob,h.get? b=some ob/\ob.dict=none:=λb e=>by cases e;exact⟨o,d.get,d.ex.2.1⟩
theorem y4(ok:cx P w H h)(r:dX ao xs)(hk:∀p∈ao,gE H m p.1 p.2.1):∀x∈xs,j6 h m x.1 x.2.1:=by induction r with|nil=>intro x hx;simp at hx|cons q t ih=>
 intro x hx;rcases Wt.mp hx with rfl|hx;.rw[<-q.1];exact(hk _ Wl).key ok q.2.1
 .exact ih (λp hp=>hk p (Wi _ hp)) x hx
end
def nN(H:Hp)(a:Addr)(y:V)(r:Option V):Prop:=∃m ep ao k,H a=some (.dN ep ao)/\(∀p∈ao,gE H m p.1 p.2.1)/\gE H m k y/\r=valN ao k
section
variable{y:V}{r:Value}{o:Option V}
theorem V7{Q}(hu:A.units+6<WL)(I:Inv X pins Y H s)(g:nN H a y o)(ry:RelV y u)(h:∀w' s',Inv X pins Y H s'->fW o w'->Q w' s'):W8 (model X.prog X.w) A (dictGet a u) Q E s:=by obtain⟨m,ep,ao,k,e,hk,ky,rfl⟩:=g;obtain⟨z,hS,xs,ob,es,rx,d⟩:=nM I.ay e;exact V5 hu (ky.key I.ay ry) d.get d.data d.ents (y4 I.ay rx hk) d.j7 (h _ _ (I.tok _) (rx.val k).1)
theorem V8(I:Inv X pins Y H s)(g:nN H a y o):s.TypeIs (.ref a) "dict"/\(∀b,Value.ref a=.ref b->∃ob,s.heap.get? b=some ob/\ob.dict=none)/\(a==Qt)=false:=by obtain⟨m,ep,ao,k,e,hk,ky,rfl⟩:=g;obtain⟨z,hS,xs,ob,es,rx,d⟩:=nM I.ay e;exact⟨d.typeIs,d.noDict,hS⟩
theorem Gy{Q}(hu:A.units+8<WL)(I:Inv X pins Y H s)(g:nN H a y o)(ry:RelV y u)(h:∀s',Inv X pins Y H s'->Q o.isSome s'):W8 (model X.prog X.w) A (contains (.ref a) u) Q E s:=by
 obtain⟨hT,_,hS⟩:=V8 I g;unfold contains;try with_reducible refine WC ?_
 refine W0 (wpAny_specialOf hT slot_dict_contains.lookup ?_);show W8 _ _ (if(some (Value.builtin "dict.__contains__")==some Value.none)=true then _ else _) _ E s;rw[if_neg %[beq_builtin_none|WN]];refine W0 (wpAny_callSpecialUnlessNone?_slot (name:=Str.ofString "__contains__") hT slot_dict_contains (WS slot_dict_contains hT entry_dict_contains ?_ (args_dict_contains _ _)));show W8 _ _ (dictGet a u>>=_) _ _ s;refine W0 (V7 (show A.units+1+6<WL by lia) I g ry λw' s' I' rr=>?_);cases o with|some x=>obtain⟨w2,rfl,r2⟩:=fW.some_of rr;show W8 _ _ (ret (.bool true)) _ _ _;exact W4 ⟨_,rfl,Qk (h s' I')⟩|none=>obtain rfl:=fW.none_of rr;show W8 _ _ (Builtin.Dict.pendingKey? a u>>=_) _ _ _;exact W0 (wpAny_pendingKey_other hS (W4 ⟨_,rfl,Qk (h s' I')⟩))
theorem V9(hu:A.units+8<WL)(I:Inv X pins Y H s)(g:nN H a y o)(ry:RelV y u)(h:∀s',Inv X pins Y H s'->Q (.bool o.isSome) s'):W8 (model X.prog X.w) A (WA .In u (.ref a)) Q E s:=by show W8 _ _ (do return .bool (<-contains (.ref a) u)) Q E s;exact W0 (Gy hu I g ry λs' I'=>W4 (h s' I'))
theorem V_(hu:A.units+8<WL)(I:Inv X pins Y H s)(g:nN H a y o)(ry:RelV y u)(h:∀s',Inv X pins Y H s'->Q (.bool !o.isSome) s'):W8 (model X.prog X.w) A (WA .NotIn u (.ref a)) Q E s:=by show W8 _ _ (do return .bool !(<-contains (.ref a) u)) Q E s;exact W0 (Gy hu I g ry λs' I'=>W4 (h s' I'))
def vk(H:Hp)(a:Addr)(y v:V)(R:Hp->Prop):Prop:=∃m ep ao k,H a=some (.dN ep ao)/\(∀p∈ao,gE H m p.1 p.2.1)/\gE H m k y/\ao.length<Wb/\∀fu,R (upd H a (.dN fu (putN ao k y v)))
theorem y6(ao:List NE)(k:NK)(y v:V):(putN ao k y v).length<=ao.length+1:=by
 unfold putN;split;.simp
 .simp
theorem Gz{R Q}(hu:A.units+6<WL)(I:Inv X pins Y H s)(g:vk H a y v R)(ry:RelV y u)(rv:RelV v r)(h:∀H' s',Inv X pins Y H' s'->R H'->Q () s'):W8 (model X.prog X.w) A (dictSet a u r) Q E s:=by
 obtain⟨m,ep,ao,k,e,hk,ky,hz,hR⟩:=g;obtain⟨z,hS,xs,ob,es,rx,d⟩:=nM I.ay e;have hl:xs.length<=Wb:=by rw[<-Paired.length rx];exact z
 refine Gu hu (ky.key I.ay ry) d.get d.ex d.data d.ents (y4 I.ay rx hk) d.j7 hl λh' o' lJ fu q1 q2 q3 q4 hs=>h _ _ ?_ (hR fu);have hV:(putN ao k y v).length<=Wb:=by have:=y6 ao k y v;lia
 exact xo I %[e|True.intro] hs ⟨o',q1⟩ (Gx hV hS (rx.put ry rv) ⟨q1,q2,q3,q4,Gr d.j7⟩)
theorem W_{R:Hp->Prop}{Q:Unit->W2->Prop}(hu:A.units+8<WL)(I:Inv X pins Y H s)(g:vk H a y v R)(ry:RelV y u)(rv:RelV v r)(h:∀H' s',Inv X pins Y H' s'->R H'->Q () s'):W8 (model X.prog X.w) A (setItem (.ref a) u r) Q E s:=by
 have hT:s.TypeIs (.ref a) "dict":=by obtain⟨m,ep,ao,k,e,_⟩:=g;obtain⟨z,hS,xs,ob,es,rx,d⟩:=nM I.ay e;exact d.typeIs
 unfold setItem;try with_reducible refine WC ?_
 refine W0 (wpAny_sequenceKey hT Z' ?_);refine W0 (Q0 (name:=Str.ofString "__setitem__") hT slot_dict_setitem (WS slot_dict_setitem hT entry_dict_setitem ?_ (args_dict_setitem _ _ _)));show W8 _ _ (Builtin.Dict.notOrdered "__setitem__" ⟨[.ref a,u,r],[]⟩>>=_) _ _ s;refine W0 (JM hT ?_);show W8 _ _ (dictSet a u r>>=_) _ _ s;exact W0 (Gz (show A.units+1+6<WL by lia) I g ry rv λH' s' I' hR=>W4 ⟨.none,rfl,W4 (h H' s' I' hR)⟩)
end
end
variable{acc:List NE}
theorem Xa(n:Nat)(i:Int):cF n (.int i)=some (.i i):=by cases n<;>rfl
theorem Xb(n:Nat)(b:Bool):cF n (.bl b)=some (.i (if b then 1 else 0)):=by cases n<;>rfl
theorem Xd(n:Nat)(x:Tx):cF n (.str x)=some (.s (toS x)):=by cases n<;>rfl
theorem Xe(n:Nat)(xs:List D):cF (n+1) (.tup xs)=(iO n xs).map .t:=rfl
theorem vm{x}(h:cF n d=some x):(∃i,d=.int i/\x=.i i)\/(∃b,d=.bl b/\x=.i (if b then 1 else 0))\/(∃s,d=.str s/\x=.s (toS s))\/∃m xs ks,n=m+1/\d=.tup xs/\iO m xs=some ks/\x=.t ks:=by cases d with
 |int i=>rw[Xa]at h;exact .inl ⟨i,rfl,(WD h).symm⟩|bl b=>rw[Xb]at h;exact .inr (.inl ⟨b,rfl,(WD h).symm⟩)|str s=>rw[Xd]at h;exact .inr (.inr (.inl ⟨s,rfl,(WD h).symm⟩))|tup xs=>cases n with|zero=>cases h|succ m=>rw[Xe,Qc]at h;obtain⟨ks,hk,e⟩:=h;exact .inr (.inr (.inr ⟨m,xs,ks,rfl,rfl,hk,e.symm⟩))
 |_=>cases n<;>cases h
theorem GF(ih:∀(d e:D)(x y:NK),cF n d=some x->cF n e=some y->aY d e=decide (x=y)):∀(xs ys:List D)(ks ls:List NK),iO n xs=some ks->iO n ys=some ls->dS xs ys=decide (ks=ls)|[],[],ks,ls,h1,h2=>by grind[dS]|[],y::ys,ks,ls,h1,h2=>by simp only[iO,We,Jy,Qc]at h1 h2;subst h1;obtain⟨k,_,l,_,rfl⟩:=h2;simp[dS]|x::xs,[],ks,ls,h1,h2=>by simp only[iO,We,Jy,Qc]at h1 h2;subst h2;obtain⟨k,_,l,_,rfl⟩:=h1;simp[dS]|x::xs,y::ys,ks,ls,h1,h2=>by simp only[iO,Jy,Qc]at h1 h2;obtain⟨k,hk,k',oD,rfl⟩:=h1;obtain⟨l,hl,l',hV,rfl⟩:=h2;simp only[dS];rw[ih x y k l hk hl,GF ih xs ys k' l' oD hV];grind
theorem GG:∀(n:Nat)(d e:D)(x y:NK),cF n d=some x->cF n e=some y->aY d e=decide (x=y):=by intro n;induction n with
 |zero=>intro d e x y h1 h2;rcases vm h1 with⟨i,rfl,rfl⟩|⟨b,rfl,rfl⟩|⟨s,rfl,rfl⟩|⟨m,xs,ks,e,_⟩<;>rcases vm h2 with⟨i,rfl,rfl⟩|⟨b,rfl,rfl⟩|⟨s,rfl,rfl⟩|⟨m,xs,ks,e,_⟩<;>first|(cases e;done)|(simp only[aY];first|(rw[decide_eq_false λq=>nomatch q];done)|(rw[mw,<-yY];done)|(rw[mw];done)|(rw[yX,oH];done))
 |succ n ih=>
 intro d e x y h1 h2;rcases vm h1 with⟨i,rfl,rfl⟩|⟨b,rfl,rfl⟩|⟨s,rfl,rfl⟩|⟨m,xs,ks,e1,rfl,hk,rfl⟩<;>rcases vm h2 with⟨i,rfl,rfl⟩|⟨b,rfl,rfl⟩|⟨s,rfl,rfl⟩|⟨m,ys,ls,e2,rfl,hl,rfl⟩<;>first|(simp only[aY];first|(rw[decide_eq_false λq=>nomatch q];done)|(rw[mw,<-yY];done)|(rw[mw];done)|(rw[yX,oH];done))|skip
 cases e1;cases e2;simp only[aY];rw[GF ih xs ys ks ls hk hl];grind
theorem GH:∀{xs:List D}{ks:List NK},iO n xs=some ks->ks.length=xs.length/\∀(i:Nat)d k,xs[i]?=some d->ks[i]?=some k->cF n d=some k|[],ks,h=>by simp[iO]at h;subst h;exact⟨rfl,λi d k e=>by simp at e⟩|x::xs,ks,h=>by simp only[iO,Jy,Qc]at h;obtain⟨k,hk,k',oD,rfl⟩:=h;obtain⟨h1,h2⟩:=GH oD;refine⟨#v[h1],λi d kk e1 e2=>?_⟩;cases i with|zero=>simp at e1 e2;subst e1;subst e2;exact hk|succ i=>exact h2 i d kk (~~~e1) (~~~e2)
theorem Xf(r:Rep H O v d):∀{n:Nat}{k:NK},cF n d=some k->i3 H n k v:=by
 induction r with|int i=>intro n k h;cases n<;>(simp[cF]at h;subst h;exact .int i)|bl b=>intro n k h;cases n<;>(simp only[cF,We]at h;subst h;exact .bl b)|str x=>intro n k h;cases n<;>(simp[cF]at h;subst h;exact .str _)|@tup a vs ds h1 h2 h3 h4 ih=>intro n k h;cases n with|zero=>simp[cF]at h|succ n=>
 simp only[cF,Qc]at h;obtain⟨ks,hk,rfl⟩:=h;obtain⟨l,g⟩:=GH hk;refine .tup h2 Y' λi k v e1 e2=>?_;have hi:i<ds.length:=by have:=(W6.mp e1).1;lia
 exact ih i v ds[i] e2 (W7 hi) (g i ds[i] k (W7 hi) e1)|_=>intro n k h;cases n<;>simp[cF]at h
def gG(m:Bool)(d:D):Bool:=match d with|.tup _=>m|.int _=>!m|.str _=>!m|_=>false
theorem qY(hm:gG m d=true)(hk:cF 6 d=some k)(r:Rep H O v d):gE H m k v:=by cases m with|true=>have r':=Xf r hk;cases r<;>simp[gG]at hm;exact⟨⟨_,rfl⟩,r'⟩|false=>
 cases r<;>simp[gG]at hm;.simp[cF]at hk;subst hk;exact⟨.inl _,rfl,rfl⟩
 .simp[cF]at hk;subst hk;exact⟨.inr _,rfl,rfl⟩
def k7(m:Bool)(ds:List (D×D))(k:D):Bool:=gG m k&&(cF 6 k).isSome&&ds.all λq=>gG m q.1
def my(k:D):Bool:=gG true k
def i4(ds:List (D×D))(k:D):Option D:=(ds.find? λq=>aY q.1 k).map (·.2)
def jx(ds:List (D×D))(k d:D):List (D×D):=if(ds.any λq=>aY q.1 k)=true then ds.map λq=>if aY q.1 k=true then(q.1,d)else q else ds++[(k,d)]
section
variable{O:Addr->Prop}{ws:List NE}{ds:List (D×D)}{p:NE}{q:D×D}
theorem DN.nil:DN H O [] []:=⟨rfl,λi p q e=>by simp at e,λi p q e=>by simp at e,λi p q e=>by simp at e⟩
theorem DN.cons{H O ws ds p q}(h1:Rep H O p.2.1 q.1)(h2:Rep H O p.2.2 q.2)(h3:cF 6 q.1=some p.1)(r:DN H O ws ds):DN H O (p::ws) (q::ds):=by
 refine⟨#v[r.len],λi a b e1 e2=>?_,λi a b e1 e2=>?_,λi a b e1 e2=>?_⟩<;>cases i<;>simp at e1 e2;.subst e1;subst e2;exact h1
 .exact r.key _ a b e1 e2
 .subst e1;subst e2;exact h2
 .exact r.val _ a b e1 e2
 .subst e1;subst e2;exact h3
 .exact r.mW _ a b e1 e2
theorem DN.un(r:DN H O (p::ws) (q::ds)):Rep H O p.2.1 q.1/\Rep H O p.2.2 q.2/\cF 6 q.1=some p.1/\DN H O ws ds:=⟨r.key 0 p q rfl rfl,r.val 0 p q rfl rfl,r.mW 0 p q rfl rfl,~~~r.len,λi a b e1 e2=>r.key (i+1) a b (~~~e1) (~~~e2),λi a b e1 e2=>r.val (i+1) a b (~~~e1) (~~~e2),λi a b e1 e2=>r.mW (i+1) a b (~~~e1) (~~~e2)⟩
theorem DN.get(hk:cF 6 k=some kk):∀{ws:List NE}{ds:List (D×D)},DN H O ws ds->((i4 ds k=none/\valN ws kk=none)\/∃v d,i4 ds k=some d/\valN ws kk=some v/\Rep H O v d)/\(ds.any λq=>aY q.1 k)=ws.any λp=>decide (p.1=kk)
 |[],[],_=>⟨.inl ⟨rfl,rfl⟩,rfl⟩|[],_::_,r=>by have:=r.len;simp at this|_::_,[],r=>by have:=r.len;simp at this|p::ws,q::ds,r=>by
  obtain⟨r1,r2,r3,r4⟩:=r.un;obtain⟨i1,i2⟩:=DN.get hk r4;have e:=GG 6 q.1 k p.1 kk r3 hk;refine⟨?_,by rw[Qr,Qr,i2,e]⟩;unfold i4 valN at i1⊢;rw[Q2,Q2,e];by_cases z:p.1=kk;.rw[decide_eq_true z];exact .inr ⟨_,_,rfl,rfl,r2⟩
  .rw[decide_eq_false z];exact i1
theorem DN.app(hk:cF 6 k=some kk)(ry:Rep H O y k)(rv:Rep H O v d):∀{ws:List NE}{ds:List (D×D)},DN H O ws ds->DN H O (ws++[(kk,y,v)]) (ds++[(k,d)])|[],[],_=>.cons ry rv hk .nil|[],_::_,r=>by have:=r.len;simp at this|_::_,[],r=>by have:=r.len;simp at this|p::ws,q::ds,r=>by obtain⟨r1,r2,r3,r4⟩:=r.un;exact .cons r1 r2 r3 (DN.app hk ry rv r4)
theorem DN.st(hk:cF 6 k=some kk)(rv:Rep H O v d):∀{ws:List NE}{ds:List (D×D)},DN H O ws ds->DN H O (ws.map λp=>if p.1=kk then(p.1,p.2.1,v)else p) (ds.map λq=>if aY q.1 k=true then(q.1,d)else q)
 |[],[],_=>.nil|[],_::_,r=>by have:=r.len;simp at this|_::_,[],r=>by have:=r.len;simp at this|p::ws,q::ds,r=>by
  obtain⟨r1,r2,r3,r4⟩:=r.un;have e:=GG 6 q.1 k p.1 kk r3 hk;rw[Wm,Wm,e];by_cases z:p.1=kk;.rw[decide_eq_true z,if_pos z,if_pos rfl];exact .cons r1 rv r3 (DN.st hk rv r4)
  .rw[decide_eq_false z,if_neg z,if_neg U'];exact .cons r1 r2 r3 (DN.st hk rv r4)
theorem DN.put(hk:cF 6 k=some kk)(ry:Rep H O y k)(rv:Rep H O v d)(r:DN H O ws ds):DN H O (putN ws kk y v) (jx ds k d):=by
 unfold putN jx;rw[(DN.get hk r).2];split;.exact r.st hk rv
 .exact r.app hk ry rv
theorem DN.GI(hm:(ds.all λq=>gG m q.1)=true)(r:DN H O ws ds):∀p∈ws,gE H m p.1 p.2.1:=λp hp=>by
 obtain⟨i,e⟩:=List.mem_iff_getElem?.mp hp;have hi:i<ds.length:=by have:=(W6.mp e).1;have:=r.len;lia
 exact qY (WF.mp hm ds[i] (QK hi)) (r.mW i p ds[i] e (W7 hi)) (r.key i p ds[i] e (W7 hi))
end
theorem y8{ds}(r:c7 c Y Z H v (.dic ds)):∃a ep ws,v=.ref a/\H a=some (.dN ep ws)/\DN H (Av c Y Z) ws ds:=by
 rcases r with r|⟨a,rfl,ep,ws,h1,h2⟩;.cases r with|dic h1 h2 h3 h4 h5 h6=>exact⟨_,_,_,rfl,h2,h3,h4,h5,h6⟩
 .exact⟨a,ep,ws,rfl,h1,h2⟩
theorem Xg(h:gG m d=true)(r:c7 c Y Z H v d):Rep H (Av c Y Z) v d:=by
 rcases r with r|⟨a,rfl,r⟩;.exact r
 .cases d<;>first|exact r.elim|simp[gG]at h
theorem y9{ds}(h:k7 m ds k=true):gG m k=true/\(∃kk,cF 6 k=some kk)/\(ds.all λq=>gG m q.1)=true:=by unfold k7 at h;simp only[Wq]at h;exact⟨h.1.1,Qz.mp h.1.2,h.2⟩
theorem Xh{x ds}(rx:c7 c Y Z H x (.dic ds))(ry:c7 c Y Z H y k)(h:k7 m ds k=true):∃a o,x=.ref a/\nN H a y o/\((i4 ds k=none/\o=none)\/∃v d,i4 ds k=some d/\o=some v/\Rep H (Av c Y Z) v d):=by obtain⟨a,ep,ws,e,ha,dn⟩:=y8 rx;obtain⟨h1,⟨kk,hk⟩,h2⟩:=y9 h;exact⟨a,valN ws kk,e,⟨m,ep,ws,kk,ha,dn.GI h2,qY h1 hk (Xg h1 ry),rfl⟩,(dn.get hk).1⟩
def y_(neg:Bool):R2:=λx y H Q=>∃a o,y=.ref a/\nN H a x o/\Q (.bl (if neg then !o.isSome else o.isSome)) H
theorem Xi(hu:X.A.units+64<WL):br X (WA .In) (y_ false):=by intro pins s Y H x y v u Q I rx ry h;obtain⟨a,o,rfl,g,q⟩:=h;cases ry;exact V9 Y' I g rx λs' I'=>⟨.bl _,H,I',rfl,q⟩
theorem Xj(hu:X.A.units+64<WL):br X (WA .NotIn) (y_ true):=by intro pins s Y H x y v u Q I rx ry h;obtain⟨a,o,rfl,g,q⟩:=h;cases ry;exact V_ Y' I g rx λs' I'=>⟨.bl _,H,I',rfl,q⟩
noncomputable def gQ(neg:Bool)(x y:D):Option S:=match y with|.dic ds=>if k7 (my x) ds x then some (.pure (.bl (if neg then !(i4 ds x).isSome else(i4 ds x).isSome)))else none|_=>none
set_option tactic.hygienic true in theorem GJ(neg:Bool):bW (y_ neg) (gQ neg):=by
 intro c Y Z H x y d e s Q k rx ry hp q;cases e<;>first|(simp[gQ]at hp;done)|skip
 rename_i ds;simp only[gQ]at hp;split at hp
 .rename_i hg;cases hp;obtain⟨a,o,ea,g,r⟩:=Xh ry rx hg;refine⟨a,o,ea,g,?_⟩;have:o.isSome=(i4 ds d).isSome:=by rcases r with⟨r1,rfl⟩|⟨_,_,r1,rfl,_⟩<;>rw[r1]<;>rfl
  rw[this];exact q _ H (.refl k) (.bl _)
 .cases hp
theorem Ok.Xk{d'}(k:Ok c Y Z H)(e:Z[i]?=some (some (.own d0)))(ea:Y[i]?=some (some (.ref a)))(r:fD (upd H a o) (Av c Y Z) a d'):aG c Y Z H Y (Z.set i (some (.own d'))) (upd H a o):=by
 have hi:i<Z.length:=(W6.mp e).1;obtain⟨a',ea',oa,ia,nb⟩:=k.own i _ e;rw[ea]at ea';cases ea';have x_:Own Y Z a:=⟨i,_,e,ea⟩;have ya:Av c Y Z a:=.inr x_;have qC:∀b,Own Y (Z.set i (some (.own d'))) b↔Own Y Z b:=λb=>by
  constructor
  .rintro⟨j,d,e1,e2⟩;by_cases hj:i=j;.subst hj;exact⟨i,_,e,e2⟩
   .rw[Wd hj]at e1;exact⟨j,d,e1,e2⟩
  .rintro⟨j,d,e1,e2⟩;by_cases hj:i=j;.subst hj;exact⟨i,_,by rw[Wv hi],e2⟩
   .exact⟨j,d,%[Wd hj|e1],e2⟩
 have m8:∀b,Av c Y (Z.set i (some (.own d'))) b->Av c Y Z b:=λb z=>z.elim .inl λz=>.inr ((qC b).mp z);have kp:∀b w,H b=some w->¬Av c Y Z b->upd H a o b=some w:=λb w h n=>%[aO λz=>n (by rw[z];exact ya)|h];have ik:∀b w,H b=some w->∃o',upd H a o b=some o':=λb w h=>by
  by_cases hb:b=a;.exact⟨_,%[hb|bS]⟩
  .exact⟨w,%[aO hb|h]⟩
 refine⟨⟨λb w h n=>?_,λb z=>?_,λb z=>?_,%[QQ|k.len],λj d h=>?_,λj d h=>?_,λj l b d d2 h1 h2 h3 h4=>?_,k.pinned⟩,λb w h n=>?_,λb z=>.inl ((qC b).mp z),ik⟩
 .have hb:b≠a:=λz=>by grind
  rw[aO hb];exact k.keep b w h n
 .obtain⟨w,h⟩:=k.bd b z;exact ik b w h
 .obtain⟨w,h⟩:=k.cR b z;exact ik b w h
 .have hj:i≠j:=λz=>by subst z;rw[Wv hi]at h;cases h
  rw[Wd hj]at h;obtain⟨v,h1,h2⟩:=k.slot j d h;exact⟨v,h1,(h2.keep kp).aP λb z=>.inl (m8 b z)⟩
 .by_cases hj:i=j;.subst hj;rw[Wv hi]at h;cases h;exact⟨a,ea,r.aP λb z=>.inl (m8 b z),ia,nb⟩
  .rw[Wd hj]at h;obtain⟨b,h1,h2,h3,h4⟩:=k.own j d h;have hb:b≠a:=λz=>by subst z;exact hj (k.inj i j b _ d e h ea h1)
   exact⟨b,h1,(h2.keep kp λw q=>%[aO hb|q]).aP λb z=>.inl (m8 b z),h3,h4⟩
 .have f1:∃d,Z[j]?=some (some (.own d)):=by grind
  have f2:∃d,Z[l]?=some (some (.own d)):=by grind
  obtain⟨_,f1⟩:=f1;obtain⟨_,f2⟩:=f2;exact k.inj j l b _ _ f1 f2 h3 h4
 grind[aO]
theorem Ok.Xl{ds}(k:Ok c Y Z H)(e:Z[i]?=some (some (.own (.dic ds))))(ea:Y[i]?=some (some (.ref a)))(r:DN H (Av c Y Z) ws eX):aG c Y Z H Y (Z.set i (some (.own (.dic eX)))) (upd H a (.dN ep ws)):=Ok.Xk k e ea ⟨ep,ws,bS,r.keep λb w h n=>%[aO λz=>n (by rw[z];exact .inr ⟨i,_,e,ea⟩)|h]⟩
def qZ(Z:Dl)(i:Nat):Bool:=match Z[i]? with|some (some (.own (.dic _)))=>true|_=>false
set_option tactic.hygienic true in theorem Xm(h:qZ Z i=true):∃ds,Z[i]?=some (some (.own (.dic ds))):=by
 unfold qZ at h;split at h;.rename_i ds e;exact⟨ds,e⟩
 .cases h
def k8(i:Nat)(fi fe:DE):DS:=λZ=>(fe Z).bind λr W'=>if qZ W' i then(fi W').bind λk SZ=>match SZ[i]? with|some (some (.own (.dic ds)))=>if k7 (my k.d) ds k.d&&decide (ds.length<Wb)then .ok .next (SZ.set i (some (.own (.dic (jx ds k.d r.d)))))else .stuck|_=>.stuck else .stuck
def Xn(td ty tv:TE):TS:=λD Y H=>tv Y H λv H1=>td Y H1 λx H2=>ty Y H2 λy H3=>∃a,x=.ref a/\vk H3 a y v λH4=>D.nx Y H4
theorem Xo{i}(hu:X.A.units+8<WL)(ho:PE X o td)(hi:PE X i ty)(hv:PE X value tv)(hs:JB value (some (.Subscript o i pos')) pos.line X.env=pure false):PS X (.Assign [.Subscript o i pos'] value pos) (Xn td ty tv):=by intro pins s Y H D I h;refine wpAny_Assign_Subscript (aX (hv pins s Y H _ I h) λr s1⟨v,H1,I1,rv,q1⟩=>aX (ho pins s1 Y H1 _ I1 q1) λu s2⟨x,H2,I2,rx,q2⟩=>aX (hi pins s2 Y H2 _ I2 q2) λiv s3 hh=>?_) hs;obtain⟨y,H3,I3,ry,a,ex,g⟩:=hh;subst ex;obtain rfl:u=Value.ref a:=rx;exact W_ hu I3 g ry rv λH4 s4 I4 q4=>⟨Y,H4,I4,q4⟩
set_option tactic.hygienic true in theorem Xp{sp}(hu:X.A.units+64<WL)(ho:PE X o (eW i))(hi:SE X c ix fi)(he:SE X c e fe)(hs:JB e (some (.Subscript o ix sp)) pos.line X.env=pure false:=by rfl):SS X c (.Assign [.Subscript o ix sp] e pos) (k8 i fi fe):=PS.weak (Xo Y' ho hi he hs) λD Y H⟨Z,k,q⟩=>by
  unfold k8 dO at q;rw[bh]at q;refine⟨Z,k,aQ q λr W' q1 v H1 a1 r1=>?_⟩;split at q1;case isFalse=>exact q1.elim
  rename_i hown1;obtain⟨ds1,e1⟩:=Xm hown1;obtain⟨a,ea,_,_⟩:=a1.ok.own i _ e1;refine⟨.ref a,ea,W',a1.ok,?_⟩;rw[bh]at q1;refine aQ q1 λkx SZ q2 u H2 a2 r2=>?_;split at q2
  .rename_i ds e2;split at q2;.rename_i hz;simp only[Wq,decide_eq_true_eq]at hz;obtain⟨hg,hz⟩:=hz;obtain⟨a',ea',oa,_⟩:=a2.ok.own i _ e2;rw[ea]at ea';cases ea';obtain⟨ep,ws,ha,dn⟩:=id oa;obtain⟨h1,⟨kk,hk⟩,h2⟩:=y9 hg;have ry:Rep H2 (Av c Y SZ) u kx.d:=r2.rep;have rv:Rep H2 (Av c Y SZ) v r.d:=Rep.dg r1.rep a2;refine⟨a,rfl,my kx.d,ep,ws,kk,ha,dn.GI h2,qY h1 hk ry,%[dn.len|hz],λfu=>?_⟩;exact q2 Y _ (a1.trans (a2.trans (Ok.Xl a2.ok e2 ea (dn.put hk ry rv))))
   .exact q2.elim
  .exact q2.elim
theorem Xq{Q:Option Value->W2->Prop}{R:PySem.Fin->W2->Prop}{o:Obj}{fs:Array Value}{j:Nat}{v:Value}(hh:A.handled=none)(ho:s.heap.get? it=some o)(hd:o.data=.fields fs)(hj:j<fs.size)(h:∀h',Heap.ExtBut it s.heap h'->Q none {s with heap:=h'}):W8 (model prog w) A.in1 (do
 setField (.ref it) j v
 raiseNew (<-newExc (.type "StopIteration") [])) R (λe s'=>W8 (model prog w) A (do if<-isInstance e (.type "StopIteration")then pure none else throw e) Q E s') s:=by refine W0 (Jp ho hd hj ?_);refine W0 ?_;simp only[newExc,newTuple];refine W0 (Qg ?_ (by size_fits));refine W0 (m:=firstArgMember _ _) (wpAny_of_eq (a:=Value.none) (by first|rfl|(simp only[firstArgMember];rfl)) ?_);refine Qg ?_ (by size_fits);simp only[raiseNew];refine W0 (wpAny_handled ?_);rw[show A.in1.handled=none from hh];refine W0 (W4 (wpAny_throw ?_));refine W0 (wpAny_isInstance (T:="StopIteration") (b:=true) ⟨_,Wf _ rfl,rfl⟩ isSubtype_stop ?_);exact W4 (h _ (((QU ..).extBut.push _).push _))
theorem za(h:Heap)(hb:Qt<h.objs.size):bw P w H (h.push {cls:=.type "dict",data:=.dict #[]}) h.objs.size (.dN 0 []):=⟨Q5 _,beq_eq_false_iff_ne.mpr (Ne.symm (WG hb)),_,#[],Wf _ rfl,⟨rfl,rfl,rfl⟩,rfl,.nil,List.nodup_nil⟩
def Xr:TE:=λj H Q=>∀p,H p=none->Q (.ref p) (upd H p (.dN 0 []))
theorem Xs:PE X (.Dict [] [] pos) Xr:=by intro pins s Y H Q I h;exact wpAny_Dict_empty ⟨.ref s.heap.objs.size,_,I.laid (a:=s.heap.objs.size) (o:=.dN 0 []) (t':=s.toks) (λj j q=>W5 _ q) (Wc _) (za s.heap I.big),rfl,h _ (I.ay.fresh (Wc _))⟩
theorem aS.zb{ds}(k:Ok c Y Z H)(hp:H p=none)(r:DN H (Av c Y Z) ws ds):aS c Y Z H (upd H p (.dN ep ws)) (.ref p) (.own (.dic ds)):=by
 refine⟨p,rfl,⟨ep,ws,bS,?_⟩,λz=>k.iP hp (.inl z),k.kK hp,k.plus hp _,hp⟩;exact(r.aP λb z=>by
 rcases z with(z|z)|z;.exact .inl (.inl z)
 .exact .inr %[z|hp]
 .exact .inl (.inr z)).keep λb w e j=>%[aO (d_ e hp)|e]
def GN:DE:=λZ=>.ok (.own (.dic [])) Z
theorem Xt:SE X c (.Dict [] [] pos) GN:=PE.weak Xs λY H Q⟨Z,k,q⟩=>λp hp=>q _ _ (.alloc k hp _) (aS.zb k hp .nil)
section
variable{k v o f:Expr}{tk tv td ty tx:TE}
def Xu(tk tv:TE):TE:=λY H Q=>∀p,H p=none->tk Y (upd H p (.dN 0 [])) λx H1=>tv Y H1 λy H2=>vk H2 p x y λH3=>Q (.ref p) H3
theorem Xv(hu:X.A.units+8<WL)(hk:PE X k tk)(hv:PE X v tv):PE X (.Dict [some k] [v] pos) (Xu tk tv):=by intro pins s Y H Q I h;have hn:=I.ay.fresh (Wc s.heap.objs.size);have I1:=I.laid (a:=s.heap.objs.size) (o:=.dN 0 []) (h':=s.heap.push {cls:=.type "dict",data:=.dict #[]}) (t':=s.toks) (λj j q=>W5 _ q) (Wc _) (za s.heap I.big);refine wpAny_Dict_any rfl rfl U' U' (pairTrees_cons_walk (aX (hk pins _ Y _ _ I1 (h _ hn)) λu s1⟨x,H1,J1,rx,q1⟩=>aX (hv pins s1 Y H1 _ J1 q1) λr s2⟨y,H2,J2,ry,g⟩=>pairTrees_nil_walk ?_));unfold storeAll;rw[JE];refine W0 (W0 (Gz Y' J2 g rx ry λH3 s3 J3 q3=>W4 ?_));show W8 _ _ (forIn ([]:List (Value×Value)) PUnit.unit _) _ _ s3;rw[JJ];exact W4 ⟨.ref s.heap.objs.size,H3,J3,rfl,q3⟩
end
def q_(fk fv:DE):DE:=λZ=>(fk Z).bind λr W'=>(fv W').bind λs SZ=>match r,s with|.pure dk,.pure d=>if k7 (my dk) [] dk then .ok (.own (.dic [(dk,d)])) SZ else .stuck|_,_=>.stuck
set_option tactic.hygienic true in theorem Xw{v fv}(hu:X.A.units+64<WL)(hk:∀c',SE X c' k fk)(hv:∀c',SE X c' v fv):SE X c (.Dict [some k] [v] pos) (q_ fk fv):=by have PK:PE X k λY H Q=>∃c',tD c' fk Y H Q:=λpins s Y H Q I⟨c',h⟩=>hk c' pins s Y H Q I h;have PV:PE X v λY H Q=>∃c',tD c' fv Y H Q:=λpins s Y H Q I⟨c',h⟩=>hv c' pins s Y H Q I h;refine PE.weak (Xv Y' PK PV) λY H Q⟨Z,kk,q⟩=>?_;intro p hp;unfold q_ at q;rw[bh]at q;refine⟨c.plus p,Z,kk.plus hp _,FX q λr W' q1 x H1 a1 rx=>?_⟩;rw[bh]at q1;refine⟨c.plus p,W',a1.ok,FX q1 λs SZ q2 y H2 a2 ry=>?_⟩;have A:=a1.trans a2;have h0:=kk.kK hp;have nb:¬c.B p:=λz=>kk.iP hp (.inl z);have Xx:H2 p=some (.dN 0 []):=A.keep p _ bS λz=>kk.iP hp (.inr z);cases r with|own d=>exact q2.elim|pure dk=>cases s with|own d=>exact q2.elim|pure d=>
   simp only at q2;split at q2;case isFalse=>exact q2.elim
   rename_i hg;obtain⟨g1,⟨kd,g2⟩,g3⟩:=y9 hg;have GP:Rep H2 (Av (c.plus p) Y SZ) x dk:=Rep.dg (show Rep H1 (Av (c.plus p) Y W') x dk from rx) a2;refine⟨my dk,0,[],kd,Xx,λ_ z=>by simp at z,qY g1 g2 GP,by rw[PySem.sizeLine_eq];decide,λfu=>?_⟩;have em:putN [] kd x y=[(kd,x,y)]:=rfl;rw[em];have GQ:=A.ok.Vo h0 (.dN fu [(kd,x,y)]);have ne:∀{a w},H a=some w->a≠p:=λe z=>by rw[z,hp]at e;cases e
   have kp:∀b w,H2 b=some w->¬Av (c.plus p) Y SZ b->upd H2 p (.dN fu [(kd,x,y)]) b=some w:=λb w e n=>%[aO λz:b=p=>n (.inl (.inr z))|e];refine q2 (.ref p) _ ⟨GQ.less,λa w e n=>?_,λa z=>?_,λa w e=>?_⟩ ⟨p,rfl,⟨fu,[(kd,x,y)],bS,DN.cons (GP.keep kp) (Rep.keep (show Rep H2 (Av (c.plus p) Y SZ) y d from ry) kp) g2 .nil⟩,nb,h0,GQ,hp⟩;.rw[aO (ne e)];exact A.keep a w %[aO (ne e)|e] n
   .by_cases zp:a=p;.rw[zp];exact .inr hp
    .rcases A.own a z with z|z;.exact .inl z
     .rw[aO zp]at z;exact .inr z
   .obtain⟨w',e'⟩:=A.there a w %[aO (ne e)|e];exact⟨w',%[aO (ne e)|e']⟩
section
variable{ao:List NE}
theorem Xy(I:Inv X pins Y H s)(e:H a=some (.dN ep ao))(h:∀t s',Inv X pins Y H s'->Q (.int ao.length t) s'):W8 (model X.prog X.w) A (call (.builtin "len") [.ref a]) Q E s:=by
 obtain⟨z,hS,xs,o,es,r,d⟩:=nM I.ay e;have hz:es.size=ao.length:=by rw[<-Qs,d.ents,Wa];exact(Paired.length r).symm
 refine Calls.call_function_entry kind_len plain_len entry_len (args_len1 _) ?_;unfold Builtin.«len»;refine W0 (m:=oneArg "len" _) (W4 ?_);refine W0 (m:=callSpecial? (.ref a) (Str.ofString "__len__")) (Q0 (name:=Str.ofString "__len__") d.typeIs F.slot_dict_len (WS F.slot_dict_len d.typeIs F.entry_dict_len ?_ (F.args_dict_len_1 _)));show W8 _ _ (dictSize a>>=_) _ _ s;unfold dictSize;refine W0 (W0 (JH d.get d.data (W4 ?_)));show W8 _ _ (Builtin.Dict.pendingCount a>>=_) _ _ s;refine W0 (wpAny_pendingCount_other hS ?_);refine wpAny_ret_mkInt ?_;show W8 _ _ _ _ _ {s with toks:=s.toks+1};rw[hz];refine W0 (WC (W4 ?_));refine W0 (wpAny_letGo ?_);rw[WZ]at z;show W8 _ _ (if((ao.length:Nat):Int)<0 then _ else _) _ _ _;rw[if_neg Y'];show W8 _ _ (if((ao.length:Nat):Int)≥2^63 then _ else _) _ _ _;rw[if_neg Y'];exact W0 (wpAny_mkInt (W4 ⟨_,rfl,h _ _ (I.tok _)⟩))
theorem Xz:eF X (.builtin "len") λxs H Q=>∃a ep ao,xs=[V.ref a]/\H a=some (.dN ep ao)/\Q (.int ao.length) H:=by intro pins s Y H xs us Q I r h;obtain⟨a,ep,ao,rfl,ha,q⟩:=h;obtain⟨u,rfl,ru⟩:=f9 r;cases ru;exact Xy I ha λt s' I'=>⟨.int ao.length,H,I',⟨t,rfl⟩,q⟩
end
section
variable{o f:Expr}{ff:DE}
noncomputable def j8:D->Option S|.dic ds=>some (.pure (.int ds.length))|_=>none
set_option tactic.hygienic true in theorem XA:jm (λv H Q=>∃a ep ao,v=V.ref a/\H a=some (.dN ep ao)/\Q (.int ao.length) H) j8:=by
 intro c Y Z H x d s Q k rx hp q;cases d<;>first|(simp[j8]at hp;done)|skip
 rename_i ds;cases hp;obtain⟨a,ep,ws,e,ha,dn⟩:=y8 rx;exact⟨a,ep,ws,e,ha,%[dn.len|q _ H (.refl k) (.int _)]⟩
theorem XB(hg:Gl X "len")(hm:X.mg "len"=none)(he:SB X c e fb)(hs:W9 [e] X.env=(false,eval e X.env)::W9 [] X.env:=by rfl):SE X c (.Call (.Name "len" pp) [e] [] pos) (aF j8 fb):=qu Xz (λv H Q h=>by obtain⟨a,ep,ao,e,h⟩:=h;exact⟨a,ep,ao,by rw[e],h⟩) XA hg hm PySem.boot_len he Z' Z' hs
end
theorem XD{es}(hd:(d==Qt)=false)(hT:s.TypeIs (.ref d) "dict")(ho:s.heap.get? d=some o)(mf:o.data=.dict es ep)(hQ:Q (.ref s.heap.objs.size) {s with heap:=s.heap.push {cls:=.type "dict_keyiterator",data:=.fields #[.ref d,.int 0 0,.int es.size 0,.int ep 0]}}):W8 (model prog w) A (pyIter (.ref d)) Q E s:=by refine wpAny_pyIter_slot hT F.slot_dict_iter (WS F.slot_dict_iter hT F.entry_dict_iter ?_ (F.args_dict_iter_1 _));unfold Builtin.«dict.__iter__»;refine W0 ?_;unfold Builtin.Dict.dictSlotNone;refine W0 (JM hT ?_);show W8 _ _ (pure (Value.ref d)) _ _ s;refine W4 ?_;show W8 _ _ (Builtin.Dict.showsAll d>>=_) _ _ s;unfold Builtin.Dict.showsAll;rw[if_neg %[hd|WN]];refine W0 (W4 (W0 (JH ho mf (W0 (wpAny_dictEpoch ho mf ?_)))));refine W0 (Qg (W4 ⟨_,rfl,"dict_keyiterator",_,⟨_,Wf _ rfl,rfl⟩,F.slot_dict_keyiterator_next.lookup,?_⟩));simpa[WW]using hQ
theorem nextK{od es e Q}(hit:s.heap.IsKeyIter it d i es.size ep)(rh:s.heap.get? d=some od)(iQ:od.data=.dict es ep)(hx:es[i]?=some e)(hQ:∀h',h'.IsKeyIter it d (i+1) es.size ep->J4 it s.heap h'->Q (some e.key) {s with heap:=h'}):W8 (model prog w) A (QE (.ref it)) Q E s:=by
 obtain⟨o,ho,hc,hd⟩:=id hit;unfold QE;refine W0 (wpAny_attempt (Q0 (name:=Str.ofString "__next__") hit.typeIs QX (WS QX hit.typeIs F.entry_dict_keyiterator_next ?_ (F.args_dict_keyiterator_next_1 _))));refine W0 (W4 (W0 (W0 ?_)));refine W0 (QT hit.typeIs (W4 ?_));refine W0 (wpAny_fieldsOf ho hd ?_);have m9:Builtin.Dict_items.ownsTuple "dict_keyiterator"=false:=by decide
 simp only[m9,Q8,if_false];show W8 _ _ (if(Value.ref d==Value.none)=true then _ else _) _ _ s;rw[if_neg (show¬(Value.ref d==Value.none)=true from WN)];refine W0 (W4 (W0 (JH rh iQ ?_)));rw[if_neg U'];refine W0 (W4 (W0 (wpAny_dictEpoch rh iQ ?_)));rw[if_neg U'];refine W4 ?_;simp only[show¬(i:Int)<0from Y',if_false,QF,hx];refine W0 ?_;refine W0 (QT hit.typeIs (W4 ?_));refine W0 (wpAny_isOneOf_keyiter hit.typeIs ?_);show W8 _ _ (setField (.ref it) 1 (WW ((i:Int)+1))>>=_) _ _ s;refine W0 (Jp ho hd U' ?_);have oY:(s.heap.update it (Obj.mapFields (·.setIfInBounds 1 (WW ((i:Int)+1))))).IsKeyIter it d (i+1) es.size ep:=⟨_,Qb _ ho (Obj.isFreed_of_fields (Obj.data_mapFields hd _)),(Obj.cls_mapFields ..).trans hc,by rw[Obj.data_mapFields hd];simp[WW]⟩;refine W0 (WC ?_);refine W0 (wpAny_isOneOf_keyiter (s:={s with heap:=s.heap.update it (Obj.mapFields (·.setIfInBounds 1 (WW ((i:Int)+1))))}) oY.typeIs ?_);show W8 _ _ (pure e.key) _ _ _;exact W4 (W4 ⟨_,rfl,W4 (hQ _ oY (QU ..))⟩)
theorem XE{od es Q}(hh:A.handled=none)(hit:s.heap.IsKeyIter it d i es.size ep)(rh:s.heap.get? d=some od)(iQ:od.data=.dict es ep)(hx:es.size<=i)(hQ:∀h',Heap.ExtBut it s.heap h'->Q none {s with heap:=h'}):W8 (model prog w) A (QE (.ref it)) Q E s:=by
 obtain⟨o,ho,hc,hd⟩:=id hit;unfold QE;refine W0 (wpAny_attempt (Q0 (name:=Str.ofString "__next__") hit.typeIs QX (WS QX hit.typeIs F.entry_dict_keyiterator_next ?_ (F.args_dict_keyiterator_next_1 _))));refine W0 (W4 (W0 (W0 ?_)));refine W0 (QT hit.typeIs (W4 ?_));refine W0 (wpAny_fieldsOf ho hd ?_);have m9:Builtin.Dict_items.ownsTuple "dict_keyiterator"=false:=by decide
 simp only[m9,Q8,if_false];show W8 _ _ (if(Value.ref d==Value.none)=true then _ else _) _ _ s;rw[if_neg (show¬(Value.ref d==Value.none)=true from WN)];refine W0 (W4 (W0 (JH rh iQ ?_)));rw[if_neg U'];refine W0 (W4 (W0 (wpAny_dictEpoch rh iQ ?_)));rw[if_neg U'];refine W4 ?_;simp only[show¬(i:Int)<0from Y',if_false,QF,Array.getElem?_eq_none hx];refine W0 ?_;refine W0 (QT hit.typeIs (W4 ?_));exact Xq (j:=0) hh ho hd U' hQ
theorem XF{es}(lo:(d==Qt)=false):PySem.W.KdlSrc prog w "dict" d d es.size (λi v=>∃e,es[i]?=some e/\e.key=v) λh=>∃o,mx w h d ep xs o es where
 type:=λ_⟨_,hm⟩=>hm.typeIs
 there:=λ_⟨_,hm⟩=>⟨Wh hm.get,Wh hm.get⟩
 keep:=λ_ _⟨o,hm⟩hk=>⟨o,hk d (.inl rfl) o hm.get,hm.ex,hm.data,hm.ents,hm.j7⟩
 notList:=by decide
 notTuple:=by decide
 hint:=λ_ _ _ _⟨_,hm⟩hq=>PySem.W.kdl_hint_dict hm.typeIs hq
 iter:=λA s hh⟨o,hm⟩=>⟨_,λi h=>h.IsKeyIter s.heap.objs.size d i es.size ep/\∃o,mx w h d ep xs o es,λj j hq=>XD lo hm.typeIs hm.get hm.data hq,{
 sub:=λb hb=>by simp at hb;simp[hb]
 frame:=λj j j st hk=>⟨st.1.at λo e=>hk _ U' o e,let⟨o,m⟩:=st.2;⟨o,hk d U' o m.get,m.ex,m.data,m.ents,m.j7⟩⟩
 item:=λi s1 Q E hi st hQ=>by obtain⟨st1,o1,m1⟩:=st;have hx:es[i]?=some es[i]:=#v[hi];have bN:d≠s.heap.objs.size:=WG (Wh hm.get);exact nextK st1 m1.get m1.data hx λh' oY gK=>hQ _ h' s1.toks ⟨_,hx,rfl⟩ ⟨oY,o1,gK.extBut d o1 bN m1.get,m1.ex,m1.data,m1.ents,m1.j7⟩ λb o hb e=>gK.extBut b o (λh=>hb #v[h]) e
 done:=λs1 Q E st hQ=>by obtain⟨st1,o1,m1⟩:=st;exact XE hh st1 m1.get m1.data (Wc _) λh' tW=>hQ h' s1.toks λb o hb e=>tW b o (λh=>hb #v[h]) e
 self:=λj j j j st hQ=>wpAny_pyIter_keyiter st.1 hQ},⟨⟨_,Wf _ rfl,rfl,rfl⟩,o,W5 _ hm.get,hm.ex,hm.data,hm.ents,hm.j7⟩⟩
theorem GV{w:Ws}:∀{ao:List NE}{xs:List (NK×Value×Value)}{us:List Value},dX ao xs->us.length=xs.length->(∀(j:Nat)v,us[j]?=some v->∃x,xs[j]?=some x/\x.2.1=v)->Vals (ao.map (·.2.1)) us|[],_,[],.nil,_,_=>.nil|[],_,_::_,.nil,h,_=>by simp at h|p::r,_,[],.cons _ _,h,_=>by simp at h|p::r,q::vs,u::us,.cons h1 h2,hl,hk=>by refine .cons ?_ (GV (w:=w) h2 (~~~hl) λj v e=>by simpa using hk (j+1) v (~~~e));obtain⟨x,e,z⟩:=hk 0 u rfl;simp at e;subst e;rw[<-z];exact h1.2.1
theorem DN.GX:∀{ws:List NE}{ds:List (D×D)},DN H O ws ds->aH H O (ws.map (·.2.1)) (ds.map (·.1))|[],[],_=>.nil|[],_::_,r=>by have:=r.len;simp at this|_::_,[],r=>by have:=r.len;simp at this|p::ws,q::ds,r=>by obtain⟨r1,_,_,r4⟩:=r.un;exact .cons r1 (DN.GX r4)
abbrev fY(h:Heap)(z TI TO:Addr)(v0:Value)(f:Bool):Prop:=h.get? z=some {cls:=.type "zip",dict:=none,data:=.fields #[v0,.bool f,.bool false,.ref TI,.ref TO],slots:=#[]}
theorem XG{Q}(ho:s.heap.get? a=none)(h:Q none s):W8 (model prog w) A (loadIfAlive a) Q E s:=by have h':Q (s.heap.get? a) s:=%[ho|h];exactλj j j=>h'
theorem GY{TI TO f Q}(hz:fY s.heap z TI TO v0 f)(hv:v0=.none\/∃p:Addr,v0=WW p/\s.heap.get? p=none)(h:Q true s):W8 (model prog w) A (WP (.ref z)) Q E s:=by
 unfold WP;rcases hv with rfl|⟨p,rfl,hp⟩;.exact W0 (WK hz rfl (x:=.none) rfl (W4 h))
 .refine W0 (WK hz rfl (x:=WW p) rfl ?_);show W8 _ _ (loadIfAlive (p:Int).toNat>>=_) _ _ _;rw[QF];exact W0 (XG hp (W4 h))
theorem XH{z TI TO:Addr}{a b:Value}{f:Bool}(D1:Draws prog w A i1 f1 n1 P1 S1)(D2:Draws prog w A i2 f2 n2 P2 S2)(C:ZA z TI TO i1 i2 f1 f2)(hz:fY s.heap z TI TO v0 f)(hv:v0=.none\/∃p:Addr,v0=WW p/\s.heap.get? p=none)(hI:IsPair s.heap TI (.ref i1) (.ref i2))(hO:IsPair s.heap TO a b)(g1:S1 i s.heap)(g2:S2 i s.heap)(l1:i<n1)(l2:i<n2)(q:∀x y h' tk,P1 i x->P2 i y->fY h' z TI TO (WW s.heap.objs.size) false->IsPair h' TO x y->S1 (i+1) h'->S2 (i+1) h'->IsPair h' s.heap.objs.size x y->(∀c o,c≠z->c≠TO->c≠i1->c≠i2->s.heap.get? c=some o->h'.get? c=some o)->Q (.ref s.heap.objs.size) {s with heap:=h',toks:=tk}):W8 (model prog w) A (Builtin.«zip.__next__» ⟨[.ref z],[]⟩) (λfin s'=>∃v,fin=.done (.ret v)/\Q v s') E s:=by
 have i1z:i1≠z:=λe=>C.z1 (e▸C.m1);have i2z:i2≠z:=λe=>C.z2 (e▸C.m2);have rj:TO≠i1:=λe=>C.t1 (e▸C.m1);have zc:TO≠i2:=λe=>C.t2 (e▸C.m2);have i12:i1≠i2:=λe=>C.k1 (e▸C.m2);show W8 _ _ (field (.ref z) 2>>=_) _ _ _;refine W0 (WK hz rfl (x:=.bool false) rfl ?_);show W8 _ _ (field (.ref z) 3>>=_) _ _ _;refine W0 (WK hz rfl (x:=.ref TI) rfl (W0 (Qn hI rfl ?_)));show W8 _ _ (WP (.ref z)>>=_) _ _ _;refine W0 ?_;refine GY hz hv ?_;simp only[if_true];refine W0 (QC (W0 (WK hz rfl (x:=.ref TO) rfl (W0 (QB hz U' λh1 gD s1=>?_)))));replace gD:fY h1 z TI TO .ellipsis f:=gD;refine W0 ?_;simp only[List.zipIdx_cons,List.zipIdx_nil,JE,JJ];refine W0 (W0 (wpAny_onRaise ?_));show W8 _ _ (WJ (.ref i1)>>=_) _ _ _;have e1:S1 i h1:=D1.frame _ _ _ g1 λc hc o e=>s1.extBut _ _ (λx=>C.z1 (x▸hc)) e;refine W0 (D1.item i _ _ _ l1 e1 λx h2 yV p1 e2 s2=>W4 ?_);have rm:IsPair h2 TO a b:=s2.extBut _ _ rj (s1.extBut _ _ C.tz hO);refine W0 (Qn rm rfl (W0 (wpAny_updateSeq_pair rm λh3 vn s3=>?_)));replace vn:IsPair h3 TO x b:=vn;refine W0 (wpAny_letGo (W4 (W0 (W0 (wpAny_onRaise ?_)))));show W8 _ _ (WJ (.ref i2)>>=_) _ _ _;have e3:S2 i h3:=D2.frame _ _ _ g2 λc hc o e=>s3.extBut _ _ (λx=>C.t2 (x▸hc)) (s2.extBut _ _ (λx=>C.k1 (x▸hc)) (s1.extBut _ _ (λx=>C.z2 (x▸hc)) e));refine W0 (D2.item i _ _ _ l2 e3 λy h4 VL p2 e4 s4=>W4 ?_);have G0:IsPair h4 TO x b:=s4.extBut _ _ zc vn;refine W0 (Qn G0 rfl (W0 (wpAny_updateSeq_pair G0 λh5 vo s5=>?_)));replace vo:IsPair h5 TO x y:=vo;refine W0 (wpAny_letGo (W4 (W4 (W0 (Qn vo rfl (W0 (wpAny_newTuple ?_)))))));have hsz:h5.objs.size=s.heap.objs.size:=by rw[s5.1,s4.1,s3.1,s2.1,s1.1]
 have G1:fY h5 z TI TO .ellipsis f:=s5.extBut _ _ C.tz.symm (s4.extBut _ _ i2z.symm (s3.extBut _ _ C.tz.symm (s2.extBut _ _ i1z.symm gD)));have k5:∀c o,c≠z->c≠TO->c≠i1->c≠i2->s.heap.get? c=some o->h5.get? c=some o:=λc o c1 c2 c3 c4 e=>s5.extBut _ _ c2 (s4.extBut _ _ c4 (s3.extBut _ _ c2 (s2.extBut _ _ c3 (s1.extBut _ _ c1 e))));have r1:S1 (i+1) h5:=D1.frame _ _ _ e2 λc hc o e=>s5.extBut _ _ (λx=>C.t1 (x▸hc)) (s4.extBut _ _ (λx=>C.k2 (x▸hc)) (s3.extBut _ _ (λx=>C.t1 (x▸hc)) e));have r2:S2 (i+1) h5:=D2.frame _ _ _ e4 λc hc o e=>s5.extBut _ _ (λx=>C.t2 (x▸hc)) e;have zl:z<h5.objs.size:=Wh G1;show W8 _ _ (Builtin.SmallTypes.ownedTupleHandOut (.ref z) (.ref h5.objs.size)>>=_) _ _ _;refine W0 ?_;unfold Builtin.SmallTypes.ownedTupleHandOut;have XI:fY (h5.push {cls:=.type "tuple",data:=.seq #[x,y]}) z TI TO .ellipsis f:=W5 _ G1;refine W0 (QB XI U' λh7 zd s7=>?_);replace zd:fY h7 z TI TO (WW h5.objs.size) f:=zd;refine QB zd U' λh8 vp s8=>?_;replace vp:fY h8 z TI TO (WW h5.objs.size) false:=vp;have up:∀c o,c≠z->h5.get? c=some o->h8.get? c=some o:=λc o c1 e=>s8.extBut _ _ c1 (s7.extBut _ _ c1 (W5 _ e));have hT:IsPair h8 h5.objs.size x y:=s8.extBut _ _ (Qq zl) (s7.extBut _ _ (Qq zl) (Wf _ rfl));rw[hsz]at vp hT;refine W4 ⟨_,rfl,?_⟩;show Q (.ref h5.objs.size) _;rw[hsz];exact q x y h8 _ p1 p2 vp (up _ _ C.tz vo) (D1.frame _ _ _ r1 λc hc o e=>up c o (λx=>C.z1 (x▸hc)) e) (D2.frame _ _ _ r2 λc hc o e=>up c o (λx=>C.z2 (x▸hc)) e) hT λc o c1 c2 c3 c4 e=>up c o c1 (k5 c o c1 c2 c3 c4 e)
theorem XJ{TI TO f a Q}(D1:Draws prog w A i1 f1 n1 P1 S1)(D2:Draws prog w A i2 f2 n2 P2 S2)(C:ZA z TI TO i1 i2 f1 f2)(hz:fY s.heap z TI TO v0 f)(hv:v0=.none\/∃p:Addr,v0=WW p/\s.heap.get? p=none)(hI:IsPair s.heap TI (.ref i1) (.ref i2))(hO:IsPair s.heap TO a b)(g1:S1 i s.heap)(g2:S2 i s.heap)(l:i=n1\/i<n1/\i=n2)(q:∀h' tk e,(∀c o,c≠z->c≠TO->c≠i1->c≠i2->s.heap.get? c=some o->h'.get? c=some o)->(∃o,h'.get? e=some o/\o.cls=.type "StopIteration")->E (.ref e) {s with heap:=h',toks:=tk}):W8 (model prog w) A (Builtin.«zip.__next__» ⟨[.ref z],[]⟩) Q E s:=by
 have i1z:i1≠z:=λe=>C.z1 (e▸C.m1);have i2z:i2≠z:=λe=>C.z2 (e▸C.m2);have rj:TO≠i1:=λe=>C.t1 (e▸C.m1);show W8 _ _ (field (.ref z) 2>>=_) _ _ _;refine W0 (WK hz rfl (x:=.bool false) rfl ?_);show W8 _ _ (field (.ref z) 3>>=_) _ _ _;refine W0 (WK hz rfl (x:=.ref TI) rfl (W0 (Qn hI rfl ?_)));show W8 _ _ (WP (.ref z)>>=_) _ _ _;refine W0 ?_;refine GY hz hv ?_;simp only[if_true];refine W0 (QC (W0 (WK hz rfl (x:=.ref TO) rfl (W0 (QB hz U' λh1 gD s1=>?_)))));replace gD:fY h1 z TI TO .ellipsis f:=gD;refine W0 ?_;simp only[List.zipIdx_cons,List.zipIdx_nil,JE,JJ];refine W0 (W0 (wpAny_onRaise ?_));show W8 _ _ (WJ (.ref i1)>>=_) _ _ _;have e1:S1 i h1:=D1.frame _ _ _ g1 λc hc o e=>s1.extBut _ _ (λx=>C.z1 (x▸hc)) e;rcases l with l|⟨l,l'⟩
 .subst l;refine W0 (D1.done _ _ _ e1 λh2 e s2⟨oe,he,ce⟩=>?_);have vq:fY h2 z TI TO .ellipsis f:=s2 _ _ i1z.symm gD;have ez:e≠z:=λx=>by subst x;rw[vq]at he;cases he;simp at ce
  exact QB vq U' λh3 j s3=>q h3 _ e (λc o c1 j c3 j x=>s3.extBut _ _ c1 (s2 _ _ c3 (s1.extBut _ _ c1 x))) ⟨oe,s3.extBut _ _ ez he,ce⟩
 .refine W0 (D1.item i _ _ _ l e1 λx h2 yV p1 e2 s2=>W4 ?_);have rm:IsPair h2 TO a b:=s2.extBut _ _ rj (s1.extBut _ _ C.tz hO);refine W0 (Qn rm rfl (W0 (wpAny_updateSeq_pair rm λh3 vn s3=>?_)));refine W0 (wpAny_letGo (W4 (W0 (W0 (wpAny_onRaise ?_)))));show W8 _ _ (WJ (.ref i2)>>=_) _ _ _;have e3:S2 i h3:=D2.frame _ _ _ g2 λc hc o e=>s3.extBut _ _ (λx=>C.t2 (x▸hc)) (s2.extBut _ _ (λx=>C.k1 (x▸hc)) (s1.extBut _ _ (λx=>C.z2 (x▸hc)) e));subst l';refine W0 (D2.done _ _ _ e3 λh4 e s4⟨oe,he,ce⟩=>?_);have vj:fY h4 z TI TO .ellipsis f:=s4 _ _ i2z.symm (s3.extBut _ _ C.tz.symm (s2.extBut _ _ i1z.symm gD));have ez:e≠z:=λx=>by subst x;rw[vj]at he;cases he;simp at ce
  exact QB vj U' λh5 j s5=>q h5 _ e (λc o c1 c2 c3 c4 x=>s5.extBut _ _ c1 (s4 _ _ c4 (s3.extBut _ _ c2 (s2.extBut _ _ c3 (s1.extBut _ _ c1 x))))) ⟨oe,s5.extBut _ _ ez he,ce⟩
theorem XM{z TI TO:Addr}{a b:Value}{f:Bool}{Q:Option Value->W2->Prop}(D1:Draws prog w A.in1 i1 f1 n1 P1 S1)(D2:Draws prog w A.in1 i2 f2 n2 P2 S2)(C:ZA z TI TO i1 i2 f1 f2)(hz:fY s.heap z TI TO v0 f)(hv:v0=.none\/∃p:Addr,v0=WW p)(hI:IsPair s.heap TI (.ref i1) (.ref i2))(hO:IsPair s.heap TO a b)(g1:S1 i s.heap)(g2:S2 i s.heap)(l1:i<n1)(l2:i<n2)(q:∀x y h' tk(p':Addr)f',P1 i x->P2 i y->fY h' z TI TO (WW p') f'->(∃a b,IsPair h' TO a b)->S1 (i+1) h'->S2 (i+1) h'->IsPair h' s.heap.objs.size x y->(∀c o,c≠z->c≠TO->c≠i1->c≠i2->s.heap.get? c=some o->h'.get? c=some o)->Q (some (.ref s.heap.objs.size)) {s with heap:=h',toks:=tk}):W8 (model prog w) A (QE (.ref z)) Q E s:=by
 have ty:s.TypeIs (.ref z) "zip":=⟨_,hz,rfl⟩;have rj:TO≠i1:=λe=>C.t1 (e▸C.m1);have zc:TO≠i2:=λe=>C.t2 (e▸C.m2);unfold QE;refine W0 (wpAny_attempt (Q0 (name:=Str.ofString "__next__") ty F.slot_zip_next (WS F.slot_zip_next ty F.entry_zip_next ?_ (F.args_zip_next_1 _))));have cs:(v0=.none\/∃p:Addr,v0=WW p/\s.heap.get? p=none)\/∃(p:Addr)(oa:Obj),v0=WW p/\s.heap.get? p=some oa:=by
  rcases hv with e|⟨p,e⟩;.exact .inl (.inl e)
  .cases hp:s.heap.get? p with|none=>exact .inl (.inr ⟨p,e,hp⟩)|some oa=>exact .inr ⟨p,oa,e,hp⟩
 rcases cs with hf|⟨p,oa,e,hp⟩;.exact XH D1 D2 C hz hf hI hO g1 g2 l1 l2 λx y h' tk b1 b2 b3 b4 b5 b6 b7 b8=>W4 (q x y h' tk _ _ b1 b2 b3 ⟨_,_,b4⟩ b5 b6 b7 b8)
 .subst e;exact VJ D1 D2 C hz hp hI g1 g2 l1 l2 λx y h' tk b1 b2 b3 b5 b6 b7 b8 b9=>W4 (q x y h' tk _ _ b1 b2 b3 ⟨_,_,b9 _ _ C.tz rj zc hO⟩ b5 b6 b7 λc o c1 j c3 c4 e=>b9 c o c1 c3 c4 e)
theorem XN{TI TO f a Q}(D1:Draws prog w A.in1 i1 f1 n1 P1 S1)(D2:Draws prog w A.in1 i2 f2 n2 P2 S2)(C:ZA z TI TO i1 i2 f1 f2)(hz:fY s.heap z TI TO v0 f)(hv:v0=.none\/∃p:Addr,v0=WW p)(hI:IsPair s.heap TI (.ref i1) (.ref i2))(hO:IsPair s.heap TO a b)(g1:S1 i s.heap)(g2:S2 i s.heap)(l:i=n1\/i<n1/\i=n2)(q:∀h' tk,(∀c o,c≠z->c≠TO->c≠i1->c≠i2->s.heap.get? c=some o->h'.get? c=some o)->Q none {s with heap:=h',toks:=tk}):W8 (model prog w) A (QE (.ref z)) Q E s:=by
 have ty:s.TypeIs (.ref z) "zip":=⟨_,hz,rfl⟩;unfold QE;refine W0 (wpAny_attempt (Q0 (name:=Str.ofString "__next__") ty F.slot_zip_next (WS F.slot_zip_next ty F.entry_zip_next ?_ (F.args_zip_next_1 _))));have cs:(v0=.none\/∃p:Addr,v0=WW p/\s.heap.get? p=none)\/∃(p:Addr)(oa:Obj),v0=WW p/\s.heap.get? p=some oa:=by
  rcases hv with e|⟨p,e⟩;.exact .inl (.inl e)
  .cases hp:s.heap.get? p with|none=>exact .inl (.inr ⟨p,e,hp⟩)|some oa=>exact .inr ⟨p,oa,e,hp⟩
 rcases cs with hf|⟨p,oa,e,hp⟩;.refine XJ D1 D2 C hz hf hI hO g1 g2 l λh' tk e k⟨o,ho,hc⟩=>?_;exact W0 (wpAny_isInstance (T:="StopIteration") (b:=true) ⟨o,ho,hc⟩ isSubtype_stop (W4 (q _ _ k)))
 .subst e;refine VM D1 D2 C hz hp hI g1 g2 l λh' tk e k⟨o,ho,hc⟩=>?_;exact W0 (wpAny_isInstance (T:="StopIteration") (b:=true) ⟨o,ho,hc⟩ isSubtype_stop (W4 (q _ _ λc o c1 j c3 c4 x=>k c o c1 c3 c4 x)))
theorem aG.XO(k:Ok c Y Z H)(ext:∀a o,H a=some o->H2 a=some o):aG c Y Z H Y Z H2:=by
 refine⟨⟨λa o h n=>ext a o (k.keep a o h n),λa z=>(k.bd a z).elim λo h=>⟨o,ext a o h⟩,λa z=>(k.cR a z).elim λo h=>⟨o,ext a o h⟩,k.len,λj d q=>?_,λj d q=>?_,k.inj,k.pinned⟩,λa o h y=>ext a o h,λa h=>.inl h,λa o h=>⟨o,ext a o h⟩⟩;.obtain⟨v,g1,g2⟩:=k.slot j d q;exact⟨v,g1,g2.keep λb w e y=>ext b w e⟩
 .obtain⟨b,g1,g2,g3,g4⟩:=k.own j d q;exact⟨b,g1,g2.keep (λb w e y=>ext b w e) λw e=>ext b w e,g3,g4⟩
inductive Sd where|sq(b:Bool)(a:Addr)|tx(x:Str)(t:Tok)
def Sd.val:Sd->Value|.sq _ a=>.ref a|.tx x t=>.str x t
def Sd.obj:Sd->Obj|.sq b a=>FR b a|.tx x t=>{cls:=.type (Jn x),data:=.fields #[.str x t,.int 0 0]}
def Sd.there(h:Heap):Sd->Prop|.sq b a=>∃its,kY b h a its|.tx _ _=>True
def Sd.at(h:Heap)(it:Addr)(i:Nat):Sd->Prop|.sq b a=>FQ b h it a i|.tx x t=>h.IsStrIter it (Jn x) x t i
def Sd.fp:Sd->List Addr|.sq _ a=>[a]|.tx _ _=>[]
theorem Sd.live{S:Sd}{h:Heap}(q:S.at h it i):∃o,h.get? it=some o/\∀v,o.data≠.cell v:=by
 cases S with|sq b a=>
 cases b;.obtain⟨o,e,c,d⟩:=(q:h.IsTupleIter it a i);exact⟨o,e,λv z=>by rw[d]at z;cases z⟩
 .obtain⟨o,e,c,d⟩:=(q:h.IsListIter it a i);exact⟨o,e,λv z=>by rw[d]at z;cases z⟩|tx x t=>obtain⟨o,e,c,d⟩:=(q:h.IsStrIter it _ x t i);exact⟨o,e,λv z=>by rw[d]at z;cases z⟩
theorem Sd.fm{S:Sd}{h:Heap}(q:S.at h it i)(k:∀o,h.get? it=some o->h'.get? it=some o):S.at h' it i:=by
 cases S with|sq b a=>
 cases b;.obtain⟨o,e,r⟩:=(q:h.IsTupleIter it a i);exact⟨o,k o e,r⟩
 .obtain⟨o,e,r⟩:=(q:h.IsListIter it a i);exact⟨o,k o e,r⟩|tx x t=>obtain⟨o,e,r⟩:=(q:h.IsStrIter it _ x t i);exact⟨o,k o e,r⟩
theorem Sd.iter{prog:Wn}{w:Ws}{A:Wp}{E:Value->W2->Prop}{S:Sd}(h:S.there s.heap)(q:Q (.ref s.heap.objs.size) {s with heap:=s.heap.push S.obj}):W8 (model prog w) A (pyIter S.val) Q E s:=by cases S with|sq b a=>obtain⟨its,h⟩:=h;exact Vj h q|tx x t=>exact wpAny_pyIter_strU q
theorem Sd.push{S:Sd}{h:Heap}(q:S.there h)(o:Obj):S.there (h.push o):=by cases S with|sq b a=>obtain⟨its,q⟩:=q;exact⟨its,q.push o⟩|tx x t=>trivial
abbrev vt(h:Heap)(a:Obj):Heap:=h.push a
abbrev vw(h:Heap)(a b:Obj):Heap:=(vt h a).push b
abbrev vx(h:Heap)(a b:Obj):Heap:=(vw h a b).push {cls:=.type "tuple",data:=.seq #[.ref h.objs.size,.ref (vt h a).objs.size]}
abbrev vy(h:Heap)(a b:Obj):Heap:=(vx h a b).push {cls:=.type "tuple",data:=.seq #[.none,.none]}
abbrev px(h:Heap)(a b:Obj):Heap:=(vy h a b).push {cls:=.type "zip",data:=.fields #[.none,.bool false,.bool false,.ref (vw h a b).objs.size,.ref (vx h a b).objs.size]}
theorem XQ(S T:Sd):Meets (Builtin.«zip.__new__» ⟨[.type "zip",S.val,T.val],[]⟩) λj R s=>S.there s.heap/\T.there s.heap/\R (.ok (.ret (.ref (vy s.heap S.obj T.obj).objs.size))) {s with heap:=px s.heap S.obj T.obj}:=.of_wp λprog w A R s h=>by obtain⟨hp,g,d,tk,os⟩:=s;obtain⟨h1,h2,h⟩:=h;have kW:=sub_zip;have p1:∀{A:Wp}{E:Value->W2->Prop}{s:W2}{Q:Value->W2->Prop},S.there s.heap->Q (.ref s.heap.objs.size) {s with heap:=s.heap.push S.obj}->W8 (model prog w) A (pyIter S.val) Q E s:=λq h=>Sd.iter q h;have p2:∀{A:Wp}{E:Value->W2->Prop}{s:W2}{Q:Value->W2->Prop},T.there s.heap->Q (.ref s.heap.objs.size) {s with heap:=s.heap.push T.obj}->W8 (model prog w) A (pyIter T.val) Q E s:=λq h=>Sd.iter q h;have h1:S.there (Shared.heap ⟨hp,g,d,tk,os⟩):=h1;have h2:T.there (Shared.heap ⟨hp.push S.obj,g,d,tk,os⟩):=Sd.push h2 _;generalize S.val=u1 at*;generalize T.val=u2 at*;generalize S.obj=o1 at*;generalize T.obj=o2 at*;wp_walk using p1 h1,p2 h2;exact⟨_,rfl,h⟩
def pz(S T:Sd)(n i:Nat)(h:Heap):Prop:=(∃v0 f,fY h (n+4) (n+2) (n+3) v0 f/\(v0=.none\/∃p:Addr,v0=WW p))/\IsPair h (n+2) (.ref n) (.ref (n+1))/\(∃a b,IsPair h (n+3) a b)/\S.at h n i/\T.at h (n+1) i
abbrev fH(n:Nat):List Addr:=[n+4,n+2,n+3,n,n+1]
theorem G2{S}(h1:S.there s.heap)(h2:T.there s.heap)(h:∀h',pz S T s.heap.objs.size 0 h'->IsZip h' (s.heap.objs.size+4) (s.heap.objs.size+2) (s.heap.objs.size+3) .none->(∀c o,s.heap.get? c=some o->h'.get? c=some o)->Q (.ref (s.heap.objs.size+4)) {s with heap:=h'}):W8 (model prog w) A (call (.type "zip") [S.val,T.val]) Q E s:=by
 refine callType_new F.called_zip Z' (F.typeCall_zip_2 _ _) (F.newCall_zip_2 _ _) (λobj=>F.args_object_init_3 obj _ _) F.entry_zip_new (XQ S T) ⟨h1,h2,?_⟩;have z1:(vt s.heap S.obj).objs.size=s.heap.objs.size+1:=QV ..;have z2:(vw s.heap S.obj T.obj).objs.size=s.heap.objs.size+2:=by rw[QV,z1]
 have z3:(vx s.heap S.obj T.obj).objs.size=s.heap.objs.size+3:=by rw[QV,z2]
 have z4:(vy s.heap S.obj T.obj).objs.size=s.heap.objs.size+4:=by rw[QV,z3]
 have up:∀{h:Heap}{o:Obj}{c:Addr}{o':Obj},h.get? c=some o'->(h.push o).get? c=some o':=λe=>W5 _ e;have g5:(px s.heap S.obj T.obj).get? (vy s.heap S.obj T.obj).objs.size=some _:=Wf _ rfl;have g4:(px s.heap S.obj T.obj).get? (vx s.heap S.obj T.obj).objs.size=some _:=up (Wf _ rfl);have g3:(px s.heap S.obj T.obj).get? (vw s.heap S.obj T.obj).objs.size=some _:=up (up (Wf _ rfl));have g2:(px s.heap S.obj T.obj).get? (vt s.heap S.obj).objs.size=some T.obj:=up (up (up (Wf _ (by cases T with|sq b a=>cases b<;>rfl|tx x t=>rfl))));have g1:(px s.heap S.obj T.obj).get? s.heap.objs.size=some S.obj:=up (up (up (up (Wf _ (by cases S with|sq b a=>cases b<;>rfl|tx x t=>rfl)))));have mk:∀{U:Sd}{h:Heap}{it:Addr},h.get? it=some U.obj->U.at h it 0:=λ{U h it}e=>by cases U with|sq b a=>cases b<;>exact⟨_,e,rfl,rfl⟩|tx x t=>exact⟨_,e,rfl,rfl⟩
 show _/\_;rw[z2,z3,z4]at g5;rw[z1,z2]at g3;rw[z3]at g4;rw[z1]at g2;rw[z4];exact⟨⟨_,g5,rfl⟩,h _ ⟨⟨_,_,g5,.inl rfl⟩,g3,⟨_,_,g4⟩,mk g1,mk g2⟩ g5 λc o x=>up (up (up (up (up x))))⟩
theorem XR{TI TO f Q}(hz:fY s.heap z TI TO v0 f)(hv:v0=.none\/∃p:Addr,v0=WW p)(hQ:∀h' vz,fY h' z TI TO vz f->(vz=.none\/∃p:Addr,vz=WW p)->J4 z s.heap h'->Q () {s with heap:=h'}):W8 (model prog w) A (JC tg (.ref z) (.ref T)) Q E s:=by
 have no:Q () s:=hQ s.heap v0 hz hv ⟨rfl,λj j=>rfl⟩;have yes:W8 (model prog w) A (do let o<-load z match o.cls,o.data with|.type n,.fields vs=>if["enumerate","zip","dict_itemiterator","dict_reverseitemiterator","odict_iterator","itertools.zip_longest","itertools.pairwise"].contains n&&vs[0]?==some (WW T)then rule "for.unpacks-the-owned-tuple"updateField z 0 .none|_,_=>pure ()) Q E s:=by
  refine W0 (wpAny_load hz ?_);dsimp only;split;.refine W0 (QC ?_);show W8 _ _ (setField (.ref z) 0 .none) Q E s;exact QB hz U' λh' j9 gK=>hQ h' _ j9 (.inl rfl) gK
  .exact W4 no
 unfold JC;cases tg<;>first|exact yes|exact W4 no
def mz(K:W3)(H:Hp)(xs:List V):Sd->Prop|.sq b a=>nF b K H a xs|.tx x _=>xs=x.cps.toList.map λc=>.str ⟨#[c]⟩
section
variable{S T:Sd}{xs ys:List V}
theorem Inv.side(I:Inv X pins Y H s)(hA:A.handled=none)(hv:mz X.K H xs S)(bN:it∉S.fp):∃St:Nat->Heap->Prop,Draws X.prog X.w A.in1 it (it::S.fp) xs.length (λi v=>∃x,xs[i]?=some x/\RelV x v) St/\(∀i h,St i h->S.at h it i)/\∀i,S.at s.heap it i->St i s.heap:=by cases S with|sq b a=>obtain⟨is,rv,p⟩:=I.FU hv;have D:=Vk (prog:=X.prog) (w:=X.w) (A:=A.in1) b (show A.in1.handled=none from hA) it a (λz=>bN #v[Sd.fp,z]) is.toArray;have hl:is.toArray.size=xs.length:= ~~~rv.length.symm;rw[hl]at D;refine⟨_,⟨D.live,D.frame,λi s Q E hi st hQ=>D.item i s Q E hi st λx h' tk e=>hQ x h' tk ?_,D.done⟩,λi h q=>q.1,λi q=>⟨q,p⟩⟩;obtain⟨u,hu,ru⟩:=rv.get (x:=xs[i]) (show xs[i]?=some xs[i]by simp[hi]);have e:is[i]?=some x:= ~~~e;rw[hu]at e;cases e;exact⟨xs[i],#v[hi],ru⟩|tx x t=>
  obtain rfl:xs=_:=hv;have hT:Jn x="str_ascii_iterator"\/Jn x="str_iterator":=by
   unfold Jn;split;.exact .inl rfl
   .exact .inr rfl
  have D:Draws X.prog X.w A.in1 it [it] x.cps.size (λi v=>∃c u,x.cps[i]?=some c/\v=.str ⟨#[c]⟩ u) λi h=>h.IsStrIter it (Jn x) x t i:=by
   rcases hT with e|e;.rw[e];exact Draws.strAscii (show A.in1.handled=none from hA) it x t
   .rw[e];exact Draws.strWide (show A.in1.handled=none from hA) it x t
  rw[show x.cps.size=(x.cps.toList.map λc=>V.str ⟨#[c]⟩).length by simp]at D;refine⟨_,⟨D.live,D.frame,λi s Q E hi st hQ=>D.item i s Q E hi st λy h' tk⟨c,u,e1,e2⟩=>hQ y h' tk ⟨.str ⟨#[c]⟩,#v[e1],u,e2⟩,D.done⟩,λi h q=>q,λi q=>q⟩
theorem rq(h:b∈fH n):b=n+4\/b=n+2\/b=n+3\/b=n\/b=n+1:= ~~~h
theorem g8(n:Nat)(h:i≠j):(n+i:Addr)≠n+j:=λe=>h (Nat.add_left_cancel e)
theorem G3(h1:∀a∈S.fp,a<n)(h2:∀a∈T.fp,a<n):ZA (n+4) (n+2) (n+3) n (n+1) (n::S.fp) ((n+1)::T.fp):=by
 have k:∀{l:List Addr}{j i:Nat},(∀a∈l,a<n)->j≠i->(n+j:Addr)∉(n+i)::l:=λ{l j i}h e z=>by
  rcases Wt.mp z with z|z;.exact g8 n e z
  .exact absurd (h _ z) (Nat.not_lt.mpr (QY n j))
 exact⟨Wl,Wl,k (i:=0) h1 Z',k h2 Z',k (i:=0) h1 Z',k h2 Z',k (j:=0) h2 Z',k (i:=0) h1 Z',g8 n Z',g8 n Z',g8 n Z',g8 n (j:=0) Z',g8 n Z'⟩
theorem G4{x Q}(I:Inv X pins Y H s)(hA:A.handled=none)(h1:∀a∈S.fp,a<n)(h2:∀a∈T.fp,a<n)(v1:mz X.K H xs S)(v2:mz X.K H ys T)(st:pz S T n i s.heap)(hx:xs[i]?=some x)(hy:ys[i]?=some y)(q:∀u v h' tk,RelV x u->RelV y v->pz S T n (i+1) h'->IsPair h' s.heap.objs.size u v->(∀c o,c∉fH n->s.heap.get? c=some o->h'.get? c=some o)->Q (some (.ref s.heap.objs.size)) {s with heap:=h',toks:=tk}):W8 (model X.prog X.w) A (QE (.ref (n+4))) Q E s:=by obtain⟨⟨v0,f,hz,hv⟩,hI,⟨a,b,hO⟩,q1,q2⟩:=st;obtain⟨St1,D1,a1,b1⟩:=I.side (it:=n) hA v1 λz=>absurd (h1 _ z) (Qd _);obtain⟨St2,D2,a2,b2⟩:=I.side (it:=n+1) hA v2 λz=>absurd (h2 _ z) (Nat.not_lt.mpr (QY n 1));have l1:=(W6.mp hx).1;have l2:=(W6.mp hy).1;refine XM D1 D2 (G3 h1 h2) hz hv hI hO (b1 i q1) (b2 i q2) l1 l2 λu v h' tk p' f' e1 e2 j9 XS s1 s2 hT k=>?_;obtain⟨x',g1,r1⟩:=e1;obtain⟨y',g2,r2⟩:=e2;rw[hx]at g1;cases g1;rw[hy]at g2;cases g2;have k2:∀c o,c∉fH n->s.heap.get? c=some o->h'.get? c=some o:=λc o hc e=>k c o (λz=>hc #v[z]) (λz=>hc #v[z]) (λz=>hc #v[z]) (λz=>hc #v[z]) e;exact q u v h' tk r1 r2 ⟨⟨_,_,j9,.inr ⟨p',rfl⟩⟩,k _ _ (g8 n Z') (g8 n Z') (g8 n (j:=0) Z') (g8 n Z') hI,XS,a1 _ _ s1,a2 _ _ s2⟩ hT k2
theorem G5{Q}(I:Inv X pins Y H s)(hA:A.handled=none)(h1:∀a∈S.fp,a<n)(h2:∀a∈T.fp,a<n)(v1:mz X.K H xs S)(v2:mz X.K H ys T)(st:pz S T n i s.heap)(hl:i=xs.length\/i<xs.length/\i=ys.length)(q:∀h' tk,(∀c o,c∉fH n->s.heap.get? c=some o->h'.get? c=some o)->Q none {s with heap:=h',toks:=tk}):W8 (model X.prog X.w) A (QE (.ref (n+4))) Q E s:=by obtain⟨⟨v0,f,hz,hv⟩,hI,⟨a,b,hO⟩,q1,q2⟩:=st;obtain⟨St1,D1,a1,b1⟩:=I.side (it:=n) hA v1 λz=>absurd (h1 _ z) (Qd _);obtain⟨St2,D2,a2,b2⟩:=I.side (it:=n+1) hA v2 λz=>absurd (h2 _ z) (Nat.not_lt.mpr (QY n 1));exact XN D1 D2 (G3 h1 h2) hz hv hI hO (b1 i q1) (b2 i q2) hl λh' tk k=>q h' tk λc o hc e=>k c o (λz=>hc #v[z]) (λz=>hc #v[z]) (λz=>hc #v[z]) (λz=>hc #v[z]) e
end
def fR(K:W3)(H:Hp)(xs:List V)(b:Bool):V->Prop|.ref a=>nF b K H a xs|.str x=>xs=x.cps.toList.map λc=>.str ⟨#[c]⟩|_=>False
def i5(b:Bool):V->Tok->Sd|.ref a,_=>.sq b a|.str x,t=>.tx x t|_,t=>.tx ⟨#[]⟩ t
section
variable{b:Bool}{xs ys:List V}{t:Tok}
theorem fR.sd(h:fR K H xs b v):mz K H xs (i5 b v t):=by cases v<;>first|exact h|exact h.elim
theorem Inv.vA(I:Inv X pins Y H s)(h:fR X.K H xs b v)(r:RelV v u):∃t,(i5 b v t).val=u/\(i5 b v t).there s.heap/\∀a∈(i5 b v t).fp,a<s.heap.objs.size:=by
 cases v with|ref a=>obtain⟨its,_,p⟩:=I.FU h;cases r;exact⟨0,rfl,⟨_,p⟩,λc hc=>by
 have:c=a:=by simpa[i5,Sd.fp]using hc
 subst this;exact p.lt⟩|str x=>obtain⟨t,rfl⟩:=r;exact⟨t,rfl,trivial,λc hc=>by simp[i5,Sd.fp]at hc⟩|_=>exact h.elim
theorem Inv.G6(I:Inv X pins Y H s)(h:fR X.K H xs b v)(h':fR X.K H ys b v):xs=ys:=by cases v with|ref a=>exact I.Vm h h'|str x=>exact h.trans h'.symm|_=>exact h.elim
end
def G7(K:W3)(b1 b2:Bool)(v w:V):It:=⟨λi H=>∃xs ys x y,fR K H xs b1 v/\fR K H ys b2 w/\xs[i]?=some x/\ys[i]?=some y,λi H z H'=>∃p x y,H p=none/\(∀xs,fR K H xs b1 v->xs[i]?=some x)/\(∀ys,fR K H ys b2 w->ys[i]?=some y)/\H'=upd H p (.tup [x,y])/\z=.ref p,λi H=>∃xs ys,fR K H xs b1 v/\fR K H ys b2 w/\(i=xs.length\/i<xs.length/\i=ys.length)⟩
theorem XT(b1 b2:Bool)(x y:V)(t u:Tok)(n:Nat)(h1:∀a∈(i5 b1 x t).fp,a<n)(h2:∀a∈(i5 b2 y u).fp,a<n):Turn P w K tg (G7 K b1 b2 x y) (fH n) (n+4) (pz (i5 b1 x t) (i5 b2 y u) n):=by
 refine⟨U',?_,?_,?_,?_,?_⟩
 .rintro i h⟨⟨v0,f,hz,_⟩,hI,⟨a,b,hO⟩,q1,q2⟩c hc;rcases rq hc with e|e|e|e|e<;>subst e;.exact⟨_,hz,λv z=>by have z':Data.fields _=Data.cell v:=z;cases z'⟩
  .exact⟨_,hI,λv z=>by have z':Data.seq _ _=Data.cell v:=z;cases z'⟩
  .exact⟨_,hO,λv z=>by have z':Data.seq _ _=Data.cell v:=z;cases z'⟩
  .exact Sd.live q1
  .exact Sd.live q2
 .rintro i h h'⟨⟨v0,f,hz,hv⟩,hI,⟨a,b,hO⟩,q1,q2⟩k;exact⟨⟨v0,f,k _ U' _ hz,hv⟩,k _ U' _ hI,⟨a,b,k _ U' _ hO⟩,Sd.fm q1 λo e=>k _ U' o e,Sd.fm q2 λo e=>k _ U' o e⟩
 .intro X hP hw hK hc i pins s Y H E I hf st hg;subst hP hw hK;obtain⟨xs,ys,x',y',c1,c2,hx,hy⟩:=hg;have bc:∀c∈fH n,c<s.heap.objs.size:=λc hc=>by
   obtain⟨⟨v0,f,hz,hv⟩,_⟩:=st;have z:=Wh hz;have le:∀k:Nat,k<=4->n+k<s.heap.objs.size:=λk hk=>QA (Nat.add_le_add_left hk n) z;rcases rq hc with e|e|e|e|e<;>subst e;.exact z
   .exact le 2 Z'
   .exact le 3 Z'
   .exact le 0 Z'
   .exact le 1 Z'
  refine G4 I (I.ok.hd hc) h1 h2 c1.sd c2.sd st hx hy λu v h' tk ru rv hh hT k=>?_;obtain⟨⟨v0,f,hz,hv⟩,hI,⟨a,b,hO⟩,q1,q2⟩:=hh;refine⟨_,rfl,XR hz hv λh2 vz vq XU sb=>?_⟩;have nz:s.heap.objs.size≠n+4:=Qq (bc (n+4) U');have k2:∀c o,c∉fH n->s.heap.get? c=some o->h2.get? c=some o:=λc o hc e=>(sb.2 c λz=>hc #v[z]).trans (k c o hc e);have I2:Inv X pins Y (upd H s.heap.objs.size (.tup [x',y'])) {s with heap:=h2,toks:=tk}:=Inv.Vl (t':=tk) _ I hf bc ru rv ((sb.2 _ nz).trans hT) k2;refine⟨.ref s.heap.objs.size,_,I2,rfl,⟨s.heap.objs.size,x',y',I.ay.fresh (Wc _),λzs ze=>%[I.G6 ze c1|hx],λzs ze=>%[I.G6 ze c2|hy],rfl,rfl⟩,⟨⟨_,_,vq,XU⟩,(sb.2 _ (g8 n Z')).trans hI,⟨_,_,(sb.2 _ (g8 n Z')).trans hO⟩,Sd.fm q1 λo e=>(sb.2 _ (g8 n (i:=0) Z')).trans e,Sd.fm q2 λo e=>(sb.2 _ (g8 n Z')).trans e⟩,λc hc=>?_⟩;rw[aO (WG (bc c hc))];exact(hf c hc).1
 .intro X hP hw hK hc i pins s Y H E I hf st hg;subst hP hw hK;obtain⟨xs,ys,c1,c2,hl⟩:=hg;exact G5 I (I.ok.hd hc) h1 h2 c1.sd c2.sd st hl λh' tk k=>⟨rfl,Inv.uP (t':=tk) (fH n) I k hf⟩
 .intro A i s Q E st h;obtain⟨v0,f,hz,_⟩:=st.1;have hT:s.TypeIs (.ref (n+4)) "zip":=⟨_,hz,rfl⟩;refine wpAny_pyIter_slot hT F.slot_zip_iter (WS F.slot_zip_iter hT F.entry_zip_iter ?_ (F.args_zip_iter_1 _));show W8 _ _ (ret (.ref (n+4))) _ _ s;exact W4 ⟨_,rfl,"zip",_,hT,F.slot_zip_next.lookup,h⟩
theorem zf(I:Inv X pins Y H s)(b:Addr)(hb:b∈fH s.heap.objs.size):s.heap.objs.size<=b:=by rcases rq hb with z|z|z|z|z<;>subst z<;>first|exact Wc _|exact QY _ _
section
variable{a b:Expr}{f g:DE}
def XW(K:W3)(ta:TA):TI:=λY H R=>ta Y H λvs H1=>∃(b1 b2:Bool)(v w:V),vs=[v,w]/\(∃xs,fR K H1 xs b1 v)/\(∃ys,fR K H1 ys b2 w)/\R (G7 K b1 b2 v w) H1
theorem XX{ta:TA}(hg:Gl X "zip")(hm:X.mg "zip"=none)(ha:PA X [a,b] ta)(hs:W9 [a,b] X.env=(false,eval a X.env)::W9 [b] X.env:=by rfl)(bH:(Q3 pos (W9 [b] X.env)).any (·.1)=false:=by rfl):PI X tg (.Call (.Name "zip" pp) [a,b] [] pos) (XW X.K ta):=by intro pins s Y H R I h;refine Call_ (mO I hg hm boot_zip (QG (aX (ha pos pins s Y H _ I h) λus s1 hh=>?_) hs bH));obtain⟨vs,H1,I1,r1,q1⟩:=hh;obtain⟨b1,b2,v,w,rfl,⟨xs,hx⟩,⟨ys,hy⟩,q⟩:=q1;cases r1 with|cons r rr=>cases rr with|cons r' rr=>cases rr;obtain⟨t,rfl,p1,l1⟩:=I1.vA hx r;obtain⟨u,rfl,p2,l2⟩:=I1.vA hy r';refine G2 p1 p2 λh' st hz kp=>wpAny_pyIter_zip hz ?_;exact⟨s1.heap.objs.size+4,_,_,_,H1,rfl,I1.kept (t':=s1.toks) kp,XT b1 b2 v w t u s1.heap.objs.size l1 l2,st,λb hb=>I1.jh (zf I1 b hb) (I1.ay.fresh (zf I1 b hb)),q⟩
noncomputable def mB:D->Option (List D)|.lst ds=>some ds|.tup ds=>some ds|.str x=>some (x.map λn=>.str [n])|_=>none
def rz(f g:DE):DI:=λZ=>(f Z).bind λx W'=>(g W').bind λy SZ=>match mB x.d,mB y.d with|some xs,some ys=>.ok (kZ xs ys) SZ|_,_=>.stuck
set_option tactic.hygienic true in theorem Rep.sd{O:Addr->Prop}{d:D}(r:Rep H O v d)(e:mB d=some ds):∃(b:Bool)(vs:List V),fR K H vs b v/\aH H O vs ds/\∀H2,(∀p o,H p=some o->¬O p->H2 p=some o)->fR K H2 vs b v:=by
 have sq:∀{ds},qT d=some ds->∃(b:Bool)(vs:List V),fR K H vs b v/\aH H O vs ds/\∀H2,(∀p o,H p=some o->¬O p->H2 p=some o)->fR K H2 vs b v:=λe=>by obtain⟨b,a,vs,rfl,h1,h2,h3⟩:=r.sq (K:=K) e;exact⟨b,vs,h1,h2,h3⟩
 cases d<;>first|(simp[mB]at e;done)|exact sq e|skip
 rename_i x;cases r;cases e;refine⟨true,_,rfl,⟨#v[toS],λi v d e1 e2=>?_⟩,λ_ _=>rfl⟩;rw[Wj]at e1 e2;cases z:x[i]? with|none=>rw[z]at e2;cases e2|some n=>rw[z]at e2;cases e2;simp only[toS,z,WE]at e1;cases e1;exact .str [n]
set_option tactic.hygienic true in theorem XY(hg:Gl X "zip")(hm:X.mg "zip"=none)(ha:SE X c a f)(hb:SE X c b g)(hs:W9 [a,b] X.env=(false,eval a X.env)::W9 [b] X.env:=by rfl)(jT:W9 [b] X.env=(false,eval b X.env)::W9 [] X.env:=by rfl)(bH:(Q3 pos (W9 [b] X.env)).any (·.1)=false:=by rfl):SI X c tg (.Call (.Name "zip" pp) [a,b] [] pos) (rz f g):=PI.weak (XX hg hm (dJ ha (dJ hb f_ jT) hs) hs bH) λY H R⟨Z,k,q⟩=>by
  unfold rz at q;rw[bh]at q;refine⟨Z,k,aQ q λx W' q1 v H1 a1 r1=>⟨W',a1.ok,?_⟩⟩;rw[bh]at q1;refine aQ q1 λy SZ q2 u H2 a2 r2=>?_;have hx:Rep H2 (Av c Y SZ) v x.d:=Rep.dg r1.rep a2;have hy:Rep H2 (Av c Y SZ) u y.d:=r2.rep;split at q2
  .rename_i xs ys e1 e2;obtain⟨b1,vs,s1,w1,k1⟩:=hx.sd (K:=X.K) e1;obtain⟨b2,us,s2,w2,k2⟩:=hy.sd (K:=X.K) e2;refine⟨b1,b2,v,u,rfl,⟨vs,s1⟩,⟨us,s2⟩,q2 _ H2 (a1.trans a2) λH3 kp=>?_⟩;have t1:=k1 H3 λp o e n=>kp p o e λz=>n (.inr z);have t2:=k2 H3 λp o e n=>kp p o e λz=>n (.inr z);refine⟨⟨vs,us,t1,t2,?_⟩,λi d e=>?_⟩;.rw[w1.1,w2.1];simp only[kZ,List.length_zipWith];lia
   .obtain⟨x,y,ex,ey,rfl⟩:=FV e;obtain⟨v,ev,rv⟩:=w1.get ex;obtain⟨u,eu,ru⟩:=w2.get ey;refine⟨⟨vs,us,v,u,t1,t2,ev,eu⟩,λz H4 hh=>?_⟩;obtain⟨p,v',u',hp,hv,hu,e3,ez⟩:=hh;refine .inr ⟨p,_,_,hp,e3,ez,rfl,?_⟩;have h1:=hv vs t1;have h2:=hu us t2;rw[ev]at h1;rw[eu]at h2;cases h1;cases h2;exact aH.two rv ru
  .exact q2.elim
end
def zg(H H':Hp)(xs ys:List V)(as:List Addr):Prop:=(∀b o,H b=some o->H' b=some o)/\∀(i:Nat)a,as[i]?=some a->H a=none/\∃x y,xs[i]?=some x/\ys[i]?=some y/\H' a=some (.tup [x,y])
section
variable{S T:Sd}{xs ys:List V}{m n0:Nat}
theorem XZ(hA:A.handled=none)(h1:∀a∈S.fp,a<n)(h2:∀a∈T.fp,a<n)(X0:L∉fH n)(hz:m<=Wb)(v1:∀H',(∀b o,H b=some o->H' b=some o)->mz X.K H' xs S)(v2:∀H',(∀b o,H b=some o->H' b=some o)->mz X.K H' ys T)(hx:∀i<m,∃x y,xs[i]?=some x/\ys[i]?=some y)(hl:m=xs.length\/m<xs.length/\m=ys.length)(fr:∀b,n0<=b->H b=none)(fo:∀(H':Hp)b,n0<=b->H' b=none->fz X pins H' b)(hn:∀b∈fH n,n0<=b)(hL:n0<=L)(hR:∀H' as s',zg H H' xs ys as->as.length=m->H' L=none->Inv X pins Y (upd H' L (.lst (as.map V.ref))) s'->R (.ok (.ret .none)) s'):∀(k i:Nat)(as:List Addr)(H':Hp)(s:W2),m-i=k->i<=m->as.length=i->zg H H' xs ys as->H' L=none->(∀b∈fH n,H' b=none)->Inv X pins Y (upd H' L (.lst (as.map V.ref))) s->pz S T n i s.heap->QR (model X.prog X.w) A (.builtin "list.extend.loop" ⟨[.ref L,.ref (n+4),.none],[]⟩) R s:=by
 have ne:∀b∈fH n,b≠L:=λb hb z=>X0 (by rw[<-z];exact hb);intro k;induction k with|zero=>
 intro i as H' s hk hi el P hL' hf I st;have up:=P.1;have rA:∀b o,H b=some o->upd H' L (.lst (as.map V.ref)) b=some o:=λb o e=>%[aO (d_ e (fr L hL))|up b o e];have e:i=m:=by lia
 subst e;refine U1 F.entry_extend_loop ?_;rw[Around.under_plainId JW _];show W8 _ A.in1 (QE (.ref (n+4))>>=_) _ _ _;refine W0 (G5 (A:=A.in1) I hA h1 h2 (v1 _ rA) (v2 _ rA) st hl λh' tk k2=>W4 (hR H' as _ P el hL' (Inv.uP (t':=tk) (fH n) I k2 λb hb=>fo _ b (hn b hb) %[aO (ne b hb)|hf b hb])))|succ k ih=>
  intro i as H' s hk hi el P hL' hf I st;have up:=P.1;have rA:∀b o,H b=some o->upd H' L (.lst (as.map V.ref)) b=some o:=λb o e=>%[aO (d_ e (fr L hL))|up b o e];obtain⟨x,y,ex,ey⟩:=hx i Y';refine U1 F.entry_extend_loop ?_;rw[Around.under_plainId JW _];show W8 _ A.in1 (QE (.ref (n+4))>>=_) _ _ _;refine W0 (G4 (A:=A.in1) I hA h1 h2 (v1 _ rA) (v2 _ rA) st ex ey λu v h' tk r1 r2 eE hT k2=>?_);have X1:∃o,s.heap.get? L=some o:=let⟨_,_,_,e,_⟩:=I.lst bS;⟨_,e⟩;have lL:L<s.heap.objs.size:=Wh X1.choose_spec;have zl:∀b∈fH n,b≠s.heap.objs.size:=λb hb=>by
   have h4:n+4<s.heap.objs.size:=by obtain⟨⟨v0,f,j9,_⟩,_⟩:=st;exact Wh j9
   have le:∀j:Nat,j<=4->n+j<s.heap.objs.size:=λj hj=>QA (Nat.add_le_add_left hj n) h4;rcases rq hb with e|e|e|e|e<;>subst e<;>first|exact WG h4|exact WG (le 2 Z')|exact WG (le 3 Z')|exact WG (le 0 Z')|exact WG (le 1 Z')
  have I1:=Inv.uP (t':=tk) (fH n) I k2 λb hb=>fo _ b (hn b hb) %[aO (ne b hb)|hf b hb];have zh:upd H' L (.lst (as.map V.ref)) s.heap.objs.size=none:=I.ay.fresh (Wc _);generalize s.heap.objs.size=a at*;have aL:a≠L:=Qq lL;have G8:n0<=a:=J0 (QA hL lL);have ha:H' a=none:=by rw[aO aL]at zh;exact zh
  have I2:=I1.adopt (b:=a) (o:=.tup [x,y]) (fo _ a G8 zh) ⟨by simp only[WT,JZ];rw[WZ];decide,[u,v],.cons r1 (.cons r2 .nil),⟨0,hT⟩⟩;have ec:upd (upd H' L (.lst (as.map V.ref))) a (.tup [x,y])=upd (upd H' a (.tup [x,y])) L (.lst (as.map V.ref)):=by
   funext b;by_cases e1:b=a;.subst e1;rw[bS,aO aL,bS]
   .by_cases e2:b=L;.subst e2;rw[aO e1,bS,bS]
    .rw[aO e1,aO e2,aO e2,aO e1]
  rw[ec]at I2;obtain⟨its,nn,r,ho,_⟩:=I2.lst bS;have hlen:its.length=i:=by rw[<-r.length,Wa,el]
  have I3:=I2.qe (t':=tk) (f:=(·.push (Value.ref a))) (its':=its++[.ref a]) bS ho U' (Vals.append r (show Vals [V.ref a] [Value.ref a]from .cons rfl .nil)) (by simp[el];lia);rw[ox,show as.map V.ref++[V.ref a]=(as++[a]).map V.ref by simp]at I3;have vB:∀b o,H' b=some o->upd H' a (.tup [x,y]) b=some o:=λb o e=>%[aO (d_ e ha)|e];refine W0 (wpAny_updateSeq ho rfl ?_ (by simp[hlen];lia) (by simp[hlen];lia));refine W4 ⟨JA JW _,ih (i+1) (as++[a]) (upd H' a (.tup [x,y])) _ Y' Y' #v[el] ⟨λb o e=>vB b o (up b o e),λj c e=>?_⟩ %[aO aL.symm|hL'] (λb hb=>by rw[aO (zl b hb)];exact hf b hb) I3 ?_⟩
  .rw[List.getElem?_append]at e;split at e;.obtain⟨g1,x',y',g2,g3,g4⟩:=P.2 j c e;exact⟨g1,x',y',g2,g3,vB _ _ g4⟩
   .have ej:j=i:=by have:=(W6.mp e).1;simp at this;lia
    subst ej;rw[el,Nat.sub_self]at e;cases e;exact⟨fr a G8,x,y,ex,ey,bS⟩
  .obtain⟨⟨v0,f,j9,hv⟩,hI,⟨a',b',hO⟩,q1,q2⟩:=eE;have kk:∀b∈fH n,∀o,h'.get? b=some o->(h'.update L (Obj.mapSeq (·.push (Value.ref a)))).get? b=some o:=λb hb o eo=>(WX _ _ (Ne.symm (ne b hb))).trans eo;exact⟨⟨v0,f,kk _ U' _ j9,hv⟩,kk _ U' _ hI,⟨a',b',kk _ U' _ hO⟩,Sd.fm q1 λo e=>kk _ U' o e,Sd.fm q2 λo e=>kk _ U' o e⟩
end
section
variable{a b:Expr}
theorem X2{ta:TA}(hc:X.calm=true)(zi:Gl X "list")(zj:X.mg "list"=none)(hg:Gl X "zip")(hm:X.mg "zip"=none)(ha:PA X [a,b] ta)(hs:W9 [a,b] X.env=(false,eval a X.env)::W9 [b] X.env:=by rfl)(bH:(Q3 pos (W9 [b] X.env)).any (·.1)=false:=by rfl)(vC:W9 [.Call (.Name "zip" pp) [a,b] [] pos] X.env=(false,eval (.Call (.Name "zip" pp) [a,b] [] pos) X.env)::W9 [] X.env:=by rfl):PE X (.Call (.Name "list" qW) [.Call (.Name "zip" pp) [a,b] [] pos] [] qX) λY H Q=>ta Y H λvs H1=>∃(b1 b2:Bool)(v w:V)(xs ys:List V)(m:Nat),vs=[v,w]/\(∀H',(∀b o,H1 b=some o->H' b=some o)->fR X.K H' xs b1 v)/\(∀H',(∀b o,H1 b=some o->H' b=some o)->fR X.K H' ys b2 w)/\m<=Wb/\(∀i<m,∃x y,xs[i]?=some x/\ys[i]?=some y)/\(m=xs.length\/m<xs.length/\m=ys.length)/\∀H2 l as,zg H1 H2 xs ys as->as.length=m->H1 l=none->H2 l=none->Q (.ref l) (upd H2 l (.lst (as.map V.ref))):=by intro pins s0 Y H0 Q I0 h;refine Call_ (mO I0 zi zj PyProof.Rows.boot_list (QG ?_ vC rfl));rw[vC];refine Calls.spliced_cons (Call_ (mO I0 hg hm boot_zip (QG (aX (ha pos pins s0 Y H0 _ I0 h) λus s1 hh=>?_) hs bH)));obtain⟨vs,H,I1,r1,q1⟩:=hh;obtain⟨b1,b2,v,w,xs,ys,m,rfl,hx,hy,hz,hk,hl,q⟩:=q1;cases r1 with|cons r rr=>cases rr with|cons r' rr=>
   cases rr;obtain⟨t,rfl,p1,l1⟩:=I1.vA (hx H λk k e=>e) r;obtain⟨u,rfl,p2,l2⟩:=I1.vA (hy H λk k e=>e) r';refine G2 p1 p2 λh' st G9 kp=>Calls.spliced_nil ?_;have I:Inv X pins Y H {s1 with heap:=h'}:=I1.kept (t':=s1.toks) kp;generalize hn:s1.heap.objs.size=n at*;have hA:X.A.handled=none:=I.ok.hd hc;have vD:n+4<h'.objs.size:=Wh G9;have fr:∀b,n<=b->H b=none:=λb hb=>I1.ay.fresh %[hn|hb];have fo:∀(H':Hp)b,n<=b->H' b=none->fz X pins H' b:=λH' b hb e=>I1.jh %[hn|hb] e;have ge:∀b∈fH n,n<=b:=λb hb=>by subst hn;exact zf I1 b hb
   have lt:h'.objs.size∉fH n:=λhb=>by
    have le:∀j:Nat,j<=4->n+j<h'.objs.size:=λj hj=>QA (Nat.add_le_add_left hj n) vD;rcases rq hb with e|e|e|e|e;.exact Qq vD e
    .exact Qq (le 2 Z') e
    .exact Qq (le 3 Z') e
    .exact Qq (le 0 Z') e
    .exact Qq (le 1 Z') e
   have nL:n<=h'.objs.size:=J0 (QA (QY n 4) vD);refine callType_codes (Q₁:=λobj s₁=>obj=.ref h'.objs.size/\s₁={s1 with heap:=h'.push {cls:=.type "list",data:=.seq #[]}}) F.called_list (F.typeCall_list_1 _) F.entry_list_init (code_list_new _ ⟨rfl,rfl⟩) ?_;rintro obj s₁⟨rfl,rfl⟩;have hS:(h'.push {cls:=.type "list",data:=.seq #[]}).get? h'.objs.size=some {cls:=.type "list",data:=.seq #[]}:=Wf _ rfl;have I2:Inv X pins Y (upd H h'.objs.size (.lst [])) {s1 with heap:=h'.push {cls:=.type "list",data:=.seq #[]}}:=I.CL (t':=s1.toks) (its:=[]) .nil U';refine⟨⟨_,hS,rfl⟩,F.args_list_init_2 _ _,?_⟩;have G_:=W5 {cls:=.type "list",data:=.seq #[]} G9;have hT:({s1 with heap:=h'.push {cls:=.type "list",data:=.seq #[]}}:W2).TypeIs (.ref (n+4)) "zip":=⟨_,G_,rfl⟩;generalize hL:h'.objs.size=L at*;show W8 _ _ (do let old<-Builtin.List.listItems (.ref L);Builtin.List.listUpdate (.ref L) λk=>#[];letGo old.toList.reverse;Builtin.List.listExtendWith (.ref L) (.ref (n+4)) .none) _ _ _;refine W0 ?_;unfold Builtin.List.listItems;refine W0 (Qn hS rfl (W4 ?_));show W8 _ _ (updateSeq L (λk=>#[])>>=λk=>letGo (#[]:Array Value).toList.reverse>>=λk=>Builtin.List.listExtendWith (.ref L) (.ref (n+4)) .none) _ _ _;refine W0 (wpAny_updateSeq hS rfl ?_);have I3:=I2.qe (t':=s1.toks) (f:=λk=>#[]) (its:=[]) (its':=[]) (ys:=[]) bS hS rfl .nil U';rw[ox]at I3;refine W0 (wpAny_letGo ?_);unfold Builtin.List.listExtendWith;have iA:∀{hh:Heap}{f:Array Value->Array Value}{b o},b≠L->hh.get? b=some o->(hh.update L (Obj.mapSeq f)).get? b=some o:=λhb e=>(WX _ _ (Ne.symm hb)).trans e;have zL:n+4≠L:=WG vD;have gD:=iA (f:=λk=>#[]) zL G_;have zk:=Qb (Obj.mapSeq λk=>(#[]:Array Value)) hS rfl;refine W0 (J5 (T:="zip") ⟨_,gD,rfl⟩ ?_);have h1:Builtin.List.listSameRef (.ref L) (.ref (n+4))=false:=#v[Builtin.List.listSameRef,Ne.symm zL];have h2:(Value.type "zip"==Value.type "list")=false:=by decide
   have h3:(Value.type "zip"==Value.type "tuple")=false:=by decide
   simp only[h1,h2,h3,Bool.or_false,Q8,if_false];refine W0 (wpAny_pyIter_zip gD ?_);refine W0 (WC ?_);unfold Builtin.List.listLengthHint;refine W0 (wpAny_specialOf ⟨_,gD,rfl⟩ VN ?_);show W8 _ _ (specialOf (Value.ref (n+4)) (Str.ofString "__length_hint__")>>=_) _ _ _;refine W0 (wpAny_specialOf ⟨_,gD,rfl⟩ VO ?_);refine W4 ?_;show W8 _ _ (rule "list.extend.makes-room">>=λk=>Builtin.List.listTouch (.ref L)>>=λk=>again (.builtin "list.extend.loop" ⟨[.ref L,.ref (n+4),.none],[]⟩)) _ _ _;refine W0 (QC ?_);refine W0 ?_;show W8 _ _ (updateSeq L (·.push .none)>>=λk=>updateSeq L (·.pop)) _ _ _;refine W0 (wpAny_updateSeq zk rfl ?_);have Hb:=Qb (Obj.mapSeq (·.push Value.none)) zk rfl;refine wpAny_updateSeq (hz:=by seq_fits) Hb rfl ?_;have I4:=I3.qe (t':=s1.toks) (f:=(·.push Value.none)) (its:=[]) (its':=[Value.none]) (ys:=[V.ax]) bS zk rfl (.cons rfl .nil) (by rw[WZ];decide);rw[ox]at I4;have I5:=I4.qe (t':=s1.toks) (f:=(·.pop)) (its:=[Value.none]) (its':=[]) (ys:=[]) bS Hb rfl .nil U';rw[ox]at I5;refine W4 ⟨JA JW _,?_⟩;refine XZ (A:=X.A.in1) (R:=wants (λr s₂=>r=Value.none/\EP X pins Y Q (Value.ref L) s₂) X.xe) (X:=X) (pins:=pins) (Y:=Y) (H:=H) (S:=i5 b1 v t) (T:=i5 b2 w u) (n:=n) (n0:=n) (m:=m) (L:=L) (xs:=xs) (ys:=ys) hA l1 l2 lt hz (λH' up=>(hx H' up).sd) (λH' up=>(hy H' up).sd) hk hl fr fo ge nL (λH' as s' P e1 e2 I'=>⟨rfl,.ref _,_,I',rfl,q H' L as P e1 (fr L nL) e2⟩) m 0 [] H _ (Ue _) (Q5 _) rfl ⟨λk k e=>e,λi a e=>by simp at e⟩ (fr L nL) (λb hb=>fr b (ge b hb)) I5 ?_;have kk:∀b∈fH n,∀o,h'.get? b=some o->(((h'.push {cls:=.type "list",data:=.seq #[]}).update L (Obj.mapSeq λk=>#[])).update L (Obj.mapSeq (·.push Value.none))|>.update L (Obj.mapSeq (·.pop))).get? b=some o:=λb hb o e=>by have hb:b≠L:=λz=>lt (z▸hb);exact iA hb (iA hb (iA hb (W5 _ e)))
   obtain⟨⟨v0,f,j9,hv⟩,hI,⟨a,b,hO⟩,q1,q2⟩:=st;exact⟨⟨v0,f,kk _ U' _ j9,hv⟩,kk _ U' _ hI,⟨a,b,kk _ U' _ hO⟩,Sd.fm q1 λo e=>kk _ U' o e,Sd.fm q2 λo e=>kk _ U' o e⟩
end
def j_(f g:DE):DE:=λZ=>(f Z).bind λx W'=>(g W').bind λy SZ=>match mB x.d,mB y.d with|some xs,some ys=>if xs.length=ys.length/\xs.length<=1000 then .ok (.own (.lst (kZ xs ys))) SZ else .stuck|_,_=>.stuck
section
variable{a b:Expr}{f g:DE}
set_option tactic.hygienic true in theorem X3(hc:X.calm=true)(zi:Gl X "list")(zj:X.mg "list"=none)(hg:Gl X "zip")(hm:X.mg "zip"=none)(ha:SE X c a f)(hb:SE X c b g)(hs:W9 [a,b] X.env=(false,eval a X.env)::W9 [b] X.env:=by rfl)(jT:W9 [b] X.env=(false,eval b X.env)::W9 [] X.env:=by rfl)(bH:(Q3 pos (W9 [b] X.env)).any (·.1)=false:=by rfl)(vC:W9 [.Call (.Name "zip" pp) [a,b] [] pos] X.env=(false,eval (.Call (.Name "zip" pp) [a,b] [] pos) X.env)::W9 [] X.env:=by rfl):SE X c (.Call (.Name "list" qW) [.Call (.Name "zip" pp) [a,b] [] pos] [] qX) (j_ f g):=PE.weak (X2 hc zi zj hg hm (dJ ha (dJ hb f_ jT) hs) hs bH vC) λY H Q⟨Z,k,q⟩=>by
  unfold j_ at q;rw[bh]at q;refine⟨Z,k,aQ q λx W' q1 v H1 a1 r1=>⟨W',a1.ok,?_⟩⟩;rw[bh]at q1;refine aQ q1 λy SZ q2 u H2 a2 r2=>?_;have hx:Rep H2 (Av c Y SZ) v x.d:=Rep.dg r1.rep a2;have hy:Rep H2 (Av c Y SZ) u y.d:=r2.rep;split at q2
  .rename_i xs ys e1 e2;obtain⟨b1,vs,s1,w1,k1⟩:=hx.sd (K:=X.K) e1;obtain⟨b2,us,s2,w2,k2⟩:=hy.sd (K:=X.K) e2;split at q2
   .rename_i hl;have z1:=w1.1;have z2:=w2.1;refine⟨b1,b2,v,u,vs,us,xs.length,rfl,λH' up=>k1 H' λp o e _=>up p o e,λH' up=>k2 H' λp o e _=>up p o e,by rw[WZ];lia,λi hi=>⟨vs[i],us[i],#v[z1,hi],by simp[z2,<-hl.1,hi]⟩,.inl z1.symm,λH3 l as P el hl0 Hc=>?_⟩;have kk:=(a1.trans a2).ok;have a3:aG c Y SZ H2 Y SZ H3:=aG.XO kk P.1;have rr:aH H3 (Av c Y SZ) (as.map V.ref) (kZ xs ys):=by refine⟨by simp[kZ,el];lia,λi p d h1 h2=>?_⟩;rw[Wj]at h1;obtain⟨d1,d2,g1,g2,rfl⟩:=FV h2;obtain⟨a,ea,rfl⟩:=Option.map_eq_some_iff.mp h1;obtain⟨n0,x',y',f1,f2,f3⟩:=P.2 i a ea;refine .tup (λz=>kk.iP n0 z) f3 rfl λj p d h1 h2=>?_;.have rx:=Rep.dg (w1.2 i x' d1 f1 g1) a3;have ry:=Rep.dg (w2.2 i y' d2 f2 g2) a3;match j with|0=>cases h1;cases h2;exact rx|1=>cases h1;cases h2;exact ry|j+2=>cases h1
    exact q2 _ _ ((a1.trans a2).trans (a3.trans (.alloc a3.ok Hc _))) ((aS.mY a3.ok rr Hc).back ((a1.trans a2).trans a3))
   .exact q2.elim
  .exact q2.elim
end
namespace Lake.SO
open PySem.W
theorem pA{α β:Type}(lt:Nat->Nat->Bool)(f:α->KasT β):∀t:KasT α,runK lt (t.bind f)=runK lt (f (runK lt t))|.ret _=>rfl|.ask i j k=>pA lt f (k (lt i j))
structure Ord(lt:Nat->Nat->Bool):Prop where
 as:∀a b,lt a b=true->lt b a=false
 tr:∀a b c,lt a b=false->lt b c=false->lt a c=false
abbrev gA(p:Array Nat)(i:Nat):Nat:=p.getD i 0
def i6(lt:Nat->Nat->Bool)(p:Array Nat)(m:Nat):Prop:=∀i j,i<j->j<m->lt (gA p j) (gA p i)=false
def rB(lt:Nat->Nat->Bool)(p:Array Nat)(m:Nat):Prop:=∀i j,i<j->j<m->lt (gA p i) (gA p j)=false
theorem pB{p q:Array Nat}{i j:Nat}(h:p[i]?=q[j]?):gA p i=gA q j:=by unfold gA;rw[Array.getD_eq_getD_getElem?,Array.getD_eq_getD_getElem?,h]
theorem nQ{p:Array Nat}{i j:Nat}(g9:i<=j)(hj:j<=p.size)(k:Nat):gA (Je p i j) k=if i<=k/\k<j then gA p (i+j-1-k)else gA p k:=by
 have e:=getElem?_mirror (xs:=p) (i:=i) hj ((j-i)/2) Y' k;unfold Je;by_cases h:i<=k/\k<j
 .rw[if_pos h];by_cases z:i<=k/\k<i+(j-i)/2\/j-(j-i)/2<=k/\k<j;.rw[if_pos z]at e;exact pB e
  .rw[if_neg z]at e;have:i+j-1-k=k:=by lia
   rw[this];exact pB e
 .rw[if_neg h];rw[if_neg Y']at e;exact pB e
theorem Hd{p:Array Nat}{k l:Nat}(hk:k<p.size)(hl:l<=k)(i:Nat):gA (bubble p k (k-l)) i=if i=l then gA p k else if l<i/\i<=k then gA p (i-1)else gA p i:=by
 have e:=getElem?_bubble (xs:=p) hk (k-l) Y' i;rw[show k-(k-l)=l by lia]at e;by_cases h:i=l;.rw[if_pos h];rw[if_pos h]at e;exact pB e
 .rw[if_neg h];rw[if_neg h]at e;by_cases z:l<i/\i<=k;.rw[if_pos z];rw[if_pos z]at e;exact pB e
  .rw[if_neg z];rw[if_neg z]at e;exact pB e
section
variable{lt:Nat->Nat->Bool}(O:Ord lt)
include O
theorem Ord.ir(a:Nat):lt a a=false:=by cases h:lt a a with|false=>rfl|true=>have:=O.as a a h;rw[h]at this;exact this
theorem X4{p:Array Nat}{m:Nat}(h1:1<=m)(A:i6 lt p m)(h:lt (gA p m) (gA p (m-1))=false):i6 lt p (m+1):=λi j g9 hj=>by
 by_cases e:j=m
 .subst e;by_cases e2:i=j-1;.rw[e2];exact h
  .exact O.tr _ _ _ h (A i (j-1) Y' Y')
 .exact A i j g9 Y'
theorem rC{p:Array Nat}{m:Nat}(h1:1<=m)(A:rB lt p m)(h:lt (gA p (m-1)) (gA p m)=false):rB lt p (m+1):=λi j g9 hj=>by
 by_cases e:j=m
 .subst e;by_cases e2:i=j-1;.rw[e2];exact h
  .exact O.tr _ _ _ (A i (j-1) Y' Y') h
 .exact A i j g9 Y'
theorem zm(p:Array Nat):∀(f m:Nat),1<=m->i6 lt p m->i6 lt p (runK lt (JV p f m))/\m<=runK lt (JV p f m)/\runK lt (JV p f m)<=m+f/\(runK lt (JV p f m)<m+f->lt (gA p (runK lt (JV p f m))) (gA p (runK lt (JV p f m)-1))=true)|0,m,_,A=>⟨A,Wc _,Wc _,λh=>absurd h (Qd _)⟩|f+1,m,h1,A=>by have e:runK lt (JV p (f+1) m)=runK lt (if lt (gA p m) (gA p (m-1))=true then .ret m else JV p f (m+1)):=rfl;rw[e];cases h:lt (gA p m) (gA p (m-1))with|true=>rw[if_pos rfl];exact⟨A,Wc _,show m<=m+(f+1)by lia,λj=>h⟩|false=>rw[if_neg Z'];obtain⟨a,b,c,d⟩:=zm p f (m+1) Y' (X4 O h1 A h);exact⟨a,Y',Y',λz=>d Y'⟩
structure Jd(lt:Nat->Nat->Bool)(n:Nat)(p:Array Nat)(m q:Nat):Prop where
 pn:cj n p
 ds:rB lt p m
 le:q+1<=m
 mn:m<=n
 eq:∀i j,m-(q+1)<=i->i<m->m-(q+1)<=j->j<m->lt (gA p i) (gA p j)=false
theorem He{n m q:Nat}{p:Array Nat}(J:Jd lt n p m q):Jd lt n (Je p (m-(q+1)) m) m q/\gA (Je p (m-(q+1)) m) (m-1)=gA p (m-(q+1))/\∀k,m<=k->gA (Je p (m-(q+1)) m) k=gA p k:=by
 have hs:=J.pn.size;have mn:=J.mn;have le:=J.le;have g:=λk=>nQ (p:=p) (i:=m-(q+1)) (j:=m) Y' Y' k;have vE:∀k,m-(q+1)<=k->k<m->∃k',m-(q+1)<=k'/\k'<m/\gA (Je p (m-(q+1)) m) k=gA p k':=λk h1 h2=>⟨m-(q+1)+m-1-k,Y',Y',by rw[g,if_pos ⟨h1,h2⟩]⟩;have out:∀k,¬(m-(q+1)<=k/\k<m)->gA (Je p (m-(q+1)) m) k=gA p k:=λk h=>by rw[g,if_neg h]
 refine⟨⟨J.pn.rev _ _,λi j g9 hj=>?_,le,mn,λi j h1 h2 h3 h4=>?_⟩,?_,λk hk=>out k Y'⟩
 .by_cases h1:m-(q+1)<=j
  .obtain⟨j',a1,a2,e1⟩:=vE j h1 hj;by_cases h2:m-(q+1)<=i;.obtain⟨i',b1,b2,e2⟩:=vE i h2 Y';rw[e1,e2];exact J.eq i' j' b1 b2 a1 a2
   .rw[e1,out i Y'];exact J.ds i j' Y' a2
  .rw[out i Y',out j Y'];exact J.ds i j g9 hj
 .obtain⟨i',a1,a2,e1⟩:=vE i h1 h2;obtain⟨j',b1,b2,e2⟩:=vE j h3 h4;rw[e1,e2];exact J.eq i' j' a1 a2 b1 b2
 .rw[g,if_pos ⟨Y',Y'⟩];congr 1;lia
theorem vF:∀(f:Nat)(p:Array Nat)(m q:Nat),Jd lt n p m q->m+f<=n->Jd lt n (runK lt (Jh f p m q)).1 (runK lt (Jh f p m q)).2.1 (runK lt (Jh f p m q)).2.2
 |0,p,m,q,J,_=>J|f+1,p,m,q,J,hn=>by
  have le:=J.le;have e:runK lt (Jh (f+1) p m q)=runK lt (if lt (gA p m) (gA p (m-1))=true then if q>0 then Jh f (Je p (m-(q+1)) m) (m+1) 0 else Jh f p (m+1) 0 else .ask (p.getD (m-1) 0) (p.getD m 0) λd=>if d=true then .ret (p,m,q)else Jh f p (m+1) (q+1)):=rfl
  rw[e];cases h:lt (gA p m) (gA p (m-1))with|true=>
   rw[if_pos rfl];have h':=O.as _ _ h;by_cases hq:q>0
   .rw[if_pos hq];obtain⟨J',e1,e2⟩:=He O J;refine vF f _ (m+1) 0 ⟨J'.pn,rC O Y' J'.ds ?_,Y',Y',λi j h1 h2 h3 h4=>?_⟩ Y';.rw[e1,e2 m (Wc _)];exact O.tr _ _ _ (J.eq _ (m-1) (Wc _) Y' Y' Y') h'
    .rw[show i=j by lia];exact O.ir _
   .rw[if_neg hq];refine vF f p (m+1) 0 ⟨J.pn,rC O Y' J.ds h',Y',Y',λi j h1 h2 h3 h4=>?_⟩ Y';rw[show i=j by lia];exact O.ir _|false=>rw[if_neg Z'];have e2:runK lt (.ask (p.getD (m-1) 0) (p.getD m 0) λd=>if d=true then .ret (p,m,q)else Jh f p (m+1) (q+1))=runK lt (if lt (gA p (m-1)) (gA p m)=true then .ret (p,m,q)else Jh f p (m+1) (q+1)):=rfl;rw[e2];cases h2:lt (gA p (m-1)) (gA p m)with|true=>rw[if_pos rfl];exact J|false=>
    rw[if_neg Z'];refine vF f p (m+1) (q+1) ⟨J.pn,rC O Y' J.ds h2,Y',Y',λi j h3 h4 h5 h6=>?_⟩ Y';by_cases ei:i=m
    .by_cases ej:j=m;.rw[ei,ej];exact O.ir _
     .rw[ei];exact O.tr _ _ _ h (J.eq (m-1) j Y' Y' Y' Y')
    .by_cases ej:j=m;.rw[ej];exact O.tr _ _ _ (J.eq i (m-1) Y' Y' Y' Y') h2
     .exact J.eq i j Y' Y' Y' Y'
theorem Hf{n m:Nat}{p:Array Nat}(h:cj n p)(D1:rB lt p m)(h1:1<=m)(hm:m<=n):cj n (runK lt (kas_tail3 m n p)).2/\i6 lt (runK lt (kas_tail3 m n p)).2 (runK lt (kas_tail3 m n p)).1/\1<=(runK lt (kas_tail3 m n p)).1/\(runK lt (kas_tail3 m n p)).1<=n:=by
 have hs:=h.size;have A:i6 lt (Je p 0 m) m:=λi j g9 hj=>by rw[nQ Y' Y' i,nQ Y' Y' j,if_pos ⟨Y',Y'⟩,if_pos ⟨Y',Y'⟩];exact D1 _ _ Y' Y'
 unfold kas_tail3;rw[pA];obtain⟨a,b,c,_⟩:=zm O (Je p 0 m) (n-m) m h1 A;have c':runK lt (JV (Je p 0 m) (n-m) m)<=n:=by lia
 exact⟨h.rev _ _,a,Wy h1 b,c'⟩
theorem Hg{n m:Nat}{p:Array Nat}(h:cj n p)(D1:rB lt p (m+1))(hm:m+1<=n):cj n (runK lt (J9 m n p)).2/\i6 lt (runK lt (J9 m n p)).2 (runK lt (J9 m n p)).1/\1<=(runK lt (J9 m n p)).1/\(runK lt (J9 m n p)).1<=n:=by
 unfold J9;rw[pA];have J:=vF O (n-(m+1)) p (m+1) 0 ⟨h,D1,Y',hm,λi j h1 h2 h3 h4=>%[show i=j by lia|O.ir _]⟩ Y';generalize runK lt (Jh (n-(m+1)) p (m+1) 0)=r at*;have le:=J.le;by_cases hq:r.2.2>0;.rw[if_pos hq];obtain⟨J',_,_⟩:=He O J;exact Hf O J'.pn J'.ds Y' J.mn
 .rw[if_neg hq];exact Hf O J.pn J.ds Y' J.mn
theorem X5(h:cj n p)(h2:2<=n):cj n (runK lt (U9 n p)).2/\i6 lt (runK lt (U9 n p)).2 (runK lt (U9 n p)).1/\1<=(runK lt (U9 n p)).1/\(runK lt (U9 n p)).1<=n:=by
 unfold U9;rw[pA];have hs:=h.size;obtain⟨a,b,c,d⟩:=zm O p (n-1) 1 (Wc _) (λi j g9 hj=>by lia);generalize runK lt (JV p (n-1) 1)=m at*;by_cases hm:m=n;.rw[if_pos (~~~hm)];exact⟨h,a,b,by show m<=n;lia⟩
 .rw[if_neg (~~~hm)];have dn:=d Y';by_cases h1:m>1;.rw[if_pos h1];have e:runK lt (.ask (p.getD 0 0) (p.getD (m-1) 0) λc=>if c=true then .ret (m,p)else J9 m n (Je p 0 m))=runK lt (if lt (gA p 0) (gA p (m-1))=true then .ret (m,p)else J9 m n (Je p 0 m)):=rfl;rw[e];cases hc:lt (gA p 0) (gA p (m-1))with|true=>rw[if_pos rfl];exact⟨h,a,b,by show m<=n;lia⟩|false=>
    rw[if_neg Z'];have a0:∀i,i<m->lt (gA p i) (gA p 0)=false:=λi hi=>by
     by_cases z:i=0;.rw[z];exact O.ir _
     .exact a 0 i Y' hi
    have aL:∀i,i<m->lt (gA p (m-1)) (gA p i)=false:=λi hi=>by
     by_cases z:i=m-1;.rw[z];exact O.ir _
     .exact a i (m-1) Y' Y'
    have all:∀i j,i<m->j<m->lt (gA p i) (gA p j)=false:=λi j hi hj=>O.tr _ _ _ (O.tr _ _ _ (a0 i hi) hc) (aL j hj);refine Hg O (h.rev _ _) (rC O Y' (λi j g9 hj=>?_) ?_) Y';.rw[nQ Y' Y' i,nQ Y' Y' j,if_pos ⟨Y',Y'⟩,if_pos ⟨Y',Y'⟩];exact all _ _ Y' Y'
    .rw[nQ Y' Y' (m-1),nQ Y' Y' m,if_pos ⟨Y',Y'⟩,if_neg Y'];exact O.tr _ _ _ (all _ (m-1) Y' Y') (O.as _ _ dn)
  .rw[if_neg h1];have:m=1:=by lia
   subst this;exact Hg O h (rC O (Wc _) λi j g9 hj=>by lia (O.as _ _ dn)) Y'
theorem zo(A:i6 lt p k):∀(f l r:Nat),l<=r->r<=k->r-l<=f->(∀i,i<l->lt (gA p k) (gA p i)=false)->(∀i,r<=i->i<k->lt (gA p k) (gA p i)=true)->runK lt (QS p k f l r)<=k/\(∀i,i<runK lt (QS p k f l r)->lt (gA p k) (gA p i)=false)/\∀i,runK lt (QS p k f l r)<=i->i<k->lt (gA p k) (gA p i)=true
 |0,l,r,h1,h2,h3,L,R=>⟨show l<=k by lia,L,λi hi hk=>R i (by have:l<=i:=hi;lia) hk⟩|f+1,l,r,h1,h2,h3,L,R=>by
  have e:runK lt (QS p k (f+1) l r)=runK lt (if l≥r then .ret l else .ask (p.getD k 0) (p.getD ((l+r)/2) 0) λc=>if c=true then QS p k f l ((l+r)/2)else QS p k f ((l+r)/2+1) r):=rfl;rw[e];by_cases hlr:l≥r;.rw[if_pos hlr];exact⟨show l<=k by lia,L,λi hi hk=>R i (by have:l<=i:=hi;lia) hk⟩
  .rw[if_neg hlr];have e2:runK lt (.ask (p.getD k 0) (p.getD ((l+r)/2) 0) λc=>if c=true then QS p k f l ((l+r)/2)else QS p k f ((l+r)/2+1) r)=runK lt (if lt (gA p k) (gA p ((l+r)/2))=true then QS p k f l ((l+r)/2)else QS p k f ((l+r)/2+1) r):=rfl;rw[e2];cases hc:lt (gA p k) (gA p ((l+r)/2))with
 |true=>
    rw[if_pos rfl];refine zo A f l ((l+r)/2) Y' Y' Y' L λi hi hk=>?_;by_cases z:i=(l+r)/2;.rw[z];exact hc
    .cases hx:lt (gA p k) (gA p i)with|true=>rfl|false=>have:=O.tr _ _ _ hx (A ((l+r)/2) i Y' hk);rw[hc]at this;exact this.symm
 |false=>
 rw[if_neg Z'];refine zo A f ((l+r)/2+1) r Y' h2 Y' (λi hi=>?_) R;by_cases z:i=(l+r)/2;.rw[z];exact hc
 .exact O.tr _ _ _ hc (A i ((l+r)/2) Y' Y')
theorem Hh{n:Nat}:∀(f:Nat)(p:Array Nat)(k:Nat),cj n p->i6 lt p k->k+f=n->cj n (runK lt (kas_bin f p k))/\i6 lt (runK lt (kas_bin f p k)) n
 |0,p,k,h,A,hk=>⟨h,by rw[show k=n by lia]at A;exact A⟩|f+1,p,k,h,A,hk=>by
  have hs:=h.size;have e:runK lt (kas_bin (f+1) p k)=runK lt (kas_bin f (bubble p k (k-runK lt (QS p k k 0 k))) (k+1)):=pA lt _ _;rw[e];obtain⟨l1,l2,l3⟩:=zo O A k 0 k Y' (Wc _) Y' λi hi=>by lia (λi h1 h2=>by lia);generalize runK lt (QS p k k 0 k)=l at*;refine Hh f _ (k+1) (h.F0 _ _) (λi j g9 hj=>?_) Y';rw[Hd Y' l1 i,Hd Y' l1 j];by_cases j1:j=l;.rw[if_pos j1,if_neg Y',if_neg Y'];exact l2 i Y'
  .rw[if_neg j1];by_cases j2:l<j/\j<=k
   .rw[if_pos j2];by_cases i1:i=l;.rw[if_pos i1];exact O.as _ _ (l3 (j-1) Y' Y')
    .rw[if_neg i1];by_cases i2:l<i/\i<=k;.rw[if_pos i2];exact A _ _ Y' Y'
     .rw[if_neg i2];exact A _ _ Y' Y'
   .rw[if_neg j2,if_neg Y',if_neg Y'];exact A i j g9 Y'
theorem X6{n:Nat}(h2:2<=n):cj n (runK lt (kas_sort n))/\i6 lt (runK lt (kas_sort n)) n:=by
 unfold kas_sort;rw[pA];obtain⟨a,b,c,d⟩:=X5 O (n:=n) (p:=Jt (WI n)) (.refl _) h2;generalize runK lt (U9 n (Jt (WI n)))=r at*;by_cases h:r.1<n;.rw[if_pos h,show max r.1 1=r.1 by lia];exact Hh O _ _ _ a b Y'
 .rw[if_neg h];rw[show r.1=n by lia]at b;exact⟨a,b⟩
end
end Lake.SO
namespace Lake.SO
open PySem.W
def ltL:List Tx->List Tx->Bool|[],[]=>false|[],_::_=>true|_::_,[]=>false|a::x,b::y=>if a=b then ltL x y else decide (a<b)
def z2g:List Value->List Tx->Prop|[],[]=>True|v::vs,x::xs=>(∃t,v=Value.str (toS x) t)/\z2g vs xs|_,_=>False
structure jy(h:Heap)(vs:List Value)(ks:List (List Tx)):Prop where
 len:ks.length=vs.length
 at':∀i v,vs[i]?=some v->ks.getD i []≠[]/\∃b o xs m,v=.ref b/\h.get? b=some o/\o.cls=.type "tuple"/\o.data=.seq xs m/\z2g xs.toList (ks.getD i [])
theorem jy.keeps{h h':Heap}{vs:List Value}{ks:List (List Tx)}(t:jy h vs ks)(k:∀b o,h.get? b=some o->o.cls=.type "tuple"->h'.get? b=some o):jy h' vs ks:=⟨t.len,λi v e=>by obtain⟨e0,b,o,xs,m,e1,e2,e3,r⟩:=t.at' i v e;exact⟨e0,b,o,xs,m,e1,k b o e2 e3,e3,r⟩⟩
theorem Hi{h:Heap}:∀{vs:List Value}{ks:List (List Tx)},jy h vs ks->∃fs,KatTups h vs fs/\fs.length=vs.length/\∀v∈fs,∃x t,v=Value.str x t
 |[],ks,t=>⟨[],trivial,rfl,λv h=>by simp at h⟩|v::vs,[],t=>by have:=t.len;simp at this|v::vs,k::ks,t=>by
  obtain⟨fs,a,b,c⟩:=Hi (vs:=vs) (ks:=ks) ⟨by have:=t.len;simpa using this,λi v e=>by have:=t.at' (i+1) v (~~~e);simpa using this⟩;obtain⟨e0,x,o,xs,m,rfl,e2,e3,e4,e5⟩:=t.at' 0 v rfl;have e5:z2g xs.toList k:=e5;have e0:k≠[]:=e0;obtain⟨z,tk,h0⟩:∃z tk,xs[0]?=some (Value.str z tk):=by cases k with|nil=>exact absurd rfl e0|cons y k=>cases hx:xs.toList with|nil=>rw[hx]at e5;exact e5.elim|cons u r=>
     rw[hx]at e5;obtain⟨tk,eu⟩:=e5.1;refine⟨toS y,tk,?_⟩;rw[<-eu];have:xs.toList[0]?=some u:=by rw[hx];rfl
     simpa using this
  exact⟨_::fs,⟨⟨x,o,xs,m,rfl,e2,e3,e4,h0⟩,a⟩,#v[b],λv hv=>by
 rcases Wt.mp hv with rfl|hv;.exact⟨_,_,rfl⟩
 .exact c v hv⟩
def eT(ks:List (List Tx)):List Nat:=(runK (λi j=>ltL (ks.getD i []) (ks.getD j [])) (kas_sort ks.length)).toList
theorem ka{ks:List (List Tx)}(h:2<=ks.length):(eT ks).Perm (WI ks.length):=cj.list (Good.run _ (F6 h))
section
variable{vs:List Value}
theorem Hj{C:Bool->W2->Prop}:∀(us vs:List Value)(x y:List Tx)(i:Nat),z2g us x->z2g vs y->C (ltL x y) s->KatLex prog w A true (decide (us.length<vs.length)) C (us.zip vs) i s
 |[],[],[],[],i,_,_,h=>h|[],v::vs,[],y::ys,i,_,_,h=>kat_nil (by simpa[ltL]using h)|u::us,[],x::xs,[],i,_,_,h=>kat_nil (by simpa[ltL]using h)|u::us,v::vs,x::xs,y::ys,i,hu,hv,h=>by
  obtain⟨⟨t1,rfl⟩,hu⟩:=hu;obtain⟨⟨t2,rfl⟩,hv⟩:=hv;rw[Ja];refine kat_cons (eqBool_str ?_);by_cases e:x=y
  .have eb:(toS x==toS y)=true:=by rw[e];simp
   rw[eb];refine kat_yes ?_;have hl:decide ((Value.str (toS x) t1::us).length<(Value.str (toS y) t2::vs).length)=decide (us.length<vs.length):=by simp
   rw[hl];refine Hj us vs xs ys (i+1) hu hv ?_;have:ltL (x::xs) (y::ys)=ltL xs ys:=by show(if x=y then _ else _)=_;rw[if_pos e]
   rw[this]at h;exact h
  .have eb:(toS x==toS y)=false:=by rw[beq_eq_false_iff_ne];intro z;exact e (ql z)
   rw[eb];have hl:ltL (x::xs) (y::ys)=decide (x<y):=by show(if x=y then _ else _)=_;rw[if_neg e]
   rw[hl]at h;refine kat_no ?_;cases hb:true&&i==0with|true=>refine oneLt_str ?_;rw[kJ,kJ];exact h|false=>refine kat_one _ _ (lt_str ?_);rw[kJ,kJ];exact h
 |[],_,_::_,_,_,hu,_,_=>hu.elim|_::_,_,[],_,_,hu,_,_=>hu.elim|_,[],_,_::_,_,_,hv,_=>hv.elim|_,_::_,_,[],_,_,hv,_=>hv.elim
theorem X7(t:jy s.heap vs ks){i j:Nat}(hi:i<vs.length)(hj:j<vs.length)(ne:i≠j){C:Bool->W2->Prop}(h:C (ltL (ks.getD i []) (ks.getD j [])) s):kas_ask prog w A (tuples' true) vs i j C s:=by obtain⟨_,a,o,xs,m,e1,e2,e3,e4,e5⟩:=t.at' i vs[i] #v[hi];obtain⟨_,b,p,ys,n,f1,f2,f3,f4,f5⟩:=t.at' j vs[j] #v[hj];unfold kas_ask;rw[Ji,Ji,W7 hi,W7 hj];simp only[Option.getD_some];rw[e1,f1];refine kat_lt e2 e4 f2 f4 ?_;have:=Hj (prog:=prog) (w:=w) (A:=A) (s:=s) (C:=C) xs.toList ys.toList _ _ 0 e5 f5 h;simpa using this
theorem Hk{a:Addr}{n:Nat}{P:PySem.Fin->W2->Prop}(ho:s.heap.get? a=some (WM "list" vs.toArray n))(t:jy s.heap vs ks)(h2:2<=vs.length)(fS:vs.length<64)(h:P (.done (.ret .none)) {s with heap:=sortedHeap s.heap a vs (Jt ((eT ks).map λi=>vs.getD i Value.none))}):W8 (model prog w) A (Builtin.«list.sort» ⟨[.ref a],[]⟩) P E s:=by
 have bc:a<s.heap.objs.size:=Wh ho;obtain⟨e1,ho1⟩:∃e1,(s.heap.update a (Obj.mapSeq λk=>(#[]:Array Value))).get? a=some (WM "list" #[] e1):=⟨_,get?_update_seq ho λk=>#[]⟩;rw[list_sort_plain];refine W0 (listItems_at ho rfl (W0 (listUpdate_at ho rfl (W0 (seqEpoch_at ho1 rfl (W0 (wpAny_newTuple (W0 (wpAny_newList (WC ?_) (Q5 _))) (by show vs.length<=_;rw[WZ];lia))))) (by rw[Wr,WZ];lia) (Q5 _))));show W8 (model prog w) A _ P E {s with heap:=((s.heap.update a (Obj.mapSeq λk=>(#[]:Array Value))).push (WM "tuple" vs.toArray 0)).push (WM "list" #[] 0)};have h6:(((s.heap.update a (Obj.mapSeq λk=>(#[]:Array Value))).push (WM "tuple" vs.toArray 0)).push (WM "list" #[] 0)).get? a=some (WM "list" #[] e1):=W5 _ (W5 _ ho1);have t6:jy (((s.heap.update a (Obj.mapSeq λk=>(#[]:Array Value))).push (WM "tuple" vs.toArray 0)).push (WM "list" #[] 0)) vs ks:=t.keeps λb o e c=>by
  have nb:b≠a:=λz=>by rw[z,ho]at e;cases e;exact absurd (Value.type.inj c) Z'
  refine W5 _ (W5 _ ?_);rw[WX _ _ (Ne.symm nb)];exact e
 dsimp only;have qU:¬vs.toArray.size<2:=by rw[Wr];lia
 rw[if_neg qU,if_neg qU];obtain⟨fs,kt,fl,ft⟩:=Hi t6;refine W0 (kat_kind (s:={s with heap:=((s.heap.update a (Obj.mapSeq λk=>(#[]:Array Value))).push (WM "tuple" vs.toArray 0)).push (WM "list" #[] 0)}) (T:=.type "str") kt Y' (λv hv=>by obtain⟨x,tk,rfl⟩:=ft v hv;exact .now) rfl ?_);refine W0 (Q9 (kat_run (s:={s with heap:=((s.heap.update a (Obj.mapSeq λk=>(#[]:Array Value))).push (WM "tuple" vs.toArray 0)).push (WM "list" #[] 0)}) (κ:=tuples' true) (ks:=vs) (vs:=vs) (E:=E) (G:=λp s'=>p.toList=eT ks/\s'={s with heap:=((s.heap.update a (Obj.mapSeq λk=>(#[]:Array Value))).push (WM "tuple" vs.toArray 0)).push (WM "list" #[] 0)}) (Q:=λeE s'=>(arrOf eE).map (·.2)=Jt ((eT ks).map λi=>vs.getD i Value.none)/\failedOf eE=none/\s'={s with heap:=((s.heap.update a (Obj.mapSeq λk=>(#[]:Array Value))).push (WM "tuple" vs.toArray 0)).push (WM "list" #[] 0)}) rfl h2 fS (λp eE s' a1 a2 a3 a4=>⟨by rw[kat_snds rfl a2,a4.1],a3,a4.2⟩) ?_) ?_ λk k e=>e);.refine Good.wp (n:=vs.length) (lt:=λi j=>ltL (ks.getD i []) (ks.getD j [])) (R:=λk=>True) (λi j hi hj ne C hC=>X7 t6 hi hj ne hC) ((F6 h2).mono λk k=>trivial) ⟨?_,rfl⟩;unfold eT;rw[t.len]
 .rintro⟨⟨⟩,eE⟩s'⟨q1,q2,rfl⟩;dsimp only at q1 q2⊢;have hz:((eT ks).map λi=>vs.getD i Value.none).length=vs.length:=by rw[Wa,(ka (ks:=ks) %[t.len|h2]).length_eq,Jk,t.len]
  rw[q1];refine W0 (seqEpoch_at h6 rfl (W0 (listUpdate_at h6 rfl ?_ (Q5 _) (by rw[Wr,hz,WZ];lia))));rw[q2];simp only[bne_self_eq_false,Q8,if_false];exact W4 h
theorem X8{l:Addr}{Q:Value->W2->Prop}(hl:s.heap.IsList l vs.toArray)(t:jy s.heap vs ks)(h2:2<=vs.length)(fS:vs.length<64)(h:Q (.ref (s.heap.objs.size+1)) {s with heap:=sortedAll s.heap vs (Jt ((eT ks).map λi=>vs.getD i Value.none))}):W8 (model prog w) A (call (.builtin "sorted") [.ref l]) Q E s:=by
 refine Calls.call_function_entry kind_sorted plain_sorted entry_sorted (args_sorted1 _) ?_;unfold Builtin.«sorted»;refine W0 (m:=checkCount "sorted" 1 1 _) (W4 (W0 (collect_list hl (W0 (wpAny_newList ?_ (by rw[WZ];lia))) (by rw[WZ];lia))));have hz:((s.heap.push (WM "list" #[] 0)).update s.heap.objs.size (Obj.mapSeq (.++vs.toArray))).objs.size=s.heap.objs.size+1:=by rw[Heap.size_update,size_push']
 have gW:(((s.heap.push (WM "list" #[] 0)).update s.heap.objs.size (Obj.mapSeq (.++vs.toArray))).push (WM "list" vs.toArray 0)).get? (s.heap.objs.size+1)=some (WM "list" vs.toArray 0):=by rw[<-hz];exact Wf _ rfl
 have t2:jy (((s.heap.push (WM "list" #[] 0)).update s.heap.objs.size (Obj.mapSeq (.++vs.toArray))).push (WM "list" vs.toArray 0)) vs ks:=t.keeps λb o e j=>by have hb:b<s.heap.objs.size:=Wh e;refine W5 _ ?_;rw[WX _ _ (Qq hb)];exact W5 _ e
 show W8 _ _ _ _ _ {s with heap:=((s.heap.push (WM "list" #[] 0)).update s.heap.objs.size (Obj.mapSeq (.++vs.toArray))).push (WM "list" vs.toArray 0)};rw[hz];refine W0 (WC (WS slot_list_sort ⟨_,gW,rfl⟩ entry_list_sort (Hk (s:={s with heap:=((s.heap.push (WM "list" #[] 0)).update s.heap.objs.size (Obj.mapSeq (.++vs.toArray))).push (WM "list" vs.toArray 0)}) gW t2 h2 fS ⟨_,rfl,?_⟩) (args_list_sort _)));exact W4 ⟨_,rfl,h⟩
end
end Lake.SO
namespace Lake.SO
open PySem.W
theorem zq{a b:Tx}(h:¬a<b)(e:a≠b):b<a:=by
 have h1:=List.not_lt.mp h;by_cases z:b<a;.exact z
 .exact absurd (List.le_antisymm (List.not_lt.mp z) h1) e
theorem rD:∀x y:List Tx,ltL x y=true->ltL y x=false
 |[],[],h=>by cases h|[],_::_,_=>rfl|_::_,[],h=>by cases h|a::x,b::y,h=>by
  have h:(if a=b then ltL x y else decide (a<b))=true:=h;show(if b=a then ltL y x else decide (b<a))=false;by_cases e:a=b;.rw[if_pos e]at h;rw[if_pos e.symm];exact rD x y h
  .rw[if_neg e,decide_eq_true_eq]at h;rw[if_neg (Ne.symm e),decide_eq_false_iff_not];exact List.lt_asymm h
theorem zr:∀x y z:List Tx,ltL x y=false->ltL y z=false->ltL x z=false
 |[],[],z,_,h=>h|[],_::_,_,h,_=>by cases h|_::_,_,[],_,_=>rfl|_::_,[],_::_,_,h=>by cases h|a::x,b::y,c::z,h1,h2=>by
  have h1:(if a=b then ltL x y else decide (a<b))=false:=h1;have h2:(if b=c then ltL y z else decide (b<c))=false:=h2;show(if a=c then ltL x z else decide (a<c))=false;by_cases e1:a=b
  .subst e1;rw[if_pos rfl]at h1;by_cases e2:a=c;.rw[if_pos e2]at h2⊢;exact zr x y z h1 h2
   .rw[if_neg e2]at h2⊢;exact h2
  .rw[if_neg e1,decide_eq_false_iff_not]at h1;by_cases e2:b=c;.subst e2;rw[if_neg e1,decide_eq_false_iff_not];exact h1
   .rw[if_neg e2,decide_eq_false_iff_not]at h2;have l1:=zq h1 e1;have l2:=zq h2 e2;have l3:c<a:=List.lt_trans l2 l1;have e3:a≠c:=λe=>by rw[e]at l3;exact List.lt_irrefl _ l3
    rw[if_neg e3,decide_eq_false_iff_not];exact List.lt_asymm l3
theorem X9(ks:List (List Tx)):Ord λi j=>ltL (ks.getD i []) (ks.getD j []):=⟨λa b h=>rD _ _ h,λa b c h1 h2=>zr _ _ _ h1 h2⟩
def mC(ks:List (List Tx)):List (List Tx):=if ks.length<2 then ks else(eT ks).map λi=>ks.getD i []
theorem X_(ks:List (List Tx)):(mC ks).Perm ks:=by
 unfold mC;split;.exact .refl _
 .have h:=(ka (ks:=ks) Y').map λi=>ks.getD i [];have e:(WI ks.length).map (λi=>ks.getD i [])=ks:=by
   apply JF;intro i;by_cases hi:i<ks.length;.simp[hi]
   .simp[hi]
  rw[e]at h;exact h
set_option tactic.hygienic true in theorem Ya(ks:List (List Tx)):(mC ks).Pairwise λa b=>ltL b a=false:=by
 unfold mC;split;.rename_i h;match ks,h with|[],_=>exact .nil|[_],_=>exact List.pairwise_singleton _ _|_::_::r,h=>simp only[WT]at h;lia
 .obtain⟨p,a⟩:=X6 (X9 ks) (n:=ks.length) Y';rw[Ql];have hs:=p.size;rw[List.pairwise_iff_getElem];intro i j hi hj g9;have e:∀k(hk:k<(eT ks).length),(eT ks)[k]=gA (runK (λi j=>ltL (ks.getD i []) (ks.getD j [])) (kas_sort ks.length)) k:=λk hk=>by unfold eT at hk⊢;have hk:k<(runK (λi j=>ltL (ks.getD i []) (ks.getD j [])) (kas_sort ks.length)).size:= ~~~hk;unfold gA;rw[Array.getD_eq_getD_getElem?,Array.getElem?_eq_getElem hk,Array.getElem_toList];rfl
  have iB:j<ks.length:=by have:=(ka (ks:=ks) Y').length_eq;rw[Jk]at this;lia
  rw[e i hi,e j hj];exact a i j g9 iB
theorem vG{H:Hp}{us:List Value}:∀{ws:List V}{x:List Tx},Vals ws us->ws=x.map (λt=>V.str (toS t))->z2g us x:=by intro ws x r e;subst e;induction x generalizing us with
 |nil=>have:=r.length;match us,this with|[],_=>trivial
 |cons t x ih=>cases r with|cons a b=>obtain⟨tk,e⟩:=show∃tk,_=Value.str (toS t) tk from a;exact⟨⟨tk,e⟩,ih b⟩
abbrev zt(K:W3):V->Hp->VK->Prop:=λv H Q=>∃(a:Addr)(vs:List V)(ks:List (List Tx)),v=.ref a/\cP K H a vs/\ks.length=vs.length/\(∀(i:Nat)v,vs[i]?=some v->ks.getD i []≠[]/\∃b ws,v=.ref b/\H b=some (.tup ws)/\ws=(ks.getD i []).map λt=>V.str (toS t))/\2<=vs.length/\vs.length<64/\∀p,H p=none->Q (.ref p) (upd H p (.lst ((eT ks).map λi=>vs.getD i .ax)))
theorem Yb:eF X (.builtin "sorted") λxs H Q=>∃v,xs=[v]/\zt X.K v H Q:=by
 intro pins s Y H xs us Q I r h;obtain⟨_,rfl,a,vs,ks,rfl,hq,hlen,ht,h2,fS,q⟩:=h;obtain⟨u,rfl,ru⟩:=f9 r;cases ru;obtain⟨its,r',p,_⟩:=I.list hq;have hl:=r'.length;have t:jy s.heap its ks:=⟨Y',λi v e=>by have hi:i<its.length:=(W6.mp e).1;have hv:vs[i]?=some (vs[i]' Y'):=#v[show i<vs.length by lia];have rv:=Vals.at2 r' hv e;obtain⟨bN,b,ws,eb,hb,h0⟩:=ht i _ hv;rw[eb]at rv;obtain rfl:v=Value.ref b:=rv;obtain⟨_,its',r2,n,eo⟩:=show bw X.prog X.w H s.heap b (.tup ws)from I.ay b _ hb;exact⟨bN,b,_,its'.toArray,n,rfl,eo,rfl,rfl,vG (H:=H) r2 h0⟩⟩;refine X8 p.isList t Y' Y' ?_;have hp:=ka (ks:=ks) Y';have CV:((eT ks).map λi=>vs.getD i V.ax).length=vs.length:=by rw[Wa,hp.length_eq,Jk,hlen]
 obtain⟨e,he⟩:=sortedAll_at s.heap its (Jt ((eT ks).map λi=>its.getD i Value.none));have I1:Inv X pins Y (upd H (s.heap.objs.size+1) (.lst ((eT ks).map λi=>vs.getD i .ax))) {s with heap:=sortedAll s.heap its (Jt ((eT ks).map λi=>its.getD i Value.none))}:=I.laid (t':=s.toks) (λb o z=>sortedAll_old z) (Nat.le_succ _) (show bw X.prog X.w _ _ _ (.lst ((eT ks).map λi=>vs.getD i .ax))from⟨by rw[CV,WZ];lia,(eT ks).map λi=>its.getD i Value.none,e,r'.pick _ λi hi=>by have:=hp.mem_iff.mp hi;simp at this;lia,he⟩);exact⟨.ref _,_,I1,rfl,q _ (I.ay.fresh (Nat.le_succ _))⟩
end Lake.SO
section
open Lake.SO
noncomputable def kb:List D->Option (List (List Tx))|[]=>some []|.tup (x::xs)::r=>(dh (x::xs)).bind λk=>(kb r).map (k::.)|_::_=>none
theorem vH:∀{ds:List D}{ks:List Tx},dh ds=some ks->ds=ks.map D.str|[],ks,h=>by cases h;rfl|d::r,ks,h=>by cases d with
 |str x=>have h:(dh r).map (x::.)=some ks:=h;cases e:dh r with|none=>rw[e]at h;cases h|some k'=>rw[e]at h;cases h;rw[vH e];rfl
 |_=>cases h
set_option tactic.hygienic true in theorem zu:∀{ds:List D}{ks:List (List Tx)},kb ds=some ks->ks.length=ds.length/\∀(i:Nat)d,ds[i]?=some d->ks.getD i []≠[]/\d=.tup ((ks.getD i []).map D.str)
 |[],ks,h=>by cases h;exact⟨rfl,λi d e=>by simp at e⟩|d::r,ks,h=>by
  unfold kb at h;split at h;.rename_i e;cases e
  .rename_i x xs r' e;cases e;cases e1:dh (x::xs)with|none=>rw[e1]at h;cases h|some k=>rw[e1]at h;cases e:kb r with|none=>rw[e]at h;cases h|some ks'=>rw[e]at h;cases h;obtain⟨h1,h2⟩:=zu e;have et:=vH e1;refine⟨#v[h1],λi d' e'=>?_⟩;cases i with|zero=>simp at e';subst e';refine⟨λz=>?_,by rw[et];rfl⟩;have z:k=[]:=z;rw[z]at et;cases et|succ i=>simpa using h2 i d' (~~~e')
  .cases h
noncomputable def k9:D->Option S
 |.lst ds=>if ds.length<2 then some (.own (.lst ds))else match kb ds with|some ks=>if ks.length<64 then some (.own (.lst ((eT ks).map λi=>ds.getD i .ax)))else none|none=>none
 |_=>none
set_option tactic.hygienic true in theorem Yc(hg:Gl X "sorted")(hm:X.mg "sorted"=none)(he:SB X c e fb)(hs:W9 [e] X.env=(false,eval e X.env)::W9 [] X.env:=by rfl):SE X c (.Call (.Name "sorted" pp) [e] [] pos) (aF k9 fb):=qu (r:=λv H Q=>F8 X.K v H Q\/zt X.K v H Q) (rl:=λxs H Q=>∃v,xs=[v]/\(F8 X.K v H Q\/zt X.K v H Q)) (λpins s Y H xs us Q I r⟨v,ex,h⟩=>h.elim (λ⟨a,vs,e,h⟩=>Vx pins s Y H xs us Q I r ⟨a,vs,by rw[ex,e],h⟩) λh=>Yb pins s Y H xs us Q I r ⟨v,ex,h⟩) (λv H Q h=>⟨v,rfl,h⟩) (λc Y Z H x d s Q k rx hp q=>by
 cases d with|lst ds=>
 simp only[k9]at hp;split at hp;.rename_i hl;cases hp;obtain⟨a,vs,ea,ha,ra⟩:=rx.lst;exact .inl ⟨a,vs,ea,.inl ha,%[ra.1|hl],λp hp=>q _ _ (.alloc k hp _) (aS.mY k ra hp)⟩
 .rename_i hl;refine .inr ?_;cases e:kb ds with|none=>rw[e]at hp;cases hp|some ks=>
      rw[e]at hp;simp only at hp;split at hp
      .rename_i hh;cases hp;obtain⟨h1,h2⟩:=zu e;obtain⟨a,vs,ea,ha,ra⟩:=rx.lst;have m4:=ra.1;refine⟨a,vs,ks,ea,.inl ha,Y',λi v ev=>?_,Y',Y',λp hp=>?_⟩;.have hi:i<vs.length:=(W6.mp ev).1;have hd:ds[i]?=some (ds[i]' Y'):=#v[show i<ds.length by lia];obtain⟨bN,er⟩:=h2 i _ hd;refine⟨bN,?_⟩;have rv:=ra.2 i v _ ev hd;rw[er]at rv;cases rv with|@tup b ws _ _ hb hlen hat=>
         refine⟨b,ws,rfl,hb,?_⟩;apply JF;intro j;rw[Wj];have hlen:ws.length=(ks.getD i []).length:=by rw[hlen];simp
         by_cases hj:j<ws.length
         .have nR:j<(ks.getD i []).length:=by lia
          have r0:=hat j (ws[j]'hj) (.str ((ks.getD i [])[j]'nR)) #v[hj] (by rw[Wj,W7 nR];rfl);rw[W7 hj,W7 nR];generalize ws[j]'hj=z at r0;cases r0;rfl
         .rw[WQ Y',WQ Y'];rfl
       .refine q _ _ (.alloc k hp _) (aS.mY k (aH.pick ra _ λi hi=>?_) hp);have:=(ka (ks:=ks) Y').mem_iff.mp hi;simp at this;lia
      .cases hp|_=>cases hp) hg hm PyProof.Rows.boot_sorted he Z' Z' hs
abbrev jz(k:List Tx):D:=.tup (k.map D.str)
theorem zv:∀{ks:List (List Tx)},(∀k∈ks,k≠[])->kb (ks.map jz)=some ks
 |[],_=>rfl|[]::r,h=>absurd rfl (h [] Wl)|(x::xs)::r,h=>by
  have ih:=zv (ks:=r) λk hk=>h k (Wi _ hk);have et:∀l:List Tx,dh (l.map D.str)=some l:=λl=>by induction l with|nil=>rfl|cons a l ih=>show(dh (l.map D.str)).map (a::.)=_;rw[ih];rfl
  show((dh ((x::xs).map D.str)).bind λk=>(kb (r.map jz)).map (k::.))=_;rw[et,ih];rfl
theorem Hl(h:∀k∈ks,k≠[])(fS:ks.length<64):k9 (.lst (ks.map jz))=some (.own (.lst ((mC ks).map jz))):=by
 unfold mC;simp only[k9];rw[Wa];by_cases h2:ks.length<2;.rw[if_pos h2,if_pos h2]
 .rw[if_neg h2,if_neg h2,zv h];simp only;rw[if_pos fS,WV];congr 3;apply Ju;intro i hi;have hi:i<ks.length:=by have:=(ka (ks:=ks) Y').mem_iff.mp hi;simpa using this
  show(ks.map jz).getD i .ax=jz (ks.getD i []);simp[hi]
end
theorem i3.mono{k:NK}(r:i3 H n k v)(up:∀b o,H b=some o->H' b=some o):i3 H' n k v:=by induction r with|int z=>exact .int z|bl b=>exact .bl b|str x=>exact .str x|tup h1 h2 _ ih=>exact .tup (up _ _ h1) h2 ih
theorem gE.mono{k:NK}(r:gE H m k v)(up:∀b o,H b=some o->H' b=some o):gE H' m k v:=by cases m with|true=>exact⟨r.1,r.2.mono up⟩|false=>exact r
def vI(H:Hp)(m:Bool)(ys:List V)(kps:List NE):Prop:=ys.length=kps.length/\∀(i:Nat)y kv,ys[i]?=some y->kps[i]?=some kv->(∃q,y=.ref q/\H q=some (.tup [kv.2.1,kv.2.2]))/\gE H m kv.1 kv.2.1
noncomputable def putAllN(kps acc:List NE):List NE:=kps.foldl (λa p=>putN a p.1 p.2.1 p.2.2) acc
theorem Hm:∀(kps acc:List NE),(putAllN kps acc).length<=acc.length+kps.length|[],acc=>Wc _|kv::r,acc=>by have h1:=Hm r (putN acc kv.1 kv.2.1 kv.2.2);have h2:=y6 acc kv.1 kv.2.1 kv.2.2;show(putAllN r (putN acc kv.1 kv.2.1 kv.2.2)).length<=_;simp only[WT];lia
theorem Yd(kps:List NE)(kv:NE)(acc:List NE):putAllN (kps++[kv]) acc=putN (putAllN kps acc) kv.1 kv.2.1 kv.2.2:=by unfold putAllN;rw[List.foldl_append];rfl
theorem Ye{k:NK}{y:V}{p:NE}(h:p∈putN acc k y v):(∃p'∈acc,p.1=p'.1/\p.2.1=p'.2.1)\/p.1=k/\p.2.1=y:=by
 unfold putN at h;split at h;.obtain⟨p',cm,rfl⟩:=WH.mp h;refine .inl ⟨p',cm,?_⟩;split<;>exact⟨rfl,rfl⟩
 .rcases Qe.mp h with h|h;.exact .inl ⟨p,h,rfl,rfl⟩
  .have:p=(k,y,v):= ~~~h;rw[this];exact .inr ⟨rfl,rfl⟩
theorem Ho:∀(kps acc:List NE)(p:NE),p∈putAllN kps acc->p∈([]:List NE)\/∃p'∈acc++kps,p.1=p'.1/\p.2.1=p'.2.1
 |[],acc,p,h=>.inr ⟨p,%[WU|h],rfl,rfl⟩|kv::r,acc,p,h=>by
  rcases Ho r (putN acc kv.1 kv.2.1 kv.2.2) p h with z|⟨p',cm,e1,e2⟩;.cases z
  .refine .inr ?_;rcases Qe.mp cm with cm|cm
   .rcases Ye cm with⟨p2,h2,f1,f2⟩|⟨f1,f2⟩;.exact⟨p2,#v[h2],e1.trans f1,e2.trans f2⟩
    .exact⟨kv,U',e1.trans f1,e2.trans f2⟩
   .exact⟨p',#v[cm],e1,e2⟩
theorem Yf{y:V}{r:Value}{Q:Unit->W2->Prop}{ao:List NE}{k:NK}(hu:A.units+6<WL)(I:Inv X pins Y H s)(e:H a=some (.dN ep ao))(hk:∀p∈ao,gE H m p.1 p.2.1)(ky:gE H m k y)(hz:ao.length<Wb)(ry:RelV y u)(rv:RelV v r)(h:∀s' fu,Inv X pins Y (upd H a (.dN fu (putN ao k y v))) s'->(∀b,b≠a->s'.heap.get? b=s.heap.get? b)->Q () s'):W8 (model X.prog X.w) A (dictSet a u r) Q E s:=by
 obtain⟨z,hS,xs,ob,es,rx,d⟩:=nM I.ay e;have hl:xs.length<=Wb:=by rw[<-Paired.length rx];exact z
 refine Gu hu (ky.key I.ay ry) d.get d.ex d.data d.ents (y4 I.ay rx hk) d.j7 hl λh' o' lJ fu q1 q2 q3 q4 hs=>h _ fu ?_ λb hb=>hs.2 b hb;have hV:(putN ao k y v).length<=Wb:=by have:=y6 ao k y v;lia
 exact xo I %[e|True.intro] hs ⟨o',q1⟩ (Gx hV hS (rx.put ry rv) ⟨q1,q2,q3,q4,Gr d.j7⟩)
theorem Hq{ys:List V}{kps:List NE}(hu:A.in1.units+6<WL)(hP:vI H m ys kps)(fQ:H dl=none)(hz:kps.length<Wb)(item:∀(i:Nat)(y:V)(H':Hp)(s:W2)(Q:Option Value->W2->Prop),(∀b o,H b=some o->H' b=some o)->H' it=none->Inv X pins Y H' s->tn i s.heap->ys[i]?=some y->(∀u s',RelV y u->Inv X pins Y H' s'->tn (i+1) s'.heap->Q (some u) s')->W8 (model X.prog X.w) A.in1 (QE (.ref it)) Q (λc c=>False) s)(done:∀(H':Hp)(s:W2)(Q:Option Value->W2->Prop),(∀b o,H b=some o->H' b=some o)->H' it=none->Inv X pins Y H' s->tn ys.length s.heap->(∀s',Inv X pins Y H' s'->Q none s')->W8 (model X.prog X.w) A.in1 (QE (.ref it)) Q (λc c=>False) s)(keep:∀(i:Nat)(h h':Heap),tn i h->(∀o,h.get? it=some o->h'.get? it=some o)->tn i h')(hit:H it=none)(bN:it≠dl)(hR:∀ep s',Inv X pins Y (upd H dl (.dN ep (putAllN kps []))) s'->R (.ok (.ret .none)) s'):∀(k i:Nat)(s:W2)(j:Int)(t0:Tok),ys.length-i=k->i<=ys.length->(∃ep,Inv X pins Y (upd H dl (.dN ep (putAllN (kps.take i) []))) s)->tn i s.heap->QR (model X.prog X.w) A (.builtin "dict.update.loop" ⟨[.ref dl,.ref it,.int j t0,.none],[]⟩) R s:=by
 have up:∀(ep:Nat)(acc:List NE)b o,H b=some o->upd H dl (.dN ep acc) b=some o:=λep acc b o e=>%[aO (d_ e fQ)|e]
 have jf:∀(ep:Nat)(acc:List NE),upd H dl (.dN ep acc) it=none:=λep acc=>%[aO bN|hit];intro k;induction k with|zero=>
 intro i s j t0 hk hi⟨ep,I⟩st;have e:i=ys.length:=by lia
 subst e;rw[hP.1,List.take_of_length_le (Wc _)]at I;refine ER (done _ s _ (up _ _) (jf _ _) I st λs' I'=>⟨rfl,hR ep s' I'⟩)|succ k ih=>
  intro i s j t0 hk hi⟨ep,I⟩st;have bc:i<ys.length:=by lia
  have gZ:i<kps.length:=by rw[<-hP.1];exact bc
  obtain⟨⟨q,ey,hq⟩,hkey⟩:=hP.2 i ys[i] kps[i] #v[bc] #v[gZ];have main:∀s1,Inv X pins Y (upd H dl (.dN ep (putAllN (kps.take i) []))) s1->∃(kk vv:Value)(n:Nat),s1.heap.get? q=some {cls:=.type "tuple",dict:=none,data:=.seq #[kk,vv] n,slots:=#[]}/\RelV kps[i].2.1 kk/\RelV kps[i].2.2 vv:=λs1 I1=>by obtain⟨_,its,r,n,e⟩:=show bw X.prog X.w _ s1.heap q (.tup [kps[i].2.1,kps[i].2.2])from I1.ay q _ (up _ _ q _ hq);obtain⟨u,v,rfl,r1,r2⟩:=Vals.two r;exact⟨u,v,n,e,r1,r2⟩
  refine EO (item i ys[i] _ s _ (up _ _) (jf _ _) I st #v[bc] λu s' ru I' eE=>?_);rw[ey]at ru;cases ru;obtain⟨kk,vv,n,e,r1,r2⟩:=main s' I';refine⟨q,kk,vv,n,rfl,e,?_⟩;have hl:(putAllN (kps.take i) []).length<Wb:=by have h2:=Hm (kps.take i) [];simp at h2;lia
  have Yg:∀p∈putAllN (kps.take i) [],gE (upd H dl (.dN ep (putAllN (kps.take i) []))) m p.1 p.2.1:=λp hp=>by
   rcases Ho _ _ p hp with z|⟨p',cm,e1,e2⟩;.cases z
   .rw[Qv]at cm;obtain⟨i',eG,e'⟩:=JQ.mp (List.mem_of_mem_take cm);have:=(hP.2 i' (ys[i']'%[hP.1|eG]) kps[i'] #v[show i'<ys.length by rw[hP.1];exact eG] #v[eG]).2;rw[e']at this;rw[e1,e2];exact this.mono (up _ _)
  refine Yf hu I' bS Yg (hkey.mono (up _ _)) hl r1 r2 λs2 fu I2 hs=>?_;rw[ox]at I2;have et:kps.take (i+1)=kps.take i++[kps[i]]:=by rw[List.take_add_one];simp[gZ]
  rw[show putN (putAllN (kps.take i) []) kps[i].1 kps[i].2.1 kps[i].2.2=putAllN (kps.take (i+1)) []by rw[et,Yd]]at I2;exact ih (i+1) _ (j+1) _ Y' bc ⟨fu,I2⟩ (keep (i+1) _ _ eE λo eo=>(hs it bN).trans eo)
theorem Yh(hu:X.A.units+64<WL)(hc:X.calm=true):eF X (.type "dict") λxs H Q=>∃p ys kps m,xs=[.ref p]/\(H p=some (.tup ys)\/Rd H p (.lst ys))/\vI H m ys kps/\kps.length<Wb/\∀l ep,H l=none->Q (.ref l) (upd H l (.dN ep (putAllN kps []))):=by
 intro pins s Y H xs us Q I r h;obtain⟨p,ys,kps,m,rfl,hp,hP,hz,q⟩:=h;obtain⟨u,rfl,rx⟩:=f9 r;cases rx;have hA:X.A.handled=none:=I.ok.hd hc;have Hr:X.A.in1.in1.units+6<WL:=by show X.A.units+1+1+6<WL;lia
 refine callType_codes (Q₁:=λobj s₁=>obj=.ref s.heap.objs.size/\s₁={s with heap:=s.heap.push {cls:=.type "dict",data:=.dict #[]}}) F.kt_called_dict (F.kt_typeCall_dict_1 _) F.entry_dict_init (kt_code_dict_new _ ⟨rfl,rfl⟩) ?_;rintro obj s₁⟨rfl,rfl⟩;have fQ:H s.heap.objs.size=none:=I.ay.fresh (Wc _);have I1:Inv X pins Y (upd H s.heap.objs.size (.dN 0 [])) {s with heap:=s.heap.push {cls:=.type "dict",data:=.dict #[]}}:=I.laid (t':=s.toks) (λj j q=>W5 _ q) (Wc _) (za s.heap I.big);generalize iQ:s.heap.objs.size=dl at fQ I1;have up:∀(acc:List NE)b o,H b=some o->upd H dl (.dN 0 acc) b=some o:=λacc b o e=>%[aO (d_ e fQ)|e];have qJ:({s with heap:=s.heap.push {cls:=.type "dict",data:=.dict #[]}}:W2).TypeIs (.ref dl) "dict":=⟨_,by rw[<-iQ];exact Wf _ rfl,rfl⟩;refine⟨qJ,F.args_dict_init_2 _ _,?_⟩;unfold Builtin.«dict.__init__»;refine W0 ?_;unfold Builtin.Dict.selfAndRest;refine W0 (JM qJ ?_);show W8 _ _ (pure (dl,[Value.ref p])) _ _ _;refine W4 ?_;show W8 _ _ (Jw "dict.__init__" dl (.ref p) [] .none) _ _ _;unfold Jw;have fin:∀ep s',Inv X pins Y (upd H dl (.dN ep (putAllN kps []))) s'->EP X pins Y Q (.ref dl) s':=λep s' I'=>⟨.ref dl,_,I',rfl,q dl ep fQ⟩;rcases hp with hp|hp
 .obtain⟨_,its,r,n,e⟩:=show bw X.prog X.w _ (s.heap.push {cls:=.type "dict",data:=.dict #[]}) p (.tup ys)from I1.ay p _ (up _ p _ hp);refine W0 (J5 ⟨_,e,rfl⟩ ?_);rw[if_pos Z'];refine W0 (EM e rfl rfl rfl hA λh' tk kp=>?_);rw[if_pos (show(none:Option Value).isNone=true from rfl)];refine W0 (QC ?_);have I2:Inv X pins Y (upd H dl (.dN 0 [])) {s with heap:=h',toks:=tk}:=I1.kept kp;have jW:h'.IsTuple p its.toArray:=⟨_,kp _ _ e,rfl,n,rfl⟩;refine W0 (U7 (s:={s with heap:=h',toks:=tk}) jW ?_);refine W4 ⟨JA ng _,?_⟩;have df:upd H dl (.dN 0 []) h'.objs.size=none:=I2.ay.fresh (Wc _);have bN:h'.objs.size≠dl:=λz=>by rw[z,bS]at df;cases df
  have hit:H h'.objs.size=none:=by rw[aO bN]at df;exact df
  have fp:∀H':Hp,H' h'.objs.size=none->fz X pins H' h'.objs.size:=λH' hn=>I2.jh (Wc _) hn;refine Hq (X:=X) (m:=m) (show X.A.in1.in1.units+6<WL from Hr) (pins:=pins) (Y:=Y) (H:=H) (dl:=dl) (it:=h'.objs.size) (ys:=ys) (kps:=kps) (tn:=λi h=>h.IsTupleIter h'.objs.size p i) hP fQ hz ?_ ?_ (λi h h2 st k=>st.at k) hit bN (λep s' I'=>⟨rfl,fin ep s' I'⟩) ys.length 0 _ 0 _ (Ue _) (Q5 _) ⟨0,?_⟩ ?_;.intro i y H' s' Q' sub hn I' st hy k;obtain⟨_,its2,r2,n2,e2⟩:=show bw X.prog X.w _ s'.heap p (.tup ys)from I'.ay p _ (sub p _ hp);obtain⟨v,hv,rv⟩:=r2.get hy;obtain⟨f0,f1,f2,f3,f4,f5⟩:=fp H' hn;refine wpAny_pyNext_tuple_item st (items:=its2.toArray) ⟨_,e2,rfl,n2,rfl⟩ (x:=v) (~~~hv) λh3 iK sb=>?_;exact k v {s' with heap:=h3} rv (I'.turned (t':=s'.toks) (λb o hb e=>(sb.2 b hb).trans e) f0 f1 f3 f4 f5) iK
  .intro H' s' Q' sub hn I' st k;obtain⟨_,its2,r2,n2,e2⟩:=show bw X.prog X.w _ s'.heap p (.tup ys)from I'.ay p _ (sub p _ hp);obtain⟨f0,f1,f2,f3,f4,f5⟩:=fp H' hn;have m4:=r2.length;exact wpAny_pyNext_tuple_end (show X.A.in1.in1.handled=none from hA) st (items:=its2.toArray) ⟨_,e2,rfl,n2,rfl⟩ V' λh3 eb=>k {s' with heap:=h3} (I'.turned (t':=s'.toks) (λb o hb e=>eb b o hb e) f0 f1 f3 f4 f5)
  .exact I2.kept (t':=tk) λb o e=>W5 _ e
  .exact⟨_,Wf _ rfl,rfl,rfl⟩
 .obtain⟨_,its,n,r,e⟩:=show bw X.prog X.w _ (s.heap.push {cls:=.type "dict",data:=.dict #[]}) p (.lst ys)from(Rd.sub hp (up _)).ok I1.ay;refine W0 (J5 ⟨_,e,rfl⟩ ?_);rw[if_pos Z'];refine W0 (EN e rfl rfl rfl hA λh' tk kp=>?_);rw[if_pos (show(none:Option Value).isNone=true from rfl)];refine W0 (QC ?_);have I2:Inv X pins Y (upd H dl (.dN 0 [])) {s with heap:=h',toks:=tk}:=I1.kept kp;have jW:h'.IsList p its.toArray:=⟨_,kp _ _ e,rfl,n,rfl⟩;refine W0 (JG (s:={s with heap:=h',toks:=tk}) jW ?_);refine W4 ⟨JA ng _,?_⟩;have df:upd H dl (.dN 0 []) h'.objs.size=none:=I2.ay.fresh (Wc _);have bN:h'.objs.size≠dl:=λz=>by rw[z,bS]at df;cases df
  have hit:H h'.objs.size=none:=by rw[aO bN]at df;exact df
  have fp:∀H':Hp,H' h'.objs.size=none->fz X pins H' h'.objs.size:=λH' hn=>I2.jh (Wc _) hn;refine Hq (X:=X) (m:=m) (show X.A.in1.in1.units+6<WL from Hr) (pins:=pins) (Y:=Y) (H:=H) (dl:=dl) (it:=h'.objs.size) (ys:=ys) (kps:=kps) (tn:=λi h=>h.IsListIter h'.objs.size p i) hP fQ hz ?_ ?_ (λi h h2 st k=>st.at k) hit bN (λep s' I'=>⟨rfl,fin ep s' I'⟩) ys.length 0 _ 0 _ (Ue _) (Q5 _) ⟨0,?_⟩ ?_;.intro i y H' s' Q' sub hn I' st hy k;obtain⟨_,its2,n2,r2,e2⟩:=show bw X.prog X.w _ s'.heap p (.lst ys)from(Rd.sub hp sub).ok I'.ay;obtain⟨v,hv,rv⟩:=r2.get hy;obtain⟨f0,f1,f2,f3,f4,f5⟩:=fp H' hn;refine wpAny_pyNext_list_item st (items:=its2.toArray) ⟨_,e2,rfl,n2,rfl⟩ (x:=v) (~~~hv) λh3 iK sb=>?_;exact k v {s' with heap:=h3} rv (I'.turned (t':=s'.toks) (λb o hb e=>(sb.2 b hb).trans e) f0 f1 f3 f4 f5) iK
  .intro H' s' Q' sub hn I' st k;obtain⟨_,its2,n2,r2,e2⟩:=show bw X.prog X.w _ s'.heap p (.lst ys)from(Rd.sub hp sub).ok I'.ay;obtain⟨f0,f1,f2,f3,f4,f5⟩:=fp H' hn;have m4:=r2.length;exact wpAny_pyNext_list_end (show X.A.in1.in1.handled=none from hA) st (items:=its2.toArray) ⟨_,e2,rfl,n2,rfl⟩ V' λh3 eb=>k {s' with heap:=h3} (I'.turned (t':=s'.toks) (λb o hb e=>eb b o hb e) f0 f1 f3 f4 f5)
  .exact I2.kept (t':=tk) λb o e=>W5 _ e
  .exact⟨_,Wf _ rfl,rfl,rfl⟩
noncomputable def ke:List D->Option (List (D×D))|[]=>some []|.tup [k,v]::r=>if(gG true k&&(cF 6 k).isSome)=true then(ke r).map ((k,v)::.)else none|_::_=>none
def pC(ps acc:List (D×D)):List (D×D):=ps.foldl (λa q=>jx a q.1 q.2) acc
noncomputable def nS:D->Option S|.lst ds=>(ke ds).bind λps=>if ps.length<Wb then some (.own (.dic (pC ps [])))else none|.tup ds=>(ke ds).bind λps=>if ps.length<Wb then some (.own (.dic (pC ps [])))else none|_=>none
set_option tactic.hygienic true in theorem zw{H:Hp}{O:Addr->Prop}:∀{ds:List D}{vs:List V}{ps:List (D×D)},ke ds=some ps->aH H O vs ds->∃kps,vI H true vs kps/\DN H O kps ps/\kps.length=ps.length
 |[],[],ps,h,_=>by cases h;exact⟨[],⟨rfl,λi y kv e=>by simp at e⟩,.nil,rfl⟩|[],_::_,_,_,r=>by have:=r.1;simp at this|_::_,[],_,_,r=>by have:=r.1;simp at this|d::ds,v::vs,ps,h,r=>by
  unfold ke at h;split at h;.rename_i heq;cases heq
  .rename_i k w r' heq;cases heq;split at h;.rename_i hk;rw[Wq]at hk;obtain⟨hm,hc⟩:=hk;obtain⟨kk,hc⟩:=Qz.mp hc;cases hr:ke ds with|none=>rw[hr]at h;cases h|some ps'=>rw[hr]at h;cases h;obtain⟨kps,hP,hD,hL⟩:=zw hr r.tail;have rp:=r.head;cases rp with|tup h1 h2 h3 h4=>rename_i a us;rcases us with _|⟨x,_|⟨y,_|_⟩⟩<;>cases h3;have rk:=h4 0 x k rfl rfl;have rv:=h4 1 y w rfl rfl;refine⟨(kk,x,y)::kps,⟨#v[hP.1],λi z kv e1 e2=>?_⟩,.cons rk rv hc hD,#v[hL]⟩;cases i with|zero=>simp at e1 e2;subst e1 e2;exact⟨⟨a,rfl,h2⟩,qY hm hc rk⟩|succ i=>exact hP.2 i z kv (~~~e1) (~~~e2)
   .cases h
  .cases h
theorem DN.nq{O:Addr->Prop}:∀{kps:List NE}{ps:List (D×D)}{ws:List NE}{ds:List (D×D)},DN H O kps ps->DN H O ws ds->DN H O (putAllN kps ws) (pC ps ds)|[],[],_,_,_,h=>h|[],_::_,_,_,h,_=>by have:=h.1;simp at this|_::_,[],_,_,h,_=>by have:=h.1;simp at this|p::kps,q::ps,ws,ds,h,h'=>by obtain⟨h1,h2,h3,h4⟩:=h.un;show DN H O (putAllN kps (putN ws p.1 p.2.1 p.2.2)) (pC ps (jx ds q.1 q.2));exact DN.nq h4 (DN.put h3 h1 h2 h')
set_option tactic.hygienic true in theorem Yi(hu:X.A.units+64<WL)(hc:X.calm=true)(hg:Gl X "dict")(hm:X.mg "dict"=none)(he:SB X c e fb)(hs:nc e=true:=by rfl):SE X c (.Call (.Name "dict" pp) [e] [] pos) (aF nS fb):=uu (r:=λv H Q=>∃p ys kps m,v=.ref p/\(H p=some (.tup ys)\/Rd H p (.lst ys))/\vI H m ys kps/\kps.length<Wb/\∀l ep,H l=none->Q (.ref l) (upd H l (.dN ep (putAllN kps [])))) (Yh hu hc) (λv H Q⟨p,ys,kps,m,e,h⟩=>⟨p,ys,kps,m,by rw[e],h⟩) (λc Y Z H x d s Q k rx hp q=>by cases d with
 |lst ds=>simp only[nS]at hp;cases hps:ke ds with|none=>rw[hps]at hp;cases hp|some ps=>
 rw[hps]at hp;simp only[Wu]at hp;split at hp;.rename_i hz;cases hp;obtain⟨a,vs,ex,ha,r⟩:=rx.lst;obtain⟨kps,hP,hD,hL⟩:=zw hps r;exact⟨a,vs,kps,true,ex,.inr ha,hP,%[hL|hz],λl ep hl=>q _ _ (.alloc k hl _) (aS.zb k hl (DN.nq hD .nil))⟩
 .cases hp|tup ds=>simp only[nS]at hp;cases hps:ke ds with|none=>rw[hps]at hp;cases hp|some ps=>
 rw[hps]at hp;simp only[Wu]at hp;split at hp;.rename_i hz;cases hp;obtain⟨a,vs,ex,ha,r⟩:=rx.tup;obtain⟨kps,hP,hD,hL⟩:=zw hps r;exact⟨a,vs,kps,true,ex,.inl ha,hP,%[hL|hz],λl ep hl=>q _ _ (.alloc k hl _) (aS.zb k hl (DN.nq hD .nil))⟩
 .cases hp|_=>simp[nS]at hp) hg hm EZ he Z' Z' (oX hs)
namespace PySem.SeqAt
open AutoSeq1(wpAny_loadPart')
open MeetsSeq
open Lake.SO(z2g ltL)
theorem Yj(l b:Addr)(xs ys:Array Value)(x y:List Tx)(hx:z2g xs.toList x)(hy:z2g ys.toList y)(n n2:Nat)(dd mR:Option Addr)(sl lP:Array (Option Value)):Meets (Builtin.«tuple.__le__» ⟨[.ref l,.ref b],[]⟩) λj R s=>s.heap.get? l=some {cls:=.type "tuple",dict:=dd,data:=.seq xs n,slots:=sl}/\s.heap.get? b=some {cls:=.type "tuple",dict:=mR,data:=.seq ys n2,slots:=lP}/\R (.ok (.ret (.bool !ltL y x))) s:=.of_wp λprog w A R s h=>by
  obtain⟨hp,g,d,tk,os⟩:=s;obtain⟨hl,hb,h⟩:=h;have f2:=AutoSeq1.sub_tuple_tuple;wp_walk using JY hl,JY hb,wpAny_forIn_list _ (λrest c s'=>c.1=none/\s'=⟨hp,g,d,tk,os⟩/\∃us vs x' y',rest=List.zip us vs/\z2g us x'/\z2g vs y'/\ltL y' x'=ltL y x/\us.length+ys.size=vs.length+xs.size) _;case turn=>rintro⟨u,v⟩rest c s'⟨hc,rfl,us,vs,x',y',hz,hu,hv,bc,hlen⟩;cases us with|nil=>cases hz|cons u0 us=>cases vs with|nil=>cases hz|cons v0 vs=>rw[Ja]at hz;injection hz with yF hrest;cases yF;cases x' with|nil=>exact hu.elim|cons a x'=>cases y' with|nil=>exact hv.elim|cons e y'=>
       obtain⟨⟨t1,rfl⟩,hu⟩:=hu;obtain⟨⟨t2,rfl⟩,hv⟩:=hv;refine W0 (eqBool_str ?_);by_cases q:a=e
       .rw[show(toS a==toS e)=true by rw[q];simp];wp_walk;have:ltL (e::y') (a::x')=ltL y' x':=by show(if e=a then _ else _)=_;rw[if_pos q.symm]
        rw[this]at bc;exact⟨rfl,rfl,us,vs,x',y',hrest,hu,hv,bc,by simp only[WT]at hlen;lia⟩
       .rw[show(toS a==toS e)=false by rw[beq_eq_false_iff_ne];intro z;exact q (ql z)];have:ltL (e::y') (a::x')=decide (e<a):=by show(if e=a then _ else _)=_;rw[if_neg (Ne.symm q)]
        rw[<-bc,this]at h;simp only[QW,if_true];refine W0 (QC ?_);refine W0 (show W8 _ _ (richCompare .LtE (.str (toS a) t1) (.str (toS e) t2)) _ _ _ from PySem.P.le_str ?_);refine W0 (W4 ?_);rw[kJ,kJ];exact W4 (W4 ⟨_,rfl,h⟩)
  case fin=>
   rintro⟨c1,c2⟩s'⟨hc,rfl,us,vs,x',y',hz,hu,hv,bc,hlen⟩;simp only at hc;subst hc;have:(!ltL y x)=decide (xs.size<=ys.size):=by rw[<-bc];cases us with
 |nil=>cases x' with|cons a x'=>exact hu.elim|nil=>
      have e:ltL y' []=false:=by cases y'<;>rfl
      rw[e];simp only[JZ]at hlen;exact(decide_eq_true Y').symm
 |cons u0 us=>cases vs with|cons v0 vs=>cases hz|nil=>cases x' with|nil=>exact hu.elim|cons a x'=>cases y' with|cons b y'=>exact hv.elim|nil=>simp only[JZ,WT]at hlen;show false=_;exact(decide_eq_false Y').symm
   rw[this]at h;wp_walk;exact⟨_,rfl,h⟩
  case h=>exact⟨rfl,rfl,xs.toList,ys.toList,x,y,rfl,hx,hy,rfl,by simp;lia⟩
end PySem.SeqAt
section
open Lake.SO
def Ht:R2:=λx y H Q=>∃(a b:Addr)(ks ls:List Tx),x=.ref a/\y=.ref b/\H a=some (.tup (ks.map λt=>V.str (toS t)))/\H b=some (.tup (ls.map λt=>V.str (toS t)))/\Q (.bl !ltL ls ks) H
theorem Yk(hu:X.A.units+64<WL):br X (WA .LtE) Ht:=by intro pins s Y H x y v u Q I rx ry h;obtain⟨a,b,ks,ls,rfl,rfl,ha,hb,q⟩:=h;cases rx;cases ry;obtain⟨_,its,r1,n,e1⟩:=show bw X.prog X.w H s.heap a (.tup (ks.map λt=>V.str (toS t)))from I.ay a _ ha;obtain⟨_,gw,r2,m,e2⟩:=show bw X.prog X.w H s.heap b (.tup (ls.map λt=>V.str (toS t)))from I.ay b _ hb;show W8 _ _ (richCompare .LtE (.ref a) (.ref b)) _ _ _;exact richCompare_meets_room (op:=.LtE) ⟨_,e1,rfl⟩ ⟨_,e2,rfl⟩ F.slot_tuple_le F.entry_tuple_le (F.args_tuple_le_2 _ _) (PySem.SeqAt.Yj a b its.toArray gw.toArray ks ls (vG (H:=H) r1 rfl) (vG (H:=H) r2 rfl) n m none none #[] #[]) ⟨e1,e2,(λx=>nomatch x),⟨.bl _,H,I,rfl,q⟩⟩ (show X.A.units<WL by lia)
noncomputable def nU(x y:D):Option S:=match x,y with|.tup xs,.tup ys=>(dh xs).bind λks=>(dh ys).map λls=>.pure (.bl !ltL ls ks)|_,_=>none
theorem zx{O:Addr->Prop}{ws:List V}{ks:List Tx}(r:aH H O ws (ks.map D.str)):ws=ks.map λt=>V.str (toS t):=by
 apply JF;intro j;rw[Wj];have hlen:ws.length=ks.length:=by have:=r.1;simpa using this
 by_cases hj:j<ws.length
 .have nR:j<ks.length:=by lia
  have r0:=r.2 j (ws[j]'hj) (.str (ks[j]'nR)) #v[hj] (by rw[Wj,W7 nR];rfl);rw[W7 hj,W7 nR];generalize ws[j]'hj=z at r0;cases r0;rfl
 .rw[WQ Y',WQ Y'];rfl
set_option tactic.hygienic true in theorem Yl:bW Ht nU:=by
 intro c Y Z H x y d e s Q k rx ry hp q;unfold nU at hp;split at hp;.rename_i xs ys;cases e1:dh xs with|none=>rw[e1]at hp;cases hp|some ks=>cases e2:dh ys with|none=>rw[e1,e2]at hp;cases hp|some ls=>rw[e1,e2]at hp;cases hp;rw[vH e1]at rx;rw[vH e2]at ry;obtain⟨a,vs,ea,ha,ra⟩:=rx.tup;obtain⟨b,ws,eb,hb,rb⟩:=ry.tup;have ta:vs=ks.map λt=>V.str (toS t):=zx ra;have tb:ws=ls.map λt=>V.str (toS t):=zx rb;rw[ta]at ha;rw[tb]at hb;exact⟨a,b,ks,ls,ea,eb,ha,hb,q _ H (.refl k) (.bl _)⟩
 .cases hp
end
namespace Lake.SO
open PySem.W
def i7{α:Type}(ks:List (List Tx))(vs:List α)(d:α):List α:=if vs.length<2 then vs else(eT ks).map λi=>vs.getD i d
abbrev zy:V->Hp->VK->Prop:=λv H Q=>∃(a:Addr)(ep:Nat)(ao:List NE)(ks:List (List Tx)),v=.ref a/\H a=some (.dN ep ao)/\ks.length=ao.length/\(∀(i:Nat)v,(ao.map (·.2.1))[i]?=some v->ks.getD i []≠[]/\∃b ws,v=.ref b/\H b=some (.tup ws)/\ws=(ks.getD i []).map λt=>V.str (toS t))/\ao.length<64/\∀p,H p=none->Q (.ref p) (upd H p (.lst (i7 ks (ao.map (·.2.1)) .ax)))
set_option tactic.hygienic true in theorem Ym{X:Cx}(hc:X.calm=true):eF X (.builtin "sorted") λxs H Q=>∃v,xs=[v]/\zy v H Q:=by
 intro pins s Y H xs us Q I r h;obtain⟨_,rfl,a,ep,ao,ks,rfl,ha,hlen,ht,fS,q⟩:=h;obtain⟨u,rfl,ru⟩:=f9 r;cases ru;obtain⟨z,lo,ys,o,es,rx,d⟩:=nM I.ay ha;have hl:ao.length=ys.length:=Paired.length rx;have hz:es.size=ys.length:=by rw[<-Qs,d.ents,Wa]
 refine Calls.call_function_entry kind_sorted plain_sorted entry_sorted (args_sorted1 _) ?_;unfold Builtin.«sorted»;refine W0 (m:=checkCount "sorted" 1 1 _) (W4 ?_);refine W0 (kdu_collect (A:=X.A.in1) (XF (prog:=X.prog) (w:=X.w) (d:=a) (ep:=ep) (xs:=ys) (es:=es) lo) (I.ok.hd hc) ⟨o,d⟩ Y' λh' tk acc kp Hu=>?_);have hv:Vals (ao.map (·.2.1)) acc.toList:=GV (w:=X.w) rx (by rw[Qs,Hu.1,hz]) λj v ej=>by obtain⟨en,e1,e2⟩:=Hu.2 j v (~~~ej);rw[<-JO,d.ents,Wj]at e1;cases hy:ys[j]? with|none=>rw[hy]at e1;cases e1|some x=>rw[hy]at e1;cases e1;exact⟨x,rfl,e2⟩
 have kP:acc.toList.length=ao.length:=by rw[<-hv.length];simp
 refine W0 (wpAny_newList ?_ (by rw[kP,WZ];lia));have I1:Inv X pins Y H {s with heap:=h',toks:=tk}:=I.kept kp;generalize acc.toList=its at hv kP;have gW:(h'.push (WM "list" its.toArray 0)).get? h'.objs.size=some (WM "list" its.toArray 0):=Wf _ rfl;have t:jy (h'.push (WM "list" its.toArray 0)) its ks:=⟨Y',λi v e=>by have hi:i<its.length:=(W6.mp e).1;have hvl:=hv.length;have hw:(ao.map (·.2.1))[i]?=some ((ao.map (·.2.1))[i]' Y'):=W7 Y';have rv:=Vals.at2 hv hw e;obtain⟨bN,b,ws,eb,hb,h0⟩:=ht i _ hw;rw[eb]at rv;obtain rfl:v=Value.ref b:=rv;obtain⟨_,its',r2,n,eo⟩:=show bw X.prog X.w H h' b (.tup ws)from I1.ay b _ hb;exact⟨bN,b,_,its'.toArray,n,rfl,W5 _ eo,rfl,rfl,vG (H:=H) r2 h0⟩⟩;have fin:∀(out:List Value),Vals (i7 ks (ao.map (·.2.1)) .ax) out->EP X pins Y Q (.ref h'.objs.size) {s with heap:=sortedHeap (h'.push (WM "list" its.toArray 0)) h'.objs.size its out.toArray,toks:=tk}:=λout Yn=>by
  obtain⟨e,he⟩:=sortedHeap_at (vs:=its) (out:=out.toArray) gW;have qK:(i7 ks (ao.map (·.2.1)) V.ax).length<=64:=by
   unfold i7;split;.simp;lia
   .rename_i h2;rw[Wa,(ka (ks:=ks) (by simp at h2;lia)).length_eq,Jk];lia
  refine⟨.ref h'.objs.size,_,I1.laid (t':=tk) (λb u hb=>?_) (Wc _) (show bw X.prog X.w _ _ _ (.lst (i7 ks (ao.map (·.2.1)) .ax))from⟨Wy qK (by rw[WZ];lia),out,e,Yn,he⟩),rfl,q _ (I1.ay.fresh (Wc _))⟩;have bc:b<h'.objs.size:=Wh hb;rw[sortedHeap_old (WG bc) %[size_push'|Nat.lt_succ_of_lt bc]];exact W5 _ hb
 show W8 _ _ _ _ _ {s with heap:=h'.push (WM "list" its.toArray 0),toks:=tk};by_cases h2:its.length<2
 .refine W0 (WC (WS slot_list_sort ⟨_,gW,rfl⟩ entry_list_sort (F7 (s:={s with heap:=h'.push (WM "list" its.toArray 0),toks:=tk}) gW h2 ⟨_,rfl,?_⟩) (args_list_sort _)));refine W4 ⟨_,rfl,fin its ?_⟩;have:i7 ks (ao.map (·.2.1)) V.ax=ao.map (·.2.1):=by unfold i7;rw[if_pos V']
  rw[this];exact hv
 .refine W0 (WC (WS slot_list_sort ⟨_,gW,rfl⟩ entry_list_sort (Hk (s:={s with heap:=h'.push (WM "list" its.toArray 0),toks:=tk}) gW t Y' Y' ⟨_,rfl,?_⟩) (args_list_sort _)));refine W4 ⟨_,rfl,fin ((eT ks).map λi=>its.getD i Value.none) ?_⟩;have:i7 ks (ao.map (·.2.1)) V.ax=(eT ks).map λi=>(ao.map (·.2.1)).getD i V.ax:=by unfold i7;rw[if_neg V']
  rw[this];refine hv.pick _ λi hi=>?_;have:=(ka (ks:=ks) Y').mem_iff.mp hi;simp at this⊢;lia
end Lake.SO
section
open Lake.SO
noncomputable def nV:D->Option S|.dic ds=>(kb (ds.map (·.1))).bind λks=>if ks.length<64 then some (.own (.lst (i7 ks (ds.map (·.1)) .ax)))else none|_=>none
set_option tactic.hygienic true in theorem Yo(hc:X.calm=true)(hg:Gl X "sorted")(hm:X.mg "sorted"=none)(he:SB X c e fb)(hs:W9 [e] X.env=(false,eval e X.env)::W9 [] X.env:=by rfl):SE X c (.Call (.Name "sorted" pp) [e] [] pos) (aF nV fb):=qu (r:=zy) (rl:=λxs H Q=>∃v,xs=[v]/\zy v H Q) (Ym hc) (λv H Q h=>⟨v,rfl,h⟩) (λc Y Z H x d s Q k rx hp q=>by cases d with
 |dic ds=>simp only[nV]at hp;cases e:kb (ds.map (·.1))with|none=>rw[e]at hp;cases hp|some ks=>
     rw[e]at hp;simp only[Wu]at hp;split at hp
     .rename_i hh;cases hp;obtain⟨h1,h2⟩:=zu e;obtain⟨a,ep,ws,ea,ha,dn⟩:=y8 rx;have rk:=dn.GX;have hl:=rk.1;have Yp:ws.length=ds.length:= ~~~hl;have h1:ks.length=ds.length:= ~~~h1;refine⟨a,ep,ws,ks,ea,ha,Y',λi v ev=>?_,Y',λp hp=>?_⟩;.have hi:i<(ws.map (·.2.1)).length:=(W6.mp ev).1;rw[Wa]at hi;have hd:(ds.map (·.1))[i]?=some ((ds.map (·.1))[i]'(by rw[Wa];lia)):=W7 (by rw[Wa];lia);obtain⟨bN,er⟩:=h2 i _ hd;have rv:=rk.2 i v _ ev hd;rw[er]at rv;refine⟨bN,?_⟩;cases rv with|@tup b us _ _ hb hlen hat=>exact⟨b,us,rfl,hb,zx (H:=H) (O:=Av c Y Z) ⟨hlen,hat⟩⟩
      .refine q _ _ (.alloc k hp _) (aS.mY k ?_ hp);unfold i7;simp only[Wa];rw[Yp];split;.exact rk
       .rename_i h2;refine aH.pick rk _ λi hi=>?_;have:=(ka (ks:=ks) Y').mem_iff.mp hi;simp at this⊢;lia
     .cases hp|_=>simp[nV]at hp) hg hm PyProof.Rows.boot_sorted he Z' Z' hs
theorem Yq{ps:List (D×D)}(hk:ps.map (·.1)=ks.map jz)(h:∀k∈ks,k≠[])(fS:ks.length<64):nV (.dic ps)=some (.own (.lst ((mC ks).map jz))):=by
 simp only[nV];rw[hk,zv h];simp only[Wu];rw[if_pos fS];unfold mC i7;rw[Wa];by_cases h2:ks.length<2;.rw[if_pos h2,if_pos h2]
 .rw[if_neg h2,if_neg h2,WV];congr 3;apply Ju;intro i hi;have hi:i<ks.length:=by have:=(ka (ks:=ks) Y').mem_iff.mp hi;simpa using this
  show(ks.map jz).getD i .ax=jz (ks.getD i []);simp[hi]
def Hv(K:W3)(neg:Bool):R2:=λx y H Q=>yW K neg x y H Q\/∃p vs ds d,y=.ref p/\H p=some (.tup vs)/\aH H cT vs ds/\Rep H cT x d/\flat 49 d=true/\(∀e∈ds,flat 49 e=true)/\Q (.bl (if neg then !ds.any λe=>aY e d else ds.any λe=>aY e d)) H
theorem Yr(hu:X.A.units+64<WL):br X (WA .NotIn) (Hv X.K true):=by
 intro pins s Y H x y v u Q I rx ry h;rcases h with h|⟨p,vs,ds,d,rfl,hq,rs,r1,f1,fs,q⟩;.exact Gg hu pins s Y H x y v u Q I rx ry h
 .cases ry;obtain⟨_,its,r,n,eo⟩:=show bw X.prog X.w H s.heap p (.tup vs)from I.ay p _ hq;obtain⟨e,h1,h2⟩:=Gf hu I rx r1 f1 r rs fs;refine SeqAt.notIn_tupleAt e ⟨_,eo,rfl,n,rfl⟩ h1 ⟨.bl _,H,I,rfl,?_⟩;rw[h2];exact q
noncomputable def nW(neg:Bool)(x y:D):Option S:=match y with|.tup ds=>if flat 49 x&&ds.all (flat 49)then some (.pure (.bl (if neg then !ds.any λe=>aY e x else ds.any λe=>aY e x)))else none|y=>j5 neg x y
set_option tactic.hygienic true in theorem Ys(neg:Bool):bW (Hv K neg) (nW neg):=by
 intro c Y Z H x y d e s Q k rx ry hp q;unfold nW at hp;split at hp
 .rename_i ds;split at hp;.rename_i hf;cases hp;simp only[Wq,WF]at hf;obtain⟨a,vs,ea,ha,r⟩:=ry.tup;exact .inr ⟨a,vs,ds,d,ea,ha,aH.aP r λ_ z=>z.elim,rx.un,hf.1,hf.2,q _ H (.refl k) (.bl _)⟩
  .cases hp
 .exact .inl (Gh neg c Y Z H x y d e s Q k rx ry hp q)
open Classical in noncomputable def wG(fb:Addr->(D->Option D)->DS)(m:Nat):(D->Option D)->D->Option D:=λF d=>if h:∃r,∀fa,∃x aC,dP (fb fa F) m [.pure d,.pure (.fn fa)]=some (x,aC)/\x.d=r then some h.choose else none
set_option tactic.hygienic true in theorem Yt{fb:Addr->(D->Option D)->DS}{m:Nat}(fa:Addr)(F:D->Option D)(d r:D)(e:wG fb m F d=some r):∃x aC,dP (fb fa F) m [.pure d,.pure (.fn fa)]=some (x,aC)/\x.d=r:=by
 unfold wG at e;split at e;.rename_i h;cases e;exact h.choose_spec fa
 .cases e
theorem Yu{fb:Addr->(D->Option D)->DS}{m:Nat}{d r:D}(h:∀fa,∃x aC,dP (fb fa F) m [.pure d,.pure (.fn fa)]=some (x,aC)/\x.d=r):wG fb m F d=some r:=by have h':∃r,∀fa,∃x aC,dP (fb fa F) m [.pure d,.pure (.fn fa)]=some (x,aC)/\x.d=r:=⟨r,h⟩;unfold wG;rw[dif_pos h'];obtain⟨x,o,e1,e2⟩:=h'.choose_spec 0;obtain⟨y,p,e3,e4⟩:=h 0;rw[e1]at e3;cases e3;rw[<-e2,e4]
section
variable{fb:DE}{body:Expr}{mr:Pos}{P:Addr}{p:Str}{kl kw m:Nat}{W:(D->Option D)->D->Option D}
theorem Yv(F:yB X.prog X.w X.K X.mg X.base kw x m iy)(hW:∀fa Fn d r,W Fn d=some r->∃x aC,dP (iy fa Fn) m [.pure d,.pure (.fn fa)]=some (x,aC)/\x.d=r)(ft:FT ts c)(Yw:(P,mr,X.env.qual++"<lambda>")∈ts)(hr:bM (kw+1) X.A)(Yx:kl+1<=kw)(hg:Gl X x)(he:SE X c e fe)(jg:∀x,X.fn x=true)(yx:defaultsOf params X.env=([],[]))(uX:closureFor scope X.env=pure cl)(uY:X.env.code=.ref code)(CH:Js X.K code P=true)(yy:Wo≠P)(hB:X.base.BuiltinsAt X.mg P)(kW:∀x a,cl.lookup x=some a->X.env.cells.lookup x=some a)(L:uR p fr scope)(Hw:js.length=fr.length)(hN:∀(i:Nat)x j,fr[i]?=some x->js[i]?=some j->X.N[j]?=some x/\X.env.scope.names.lookup x=some .cell/\∃a,cl.lookup x=some a)(hb:∀pm aE eS(u:Value),bindArgs (PySem.W.kla_fn "<lambda>" (X.env.qual++"<lambda>") params body scope cl pm aE eS) ⟨[u],[]⟩=pure [(p,u)])(bZ:∀(c':Fc)(fa:Addr)(cd:Value)(A:Wp)(outer:List Env)(s:W2)(H:Hp),bM kl (A.deeper (JN (X.env.qual++"<lambda>") scope s.heap.objs.size fa cd cl))->c'.pin=[]->SE (qM X.prog X.w X.K X.mg X.base (p::fr) (X.env.qual++"<lambda>") scope fa cd cl A outer s H) c' body fb)(cz:(x==("__debug__":Str))=false:=by decide)(hs:W9 [e,.Lambda params body scope mr] X.env=(false,eval e X.env)::W9 [.Lambda params body scope mr] X.env:=by rfl)(jT:W9 [.Lambda params body scope mr] X.env=[(false,eval (.Lambda params body scope mr) X.env)]:=by rfl):SE X c (.Call (.Name x pp) [e,.Lambda params body scope mr] [] pos) (o_ fe js fb W):=by
 obtain⟨f,fd,ps,qual,sc,N,hNm,mT,hk,hbi,h2,ok⟩:=F;intro pins s Y H Q I⟨Z,k,q⟩;refine QM (lK I hg mT ?_ cz);refine U3 (h₀:=X.base) I.ok.mod.lG hk ?_ hs (by rw[jT];rfl);rw[hs,jT];show W8 _ _ (spliced ((false,eval e X.env)::[(false,eval (.Lambda params body scope mr) X.env)])) _ _ s;unfold o_ at q;rw[bh]at q;refine Calls.spliced_cons (aX (he pins s Y H (λv H1=>∃r W' dv SZ d',aG c Y Z H Y W' H1/\Rep H1 (Av c Y W') v r/\jY js W'=some (dv,SZ)/\W (jX fb dv) r=some d'/\∀v' H3,aG c Y Z H Y SZ H3->Rep H3 (Av c Y SZ) v' d'->Q v' H3) I ⟨Z,k,aQ q λr W' q1 v H1 a1 r1=>?_⟩) λu s1⟨v,H1,I1,ru,r,W',dv,SZ,d',a1,r1,eg,ew,hq⟩=>?_);.cases eg:jY js W' with|none=>rw[eg]at q1;exact q1.elim|some z=>obtain⟨dv,SZ⟩:=z;rw[eg]at q1;simp only at q1;cases ew:W (jX fb dv) r.d with|none=>rw[ew]at q1;exact q1.elim|some d'=>rw[ew]at q1;exact⟨r.d,W',dv,SZ,d',a1,r1.rep,eg,ew,λv' H3 a3 r3=>q1 v' H3 a3 r3⟩
 .obtain⟨a2,fv,l1,l2,rf⟩:=Fq a1.ok eg;have k2:=a2.ok;have hv:∀(i:Nat)x v,fr[i]?=some x->fv[i]?=some v->∃(j:Nat)(a:Addr),X.N[j]?=some x/\Y[j]?=some (some v)/\X.env.scope.names.lookup x=some .cell/\cl.lookup x=some a:=λi y w e1 e2=>by
   have hi:i<js.length:=by rw[Hw];exact(W6.mp e1).1
   obtain⟨w',q1,q2⟩:=l2 i js[i] #v[hi];rw[e2]at q1;cases q1;obtain⟨z1,z2,a,z3⟩:=hN i y js[i] e1 #v[hi];exact⟨_,a,z1,q2,z2,z3⟩
  refine Calls.spliced_cons (TY I1 (ft.now k2 _ Yw) jg yx uX uY CH yy hB kW (by rw[l1,Hw]) hv λfa H2 s2 I2 up C=>Calls.spliced_nil ⟨I2.dw,?_⟩);have k3:Ok c Y SZ H2:=k2.mono up;have sp:spS X.prog X.w X.K X.mg X.base N qual sc f kw iy X.stack s2 [v,.ref fa] H2 Q E0:=by
   obtain⟨x,aC,hrun,rfl⟩:=hW fa (jX fb dv) r d' ew;have r3:Rep H2 (Av c Y SZ) v r:=(Rep.dg r1 a2).keep λa o e l=>up a o e;refine⟨r,fa,jX fb dv,Av c Y SZ,v,rfl,?_,λaE A E kU df=>?_,x,aC,%[hNm|hrun],λv' H' a r'=>?_⟩
   .have g_:∀(i:Nat)z,([some (S.pure r),some (S.pure (.fn fa))]:Dl)[i]?=some (some (.own z))->False:=λi z e=>by match i with|0=>simp at e|1=>simp at e|i+2=>simp at e
    have uT:∀b,Av ⟨H2,Av c Y SZ,[],λl l=>False⟩ [some v,some (.ref fa)] [some (.pure r),some (.pure (.fn fa))] b->Av c Y SZ b:=λb z=>by
     rcases z with z|⟨i,y,z1,_⟩;.exact z
     .exact(g_ i y z1).elim
    refine⟨λa o e l=>e,λa z=>k3.tZ z,λa⟨i,z⟩=>by simp at z,rfl,λi z e=>?_,λi z e=>(g_ i z e).elim,λi j a z z' e=>(g_ i z e).elim,λz hz=>by simp at hz⟩;match i with|0=>simp at e;subst e;exact⟨v,rfl,r3.aP λb z=>.inl (uT b z)⟩|1=>simp at e;subst e;exact⟨.ref fa,rfl,.fn fa⟩|i+2=>simp at e
   .exact Tv (X:=(cX cY X.prog X.w X.K X.mg X.base N qual sc f aE A X.stack s2 H2 E).fM) (k:=kl) rfl rfl rfl C L (kU.mono Yx) hb (aH.keep rf λa o e l=>up a o e) λc' cd s' H' Yy hp=>bZ c' fa cd _ _ s' H' Yy hp
   .have vB:∀b o,H2 b=some o->H' b=some o:=λb o eb=>a.ok.keep b o eb λ⟨i,z⟩=>by simp at z
    exact hq v' H' (((a1.trans a2).trans (.mono k2 up)).trans (.mono k3 vB)) (Rep.aP r'.rep λb z=>.inl (.inl z))
  have rr:Vals [v,.ref fa] [u,.ref fa]:=.cons ru (.cons rfl .nil);have Hx:=hbi s2 [u,.ref fa] I2.dw (by rw[WU,h2];rfl);rw[WU]at Hx;refine wpAny_call (JI (ok.run X.A X.stack s2 H2 ⟨[u,.ref fa],[]⟩ [u,.ref fa] [v,.ref fa] Q E0 hr I2.p8 Hx rr sp) λr s' rE=>?_);cases r with|error e=>exact rE.elim|ok fl=>cases fl with|ret u=>exact I2.after rE|next=>exact False.elim rE|brk=>exact False.elim rE|cont=>exact False.elim rE
end
theorem gR{v}(e:b (bx n ss)=.ok (.ret v) W')(h1:cy np 0 ss=true)(h2:bF 0 ss W'=some aC):bt np n b ss=some (v,aC):=by unfold bt dP;rw[if_pos h1,e];simp[c_,h2]
theorem k_{b:DS}{v:S}(e:b (bx n ss)=.ok (.ret v) W')(h1:cy np 0 ss=true)(h2:bF 0 ss W'=some aC):ju np n b ss=some (.inl (v,aC)):=by unfold ju iY;rw[if_pos h1,e];simp[c_,h2]
theorem dQ{x a}(h:b W'=x)(e:a Z=.ok .next W'):aq a b Z=x:=by unfold aq;rw[e];exact h
theorem zA{a x}(h:aq a r W'=x)(e:t Z=.ok true W'):aq (bf t a b) r Z=x:=by rw[<-h];unfold aq bf;rw[e];rfl
theorem zB{x a}(h:aq b r W'=x)(e:t Z=.ok false W'):aq (bf t a b) r Z=x:=by rw[<-h];unfold aq bf;rw[e];rfl
theorem zC{x}(h:r Z=x):aq bj r Z=x:=h
theorem zD{a x}(h:aq a (aq b r) Z=x):aq (aq a b) r Z=x:=by rw[<-h];unfold aq;rcases a Z with⟨v,W'⟩|_|_<;>first|rfl|(cases v<;>rfl)
theorem fI{a v}(e:a Z=.ok (.ret v) W'):aq a b Z=.ok (.ret v) W':=by unfold aq;rw[e];rfl
theorem ai(i j:Int):a_ (.int i) (.int j)=some (.pure (.int (i+j))):=rfl
theorem Hy(i j:Int):m5 (.int i) (.int j)=some (.pure (.int (i-j))):=rfl
theorem Hz(xs:List D):dt (.lst xs)=some (.pure (.tup xs)):=rfl
theorem zE(a b:D):ag (.tup [a,b]) (.int 0)=some (.pure a)/\ag (.tup [a,b]) (.int 1)=some (.pure b):=⟨rfl,rfl⟩
theorem HA(a b c:D):ag (.tup [a,b,c]) (.int 0)=some (.pure a)/\ag (.tup [a,b,c]) (.int 1)=some (.pure b)/\ag (.tup [a,b,c]) (.int 2)=some (.pure c):=⟨rfl,rfl,rfl⟩
theorem HB(f:DE)(Z:Dl):aV f Z=(f Z).bind λr W'=>match r.d with|.lst ds=>.ok ds W'|.tup ds=>.ok ds W'|.str x=>.ok (x.map λn=>.str [n]) W'|_=>.stuck:=id rfl
@[simp high]theorem zzg{α:Type}(a:α)(l:List α):(a::l)[0]?=some a:=rfl
@[simp high]theorem zzh{α:Type}(a:α)(l:List α)(n:Nat):(a::l)[n+1]?=l[n]?:=rfl
theorem HC{α β:Type}(a:α)(Z:Dl)(f:α->Dl->Rs β):(Rs.ok a Z).bind f=f a Z:=rfl
theorem rF{p:Prop}(h:p:=by exists "WV List.map_take List.map_drop;bx aD az ar aj ck gN fE dF cK aa au bR aT bX S.d aB bo cL dj cf bD ba aF cU xS dz ai Hy Hz nK cA gO putL fF bp di EK HB lZ zE HA",_,_,_<;>first|rfl|(refine⟨?_,?_⟩<;>rfl)|(refine⟨⟨?_,?_⟩,?_⟩<;>rfl)):p:=h
theorem dD{p:Prop}(h:p:=by exists "jv WV List.map_take List.map_drop;HC bx aD az ar aj ck gN fE dF cK aa au bR aT bX S.d aB bo cL dj cf bD ba aF cU xS dz ai Hy Hz nK cA gO putL fF bp di EK HB lZ zE HA",_,_,_<;>first|rfl|(refine⟨?_,?_⟩<;>rfl)|(refine⟨⟨?_,?_⟩,?_⟩<;>rfl)):p:=h
theorem Run{p:Prop}(h:p:=by repeat' first|((with_reducible show bt _ _ _ _=_);apply gR)|((with_reducible show ju _ _ _ _=_);apply k_)|((with_reducible show bF _ _ _=_);rfl)|((with_reducible show cy _ _ _=_);rfl)|((with_reducible refine zD ?_))|((with_reducible refine zC ?_))|((with_reducible show aq (bf _ _ _) _ _=_);first|refine zA ?_ dD|refine zB ?_ dD)|refine dQ ?_ dD|exact fI dD|exact dD):p:=h
theorem gF{x}(h:bt np n b ss=x)(io:cy np 0 ss=true):∃y,b (bx n ss)=y/\∀{v W' aC},.ok (.ret v) W'=y->bF 0 ss W'=some aC->x=some (v,aC):=⟨_,rfl,λe o=>by rw[<-h];exact gR e.symm io o⟩
theorem fw{b b1:DS}{y:Rs Fl}(h:b Z=y)(e:b Z=b1 W'):b1 W'=y:=e▸h
theorem HD{p:Prop}(h:p:=by repeat' first|((with_reducible refine zD ?_))|((with_reducible refine zC ?_))|((with_reducible show aq (bf _ _ _) _ _=_);first|refine zA ?_ dD|refine zB ?_ dD)|refine dQ ?_ dD|exact rfl):p:=h
theorem fL{it}(h:aq (bC it g b) r Z=y)(e:it Z=.ok ds Os)(I:Nat->Dl->Prop)(h0:I 0 Os)(hs:∀(i:Nat)d Z,ds[i]?=some d->I i Z->∃W',g (.pure d) Z=some W'/\∀y,b W'=y->∃SZ,y=.ok .next SZ/\I (i+1) SZ):∃S',I ds.length S'/\r S'=y:=by
 obtain⟨S',e1,h1⟩:=vf (g:=g) (b:=b) I ds 0 Os h0 λi d Z hd hi=>by rw[U6]at hi⊢;obtain⟨W',e1,h1⟩:=hs i d Z hd hi;obtain⟨SZ,e2,h2⟩:=h1 _ rfl;exact⟨W',SZ,e1,e2,h2⟩
 rw[U6]at h1;refine⟨S',h1,?_⟩;rw[<-h];unfold aq bC;rw[e];show _=Rs.bind (forL g b ds Os) _;rw[e1];rfl
theorem nm{b:DS}{Os:Dl}{y:Rs Fl}(h:b Os=y):∃Z,Os=Z/\b Z=y:=⟨_,rfl,h⟩
theorem cM{A:Type}(f F:A->D){as:List A}{it:DI}{g:DG}{t:DT}(e:it Z=.ok (as.map f) W')(hl:as.length<=1000)(hs:∀a∈as,∃Z1' SZ x SC,g (.pure (f a)) (bp cs W')=some Z1'/\t Z1'=.ok true SZ/\el SZ=.ok x SC/\bp cs SC=bp cs W'/\x.d=F a)(no:cs.any (dj W')=false:=by rfl):cb cs it g t el Z=.ok (.own (.lst (as.map F))) (di cs W' (bp cs W')):=by have c:=pj (cs:=cs) (g:=g) (t:=t) (el:=el) f F (bp cs W') as [] (by have:PySem.sizeLine=16777216:=rfl;simp;lia) hs;unfold cb;rw[e];show(if _ then _ else _)=_;rw[if_neg (by rw[no];decide),c];rfl
theorem cI{it:DI}{g:DG}{t:DT}(e:it Z=.ok ds W')(hl:ds.length<=1000)(I:Dl->Prop)(R:D->D->Prop)(h0:I (bp cs W'))(hs:∀d∈ds,∀Z,I Z->∃W' SZ x SC,g (.pure d) Z=some W'/\t W'=.ok true SZ/\el SZ=.ok x SC/\I (bp cs SC)/\R d x.d)(no:cs.any (dj W')=false:=by rfl):∃xs S',cb cs it g t el Z=.ok (.own (.lst xs)) (di cs W' S')/\I S'/\xs.length=ds.length/\∀(i:Nat)d x,ds[i]?=some d->xs[i]?=some x->R d x:=by obtain⟨xs,S',c,h1,h2,h3⟩:=yS (cs:=cs) (g:=g) (t:=t) (el:=el) I R ds (bp cs W') [] h0 (by have:PySem.sizeLine=16777216:=rfl;simp;lia) hs;refine⟨xs,S',?_,h1,h2,h3⟩;unfold cb;rw[e];show(if _ then _ else _)=_;rw[if_neg (by rw[no];decide),c];rfl
theorem Yz{it:DI}{g:DG}{t:DT}{E:DE}(hE:cb cs it g t el=E)(e:it Z=.ok ds W')(hl:ds.length<=1000)(I:Dl->Prop)(R:D->D->Prop)(h0:I (bp cs W'))(hs:∀d∈ds,∀Z,I Z->∃W' SZ x SC,g (.pure d) Z=some W'/\t W'=.ok true SZ/\el SZ=.ok x SC/\I (bp cs SC)/\R d x.d)(no:cs.any (dj W')=false):∃xs S',E Z=.ok (.own (.lst xs)) (di cs W' S')/\I S'/\xs.length=ds.length/\∀(i:Nat)d x,ds[i]?=some d->xs[i]?=some x->R d x:=hE▸cI e hl I R h0 hs no
theorem xp{b:DS}{y:Rs Fl}(h:b Z=y)(e:Z=W'):b W'=y:=e▸h
end
end Lake
namespace Lake.K61
open _root_.PySem.W(nsIn keepIn codeIn findIn mroIn kitOne mg_of)
open _root_.PySem _root_.PySem.Spec PyProof.Rows
abbrev mG:Tx:=[97,98,99,100,101,102,103,104,105,106,107,108,109,110,111,112,113,114,115,116,117,118,119,120,121,122]
variable{A BD DB T1 T2 a pd r1 r2 ru y:D}{B B' B1 B2 aA:List (Nat×List Tx)}{C H W h' i m n n' t' w w':Nat}{G GS GT GZ:DF}{K:W3}{L acc ds es ls r xs:List D}{N:List Str}{P:Wn}{as:List S}{base:Heap}{bb x:Bool}{cs np t1 t2 ts:List Nat}{el f:DE}{fJ fa:Addr}{fl:List Tx}{g:DG}{h2 w2 z:Int}{it:DI}{j:Option S×Option S×Option S×Option S×Option S}{mg:Str->Option Value}{p:D->D->Option S}{s6 v:S}{Z Os W' SZ:Dl}
theorem oRR{a b:Prop}(h:a\/b:=by first|exact Or.inl rfl|exact Or.inr rfl):a\/b:=h
def top(i:Nat):Stmt:=PySem.Challenge.pw_tilegrow_k61_papers_that_they_are_alike.main.body.getD i (.Pass ⟨0,0,0,0⟩)
abbrev HE:Stmt:=top 35
abbrev HF:Stmt:=top 36
abbrev HG:Stmt:=top 38
abbrev HH:Stmt:=top 40
abbrev HI:Stmt:=top 43
abbrev HJ:Stmt:=top 42
abbrev HK:Stmt:=top 44
abbrev HL:Stmt:=top 45
abbrev HM:Stmt:=top 41
abbrev HN:Stmt:=top 46
abbrev HP:Stmt:=top 47
abbrev HQ:Stmt:=top 48
abbrev HR:Stmt:=top 37
abbrev HS:Stmt:=top 49
abbrev HU:Stmt:=top 18
abbrev HV:Stmt:=top 25
abbrev HW:Stmt:=top 26
abbrev HX:Stmt:=top 21
abbrev HY:Stmt:=top 16
abbrev HZ:Stmt:=top 17
abbrev H_:Stmt:=top 19
abbrev Ia:Stmt:=top 20
abbrev Ib:Stmt:=top 27
abbrev zF:Stmt:=top 28
abbrev Ic:Stmt:=top 29
abbrev zG:Stmt:=top 23
abbrev Ie:Stmt:=top 30
abbrev kg:Stmt:=top 31
abbrev Ig:Stmt:=top 39
abbrev zH:Stmt:=top 52
abbrev Ih:Stmt:=top 50
abbrev Ii:Stmt:=top 51
abbrev Ij:Stmt:=top 53
abbrev Ik:Stmt:=top 12
abbrev Il:Stmt:=top 13
abbrev Im:Stmt:=top 32
abbrev zI:Stmt:=top 33
abbrev zJ:Stmt:=top 54
abbrev la:Stmt:=top 55
def kh:Pos:=match(cQ kg).getD 1 (.Pass ⟨0,0,0,0⟩)with|.Assign _ (.Call _ [_,.Lambda _ _ _ p] _ _) _=>p|_=>⟨0,0,0,0⟩
def ki:Str:=("alike_of":Str)++".<locals>."++"<lambda>"
abbrev ys:List Tx:=[[85,110,108,105,107,101]]
section
variable(ce:Tx->Nat)
structure Txt(K:W3)(mg:Str->Option Value):Prop where
 rG:mg "ValueError"=none
 rH:mg "all"=none
 rJ:mg "dict"=none
 rK:mg "int"=none
 rL:mg "isinstance"=none
 rM:mg "len"=none
 rN:mg "list"=none
 rO:mg "max"=none
 rP:mg "range"=none
 rQ:mg "sorted"=none
 rR:mg "str"=none
 rS:mg "tuple"=none
 rT:mg "zip"=none
 ty_str:m7 K "str"ty_tuple:m7 K "tuple"rU:∃t,mg "MOST_TILES"=some (.int 64 t)YA:mg "FloorError"=some (.ref (ce [70,108,111,111,114,69,114,114,111,114]))YB:mg "NoFloor"=some (.ref (ce [78,111,70,108,111,111,114]))YC:mg "NoPlace"=some (.ref (ce [78,111,80,108,97,99,101]))YD:mg "NoNumber"=some (.ref (ce [78,111,78,117,109,98,101,114]))YE:mg "NoRow"=some (.ref (ce [78,111,82,111,119]))YF:mg "Unlike"=some (.ref (ce [85,110,108,105,107,101]))YG:mg "NoTile"=some (.ref (ce [78,111,84,105,108,101]))YH:mg "NoRule"=some (.ref (ce [78,111,82,117,108,101]))YI:mg "NoText"=some (.ref (ce [78,111,84,101,120,116]))YJ:mg "TooGreat"=some (.ref (ce [84,111,111,71,114,101,97,116]))YK:jZ K (ce [70,108,111,111,114,69,114,114,111,114])YL:jZ K (ce [85,110,108,105,107,101])YM:IsT K ce ys (.ref (ce [78,111,70,108,111,111,114])) λz=>z==[78,111,70,108,111,111,114]YN:IsT K ce ys (.ref (ce [78,111,80,108,97,99,101])) λz=>z==[78,111,80,108,97,99,101]YO:IsT K ce ys (.ref (ce [78,111,78,117,109,98,101,114])) λz=>z==[78,111,78,117,109,98,101,114]YQ:IsT K ce ys (.ref (ce [78,111,82,111,119])) λz=>z==[78,111,82,111,119]YR:IsT K ce ys (.ref (ce [85,110,108,105,107,101])) λz=>z==[85,110,108,105,107,101]YS:IsT K ce ys (.ref (ce [78,111,84,105,108,101])) λz=>z==[78,111,84,105,108,101]YT:IsT K ce ys (.ref (ce [78,111,82,117,108,101])) λz=>z==[78,111,82,117,108,101]YU:IsT K ce ys (.ref (ce [78,111,84,101,120,116])) λz=>z==[78,111,84,101,120,116]YV:IsT K ce ys (.ref (ce [84,111,111,71,114,101,97,116])) λz=>z==[84,111,111,71,114,101,97,116]YW:IsT K ce ys (.type "ValueError") λj=>true
 YX:∀y∈ys,mg (toS y)=some (.ref (ce y))/\mroIn K (ce y) (.ref (ce [70,108,111,111,114,69,114,114,111,114]))=some true
end
abbrev Io:DS:=aq (bf (aD (aj gL 1 (ae (aF bI (au 0))))) (aM (aj ag 0 (au 1))) bj) (aM (eD (.int 0)))
def pD:DF:=bt [] 2 Io
abbrev Ip:DS:=aq (az (ar iR (aj a_ 0 (ae (eD (.int 7919)))) (ae (eD (.int 2147483647)))) (ak [] 0)) (aM (ar iR (ar a_ (ar a_ (aj cG 0 (au 0)) (ae (ar cG (eD (.int 48271)) (au 0)))) (ae (eD (.int 12345)))) (ae (eD (.int 2147483629)))))
def pE:DF:=bt [] 1 Ip
abbrev Iq:DS:=aq (bf (aD (ar bz (aj ag 0 (ae (eD (.int 1)))) (ae (eD (.int 1))))) (aq (az (ar iR (aj ag 0 (ae (eD (.int 0)))) (au 1)) (ak [0] 2)) (aq (fF 0 (eD (.int 0)) (ar ig (aj ag 0 (ae (eD (.int 0)))) (au 1))) (aM (aa 2)))) bj) (aq (fF 0 (eD (.int 2)) (aB pE [.val (ar a_ (aB pE [.val (aj ag 0 (ae (eD (.int 2))))]) (ae (eD (.int 7))))])) (aM (ar iR (ar ig (aj ag 0 (ae (eD (.int 2)))) (ae (eD (.int 64)))) (au 1))))
def cO:DF:=bt [0] 3 Iq
abbrev Ir:DS:=aq (az (eD (.str mG)) (ak [0] 2)) (aq (az (ar ag (uM [.tup [.int 2,.int 2],.tup [.int 1,.int 2],.tup [.int 2,.int 1],.tup [.int 2,.int 2],.tup [.int 1,.int 3],.tup [.int 2,.int 3],.tup [.int 3,.int 1],.tup [.int 3,.int 2],.tup [.int 4,.int 4],.tup [.int 2,.int 2]]) (ae (aB cO [.io 0,.val (eD (.int 10))]))) (bR 2 (aT (ak [0] 3) (aT (ak [0] 4) bX)))) (aq (az (aB cO [.io 0,.val (ar m5 (eD (.int 27)) (au 1))]) (ak [0] 5)) (aq (az (fE 2 (cK (aa 5)) (cK (ar a_ (aj a_ 5 (ae (eD (.int 1)))) (ae (aB cO [.io 0,.val (aa 1)]))))) (ak [0] 6)) (aq (az (ar a_ (eD (.int 1)) (ae (aB cO [.io 0,.val (eD (.int 3))]))) (ak [0] 7)) (aq (az (dq aN) (ak [0] 8)) (aq (bC (aV (aa 6)) (ak [0] 9) (aq (az (dq aN) (ak [0] 10)) (aq (bC (fP (aa 3)) (ak [0] 11) (aq (az (cb [14] (fP (aa 4)) (ak [0] 14) cH (aj ag 6 (ae (ar ig (aB cO [.io 0,.val (aF bI (au 6))]) (au 7))))) (ak [0] 12)) (cA 10 (aF (eM []) (au 12))))) (cA 8 (a7 (aw (aa 9) (aw (aF dt (au 10)) aN))))))) (aq (bf (aD (ar bz (aB cO [.io 0,.val (eD (.int 2))]) (ae (eD (.int 0))))) (aq (az (aj ag 8 (ae (eD (.int 0)))) (bR 2 (aT (ak [0] 9) (aT (ak [0] 13) bX)))) (fF 8 (eD (.int 0)) (a7 (aw (aa 9) (aw (ar a_ (a7 (aw (aj a_ 9 (ae (gN (aj ag 13 (ae (eD (.int 0)))) (cK (eD (.int 1))) dF))) aN)) (ae (fE 13 (cK (eD (.int 1))) dF))) aN))))) bj) (aM (a7 (aw (aa 3) (aw (aa 4) (aw (aF dt (au 8)) aN))))))))))))
def rV:DF:=bt [0] 15 Ir
abbrev Iu:DS:=aq (az (aB rV [.io 0,.val (aa 1)]) (bR 3 (aT (ak [0] 2) (aT (ak [0] 3) (aT (ak [0] 4) bX))))) (aq (az (aj ag 4 (ae (eD (.int 0)))) (bR 2 (aT (ak [0] 5) (aT (ak [0] 6) bX)))) (aq (az (ar a_ (a7 (aw (a7 (aw (aa 5) (aw (ar a_ (a7 (aw (aj a_ 5 (ae (gN (aj ag 6 (ae (eD (.int 0)))) (cK (eD (.int 1))) dF))) aN)) (ae (fE 6 (cK (eD (.int 1))) dF))) aN))) aN)) (ae (fE 4 (cK (eD (.int 1))) dF))) (ak [0] 4)) (aM (a7 (aw (a7 (aw (aa 2) (aw (aa 3) (aw (aa 4) aN)))) (aw (aa 5) aN))))))
def nX:DF:=bt [0] 7 Iu
abbrev Iv:DS:=aM (cb [1,2] (aV (aj ag 0 (ae (eD (.int 2))))) (bR 2 (aT (ak [] 1) (aT (ak [] 2) bX))) cH (aa 1))
def kj:DF:=bt [] 3 Iv
abbrev Iw:DS:=aq (az (gN (eD (.str [112,113,114])) dF (cK (ar a_ (eD (.int 1)) (ae (aB cO [.io 0,.val (eD (.int 3))]))))) (ak [0] 2)) (aM (aF dt (ae (cb [3] (aV (aB kj [.val (aa 1)])) (ak [0] 3) cH (a7 (aw (aa 3) (aw (aj ag 2 (ae (aB cO [.io 0,.val (aF bI (au 2))]))) aN)))))))
def nY:DF:=bt [0] 4 Iw
abbrev Iy:DS:=aq (az (eD (.str mG)) (ak [0] 2)) (aq (az (aa 1) (bR 3 (aT (ak [0] 3) (aT (ak [0] 4) (aT (ak [0] 5) bX))))) (aq (az (aB kj [.val (aa 3)]) (ak [0] 6)) (aq (az (aB cO [.io 0,.val (ar m5 (eD (.int 27)) (ae (ar cG (eD (.int 2)) (ae (aF bI (au 6))))))]) (ak [0] 7)) (aq (az (dq aN) (ak [0] 8)) (aq (az (dq aN) (ak [0] 9)) (aq (bC (fP (ar cG (eD (.int 2)) (ae (aF bI (au 6))))) (ak [0] 10) (aq (az (dq aN) (ak [0] 11)) (aq (bC (aV (ar cg (aF cN (ae (aj ag 3 (ae (eD (.int 2)))))) (ae (aj ag 6 (ae (aj ig 10 (ae (eD (.int 2))))))))) (ak [0] 12) (cA 11 (aF (eM []) (ae (cb [13] (aV (aa 12)) (ak [0] 13) cH (aj ag 2 (ae (ar a_ (aj a_ 7 (ae (ar cG (eD (.int 2)) (ae (nK 6 (aa 13)))))) (ae (aB cO [.io 0,.val (eD (.int 2))])))))))))) (aq (bf (aD (aj bz 10 (ae (ar cG (eD (.int 2)) (ae (nK 6 (aa 4))))))) (fF 11 (eD (.int 0)) (ar a_ (aj ag 2 (ae (aj a_ 7 (au 10)))) (ae (gN (aj ag 11 (ae (eD (.int 0)))) (cK (eD (.int 1))) dF)))) bj) (aq (cA 8 (a7 (aw (aj ag 2 (ae (aj a_ 7 (au 10)))) (aw (aF dt (au 11)) aN)))) (cA 9 (a7 (aw (aj ag 2 (ae (aj a_ 7 (au 10)))) (aw (ar cg (aF cN (au 5)) (ae (aj ag 6 (ae (aj ig 10 (ae (eD (.int 2)))))))) aN))))))))) (aM (a7 (aw (a7 (aw (aj ag 3 (ae (eD (.int 0)))) (aw (aj ag 3 (ae (eD (.int 1)))) (aw (aF dt (au 8)) aN)))) (aw (aj ag 2 (ae (aj a_ 7 (ae (ar cG (eD (.int 2)) (ae (nK 6 (aa 4)))))))) (aw (aF dt (au 9)) aN)))))))))))
def rW:DF:=bt [0] 14 Iy
abbrev Iz:DS:=aq (az (aF cN (ae (aj ag 0 (ae (eD (.int 2)))))) (ak [] 2)) (aq (az (dq aN) (ak [] 3)) (aq (bC (aV (aa 1)) (ak [] 4) (bC (fP (aj ag 0 (ae (eD (.int 0))))) (ak [] 5) (aq (az (eD (.str [])) (ak [] 6)) (aq (bC (aV (aa 4)) (ak [] 7) (az (aj a_ 6 (ae (ar ag (aj cg 2 (au 7)) (au 5)))) (ak [] 6))) (cA 3 (aa 6)))))) (aM (aF dt (au 3)))))
def pF:DF:=bt [] 8 Iz
abbrev zK:DS:=aq (az (aa 0) (bR 3 (aT (ak [] 1) (aT (ak [] 2) (aT (ak [] 3) bX))))) (aq (bf (dz (aD (ar gM (aj ag 1 (ae (eD (.int 0)))) (ae (eD (.int 2))))) (aD (ar gM (aj ag 1 (ae (eD (.int 1)))) (ae (eD (.int 2)))))) (aM (aa 0)) bj) (aq (az (cb [5,6] (aV (aj ag 1 (ae (eD (.int 2))))) (bR 2 (aT (ak [] 5) (aT (ak [] 6) bX))) cH (a7 (aw (aa 5) (aw (aB pF [.val (aa 1),.val (aa 6)]) aN)))) (ak [] 4)) (aM (a7 (aw (a7 (aw (ar cG (aj ag 1 (ae (eD (.int 0)))) (ae (aj ag 1 (ae (eD (.int 0)))))) (aw (ar cG (aj ag 1 (ae (eD (.int 1)))) (ae (aj ag 1 (ae (eD (.int 1)))))) (aw (aF dt (au 4)) aN)))) (aw (aa 2) (aw (aa 3) aN)))))))
def lb:DF:=bt [] 7 zK
abbrev IA:DS:=aq (az (aa 1) (bR 3 (aT (ak [0] 2) (aT (ak [0] 3) (aT (ak [0] 4) bX))))) (aq (az (aB cO [.io 0,.val (aF bI (au 4))]) (ak [0] 5)) (aq (bf (aD (ar bz (aB cO [.io 0,.val (eD (.int 2))]) (ae (eD (.int 0))))) (aq (az (ar ag (eD (.str [112,113,114,115])) (ae (aB cO [.io 0,.val (eD (.int 4))]))) (ak [0] 6)) (aM (a7 (aw (aa 2) (aw (aa 3) (aw (ar a_ (ar a_ (fE 4 dF (cK (aa 5))) (ae (a7 (aw (a7 (aw (ar ag (aj ag 4 (au 5)) (ae (eD (.int 0)))) (aw (aa 6) aN))) aN)))) (ae (fE 4 (cK (aj a_ 5 (ae (eD (.int 1))))) dF))) aN)))))) bj) (aq (az (ar ag (aj ag 2 (ae (eD (.int 2)))) (au 5)) (bR 2 (aT (ak [0] 7) (aT (ak [0] 8) bX)))) (aq (az (aB cO [.io 0,.val (aj ag 2 (ae (eD (.int 0))))]) (ak [0] 9)) (aq (az (aB cO [.io 0,.val (aj ag 2 (ae (eD (.int 1))))]) (ak [0] 10)) (aq (bf (aD (ar bz (aj a_ 9 (au 10)) (ae (eD (.int 0))))) (aM (aa 1)) bj) (aq (az (ar a_ (ar a_ (gN (aj ag 8 (au 9)) dF (cK (aa 10))) (ae (ar ag (aB kj [.val (aa 2)]) (ae (aB cO [.io 0,.val (aF bI (au 4))]))))) (ae (gN (aj ag 8 (au 9)) (cK (aj a_ 10 (ae (eD (.int 1))))) dF))) (ak [0] 11)) (aq (az (ar a_ (ar a_ (fE 8 dF (cK (aa 9))) (ae (a7 (aw (aa 11) aN)))) (ae (fE 8 (cK (aj a_ 9 (ae (eD (.int 1))))) dF))) (ak [0] 8)) (aM (a7 (aw (a7 (aw (aj ag 2 (ae (eD (.int 0)))) (aw (aj ag 2 (ae (eD (.int 1)))) (aw (ar a_ (ar a_ (gN (aj ag 2 (ae (eD (.int 2)))) dF (cK (aa 5))) (ae (a7 (aw (a7 (aw (aa 7) (aw (aa 8) aN))) aN)))) (ae (gN (aj ag 2 (ae (eD (.int 2)))) (cK (aj a_ 5 (ae (eD (.int 1))))) dF))) aN)))) (aw (aa 3) (aw (aa 4) aN)))))))))))))
def rX:DF:=bt [0] 12 IA
abbrev IB:DS:=aq (az (aB nX [.io 0,.val (eD (.int 4))]) (bR 2 (aT (ak [0] 1) (aT (ak [0] 2) bX)))) (aq (az (a7 (aw (aa 1) (aw (aa 2) (aw (aB nY [.io 0,.val (aa 1)]) aN)))) (ak [0] 3)) (aq (az (aB cO [.io 0,.val (eD (.int 6))]) (ak [0] 4)) (aq (bf (aD (aj bz 4 (ae (eD (.int 0))))) (aq (az (aB nX [.io 0,.val (eD (.int 3))]) (bR 2 (aT (ak [0] 1) (aT (ak [0] 2) bX)))) (aM (a7 (aw (aa 3) (aw (a7 (aw (aa 1) (aw (aa 2) (aw (aB nY [.io 0,.val (aa 1)]) aN)))) aN))))) bj) (aq (az (ar ag (dq (aw (aa 3) (aw (aB rW [.io 0,.val (aa 3)]) aN))) (ae (aB cO [.io 0,.val (eD (.int 2))]))) (ak [0] 5)) (aq (bf (aD (ar bz (aB cO [.io 0,.val (eD (.int 3))]) (ae (eD (.int 0))))) (az (aB lb [.val (aa 5)]) (ak [0] 5)) bj) (aq (bf (aD (aj gL 4 (ae (eD (.int 4))))) (az (aB rX [.io 0,.val (aa 5)]) (ak [0] 5)) bj) (aq (bf (aD (ar bz (aB cO [.io 0,.val (eD (.int 2))]) (ae (eD (.int 0))))) (aM (a7 (aw (aa 5) (aw (aa 3) aN)))) bj) (aM (a7 (aw (aa 3) (aw (aa 5) aN)))))))))))
def nZ:DF:=bt [0] 6 IB
abbrev IC:DS:=aq (az (uw (aa 0) (ar m5 (eD (.int 0)) (au 0))) (ak [] 1)) (aM (dq (aw (aa 1) (aw (aF oM (ae (aj xW 1 (ae (ar ui (eD (.int 10)) (ae (eD (.int 18)))))))) (aw (aj iR 1 (ae (eD (.int 1000003)))) aN)))))
def n5:DF:=bt [] 2 IC
abbrev ID:DS:=aq (bC (aV (eD (.tup [.int 1,.int 2]))) (ak [] 2) (bC (aV (eD (.tup [.int 1,.int 2]))) (ak [] 3) (aq (az (dq (aw (aj ag 0 (ae (eD (.int 0)))) (aw (aj ag 0 (ae (eD (.int 1)))) (aw (aj ag 1 (ae (eD (.int 0)))) (aw (aj ag 1 (ae (eD (.int 1)))) aN))))) (ak [] 4)) (aq (bf (aD (aj bz 2 (ae (eD (.int 2))))) (aq (fF 4 (eD (.int 0)) (ar cG (aj ag 4 (ae (eD (.int 0)))) (ae (aj ag 0 (ae (eD (.int 0))))))) (fF 4 (eD (.int 1)) (ar cG (aj ag 4 (ae (eD (.int 1)))) (ae (aj ag 0 (ae (eD (.int 1)))))))) bj) (aq (bf (aD (aj bz 3 (ae (eD (.int 2))))) (aq (fF 4 (eD (.int 2)) (ar cG (aj ag 4 (ae (eD (.int 2)))) (ae (aj ag 1 (ae (eD (.int 0))))))) (fF 4 (eD (.int 3)) (ar cG (aj ag 4 (ae (eD (.int 3)))) (ae (aj ag 1 (ae (eD (.int 1)))))))) bj) (bf (aD (ar bz (fE 4 dF (cK (eD (.int 2)))) (ae (fE 4 (cK (eD (.int 2))) dF)))) (aM (a7 (aw (aa 2) (aw (aa 3) aN)))) bj)))))) (aM (eD .ax))
def lg:DF:=bt [] 5 ID
abbrev IE:DS:=aq (bC (fP (aa 2)) (ak [] 3) (az (aj cG 0 (au 1)) (ak [] 0))) (aM (aa 0))
def lh:DF:=bt [] 4 IE
abbrev IF:DS:=aM (a7 (aw (aB lh [.val (eD (.int 1)),.val (aj ag 0 (ae (eD (.int 0)))),.val (aa 1)]) (aw (aB lh [.val (eD (.int 1)),.val (aj ag 0 (ae (eD (.int 1)))),.val (aa 1)]) aN)))
def iD:DF:=bt [] 2 IF
abbrev IG:DS:=aq (bC (aV (eD (.tup [.int 1,.int 2]))) (ak [] 2) (bC (aV (eD (.tup [.int 1,.int 2]))) (ak [] 3) (bf (aD (ar bz (aB iD [.val (aa 0),.val (aa 2)]) (ae (aB iD [.val (aa 1),.val (aa 3)])))) (aM (a7 (aw (aa 2) (aw (aa 3) aN)))) bj))) (aM (eD .ax))
def pG:DF:=bt [] 4 IG
abbrev IH:DS:=aM (cb [1,2] (aV (aj ag 0 (ae (eD (.int 2))))) (bR 2 (aT (ak [] 1) (aT (ak [] 2) bX))) cH (aa 1))
def rY:DF:=bt [] 3 IH
abbrev II:DS:=bC (aV (aF (eM []) (au 1))) (ak [] 2) (bf (aD (ar (gk true) (aa 2) (au 0))) ux bj)
def rZ:DF:=bt [] 3 II
abbrev IJ:DS:=aq (bf (aD (aj gM 0 (au 2))) ux bj) (bf (aD (aj gM 1 (au 2))) ux bj)
def r8:DF:=bt [] 3 IJ
abbrev IK:DS:=aq (az (dq aN) (ak [] 3)) (aq (bC (aV (aa 2)) (ak [] 4) (bC (fP (aa 1)) (ak [] 5) (cA 3 (aF (eM []) (ae (cb [6] (aV (aa 4)) (ak [] 6) cH (ar ag (aj cg 0 (au 6)) (au 5)))))))) (aM (aF dt (au 3))))
def mD:DF:=bt [] 7 IK
abbrev IL:DS:=aq (az (aa 0) (bR 3 (aT (ak [] 3) (aT (ak [] 4) (aT (ak [] 5) bX))))) (aq (az (aF cN (au 5)) (ak [] 6)) (aq (jU (aB rZ [.val (aa 6),.val (aa 1)])) (aq (jU (aB r8 [.val (aB lh [.val (aF bI (au 1)),.val (aa 3),.val (aa 2)]),.val (aB lh [.val (aF bI (ae (aj ag 1 (ae (eD (.int 0)))))),.val (aa 4),.val (aa 2)]),.val (eD (.int 64))])) (aq (az (aa 1) (ak [] 7)) (aq (bC (fP (aa 2)) (ak [] 8) (az (aB mD [.val (aa 6),.val (aa 3),.val (aa 7)]) (ak [] 7))) (aM (aa 7)))))))
def pH:DF:=bt [] 9 IL
abbrev IM:DS:=aM (aF cN (ae (cb [2] (aV (aB rY [.val (aa 0)])) (ak [] 2) cH (a7 (aw (aa 2) (aw (aF (eM []) (ae (aB pH [.val (aa 0),.val (a7 (aw (aa 2) aN)),.val (aa 1)]))) aN))))))
def pI:DF:=bt [] 3 IM
abbrev vJ:DS:=aq (az (aB pG [.val (aj ag 0 (ae (eD (.int 0)))),.val (aj ag 1 (ae (eD (.int 0))))]) (ak [] 2)) (aq (bf (aD (ar (fX false) (aa 2) (ae (eD .ax)))) (FA [85,110,108,105,107,101]) bj) (aM (a7 (aw (aB pI [.val (aj ag 0 (ae (eD (.int 0)))),.val (aj ag 2 (ae (eD (.int 0))))]) (aw (aB pI [.val (aj ag 1 (ae (eD (.int 0)))),.val (aj ag 2 (ae (eD (.int 1))))]) aN)))))
def lj:DX:=ju [] 3 vJ
theorem IP:dM ["painted","other","power"] ["painted","other"] (aR zF):=scc
abbrev IQ:DS:=aM (j_ (ar cg (aj ag 0 (ae (eD (.int 0)))) (ae (aj ag 1 (ae (eD (.int 0)))))) (ar cg (aj ag 0 (ae (eD (.int 1)))) (ae (aj ag 1 (ae (eD (.int 1)))))))
def i8:DF:=bt [] 2 IQ
abbrev n8(fa:Addr)(Fn:D->Option D):DS:=aq (az (dq (aw (aa 0) aN)) (ak [] 2)) (aq (az (q_ (aa 0) (eD (.bl true))) (ak [] 3)) (aq (az (eD (.int 0)) (ak [] 4)) (aq (gi (aD (aj gL 4 (ae (aF bI (au 2))))) (aq (az (aj ag 2 (au 4)) (ak [] 5)) (aq (bC (aV (ny fa Fn 1 (aa 5))) (ak [] 6) (bf (aD (ar (gQ true) (aa 6) (au 3))) (aq (k8 3 (aa 6) (eD (.bl true))) (cA 2 (aa 6))) bj)) (az (aj a_ 4 (ae (eD (.int 1)))) (ak [] 4)))) 1000000) (uU [] 2))))
theorem IS:dM ["first","step","found","seen","number","here","part"] ["first","step"] (aR zG):=scc
abbrev IT:DS:=aq (az (aF cN (ae (aj ag 0 (ae (eD (.int 2)))))) (ak [] 3)) (aq (az (aF cN (ae (aj ag 1 (ae (eD (.int 2)))))) (ak [] 4)) (aM (cb [5] (aV (aa 2)) (ak [] 5) (aD (ar eK (aj cg 3 (ae (aj ag 5 (ae (eD (.int 0)))))) (ae (aj cg 4 (ae (aj ag 5 (ae (eD (.int 1))))))))) (aa 5))))
def n9:DF:=bt [] 6 IT
abbrev b_alike_of:DS:=aq (az (gC lj [.val (aa 0),.val (aa 1)]) (ak [] 2)) (aq (az (o_ (a7 (aw (aj ag 0 (ae (eD (.int 1)))) (aw (aj ag 1 (ae (eD (.int 1)))) aN))) [2] (aB i8 [.val (aa 1),.val (aa 0)]) (wG n8 7)) (ak [] 3)) (aq (bf (aD (ar gM (aF bI (ae (aB n9 [.val (aa 0),.val (aa 1),.val (aa 3)]))) (ae (eD (.int 0))))) (aM (eD .ax)) bj) (aM (aF dt (ae (aF k9 (au 3)))))))
noncomputable def G_alike_of:DX:=ju [] 4 b_alike_of
theorem IU:dM ["painted","other","texts","pairs"] ["painted","other"] (aR kg):=scc
abbrev IV(ce:Tx->Nat):DS:=aq (az (dq (aw (gn ce ys (λz=>z==[78,111,70,108,111,111,114]) (au 0)) (aw (gn ce ys (λz=>z==[78,111,80,108,97,99,101]) (au 0)) aN))) (ak [] 1)) (aq (az (aj a_ 1 (ae (dq (aw (gn ce ys (λz=>z==[78,111,78,117,109,98,101,114]) (au 0)) (aw (gn ce ys (λz=>z==[78,111,82,111,119]) (au 0)) aN))))) (ak [] 1)) (aq (az (aj a_ 1 (ae (dq (aw (gn ce ys (λz=>z==[85,110,108,105,107,101]) (au 0)) (aw (gn ce ys (λz=>z==[78,111,84,105,108,101]) (au 0)) aN))))) (ak [] 1)) (aq (az (aj a_ 1 (ae (dq (aw (gn ce ys (λz=>z==[78,111,82,117,108,101]) (au 0)) (aw (gn ce ys (λz=>z==[78,111,84,101,120,116]) (au 0)) aN))))) (ak [] 1)) (aq (cA 1 (gn ce ys (λz=>z==[84,111,111,71,114,101,97,116]) (au 0))) (aq (bf (dz (cU (aD (gn ce ys (λj=>true) (au 0)))) (aD (ar eK (aF pe (au 1)) (ae (eD (.int 1)))))) (aM (eD (.str [111,116,104,101,114]))) bj) (aq (az (uM [.str [102,108,111,111,114],.str [112,108,97,99,101],.str [110,117,109,98,101,114],.str [114,111,119],.str [117,110,108,105,107,101],.str [116,105,108,101],.str [114,117,108,101],.str [116,101,120,116],.str [103,114,101,97,116]]) (ak [] 2)) (aM (aj ag 2 (ae (aF pf (au 1)))))))))))
def pJ(ce:Tx->Nat):DF:=bt [] 3 (IV ce)
noncomputable abbrev b__law_told(ce:Tx->Nat):DS:=nC ce ys 2 (aM (gC G_alike_of [.val (aa 0),.val (aa 1)])) (aM (aB (pJ ce) [.val (aa 2)]))
noncomputable def G__law_told(ce:Tx->Nat):DF:=bt [] 3 (b__law_told ce)
theorem IW:dM ["one","other","e"] ["one","other"] (aR zH):=scc
abbrev IX:DS:=aq (bf (aD (aj bz 1 (ae (eD (.int 1))))) (aM (aa 0)) bj) (aM (aB lb [.val (aa 0)]))
def ll:DF:=bt [] 2 IX
abbrev IY:DS:=aq (az (dq (aw (a7 (aw (aj ag 0 (ae (eD (.int 1)))) (aw (aj ag 1 (ae (eD (.int 1)))) aN))) aN)) (ak [] 2)) (aq (az GN (ak [] 3)) (aq (gi (aD (ar gL (aF j8 (au 3)) (ae (aF bI (au 2))))) (aq (az (aj ag 2 (ae (aF j8 (au 3)))) (ak [] 4)) (aq (az (dq aN) (ak [] 5)) (aq (bC (rz (ar cg (aF cN (ae (ar ag (aj ag 0 (ae (eD (.int 0)))) (ae (eD (.int 2)))))) (ae (aj ag 4 (ae (eD (.int 0)))))) (ar cg (aF cN (ae (ar ag (aj ag 1 (ae (eD (.int 0)))) (ae (eD (.int 2)))))) (ae (aj ag 4 (ae (eD (.int 1))))))) (bR 2 (aT (ak [] 6) (aT (ak [] 7) bX))) (cA 5 (j_ (aa 6) (aa 7)))) (aq (k8 3 (aa 4) (aa 5)) (bC (aV (aa 5)) (ak [] 8) (bC (aV (aa 8)) (ak [] 9) (bf (aD (ar (j5 true) (aa 9) (au 2))) (cA 2 (aa 9)) bj))))))) 1000000) (uU [] 3)))
def r9:DF:=bt [] 10 IY
abbrev IZ:DS:=aq (az (aB lg [.val (aj ag 0 (ae (eD (.int 0)))),.val (aj ag 1 (ae (eD (.int 0))))]) (ak [] 2)) (aq (az (aB ll [.val (aa 0),.val (aj ag 2 (ae (eD (.int 0))))]) (ak [] 0)) (aq (az (aB ll [.val (aa 1),.val (aj ag 2 (ae (eD (.int 1))))]) (ak [] 1)) (aq (az (aF nV (ae (aB r9 [.val (aa 0),.val (aa 1)]))) (ak [] 3)) (aq (bf (cU (aD (aF kM (ae (cb [4,5] (aV (aa 3)) (bR 2 (aT (ak [] 4) (aT (ak [] 5) bX))) cH (ar bz (ar cg (aF cN (ae (aj ag 0 (ae (eD (.int 2)))))) (au 4)) (ae (ar cg (aF cN (ae (aj ag 1 (ae (eD (.int 2)))))) (au 5))))))))) (aM (eD .ax)) bj) (aM (aF dt (au 3)))))))
def mE:DF:=bt [] 6 IZ
abbrev I_:DS:=aq (bf (dz (cU (aD (fO "str" (au 0)))) (cU (aD (jR l9 l9 (eD (.int 1)) (aF bI (au 0)) (au 1))))) (aM (eD (.bl false))) bj) (aM (aF kM (ae (cb [2] (aV (aa 0)) (ak [] 2) cH (jR l9 l9 (eD (.str [97])) (aa 2) (ae (eD (.str [122]))))))))
def r_:DF:=bt [] 3 I_
abbrev J_:DS:=aM (aB r_ [.val (aa 0),.val (eD (.int 1))])
def mF:DF:=bt [] 1 J_
abbrev Ka:DS:=aq (bf (cU (aD (fO "tuple" (au 1)))) (aM (eD (.bl false))) bj) (aq (az (a7 aN) (ak [] 2)) (aq (bC (aV (aa 1)) (ak [] 3) (aq (bf (dz (cU (aD (fO "tuple" (au 3)))) (aD (ar eK (aF bI (au 3)) (ae (eD (.int 2)))))) (aM (eD (.bl false))) bj) (aq (bf (dz (cU (aD (aB mF [.val (aj ag 3 (ae (eD (.int 0))))]))) (dz (cU (aD (aB mF [.val (aj ag 3 (ae (eD (.int 1))))]))) (aD (aj nU 3 (au 2))))) (aM (eD (.bl false))) bj) (aq (bf (dz (aD (ar (gk true) (aj ag 3 (ae (eD (.int 0)))) (ae (aj ag 0 (ae (eD (.int 0))))))) (aD (ar (gk true) (aj ag 3 (ae (eD (.int 1)))) (ae (aj ag 0 (ae (eD (.int 1)))))))) (aM (eD (.bl false))) bj) (az (aa 3) (ak [] 2)))))) (aM (eD (.bl true)))))
def se:DF:=bt [] 4 Ka
abbrev zM:DS:=aq (az (gC lj [.val (aa 0),.val (aa 1)]) (ak [] 3)) (aq (bf (dz (cU (aD (aB se [.val (aa 3),.val (aa 2)]))) (aD (ar (nW true) (a7 (aw (aj ag 0 (ae (eD (.int 1)))) (aw (aj ag 1 (ae (eD (.int 1)))) aN))) (au 2)))) (aM (eD (.bl false))) bj) (aq (bf (aD (ar gM (aF bI (ae (aB n9 [.val (aa 0),.val (aa 1),.val (aa 2)]))) (ae (eD (.int 0))))) (aM (eD (.bl false))) bj) (aq (az (aF nS (ae (cb [5] (aV (aa 2)) (ak [] 5) cH (a7 (aw (aa 5) (aw (eD (.bl true)) aN)))))) (ak [] 4)) (aq (bC (aV (aa 2)) (ak [] 5) (bf (cU (aD (aF kM (ae (cb [6] (aV (aB i8 [.val (aa 3),.val (aa 5)])) (ak [] 6) cH (ar (gQ false) (aa 6) (au 4))))))) (aM (eD (.bl false))) bj)) (aM (eD (.bl true)))))))
def pK:DX:=ju [] 7 zM
theorem Kb:dM ["painted","other","thing","texts","listed","pair","part"] ["painted","other","thing"] (aR zI):=scc
noncomputable abbrev b__law_right_of(ce:Tx->Nat):DS:=aq (bf (aD (ar (fX false) (aB lg [.val (aj ag 0 (ae (eD (.int 0)))),.val (aj ag 1 (ae (eD (.int 0))))]) (ae (eD .ax)))) (aM (ar bz (aB (G__law_told ce) [.val (aa 0),.val (aa 1)]) (ae (eD (.str [117,110,108,105,107,101]))))) bj) (aq (az (aB mE [.val (aa 0),.val (aa 1)]) (ak [] 2)) (aq (az (e_ G_alike_of [.val (aa 0),.val (aa 1)]) (ak [] 3)) (aq (bf (aD (ar (fX false) (aa 2) (ae (eD .ax)))) (aM (lZ (ar (fX false) (aa 3) (ae (eD .ax))) (ar (fX false) (e_ G_alike_of [.val (aa 1),.val (aa 0)]) (ae (eD .ax))))) bj) (aq (bf (dz (cU (aD (fO "tuple" (au 3)))) (dz (aD (aj eK 3 (au 2))) (aD (ar eK (e_ G_alike_of [.val (aa 0),.val (aa 1)]) (au 3))))) (aM (eD (.bl false))) bj) (aq (bC (aV (aa 3)) (ak [] 4) (bf (dz (cU (aD (fO "tuple" (au 4)))) (dz (cU (aD (fO "str" (ae (aj ag 4 (ae (eD (.int 0)))))))) (cU (aD (fO "str" (ae (aj ag 4 (ae (eD (.int 1)))))))))) (aM (eD (.bl false))) bj)) (aq (bf (aD (ar eK (e_ G_alike_of [.val (aa 1),.val (aa 0)]) (ae (aF dt (ae (aF k9 (ae (cb [5,6] (aV (aa 2)) (bR 2 (aT (ak [] 5) (aT (ak [] 6) bX))) cH (a7 (aw (aa 6) (aw (aa 5) aN))))))))))) (aM (eD (.bl false))) bj) (aM (ar (pb false) (e_ pK [.val (aa 0),.val (aa 1),.val (aa 3)]) (ae (eD (.bl true)))))))))))
noncomputable def G__law_right_of(ce:Tx->Nat):DF:=bt [] 7 (b__law_right_of ce)
theorem Kc:dM ["one","other","due","found","pair","left","right"] ["one","other"] (aR zJ):=scc
noncomputable abbrev b_law(ce:Tx->Nat):DS:=aq (bC (aV (ar a_ (dq (aw (aB pD [.val (aa 0),.val (eD (.int 0))]) aN)) (ae (fE 0 (cK (eD (.int 1))) (cK (eD (.int 5))))))) (ak [] 1) (aq (az (mj nZ (aB n5 [.val (aa 1)]) []) (bR 2 (aT (ak [] 2) (aT (ak [] 3) bX)))) (bC (aV (dq (aw (a7 (aw (aa 2) (aw (aa 3) aN))) (aw (a7 (aw (aa 2) (aw (aa 2) aN))) (aw (a7 (aw (aa 2) (aw (aa 3) aN))) aN))))) (ak [] 4) (bf (cU (aD (aB (G__law_right_of ce) [.val (aj ag 4 (ae (eD (.int 0)))),.val (aj ag 4 (ae (eD (.int 1))))]))) (aM (eD (.bl false))) bj)))) (aM (eD (.bl true)))
noncomputable def G_law(ce:Tx->Nat):DF:=bt [] 5 (b_law ce)
theorem Kd:dM ["script","cell","one","other","pair"] ["script"] (aR la):=scc
section
variable{w:Ws}{h:Heap}{x:Str}{st:Stmt}{k:Nat}{fb:DS}
theorem c8(M':K.In h)(UV:h.Ns Wo mg)(d:aZ K x st)(hG:G=bt np N.length fb:=by rfl)(hn:(N.take n).length=n:=by rfl)(S:dM N (N.take n) (aR st):=by exact⟨rfl,rfl,rfl,P3,rfl,P3,P3⟩)(hb:∀{f fd},cZ K x x st f fd->Binds K fd (N.take n) []:=by intro f fd F;first|exact FY F λj j j j j j j=>rfl|exact nH F λj j j j j j j j=>rfl|exact yM F λj j j j j j j j j=>rfl|exact bd4 F λj j j j j j j j j j=>rfl|exact bd5 F λj j j j j j j j j j j=>rfl|exact bd6 F λj j j j j j j j j j j j=>rfl)(bZ:∀(f:Addr)(c:Fc)(aE:Value)(A:Wp)(outer:List Env)(s:W2)(H:Hp)(E:XK),bM k (A.deeper (Qx x (aR st) s.heap.objs.size f aE))->Np c np->N.Nodup->eN (cX cY P w K mg base N x (aR st) f aE A outer s H E).fM c (cQ st) fb:=by intro f c aE A outer s H E hr dW km;have hq:=kT hr;infer_instance):aW P w K mg base (k+1) x n G:=by obtain⟨f,fd,F,m⟩:=nG M' UV d;subst hG;have:=Sv F m (hb F) S (λc aE A outer s H E hr dW=>bZ f c aE A outer s H E hr dW S.nd) λss y h=>oW h;rwa[hn]at this
theorem YY(M':K.In h)(UV:h.Ns Wo mg)(d:aZ K x st)(hG:G=bt np N.length fb:=by rfl)(hn:(N.take n).length=n:=by rfl)(S:dM N (N.take n) (aR st):=by exact⟨rfl,rfl,rfl,P3,rfl,P3,P3⟩)(hb:∀{f fd},cZ K x x st f fd->Binds K fd (N.take n) []:=by intro f fd F;first|exact FY F λj j j j j j j=>rfl|exact nH F λj j j j j j j j=>rfl|exact yM F λj j j j j j j j j=>rfl|exact bd4 F λj j j j j j j j j j=>rfl|exact bd5 F λj j j j j j j j j j j=>rfl|exact bd6 F λj j j j j j j j j j j j=>rfl)(bZ:∀(f:Addr)(c:Fc)(aE:Value)(A:Wp)(outer:List Env)(s:W2)(H:Hp)(E:XK),gm k (A.deeper (Qx x (aR st) s.heap.objs.size f aE))->Np c np->N.Nodup->eN (cX cY P w K mg base N x (aR st) f aE A outer s H E).vb c (cQ st) fb:=by intro f c aE A outer s H E hr dW km;have hq:=Va hr;infer_instance):qR P w K mg base (k+1) x n G:=by obtain⟨f,fd,F,m⟩:=nG M' UV d;subst hG;have:=Vb F m (hb F) S (λc aE A outer s H E hr dW=>bZ f c aE A outer s H E hr dW S.nd) λss y h=>oW h;rwa[hn]at this
end
section
theorem cv{p:Prop}(x:p):p:=x
local macro_rules|`(tactic|exists$e:ident)=>`(tactic|with_reducible refine'@$e ..)
local macro_rules|`(tactic|exists$p,$e:ident,$a,$b,$_)=>`(tactic|(with_reducible show SE _ _ _ $p;refine'@$e ..);rotate_left;exact$a;exact$b)
local macro_rules|`(tactic|exists$p,$e:ident,$a,$b,$_,$_)=>`(tactic|(with_reducible show ST _ _ _ $p;refine'@$e ..);rotate_left;exact$a;exact$b)
local macro_rules|`(tactic|exists$s:str)=>do let ts<-(s.getString.splitOn " ").toArray.mapM λh=>`(tacticSeq|with_reducible refine'@$(Lean.mkIdent h.toName) ..);`(tactic|first$[|$ts]*)
local macro_rules|`(tactic|exists$s:str,$_)=>do let ts<-(s.getString.splitOn " ").toArray.mapM λh=>`(tacticSeq|exact$(Lean.mkIdent h.toName));`(tactic|first$[|$ts]*)
local macro_rules|`(tactic|exists$s:str,$_,$_)=>do let i(x:String):=Lean.mkIdent x.toName;let ts<-(s.getString.splitOn ";").toArray.mapM λl=>match l.splitOn " " with|[x,o,r,a,b]=>`(tacticSeq|exists $(i x) $(i o) _ _,$(i r):ident,$(i a),$(i b),_)|[_,x,o,r,a,b]=>`(tacticSeq|exists aD ($(i x) $(i o) _ _),$(i r):ident,$(i a),$(i b),_,_)|_=>`(tacticSeq|fail);`(tactic|first$[|$ts]*)
set_option hygiene false in 
local macro_rules|`(tactic|infer_instance)=>`(tactic|(repeat' first|((with_reducible show SS _ _ _ _);first|((with_reducible show SS _ _ _ (bC _ _ _));first|(refine Eg PassesOwn.never rfl ?_ ?_ ?_)|(refine SS.fM ?_;refine Eg PassesOwn.never rfl ?_ ?_ ?_))|((with_reducible show SS _ _ _ (nC _ _ _ _ _));refine VV ft (ce:=ce) (ys:=ys) (i:=2) rfl dW rfl rfl km rfl rfl rfl T.YA T.YK (λy hy=>T.YX y hy) (λc pn xe dW ft zN=>?_) λea=>?_)|((with_reducible show SS _ _ _ (az (cb _ _ _ _ _) (ak _ _)));refine Ss dW rfl (@EF _ _ _ rfl rfl) km rfl rfl ?_ (λl s0 H0 ex=>?_) (λl s0 H0 ex=>?_) (λl s0 H0 ex=>?_) (EC dW rfl))|((with_reducible show SS _ _ _ (gi _ _ _));refine R7 1000000 (λh1 h2=>Nv PassesOwn.never h1 h2) ?_ ?_)|exists "UD Xp Tw RM RN RW RV S7 RZ RL S6")|((with_reducible show SE _ _ _ _);first|((with_reducible show SE _ _ _ (o_ _ _ _ _));refine Yv (P:=fJ) (kl:=1) (kw:=2) (fr:=["texts"]) (js:=[2]) (p:="pair") (by assumption) Yt ft Wl (hr.mono Z') Z' rfl ?_ (λ_=>rfl) rfl rfl (VS gZ YZ) dT gT tT (T6 (cW rfl)) T7 rfl (λi x j e1 e2=>by rcases i with _|i;(cases e1;cases e2;exact⟨rfl,rfl,_,rfl⟩);cases e1) (λ_ _ _ _=>rfl) λc fa cd A outer s H hr hp=>have hq:=kT hr;have dW:Np c []:=λp h=>(List.not_mem_nil (hp▸h:p∈([]:List _))).elim;?_)|((with_reducible show SE _ _ _ (e_ _ _));first|(exists VU;rotate_left 3;assumption)|(exists Vn;rotate_left 2;assumption))|((with_reducible show SE _ _ _ (gC _ _));first|(exists VT;rotate_left 3;assumption)|(exists UJ;rotate_left 2;assumption))|((with_reducible show SE _ _ _ (aB _ _));first|(exists SK;rotate_left 2;assumption)|(exists T5;rotate_left 3;assumption)|(exists Vc;rotate_left 2;assumption))|((with_reducible show SE _ _ _ (gn _ _ _ _));first|((with_reducible show SE _ _ (.Call _ [_,.Name "ValueError" _] _ _) _);exists U_)|exists UZ)|exists ar (pb false) _ _,lY,Uv,Uw false,_|((with_reducible show SE _ _ _ (eD (.int _)));exists "De S5")|exists ar (gk true) _ _,lY,@E4 _ hq,@E7 _ true,_|exists ar (fX false) _ _,lY,zev,E9,_|((with_reducible show SE _ _ _ (mj _ _ _));refine TN (by assumption) EB (hr.mono Z') rfl ?_ (λ_=>?_) rfl)|((with_reducible show SE _ _ _ (q_ _ _));refine Xw hq (λc=>?_) λc=>?_)|exists ar cg _ _,Dy,Fd hq,E8,_|exists aj cg _ _,Dz,Fd hq,E8,_|exists ar bz _ _,lY,ua hq,uj,_|exists aj bz _ _,qq,ua hq,uj,_|exists ar (gQ false) _ _,lY,Xi hq,GJ false,_|exists ar eK _ _,lY,ub hq,uk,_|exists aj eK _ _,qq,ub hq,uk,_|((with_reducible show SE _ _ _ (jR _ _ _ _ _));refine Ra uq uq jS jS ?_ ?_ ?_)|((with_reducible show SE _ _ _ (cb _ _ _ _ _));refine Sr rfl (@EF _ _ _ rfl rfl) ?_ (λl s0 H0 ex=>?_) (λl s0 H0 ex=>?_) (λl s0 H0 ex=>?_) (EC dW rfl))|exists "aj cG uf EG DO;ar cG oJ EG DO;ar ag Dy xf xV;aj ag Dz xf xV;ar a_ oJ DL DM;aj a_ uf DL DM;ar m5 oJ NJ Rh;ar iR oJ Ca DQ;aj iR uf Ca DQ;ar ig oJ B_ DP;aj ig uf B_ DP;ar ui oJ NM Ri;aj xW qq Rj jS;ar gL lY um uo;aj gL qq um uo;ar gM lY ur jS;aj gM qq ur jS",_,_|exists "TR Dh XB Xt Pm Df Dg S3 S4 D3 D4 Rn Rq Ru Tj Yi Rr RK Vh Vi Yo Yc Rv Vt RE RH X3 Ry Q_ P_")|((with_reducible show ST _ _ _ _);first|exists aD (ar (gQ true) _ _),kL,Xj hq,GJ true,_,_|exists aD (ar bz _ _),kL,ua hq,uj,_,_|exists aD (aj bz _ _),qr,ua hq,uj,_,_|exists aD (ar eK _ _),kL,ub hq,uk,_,_|exists aD (aj eK _ _),qr,ub hq,uk,_,_|exists aD (aj nU _ _),qr,Yk hq,Yl,_,_|exists aD (ar (gk true) _ _),kL,@E4 _ hq,@E7 _ true,_,_|exists aD (ar (j5 true) _ _),kL,Gg hq,Gh true,_,_|exists aD (ar (nW true) _ _),kL,Yr hq,Ys true,_,_|exists aD (ar (fX false) _ _),kL,zev,E9,_,_|((with_reducible show ST _ _ _ (aD (jR _ _ _ _ _)));refine Rb uq uq jS jS ?_ ?_ ?_)|exists "T ar gL kL um uo;T aj gL qr um uo;T ar gM kL ur jS;T aj gM qr ur jS",_,_|exists "PR P0 PZ")|((with_reducible show eN _ _ _ _);first|exists "D_ Ea Eb"|exact D_|refine Ea ?_ ?_|refine Eb ?_)|exists "XY Tc R5 Pl Pk DW SR Sw SV SU RC RD RP RU RS RT Se Si Sg Sh PY PX sw_and1 Sa Sb"|(refine cv ?_;first|assumption|rfl|exactλ_ _=>rfl|exactλ_=>rfl|decide|decide+kernel|exact hr.mono Z'|exact hr.mono (QY _ _)|exact(hr.h.mono Z').mark _|exact Or.inl rfl|exact Or.inr rfl|exists "T.YL T.YF UI EB T.YM T.rL T.YB T.YN T.YC T.YO T.YD T.YQ T.YE T.YR T.YS T.YG T.YT T.YH T.YU T.YI T.YV T.YJ T.YW T.rG boot_ValueError T.rU T.rM T.rS T.rH T.rJ T.rK T.rQ T.rO T.rN T.rT T.ty_str T.rR boot_str T.ty_tuple boot_tuple T.rP",_|exact pv _|exact nomark _)))
section
variable{w:Ws}{h:Heap}{ce:Tx->Nat}(T:Txt ce K mg)(M':K.In h)(UV:h.Ns Wo mg)
include T M' UV
theorem Y0(d:aZ K "_law_cell_at" HE):aW P w K mg base 1 "_law_cell_at" 2 pD:=c8 (N:=["script","k"]) M' UV d
theorem Y3(d:aZ K "_law_next" HF):aW P w K mg base 1 "_law_next" 1 pE:=c8 (N:=["seed"]) M' UV d
theorem Y4(d:aZ K "_law_draw" HG)(Ke:aW P w K mg base 1 "_law_next" 1 pE):aW P w K mg base 2 "_law_draw" 2 cO:=c8 (N:=["pen","many","found"]) M' UV d
theorem Y5(d:aZ K "_law_rule_by" HH)(kn:aW P w K mg base 2 "_law_draw" 2 cO):aW P w K mg base 3 "_law_rule_by" 2 rV:=c8 (N:=["pen","most","letters","high","wide","start","tiles","alike","blocks","tile","rows","row","signs","block","column"]) M' UV d
theorem Y6(d:aZ K "_law_still" HI)(Kf:aW P w K mg base 3 "_law_rule_by" 2 rV):aW P w K mg base 4 "_law_still" 2 nX:=c8 (N:=["pen","most","high","wide","blocks","tile","block"]) M' UV d
theorem Y7(d:aZ K "_law_tiles_of" HJ):aW P w K mg base 1 "_law_tiles_of" 1 kj:=c8 (N:=["rule","tile","block"]) M' UV d
theorem Y8(d:aZ K "_law_paint_of" HK)(kn:aW P w K mg base 2 "_law_draw" 2 cO)(pL:aW P w K mg base 1 "_law_tiles_of" 1 kj):aW P w K mg base 3 "_law_paint_of" 2 nY:=c8 (N:=["pen","rule","signs","tile"]) M' UV d
theorem Y9(d:aZ K "_law_spread" HL)(kn:aW P w K mg base 2 "_law_draw" 2 cO)(pL:aW P w K mg base 1 "_law_tiles_of" 1 kj):aW P w K mg base 3 "_law_spread" 2 rW:=c8 (N:=["pen","painted","letters","rule","first","paint","tiles","start","blocks","signs","k","rows","row","sign"]) M' UV d
theorem Y_(d:aZ K "_law_grown" HM):aW P w K mg base 1 "_law_grown" 2 pF:=c8 (N:=["rule","floor","blocks","found","row","line","signs","tile"]) M' UV d
theorem Za(d:aZ K "_law_twice" HN)(Kg:aW P w K mg base 1 "_law_grown" 2 pF):aW P w K mg base 2 "_law_twice" 1 lb:=c8 (N:=["painted","rule","first","paint","blocks","tile","block"]) M' UV d
theorem Zb(d:aZ K "_law_bent" HP)(kn:aW P w K mg base 2 "_law_draw" 2 cO)(pL:aW P w K mg base 1 "_law_tiles_of" 1 kj):aW P w K mg base 3 "_law_bent" 2 rX:=c8 (N:=["pen","painted","rule","first","paint","spot","sign","tile","block","row","column","line"]) M' UV d
theorem Zc(d:aZ K "_law_two_painted" HQ)(kn:aW P w K mg base 2 "_law_draw" 2 cO)(Kh:aW P w K mg base 4 "_law_still" 2 nX)(Ki:aW P w K mg base 3 "_law_paint_of" 2 nY)(Kj:aW P w K mg base 3 "_law_spread" 2 rW)(vK:aW P w K mg base 2 "_law_twice" 1 lb)(Kk:aW P w K mg base 3 "_law_bent" 2 rX):aW P w K mg base 5 "_law_two_painted" 1 nZ:=c8 (N:=["pen","rule","first","one","way","other"]) M' UV d
theorem Zd(d:aZ K "_law_pen_of" HR):aW P w K mg base 1 "_law_pen_of" 1 n5:=c8 (N:=["cell","left"]) M' UV d
theorem Ze(d:aZ K "_law_common" HS):aW P w K mg base 1 "_law_common" 2 lg:=c8 (N:=["one","other","m","n","sizes"]) M' UV d
theorem Zf(d:aZ K "grown_size" HU):aW P w K mg base 1 "grown_size" 3 lh:=c8 (N:=["size","factor","often","growing"]) M' UV d
theorem Zg(d:aZ K "grown_sizes" HV)(vL:aW P w K mg base 1 "grown_size" 3 lh):aW P w K mg base 2 "grown_sizes" 2 iD:=c8 (N:=["rule","often"]) M' UV d
theorem Zh(d:aZ K "common_power" HW)(Kl:aW P w K mg base 2 "grown_sizes" 2 iD):aW P w K mg base 3 "common_power" 2 pG:=c8 (N:=["rule","other","power","other_power"]) M' UV d
theorem Zi(d:aZ K "rule_tiles" HX):aW P w K mg base 1 "rule_tiles" 1 rY:=c8 (N:=["rule","tile","block"]) M' UV d
theorem Zj(d:aZ K "refuse_strange" HY):aW P w K mg base 1 "refuse_strange" 2 rZ:=c8 (N:=["block_of","floor","tile"]) M' UV d
theorem Zk(d:aZ K "refuse_beyond" HZ):aW P w K mg base 1 "refuse_beyond" 3 r8:=c8 (N:=["rows","columns","most"]) M' UV d
theorem Zl(d:aZ K "laid_floor" H_):aW P w K mg base 1 "laid_floor" 3 mD:=c8 (N:=["block_of","high","floor","rows","row","line","tile"]) M' UV d
theorem Zm(d:aZ K "grown_often" Ia)(vL:aW P w K mg base 1 "grown_size" 3 lh)(Km:aW P w K mg base 1 "refuse_strange" 2 rZ)(Kn:aW P w K mg base 1 "refuse_beyond" 3 r8)(Ko:aW P w K mg base 1 "laid_floor" 3 mD):aW P w K mg base 2 "grown_often" 3 pH:=c8 (N:=["rule","floor","often","high","wide","blocks","block_of","grown","growing"]) M' UV d
theorem Zn(d:aZ K "floor_texts" Ib)(Kp:aW P w K mg base 1 "rule_tiles" 1 rY)(Kq:aW P w K mg base 2 "grown_often" 3 pH):aW P w K mg base 3 "floor_texts" 2 pI:=c8 (N:=["rule","often","tile"]) M' UV d
end
theorem Zo{f w}(F:cZ K "common_texts" "common_texts" zF f fd)(hm:mg "common_texts"=some (.ref f))(hb:Binds K fd ["painted","other"] [])(T:Txt ce K mg)(Kr:aW P w K mg base 3 "common_power" 2 pG)(Ks:aW P w K mg base 3 "floor_texts" 2 pI):mv P w K mg base 4 "common_texts" 2 lj:=FE (np:=[]) (fb:=vJ) F hm hb IP λc aE A outer s H E hr dW zN=>by have hq:=kT hr;have km:=IP.nd;infer_instance λss y h=>va h
section
variable{w:Ws}{h:Heap}{ce:Tx->Nat}(T:Txt ce K mg)(M':K.In h)(UV:h.Ns Wo mg)
include T M' UV
theorem Zp(d:aZ K "pairs_under" Ic):aW P w K mg base 1 "pairs_under" 2 i8:=c8 (N:=["texts","pair"]) M' UV d
end
theorem Zq{f w}(F:cZ K "reached" "reached" zG f fd)(hm:mg "reached"=some (.ref f))(hb:Binds K fd ["first","step"] [])(T:Txt ce K mg):yB P w K mg base 2 "reached" 7 n8:=⟨f,fd,_,_,_,["first","step","found","seen","number","here","part"],rfl,hm,F.kp,hb,rfl,T4 F IS rfl λc aE A outer s H E fa Fn hr dW Fo=>by have hq:=kT hr;have km:=IS.nd;infer_instance⟩
section
variable{w:Ws}{h:Heap}{ce:Tx->Nat}(T:Txt ce K mg)(M':K.In h)(UV:h.Ns Wo mg)
include T M' UV
theorem Zr(d:aZ K "unlike_among" Ie):aW P w K mg base 1 "unlike_among" 3 n9:=c8 (N:=["painted","other","pairs","sign_of","other_sign","pair"]) M' UV d
end
theorem Zs{f w}{sf:Addr}(F:cZ K "alike_of" "alike_of" kg f fd)(hm:mg "alike_of"=some (.ref f))(hb:Binds K fd ["painted","other"] [])(T:Txt ce K mg)(YZ:∃oc od kV doc pm an ct de,K.lookup f=some ⟨oc,od,.func (Q7 "alike_of" "alike_of" (gv kg) (cQ kg) (aR kg) .none kV doc pm an (.ref sf) ct),de⟩)(dT:Js K sf fJ=true)(gT:Wo≠fJ)(tT:base.BuiltinsAt mg fJ)(vM:mv P w K mg base 4 "common_texts" 2 lj)(vN:aW P w K mg base 1 "pairs_under" 2 i8)(Kt:yB P w K mg base 2 "reached" 7 n8)(vO:aW P w K mg base 1 "unlike_among" 3 n9):pw P w K mg base [(fJ,kh,ki)] 5 "alike_of" 2 G_alike_of:=VR (np:=[]) (fb:=b_alike_of) F hm hb IU λc aE A outer s H E hr dW ft gZ zN=>by have hq:=kT hr;have km:=IU.nd;infer_instance λss y h=>va h
section
variable{w:Ws}{h:Heap}{ce:Tx->Nat}(T:Txt ce K mg)(M':K.In h)(UV:h.Ns Wo mg)
include T M' UV
theorem Zt(d:aZ K "_law_kind_of" Ig):qR P w K mg base 1 "_law_kind_of" 1 (pJ ce):=YY (N:=["e","marks","words"]) M' UV d
end
theorem Zu{f w}(F:cZ K "_law_told" "_law_told" zH f fd)(hm:mg "_law_told"=some (.ref f))(hb:Binds K fd ["one","other"] [])(T:Txt ce K mg)(vP:pw P w K mg base [(fJ,kh,ki)] 5 "alike_of" 2 G_alike_of)(Ku:qR P w K mg base 1 "_law_kind_of" 1 (pJ ce)):oZ P w K mg base [(fJ,kh,ki)] 6 "_law_told" 2 (G__law_told ce):=Ge (np:=[]) (fb:=b__law_told ce) F hm hb IW λc aE A outer s H E hr dW ft gZ=>by have hq:=kT hr;have km:=IW.nd;infer_instance λss y h=>oW h
section
variable{w:Ws}{h:Heap}{ce:Tx->Nat}(T:Txt ce K mg)(M':K.In h)(UV:h.Ns Wo mg)
include T M' UV
theorem Zv(d:aZ K "_law_raised" Ih)(vK:aW P w K mg base 2 "_law_twice" 1 lb):aW P w K mg base 3 "_law_raised" 2 ll:=c8 (N:=["painted","often"]) M' UV d
theorem Zw(d:aZ K "_law_pairs" Ii):aW P w K mg base 1 "_law_pairs" 2 r9:=c8 (N:=["one","other","there","known","pair","rows","left","right","row","more"]) M' UV d
theorem Zx(d:aZ K "_law_due_of" Ij)(vQ:aW P w K mg base 1 "_law_common" 2 lg)(Kv:aW P w K mg base 3 "_law_raised" 2 ll)(Kw:aW P w K mg base 1 "_law_pairs" 2 r9):aW P w K mg base 4 "_law_due_of" 2 mE:=c8 (N:=["one","other","power","known","left","right"]) M' UV d
theorem Zy(d:aZ K "letters_good" Ik):aW P w K mg base 1 "letters_good" 2 r_:=c8 (N:=["thing","most","sign"]) M' UV d
theorem Zz(d:aZ K "tile_good" Il)(Kx:aW P w K mg base 1 "letters_good" 2 r_):aW P w K mg base 2 "tile_good" 1 mF:=c8 (N:=["thing"]) M' UV d
theorem ZC(d:aZ K "pairs_rising" Im)(Ky:aW P w K mg base 2 "tile_good" 1 mF):aW P w K mg base 3 "pairs_rising" 2 se:=c8 (N:=["texts","thing","ahead","pair"]) M' UV d
end
theorem ZE{f w}(F:cZ K "alike_holds" "alike_holds" zI f fd)(hm:mg "alike_holds"=some (.ref f))(hb:Binds K fd ["painted","other","thing"] [])(T:Txt ce K mg)(vM:mv P w K mg base 4 "common_texts" 2 lj)(vN:aW P w K mg base 1 "pairs_under" 2 i8)(vO:aW P w K mg base 1 "unlike_among" 3 n9)(Kz:aW P w K mg base 3 "pairs_rising" 2 se):mv P w K mg base 5 "alike_holds" 3 pK:=FE (np:=[]) (fb:=zM) F hm hb Kb λc aE A outer s H E hr dW zN=>by have hq:=kT hr;have km:=Kb.nd;infer_instance λss y h=>va h
theorem ZF{f w}(F:cZ K "_law_right_of" "_law_right_of" zJ f fd)(hm:mg "_law_right_of"=some (.ref f))(hb:Binds K fd ["one","other"] [])(T:Txt ce K mg)(vQ:aW P w K mg base 1 "_law_common" 2 lg)(vP:pw P w K mg base [(fJ,kh,ki)] 5 "alike_of" 2 G_alike_of)(KA:oZ P w K mg base [(fJ,kh,ki)] 6 "_law_told" 2 (G__law_told ce))(KC:aW P w K mg base 4 "_law_due_of" 2 mE)(KD:mv P w K mg base 5 "alike_holds" 3 pK):oZ P w K mg base [(fJ,kh,ki)] 7 "_law_right_of" 2 (G__law_right_of ce):=Ge (np:=[]) (fb:=b__law_right_of ce) F hm hb Kc λc aE A outer s H E hr dW ft gZ=>by have hq:=kT hr;have km:=Kc.nd;infer_instance λss y h=>oW h
theorem ZG{f w}(F:cZ K "law" "law" la f fd)(T:Txt ce K mg)(KG:aW P w K mg base 1 "_law_cell_at" 2 pD)(KH:aW P w K mg base 5 "_law_two_painted" 1 nZ)(KI:aW P w K mg base 1 "_law_pen_of" 1 n5)(KJ:oZ P w K mg base [(fJ,kh,ki)] 7 "_law_right_of" 2 (G__law_right_of ce)){Gt:DF}(zO:∀ss y,Gt ss=some y->G_law ce ss=some y):gc P w K mg base cY 8 f fd ["script"] (nA [(fJ,kh,ki)] 1 Gt):=Fp (np:=[]) (fb:=b_law ce) F Kd λc aE A outer s H E hr dW ft gZ=>by have hq:=kT hr;have km:=Kd.nd;infer_instance λss y h=>oW (zO ss y h)
end
theorem all_mk{l:PySem.W.OpenLaw}{w:Ws}{h:Heap}{Gt:DF}(zO:∀ce ss y,Gt ss=some y->G_law ce ss=some y)(X:K.In h)(G:h.Ns Wo mg)(yz:mg "law"=some (.ref fa))(d0:aZ K "_law_cell_at" HE)(d1:aZ K "_law_next" HF)(d2:aZ K "_law_draw" HG)(d3:aZ K "_law_rule_by" HH)(d4:aZ K "_law_still" HI)(d5:aZ K "_law_tiles_of" HJ)(d6:aZ K "_law_paint_of" HK)(d7:aZ K "_law_spread" HL)(d8:aZ K "_law_grown" HM)(d9:aZ K "_law_twice" HN)(zP:aZ K "_law_bent" HP)(zQ:aZ K "_law_two_painted" HQ)(zR:aZ K "_law_pen_of" HR)(zS:aZ K "_law_common" HS)(zT:aZ K "grown_size" HU)(zU:aZ K "grown_sizes" HV)(zV:aZ K "common_power" HW)(zW:aZ K "rule_tiles" HX)(zX:aZ K "refuse_strange" HY)(zY:aZ K "refuse_beyond" HZ)(zZ:aZ K "laid_floor" H_)(z5:aZ K "grown_often" Ia)(z6:aZ K "floor_texts" Ib)(z7:aZ K "common_texts" zF)(z8:aZ K "pairs_under" Ic)(z9:aZ K "reached" zG)(z_:aZ K "unlike_among" Ie)(Aa:nsIn K Wo "alike_of"=some (some (.ref f27)))(vR:K.lookup f27=some ⟨oc27,od27,.func (Q7 "alike_of" "alike_of" (gv kg) (cQ kg) (aR kg) .none kV27 dc27 pm27 an27 (.ref sf) ct27),sl27⟩)(Ab:codeIn K (.ref sf) "alike_of"=true)(Ac:keepIn K (.ref f27)=true)(dT:Js K sf fJ=true)(gT:(Wo==fJ)=false)(Ad:aZ K "_law_kind_of" Ig)(Ae:aZ K "_law_told" zH)(Af:aZ K "_law_raised" Ih)(Ag:aZ K "_law_pairs" Ii)(Ah:aZ K "_law_due_of" Ij)(Ai:aZ K "letters_good" Ik)(Aj:aZ K "tile_good" Il)(Al:aZ K "pairs_rising" Im)(Am:aZ K "alike_holds" zI)(An:aZ K "_law_right_of" zJ)(Ao:nsIn K Wo "law"=some (some (.ref f38)))(Ap:K.lookup f38=some ⟨oc38,od38,.func (Q7 "law" "law" (gv la) (cQ la) (aR la) .none kV38 dc38 pm38 an38 cd38 ct38),sl38⟩)(Aq:codeIn K cd38 "law"=true)(Ar:keepIn K (.ref f38)=true)(rG:nsIn K Wo "ValueError"=some none)(rH:nsIn K Wo "all"=some none)(rJ:nsIn K Wo "dict"=some none)(rK:nsIn K Wo "int"=some none)(rL:nsIn K Wo "isinstance"=some none)(rM:nsIn K Wo "len"=some none)(rN:nsIn K Wo "list"=some none)(rO:nsIn K Wo "max"=some none)(rP:nsIn K Wo "range"=some none)(rQ:nsIn K Wo "sorted"=some none)(rR:nsIn K Wo "str"=some none)(rS:nsIn K Wo "tuple"=some none)(rT:nsIn K Wo "zip"=some none)(rU:nsIn K Wo "MOST_TILES"=some (some (.int 64 t_MOST_TILES)))(As:nsIn K Wo "FloorError"=some (some (.ref C_j)))(Au:nsIn K Wo "NoFloor"=some (some (.ref C_a)))(Aw:nsIn K Wo "NoPlace"=some (some (.ref C_b)))(Ax:nsIn K Wo "NoNumber"=some (some (.ref C_c)))(Ay:nsIn K Wo "NoRow"=some (some (.ref C_d)))(vS:nsIn K Wo "Unlike"=some (some (.ref C_e)))(Az:nsIn K Wo "NoTile"=some (some (.ref C_f)))(AA:nsIn K Wo "NoRule"=some (some (.ref C_g)))(AB:nsIn K Wo "NoText"=some (some (.ref C_h)))(AD:nsIn K Wo "TooGreat"=some (some (.ref C_i)))(AE:PySem.W.excIn K C_j u6 "ValueError.__new__"=true)(AF:PySem.W.excIn K C_e u6 "ValueError.__new__"=true)(AG:PySem.W.specialIn K (.builtin "object.__class__") "__get__"=some (some (.builtin "getset_descriptor.__get__")))(AH:PySem.W.takesIn K (.builtin "object.__class__")=some true)(AI:findIn K (.ref C_e) "__getattribute__"=some (some (.builtin "BaseException.__getattribute__")))(AJ:findIn K (.ref C_e) "__getattr__"=some none)(AK:findIn K (.ref C_e) "__class__"=some (some (.builtin "object.__class__")))(AL:mroIn K C_e (.type "object")=some true)(AM:mroIn K C_e (.type "BaseException")=some true)(i9:PySem.W.isClsIn K C_e=true)(AN:kitOne K (.ref C_e) (.type "ValueError")=some true)(AO:kitOne K (.ref C_e) (.ref C_a)=some false)(AQ:kitOne K (.ref C_e) (.ref C_b)=some false)(AR:kitOne K (.ref C_e) (.ref C_c)=some false)(AS:kitOne K (.ref C_e) (.ref C_d)=some false)(AU:kitOne K (.ref C_e) (.ref C_e)=some true)(AV:kitOne K (.ref C_e) (.ref C_f)=some false)(AW:kitOne K (.ref C_e) (.ref C_g)=some false)(AX:kitOne K (.ref C_e) (.ref C_h)=some false)(AY:kitOne K (.ref C_e) (.ref C_i)=some false)(AZ:mroIn K C_e (.ref C_j)=some true):(∃c,Js K c fJ=true)/\∃fd:WR,(∀(s:W2)(v:Value),BindsTo s fd ⟨[v],[]⟩ [("script",v)])/\∀base:Heap,K.In base->base.Ns Wo mg->base.BuiltinsAt mg fJ->gc l.prog w K mg base cY 8 fa fd ["script"] (nA [(fJ,kh,ki)] 1 Gt):=by have e:=yz.symm.trans (mg_of X G Ao);cases e;have ko:nE K C_e:=⟨AI,AJ,AK,AG,AH,AL,AM⟩;have T:Txt (FP [([70,108,111,111,114,69,114,114,111,114],C_j),([78,111,70,108,111,111,114],C_a),([78,111,80,108,97,99,101],C_b),([78,111,78,117,109,98,101,114],C_c),([78,111,82,111,119],C_d),([85,110,108,105,107,101],C_e),([78,111,84,105,108,101],C_f),([78,111,82,117,108,101],C_g),([78,111,84,101,120,116],C_h),([84,111,111,71,114,101,97,116],C_i)]) K mg:=⟨WY X G rG,WY X G rH,WY X G rJ,WY X G rK,WY X G rL,WY X G rM,WY X G rN,WY X G rO,WY X G rP,WY X G rQ,WY X G rR,WY X G rS,WY X G rT,SN,SQ,⟨_,mg_of X G rU⟩,mg_of X G As,mg_of X G Au,mg_of X G Aw,mg_of X G Ax,mg_of X G Ay,mg_of X G vS,mg_of X G Az,mg_of X G AA,mg_of X G AB,mg_of X G AD,AE,AF,⟨cW ko,cW i9,cW AO⟩,⟨cW ko,cW i9,cW AQ⟩,⟨cW ko,cW i9,cW AR⟩,⟨cW ko,cW i9,cW AS⟩,⟨cW ko,cW i9,cW AU⟩,⟨cW ko,cW i9,cW AV⟩,⟨cW ko,cW i9,cW AW⟩,⟨cW ko,cW i9,cW AX⟩,⟨cW ko,cW i9,cW AY⟩,⟨cW ko,cW i9,cW AN⟩,cW ⟨%[show toS [85,110,108,105,107,101]=("Unlike":Str)from by decide+kernel|mg_of X G vS],AZ⟩⟩;obtain⟨f23,fd23,F23,m23⟩:=nG X G z7;obtain⟨f25,fd25,F25,m25⟩:=nG X G z9;have KL:=xy (st:=kg) vR Ab Ac;have ZH:=mg_of X G Aa;obtain⟨f29,fd29,F29,m29⟩:=nG X G Ae;obtain⟨f36,fd36,F36,m36⟩:=nG X G Am;obtain⟨f37,fd37,F37,m37⟩:=nG X G An;have ZI:=xy (st:=la) Ap Aq Ar;refine⟨⟨_,dT⟩,Q7 "law" "law" (gv la) (cQ la) (aR la) .none kV38 dc38 pm38 an38 cd38 ct38,λs v=>.of_eq rfl,λbase j j tT=>?_⟩;have KG:=Y0 (P:=l.prog) (w:=w) (base:=base) T X G d0;have Ke:=Y3 (P:=l.prog) (w:=w) (base:=base) T X G d1;have kn:=Y4 T X G d2 Ke;have Kf:=Y5 T X G d3 kn;have Kh:=Y6 T X G d4 Kf;have pL:=Y7 (P:=l.prog) (w:=w) (base:=base) T X G d5;have Ki:=Y8 T X G d6 kn pL;have Kj:=Y9 T X G d7 kn pL;have Kg:=Y_ (P:=l.prog) (w:=w) (base:=base) T X G d8;have vK:=Za T X G d9 Kg;have Kk:=Zb T X G zP kn pL;have KH:=Zc T X G zQ kn Kh Ki Kj vK Kk;have KI:=Zd (P:=l.prog) (w:=w) (base:=base) T X G zR;have vQ:=Ze (P:=l.prog) (w:=w) (base:=base) T X G zS;have vL:=Zf (P:=l.prog) (w:=w) (base:=base) T X G zT;have Kl:=Zg T X G zU vL;have Kr:=Zh T X G zV Kl;have Kp:=Zi (P:=l.prog) (w:=w) (base:=base) T X G zW;have Km:=Zj (P:=l.prog) (w:=w) (base:=base) T X G zX;have Kn:=Zk (P:=l.prog) (w:=w) (base:=base) T X G zY;have Ko:=Zl (P:=l.prog) (w:=w) (base:=base) T X G zZ;have Kq:=Zm T X G z5 vL Km Kn Ko;have Ks:=Zn T X G z6 Kp Kq;have vM:=Zo F23 m23 (nH F23 λj j j j j j j j=>rfl) T Kr Ks;have vN:=Zp (P:=l.prog) (w:=w) (base:=base) T X G z8;have Kt:=Zq (P:=l.prog) (w:=w) (base:=base) F25 m25 (nH F25 λj j j j j j j j=>rfl) T;have vO:=Zr (P:=l.prog) (w:=w) (base:=base) T X G z_;have vP:=Zs KL ZH (nH KL λj j j j j j j j=>rfl) T ⟨_,_,_,_,_,_,_,_,vR⟩ dT (λz=>by rw[z]at gT;simp at gT) tT vM vN Kt vO;have Ku:=Zt (P:=l.prog) (w:=w) (base:=base) T X G Ad;have KA:=Zu F29 m29 (nH F29 λj j j j j j j j=>rfl) T vP Ku;have Kv:=Zv T X G Af vK;have Kw:=Zw (P:=l.prog) (w:=w) (base:=base) T X G Ag;have KC:=Zx T X G Ah vQ Kv Kw;have Kx:=Zy (P:=l.prog) (w:=w) (base:=base) T X G Ai;have Ky:=Zz T X G Aj Kx;have Kz:=ZC T X G Al Ky;have KD:=ZE F36 m36 (yM F36 λj j j j j j j j j=>rfl) T vM vN vO Kz;have KJ:=ZF F37 m37 (nH F37 λj j j j j j j j=>rfl) T vQ vP KA KC KD;exact ZG ZI T KG KH KI KJ (zO _)
section
variable{α:Type}[DecidableEq α]
def dR(t:List α)(q:α):List α:=if q∈t then t else t++[q]
def cn(t qs:List α):List α:=qs.foldl dR t
theorem KN(t:List α)(q x:α):x∈dR t q↔x∈t\/x=q:=by
 unfold dR;by_cases h:q∈t;.rw[if_pos h];exact⟨.inl,λz=>z.elim id λe=>e▸h⟩
 .rw[if_neg h,List.mem_append,List.mem_singleton]
theorem KO{t:List α}(q:α)(h:t.Nodup):(dR t q).Nodup:=by
 unfold dR;by_cases hq:q∈t;.rw[if_pos hq];exact h
 .rw[if_neg hq,List.nodup_append];refine⟨h,U',λa ha b hb=>?_⟩;rw[List.mem_singleton]at hb;rintro rfl;exact hq (hb▸ha)
theorem A0(qs:List α):∀(t:List α)(x:α),x∈cn t qs↔x∈t\/x∈qs:=by induction qs with|nil=>intro t x;simp[cn]|cons q r ih=>intro t x;show x∈cn (dR t q) r↔_;rw[ih,KN,Wt,or_assoc]
theorem ZJ(qs:List α):∀t:List α,t.Nodup->(cn t qs).Nodup:=by induction qs with|nil=>intro t h;exact h|cons q r ih=>intro t h;exact ih _ (KO q h)
theorem KP(qs:List α):∀t:List α,∃r,cn t qs=t++r:=by induction qs with|nil=>intro t;exact⟨[],#v[cn]⟩|cons q r ih=>
 intro t;obtain⟨s,e⟩:=ih (dR t q);show∃s,cn (dR t q) r=t++s;rw[e];unfold dR;by_cases h:q∈t;.rw[if_pos h];exact⟨s,rfl⟩
 .rw[if_neg h];exact⟨q::s,U'⟩
theorem ZK{t qs:List α}(h:∀q∈qs,q∈t):cn t qs=t:=by induction qs with|nil=>rfl|cons q r ih=>
 show cn (dR t q) r=t;have:dR t q=t:=by unfold dR;rw[if_pos (h q Wl)]
 rw[this];exact ih λx hx=>h x (Wi _ hx)
structure Wk(kids:α->List α)(U t0 t:List α)(m:Nat):Prop where
 nd:t.Nodup
 sub:∀x∈t,x∈U
 pre:∃r,t=t0++r
 le:m<=t.length
 KQ:∀i x,i<m->t[i]?=some x->∀q∈kids x,q∈t
 id:(∀x∈t0,∀q∈kids x,q∈t0)->t=t0
theorem Wk.step{kids:α->List α}{U t0 t:List α}(w:Wk kids U t0 t m)(hU:∀x∈U,∀q∈kids x,q∈U){x:α}(hx:t[m]?=some x):Wk kids U t0 (cn t (kids x)) (m+1):=by
 obtain⟨r,er⟩:=KP (kids x) t;have hm:m<t.length:=(W6.mp hx).1;have xm:x∈t:=Wx hx;refine⟨ZJ _ _ w.nd,λy hy=>?_,?_,by rw[er];simp;lia,λi y hi hy q hq=>?_,λc=>?_⟩
 .rcases(A0 _ _ _).mp hy with hy|hy;.exact w.sub y hy
  .exact hU x (w.sub x xm) y hy
 .obtain⟨r0,e0⟩:=w.pre;exact⟨r0++r,by rw[er,e0,Jl]⟩
 .rw[A0];by_cases e:i=m
  .have:y=x:=by rw[e,er,Qu hm,hx]at hy;exact(WD hy).symm
   rw[this]at hq;exact .inr hq
  .have eG:i<m:=by lia
   rw[er,Qu Y']at hy;exact .inl (w.KQ i y eG hy q hq)
 .have e:=w.id c;rw[e]at xm⊢;exact ZK (c x xm)
theorem Wk.closed{kids:α->List α}{U t0 t:List α}(w:Wk kids U t0 t m)(h:t.length<=m):∀x∈t,∀q∈kids x,q∈t:=λx hx q hq=>by obtain⟨i,hi,rfl⟩:=JQ.mp hx;exact w.KQ i _ Y' (W7 hi) q hq
end
noncomputable abbrev pS(d:D):Option S:=some (.pure d)
noncomputable abbrev pO(d:D):Option S:=some (.own d)
abbrev sD(t:Nat):D:=.str [t]
theorem lu(f:DE)(Z:Dl):aV f Z=(f Z).bind λr W'=>match r.d with|.lst ds=>.ok ds W'|.tup ds=>.ok ds W'|.str x=>.ok (x.map λn=>.str [n]) W'|_=>.stuck:=id rfl
theorem KR(p p':D->D->Option S)(fa fb:DE)(fc:BE)(Z:Dl):jR p p' fa fb fc Z=(fa Z).bind λx W'=>(fb W').bind λy SZ=>(p2 p x.d y.d SZ).bind λz SC=>match z with|.pure (.bl true)=>(fc SC).bind λw PP=>p2 p' y.d w PP|.pure (.bl false)=>.ok (.pure (.bl false)) SC|_=>.stuck:=id rfl
theorem A5{A:Type}{cs:List Nat}{g:DG}{t:DT}{el:DE}(f F:A->D)(p:A->Bool)(Z:Dl):∀(as:List A)(acc:List D),acc.length+as.length<=Wb->(∀a∈as,∃W' SZ x SC,g (.pure (f a)) Z=some W'/\t W'=.ok (p a) SZ/\bp cs SZ=Z/\el SZ=.ok x SC/\bp cs SC=Z/\x.d=F a)->dU cs g t el (as.map f) Z acc=.ok (acc++(as.filter p).map F) Z
 |[],acc,_,_=>#v[dU]|a::r,acc,hl,hs=>by
  obtain⟨W',SZ,x,SC,e1,e2,nt,e3,e4,e5⟩:=hs a Wl;have hV:acc.length<Wb:=by simp at hl;lia
  rw[Wm];unfold dU;rw[e1];cases hp:p a with|true=>have ih:=A5 (cs:=cs) (g:=g) (t:=t) (el:=el) f F p Z r (acc++[x.d]) Re λa ha=>hs a (Wi _ ha);rw[e5]at ih;rw[hp]at e2;simp only[e2,jv,if_true,e3,if_pos hV,e4,e5,ih,List.filter_cons,hp];simp|false=>have ih:=A5 (cs:=cs) (g:=g) (t:=t) (el:=el) f F p Z r acc Re λa ha=>hs a (Wi _ ha);rw[hp]at e2;simp only[e2,jv,nt,ih,List.filter_cons,hp];simp
theorem bQ{a b:DS}(h:a Z=.ok .next W'):aq a b Z=b W':=by unfold aq;rw[h];rfl
theorem jA{a b:DS}(h:a Z=.ok (.ret v) W'):aq a b Z=.ok (.ret v) W':=by unfold aq;rw[h];rfl
theorem du{b:DS}(h:it Z=.ok ds W'):bC it g b Z=forL g b ds W':=by unfold bC;rw[h];rfl
theorem gp{b:DS}{d:D}(h1:g (.pure d) Z=some W')(h2:b W'=.ok .next SZ):forL g b (d::r) Z=forL g b r SZ:=by
 conv=>lhs;unfold forL
 rw[h1];simp only[h2,jv]
theorem forA{A:Type}(f:A->D){b:DS}(I:List A->Dl->Prop)(hs:∀a as Z,I (a::as) Z->∃W',g (.pure (f a)) Z=some W'/\∀y,b W'=y->∃SZ,y=.ok .next SZ/\I as SZ):∀as Z,I as Z->∃S',forL g b (as.map f) Z=.ok .next S'/\I [] S'|[],Z,h=>⟨Z,rfl,h⟩|a::as,Z,h=>by obtain⟨W',e1,h1⟩:=hs a as Z h;obtain⟨SZ,e2,h2⟩:=h1 _ rfl;obtain⟨S',e,h'⟩:=forA f I hs as SZ h2;exact⟨S',(gp e1 e2).trans e,h'⟩
theorem cS{A:Type}(f F:A->D){as:List A}{j:Nat}{np:List Nat}(e:it Os=.ok (as.map f) Z)(hl:as.length<=1000)(hs:∀a∈as,el (Z.set j (pS (f a)))=.ok (.pure (F a)) (Z.set j (pS (f a))))(hj:Z[j]?=some none:=by rfl)(hn:np.contains j=false:=by rfl):cb [j] it (ak np j) cH el Os=.ok (.own (.lst (as.map F))) Z:=by
 obtain⟨h,iB⟩:=W6.mp hj;have c:bp [j] Z=Z:=by show Z.set j none=Z;rw[<-iB];exact List.set_getElem_self h
 have:=cM (cs:=[j]) (g:=ak np j) (t:=cH) (el:=el) f F e hl (λa ha=>⟨_,_,_,_,by rw[c];unfold ak;rw[if_neg (by rw[hn];nofun)],rfl,hs a ha,by rw[c];show(Z.set j (pS (f a))).set j none=Z;rw[List.set_set];exact c,rfl⟩) #v[dj,hj];rw[this,c];show Rs.ok _ (match Z[j]? with|some o=>Z.set j o|none=>Z)=_;rw[hj];exact congrArg _ c
theorem kr{p:D->Option S}{r:S}(e:f Z=.ok v W')(h:p v.d=some r):aF p (ae f) Z=.ok r W':=#v[aF,e,h]
theorem ZL(e:f Z=.ok v W')(h:gO Z i=true)(h1:W'[i]?=some (pO (.lst xs)))(hz:xs.length<=1000):cA i f Z=.ok .next (W'.set i (pO (.lst (xs++[v.d])))):=by
 have:xs.length<Wb:=by rw[jw];lia
 simp[cA,h,e,putL,h1,this]
theorem vT(e:f Z=.ok v Z)(h:gO Z i=true)(h1:Z[i]?=some (pO (.lst xs)))(hz:xs.length<=1000)(h2:Z.set i (pO (.lst (xs++[v.d])))=SZ):cA i f Z=.ok .next SZ:=h2▸ZL e h h1 hz
theorem ku(e:f Z=.ok v W')(h:g v W'=some SZ):az f g Z=.ok .next SZ:=#v[az,e,h]
theorem ZM(n:Nat):dA 0 n=(WI n).map λi:Nat=>D.int i:=#v[dA]
theorem vU(e:f Z=.ok (.pure (.int z)) W')(hz:z=w)(hw:w<=1000):fP f Z=.ok ((WI w).map λi:Nat=>D.int i) W':=by subst hz;rw[VB,e,<-ZM,jv];exact vi w Y' W'
def nx(s:Int):Int:=(((s+7919)%2147483647)*((s+7919)%2147483647)+48271*((s+7919)%2147483647)+12345)%2147483629
theorem ZN(s:Int):pE [.pure (.int s)]=some (.pure (.int (nx s)),[.pure (.int s)]):=by
 unfold pE bt Ip dP;have h1:=Int.emod_nonneg (s+7919) (b:=2147483647) Z';have h2:=Int.emod_lt_of_pos (s+7919) (b:=2147483647) Z';have c1:l7 ((s+7919)%2147483647) ((s+7919)%2147483647)=true:=by unfold l7;simp;lia
 have c2:l7 48271 ((s+7919)%2147483647)=true:=by unfold l7;simp
 simp[cy,bx,az,aj,ck,au,a_,iR,gx,cG,c1,c2,c_,bF];rfl
def cq(d:D):Prop:=∃l f s:Int,d=.lst [.int l,.int f,.int s]/\0<=l
theorem vV{d:D}(hp:cq d)(m:Nat)(h0:0<m)(h1:m<1073741824):∃(r:Nat)(d':D),cO [.own d,.pure (.int m)]=some (.pure (.int r),[.own d',.pure (.int m)])/\r<m/\cq d':=by
 obtain⟨l,f,s,rfl,hl⟩:=hp;have hm:(0:Int)<(m:Int):=by lia
 have hd:l8 l m=true:=by unfold l8;simp;lia
 unfold cO bt Iq dP;by_cases hf:f=1;.subst hf;have e1:=Int.emod_nonneg l (b:=(m:Int)) Y';have e2:=Int.emod_lt_of_pos l hm;refine⟨(l%(m:Int)).toNat,.lst [.int (l/m),.int 1,.int s],?_,Y',⟨_,_,_,rfl,Int.ediv_nonneg hl Y'⟩⟩;simp[cy,bx,az,aj,ck,au,aa,ag,bz,aY,flat,ph,yR,yQ,aD,iR,ig,gx,h0,hd,fF,gO,putL,c_,bF,fA];lia
 .have e1:=Int.emod_nonneg (nx (nx s+7)/64) (b:=(m:Int)) Y';have e2:=Int.emod_lt_of_pos (nx (nx s+7)/64) hm;refine⟨(nx (nx s+7)/64%(m:Int)).toNat,.lst [.int l,.int f,.int (nx (nx s+7))],?_,Y',⟨_,_,_,rfl,hl⟩⟩;simp[cy,bx,az,aj,ck,au,aa,ag,bz,aY,flat,ph,yR,yQ,aD,iR,ig,gx,h0,hd,fF,gO,putL,c_,bF,fA,hf,aB,bo,dj,cL,cf,bD,ZN,a_,ba,l8];lia
theorem ZO(c:Int):∃d,n5 [.pure (.int c)]=some (.own d,[.pure (.int c)])/\cq d:=by unfold n5 bt IC dP;refine⟨.lst [.int (if 0-c>c then 0-c else c),.int (if decide (1000000000000000000<=if 0-c>c then 0-c else c)then 1 else 0),.int ((if 0-c>c then 0-c else c)%1000003)],?_,⟨_,_,_,rfl,by split<;>lia⟩⟩;simp[cy,bx,az,aj,ck,au,aa,xY,m5,gx,oM,xW,jl,ui,xT,iR,c_,bF]
theorem ZP(ns:List Int):∃c:Int,pD [.pure (.lst (ns.map .int)),.pure (.int 0)]=some (.pure (.int c),[.pure (.lst (ns.map .int)),.pure (.int 0)]):=by unfold pD bt Io dP;cases ns with|nil=>exact⟨0,#v[cy,bx,aj,ck,au,gL,jl,aD,bI,c_,bF]⟩|cons n r=>exact⟨n,by
 have:(0:Int)<(r.length:Int)+1:=by lia
 simp[cy,bx,aj,ck,au,gL,jl,aD,bI,c_,bF,ag,ph,this]⟩
theorem vW{d:D}(hp:cq d)(m:Nat)(i:Int)(hi:i=m)(h0:0<m)(h1:m<1073741824):∃(r:Nat)(d':D),cO [.own d,.pure (.int i)]=some (.pure (.int r),[.own d',.pure (.int i)])/\r<m/\cq d':=by subst hi;exact vV hp m h0 h1
def jB(s n:Nat):Tx:=(WI n).map λk=>97+s+k
theorem ZQ:∀s,s<26->∀r,r<26->s+1+r<=26->(mG.drop s).take (1+r)=jB s (1+r):=by decide
theorem ZR{s r:Nat}(h:s+1+r<=26):b_ mG (some (s:Int)) (some ((s:Int)+1+(r:Int)))=jB s (1+r):=by
 rw[<-ZQ s Y' r Y' h];have h1:¬(s:Int)<0:=by lia
 have h2:¬(s:Int)+1+(r:Int)<0:=by lia
 have h3:((s:Int)+1+(r:Int)).toNat=s+1+r:=by lia
 have hl:mG.length=26:=rfl;unfold b_ Lake.aU;simp only[h1,h2,if_false,h3,hl];have e1:min (s:Int).toNat 26=s:=by lia
 have e2:min (s+1+r) 26-min (s:Int).toNat 26=1+r:=by lia
 rw[e1]at e2⊢;rw[e2]
theorem ZS(s n:Nat):(jB s n).length=n:=#v[jB]
theorem ZT(s n:Nat):(jB s n).Pairwise (.<.):=by unfold jB;rw[Ql];exact List.pairwise_lt_range (n:=n).imp λh=>by lia
theorem ZU{s t:Nat}(h:s+n<=26)(ht:t∈jB s n):97<=t/\t<=122:=by simp[jB]at ht;obtain⟨k,hk,rfl⟩:=ht;lia
theorem KS(r h:Nat)(h0:0<h)(h1:h<=1000):ig (.int r) (.int h)=pS (.int ((r/h:Nat):Int)):=by
 have hc:l8 (r:Int) (h:Int)=true:=by unfold l8;simp;lia
 show(if l8 (r:Int) (h:Int)then _ else _)=_;rw[if_pos hc];simp
abbrev rb(M S1:D)(h w al:Nat)(ts:Tx)(pd:D)(bl:List D)(a b c d e:Option S):Dl:=[pO pd,pS M,pS (.str mG),pS (.int h),pS (.int w),pS S1,pS (.str ts),pS (.int al),pO (.lst bl),a,b,c,d,e,none]
abbrev KW:DE:=aj ag 6 (ae (ar ig (aB cO [.io 0,.val (aF bI (au 6))]) (au 7)))
abbrev A6:DS:=aq (az (cb [14] (fP (aa 4)) (ak [0] 14) cH KW) (ak [0] 12)) (cA 10 (aF (eM []) (au 12)))
abbrev KY:DS:=aq (az (dq aN) (ak [0] 10)) (aq (bC (fP (aa 3)) (ak [0] 11) A6) (cA 8 (a7 (aw (aa 9) (aw (aF dt (au 10)) aN)))))
section
variable{M S1:D}{h al:Nat}{ts:Tx}{bl:List D}{a c d e:Option S}(qL:0<ts.length)(u5:ts.length<=26)(A7:0<al)(kP:al<=3)(hw:w<=4)
include qL u5 A7 kP hw
theorem ZV(hf:fl.length<=1000)(hp:cq pd):∃(x:Tx)(bO:D)(d':Option S),A6 (rb M S1 h w al ts pd bl a (pO (.lst (fl.map .str))) c d e)=.ok .next (rb M S1 h w al ts bO bl a (pO (.lst ((fl++[x]).map .str))) c d' e)/\(x.length=w/\∀n∈x,n∈ts)/\cq bO:=by
 obtain⟨xs,S',e1,⟨bO,cm,rfl⟩,hn,hx⟩:=cI (cs:=[14]) (it:=fP (aa 4)) (g:=ak [0] 14) (t:=cH) (el:=KW) (Z:=rb M S1 h w al ts pd bl a (pO (.lst (fl.map .str))) c d e) (vU rfl rfl Y') V' (λZ=>∃pd,cq pd/\Z=rb M S1 h w al ts pd bl a (pO (.lst (fl.map .str))) c d e) (λj x=>∃n,n∈ts/\x=sD n) ⟨pd,hp,rfl⟩ λi _ Z⟨pd,hp,e1⟩=>by subst e1;obtain⟨r,d',g,l,p⟩:=vV hp ts.length qL Y';have hd:=KS r al A7 Y';have bc:r/al<ts.length:=QA (Nat.div_le_self _ _) l;have hx:=vh ts (r/al) bc Y';have ln:=F_ ts Y';refine⟨_,_,.pure (sD (ts.getD (r/al) 0)),(rb M S1 h w al ts d' bl a (pO (.lst (fl.map .str))) c d e).set 14 (pS i),rfl,rfl,?_,⟨d',p,rfl⟩,_,#v[bc],rfl⟩;generalize((r/al:Nat):Int)=q at*;simp[aj,ck,ar,aB,bo,cL,dj,cf,aF,au,ln,bD,g,ba,hd,hx,S.d]
 obtain⟨x,rfl,hxt⟩:=yU (Ga hn hx λj j j h=>h);simp at hn;refine⟨x,bO,pO (.lst (x.map sD)),dQ ?_ (ku e1 rfl),⟨hn,hxt⟩,cm⟩;rw[WO];exact vT (v:=.pure (.str x)) #v[aF,au,F9 x Y',di,S.d] rfl rfl (~~~hf) rfl
theorem ZW(hh:h<=4)(hb:bl.length<=1000)(hp:cq pd)(n:Nat){b:Option S}:∃(fl:List Tx)(bO:D)(b' c' d':Option S),KY (rb M S1 h w al ts pd bl (pS (sD n)) b c d e)=.ok .next (rb M S1 h w al ts bO (bl++[bG (n,fl)]) (pS (sD n)) b' c' d' e)/\(fl.length=h/\∀r∈fl,r.length=w/\∀n∈r,n∈ts)/\cq bO:=by obtain⟨S',e1,bO,fl,c',d',cm,h1,h2,rfl⟩:=forA (λi:Nat=>D.int i) (g:=ak [0] 11) (b:=A6) (λas Z=>∃(pd:D)(fl:List Tx)(c d:Option S),cq pd/\fl.length+as.length=h/\(∀r∈fl,r.length=w/\∀n∈r,n∈ts)/\Z=rb M S1 h w al ts pd bl (pS (sD n)) (pO (.lst (fl.map .str))) c d e) (λi as Z hh=>by obtain⟨pd,fl,c,d,hp,h1,h2,e1⟩:=hh;subst e1;simp at h1;obtain⟨x,bO,d',e1,hx,cm⟩:=ZV (M:=M) (S1:=S1) (h:=h) (bl:=bl) (a:=pS (sD n)) (c:=pS (.int i)) (d:=d) (e:=e) qL u5 A7 kP hw (fl:=fl) Y' hp;exact⟨_,rfl,λy hy=>⟨_,hy.symm.trans e1,bO,_,_,_,cm,by simp;lia,λr hr=>(Qe.mp hr).elim (h2 r) λhr=>QN.mp hr▸hx,rfl⟩⟩) (WI h) (rb M S1 h w al ts pd bl (pS (sD n)) (pO (.lst [])) c d e) ⟨pd,[],c,d,hp,U',nofun,rfl⟩;refine⟨fl,bO,pO (.lst (fl.map .str)),c',d',dQ (dQ ?_ ((du (it:=fP (aa 3)) (vU rfl rfl Y')).trans e1)) rfl,⟨~~~h1,h2⟩,cm⟩;exact vT (v:=.pure (bG (n,fl))) #v[aF,au,aa,dt,S.d,bG] rfl rfl hb rfl
end
def Hid(p:Prop):Prop:=p
theorem KZ(i j:Int):∃b,bz (.int i) (.int j)=pS (.bl b)/\Hid (b=true↔i=j):=⟨decide (i=j),by by_cases h:i=j<;>simp[bz,flat,aY,h],decide_eq_true_iff⟩
abbrev sh:List (Nat×Nat):=[(2,2),(1,2),(2,1),(2,2),(1,3),(2,3),(3,1),(3,2),(4,4),(2,2)]
theorem ZX(r:Nat)(hr:r<10):∃h w:Nat,ag (.lst (sh.map λp=>.tup [.int p.1,.int p.2])) (.int r)=pS (.tup [.int h,.int w])/\0<h/\h<=4/\0<w/\w<=4/\2<h+w:=by have hl:r<sh.length:=hr;exact⟨sh[r].1,sh[r].2,by simp only[ag,k6,Wj,W7 hl];rfl,(by decide:∀p∈sh,0<p.1/\p.1<=4/\0<p.2/\p.2<=4/\2<p.1+p.2) _ (QK hl)⟩
theorem K0{α:Type}(x:List α):b_ x (some 1) none=x.tail:=by unfold b_ Lake.aU;cases x<;>simp
theorem K1(x:Tx)(h:x.length<=1000):dG (some 1) none (.str x)=pS (.str x.tail):=by unfold dG;simp only[K0];rw[if_pos (by rw[jw];lia)]
theorem K2(ds:List D):dG (some 1) none (.tup ds)=pS (.tup ds.tail):=by show some (S.pure (.tup (b_ ds (some 1) none)))=_;rw[K0]
theorem add_str(x y:Tx)(h:x.length+y.length<=100000):a_ (.str x) (.str y)=pS (.str (x++y)):=by simp only[a_];rw[if_pos (by rw[jw];lia)]
theorem vX(x y:List D)(h:x.length+y.length<=1000):a_ (.tup x) (.tup y)=pS (.tup (x++y)):=by simp only[a_];rw[if_pos (by rw[jw];lia)]
theorem A8(x:D)(xs:List D):ag (.tup (x::xs)) (.int 0)=pS x/\ag (.lst (x::xs)) (.int 0)=pS x:=#v[ag,ph]
theorem K3{h:Nat}{bs:List (Nat×List Tx)}(R:cC h w bs):∃n r q l,bs=(n,r::q)::l/\l.length<26/\cC h w ((n,(n::r.tail)::q)::l)/\ag (bu (r::q)) (.int 0)=pS (.str r)/\dG (some 1) none (.str r)=pS (.str r.tail)/\a_ (sD n) (.str r.tail)=pS (.str (n::r.tail))/\dG (some 1) none (bu (r::q))=pS (.tup (q.map .str))/\a_ (.tup [.str (n::r.tail)]) (.tup (q.map .str))=pS (bu ((n::r.tail)::q)):=by have hh:=R.h0;have n0:=R.n0;match bs,R with
 |[],_=>simp at n0|(n,[])::l,R=>have:=(R.bE _ (.head _)).1;simp at this;lia|(n,r::q)::l,R=>
  have h1:=R.h1;have w1:=R.w1;have w0:=R.w0;have n1:=R.n1;have rb:=R.bE _ (.head _);have lr:=rb.2 r (.head _);have lq:q.length+1=h:= ~~~rb.1;have fx:∀b∈(n,(n::r.tail)::q)::l,∃b'∈(n,r::q)::l,b'.1=b.1/\(b.2.length=h/\∀r∈b.2,r.length=w/\∀m∈r,m∈n::l.map (·.1)):=λb hb=>by
   rcases Wt.mp hb with rfl|hb
   .refine⟨_,.head _,rfl,rb.1,λx hx=>?_⟩;rcases Wt.mp hx with rfl|hx;.exact⟨by simp;lia,λm hm=>(Wt.mp hm).elim (λe=>e▸.head _) λhm=>lr.2 m (List.mem_of_mem_tail hm)⟩
    .exact rb.2 x (.tail _ hx)
   .exact⟨b,.tail _ hb,rfl,R.bE b (.tail _ hb)⟩
  exact⟨n,r,q,l,rfl,n1,⟨hh,h1,w0,w1,R.hw,n0,n1,R.up,λb hb=>by obtain⟨b',h',e,_⟩:=fx b hb;exact e▸R.qV b' h',λb hb=>(fx b hb).elim λj z=>z.2.2⟩,(A8 _ _).1,K1 r Y',add_str [n] _ V',K2 _,vX [.str (n::r.tail)] _ V'⟩
theorem ZY{d:D}(hp:cq d)(m:Nat)(A9:0<m)(vd:m<=26):∃(h w:Nat)(bs:List (Nat×List Tx))(d':D),rV [.own d,.pure (.int m)]=some (.pure (aJ h w bs),[.own d',.pure (.int m)])/\cC h w bs/\bs.length<=m/\cq d':=by
 obtain⟨r1,d1,e1,l1,p1⟩:=vW hp 10 10 rfl Z' Z';obtain⟨h,w,hx,h0,h1,w0,w1,hw⟩:=ZX r1 l1;obtain⟨s,d2,e2,l2,p2⟩:=vW p1 (27-m) (27-(m:Int)) Y' Y' Y';obtain⟨r3,d3,e3,l3,p3⟩:=vV p2 m A9 Y';obtain⟨al,d4,e4,l4,p4⟩:=vW p3 3 3 rfl Z' Z';have hc:=ZR (s:=s) (r:=r3) Y';have hlen:=ZS s (1+r3);have ik:=ZT s (1+r3);have K4:∀t∈jB s (1+r3),97<=t/\t<=122:=λt ht=>ZU Y' ht;have yg:dG (some (s:Int)) (some ((s:Int)+1+(r3:Int))) (.str mG)=pS (.str (jB s (1+r3))):=by rw[<-hc];rfl
 generalize jB s (1+r3)=ts at yg hlen ik K4;obtain⟨S',e5,d5,bs,a,b,c,e,p5,h3,h4,rfl⟩:=forA sD (g:=ak [0] 9) (b:=KY) (λas Z=>∃(pd:D)(bs:List (Nat×List Tx))(a b c d:Option S),cq pd/\bs.map (·.1)++as=ts/\(∀b∈bs,b.2.length=h/\∀r∈b.2,r.length=w/\∀n∈r,n∈ts)/\Z=rb (.int m) (.int s) h w (1+al) ts pd (bs.map bG) a b c d none) (λn as Z hh=>by obtain⟨pd,bs,a,b,c,d,hp,h3,h4,e⟩:=hh;subst e;have hl:=congrArg Qf h3;simp at hl;obtain⟨fl,bO,b',c',d',e,hf,cm⟩:=ZW (M:=.int m) (S1:=.int s) (h:=h) (w:=w) (al:=1+al) (ts:=ts) (bl:=bs.map bG) (b:=b) (c:=c) (d:=d) (e:=none) Y' Y' Y' Y' w1 h1 V' hp n;exact⟨_,rfl,λy hy=>⟨_,hy.symm.trans e,bO,bs++[(n,fl)],_,_,_,_,cm,~~~h3,λb hb=>(Qe.mp hb).elim (h4 b) λhb=>QN.mp hb▸hf,by rw[WO];rfl⟩⟩) ts (rb (.int m) (.int s) h w (1+al) ts d4 [] none none none none none) ⟨d4,[],none,none,none,none,p4,rfl,nofun,rfl⟩;rw[WU]at h3;have K5:=congrArg Qf h3;simp at K5;have R:cC h w bs:=⟨h0,h1,w0,w1,hw,Y',Y',%[h3|ik],λb hb=>K4 _ (by rw[<-h3];exact Qj hb),λb hb=>%[h3|h4 b hb]⟩;obtain⟨r6,d6,e6,l6,p6⟩:=vW p5 2 2 rfl Z' Z';obtain⟨b6,c6,-⟩:=KZ r6 0;unfold rV Ir;simp at hx;have e6:=(du (it:=aV (aa 6)) (Z:=rb (.int m) (.int s) h w (1+al) ts d4 [] none none none none none) rfl).trans e5
 cases b6 with|true=>
 obtain⟨n,r,q,l,rfl,hl,R',z0,z1,z2,z3,z4⟩:=K3 R;refine⟨h,w,_,d6,gR (W':=rb (.int m) (.int s) h w (1+al) ts d6 (((n,(n::r.tail)::q)::l).map bG) (pS (sD n)) b c e (pS (bu (r::q)))) ?_ rfl rfl,R',by simp at K5⊢;lia,p6⟩;iterate 6 refine dQ ?_ dD
 refine dQ ?_ e6;refine zA ?_ dD;have i0:ag (.lst (bG (n,r::q)::l.map bG)) (.int 0)=pS (.tup [sD n,bu (r::q)]):=(A8 _ _).2;refine zD (dQ ?_ dD);have i1:∀k:Nat,fA (k+1) 0=some 0:=λk=>#v[fA];exact dQ rfl dD|false=>
 refine⟨h,w,bs,d6,gR (W':=rb (.int m) (.int s) h w (1+al) ts d6 (bs.map bG) a b c e none) ?_ rfl rfl,R,Y',p6⟩;iterate 6 refine dQ ?_ dD
 refine dQ ?_ e6;refine zB (zC rfl) dD
theorem vY{A B J:Type}{b:DS}(A_:A->D)(mk:B->J->Dl)(f:B->A->B)(P:B->Prop)(Q:A->Prop)(hf:∀x a,P x->Q a->P (f x a))(step:∀x j a,P x->Q a->∃W' j',g (.pure (A_ a)) (mk x j)=some W'/\b W'=.ok .next (mk (f x a) j')):∀(as:List A)(x:B)(j:J),P x->(∀a∈as,Q a)->∃j',forL g b (as.map A_) (mk x j)=.ok .next (mk (as.foldl f x) j')/\P (as.foldl f x)|[],x,j,hp,_=>⟨j,rfl,hp⟩|a::r,x,j,hp,hq=>by obtain⟨W',j',e1,e2⟩:=step x j a hp (hq a Wl);obtain⟨j'',e3,h3⟩:=vY A_ mk f P Q hf step r (f x a) j' (hf x a hp (hq a Wl)) λb hb=>hq b (Wi _ hb);refine⟨j'',?_,h3⟩;rw[Wm];unfold forL;rw[e1];simp only[e2,jv,e3];rfl
theorem ZZ(n:Nat):dA 0 n=(WI n).map λk:Nat=>D.int (k:Int):=#v[dA]
theorem mul_int(i j:Int)(h0:0<=j)(h1:j<=1000):cG (.int i) (.int j)=some (.pure (.int (i*j))):=by
 unfold cG gx;have:l7 i j=true:=by unfold l7;simp;lia
 simp only[this,if_true]
theorem gt_int(i j:Int):gM (.int i) (.int j)=some (.pure (.bl (decide (j<i)))):=rfl
theorem pM(i j:Int):bz (.int i) (.int j)=some (.pure (.bl (i==j))):=rfl
theorem kz(np:List Nat)(n:Nat)(b:DS)(ss:List S):bt np n b ss=if cy np 0 ss then match b (bx n ss)with|.ok fl Z=>(c_ fl).bind λr=>(bF 0 ss Z).map λaC=>(r,aC)|_=>none else none:=rfl
def cJ(bs:List (Nat×List Tx)):D:=.bV (bs.map λb=>(Sum.inr [b.1],bu b.2))
theorem K6:∀bs:List (Nat×List Tx),g0 (bs.map bG)=some (bs.map λb=>(Sum.inr [b.1],bu b.2))|[]=>rfl|b::r=>by have:=K6 r;simp only[Wm];simp[g0,eQ,this]
theorem vZ:∀(kps acc:List (bU×D)),((acc++kps).map (·.1)).Nodup->ni kps acc=acc++kps
 |[],acc,_=>#v[ni]|p::r,acc,h=>by
  have hn:(acc.any λkv=>decide (kv.1=p.1))=false:=by rw[List.any_eq_false];intro kv hkv;simp only[decide_eq_true_eq];intro e;rw[WO,List.nodup_append]at h;exact h.2.2 kv.1 (Qj hkv) p.1 (Qj Wl) e
  have hp:putD acc p.1 p.2=acc++[p]:=by unfold putD;rw[hn];simp
  show ni r (putD acc p.1 p.2)=_;rw[hp,vZ r (acc++[p]) (~~~h)];simp
theorem si{h:Nat}{bs:List (Nat×List Tx)}(R:cC h w bs):cN (.tup (bs.map bG))=some (.own (cJ bs)):=by
 unfold cN;simp only[K6,Wu,Wa];have hz:Wb=16777216:=rfl;rw[if_pos (by have:=R.n1;lia),vZ];.rfl
 .simp only[Qv,WV];rw[List.nodup_iff_pairwise_ne,Ql];have:=R.up;rw[Ql]at this;exact this.imp λ{a b}lX=>by simp;lia
def bE(bs:List (Nat×List Tx))(n:Nat):List Tx:=((bs.find? λb=>decide (b.1=n)).map (·.2)).getD []
theorem n_{bs:List (Nat×List Tx)}(h:n∈bs.map (·.1)):∃b∈bs,b.1=n/\(bs.find? λb=>decide (b.1=n))=some b/\bE bs n=b.2:=by cases e:bs.find? λb=>decide (b.1=n)with|none=>obtain⟨b,hb,rfl⟩:=WH.mp h;have:=List.find?_eq_none.mp e b hb;simp at this|some b=>have h1:=List.mem_of_find?_eq_some e;have h2:=List.find?_some e;refine⟨b,h1,~~~h2,rfl,?_⟩;unfold bE;rw[e];rfl
theorem K7(bs:List (Nat×List Tx))(n:Nat):dH (bs.map λb=>((Sum.inr [b.1]:bU),bu b.2)) (.inr [n])=(bs.find? λb=>decide (b.1=n)).map λb=>bu b.2:=by unfold dH;rw[List.find?_map];simp[Function.comp_def]
theorem sj{bs:List (Nat×List Tx)}(h:n∈bs.map (·.1)):cg (cJ bs) (.str [n])=some (.pure (bu (bE bs n))):=by obtain⟨b,hb,_,e,e2⟩:=n_ h;show((eQ (.str [n])).bind λk=>(dH (bs.map λb=>((Sum.inr [b.1]:bU),bu b.2)) k).map S.pure)=_;simp only[eQ,Wu,K7,e,WE,e2]
theorem Z0{bs:List (Nat×List Tx)}(h:n∈bs.map (·.1)):gk true (.str [n]) (cJ bs)=some (.pure (.bl false)):=by obtain⟨b,hb,_,e,e2⟩:=n_ h;show((eQ (.str [n])).map λk=>S.pure (.bl (if true then !(dH (bs.map λb=>((Sum.inr [b.1]:bU),bu b.2)) k).isSome else(dH (bs.map λb=>((Sum.inr [b.1]:bU),bu b.2)) k).isSome)))=_;simp only[eQ,WE,K7,e,WE];rfl
theorem K8(h:Nat):∀(as:List Nat)(x:Nat),as.foldl (λx j=>x*h) x=x*h^as.length|[],x=>by simp|a::r,x=>by rw[U0,K8 h r,WT,Nat.pow_succ,Nat.mul_assoc,Nat.mul_comm h]
theorem v3(h t:Nat)(h1:h<=1000)(t1:t<=1000):lh [.pure (.int 1),.pure (.int h),.pure (.int t)]=some (.pure (.int ((h^t:Nat):Int)),[.pure (.int 1),.pure (.int h),.pure (.int t)]):=by rw[lh,kz,IE];obtain⟨j',e,_⟩:=vY (g:=ak [] 3) (b:=az (aj cG 0 (au 1)) (ak [] 0)) (λk:Nat=>D.int (k:Int)) (λ(x:Nat)(j:Option S)=>[some (.pure (.int (x:Int))),some (.pure (.int h)),some (.pure (.int t)),j]) (λx y=>x*h) (λy=>True) (λy=>True) (λy y y y=>trivial) (λx j a y y=>⟨_,some (.pure (.int a)),rfl,by have:=mul_int x h Y' Y';simp[az,aj,ck,au,this]⟩) (WI t) 1 none trivial λy y=>trivial;rw[K8,Jk,Nat.one_mul,<-ZZ]at e;simp[cy,bx,aa,vi t Y'];simp only[Int.natCast_one]at e;rw[e];simp[aa,c_,bF]
theorem jC(h w:Nat)(bs:List (Nat×List Tx)):ag (aJ h w bs) (.int 0)=some (.pure (.int h))/\ag (aJ h w bs) (.int 1)=some (.pure (.int w))/\ag (aJ h w bs) (.int 2)=some (.pure (.tup (bs.map bG))):=by
 refine⟨?_,?_,?_⟩;.simp[ag,ph]
 .simp[ag,yR]
 .simp[ag,yQ]
abbrev fg(n:Nat):D:=.str [n]
def K9(GD:DF):Prop:=∀(d:D)(m:Nat),cq d->0<m->m<1073741824->∃(r:Nat)(d':D),GD [.own d,.pure (.int m)]=some (.pure (.int r),[.own d',.pure (.int m)])/\r<m/\cq d'
theorem K_:K9 cO:=λd m hp h0 h1=>vV hp m h0 h1
theorem Ba{h:Nat}{bs:List (Nat×List Tx)}(R:cC h w bs):kj [.pure (aJ h w bs)]=some (.own (.lst ((bs.map (·.1)).map fg)),[.pure (aJ h w bs)]):=by have x2:=(jC h w bs).2.2;have hn:=R.n1;generalize aJ h w bs=ru at*;have e:=pj (cs:=[1,2]) (g:=bR 2 (aT (ak [] 1) (aT (ak [] 2) bX))) (t:=cH) (el:=aa 1) bG (λb:Nat×List Tx=>fg b.1) [some (.pure ru),none,none] bs [] (by rw[jw];simp;lia) λb hb=>⟨_,_,.pure (fg b.1),[some (.pure ru),some (.pure (fg b.1)),some (.pure (bu b.2))],rfl,rfl,rfl,rfl,rfl⟩;rw[kj,kz,Iv];simp[cy,bx,aj,ck,au,x2,lu,dj,bp];rw[e];simp[di,c_,bF,Function.comp_def]
def fZ(bs:List (Nat×List Tx))(l:Nat)(row:Tx):Tx:=(row.map λn=>(bE bs n).getD l []).flatten
def layR(h:Nat)(bs:List (Nat×List Tx))(row:Tx):List Tx:=(WI h).map λl=>fZ bs l row
def lay(h:Nat)(bs:List (Nat×List Tx))(fl:List Tx):List Tx:=fl.flatMap (layR h bs)
structure og(bs:List (Nat×List Tx))(R C:Nat)(fl:List Tx):Prop where
 rows:fl.length=R
 cols:∀r∈fl,r.length=C
 tl:∀r∈fl,∀n∈r,n∈bs.map (·.1)
theorem v7{h l:Nat}{bs:List (Nat×List Tx)}(R:cC h w bs)(hn:n∈bs.map (·.1))(hl:l<h):((bE bs n).getD l []).length=w/\(∀k∈(bE bs n).getD l [],k∈bs.map (·.1))/\ag (bu (bE bs n)) (.int l)=some (.pure (.str ((bE bs n).getD l []))):=by
 obtain⟨b,hb,_,_,e2⟩:=n_ hn;have hB:=R.bE b hb;have eG:l<b.2.length:=by lia
 have hm:b.2.getD l []∈b.2:=by rw[Ji,W7 eG];exact QK eG
 have hr:=hB.2 _ hm;rw[e2];exact⟨hr.1,hr.2,#v[ag,k6,eG]⟩
theorem v8{h l:Nat}{bs:List (Nat×List Tx)}(R:cC h w bs)(hl:l<h):∀row:Tx,(∀n∈row,n∈bs.map (·.1))->(fZ bs l row).length=row.length*w/\∀k∈fZ bs l row,k∈bs.map (·.1)
 |[],_=>#v[fZ]|n::r,h'=>by
  have ih:=v8 R hl r λk hk=>h' k (Wi _ hk);have h1:=v7 R (h' n Wl) hl;have e:fZ bs l (n::r)=(bE bs n).getD l []++fZ bs l r:=rfl;rw[e];refine⟨by rw[Q6,h1.1,ih.1,WT,Ug,Nat.add_comm],λk hk=>?_⟩;rcases Qe.mp hk with hk|hk;.exact h1.2.1 k hk
  .exact ih.2 k hk
theorem Bb{h:Nat}{bs:List (Nat×List Tx)}(R:cC h w bs){A:Nat}(F:og bs A C fl):og bs (A*h) (C*w) (lay h bs fl):=by
 refine⟨?_,λr hr=>?_,λr hr=>?_⟩;.rw[<-F.rows];clear F;induction fl with|nil=>simp[lay]|cons x q ih=>have e:lay h bs (x::q)=layR h bs x++lay h bs q:=rfl;rw[e,Q6,ih,WT,Ug];simp[layR,Nat.add_comm]
 .simp only[lay,List.mem_flatMap,layR,List.mem_map,List.mem_range]at hr;obtain⟨x,hx,l,hl,rfl⟩:=hr;rw[(v8 R hl x (F.tl x hx)).1,F.cols x hx]
 .simp only[lay,List.mem_flatMap,layR,List.mem_map,List.mem_range]at hr;obtain⟨x,hx,l,hl,rfl⟩:=hr;exact(v8 R hl x (F.tl x hx)).2
theorem La(xs:List Tx)(m:Nat)(h:∀x∈xs,x.length<=m):ij xs<=xs.length*m:=by induction xs with|nil=>simp[ij]|cons x r ih=>have h1:=h x Wl;have h2:=ih λy hy=>h y (Wi _ hy);have e:ij (x::r)=x.length+ij r:=#v[ij];rw[e,WT,Ug];lia
theorem Z3(xs:List Tx)(h:ij xs<=16777216):eM [] (.lst (xs.map .str))=some (.pure (.str xs.flatten)):=by unfold eM;simp only[yT,vg];rw[if_pos (~~~h)]
theorem Z4{A:Type}(g:A->Tx)(xs:List A)(m:Nat)(h:∀x∈xs,(g x).length<=m)(hm:xs.length*m<=16777216):eM [] (.lst (xs.map λx=>.str (g x)))=pS (.str (xs.map g).flatten):=by have:=La (xs.map g) m λy hy=>(WH.mp hy).elim λx hx=>hx.2▸h x hx.1;rw[Wa]at this;have e:=Z3 (xs.map g) (Wy this hm);rw[WV]at e;exact e
abbrev lC:DE:=cb [6] (aV (aa 4)) (ak [] 6) cH (ar ag (aj cg 0 (au 6)) (au 5))
abbrev lS(UV X:D)(h:Nat)(acc:List Tx)(a b:Option S):Dl:=[pS UV,pS (.int h),pS X,pO (.lst (acc.map .str)),a,b,none]
abbrev lB:DS:=bC (fP (aa 1)) (ak [] 5) (cA 3 (aF (eM []) (ae lC)))
theorem Lb{h:Nat}{bs:List (Nat×List Tx)}(R:cC h w bs){A:Nat}(F:og bs A C fl)(hA:A<=100):(lay h bs fl).length<=400:=by rw[(Bb R F).rows];exact QD hA R.h1
theorem Z5{h:Nat}{bs:List (Nat×List Tx)}(R:cC h w bs){A:Nat}(F:og bs A C fl)(hA:A<=100)(hC:C<=1000):mD [.pure (cJ bs),.pure (.int h),.pure (bu fl)]=some (.pure (bu (lay h bs fl)),[.pure (cJ bs),.pure (.int h),.pure (bu fl)]):=by
 have h1:=R.h1;have w1:=R.w1;have hl:=Lb R F hA;obtain⟨S',e,acc,a,b,h2,-,rfl⟩:=forA D.str (g:=ak [] 4) (b:=lB) (λas Z=>∃acc a b,acc++lay h bs as=lay h bs fl/\(∀r∈as,r∈fl)/\Z=lS (cJ bs) (bu fl) h acc a b) λrow as Z hh=>by obtain⟨acc,a,b,h2,h3,e⟩:=hh;subst e;have hr:=h3 row (.head _);have e0:lay h bs (row::as)=layR h bs row++lay h bs as:=rfl;rw[e0,<-Jl]at h2;obtain⟨S',e,acc',b',h4,-,rfl⟩:=forA (λl:Nat=>D.int l) (g:=ak [] 5) (b:=cA 3 (aF (eM []) (ae lC))) (λls Z=>∃acc' b,acc'++(ls.map λl=>fZ bs l row)=acc++layR h bs row/\(∀l∈ls,l<h)/\Z=lS (cJ bs) (bu fl) h acc' (pS (.str row)) b) (λl ls Z hh=>by
 obtain⟨acc',b,h4,h5,e⟩:=hh
 subst e;have hh:=h5 l (.head _);have ec:=cS (j:=6) (np:=[]) (it:=aV (aa 4)) (el:=ar ag (aj cg 0 (au 6)) (au 5)) sD (λn=>.str ((bE bs n).getD l [])) (Os:=lS (cJ bs) (bu fl) h acc' (pS (.str row)) (pS (.int l))) (as:=row) rfl %[F.cols row hr|hC] λn hn=>by have y1:=sj (F.tl row hr n hn);have y2:=(v7 R (F.tl row hr n hn) hh).2.2;generalize D.str ((bE bs n).getD l [])=X,bu (bE bs n)=M',cJ bs=UV at*;simp[ar,aj,ck,au,y1,y2,S.d]
 have hj:=Z4 (λn=>(bE bs n).getD l []) row w (λn hn=>Nat.le_of_eq (v7 R (F.tl row hr n hn) hh).1) %[F.cols row hr|Wy (QD hC w1) Z'];have hz:=congrArg Qf h4;have hy:=congrArg Qf h2;simp at hz hy;refine⟨_,rfl,λy kX=>⟨_,kX.symm.trans (vT (kr ec hj) rfl rfl V' rfl),acc'++[fZ bs l row],pS (.int l),~~~h4,λx hx=>h5 x (.tail _ hx),by simp only[lS,WO];rfl⟩⟩) (WI h) (lS (cJ bs) (bu fl) h acc (pS (.str row)) b) ⟨acc,b,rfl,λl hl=>List.mem_range.mp hl,rfl⟩;refine⟨_,rfl,λy hy=>⟨_,hy.symm.trans ((du (it:=fP (aa 1)) (vU rfl rfl Y')).trans e),acc',_,b',?_,λr hr=>h3 r (.tail _ hr),rfl⟩⟩;rw[<-h2,<-h4];simp fl (lS (cJ bs) (bu fl) h [] none none) ⟨[],none,none,rfl,λk z=>z,rfl⟩;have h5:acc=lay h bs fl:=by simpa[lay]using h2
 subst h5;unfold mD IK;exact gR (W':=lS (cJ bs) (bu fl) h (lay h bs fl) a b) (dQ (dQ rfl ((du (it:=aV (aa 2)) (Z:=lS (cJ bs) (bu fl) h [] none none) rfl).trans e)) rfl) rfl rfl
theorem v9{b:DS}{x:D}(e:b (bx n [.pure x])=.ok (.ret v) W'):bt [] n b [.pure x]=some (v,[.pure x]):=by rw[kz,e];rfl
theorem fj{b:DS}{x:D}(e:b (bx n [.pure x,.pure y])=.ok (.ret v) W'):bt [] n b [.pure x,.pure y]=some (v,[.pure x,.pure y]):=by rw[kz,e];rfl
theorem Lc{b:DS}{x z:D}(e:b (bx n [.pure x,.pure y,.pure z])=.ok (.ret v) W'):bt [] n b [.pure x,.pure y,.pure z]=some (v,[.pure x,.pure y,.pure z]):=by rw[kz,e];rfl
theorem Z6{b:DS}{x:D}(e:b (bx n [.pure x,.pure y])=.ok .next W'):bt [] n b [.pure x,.pure y]=some (.pure .ax,[.pure x,.pure y]):=by rw[kz,e];rfl
theorem Z7{b:DS}{x z:D}(e:b (bx n [.pure x,.pure y,.pure z])=.ok .next W'):bt [] n b [.pure x,.pure y,.pure z]=some (.pure .ax,[.pure x,.pure y,.pure z]):=by rw[kz,e];rfl
theorem Z8{bs:List (Nat×List Tx)}(hn:n∈bs.map (·.1)):rZ [.pure (cJ bs),.pure (.tup [.str [n]])]=some (.pure .ax,[.pure (cJ bs),.pure (.tup [.str [n]])]):=by
 have j:eM [] (.tup [.str [n]])=some (.pure (.str [n])):=rfl;have q:=Z0 hn;rw[rZ,II];generalize cJ bs=DB at*;refine Z6 (W':=[some (.pure DB),some (.pure (.tup [.str [n]])),some (.pure (.str [n]))]) ?_;generalize D.tup [.str [n]]=F at*;have i:aV (aF (eM []) (au 1)) [some (.pure DB),some (.pure F),none]=.ok [.str [n]] [some (.pure DB),some (.pure F),none]:=by simp[lu,au,j]
 refine(du i).trans ?_;rw[gp (W':=[some (.pure DB),some (.pure F),some (.pure (.str [n]))]) (SZ:=[some (.pure DB),some (.pure F),some (.pure (.str [n]))]) rfl (by generalize D.str [n]=z at*;simp[aD,aa,au,q,S.d])];rfl
theorem Z9{a b:Nat}(ha:a<=64)(hb:b<=64):r8 [.pure (.int (a:Int)),.pure (.int (b:Int)),.pure (.int 64)]=some (.pure .ax,[.pure (.int (a:Int)),.pure (.int (b:Int)),.pure (.int 64)]):=by have q1:=gt_int (a:Int) 64;have q2:=gt_int (b:Int) 64;rw[decide_eq_false Y']at q1 q2;rw[r8,IJ];refine Z7 (W':=[some (.pure (.int (a:Int))),some (.pure (.int (b:Int))),some (.pure (.int 64))]) ?_;generalize(a:Int)=x at*;generalize(b:Int)=y at*;rw[bQ (W':=[some (.pure (.int x)),some (.pure (.int y)),some (.pure (.int 64))]) #v[bx,aD,aj,ck,au,q1]];simp[aD,aj,ck,au,q2]
def iE(h:Nat)(bs:List (Nat×List Tx)):Nat->List Tx->List Tx|0,fl=>fl|k+1,fl=>lay h bs (iE h bs k fl)
theorem Bc{h:Nat}{bs:List (Nat×List Tx)}(R:cC h w bs)(hn:n∈bs.map (·.1)):∀k,og bs (h^k) (w^k) (iE h bs k [[n]])
 |0=>⟨rfl,λr hr=>by
 have hr:r=[n]:=by simpa[iE]using hr
 rw[hr];rfl,λr hr m hm=>by
 have hr:r=[n]:=by simpa[iE]using hr
 rw[hr]at hm;have hm:m=n:= ~~~hm;rw[hm];exact hn⟩|k+1=>by have:=Bb R (Bc R hn k);rw[Nat.pow_succ,Nat.pow_succ];exact this
abbrev o9(ru F:D)(t:Int)(h w:Int)(BD:D)(s6:S)(o7 o8:Option S):Dl:=[some (.pure ru),some (.pure F),some (.pure (.int t)),some (.pure (.int h)),some (.pure (.int w)),some (.pure BD),some s6,o7,o8]
theorem pN(a k:Nat)(ha:a<=4)(hk:k<=2):a^k<=64:=Wy (Nat.pow_le_pow_left ha k) (Wy (Nat.pow_le_pow_right Z' hk) Z')
theorem Z_{h:Nat}{bs:List (Nat×List Tx)}(R:cC h w bs){t:Nat}(hn:n∈bs.map (·.1))(ht:t<=2)(h4:h<=4)(w4:w<=4):∃o8,forL (ak [] 8) (az (aB mD [.val (aa 6),.val (aa 3),.val (aa 7)]) (ak [] 7)) (dA 0 t) (o9 (aJ h w bs) (.tup [.str [n]]) t h w (.tup (bs.map bG)) (.pure (cJ bs)) (some (.pure (.tup [.str [n]]))) none)=.ok .next (o9 (aJ h w bs) (.tup [.str [n]]) t h w (.tup (bs.map bG)) (.pure (cJ bs)) (some (.pure (bu (iE h bs t [[n]])))) o8):=by
 obtain⟨S',e,I⟩:=vf (g:=ak [] 8) (b:=az (aB mD [.val (aa 6),.val (aa 3),.val (aa 7)]) (ak [] 7)) (λi Z=>i<=t->∃o8,Z=o9 (aJ h w bs) (.tup [.str [n]]) t h w (.tup (bs.map bG)) (.pure (cJ bs)) (some (.pure (bu (iE h bs i [[n]])))) o8) (dA 0 t) 0 _ (λj=>⟨none,rfl⟩) λi d Z hd I=>by
   have hi:i<t:=by have:=(W6.mp hd).1;simpa[dA]using this
   rw[U6]at I⊢;obtain⟨o8,rfl⟩:=I Y';have rl:=Z5 R (Bc R hn i) (Wy (pN h i h4 Y') Z') (Wy (pN w i w4 Y') Z');refine⟨_,_,rfl,?_,λj=>⟨some (.pure d),rfl⟩⟩;show _=Rs.ok Fl.next (o9 (aJ h w bs) (.tup [.str [n]]) t h w (.tup (bs.map bG)) (.pure (cJ bs)) (some (.pure (bu (lay h bs (iE h bs i [[n]]))))) (some (.pure d)));generalize bu (lay h bs (iE h bs i [[n]]))=F2 at*;generalize bu (iE h bs i [[n]])=F1 at*;generalize aJ h w bs=ru at*;generalize cJ bs=DB at*;generalize D.tup (bs.map bG)=BD at*;generalize D.tup [.str [n]]=F at*;generalize(h:Int)=hz at*;generalize mD=GL at*;simp[az,aB,bo,cL,cf,aa,bD,rl,ba,S.d]
 have hl:(dA 0 t).length=t:=#v[dA];rw[U6,hl]at I;obtain⟨o8,rfl⟩:=I (Wc _);exact⟨o8,e⟩
theorem zde{F:D}{t h w:Int}(db:cN BD=some (.own DB)):az (aF cN (au 5)) (ak [] 6) [some (.pure ru),some (.pure F),some (.pure (.int t)),some (.pure (.int h)),some (.pure (.int w)),some (.pure BD),none,none,none]=.ok .next (o9 ru F t h w BD (.own DB) none none):=by simp[az,au,db,S.d]
theorem zdd{GR:DF}{F:D}{t h w:Int}(rs:GR [.pure DB,.pure F]=some (.pure .ax,[.pure DB,.pure F])):jU (aB GR [.val (aa 6),.val (aa 1)]) (o9 ru F t h w BD (.own DB) none none)=.ok .next (o9 ru F t h w BD (.pure DB) none none):=by simp[jU,aB,bo,cL,cf,aa,bD,rs,ba,S.d]
theorem zdc{GB:DF}{F X:D}{t h w a b:Int}(l1:bI F=some (.pure (.int 1)))(i0:ag F (.int 0)=some (.pure X))(l2:bI X=some (.pure (.int 1)))(g1:GS [.pure (.int 1),.pure (.int h),.pure (.int t)]=some (.pure (.int a),[.pure (.int 1),.pure (.int h),.pure (.int t)]))(g2:GS [.pure (.int 1),.pure (.int w),.pure (.int t)]=some (.pure (.int b),[.pure (.int 1),.pure (.int w),.pure (.int t)]))(rb:GB [.pure (.int a),.pure (.int b),.pure (.int 64)]=some (.pure .ax,[.pure (.int a),.pure (.int b),.pure (.int 64)])):jU (aB GB [.val (aB GS [.val (aF bI (au 1)),.val (aa 3),.val (aa 2)]),.val (aB GS [.val (aF bI (ae (aj ag 1 (ae (eD (.int 0)))))),.val (aa 4),.val (aa 2)]),.val (eD (.int 64))]) (o9 ru F t h w BD s6 none none)=.ok .next (o9 ru F t h w BD s6 none none):=by generalize D.int 64=c64 at*;simp[jU,aB,bo,cL,cf,aa,au,aj,ck,bD,l1,l2,i0,g1,g2,rb,ba,S.d]
theorem zdb{F:D}{t h w:Int}:az (aa 1) (ak [] 7) (o9 ru F t h w BD s6 none none)=.ok .next (o9 ru F t h w BD s6 (some (.pure F)) none):=by simp[az,aa]
theorem zfT{h:Nat}{bs:List (Nat×List Tx)}(R:cC h w bs){t:Nat}(hn:n∈bs.map (·.1))(ht:t<=2)(h4:h<=4)(w4:w<=4):pH [.pure (aJ h w bs),.pure (.tup [.str [n]]),.pure (.int (t:Int))]=some (.pure (bu (iE h bs t [[n]])),[.pure (aJ h w bs),.pure (.tup [.str [n]]),.pure (.int (t:Int))]):=by
 have rs:=Z8 hn;have rb:=Z9 (pN h t h4 ht) (pN w t w4 ht);have g1:=v3 h t Y' Y';have g2:=v3 w t Y' Y';have db:=si R;have er:aJ h w bs=.tup [.int (h:Int),.int (w:Int),.tup (bs.map bG)]:=rfl;have l1:bI (.tup [.str [n]])=some (.pure (.int 1)):=rfl;have i0:ag (.tup [.str [n]]) (.int 0)=some (.pure (.str [n])):=rfl;have l2:bI (.str [n])=some (.pure (.int 1)):=rfl;have e0:bu [[n]]=.tup [.str [n]]:=rfl;have loop:=Z_ R hn ht h4 w4;obtain⟨o8,loop⟩:=loop;have rn:=vi t Y';rw[pH,IL];refine Lc (W':=o9 (aJ h w bs) (.tup [.str [n]]) t h w (.tup (bs.map bG)) (.pure (cJ bs)) (some (.pure (bu (iE h bs t [[n]])))) o8) ?_;have k0:az (aa 0) (bR 3 (aT (ak [] 3) (aT (ak [] 4) (aT (ak [] 5) bX)))) (bx 9 [.pure (aJ h w bs),.pure (.tup [.str [n]]),.pure (.int (t:Int))])=.ok .next [some (.pure (aJ h w bs)),some (.pure (.tup [.str [n]])),some (.pure (.int t)),some (.pure (.int h)),some (.pure (.int w)),some (.pure (.tup (bs.map bG))),none,none,none]:=by rw[er];generalize D.tup (bs.map bG)=BD at*;simp[bx,az,aa,bR,aT,bX,S.d]
 rw[bQ k0];clear k0 er;rw[bQ (zde db),bQ (zdd rs),bQ (zdc l1 i0 l2 g1 g2 rb),bQ zdb];refine(bQ ((du ?_).trans loop)).trans ?_;.clear loop rs rb g1 g2 db l1 i0 l2 e0;generalize dA 0 t=RG at*;generalize(t:Int)=tz at*;generalize aJ h w bs=ru at*;simp[aa,rn]
 .rfl
theorem zcR{h:Nat}{bs:List (Nat×List Tx)}(R:cC h w bs):rY [.pure (aJ h w bs)]=some (.own (.lst ((bs.map (·.1)).map fg)),[.pure (aJ h w bs)]):=by have x2:=(jC h w bs).2.2;have hn:=R.n1;generalize aJ h w bs=ru at*;have e:=pj (cs:=[1,2]) (g:=bR 2 (aT (ak [] 1) (aT (ak [] 2) bX))) (t:=cH) (el:=aa 1) bG (λb:Nat×List Tx=>fg b.1) [some (.pure ru),none,none] bs [] (by rw[jw];simp;lia) λb hb=>⟨_,_,.pure (fg b.1),[some (.pure ru),some (.pure (fg b.1)),some (.pure (bu b.2))],rfl,rfl,rfl,rfl,rfl⟩;rw[rY,kz,IH];simp[cy,bx,aj,ck,au,x2,lu,dj,bp];rw[e];simp[di,c_,bF,Function.comp_def]
theorem zdt(xs:List Tx)(h:ij xs<=16777216):eM [] (bu xs)=some (.pure (.str xs.flatten)):=by unfold eM bu;simp only[yT,vg];rw[if_pos (~~~h)]
def tx(h:Nat)(bs:List (Nat×List Tx))(t n:Nat):Tx:=(iE h bs t [[n]]).flatten
def dY(h:Nat)(bs:List (Nat×List Tx))(t:Nat):D:=.bV (bs.map λb=>(Sum.inr [b.1],.str (tx h bs t b.1)))
theorem Ld(h:Nat)(oh:List (Nat×List Tx))(t:Nat):∀ns:List Nat,g0 (ns.map λn=>.tup [.str [n],.str (tx h oh t n)])=some (ns.map λn=>(Sum.inr [n],.str (tx h oh t n)))|[]=>rfl|b::r=>by have:=Ld h oh t r;simp only[Wm];simp[g0,eQ,this]
theorem zgL{h:Nat}{bs:List (Nat×List Tx)}(R:cC h w bs)(t:Nat):cN (.lst ((bs.map (·.1)).map λn=>.tup [.str [n],.str (tx h bs t n)]))=some (.own (dY h bs t)):=by
 unfold cN;simp only[Ld,Wu,Wa];have hz:Wb=16777216:=rfl;rw[if_pos (by have:=R.n1;lia),vZ];.rw[Qv,WV];rfl
 .simp only[Qv,WV];rw[List.nodup_iff_pairwise_ne,Ql];have:=R.up;rw[Ql]at this;exact this.imp λ{a b}lX=>by simp;lia
theorem qaa{GO:DF}{t:Int}{fl:D}{x:Tx}(g:GO [.pure ru,.pure (.tup [.str [n]]),.pure (.int t)]=some (.pure fl,[.pure ru,.pure (.tup [.str [n]]),.pure (.int t)]))(j:eM [] fl=some (.pure (.str x))):(a7 (aw (aa 2) (aw (aF (eM []) (ae (aB GO [.val (aa 0),.val (a7 (aw (aa 2) aN)),.val (aa 1)]))) aN))) [some (.pure ru),some (.pure (.int t)),some (.pure (.str [n]))]=.ok (.pure (.tup [.str [n],.str x])) [some (.pure ru),some (.pure (.int t)),some (.pure (.str [n]))]:=by generalize D.str [n]=z at*;simp[aB,bo,cL,cf,aa,au,bD,g,ba,S.d,j]
theorem zj1{t:Int}{ds:D}(gt:GT [.pure ru]=some (.own (.lst ls),[.pure ru]))(c:dU [2] (ak [] 2) cH el ls [some (.pure ru),some (.pure (.int t)),none] []=.ok acc [some (.pure ru),some (.pure (.int t)),none])(d:cN (.lst acc)=some (.own ds)):aM (aF cN (ae (cb [2] (aV (aB GT [.val (aa 0)])) (ak [] 2) cH el))) [some (.pure ru),some (.pure (.int t)),none]=.ok (.ret (.own ds)) [some (.pure ru),some (.pure (.int t)),none]:=by simp[lu,aB,bo,cL,cf,aa,bD,gt,ba,S.d,dj,bp];rw[c];simp[di,d,S.d]
theorem Lf{h:Nat}{bs:List (Nat×List Tx)}(R:cC h w bs){t:Nat}(ht:t<=2)(h4:h<=4)(w4:w<=4):pI [.pure (aJ h w bs),.pure (.int (t:Int))]=some (.own (dY h bs t),[.pure (aJ h w bs),.pure (.int (t:Int))]):=by
 have hn1:=R.n1;have gt:=zcR R;have db:=zgL R t;have c:=pj (cs:=[2]) (g:=ak [] 2) (t:=cH) (el:=a7 (aw (aa 2) (aw (aF (eM []) (ae (aB pH [.val (aa 0),.val (a7 (aw (aa 2) aN)),.val (aa 1)]))) aN))) fg (λn:Nat=>D.tup [.str [n],.str (tx h bs t n)]) [some (.pure (aJ h w bs)),some (.pure (.int (t:Int))),none] (bs.map (·.1)) [] (by rw[jw];simp;lia) λn hn=>by
  have F:=Bc R hn t;have hl:ij (iE h bs t [[n]])<=16777216:=by refine Wy (La _ 64 λx hx=>%[F.cols x hx|pN w t w4 ht]) ?_;have:=pN h t h4 ht;rw[F.rows];lia
  exact⟨_,_,.pure (.tup [.str [n],.str (tx h bs t n)]),[some (.pure (aJ h w bs)),some (.pure (.int (t:Int))),some (.pure (.str [n]))],rfl,rfl,qaa (zfT R hn ht h4 w4) (zdt _ hl),rfl,rfl⟩
 rw[Qv]at c;rw[pI,IM];exact fj (zj1 gt c db)
theorem zhd{h w p a b:Int}(x0:ag ru (.int 0)=some (.pure (.int h)))(x1:ag ru (.int 1)=some (.pure (.int w)))(g1:GS [.pure (.int 1),.pure (.int h),.pure (.int p)]=some (.pure (.int a),[.pure (.int 1),.pure (.int h),.pure (.int p)]))(g2:GS [.pure (.int 1),.pure (.int w),.pure (.int p)]=some (.pure (.int b),[.pure (.int 1),.pure (.int w),.pure (.int p)])):aM (a7 (aw (aB GS [.val (eD (.int 1)),.val (aj ag 0 (ae (eD (.int 0)))),.val (aa 1)]) (aw (aB GS [.val (eD (.int 1)),.val (aj ag 0 (ae (eD (.int 1)))),.val (aa 1)]) aN))) [some (.pure ru),some (.pure (.int p))]=.ok (.ret (.pure (.tup [.int a,.int b]))) [some (.pure ru),some (.pure (.int p))]:=by simp[aB,bo,cL,cf,aa,au,aj,ck,bD,x0,x1,g1,g2,ba,S.d]
abbrev v_(h w p:Nat):D:=.tup [.int ((h^p:Nat):Int),.int ((w^p:Nat):Int)]
theorem wa{h:Nat}{bs:List (Nat×List Tx)}(h4:h<=1000)(w4:w<=1000)(p:Nat)(hp:p<=2):iD [.pure (aJ h w bs),.pure (.int (p:Int))]=some (.pure (v_ h w p),[.pure (aJ h w bs),.pure (.int (p:Int))]):=by have x:=jC h w bs;rw[iD,IF];exact fj (zhd x.1 x.2.1 (v3 h p h4 Y') (v3 w p w4 Y'))
def cD(h w h' w' p q:Nat):Bool:=decide (h^p=h'^q)&&decide (w^p=w'^q)
theorem wb(h w h' w' p q:Nat):bz (v_ h w p) (v_ h' w' q)=some (.pure (.bl (cD h w h' w' p q))):=by
 have e:∀a b:Nat,(((a:Nat):Int)==((b:Nat):Int))=decide (a=b):=λa b=>by rw[Qi,beq_iff_eq,decide_eq_true_eq];lia
 unfold cD v_;generalize h^p=a1;generalize h'^q=a2;generalize w^p=a3;generalize w'^q=a4;rw[<-e a1 a2,<-e a3 a4];simp[bz,flat,gX,aY,dS]
def sk(sm su sv sy:Bool):D:=if sm then .tup [.int 1,.int 1]else if su then .tup [.int 1,.int 2]else if sv then .tup [.int 2,.int 1]else if sy then .tup [.int 2,.int 2]else .ax
abbrev fK(h w h' w':Nat):D:=sk (cD h w h' w' 1 1) (cD h w h' w' 1 2) (cD h w h' w' 2 1) (cD h w h' w' 2 2)
abbrev sA(GZ:DF):DS:=bC (aV (eD (.tup [.int 1,.int 2]))) (ak [] 3) (bf (aD (ar bz (aB GZ [.val (aa 0),.val (aa 2)]) (ae (aB GZ [.val (aa 1),.val (aa 3)])))) (aM (a7 (aw (aa 2) (aw (aa 3) aN)))) bj)
theorem Lg{p q UV M':D}{b:Bool}(g1:GZ [.pure r1,.pure p]=some (.pure UV,[.pure r1,.pure p]))(g2:GZ [.pure r2,.pure q]=some (.pure M',[.pure r2,.pure q]))(e:bz UV M'=some (.pure (.bl b))):(bf (aD (ar bz (aB GZ [.val (aa 0),.val (aa 2)]) (ae (aB GZ [.val (aa 1),.val (aa 3)])))) (aM (a7 (aw (aa 2) (aw (aa 3) aN)))) bj) [some (.pure r1),some (.pure r2),some (.pure p),some (.pure q)]=if b then .ok (.ret (.pure (.tup [p,q]))) [some (.pure r1),some (.pure r2),some (.pure p),some (.pure q)]else .ok .next [some (.pure r1),some (.pure r2),some (.pure p),some (.pure q)]:=by cases b<;>simp[aD,ar,aB,bo,cL,cf,aa,bD,g1,g2,ba,S.d,e]
theorem iF{b:DS}{d:D}(h1:g (.pure d) Z=some W')(h2:b W'=.ok (.ret v) SZ):forL g b (d::r) Z=.ok (.ret v) SZ:=by unfold forL;rw[h1];simp only[h2,jv]
theorem Lh{p UV Y1 Y2:D}{b1 b2:Bool}(o3:Option S)(g1:GZ [.pure r1,.pure p]=some (.pure UV,[.pure r1,.pure p]))(g2:GZ [.pure r2,.pure (.int 1)]=some (.pure Y1,[.pure r2,.pure (.int 1)]))(g3:GZ [.pure r2,.pure (.int 2)]=some (.pure Y2,[.pure r2,.pure (.int 2)]))(e1:bz UV Y1=some (.pure (.bl b1)))(e2:bz UV Y2=some (.pure (.bl b2))):∃q3,sA GZ [some (.pure r1),some (.pure r2),some (.pure p),o3]=if b1 then .ok (.ret (.pure (.tup [p,.int 1]))) [some (.pure r1),some (.pure r2),some (.pure p),q3]else if b2 then .ok (.ret (.pure (.tup [p,.int 2]))) [some (.pure r1),some (.pure r2),some (.pure p),q3]else .ok .next [some (.pure r1),some (.pure r2),some (.pure p),q3]:=by have i:aV (eD (.tup [.int 1,.int 2])) [some (.pure r1),some (.pure r2),some (.pure p),o3]=.ok [.int 1,.int 2] [some (.pure r1),some (.pure r2),some (.pure p),o3]:=rfl;have k1:=Lg g1 g2 e1;have k2:=Lg g1 g3 e2;unfold sA;rw[du i];cases b1 with|true=>exact⟨some (.pure (.int 1)),iF (W':=[some (.pure r1),some (.pure r2),some (.pure p),some (.pure (.int 1))]) rfl k1⟩|false=>refine⟨some (.pure (.int 2)),?_⟩;rw[gp (W':=[some (.pure r1),some (.pure r2),some (.pure p),some (.pure (.int 1))]) rfl k1];cases b2 with|true=>exact iF (W':=[some (.pure r1),some (.pure r2),some (.pure p),some (.pure (.int 2))]) rfl k2|false=>rw[gp (W':=[some (.pure r1),some (.pure r2),some (.pure p),some (.pure (.int 2))]) rfl k2];rfl
theorem zhN{h:Nat}{bs:List (Nat×List Tx)}(h4:h<=1000)(w4:w<=1000)(iw:h'<=1000)(jD:w'<=1000):pG [.pure (aJ h w bs),.pure (aJ h' w' aA)]=some (.pure (fK h w h' w'),[.pure (aJ h w bs),.pure (aJ h' w' aA)]):=by have a1:iD [.pure (aJ h w bs),.pure (.int 1)]=_:=wa h4 w4 1 Z';have a2:iD [.pure (aJ h w bs),.pure (.int 2)]=_:=wa h4 w4 2 Z';have c1:iD [.pure (aJ h' w' aA),.pure (.int 1)]=_:=wa iw jD 1 Z';have c2:iD [.pure (aJ h' w' aA),.pure (.int 2)]=_:=wa iw jD 2 Z';obtain⟨q1,k1⟩:=Lh none a1 c1 c2 (wb h w h' w' 1 1) (wb h w h' w' 1 2);obtain⟨q2,k2⟩:=Lh q1 a2 c1 c2 (wb h w h' w' 2 1) (wb h w h' w' 2 2);rw[pG,IG];unfold fK;clear a1 a2 c1 c2;generalize cD h w h' w' 1 1=sm at*;generalize cD h w h' w' 1 2=su at*;generalize cD h w h' w' 2 1=sv at*;generalize cD h w h' w' 2 2=sy at*;generalize aJ h w bs=r1 at*;generalize aJ h' w' aA=r2 at*;have i:aV (eD (.tup [.int 1,.int 2])) [some (.pure r1),some (.pure r2),none,none]=.ok [.int 1,.int 2] [some (.pure r1),some (.pure r2),none,none]:=rfl;have fin:∀d S',aq (bC (aV (eD (.tup [.int 1,.int 2]))) (ak [] 2) (sA iD)) (aM (eD .ax)) [some (.pure r1),some (.pure r2),none,none]=.ok (.ret (.pure d)) S'->bt [] 4 (aq (bC (aV (eD (.tup [.int 1,.int 2]))) (ak [] 2) (sA iD)) (aM (eD .ax))) [.pure r1,.pure r2]=some (.pure d,[.pure r1,.pure r2]):=λd S' e=>fj (W':=S') e;cases sm with|true=>exact fin _ _ (jA ((du i).trans (iF (W':=[some (.pure r1),some (.pure r2),some (.pure (.int 1)),none]) rfl k1)))|false=>cases su with|true=>exact fin _ _ (jA ((du i).trans (iF (W':=[some (.pure r1),some (.pure r2),some (.pure (.int 1)),none]) rfl k1)))|false=>have st:=(du (g:=ak [] 2) (b:=sA iD) i).trans (gp (W':=[some (.pure r1),some (.pure r2),some (.pure (.int 1)),none]) rfl k1);cases sv with|true=>exact fin _ _ (jA (st.trans (iF (W':=[some (.pure r1),some (.pure r2),some (.pure (.int 2)),q1]) rfl k2)))|false=>cases sy with|true=>exact fin _ _ (jA (st.trans (iF (W':=[some (.pure r1),some (.pure r2),some (.pure (.int 2)),q1]) rfl k2)))|false=>exact fin _ _ ((bQ (st.trans (gp (W':=[some (.pure r1),some (.pure r2),some (.pure (.int 2)),q1]) rfl k2))).trans rfl)
abbrev Be:DS:=az (dq (aw (aj ag 0 (ae (eD (.int 0)))) (aw (aj ag 0 (ae (eD (.int 1)))) (aw (aj ag 1 (ae (eD (.int 0)))) (aw (aj ag 1 (ae (eD (.int 1)))) aN))))) (ak [] 4)
abbrev sC:DS:=bf (aD (aj bz 2 (ae (eD (.int 2))))) (aq (fF 4 (eD (.int 0)) (ar cG (aj ag 4 (ae (eD (.int 0)))) (ae (aj ag 0 (ae (eD (.int 0))))))) (fF 4 (eD (.int 1)) (ar cG (aj ag 4 (ae (eD (.int 1)))) (ae (aj ag 0 (ae (eD (.int 1)))))))) bj
abbrev sE:DS:=bf (aD (aj bz 3 (ae (eD (.int 2))))) (aq (fF 4 (eD (.int 2)) (ar cG (aj ag 4 (ae (eD (.int 2)))) (ae (aj ag 1 (ae (eD (.int 0))))))) (fF 4 (eD (.int 3)) (ar cG (aj ag 4 (ae (eD (.int 3)))) (ae (aj ag 1 (ae (eD (.int 1)))))))) bj
abbrev Bf:DS:=bf (aD (ar bz (fE 4 dF (cK (eD (.int 2)))) (ae (fE 4 (cK (eD (.int 2))) dF)))) (aM (a7 (aw (aa 2) (aw (aa 3) aN)))) bj
abbrev c5(r1 r2:D)(p q:Int)(o4:Option S):Dl:=[some (.pure r1),some (.pure r2),some (.pure (.int p)),some (.pure (.int q)),o4]
section
variable{h w h' w':Int}(x0:ag r1 (.int 0)=some (.pure (.int h)))(x1:ag r1 (.int 1)=some (.pure (.int w)))(y0:ag r2 (.int 0)=some (.pure (.int h')))(y1:ag r2 (.int 1)=some (.pure (.int w')))
include x0 x1 y0 y1
theorem qab(p q:Int)(o4:Option S):Be (c5 r1 r2 p q o4)=.ok .next (c5 r1 r2 p q (some (.own (.lst [.int h,.int w,.int h',.int w'])))):=by simp[Be,az,aj,ck,au,x0,x1,y0,y1,S.d]
end
theorem Li(r1 r2:D)(q:Int)(o4:Option S):sC (c5 r1 r2 1 q o4)=.ok .next (c5 r1 r2 1 q o4):=by have e:bz (.int 1) (.int 2)=some (.pure (.bl false)):=rfl;simp[sC,aD,aj,ck,au,e]
theorem Lj(r1 r2:D)(p:Int)(o4:Option S):sE (c5 r1 r2 p 1 o4)=.ok .next (c5 r1 r2 p 1 o4):=by have e:bz (.int 1) (.int 2)=some (.pure (.bl false)):=rfl;simp[sE,aD,aj,ck,au,e]
theorem Lk{h w:Int}{b:D}(q:Int)(x0:ag r1 (.int 0)=some (.pure (.int h)))(x1:ag r1 (.int 1)=some (.pure (.int w)))(m0:cG (.int h) (.int h)=some (.pure (.int h2)))(m1:cG (.int w) (.int w)=some (.pure (.int w2))):sC (c5 r1 r2 2 q (some (.own (.lst [.int h,.int w,a,b]))))=.ok .next (c5 r1 r2 2 q (some (.own (.lst [.int h2,.int w2,a,b])))):=by have e:bz (.int 2) (.int 2)=some (.pure (.bl true)):=rfl;have i0:∀x y z u:D,ag (.lst [x,y,z,u]) (.int 0)=some (.pure x):=λj j j j=>rfl;have i1:∀x y z u:D,ag (.lst [x,y,z,u]) (.int 1)=some (.pure y):=λj j j j=>rfl;have k0:fA 4 0=some 0:=rfl;have k1:fA 4 1=some 1:=rfl;simp[sC,aD,aj,ck,au,e,fF,gO,putL,aa,i0,i1,x0,x1,m0,m1,k0,k1,S.d]
theorem Ll{h w:Int}{b:D}(p:Int)(y0:ag r2 (.int 0)=some (.pure (.int h)))(y1:ag r2 (.int 1)=some (.pure (.int w)))(m0:cG (.int h) (.int h)=some (.pure (.int h2)))(m1:cG (.int w) (.int w)=some (.pure (.int w2))):sE (c5 r1 r2 p 2 (some (.own (.lst [a,b,.int h,.int w]))))=.ok .next (c5 r1 r2 p 2 (some (.own (.lst [a,b,.int h2,.int w2])))):=by have e:bz (.int 2) (.int 2)=some (.pure (.bl true)):=rfl;have i0:∀x y z u:D,ag (.lst [x,y,z,u]) (.int 2)=some (.pure z):=λj j j j=>rfl;have i1:∀x y z u:D,ag (.lst [x,y,z,u]) (.int 3)=some (.pure u):=λj j j j=>rfl;have k0:fA 4 2=some 2:=rfl;have k1:fA 4 3=some 3:=rfl;simp[sE,aD,aj,ck,au,e,fF,gO,putL,aa,i0,i1,y0,y1,m0,m1,k0,k1,S.d]
theorem wc{p q a b c d:Int}(e:bz (.lst [.int a,.int b]) (.lst [.int c,.int d])=some (.pure (.bl bb))):Bf (c5 r1 r2 p q (some (.own (.lst [.int a,.int b,.int c,.int d]))))=if bb then .ok (.ret (.pure (.tup [.int p,.int q]))) (c5 r1 r2 p q (some (.own (.lst [.int a,.int b,.int c,.int d]))))else .ok .next (c5 r1 r2 p q (some (.own (.lst [.int a,.int b,.int c,.int d])))):=by have s1:dG none (some 2) (.lst [.int a,.int b,.int c,.int d])=some (.own (.lst [.int a,.int b])):=rfl;have s2:dG (some 2) none (.lst [.int a,.int b,.int c,.int d])=some (.own (.lst [.int c,.int d])):=rfl;generalize D.lst [.int a,.int b,.int c,.int d]=L at*;generalize D.lst [.int a,.int b]=L1 at*;generalize D.lst [.int c,.int d]=L2 at*;cases bb<;>simp[Bf,aD,fE,aa,au,dF,cK,s1,s2,e,S.d]
theorem wd(a b c d:Nat):bz (.lst [.int (a:Int),.int (b:Int)]) (.lst [.int (c:Int),.int (d:Int)])=some (.pure (.bl (decide (a=c)&&decide (b=d)))):=by
 have e:∀a b:Nat,(((a:Nat):Int)==((b:Nat):Int))=decide (a=b):=λa b=>by rw[Qi,beq_iff_eq,decide_eq_true_eq];lia
 rw[<-e a c,<-e b d];simp[bz,flat,gX,aY,dS]
abbrev mH:DS:=aq Be (aq sC (aq sE Bf))
theorem we(h w h' w' p q a b c d:Nat)(e1:h^p=a)(e2:w^p=b)(e3:h'^q=c)(e4:w'^q=d):cD h w h' w' p q=(decide (a=c)&&decide (b=d)):=by unfold cD;rw[e1,e2,e3,e4]
theorem mI{h:Nat}(h4:h<=1000):cG (.int (h:Int)) (.int (h:Int))=some (.pure (.int ((h^2:Nat):Int))):=by rw[mul_int (h:Int) (h:Int) Y' Y',<-Int.natCast_mul,Jo]
section
variable{h:Nat}(x0:ag r1 (.int 0)=some (.pure (.int (h:Int))))(x1:ag r1 (.int 1)=some (.pure (.int (w:Int))))(y0:ag r2 (.int 0)=some (.pure (.int (h':Int))))(y1:ag r2 (.int 1)=some (.pure (.int (w':Int))))(h4:h<=1000)(w4:w<=1000)(iw:h'<=1000)(jD:w'<=1000)
include x0 x1 y0 y1 h4 w4 iw jD
theorem Lm(p q:Int)(pn qn:Nat)(hp:p=1/\pn=1\/p=2/\pn=2)(hq:q=1/\qn=1\/q=2/\qn=2)(o4:Option S):∃o,mH (c5 r1 r2 p q o4)=if cD h w h' w' pn qn then .ok (.ret (.pure (.tup [.int p,.int q]))) (c5 r1 r2 p q o)else .ok .next (c5 r1 r2 p q o):=by
 have kA:=qab x0 x1 y0 y1 p q o4;rcases hp with⟨rfl,rfl⟩|⟨rfl,rfl⟩
 .rcases hq with⟨rfl,rfl⟩|⟨rfl,rfl⟩;.refine⟨some (.own (.lst [.int (h:Int),.int (w:Int),.int (h':Int),.int (w':Int)])),?_⟩;unfold mH;rw[bQ kA,bQ (Li ..),bQ (Lj ..),wc (wd h w h' w'),we h w h' w' 1 1 h w h' w' (QI _) (QI _) (QI _) (QI _)]
  .refine⟨some (.own (.lst [.int (h:Int),.int (w:Int),.int ((h'^2:Nat):Int),.int ((w'^2:Nat):Int)])),?_⟩;unfold mH;rw[bQ kA,bQ (Li ..),bQ (Ll 1 y0 y1 (mI iw) (mI jD)),wc (wd h w (h'^2) (w'^2)),we h w h' w' 1 2 h w (h'^2) (w'^2) (QI _) (QI _) rfl rfl]
 .rcases hq with⟨rfl,rfl⟩|⟨rfl,rfl⟩;.refine⟨some (.own (.lst [.int ((h^2:Nat):Int),.int ((w^2:Nat):Int),.int (h':Int),.int (w':Int)])),?_⟩;unfold mH;rw[bQ kA,bQ (Lk 1 x0 x1 (mI h4) (mI w4)),bQ (Lj ..),wc (wd (h^2) (w^2) h' w'),we h w h' w' 2 1 (h^2) (w^2) h' w' rfl rfl (QI _) (QI _)]
  .refine⟨some (.own (.lst [.int ((h^2:Nat):Int),.int ((w^2:Nat):Int),.int ((h'^2:Nat):Int),.int ((w'^2:Nat):Int)])),?_⟩;unfold mH;rw[bQ kA,bQ (Lk 2 x0 x1 (mI h4) (mI w4)),bQ (Ll 2 y0 y1 (mI iw) (mI jD)),wc (wd (h^2) (w^2) (h'^2) (w'^2)),we h w h' w' 2 2 (h^2) (w^2) (h'^2) (w'^2) rfl rfl rfl rfl]
theorem Ln(p:Int)(pn:Nat)(hp:p=1/\pn=1\/p=2/\pn=2)(o3 o4:Option S):∃q3 q4,(bC (aV (eD (.tup [.int 1,.int 2]))) (ak [] 3) mH) [some (.pure r1),some (.pure r2),some (.pure (.int p)),o3,o4]=if cD h w h' w' pn 1 then .ok (.ret (.pure (.tup [.int p,.int 1]))) [some (.pure r1),some (.pure r2),some (.pure (.int p)),q3,q4]else if cD h w h' w' pn 2 then .ok (.ret (.pure (.tup [.int p,.int 2]))) [some (.pure r1),some (.pure r2),some (.pure (.int p)),q3,q4]else .ok .next [some (.pure r1),some (.pure r2),some (.pure (.int p)),q3,q4]:=by have i:aV (eD (.tup [.int 1,.int 2])) [some (.pure r1),some (.pure r2),some (.pure (.int p)),o3,o4]=.ok [.int 1,.int 2] [some (.pure r1),some (.pure r2),some (.pure (.int p)),o3,o4]:=rfl;obtain⟨a,k1⟩:=Lm x0 x1 y0 y1 h4 w4 iw jD p 1 pn 1 hp (.inl ⟨rfl,rfl⟩) o4;obtain⟨b,k2⟩:=Lm x0 x1 y0 y1 h4 w4 iw jD p 2 pn 2 hp (.inr ⟨rfl,rfl⟩) a;rw[du i];generalize mH=B at*;generalize cD h w h' w' pn 1=b1 at*;generalize cD h w h' w' pn 2=b2 at*;cases b1 with|true=>exact⟨some (.pure (.int 1)),a,iF (W':=c5 r1 r2 p 1 o4) rfl k1⟩|false=>refine⟨some (.pure (.int 2)),b,?_⟩;rw[gp (W':=c5 r1 r2 p 1 o4) rfl k1];cases b2 with|true=>exact iF (W':=c5 r1 r2 p 2 a) rfl k2|false=>rw[gp (W':=c5 r1 r2 p 2 a) rfl k2];rfl
end
theorem zaE{h:Nat}{bs:List (Nat×List Tx)}(h4:h<=1000)(w4:w<=1000)(iw:h'<=1000)(jD:w'<=1000):lg [.pure (aJ h w bs),.pure (aJ h' w' aA)]=some (.pure (fK h w h' w'),[.pure (aJ h w bs),.pure (aJ h' w' aA)]):=by have x:=jC h w bs;have y:=jC h' w' aA;obtain⟨q3,q4,k1⟩:=Ln x.1 x.2.1 y.1 y.2.1 h4 w4 iw jD 1 1 (.inl ⟨rfl,rfl⟩) none none;obtain⟨p3,p4,k2⟩:=Ln x.1 x.2.1 y.1 y.2.1 h4 w4 iw jD 2 2 (.inr ⟨rfl,rfl⟩) q3 q4;rw[lg,ID];clear x y;unfold fK;generalize cD h w h' w' 1 1=sm at*;generalize cD h w h' w' 1 2=su at*;generalize cD h w h' w' 2 1=sv at*;generalize cD h w h' w' 2 2=sy at*;generalize aJ h w bs=r1 at*;generalize aJ h' w' aA=r2 at*;have fin:∀(B:DS)d S',aq (bC (aV (eD (.tup [.int 1,.int 2]))) (ak [] 2) B) (aM (eD .ax)) [some (.pure r1),some (.pure r2),none,none,none]=.ok (.ret (.pure d)) S'->bt [] 5 (aq (bC (aV (eD (.tup [.int 1,.int 2]))) (ak [] 2) B) (aM (eD .ax))) [.pure r1,.pure r2]=some (.pure d,[.pure r1,.pure r2]):=λB d S' e=>fj (W':=S') e;have i:aV (eD (.tup [.int 1,.int 2])) [some (.pure r1),some (.pure r2),none,none,none]=.ok [.int 1,.int 2] [some (.pure r1),some (.pure r2),none,none,none]:=rfl;generalize bC (aV (eD (.tup [.int 1,.int 2]))) (ak [] 3) mH=RB at*;cases sm with|true=>exact fin _ _ _ (jA ((du i).trans (iF (W':=[some (.pure r1),some (.pure r2),some (.pure (.int 1)),none,none]) rfl k1)))|false=>cases su with|true=>exact fin _ _ _ (jA ((du i).trans (iF (W':=[some (.pure r1),some (.pure r2),some (.pure (.int 1)),none,none]) rfl k1)))|false=>have st:=(du (g:=ak [] 2) (b:=RB) i).trans (gp (W':=[some (.pure r1),some (.pure r2),some (.pure (.int 1)),none,none]) rfl k1);cases sv with|true=>exact fin _ _ _ (jA (st.trans (iF (W':=[some (.pure r1),some (.pure r2),some (.pure (.int 2)),q3,q4]) rfl k2)))|false=>cases sy with|true=>exact fin _ _ _ (jA (st.trans (iF (W':=[some (.pure r1),some (.pure r2),some (.pure (.int 2)),q3,q4]) rfl k2)))|false=>exact fin _ _ _ ((bQ (st.trans (gp (W':=[some (.pure r1),some (.pure r2),some (.pure (.int 2)),q3,q4]) rfl k2))).trans rfl)
abbrev gS(ru X UV:D)(acc:List Tx)(a b c d:Option S):Dl:=[pS ru,pS X,pO UV,pO (.lst (acc.map .str)),a,b,c,d]
abbrev gT:DS:=aq (az (eD (.str [])) (ak [] 6)) (aq (bC (aV (aa 4)) (ak [] 7) (az (aj a_ 6 (ae (ar ag (aj cg 2 (au 7)) (au 5)))) (ak [] 6))) (cA 3 (aa 6)))
abbrev gB:DS:=bC (fP (aj ag 0 (ae (eD (.int 0))))) (ak [] 5) gT
theorem z7N{h:Nat}{bs:List (Nat×List Tx)}(R:cC h w bs){A:Nat}(F:og bs A C fl)(hA:A<=100)(hC:C<=1000):pF [.pure (aJ h w bs),.pure (bu fl)]=some (.pure (bu (lay h bs fl)),[.pure (aJ h w bs),.pure (bu fl)]):=by
 have h1:=R.h1;have w1:=R.w1;have hl:=Lb R F hA;have hdc:=si R;obtain⟨x0,-,x2⟩:=jC h w bs;unfold pF Iz;generalize aJ h w bs=ru at*;obtain⟨S',e,acc,a,b,c,d,h2,-,rfl⟩:=forA D.str (g:=ak [] 4) (b:=gB) (λas Z=>∃acc a b c d,acc++lay h bs as=lay h bs fl/\(∀r∈as,r∈fl)/\Z=gS ru (bu fl) (cJ bs) acc a b c d) λrow as Z hh=>by
  obtain⟨acc,a,b,c,d,h2,h3,e⟩:=hh
  subst e;have hr:=h3 row (.head _);have e0:lay h bs (row::as)=layR h bs row++lay h bs as:=rfl;rw[e0,<-Jl]at h2;obtain⟨S',e,acc',b',c',d',h4,-,rfl⟩:=forA (λl:Nat=>D.int l) (g:=ak [] 5) (b:=gT) (λls Z=>∃acc' b c d,acc'++(ls.map λl=>fZ bs l row)=acc++layR h bs row/\(∀l∈ls,l<h)/\Z=gS ru (bu fl) (cJ bs) acc' (pS (.str row)) b c d) (λl ls Z hh=>by
   obtain⟨acc',b,c,d,h4,h5,e⟩:=hh
   subst e;have hh:=h5 l (.head _);have hz:=congrArg Qf h4;have hy:=congrArg Qf h2;simp at hz hy;obtain⟨S',e,x,d',h6,-,rfl⟩:=forA sD (g:=ak [] 7) (b:=az (aj a_ 6 (ae (ar ag (aj cg 2 (au 7)) (au 5)))) (ak [] 6)) (λns Z=>∃x d,x++fZ bs l ns=fZ bs l row/\(∀n∈ns,n∈row)/\Z=gS ru (bu fl) (cJ bs) acc' (pS (.str row)) (pS (.int l)) (pS (.str x)) d) λn ns Z hh=>by obtain⟨x,d,h6,h7,e⟩:=hh;subst e;have hn:=F.tl row hr n (h7 n (.head _));have y1:=sj hn;have y2:=(v7 R hn hh).2.2;have e1:fZ bs l (n::ns)=(bE bs n).getD l []++fZ bs l ns:=rfl;have e2:=congrArg Qf h6;rw[(v8 R hh row (F.tl row hr)).1,F.cols row hr,e1,Q6,Q6]at e2;have e3:C*w<=1000*4:=QD hC w1;have ha:=add_str x ((bE bs n).getD l []) Y';refine⟨_,rfl,λy hy=>⟨_,hy.symm.trans (ku (W':=gS ru (bu fl) (cJ bs) acc' (pS (.str row)) (pS (.int l)) (pS (.str x)) (pS (sD n))) (v:=.pure (.str (x++(bE bs n).getD l []))) ?_ rfl),_,pS (sD n),by rw[<-h6,e1,Jl],λm hm=>h7 m (.tail _ hm),rfl⟩⟩;generalize D.str (x++(bE bs n).getD l [])=X,D.str ((bE bs n).getD l [])=M',bu (bE bs n)=V,cJ bs=UV at*;simp[ar,aj,ck,au,y1,y2,ha,S.d] row (gS ru (bu fl) (cJ bs) acc' (pS (.str row)) (pS (.int l)) (pS (.str [])) d) ⟨[],d,rfl,λj z=>z,rfl⟩;obtain rfl:x=fZ bs l row:=by simpa[fZ]using h6
   exact⟨_,rfl,λy hy=>⟨_,hy.symm.trans (dQ (dQ (vT (v:=.pure (.str (fZ bs l row))) rfl rfl rfl V' rfl) ((du (it:=aV (aa 4)) (Z:=gS ru (bu fl) (cJ bs) acc' (pS (.str row)) (pS (.int l)) (pS (.str [])) d) rfl).trans e)) rfl),acc'++[fZ bs l row],_,_,_,~~~h4,λx hx=>h5 x (.tail _ hx),by simp only[gS,WO];rfl⟩⟩) (WI h) (gS ru (bu fl) (cJ bs) acc (pS (.str row)) b c d) ⟨acc,b,c,d,rfl,λl hl=>List.mem_range.mp hl,rfl⟩;refine⟨_,rfl,λy hy=>⟨_,hy.symm.trans ((du (it:=fP (aj ag 0 (ae (eD (.int 0))))) (vU (z:=h) ?_ rfl Y')).trans e),acc',_,b',c',d',?_,λr hr=>h3 r (.tail _ hr),rfl⟩⟩;.simp[aj,ck,au,x0]
  .rw[<-h2,<-h4];simp fl (gS ru (bu fl) (cJ bs) [] none none none none) ⟨[],none,none,none,none,rfl,λj z=>z,rfl⟩;obtain rfl:acc=lay h bs fl:=by simpa[lay]using h2
 refine gR (W':=gS ru (bu fl) (cJ bs) (lay h bs fl) a b c d) (dQ ?_ dD) rfl rfl;exact dQ (dQ rfl ((du (it:=aV (aa 1)) (Z:=gS ru (bu fl) (cJ bs) [] none none none none) rfl).trans e)) rfl
theorem Lo{h:Nat}{bs:List (Nat×List Tx)}(R:cC h w bs)(hn:n∈bs.map (·.1)):lay h bs [[n]]=bE bs n:=by
 obtain⟨b,hb,_,_,e⟩:=n_ hn;have hl:(bE bs n).length=h:=by rw[e];exact(R.bE b hb).1
 have e1:lay h bs [[n]]=(WI h).map λl=>(bE bs n).getD l []:=by simp[lay,layR,fZ]
 rw[e1];apply JF;intro i;rw[Wj];by_cases hi:i<h;.rw[List.getElem?_range hi,W7 Y'];simp[show i<(bE bs n).length by lia]
 .rw[WQ (~~~hi),WQ Y'];rfl
def tw(h:Nat)(bs:List (Nat×List Tx)):List (Nat×List Tx):=bs.map λb=>(b.1,lay h bs b.2)
theorem sF(h:Nat)(bs:List (Nat×List Tx)):(tw h bs).map (·.1)=bs.map (·.1):=by unfold tw;rw[WV];rfl
theorem Lp{h:Nat}{bs:List (Nat×List Tx)}(R:cC h w bs){b:Nat×List Tx}(hb:b∈bs):og bs h w b.2:=⟨(R.bE b hb).1,λr hr=>((R.bE b hb).2 r hr).1,λr hr=>((R.bE b hb).2 r hr).2⟩
theorem zh5{h w:Nat}{bs:List (Nat×List Tx)}(hn:n∈bs.map (·.1)):bE (tw h bs) n=lay h bs (bE bs n):=by obtain⟨b,hb,e0,e1,e2⟩:=n_ hn;rw[e2];unfold bE tw;rw[List.find?_map];have:((λb:Nat×List Tx=>decide (b.1=n))∘λb:Nat×List Tx=>(b.1,lay h bs b.2))=λb=>decide (b.1=n):=rfl;rw[this,e1];rfl
theorem zh3{h:Nat}{bs:List (Nat×List Tx)}(R:cC h w bs)(hn:n∈bs.map (·.1)):tx h bs 2 n=(bE (tw h bs) n).flatten:=by unfold tx;show(lay h bs (lay h bs [[n]])).flatten=_;rw[Lo R hn,zh5 (w:=w) hn]
theorem zh4{h:Nat}{bs:List (Nat×List Tx)}(R:cC h w bs)(hn:n∈bs.map (·.1)):tx h bs 1 n=(bE bs n).flatten:=by unfold tx;show(lay h bs [[n]]).flatten=_;rw[Lo R hn]
theorem Lq{h:Nat}{bs:List (Nat×List Tx)}(R:cC h w bs)(h2:h<=2)(w2:w<=2):cC (h*h) (w*w) (tw h bs):=by
 have h0:=R.h0;have w0:=R.w0;have hw:=R.hw;have ch:h=1\/h=2:=by lia
 have cw:w=1\/w=2:=by lia
 refine⟨?_,?_,?_,?_,?_,?_,?_,?_,?_,?_⟩;.rcases ch with rfl|rfl<;>decide
 .rcases ch with rfl|rfl<;>decide
 .rcases cw with rfl|rfl<;>decide
 .rcases cw with rfl|rfl<;>decide
 .rcases ch with rfl|rfl<;>rcases cw with rfl|rfl<;>lia
 .have:=R.n0;simpa[tw]using this
 .have:=R.n1;simpa[tw]using this
 .rw[sF];exact R.up
 .intro b hb;obtain⟨a,ha,rfl⟩:=WH.mp hb;exact R.qV a ha
 .intro b hb;obtain⟨a,ha,rfl⟩:=WH.mp hb;have F:=Bb R (Lp R ha);refine⟨F.rows,λr hr=>⟨F.cols r hr,λn hn=>?_⟩⟩;rw[sF];exact F.tl r hr n hn
abbrev gH(ru f pt:D):D:=.tup [ru,f,pt]
abbrev w7(P ru f pt:D)(o4:Option S):Dl:=[some (.pure P),some (.pure ru),some (.pure f),some (.pure pt),o4,none,none]
theorem qac(ru f pt:D):az (aa 0) (bR 3 (aT (ak [] 1) (aT (ak [] 2) (aT (ak [] 3) bX)))) [some (.pure (gH ru f pt)),none,none,none,none,none,none]=.ok .next (w7 (gH ru f pt) ru f pt none):=by simp[az,aa,bR,aT,bX,S.d]
theorem qad{P f pt:D}{h w:Int}{a b:Bool}(x0:ag ru (.int 0)=some (.pure (.int h)))(x1:ag ru (.int 1)=some (.pure (.int w)))(g1:gM (.int h) (.int 2)=some (.pure (.bl a)))(g2:gM (.int w) (.int 2)=some (.pure (.bl b))):bf (dz (aD (ar gM (aj ag 1 (ae (eD (.int 0)))) (ae (eD (.int 2))))) (aD (ar gM (aj ag 1 (ae (eD (.int 1)))) (ae (eD (.int 2)))))) (aM (aa 0)) bj (w7 P ru f pt none)=if a||b then .ok (.ret (.pure P)) (w7 P ru f pt none)else .ok .next (w7 P ru f pt none):=by cases a<;>cases b<;>simp[aD,ar,aj,ck,au,aa,x0,x1,g1,g2,S.d]
theorem qae{P f pt BD:D}(x2:ag ru (.int 2)=some (.pure (.tup ls)))(c:dU [5,6] (bR 2 (aT (ak [] 5) (aT (ak [] 6) bX))) cH el ls (w7 P ru f pt none) []=.ok acc (w7 P ru f pt none)):az (cb [5,6] (aV (aj ag 1 (ae (eD (.int 2))))) (bR 2 (aT (ak [] 5) (aT (ak [] 6) bX))) cH el) (ak [] 4) (w7 P ru f pt none)=.ok .next (w7 P ru f pt (some (.own (.lst acc)))):=by simp[az,lu,aj,ck,au,x2,S.d,dj,bp];rw[c];simp[di,S.d]
theorem qaf{GW:DF}{P f pt B B2:D}(g:GW [.pure ru,.pure B]=some (.pure B2,[.pure ru,.pure B])):a7 (aw (aa 5) (aw (aB GW [.val (aa 1),.val (aa 6)]) aN)) [some (.pure P),some (.pure ru),some (.pure f),some (.pure pt),none,some (.pure (.str [n])),some (.pure B)]=.ok (.pure (.tup [.str [n],B2])) [some (.pure P),some (.pure ru),some (.pure f),some (.pure pt),none,some (.pure (.str [n])),some (.pure B)]:=by generalize D.str [n]=z at*;simp[aB,bo,cL,cf,aa,bD,g,ba,S.d]
theorem qag{P f pt:D}{h w:Int}(x0:ag ru (.int 0)=some (.pure (.int h)))(x1:ag ru (.int 1)=some (.pure (.int w)))(m0:cG (.int h) (.int h)=some (.pure (.int h2)))(m1:cG (.int w) (.int w)=some (.pure (.int w2))):aM (a7 (aw (a7 (aw (ar cG (aj ag 1 (ae (eD (.int 0)))) (ae (aj ag 1 (ae (eD (.int 0)))))) (aw (ar cG (aj ag 1 (ae (eD (.int 1)))) (ae (aj ag 1 (ae (eD (.int 1)))))) (aw (aF dt (au 4)) aN)))) (aw (aa 2) (aw (aa 3) aN)))) (w7 P ru f pt (some (.own (.lst acc))))=.ok (.ret (.pure (gH (.tup [.int h2,.int w2,.tup acc]) f pt))) (w7 P ru f pt (some (.own (.lst acc)))):=by have e:dt (.lst acc)=some (.pure (.tup acc)):=rfl;generalize D.lst acc=A at*;simp[aj,ck,ar,au,aa,x0,x1,m0,m1,e,S.d]
theorem Lr{h:Nat}{bs:List (Nat×List Tx)}(R:cC h w bs)(f pt:D):lb [.pure (gH (aJ h w bs) f pt)]=some (.pure (gH (if h<=2/\w<=2 then aJ (h*h) (w*w) (tw h bs)else aJ h w bs) f pt),[.pure (gH (aJ h w bs) f pt)]):=by
 have h1:=R.h1;have w1:=R.w1;have n1:=R.n1;have x:=jC h w bs;have s1:=qac (aJ h w bs) f pt;have s2:=qad (P:=gH (aJ h w bs) f pt) (f:=f) (pt:=pt) x.1 x.2.1 (gt_int (h:Int) 2) (gt_int (w:Int) 2);have hb:((decide ((2:Int)<(h:Int)))||decide ((2:Int)<(w:Int)))=decide ¬(h<=2/\w<=2):=by rw[Qi,Bool.or_eq_true,decide_eq_true_eq,decide_eq_true_eq,decide_eq_true_eq];lia
 rw[hb]at s2;by_cases hs:h<=2/\w<=2
 .rw[if_pos hs];rw[decide_eq_false (~~~hs)]at s2;have c:=pj (cs:=[5,6]) (g:=bR 2 (aT (ak [] 5) (aT (ak [] 6) bX))) (t:=cH) (el:=a7 (aw (aa 5) (aw (aB pF [.val (aa 1),.val (aa 6)]) aN))) bG (λb:Nat×List Tx=>bG (b.1,lay h bs b.2)) (w7 (gH (aJ h w bs) f pt) (aJ h w bs) f pt none) bs [] (by rw[jw];simp;lia) λb hb=>⟨_,_,.pure (bG (b.1,lay h bs b.2)),[some (.pure (gH (aJ h w bs) f pt)),some (.pure (aJ h w bs)),some (.pure f),some (.pure pt),none,some (.pure (.str [b.1])),some (.pure (bu b.2))],rfl,rfl,qaf (z7N R (Lp R hb) Y' Y'),rfl,rfl⟩;rw[Qv]at c;have s3:=qae (BD:=.ax) x.2.2 c;have m0:=mul_int (h:Int) (h:Int) Y' Y';have m1:=mul_int (w:Int) (w:Int) Y' Y';rw[<-Int.natCast_mul]at m0 m1;have s4:=qag (P:=gH (aJ h w bs) f pt) (f:=f) (pt:=pt) (acc:=bs.map λb:Nat×List Tx=>bG (b.1,lay h bs b.2)) x.1 x.2.1 m0 m1;have eb:bs.map (λb:Nat×List Tx=>bG (b.1,lay h bs b.2))=(tw h bs).map bG:=by unfold tw;rw[WV];rfl
  rw[eb]at s3 s4;rw[lb,zK];exact v9 ((bQ s1).trans ((bQ s2).trans ((bQ s3).trans s4)))
 .rw[if_neg hs];rw[decide_eq_true hs]at s2;rw[lb,zK];exact v9 ((bQ s1).trans (jA s2))
theorem Ls{P Q:D}{t:Int}{b:Bool}(e:bz (.int t) (.int 1)=some (.pure (.bl b)))(g:GT [.pure P]=some (.pure Q,[.pure P])):aq (bf (aD (aj bz 1 (ae (eD (.int 1))))) (aM (aa 0)) bj) (aM (aB GT [.val (aa 0)])) [some (.pure P),some (.pure (.int t))]=.ok (.ret (.pure (if b then P else Q))) [some (.pure P),some (.pure (.int t))]:=by cases b with|true=>refine jA ?_;simp[aD,aj,ck,au,aa,e]|false=>rw[bQ (W':=[some (.pure P),some (.pure (.int t))]) #v[aD,aj,ck,au,e]];simp[aB,bo,cL,cf,aa,bD,g,ba,S.d]
theorem zcT{h:Nat}{bs:List (Nat×List Tx)}(R:cC h w bs)(f pt:D)(t:Int)(ht:t=1\/t=2):ll [.pure (gH (aJ h w bs) f pt),.pure (.int t)]=some (.pure (gH (if t=2/\h<=2/\w<=2 then aJ (h*h) (w*w) (tw h bs)else aJ h w bs) f pt),[.pure (gH (aJ h w bs) f pt),.pure (.int t)]):=by
 have g:=Lr R f pt;rw[ll,IX];rcases ht with rfl|rfl;.have e:bz (.int 1) (.int 1)=some (.pure (.bl true)):=rfl;have:=fj (n:=2) (Ls e g);rw[if_neg Y'];exact this
 .have e:bz (.int 2) (.int 1)=some (.pure (.bl false)):=rfl;have:=fj (n:=2) (Ls e g);by_cases hs:h<=2/\w<=2;.rw[if_pos ⟨rfl,hs⟩];rw[if_pos hs]at this;exact this
  .rw[if_neg λz=>hs z.2];rw[if_neg hs]at this;exact this
theorem zcP{d:D}(hp:cq d)(m:Nat)(A9:0<m)(vd:m<=26):∃(h w:Nat)(bs:List (Nat×List Tx))(n:Nat)(d':D),nX [.own d,.pure (.int m)]=some (.pure (.tup [aJ h w bs,.str [n]]),[.own d',.pure (.int m)])/\cC h w bs/\bs.length<=m/\n∈bs.map (·.1)/\cq d':=by obtain⟨h,w,bs,d',g,R,hl,cm⟩:=ZY hp m A9 vd;obtain⟨n,r,q,l,rfl,hV,R',z0,z1,z2,z3,z4⟩:=K3 R;refine⟨h,w,(n,(n::r.tail)::q)::l,n,d',?_,R',hl,.head _,cm⟩;have i0:ag (.tup (((n,r::q)::l).map bG)) (.int 0)=pS (.tup [sD n,bu (r::q)]):=(A8 _ _).1;have i1:dG (some 1) none (.tup (((n,r::q)::l).map bG))=pS (.tup (l.map bG)):=K2 _;have i2:a_ (.tup [.tup [sD n,bu ((n::r.tail)::q)]]) (.tup (l.map bG))=pS (.tup (((n,(n::r.tail)::q)::l).map bG)):=vX [_] _ V';unfold nX Iu aJ;unfold aJ at g;generalize D.tup (((n,r::q)::l).map bG)=B,D.tup (l.map bG)=B1,D.tup (((n,(n::r.tail)::q)::l).map bG)=B2,bu (r::q)=X,bu ((n::r.tail)::q)=M',D.tup (q.map .str)=UV at*;exact Run
theorem zdp(x:Tx)(h:x.length<=1000):bI (.str x)=some (.pure (.int x.length)):=by unfold bI;have:Wb=16777216:=rfl;simp only;rw[if_pos Y']
abbrev Pt:=Nat×Nat
variable{F:Pt->D}{aI ps qs t z1 z2 zs:List Pt}{prev:Option Pt}{q s:Pt}
abbrev ah(p:Pt):D:=.tup [.str [p.1],.str [p.2]]
structure lA(ts:List Nat)(zs:List Pt):Prop where
 ks:zs.map (·.1)=ts
 sg:∀z∈zs,97<=z.2/\z.2<=122
def mJ(zs:List Pt):D:=.bV (zs.map λz=>(Sum.inr [z.1],D.str [z.2]))
theorem zg5:∀r:Nat,r<3->∃sg:Tx,dG none (some (1+(r:Int))) (.str [112,113,114])=some (.pure (.str sg))/\0<sg.length/\sg.length<=3/\∀n∈sg,97<=n/\n<=122:=by
 intro r hr;have hz:Wb=16777216:=rfl;have:r=0\/r=1\/r=2:=by lia
 rcases this with rfl|rfl|rfl;.exact⟨[112],rfl,U',U',U'⟩
 .exact⟨[112,113],rfl,U',U',U'⟩
 .exact⟨[112,113,114],rfl,U',U',U'⟩
theorem Lu{P:Nat->Prop}:∀(ts:List Nat)(xs:List D),xs.length=(ts.map fg).length->(∀(i:Nat)d x,(ts.map fg)[i]?=some d->xs[i]?=some x->∃t s,d=.str [t]/\P s/\x=ah (t,s))->∃zs:List Pt,xs=zs.map ah/\zs.map (·.1)=ts/\∀z∈zs,P z.2|[],[],_,_=>⟨[],rfl,rfl,U'⟩|[],x::xs,h,_=>by simp at h|t::ts,[],h,_=>by simp at h|t::ts,x::xs,h,f=>by obtain⟨zs,rfl,e2,e3⟩:=Lu ts xs (~~~h) λi d x h1 h2=>f (i+1) d x (~~~h1) (~~~h2);obtain⟨t',s,e4,e5,e6⟩:=f 0 (.str [t]) x U' U';cases e4;exact⟨(t,s)::zs,#v[e6],#v[e2],λz hz=>by
 rcases Wt.mp hz with rfl|hz;.exact e5
 .exact e3 z hz⟩
theorem z9q(GD GT:DF)(hd:K9 GD)(ru:D)(ts:List Nat)(t1:ts.length<=26)(gt:GT [.pure ru]=some (.own (.lst (ts.map fg)),[.pure ru]))(lD:cq pd):∃(zs:List Pt)(bO:D),lA ts zs/\cq bO/\bt [0] 4 (aq (az (gN (eD (.str [112,113,114])) dF (cK (ar a_ (eD (.int 1)) (ae (aB GD [.io 0,.val (eD (.int 3))]))))) (ak [0] 2)) (aM (aF dt (ae (cb [3] (aV (aB GT [.val (aa 1)])) (ak [0] 3) cH (a7 (aw (aa 3) (aw (aj ag 2 (ae (aB GD [.io 0,.val (aF bI (au 2))]))) aN)))))))) [.own pd,.pure ru]=some (.pure (.tup (zs.map ah)),[.own bO,.pure ru]):=by
 obtain⟨r,kB,e1,l1,p1⟩:=hd pd 3 lD Y' Y';have uy:GD [.own pd,.pure (.int 3)]=some (.pure (.int r),[.own kB,.pure (.int 3)]):=e1;obtain⟨sg,es,s0,s1,s2⟩:=zg5 r l1;have a1:a_ (.int 1) (.int (r:Int))=some (.pure (.int (1+(r:Int)))):=rfl;have ls:bI (.str sg)=some (.pure (.int (sg.length:Int))):=zdp sg Y';obtain⟨xs,S',e,⟨bO,hpd',rfl⟩,hn,hf⟩:=yS (cs:=[3]) (g:=ak [0] 3) (t:=cH) (el:=a7 (aw (aa 3) (aw (aj ag 2 (ae (aB GD [.io 0,.val (aF bI (au 2))]))) aN))) (λZ=>∃pd,cq pd/\Z=[some (.own pd),some (.pure ru),some (.pure (.str sg)),none]) (λd x=>∃t s,d=.str [t]/\(97<=s/\s<=122)/\x=ah (t,s)) (ts.map fg) _ [] ⟨kB,p1,rfl⟩ (by rw[jw];simp;lia) λd hdm Z⟨pd,lD,e⟩=>by subst e;obtain⟨t,_,rfl⟩:=WH.mp hdm;obtain⟨i,d',e,l,p⟩:=hd pd sg.length lD s0 Y';have hx:=vh sg i l Y';have hm:sg.getD i 0∈sg:=#v[Ji,l];generalize sg.getD i 0=y at hx hm;refine⟨_,_,.pure (ah (t,y)),[some (.own d'),some (.pure ru),some (.pure (.str sg)),some (.pure (.str [t]))],rfl,rfl,?_,⟨d',p,rfl⟩,⟨t,y,rfl,s2 y hm,rfl⟩⟩;generalize D.int (sg.length:Int)=il at*;generalize D.str sg=ds at*;simp[aa,aj,ck,aB,bo,cL,dj,cf,bD,ba,au,ls,e,hx]
 obtain⟨zs,rfl,k1,k2⟩:=Lu ts xs hn hf;refine⟨zs,bO,⟨k1,k2⟩,hpd',?_⟩;have tu:dt (.lst (zs.map ah))=some (.pure (.tup (zs.map ah))):=rfl;rw[kz];rw[Qv]at e;clear k1 k2 hn hf ls;generalize hTL:ts.map fg=TL at*;generalize zs.map ah=ZD at*;generalize D.str sg=ds at*;simp[cy,bx,az,gN,dF,cK,aB,bo,cL,dj,cf,bD,ba,aa,au,uy,a1,es,gt,lu,bp];rw[e];simp[di,tu,c_,bF]
theorem z9p{h:Nat}{bs:List (Nat×List Tx)}(R:cC h w bs)(lD:cq pd):∃(zs:List Pt)(bO:D),lA (bs.map (·.1)) zs/\cq bO/\nY [.own pd,.pure (aJ h w bs)]=some (.pure (.tup (zs.map ah)),[.own bO,.pure (aJ h w bs)]):=by rw[nY,Iw];exact z9q cO kj K_ (aJ h w bs) (bs.map (·.1)) %[Wa|R.n1] (Ba R) lD
theorem Lv(h:Nat)(oh:List (Nat×List Tx))(t n:Nat):∀bs:List (Nat×List Tx),n∈bs.map (·.1)->dH (bs.map λb=>((Sum.inr [b.1]:bU),D.str (tx h oh t b.1))) (.inr [n])=some (.str (tx h oh t n))
 |[],hn=>by simp at hn|b::r,hn=>by
  by_cases e:b.1=n;.unfold dH;simp[Q2,e]
  .have hn:n∈r.map (·.1):=by
    rw[Wm]at hn;rcases Wt.mp hn with z|z;.exact absurd z.symm e
    .exact z
   have ih:=Lv h oh t n r hn;unfold dH at ih⊢;rw[Wm,Q2];have:decide (((Sum.inr [b.1]:bU))=Sum.inr [n])=false:=decide_eq_false #v[e];simp only[this];exact ih
theorem Lw{h:Nat}{bs:List (Nat×List Tx)}(t:Nat)(hn:n∈bs.map (·.1)):cg (dY h bs t) (.str [n])=some (.pure (.str (tx h bs t n))):=by show((eQ (.str [n])).bind λk=>(dH (bs.map λb=>((Sum.inr [b.1]:bU),D.str (tx h bs t b.1))) k).map S.pure)=_;simp only[eQ,Wu];rw[Lv h bs t n bs hn];rfl
theorem wg{α β:Type}(f:α->D)(g:β->D):∀(x:List α)(y:List β),kZ (x.map f) (y.map g)=(x.zip y).map λp=>.tup [f p.1,g p.2]|[],_=>rfl|_::_,[]=>rfl|a::x,b::y=>congrArg (D.tup [f a,g b]::.) (wg f g x y)
theorem zh1{T P B b:D}{x y:Tx}(t0:ag T (.int 0)=some (.pure A))(t1:ag T (.int 1)=some (.pure B))(p0:ag P (.int 0)=some (.pure a))(p1:ag P (.int 1)=some (.pure b))(i0:cg A a=some (.pure (.str x)))(i1:cg B b=some (.pure (.str y)))(hl:x.length=y.length)(hx:x.length<=1000):aM (j_ (ar cg (aj ag 0 (ae (eD (.int 0)))) (ae (aj ag 1 (ae (eD (.int 0)))))) (ar cg (aj ag 0 (ae (eD (.int 1)))) (ae (aj ag 1 (ae (eD (.int 1))))))) [some (.pure T),some (.pure P)]=.ok (.ret (.own (.lst ((x.zip y).map ah)))) [some (.pure T),some (.pure P)]:=by simp[j_,ar,aj,ck,au,t0,t1,p0,p1,i0,i1,S.d,mB,hl,wg];lia
theorem Lx{h w w':Nat}{bs:List (Nat×List Tx)}{t a b:Nat}(ha:a∈bs.map (·.1))(hb:b∈aA.map (·.1))(hl:(tx h bs t a).length=(tx h' aA t' b).length)(hx:(tx h bs t a).length<=1000):i8 [.pure (.tup [dY h bs t,dY h' aA t']),.pure (.tup [.str [a],.str [b]])]=some (.own (.lst (((tx h bs t a).zip (tx h' aA t' b)).map ah)),[.pure (.tup [dY h bs t,dY h' aA t']),.pure (.tup [.str [a],.str [b]])]):=by rw[i8,IQ];exact fj (zh1 rfl rfl rfl rfl (Lw t ha) (Lw t' hb) hl hx)
theorem i_(hp:cq pd)(h0:0<z:=by lia)(h1:z<=100000:=by lia):∃(s:Nat)(bO:D),cO [.own pd,.pure (.int z)]=some (.pure (.int s),[.own bO,.pure (.int z)])/\(s:Int)<z/\cq bO:=by obtain⟨m,rfl⟩:=Int.eq_ofNat_of_zero_le (Int.le_of_lt h0);obtain⟨s,bO,g,l,p⟩:=K_ pd m hp Y' Y';exact⟨s,bO,g,Y',p⟩
theorem zce(ts:List Nat):dh (ts.map fg)=some (ts.map λn=>[n]):=by induction ts with|nil=>rfl|cons a r ih=>show(dh (r.map fg)).map ([a]::.)=_;rw[ih];rfl
theorem Ly(hn:n∈ts)(hl:ts.length<=1000):∃i,i<ts.length/\nJ (.lst (ts.map fg)) (.str [n])=some (.pure (.int ((i:Nat):Int))):=by have hm:[n]∈ts.map λn=>[n]:=WH.mpr ⟨n,hn,rfl⟩;refine⟨(ts.map λn=>[n]).idxOf [n],by have:=List.idxOf_lt_length_of_mem hm;simpa using this,?_⟩;simp only[nJ];rw[zce];simp only;rw[if_pos ⟨hm,~~~hl⟩]
theorem ziB:∀c,c<26->mG.getD c 0=97+c:=by decide
theorem Bg{c:Nat}(hz:z=(c:Int))(hc:c<26):ag (.str mG) (.int z)=some (.pure (.str [97+c])):=by rw[hz,vh mG c hc Z',ziB c hc]
def Bh(h w lo hi:Nat)(fl:List Tx):Prop:=fl.length=h/\∀r∈fl,r.length=w/\∀n∈r,lo<=n/\n<hi
theorem Lz:∀zs:List Pt,g0 (zs.map ah)=some (zs.map λz=>(Sum.inr [z.1],D.str [z.2]))|[]=>rfl|z::r=>by have:=Lz r;simp only[Wm];simp[g0,eQ,this]
theorem sG(up:ts.Pairwise (.<.))(n1:ts.length<=26)(P:lA ts zs):cN (.tup (zs.map ah))=some (.own (mJ zs)):=by
 have hl:zs.length=ts.length:=by have:=congrArg Qf P.ks;simpa using this
 unfold cN;simp only[Lz,Wu,Wa];have hz:Wb=16777216:=rfl;rw[if_pos Y',vZ];.rfl
 .simp only[Qv,WV];rw[List.nodup_iff_pairwise_ne,Ql];rw[<-P.ks,Ql]at up;exact up.imp λ{a b}lX=>by simp;lia
def sgn(zs:List Pt)(x:Nat):Nat:=((zs.find? λz=>decide (z.1=x)).map (·.2)).getD 0
theorem sH(P:lA ts zs){x:Nat}(hx:x∈ts):cg (mJ zs) (.str [x])=some (.pure (.str [sgn zs x]))/\97<=sgn zs x/\sgn zs x<=122:=by rw[<-P.ks]at hx;cases e:zs.find? λb=>decide (b.1=x)with|none=>obtain⟨b,hb,rfl⟩:=WH.mp hx;have:=List.find?_eq_none.mp e b hb;simp at this|some b=>
 have es:sgn zs x=b.2:=by unfold sgn;rw[e];rfl
 rw[es];refine⟨?_,P.sg b (List.mem_of_find?_eq_some e)⟩;show((eQ (.str [x])).bind λk=>(dH (zs.map λz=>((Sum.inr [z.1]:bU),D.str [z.2])) k).map S.pure)=_;have hv:dH (zs.map λz=>((Sum.inr [z.1]:bU),D.str [z.2])) (.inr [x])=some (.str [b.2]):=by unfold dH;rw[List.find?_map];simp[Function.comp_def,e]
 simp only[eQ,Wu,hv,WE]
structure dZ(h w:Nat)(bs:List (Nat×List Tx))(n:Nat)(zs:List Pt):Prop where
 R:cC h w bs
 f:n∈bs.map (·.1)p:lA (bs.map (·.1)) zs
abbrev aK(h w:Nat)(bs:List (Nat×List Tx))(n:Nat)(zs:List Pt):D:=gH (aJ h w bs) (.str [n]) (.tup (zs.map ah))
theorem LA{q:Nat}(hq:q<ts.length):∃t,t∈ts/\ag (.lst (ts.map fg)) (.int (q:Int))=some (.pure (.str [t])):=by refine⟨ts[q],QK hq,?_⟩;simp[ag,k6,hq]
abbrev oi(s k:Nat):List Nat:=(WI k).map λj=>97+(s+j)
theorem LB(s k:Nat):oi s (k+1)=oi s k++[97+(s+k)]:=by unfold oi;rw[List.range_succ,WO];rfl
theorem Bi(xs:List D)(h:xs.length<=1000):bI (.lst xs)=some (.pure (.int xs.length)):=by unfold bI;rfl
theorem zcQ{h:Nat}{bs:List (Nat×List Tx)}(p:dZ h w bs n zs)(n4:bs.length<=4)(lD:cq pd):∃(aA:List (Nat×List Tx))(n':Nat)(aI:List Pt)(bO:D),dZ h w aA n' aI/\aA.length<=8/\cq bO/\rW [.own pd,.pure (aK h w bs n zs)]=some (.pure (aK h w aA n' aI),[.own bO,.pure (aK h w bs n zs)]):=by
 have R:=p.R;have⟨h0,h1,w0,w1,_,n0,n1,_,_,_⟩:=R;have hz:Wb=16777216:=rfl;have tl:(bs.map (·.1)).length=bs.length:=Wa ..;have gt:=Ba R;have ln:bI (.lst ((bs.map (·.1)).map fg))=some (.pure (.int bs.length)):=#v[bI];have ml:=mul_int 2 bs.length Y' Y';obtain⟨s,kB,gd,s1,hp1⟩:=i_ lD (z:=27-2*bs.length);have⟨x0,x1,x2⟩:=jC h w bs;have db:=si R;have dp:=sG R.up Y' p.p;obtain⟨i,hi,ei⟩:=Ly p.f Y';have mi:=mul_int 2 (i:Int) Y' Y';have rg:∀Z,jJ (.pure (.int (2*(bs.length:Int)))) Z=.ok (dA 0 (2*bs.length)) Z:=λZ=>by have:=vi (2*bs.length) Y' Z;simpa using this
 rw[rW,Iy];generalize hx:bt _ _ _ _=X;obtain⟨y,hx,hy⟩:=gF hx rfl;replace hx:=fw hx HD;obtain⟨Z,hδ,hx⟩:=nm hx;obtain⟨S',⟨bO,aA,aI,Bj,Bk,oj,cm,k1,k2,k3,k4,rfl⟩,hx⟩:=fL hx (ds:=dA 0 (2*bs.length)) (Os:=Z) (by subst hδ;exact rF) (λk S'=>∃(pd:D)(aA:List (Nat×List Tx))(aI:List Pt)(Bj Bk oj:Option S),cq pd/\aA.map (·.1)=oi s k/\(∀b∈aA,Bh h w (97+s) (97+s+2*bs.length) b.2)/\aI.map (·.1)=oi s k/\(∀z∈aI,97<=z.2/\z.2<=122)/\S'=(some (.own pd)::Z.tail).take 8++[some (.own (.lst (aA.map bG))),some (.own (.lst (aI.map ah))),Bj,Bk,oj,none]) ⟨kB,[],[],none,none,none,hp1,rfl,U',rfl,U',by subst hδ;rfl⟩ (λk d W' hd hh=>by
  obtain⟨pd,aA,aI,Bj,Bk,oj,hp,k1,k2,k3,k4,e⟩:=hh
  subst hδ e;clear hx hy;obtain⟨hk,rfl⟩:=VE hd;refine⟨_,rfl,λy hx=>?_⟩;obtain⟨t,ht,et⟩:=LA (ts:=bs.map (·.1)) (q:=k/2) Y';have dv:ig (.int k) (.int 2)=some (.pure (.int ((k/2:Nat):Int))):=KS k 2 Y' Y';obtain⟨b,hb,_,_,eb⟩:=n_ ht;have rb:=R.bE b hb;have xb:cg (cJ bs) (.str [t])=some (.pure (.tup (b.2.map .str))):=by rw[sj ht,eb]
  obtain⟨sx,s1,s2⟩:=sH p.p ht;generalize k/2=q at*;have lx:=Bg (c:=s+k) (z:=(s:Int)+k) Y' Y';replace hx:=fw hx HD;obtain⟨Z,hδ,hx⟩:=nm hx;obtain⟨S',⟨bO,fl,o12',cm,f1,f2,rfl⟩,hx⟩:=fL hx (ds:=b.2.map .str) (Os:=Z) (by subst hδ;exact rF) (λj S'=>∃(pd:D)(fl:List Tx)(oj:Option S),cq pd/\fl.length=j/\(∀r∈fl,r.length=w/\∀n∈r,97+s<=n/\n<97+s+2*bs.length)/\S'=(some (.own pd)::Z.tail).take 11++[some (.own (.lst (fl.map .str))),oj,none]) ⟨pd,[],oj,hp,rfl,U',by subst hδ;rfl⟩ λj d W' hd hh=>by
   obtain⟨pd,fl,oj,hp,f1,f2,e⟩:=hh
   subst hδ e;clear hx;rw[Wj,Qc]at hd;obtain⟨row,hrow,rfl⟩:=hd;have hj:=(W6.mp hrow).1;have hr:=rb.2 row (Wx hrow);refine⟨_,rfl,λy hx=>?_⟩;replace hx:=xp hx (rfl:_=[_,_,_,_,_,_,_,_,_,_,_,_,_,_]);generalize hE:cb [13] _ _ _ _=E at hx;obtain⟨Z,hδ,hx⟩:=nm hx;obtain⟨xs,S',c,⟨bO,cm,e'⟩,xl,xr⟩:=Yz hE (Z:=Z) (W':=Z) (ds:=row.map fg) (by subst hδ;rfl) V' (λS'=>∃pd,cq pd/\S'=some (.own pd)::Z.tail) (λu x=>∃n,(97+s<=n/\n<97+s+2*bs.length)/\x=.str [n]) ⟨pd,hp,by subst hδ;rfl⟩ (λd hd S'⟨pd,hp,e⟩=>by subst hδ e;clear hx hE;obtain⟨m,hm,rfl⟩:=WH.mp hd;obtain⟨r,bO,g2,l2,cm⟩:=i_ hp (z:=2);obtain⟨q,hq,eq⟩:=Ly (hr.2 m hm) Y';have mq:=mul_int 2 (q:Int) Y' Y';have lq:=Bg (c:=s+2*q+r) (z:=(s:Int)+2*q+r) Y' Y';exact⟨_,_,.pure (.str [97+(s+2*q+r)]),_,rfl,rfl,rF,by exact⟨bO,cm,rfl⟩,⟨_,Y',rfl⟩⟩) (by subst hδ;rfl);obtain⟨x,rfl,nh⟩:=yU (P:=λn=>97+s<=n/\n<97+s+2*bs.length) (Ga xl xr λd x u h=>h);have xl':x.length=w:=by simpa[hr.1]using xl
   have jn:=F9 x Y';subst hδ e';clear hE;have j9:j<16777216:=by lia
   refine⟨_,hx.symm.trans rF,bO,fl++[x],_,cm,#v[f1],?_,by rw[WO];rfl⟩;intro r kU;rcases Qe.mp kU with kU|kU;.exact f2 r kU
   .rw[QN.mp kU];exact⟨xl',nh⟩
  subst hδ;rw[Wa,rb.1]at f1;have l1:aA.length=k:=by have:=congrArg Qf k1;simpa using this
  have l2:aI.length=k:=by have:=congrArg Qf k3;simpa using this
  have oD:k<16777216:=by lia
  have fin:∀wj,Bh h w (97+s) (97+s+2*bs.length) wj->(aA++[(97+(s+k),wj)]).map (·.1)=oi s (k+1)/\(∀b∈aA++[(97+(s+k),wj)],Bh h w (97+s) (97+s+2*bs.length) b.2)/\(aI++[(97+(s+k),sgn zs t)]).map (·.1)=oi s (k+1)/\∀z∈aI++[(97+(s+k),sgn zs t)],97<=z.2/\z.2<=122:=λwj ok=>by
   refine⟨by rw[WO,k1,LB];rfl,λb hb=>?_,by rw[WO,k3,LB];rfl,λz hz=>?_⟩
   .rcases Qe.mp hb with hb|hb;.exact k2 b hb
    .rw[QN.mp hb];exact ok
   .rcases Qe.mp hz with hz|hz;.exact k4 z hz
    .rw[QN.mp hz];exact⟨s1,s2⟩
  obtain⟨r0,rs,rfl⟩:∃r0 rs,fl=r0::rs:=by cases fl with|nil=>simp at f1;lia|cons a l=>exact⟨a,l,rfl⟩
  have lr:=f2 r0 Wl;have q0:=pM (k:Int) (2*(i:Int));have y0:ag (.lst (.str r0::rs.map .str)) (.int 0)=some (.pure (.str r0)):=#v[ag,ph];have y1:=K1 r0 Y';have y2:=add_str [97+(s+k)] r0.tail V';have z0:fA (rs.length+1) 0=some 0:=by unfold fA;rw[if_pos Y',if_pos Y'];rfl
  have mS(x:Tx)(y:List Tx):(x::y).map D.str=.str x::y.map .str:=rfl;rw[mS]at hx;have hL:97+s<=97+(s+k)/\97+(s+k)<97+s+2*bs.length:=by lia
  generalize 97+(s+k)=L at*;cases hb:(k:Int)==2*(i:Int)<;>rw[hb]at q0;.have⟨u1,u2,u3,u4⟩:=fin (r0::rs) ⟨f1,f2⟩;exact⟨_,hx.symm.trans Run,bO,_,_,_,_,_,cm,u1,u2,u3,u4,by rw[WO,WO];rfl⟩
  .have⟨u1,u2,u3,u4⟩:=fin (([L]++r0.tail)::rs) ⟨f1,λr hr=>by
    rcases Wt.mp hr with rfl|hr
    .refine⟨by have:=lr.1;simp;lia,λm hm=>?_⟩;rcases Qe.mp hm with hm|hm;.rw[QN.mp hm];exact hL
     .exact lr.2 m (List.mem_of_mem_tail hm)
    .exact f2 r (Wi _ hr)⟩;exact⟨_,hx.symm.trans Run,bO,_,_,_,_,_,cm,u1,u2,u3,u4,by rw[WO,WO];rfl⟩);subst hδ;rw[show(dA 0 (2*bs.length)).length=2*bs.length by simp[dA]]at k1 k3;have l1:aA.length=2*bs.length:=by have:=congrArg Qf k1;simpa using this
 have lx:=Bg (c:=s+2*i) (z:=(s:Int)+2*i) Y' Y';rw[hy (hx.symm.trans rF).symm rfl];refine⟨aA,97+(s+2*i),aI,bO,⟨⟨h0,h1,w0,w1,R.hw,Y',Y',?_,?_,?_⟩,?_,by rw[k1];exact⟨k3,k4⟩⟩,Y',cm,rfl⟩;.rw[k1,Ql];exact List.pairwise_lt_range.imp λ{a b}lX=>by lia
 .intro b hb;have:b.1∈aA.map (·.1):=Qj hb;rw[k1]at this;obtain⟨j,hj,e⟩:=WH.mp this;have hj:j<2*bs.length:= ~~~hj;lia
 .intro b hb;refine⟨(k2 b hb).1,λr hr=>⟨((k2 b hb).2 r hr).1,λm hm=>?_⟩⟩;have:=((k2 b hb).2 r hr).2 m hm;rw[k1];exact WH.mpr ⟨m-97-s,by simp;lia,Y'⟩
 .rw[k1];exact WH.mpr ⟨2*i,by simp;lia,rfl⟩
theorem LC{α:Type}(xs:List α){k:Nat}(hz:z=(k:Int))(h:k<=xs.length):b_ xs none (some z)=xs.take k:=by subst hz;unfold b_;rw[Lake.Cr,Lake.Cq,Uh h];simp
theorem LD{α:Type}(xs:List α){k:Nat}(hz:z=(k:Int))(h:k<=xs.length):b_ xs (some z) none=xs.drop k:=by subst hz;unfold b_;rw[Lake.Cr,Lake.Cq,Uh h,List.take_of_length_le U']
theorem qah(x:Tx){k:Nat}(hz:z=(k:Int))(h:k<=x.length)(hl:x.length<=1000):dG none (some z) (.str x)=some (.pure (.str (x.take k))):=by have e:dG none (some z) (.str x)=if x.length<=Wb then some (.pure (.str (b_ x none (some z))))else none:=rfl;have:Wb=16777216:=rfl;rw[e,if_pos Y',LC x hz h]
theorem qai(x:Tx){k:Nat}(hz:z=(k:Int))(h:k<=x.length)(hl:x.length<=1000):dG (some z) none (.str x)=some (.pure (.str (x.drop k))):=by have e:dG (some z) none (.str x)=if x.length<=Wb then some (.pure (.str (b_ x (some z) none)))else none:=rfl;have:Wb=16777216:=rfl;rw[e,if_pos Y',LD x hz h]
theorem Bl{k:Nat}{d:D}(h:ds[k]?=some d):ag (.tup ds) (.int (k:Int))=some (.pure d):=by simp[ag,k6,h]
def bY{α:Type}(l:List α)(k:Nat)(a:α):List α:=l.take k++[a]++l.drop (k+1)
theorem sI{α β:Type}(f:α->β)(l:List α)(k:Nat)(a:α):(bY l k a).map f=bY (l.map f) k (f a):=#v[bY]
theorem LF{α:Type}{l:List α}{k:Nat}{a:α}(h:l[k]?=some a):bY l k a=l:=by obtain⟨hk,rfl⟩:=W6.mp h;unfold bY;rw[Jl];show l.take k++l[k]::l.drop (k+1)=l;rw[<-QO hk,List.take_append_drop]
theorem Bm{α:Type}{l:List α}{k:Nat}{a:α}(h:k<l.length):(bY l k a).length=l.length:=by simp[bY];lia
theorem sJ{α:Type}{l:List α}{k:Nat}{a x:α}(h:x∈bY l k a):x=a\/x∈l:=by
 unfold bY at h;rcases Qe.mp h with h|h
 .rcases Qe.mp h with h|h;.exact .inr (List.mem_of_mem_take h)
  .exact .inl (~~~h)
 .exact .inr (List.mem_of_mem_drop h)
theorem zgv(xs:List D):bI (.tup xs)=some (.pure (.int xs.length)):=rfl
theorem zg4:∀r:Nat,r<4->∃y,ag (.str [112,113,114,115]) (.int (r:Int))=some (.pure (.str [y]))/\97<=y/\y<=122:=by
 intro r hr;refine⟨_,vh [112,113,114,115] r (~~~hr) Z',?_⟩;have:r=0\/r=1\/r=2\/r=3:=by lia
 rcases this with rfl|rfl|rfl|rfl<;>exact⟨Z',Z'⟩
theorem Bn{k:Nat}(hk:k<ds.length)(hl:ds.length<=900)(d:D):dG none (some (k:Int)) (.tup ds)=some (.pure (.tup (ds.take k)))/\a_ (.tup (ds.take k)) (.tup [d])=some (.pure (.tup (ds.take k++[d])))/\dG (some ((k:Int)+1)) none (.tup ds)=some (.pure (.tup (ds.drop (k+1))))/\a_ (.tup (ds.take k++[d])) (.tup (ds.drop (k+1)))=some (.pure (.tup (bY ds k d))):=by
 refine⟨?_,vX _ _ V',?_,vX _ _ V'⟩;.show some (S.pure (D.tup (b_ ds none (some (k:Int)))))=_;rw[LC ds rfl Y']
 .show some (S.pure (D.tup (b_ ds (some ((k:Int)+1)) none)))=_;rw[LD ds (k:=k+1) Y' Y']
theorem zhP{h:Nat}{bs:List (Nat×List Tx)}(p:dZ h w bs n zs)(lD:cq pd):∃(aA:List (Nat×List Tx))(aI:List Pt)(bO:D),dZ h w aA n aI/\aA.length=bs.length/\cq bO/\rX [.own pd,.pure (aK h w bs n zs)]=some (.pure (aK h w aA n aI),[.own bO,.pure (aK h w bs n zs)]):=by
 have R:=p.R;have⟨h0,h1,w0,w1,_,n0,n1,_,_,_⟩:=R;have lz:zs.length=bs.length:=by have:=congrArg Qf p.p.ks;simpa using this
 have ln:=zgv (zs.map ah);rw[Wa,lz]at ln;obtain⟨s,kB,gd1,s1,hp1⟩:=i_ (z:=bs.length) lD;obtain⟨r2,om,gd2,_,hp2⟩:=i_ (z:=2) hp1;have⟨x0,x1,x2⟩:=jC h w bs;have e2:=pM r2 0;rw[rX,IA]
 cases hb:(r2:Int)==0with|true=>
  rw[hb]at e2;obtain⟨r4,pd4,gd4,l4,hp4⟩:=i_ (z:=4) hp2;obtain⟨y,ly,y1,y2⟩:=zg4 r4 Y';obtain⟨z,ez⟩:∃z,zs[s]?=some z:=⟨zs[s]' Y',#v[show s<zs.length by lia]⟩;have xz:=Bl (ds:=zs.map ah) (k:=s) (d:=ah z) (by rw[Wj,ez];rfl);have xt:ag (ah z) (.int 0)=some (.pure (.str [z.1])):=rfl;have⟨c1,c2,c3,c4⟩:=Bn (ds:=zs.map ah) (k:=s) V' V' (ah (z.1,y));rw[<-sI ah zs s (z.1,y)]at c4;refine⟨bs,bY zs s (z.1,y),pd4,⟨R,p.f,⟨?_,λu hu=>?_⟩⟩,rfl,hp4,?_⟩;.rw[sI,<-p.p.ks];exact LF (by rw[Wj,ez];rfl)
  .rcases sJ hu with rfl|hu;.exact⟨y1,y2⟩
   .exact p.p.sg u hu
  .unfold aK;generalize aJ h w bs=ru at*;generalize ah z=UV at*;generalize D.tup (zs.map ah)=PT at*;generalize D.tup ((bY zs s (z.1,y)).map ah)=PU at*;exact Run|false=>rw[hb]at e2;obtain⟨b,eb⟩:∃b,bs[s]?=some b:=⟨bs[s]' Y',#v[show s<bs.length by lia]⟩;have LG:=Wx eb;have xb:=Bl (ds:=bs.map bG) (k:=s) (d:=bG b) (by rw[Wj,eb];rfl);obtain⟨r,pd3,gd3,l3,hp3⟩:=i_ (z:=h) hp2;obtain⟨c,pd4,gd4,l4,hp4⟩:=i_ (z:=w) hp3;have e3:=pM ((r:Int)+c) 0;cases hc:(r:Int)+(c:Int)==0with|true=>rw[hc]at e3;refine⟨bs,zs,pd4,p,rfl,hp4,?_⟩;unfold aK;generalize aJ h w bs=ru at*;generalize D.tup (zs.map ah)=PT at*;generalize D.tup (bs.map bG)=BT at*;exact Run|false=>
   rw[hc]at e3;obtain⟨i,pd5,gd5,l5,hp5⟩:=i_ (z:=bs.length) hp4;obtain⟨t,ht,et⟩:=LA (ts:=bs.map (·.1)) (q:=i) V';have rb:=R.bE b LG;obtain⟨lr,elr⟩:∃lr,b.2[r]?=some lr:=⟨b.2[r]' Y',#v[show r<b.2.length by lia]⟩;have rl:=rb.2 lr (Wx elr);have xl:=Bl (ds:=b.2.map D.str) (k:=r) (d:=.str lr) (by rw[Wj,elr];rfl);have s1:=qah lr (k:=c) rfl Y' Y';have s2:=qai lr (k:=c+1) (z:=(c:Int)+1) Y' Y' Y';have s3:=add_str (lr.take c) [t] V';have s4:=add_str (lr.take c++[t]) (lr.drop (c+1)) V';rw[show lr.take c++[t]++lr.drop (c+1)=bY lr c t from rfl]at s4;have gt:=Ba R;have⟨k1,k2,k3,k4⟩:=Bn (ds:=b.2.map D.str) (k:=r) V' V' (.str (bY lr c t));rw[<-sI D.str]at k4;have⟨b1,b2,b3,b4⟩:=Bn (ds:=bs.map bG) (k:=s) V' V' (bG (b.1,bY b.2 r (bY lr c t)));rw[<-sI bG]at b4;have ef:(bY bs s (b.1,bY b.2 r (bY lr c t))).map (·.1)=bs.map (·.1):=by rw[sI];exact LF (by rw[Wj,eb];rfl)
   have eL:=Bm (l:=bs) (k:=s) (a:=(b.1,bY b.2 r (bY lr c t))) Y';refine⟨bY bs s (b.1,bY b.2 r (bY lr c t)),zs,pd5,⟨⟨R.h0,R.h1,R.w0,R.w1,R.hw,Y',Y',%[ef|R.up],λu hu=>?_,λu hu=>?_⟩,%[ef|p.f],%[ef|p.p]⟩,eL,hp5,?_⟩
   .rcases sJ hu with rfl|hu;.exact R.qV b LG
    .exact R.qV u hu
   .rw[ef];rcases sJ hu with rfl|hu
    .refine⟨%[Bm Y'|rb.1],λq hq=>?_⟩;rcases sJ hq with rfl|hq
     .refine⟨%[Bm Y'|rl.1],λm hm=>?_⟩;rcases sJ hm with rfl|hm;.exact ht
      .exact rl.2 m hm
     .exact rb.2 q hq
    .exact R.bE u hu
   .unfold aK;have eb':bG b=.tup [.str [b.1],.tup (b.2.map D.str)]:=rfl;have eB':bG (b.1,bY b.2 r (bY lr c t))=.tup [.str [b.1],.tup ((bY b.2 r (bY lr c t)).map D.str)]:=rfl;have eR:aJ h w (bY bs s (b.1,bY b.2 r (bY lr c t)))=.tup [.int h,.int w,.tup ((bY bs s (b.1,bY b.2 r (bY lr c t))).map bG)]:=rfl;rw[eR];rw[eb']at xb;rw[eB']at b2 b4;generalize aJ h w bs=ru at*;generalize D.tup (zs.map ah)=PT at*;generalize D.tup (bs.map bG)=BT at*;generalize D.tup (b.2.map D.str)=KT at*;generalize D.tup ((bY b.2 r (bY lr c t)).map D.str)=KU at*;generalize D.tup ((bY bs s (b.1,bY b.2 r (bY lr c t))).map bG)=BU at*;generalize D.str (bY lr c t)=L3 at*;generalize D.str (lr.take c++[t])=L4 at*;generalize D.str (lr.take c)=L1 at*;generalize D.str (lr.drop (c+1))=L2 at*;generalize(bs.map (·.1)).map fg=TT at*;exact Run
def PD(m:Nat)(d:D):Prop:=∃(h w:Nat)(bs:List (Nat×List Tx))(n:Nat)(zs:List Pt),d=aK h w bs n zs/\dZ h w bs n zs/\bs.length<=m
theorem PD.up{m':Nat}{d:D}(h:PD m d)(hm:m<=m':=by lia):PD m' d:=by obtain⟨a,b,c,e,f,g,i,j⟩:=h;exact⟨a,b,c,e,f,g,i,Y'⟩
theorem twP{d:D}(h:PD 8 d):∃d',PD 8 d'/\lb [.pure d]=some (.pure d',[.pure d]):=by
 obtain⟨h,w,bs,n,zs,rfl,p,l⟩:=h;have e:=Lr p.R (.str [n]) (.tup (zs.map ah));by_cases hs:h<=2/\w<=2;.rw[if_pos hs]at e;exact⟨_,⟨h*h,w*w,tw h bs,n,zs,rfl,⟨Lq p.R hs.1 hs.2,%[sF|p.f],%[sF|p.p]⟩,by simp[tw];lia⟩,e⟩
 .rw[if_neg hs]at e;exact⟨_,⟨h,w,bs,n,zs,rfl,p,l⟩,e⟩
theorem LH(m:Nat)(hp:cq pd)(hz:z=m:=by rfl)(m0:0<m:=by lia)(m1:m<=26:=by lia):∃(ru f pt:D)(kB om:D),PD m (gH ru f pt)/\cq om/\nX [.own pd,.pure (.int z)]=some (.pure (.tup [ru,f]),[.own kB,.pure (.int z)])/\nY [.own kB,.pure ru]=some (.pure pt,[.own om,.pure ru]):=by subst hz;obtain⟨h,w,bs,n,d',e,R,l,hn,cm⟩:=zcP hp m m0 m1;obtain⟨zs,om,P,hp2,e2⟩:=z9p R cm;exact⟨_,_,_,d',om,⟨h,w,bs,n,zs,rfl,⟨R,hn,P⟩,l⟩,hp2,e,e2⟩
theorem lt_int(i j:Int):gL (.int i) (.int j)=some (.pure (.bl (decide (i<j)))):=rfl
theorem qaj(hp:cq pd):∃d1 d2 bO,((PD 4 d1/\PD 8 d2)\/PD 8 d1/\PD 4 d2)/\cq bO/\nZ [.own pd]=some (.pure (.tup [d1,d2]),[.own bO]):=by
 rw[nZ,IB];obtain⟨ru,f,pt,kB,om,P1,hp2,e1,e2⟩:=LH 4 hp (z:=4);obtain⟨y,pd3,e3,_,hp3⟩:=i_ hp2 (z:=6);have q0:=pM (y:Int) 0;cases hy:(y:Int)==0<;>rw[hy]at q0
 .obtain⟨h,w,bs,n,zs,ed,p,l⟩:=id P1;obtain⟨aA,n',aI,pd4,p4,l4,hp4,e4⟩:=zcQ p l hp3;have P4:PD 8 _:=⟨h,w,aA,n',aI,rfl,p4,l4⟩;rw[<-ed]at e4;generalize aK h w aA n' aI=sp at*;obtain⟨r5,pd5,e5,l5,hp5⟩:=i_ hp4 (z:=2);obtain⟨ot,P6,x6⟩:∃ot,PD 8 ot/\ag (.lst [gH ru f pt,sp]) (.int (r5:Int))=some (.pure ot):=by
   have:r5=0\/r5=1:=by lia
   rcases this with rfl|rfl;.exact⟨_,P1.up,rfl⟩
   .exact⟨_,P4,rfl⟩
  obtain⟨r7,pd7,e7,_,hp7⟩:=i_ hp5 (z:=3);obtain⟨ot7,P7,e8⟩:=twP P6;have q7:=pM (r7:Int) 0;have P8:PD 8 (if(r7:Int)==0then ot7 else ot):=by split<;>assumption
  obtain⟨h,w,bs,n,zs,e',p,l⟩:=id P8;obtain⟨aA,aI,pd9,p',l',hp9,e9⟩:=zhP p hp7;rw[<-e']at e9;have P9:PD 8 _:=⟨h,w,aA,n,aI,rfl,p',Y'⟩;generalize aK h w aA n aI=ot9 at*;have q4:=lt_int (y:Int) 4;have qak:cq (if decide ((y:Int)<4)then pd9 else pd7):=by split<;>assumption
  obtain⟨LI,pd11,oq,_,hp11⟩:=i_ qak (z:=2);have q11:=pM (LI:Int) 0;clear e' ed p p4 p';cases h11:(LI:Int)==0<;>cases h7:(r7:Int)==0<;>cases h4:decide ((y:Int)<4)<;>simp only[h7,h4,h11,if_true,Q8,if_false]at*<;>refine⟨_,_,pd11,?_,hp11,Run⟩<;>first|exact .inl ⟨P1,by assumption⟩|exact .inl ⟨P1,P1.up⟩|exact .inr ⟨by assumption,P1⟩|exact .inr ⟨P1.up,P1⟩
 .obtain⟨ru',f',pt',qd1,qd2,Q1,hq2,c1,c2⟩:=LH 3 hp3 (z:=3);exact⟨_,_,qd2,.inl ⟨P1,Q1.up⟩,hq2,Run⟩
open Lake.SO
theorem LJ(p:Pt):flat 49 (ah p)=true:=rfl
theorem LK(t:List Pt):(t.map ah).all (flat 49)=true:=by rw[JK,WF];intro p _;rfl
theorem LL(p q:Pt):aY (ah p) (ah q)=decide (p=q):=by obtain⟨a,b⟩:=p;obtain⟨c,d⟩:=q;rw[Qi];simp[aY,dS]
theorem wm(t:List Pt)(q:Pt):((t.map ah).any λe=>aY e (ah q))=decide (q∈t):=by induction t with|nil=>rfl|cons p r ih=>rw[Wm,Qr,ih,LL];rw[Qi];simp;exact⟨λh=>h.imp Eq.symm id,λh=>h.imp Eq.symm id⟩
theorem ziV(t:List Pt)(q:Pt):j5 true (ah q) (.lst (t.map ah))=some (.pure (.bl !decide (q∈t))):=by simp only[j5];rw[LJ,LK,wm];rfl
theorem ziU(t:List Pt)(q:Pt):nW true (ah q) (.tup (t.map ah))=some (.pure (.bl !decide (q∈t))):=by simp only[nW];rw[LJ,LK,wm];rfl
def Nd(U t:List Pt):Prop:=t.Nodup/\∀x∈t,x∈U
theorem Nd.len{U:List Pt}(h:Nd U t):t.length<=U.length:=List.Nodup.length_le_of_subset h.1 λx hx=>h.2 x hx
theorem Nd.add{U:List Pt}(h:Nd U t)(hq:q∈U):Nd U (dR t q):=⟨KO q h.1,λx hx=>by
 rcases(KN t q x).mp hx with z|z;.exact h.2 x z
 .rw[z];exact hq⟩
theorem zdY(t a b:List Pt):cn t (a++b)=cn (cn t a) b:=by unfold cn;rw[List.foldl_append]
abbrev rwD(x:Tx×Tx):D:=.tup [.str x.1,.str x.2]
theorem z9d{t:DT}{b:DS}(h1:t Z=.ok true W')(h2:b W'=.ok .next SZ):gi t b (n+1) Z=gi t b n SZ:=by simp only[gi,h1,jv,if_true,h2]
theorem za1{t:DT}{b:DS}(h1:t Z=.ok false W'):gi t b (n+1) Z=.ok .next W':=by simp[gi,h1]
def jE(T1 T2:List Nat):List Pt:=T1.flatMap λa=>T2.map λb=>(a,b)
theorem fU{T1 T2:List Nat}{p:Pt}:p∈jE T1 T2↔p.1∈T1/\p.2∈T2:=by obtain⟨a,b⟩:=p;simp[jE]
theorem LM(T1 T2:List Nat):(jE T1 T2).length=T1.length*T2.length:=by unfold jE;induction T1 with|nil=>simp|cons a r ih=>rw[List.flatMap_cons,Q6,ih,Wa,WT,Ug,Nat.add_comm]
structure Bo(H W:Nat)(B1 B2:List (Nat×List Tx)):Prop where
 R1:cC H W B1
 R2:cC H W B2
abbrev Bo.U(_:Bo H W B1 B2):List Pt:=jE (B1.map (·.1)) (B2.map (·.1))
def kids(B1 B2:List (Nat×List Tx))(p:Pt):List Pt:=((bE B1 p.1).flatten).zip (bE B2 p.2).flatten
theorem Bo.len(o:Bo H W B1 B2):o.U.length<=1000:=by rw[LM,Wa,Wa];have h1:=o.R1.n1;have h2:=o.R2.n1;exact Wy (QD h1 h2) Z'
theorem sL{h:Nat}{bs:List (Nat×List Tx)}(R:cC h w bs)(hn:n∈bs.map (·.1)):(bE bs n).length=h/\∀r∈bE bs n,r.length=w/\∀k∈r,k∈bs.map (·.1):=by obtain⟨b,hb,_,_,e⟩:=n_ hn;rw[e];exact R.bE b hb
theorem Bo.Bp(o:Bo H W B1 B2):∀p∈o.U,∀q∈kids B1 B2 p,q∈o.U:=λp hp q hq=>by have hp:=fU.mp hp;have hz:=Jc (show(q.1,q.2)∈_ from hq);obtain⟨r1,m1,k1⟩:=List.mem_flatten.mp hz.1;obtain⟨r2,m2,k2⟩:=List.mem_flatten.mp hz.2;exact fU.mpr ⟨((sL o.R1 hp.1).2 r1 m1).2 _ k1,((sL o.R2 hp.2).2 r2 m2).2 _ k2⟩
theorem LN:∀l1 l2:List Tx,(∀r∈l1,r.length=w)->(∀r∈l2,r.length=w)->l1.length=l2.length->((l1.zip l2).flatMap λx=>x.1.zip x.2)=l1.flatten.zip l2.flatten|[],[],_,_,_=>rfl|[],_::_,_,_,h=>by simp at h|_::_,[],_,_,h=>by simp at h|a::l1,b::l2,h1,h2,h=>by rw[Ja,List.flatMap_cons,LN l1 l2 (λr hr=>h1 r (Wi _ hr)) (λr hr=>h2 r (Wi _ hr)) (~~~h),List.flatten_cons,List.flatten_cons,List.zip_append (by rw[h1 a Wl,h2 b Wl])]
abbrev dE(p:Pt):List Tx:=[[p.1],[p.2]]
abbrev pP(p q:Pt):Bool:=ltL (dE p) (dE q)
def iG(ps:List Pt):Prop:=ps.Pairwise λp q=>pP p q=true
theorem zg3{p:Pt}(h:dE p=dE q):p=q:=by obtain⟨a,b⟩:=p;obtain⟨c,d⟩:=q;simpa[dE]using h
theorem Bq(ps:List Pt):ps.map ah=(ps.map dE).map jz:=by rw[WV];rfl
theorem LO:∀x y:List Tx,ltL x y=false->ltL y x=false->x=y
 |[],[],_,_=>rfl|[],_::_,h,_=>by cases h|_::_,[],_,h=>by cases h|a::x,b::y,h1,h2=>by
  have h1:(if a=b then ltL x y else decide (a<b))=false:=h1;have h2:(if b=a then ltL y x else decide (b<a))=false:=h2;by_cases e:a=b;.rw[if_pos e]at h1;rw[if_pos e.symm]at h2;rw[e,LO x y h1 h2]
  .rw[if_neg e,decide_eq_false_iff_not]at h1;rw[if_neg (Ne.symm e),decide_eq_false_iff_not]at h2;exact absurd (zq h1 e) h2
theorem z7U{α β:Type}(f:α->β){l' m:List β}(h:l'.Perm m):∀l:List α,m=l.map f->∃l'':List α,l''.Perm l/\l'=l''.map f:=by induction h with
 |nil=>intro l e;cases l with|nil=>exact⟨[],.refl _,rfl⟩|cons a l=>simp at e
 |cons x p ih=>intro l e;cases l with|nil=>simp at e|cons a l=>simp only[Wm,List.cons.injEq]at e;obtain⟨l'',p',e'⟩:=ih l e.2;exact⟨a::l'',p'.cons a,by rw[Wm,<-e',e.1]⟩
 |swap x y t=>intro l e;match l,e with|[],e=>simp at e|[_],e=>simp at e|a::b::r,e=>simp only[Wm,List.cons.injEq]at e;exact⟨b::a::r,.swap a b r,#v[e.1,e.2.1,e.2.2]⟩
 |trans p q ih1 ih2=>intro l e;obtain⟨l2,p2,e2⟩:=ih2 l e;obtain⟨l3,p3,e3⟩:=ih1 l2 e2;exact⟨l3,p3.trans p2,e3⟩
theorem Br(nd:t.Nodup)(hl:t.length<64):∃qs:List Pt,qs.Perm t/\iG qs/\k9 (.lst (t.map ah))=some (.own (.lst (qs.map ah))):=by
 obtain⟨qs,p,e⟩:=z7U dE (X_ (t.map dE)) t rfl;refine⟨qs,p,?_,?_⟩;.have u:=Ya (t.map dE);rw[e,Ql]at u;have oU:qs.Nodup:=p.nodup_iff.mpr nd;have:=u.and oU;refine this.imp λ{a b}h=>?_;show ltL (dE a) (dE b)=true;cases bc:ltL (dE a) (dE b)with|true=>rfl|false=>exact absurd (zg3 (LO _ _ bc h.1)) h.2
 .rw[Bq,Hl λk hk=>by obtain⟨x,_,rfl⟩:=WH.mp hk;simp (by rw[Wa];lia),e,Bq]
theorem zfP(h:iG ps):ps.Nodup:=List.Pairwise.imp (λ{a b}h e=>by subst e;have:=rD _ _ h;have h:ltL (dE a) (dE a)=true:=h;rw[h]at this;cases this) h
theorem zcK(h1:iG ps)(h2:iG qs)(p:ps.Perm qs):ps=qs:=List.Perm.eq_of_pairwise (le:=λa b=>pP a b=true) (λa b j j h1 h2=>by have:=rD _ _ h1;have h2:ltL (dE b) (dE a)=true:=h2;rw[h2]at this;cases this) h1 h2 p
def El(e:D):Prop:=(∃x:Tx,e=.str x/\x.length<=64)\/iS "str" e=some false
def sM(d:D):Prop:=iS "tuple" d=some false\/∃es,d=.tup es/\∀e∈es,El e
def Th(d:D):Prop:=iS "tuple" d=some false\/∃ds,d=.tup ds/\ds.length<=1000/\∀e∈ds,sM e
theorem zfe(h:es.length=2):∃l r,es=[l,r]:=by match es,h with|[l,r],_=>exact⟨l,r,rfl⟩
theorem jW{T:String}{d:D}{b:Bool}(h:Z[i]?=some (some (.pure d)))(e:iS T d=some b):fO T (au i) Z=.ok (.pure (.bl b)) Z:=by simp[fO,au,h,S.d,e]
theorem Bs{α:Type}(xs:List α)(p:α->Bool):kM (.lst (xs.map λn=>.bl (p n)))=some (.pure (.bl (xs.all p))):=by
 have e:(xs.map λn=>D.bl (p n))=(xs.map p).map D.bl:=by simp
 unfold kM;simp only[e,VA,WE];simp[JK,Function.comp_def]
theorem jF{t:DT}{a b:DS}(h:t Z=.ok x W'):bf t a b Z=if x then a W' else b W':=by unfold bf;rw[h];rfl
theorem ou(h:f Z=.ok (.pure (.bl x)) W'):cU (aD f) Z=.ok (!x) W':=#v[aD,h]
theorem kC(h:f Z=.ok (.pure (.bl x)) W'):aD f Z=.ok x W':=#v[aD,h]
theorem lE(h:f Z=.ok v W'):ae f Z=.ok v.d W':=#v[h]
theorem gq{g:BE}{x r:S}(e1:f Z=.ok x W')(e2:g W'=.ok y SZ)(h:p x.d y=some r):ar p f g Z=.ok r SZ:=#v[ar,e1,e2,h]
theorem wo{t u:DT}(h:t Z=.ok false W')(k:u W'=.ok x SZ):dz t u Z=.ok x SZ:=#v[h,k]
theorem bK{p:Prop}(h:p:=by exists "jv;HC bx aD az ar aj ck aa au fO KR bR aT bX S.d aB bo cL cf bD ba aF lZ zE",_,_,_<;>rfl):p:=h
theorem rt(e:f Z=.ok v W'):aM f Z=.ok (.ret v) W':=by unfold aM;rw[e];rfl
theorem nz{a b:DS}{x:Rs Fl}(e:a Z=.ok .next W')(h:b W'=x):aq a b Z=x:=dQ h e
theorem Bt{b:DS}(P:Prop)(I:List D->Dl->Prop)(hs:∀d rs Z,I (d::rs) Z->∃W',g (.pure d) Z=some W'/\((¬P/\∃SZ,b W'=.ok (.ret (.pure (.bl false))) SZ)\/∃SZ,b W'=.ok .next SZ/\I rs SZ)):∀ds Z,I ds Z->(¬P/\∃S',forL g b ds Z=.ok (.ret (.pure (.bl false))) S')\/∃S',forL g b ds Z=.ok .next S'/\I [] S'
 |[],Z,h=>.inr ⟨Z,rfl,h⟩|d::rs,Z,h=>by
  obtain⟨W',e1,⟨np,SZ,e2⟩|⟨SZ,e2,h2⟩⟩:=hs d rs Z h;.exact .inl ⟨np,SZ,iF e1 e2⟩
  .rw[gp e1 e2];exact Bt P I hs rs SZ h2
abbrev sN(G:DF)(as:List S)(P:Prop):Prop:=∃b,G as=some (.pure (.bl b),as)/\(b=true↔P)
theorem sN.no{P:Prop}(h:G as=some (.pure (.bl false),as))(n:¬P):sN G as P:=⟨false,h,nofun,λp=>(n p).elim⟩
theorem LP(i j:Int):∃b,l9 (.int i) (.int j)=pS (.bl b)/\Hid (b=true↔i<=j):=⟨_,rfl,decide_eq_true_iff⟩
theorem gU(i j:Int):∃b,eK (.int i) (.int j)=pS (.bl b)/\Hid (b=false↔i=j):=by obtain⟨b,e,h⟩:=KZ i j;exact⟨!i==j,rfl,by show _↔_;simp⟩
theorem LQ(v:D):∀ps:List Pt,ke (ps.map λp=>.tup [ah p,v])=some (ps.map λp=>(ah p,v))|[]=>rfl|p::r=>by have e:(gG true (ah p)&&(cF 6 (ah p)).isSome)=true:=rfl;show(if(gG true (ah p)&&(cF 6 (ah p)).isSome)=true then(ke (r.map λp=>.tup [ah p,v])).map ((ah p,v)::.)else none)=_;rw[if_pos e,LQ v r];rfl
theorem LR(v:D)(t:List Pt)(q:Pt):((t.map λp=>(ah p,v)).any λz=>aY z.1 (ah q))=decide (q∈t):=by rw[<-wm,Uf,Uf];rfl
theorem zfX(v:D)(t:List Pt)(q:Pt):jx (t.map λp=>(ah p,v)) (ah q) v=(dR t q).map λp=>(ah p,v):=by
 unfold jx dR;rw[LR];by_cases h:q∈t;.rw[if_pos (~~~h),if_pos h,WV];apply Ju;intro p _;simp
 .rw[if_neg (~~~h),if_neg h,WO];rfl
theorem LS(v:D):∀(ps t:List Pt),pC (ps.map λp=>(ah p,v)) (t.map λp=>(ah p,v))=(cn t ps).map λp=>(ah p,v)|[],t=>rfl|p::r,t=>by show pC (r.map λp=>(ah p,v)) (jx (t.map λp=>(ah p,v)) (ah p) v)=_;rw[zfX,LS v r];rfl
theorem zdM(v:D)(hl:ps.length<=1000):nS (.lst (ps.map λp=>.tup [ah p,v]))=some (.own (.dic ((cn [] ps).map λp=>(ah p,v)))):=by have hz:Wb=16777216:=rfl;simp only[nS];rw[LQ,Wu,Wa,if_pos Y'];have:=LS v ps [];rw[List.map_nil]at this;rw[this]
theorem wq:∀ps qs:List Pt,dS (ps.map ah) (qs.map ah)=decide (ps=qs)|[],[]=>rfl|[],_::_=>rfl|_::_,[]=>rfl|p::ps,q::qs=>by show(aY (ah p) (ah q)&&dS (ps.map ah) (qs.map ah))=_;rw[LL,wq ps qs,Qi];simp
theorem LU(n:Nat):∀ps:List Pt,gX (n+2) (ps.map ah)=true|[]=>rfl|p::r=>by show(flat (n+2) (ah p)&&gX (n+2) (r.map ah))=true;rw[LU n r];rfl
theorem qal(a b:Nat):bz (.str [a]) (.str [b])=some (.pure (.bl (decide (a=b)))):=by have:((a==b):Bool)=decide (a=b):=rfl;simp[bz,flat,aY,this]
def Bu(B1 B2:List (Nat×List Tx))(n1 n2:Nat)(z1 z2:List Pt)(d:D):Prop:=∃ps:List Pt,d=.tup (ps.map ah)/\(∀p∈ps,p∈jE (B1.map (·.1)) (B2.map (·.1)))/\iG ps/\(n1,n2)∈ps/\(∀p∈ps,sgn z1 p.1=sgn z2 p.2)/\∀p∈ps,∀q∈kids B1 B2 p,q∈ps
theorem zi2(h:ps.map ah=qs.map ah):ps=qs:=by have e:=wq ps qs;rw[h,wq]at e;simp at e;exact e
def sO(n:Nat):Bool:=!decide (([n]:Tx)<[97])&&!decide (([122]:Tx)<[n])
theorem ziC(x y:Tx):l9 (.str x) (.str y)=pS (.bl !decide (y<x)):=rfl
theorem zaD{d:D}(hd:El d):sN r_ [.pure d,.pure (.int 1)] (∃a,d=sD a/\97<=a/\a<=122):=by
 unfold r_ I_;rcases hd with⟨x,rfl,hx⟩|t;.have t:iS "str" (.str x)=some true:=rfl;have ln:=F_ x Y';obtain⟨b1,c1,h1⟩:=LP 1 x.length;obtain⟨b2,c2,h2⟩:=LP x.length 1;cases b1 with|false=>exact .no (fj (fI bK)) λ⟨a,e,_⟩=>by cases e;exact nomatch h1.2 U'|true=>cases b2 with|false=>exact .no (fj (fI bK)) λ⟨a,e,_⟩=>by cases e;exact nomatch h2.2 U'|true=>have e1:=h1.1 rfl;have e2:=h2.1 rfl;match x,e1,e2 with
 |[a],_,_=>
     have ec:=cS (j:=2) (np:=[]) (it:=aV (aa 0)) (el:=jR l9 l9 (eD (.str [97])) (aa 2) (ae (eD (.str [122])))) sD (λn=>.bl (sO n)) (Os:=[pS (sD a),pS (.int 1),none]) (as:=[a]) rfl U' λn k=>by cases h:decide (([n]:Tx)<[97])<;>simp[KR,aa,ziC,h,sO]
     refine⟨sO a,fj (dQ (W':=[pS (sD a),pS (.int 1),none]) (x:=.ok _ [pS (sD a),pS (.int 1),none]) ?_ bK),?_⟩;.have e:=Bs [a] sO;revert ec e;generalize cb _ _ _ _ _=C;intro ec e;simp at e;simp[ec,e,S.d]
     .simp[sO,VF]
 .exact .no (fj (fI bK)) λ⟨a,e,_⟩=>by rw[e]at t;cases t
theorem LV{d:D}(hd:El d):sN mF [.pure d] (∃a,d=sD a/\97<=a/\a<=122):=by obtain⟨b,e,h⟩:=zaD hd;unfold mF J_;exact⟨b,v9 (W':=[pS d]) bK,h⟩
theorem ziy{a b c:Pt}(h1:pP a b=true)(h2:pP b c=true):pP a c=true:=by have h1:ltL (dE a) (dE b)=true:=h1;have h2:ltL (dE b) (dE c)=true:=h2;show ltL (dE a) (dE c)=true;cases h:ltL (dE a) (dE c)with|true=>rfl|false=>rw[zr _ _ _ h (rD _ _ h2)]at h1;exact h1
def wu:Option Pt->D|none=>.tup []|some p=>ah p
def Bv:Option Pt->Pt->Bool|none,_=>true|some p,q=>pP p q
theorem zgw(prev:Option Pt)(q:Pt):nU (ah q) (wu prev)=pS (.bl !Bv prev q):=by cases prev<;>rfl
def sP(t1 t2:List Nat)(prev:Option Pt)(ds:List D):Prop:=∃ps:List Pt,ds=ps.map ah/\(∀p∈ps,p∈jE t1 t2)/\iG (prev.toList++ps)
theorem zcJ{d:D}:sP t1 t2 prev (d::r)↔∃a b,d=.tup [sD a,sD b]/\a∈t1/\b∈t2/\Bv prev (a,b)=true/\sP t1 t2 (some (a,b)) r:=by
 refine⟨λ⟨ps,e,h,q⟩=>?_,λ⟨a,b,e,h1,h2,l,ps,e2,h,q⟩=>⟨(a,b)::ps,by rw[e,e2];rfl,λp hp=>?_,?_⟩⟩;.match ps,e with
 |(a,b)::ps,e=>
   injection e with e1 e2;have m:=fU.mp (h _ (.head _));have q':iG ((a,b)::ps):=by cases prev;exact q;exact q.of_cons
   exact⟨a,b,e1,m.1,m.2,by cases prev;rfl;exact List.rel_of_pairwise_cons q (.head _),ps,e2,λp hp=>h p (.tail _ hp),q'⟩
 .rcases Wt.mp hp with rfl|hp;.exact fU.mpr ⟨h1,h2⟩
  .exact h p hp
 .cases prev with|none=>exact q|some c=>exact .cons (λx hx=>(Wt.mp hx).elim (λz=>z▸l) λhx=>ziy l (List.rel_of_pairwise_cons q hx)) q
abbrev u4(T C:D)(o2 o3:Option S):Dl:=[pS T,pS C,o2,o3]
theorem zcS(i1:∀n,gk true (sD n) T1=pS (.bl !t1.contains n))(i2:∀n,gk true (sD n) T2=pS (.bl !t2.contains n))(L1:∀a∈t1,97<=a/\a<=122)(L2:∀a∈t2,97<=a/\a<=122){d:D}(hd:Th d):sN se [.pure (.tup [T1,T2]),.pure d] (∃ps:List Pt,d=.tup (ps.map ah)/\(∀p∈ps,p∈jE t1 t2)/\iG ps):=by
 unfold se Ka;rcases hd with t|⟨ds,rfl,hl,hi⟩;.exact .no (fj (fI bK)) λ⟨ps,e,_⟩=>by rw[e]at t;cases t
 have t:iS "tuple" (.tup ds)=some true:=rfl;have f:=Bt (g:=ak [] 3) (b:=aq (bf (dz (cU (aD (fO "tuple" (au 3)))) (aD (ar eK (aF bI (au 3)) (ae (eD (.int 2)))))) (aM (eD (.bl false))) bj) (aq (bf (dz (cU (aD (aB mF [.val (aj ag 3 (ae (eD (.int 0))))]))) (dz (cU (aD (aB mF [.val (aj ag 3 (ae (eD (.int 1))))]))) (aD (aj nU 3 (au 2))))) (aM (eD (.bl false))) bj) (aq (bf (dz (aD (ar (gk true) (aj ag 3 (ae (eD (.int 0)))) (ae (aj ag 0 (ae (eD (.int 0))))))) (aD (ar (gk true) (aj ag 3 (ae (eD (.int 1)))) (ae (aj ag 0 (ae (eD (.int 1)))))))) (aM (eD (.bl false))) bj) (az (aa 3) (ak [] 2))))) (sP t1 t2 none ds) (λrs Z=>∃prev o3,(sP t1 t2 prev rs↔sP t1 t2 none ds)/\(∀e∈rs,sM e)/\Z=u4 (.tup [T1,T2]) (.tup ds) (pS (wu prev)) o3) (λd rs Z hh=>by
 obtain⟨prev,o3,hp,hi,e⟩:=hh
 subst e;refine⟨_,rfl,?_⟩;rw[zcJ]at hp;rcases hi d (.head _)with t'|⟨es,rfl,he⟩;.exact .inl ⟨λz=>(hp.mpr z).elim λa⟨b,e,_⟩=>(by rw[e]at t';cases t'),_,fI bK⟩
 have t':iS "tuple" (.tup es)=some true:=rfl;have ln:bI (.tup es)=pS (.int es.length):=rfl;obtain⟨b1,c1,h1⟩:=gU es.length 2;cases b1 with|true=>exact .inl ⟨λz=>(hp.mpr z).elim λa⟨b,e,_⟩=>(by cases e;exact nomatch h1.2 rfl),_,fI bK⟩|false=>obtain⟨l,r,rfl⟩:=zfe (Int.ofNat.inj (h1.1 rfl));obtain⟨b2,g2,j2⟩:=LV (he l (.head _));obtain⟨b3,g3,j3⟩:=LV (he r (.tail _ (.head _)));clear h1 he;cases b2 with|false=>exact .inl ⟨λz=>(hp.mpr z).elim λa⟨b,e,h,_⟩=>(by cases e;exact nomatch j2.mpr ⟨a,rfl,L1 a h⟩),_,nz bK (fI bK)⟩|true=>cases b3 with|false=>exact .inl ⟨λz=>(hp.mpr z).elim λa⟨b,e,_,h,_⟩=>(by cases e;exact nomatch j3.mpr ⟨b,rfl,L2 b h⟩),_,nz bK (fI bK)⟩|true=>obtain⟨a,rfl,-⟩:=j2.mp rfl;obtain⟨b,rfl,-⟩:=j3.mp rfl;have c4:nU (.tup [sD a,sD b]) (wu prev)=_:=zgw prev (a,b);have k1:=i1 a;have k2:=i2 b;clear i1 i2 j2 j3;cases hl:Bv prev (a,b)with|false=>rw[hl]at c4;exact .inl ⟨λz=>(hp.mpr z).elim λa'⟨b',e,_,_,h,_⟩=>(by cases e;rw[hl]at h;cases h),_,nz bK (fI bK)⟩|true=>rw[hl]at c4;cases m1:t1.contains a with|false=>rw[m1]at k1;exact .inl ⟨λz=>(hp.mpr z).elim λa'⟨b',e,h,_⟩=>by cases e;simp[h]at m1,_,nz bK (nz bK (fI bK))⟩|true=>rw[m1]at k1;cases m2:t2.contains b with|false=>rw[m2]at k2;exact .inl ⟨λz=>(hp.mpr z).elim λa' hh=>by obtain⟨b',e,_,h,_⟩:=hh;cases e;simp[h]at m2,_,nz bK (nz bK (fI bK))⟩|true=>rw[m2]at k2;refine .inr ⟨_,nz bK (nz bK (nz bK rfl)),some (a,b),_,.trans ⟨λz=>⟨a,b,rfl,~~~m1,~~~m2,hl,z⟩,λhh=>by obtain⟨a',b',e,_,_,_,z⟩:=hh;cases e;exact z⟩ hp,λe he=>hi e (.tail _ he),rfl⟩) ds (u4 (.tup [T1,T2]) (.tup ds) (pS (wu none)) none) ⟨none,none,.rfl,hi,rfl⟩;rcases f with⟨no,S',e⟩|⟨S',e,prev,o3,hp,-,rfl⟩;.exact⟨false,fj (dQ (dQ (fI ((du (it:=aV (aa 1)) rfl).trans e)) rfl) bK),nofun,λ⟨ps,e,h⟩=>(no ⟨ps,D.tup.inj e,h⟩).elim⟩
 .exact⟨true,fj (dQ (dQ (dQ rfl ((du (it:=aV (aa 1)) rfl).trans e)) rfl) bK),λj=>(hp.mp ⟨[],rfl,nofun,by cases prev<;>simp[iG]⟩).elim λps⟨e,h⟩=>⟨ps,congrArg D.tup e,h⟩,λj=>rfl⟩
theorem qam{A:Type}(f:A->D)(q:A->Bool){as:List A}{j:Nat}{np:List Nat}{t:DT}(e:it Os=.ok (as.map f) Z)(hl:as.length<=1000)(hs:∀a∈as,t (Z.set j (pS (f a)))=.ok (q a) (Z.set j (pS (f a))))(hj:Z[j]?=some none:=by rfl)(hn:np.contains j=false:=by rfl):cb [j] it (ak np j) t (aa j) Os=.ok (.own (.lst ((as.filter q).map f))) Z:=by
 obtain⟨h,iB⟩:=W6.mp hj;have c:bp [j] Z=Z:=by show Z.set j none=Z;rw[<-iB];exact List.set_getElem_self h
 have cc:∀o,bp [j] (Z.set j o)=Z:=λo=>by show(Z.set j o).set j none=Z;rw[List.set_set];exact c
 have r:=A5 (cs:=[j]) (g:=ak np j) (t:=t) (el:=aa j) f f q Z as [] (by rw[jw];simp;lia) λa ha=>⟨Z.set j (pS (f a)),_,.pure (f a),Z.set j (pS (f a)),by unfold ak;rw[if_neg (by rw[hn];nofun)],hs a ha,cc _,#v[aa,h],cc _,rfl⟩;unfold cb;rw[e];show(if _ then _ else _)=_;rw[if_neg #v[dj,hj],c,r];show Rs.ok _ (match Z[j]? with|some o=>Z.set j o|none=>Z)=_;rw[hj];exact congrArg _ c
theorem qan(a b:Nat):eK (sD a) (sD b)=pS (.bl !decide (a=b)):=by have:((a==b):Bool)=decide (a=b):=rfl;simp[eK,flat,aY,this]
theorem LW{B:D}(u1:t1.Pairwise (.<.))(u2:t2.Pairwise (.<.))(l1:t1.length<=26)(l2:t2.length<=26)(P1:lA t1 z1)(P2:lA t2 z2)(x1:ag A (.int 2)=pS (.tup (z1.map ah)))(x2:ag B (.int 2)=pS (.tup (z2.map ah))){C:D}(hC:C=.lst (ps.map ah)\/C=.tup (ps.map ah))(hl:ps.length<=1000)(hp:∀p∈ps,p∈jE t1 t2):n9 [.pure A,.pure B,.pure C]=some (.own (.lst ((ps.filter λp=>!decide (sgn z1 p.1=sgn z2 p.2)).map ah)),[.pure A,.pure B,.pure C]):=by
 have d1:=sG u1 l1 P1;have d2:=sG u2 l2 P2;have c:=qam (j:=5) (np:=[]) (it:=aV (aa 2)) (t:=aD (ar eK (aj cg 3 (ae (aj ag 5 (ae (eD (.int 0)))))) (ae (aj cg 4 (ae (aj ag 5 (ae (eD (.int 1))))))))) ah (λp:Pt=>!decide (sgn z1 p.1=sgn z2 p.2)) (Os:=[pS A,pS B,pS C,pO (mJ z1),pO (mJ z2),none]) (Z:=[pS A,pS B,pS C,pO (mJ z1),pO (mJ z2),none]) (as:=ps) (by rcases hC with rfl|rfl<;>rfl) hl λp h=>by have h:=fU.mp (hp p h);have y1:=(sH P1 h.1).1;have y2:=(sH P2 h.2).1;have e:=qan (sgn z1 p.1) (sgn z2 p.2);clear d1 d2;generalize mJ z1=D1,mJ z2=D2 at*;exact bK
 unfold n9 IT;generalize D.tup (z1.map ah)=Z1,D.tup (z2.map ah)=Z2 at*;exact Lc (nz bK (nz bK (rt c)))
theorem LX{b:DS}{ss aC:List S}{v:Xc}(e:b (bx n ss)=.exc v W')(h1:cy np 0 ss=true)(h2:bF 0 ss W'=some aC):ju np n b ss=some (.inr (v,aC)):=by unfold ju iY;rw[if_pos h1,e];simp[h2]
theorem LY{a b:DS}{v:Xc}(h:a Z=.exc v W'):aq a b Z=.exc v W':=by unfold aq;rw[h];rfl
abbrev wx:Xc:=⟨[85,110,108,105,107,101],.ax⟩
theorem zdO{h:Nat}(a1:0<h)(a2:h<=4)(a3:0<w)(a4:w<=4)(b1:0<h')(b2:h'<=4)(b3:0<w')(b4:w'<=4):fK h w h' w'=.ax\/∃t t':Nat,(t=1\/t=2)/\(t'=1\/t'=2)/\fK h w h' w'=.tup [.int (t:Int),.int (t':Int)]/\h^t=h'^t'/\w^t=w'^t'/\(t=2->h<=2/\w<=2)/\(t'=2->h'<=2/\w'<=2):=by
 have sq:∀{a b:Nat},a^2=b^1->b<=4->a<=2:=λ{a b}e hb=>by
  rcases Nat.lt_or_ge 2 a with z|z;.have:=QD z z;rw[Jo,QI]at e;lia
  .exact z
 have sQ:∀p q,cD h w h' w' p q=true->h^p=h'^q/\w^p=w'^q:=λp q e=>by unfold cD at e;rw[Wq,decide_eq_true_eq,decide_eq_true_eq]at e;exact e
 unfold fK sk;cases oq:cD h w h' w' 1 1 with|true=>exact .inr ⟨1,1,.inl rfl,.inl rfl,rfl,(sQ 1 1 oq).1,(sQ 1 1 oq).2,λz=>by lia,λz=>by lia⟩|false=>cases e12:cD h w h' w' 1 2 with|true=>obtain⟨c1,c2⟩:=sQ 1 2 e12;exact .inr ⟨1,2,.inl rfl,.inr rfl,rfl,c1,c2,λz=>by lia,λj=>⟨sq c1.symm a2,sq c2.symm a4⟩⟩|false=>cases e21:cD h w h' w' 2 1 with|true=>obtain⟨c1,c2⟩:=sQ 2 1 e21;exact .inr ⟨2,1,.inr rfl,.inl rfl,rfl,c1,c2,λj=>⟨sq c1 b2,sq c2 b4⟩,λz=>by lia⟩|false=>cases e22:cD h w h' w' 2 2 with
 |true=>
     obtain⟨c1,c2⟩:=sQ 2 2 e22;have inj:∀{a b:Nat},a^2=b^2->a=b:=λ{a b}e=>by
      rw[Jo,Jo]at e;rcases Nat.lt_trichotomy a b with z|z|z;.have:=Nat.mul_lt_mul_of_lt_of_le z (J0 z) Y';lia
      .exact z
      .have:=Nat.mul_lt_mul_of_lt_of_le z (J0 z) Y';lia
     have:cD h w h' w' 1 1=true:=by unfold cD;rw[inj c1,inj c2];simp
     rw[this]at oq;cases oq|false=>exact .inl rfl
structure Rz(h w:Nat)(bs:List (Nat×List Tx))(t:Nat)(B:List (Nat×List Tx)):Prop where
 fst:B.map (·.1)=bs.map (·.1)R:cC (h^t) (w^t) B
 tx:∀a∈bs.map (·.1),tx h bs t a=(bE B a).flatten
theorem LZ{h:Nat}{bs:List (Nat×List Tx)}(p:dZ h w bs n zs){t:Nat}(ht:t=1\/t=2)(hs:t=2->h<=2/\w<=2):∃B,Rz h w bs t B/\ll [.pure (aK h w bs n zs),.pure (.int (t:Int))]=some (.pure (aK (h^t) (w^t) B n zs),[.pure (aK h w bs n zs),.pure (.int (t:Int))]):=by
 have e:=zcT p.R (.str [n]) (.tup (zs.map ah)) (t:Int) Y';rcases ht with rfl|rfl;.refine⟨bs,⟨rfl,~~~p.R,λa ha=>zh4 p.R ha⟩,?_⟩;rw[if_neg Y']at e;rw[QI,QI];exact e
 .have hs:=hs rfl;refine⟨tw h bs,⟨sF h bs,%[Jo,Jo|Lq p.R hs.1 hs.2],λa ha=>zh3 p.R ha⟩,?_⟩;rw[if_pos ⟨Y',hs⟩]at e;rw[Jo,Jo];exact e
theorem L5:∀l:List Tx,(∀r∈l,r.length=w)->l.flatten.length=l.length*w|[],_=>by simp|a::l,h=>by rw[List.flatten_cons,Q6,L5 l λr hr=>h r (Wi _ hr),h a Wl,WT,Ug,Nat.add_comm]
theorem wy{h:Nat}{bs:List (Nat×List Tx)}(R:cC h w bs)(hn:n∈bs.map (·.1)):(bE bs n).flatten.length=h*w:=by have b:=sL R hn;rw[L5 _ λr hr=>(b.2 r hr).1,b.1]
theorem L6{h:Nat}{bs:List (Nat×List Tx)}(p:dZ h w bs n zs)(p':dZ h' w' aA n' aI):pG [.pure (aJ h w bs),.pure (aJ h' w' aA)]=some (.pure (fK h w h' w'),[.pure (aJ h w bs),.pure (aJ h' w' aA)]):=by have a1:=p.R.h1;have a2:=p.R.w1;have b1:=p'.R.h1;have b2:=p'.R.w1;exact zhN Y' Y' Y' Y'
theorem L7{h:Nat}{bs:List (Nat×List Tx)}(p:dZ h w bs n zs)(p':dZ h' w' aA n' aI){t:Nat}(ht:t=1\/t=2)(iN:t'=1\/t'=2)(e:fK h w h' w'=.tup [.int (t:Int),.int (t':Int)]):lj [.pure (aK h w bs n zs),.pure (aK h' w' aA n' aI)]=some (.inl (.pure (.tup [dY h bs t,dY h' aA t']),[.pure (aK h w bs n zs),.pure (aK h' w' aA n' aI)])):=by have g:=L6 p p';have f1:=Lf p.R (t:=t) Y' p.R.h1 p.R.w1;have f2:=Lf p'.R (t:=t') Y' p'.R.h1 p'.R.w1;have z:∀x,fX false (.tup x) .ax=pS (.bl false):=λj=>rfl;have z1:ag (aK h w bs n zs) (.int 0)=pS (aJ h w bs):=rfl;have z2:ag (aK h' w' aA n' aI) (.int 0)=pS (aJ h' w' aA):=rfl;rw[e]at g;unfold lj vJ;clear e;generalize aK h w bs n zs=A,aK h' w' aA n' aI=B,aJ h w bs=r1,aJ h' w' aA=r2,dY h bs t=D1,dY h' aA t'=D2 at*;exact k_ (nz dD (nz dD dD)) rfl rfl
theorem zaF{h:Nat}{bs:List (Nat×List Tx)}(p:dZ h w bs n zs)(p':dZ h' w' aA n' aI)(e:fK h w h' w'=.ax):lj [.pure (aK h w bs n zs),.pure (aK h' w' aA n' aI)]=some (.inr (wx,[.pure (aK h w bs n zs),.pure (aK h' w' aA n' aI)])):=by have g:=L6 p p';rw[e]at g;have z1:ag (aK h w bs n zs) (.int 0)=pS (aJ h w bs):=rfl;have z2:ag (aK h' w' aA n' aI) (.int 0)=pS (aJ h' w' aA):=rfl;unfold lj vJ;clear e;generalize aK h w bs n zs=A,aK h' w' aA n' aI=B,aJ h w bs=r1,aJ h' w' aA=r2 at*;exact LX (nz dD (LY rfl)) rfl rfl
abbrev lF(A B C T:D)(o4 o5:Option S):Dl:=[pS A,pS B,pS C,pS T,o4,o5,none]
theorem zdT{GC:DX}{B C T:D}(g:GC [.pure A,.pure B]=some (.inl (.pure T,[.pure A,.pure B]))):az (gC GC [.val (aa 0),.val (aa 1)]) (ak [] 3) [pS A,pS B,pS C,none,none,none,none]=.ok .next (lF A B C T none none):=by simp[az,gC,bo,cL,cf,aa,S.d,bD,ba,g]
theorem L8(F:Nat->D)(n:Nat):∀bs:List (Nat×List Tx),(dH (bs.map λb=>((Sum.inr [b.1]:bU),F b.1)) (.inr [n])).isSome=(bs.map (·.1)).contains n
 |[]=>rfl|b::r=>by
  have ih:=L8 F n r;unfold dH at ih⊢;rw[Wm,Q2,Wm,List.contains_cons];by_cases e:b.1=n;.simp[e]
  .have e':(n==b.1)=false:=by simpa using λz=>e z.symm
   have:decide (((Sum.inr [b.1]:bU))=Sum.inr [n])=false:=decide_eq_false #v[e];simp only[this,e',Bool.false_or];exact ih
theorem L9(h:Nat)(bs:List (Nat×List Tx))(t n:Nat):gk true (.str [n]) (dY h bs t)=some (.pure (.bl (!(bs.map (·.1)).contains n))):=by have e:=L8 (λn=>D.str (tx h bs t n)) n bs;show((eQ (.str [n])).map λk=>S.pure (.bl (if true then !(dH (bs.map λb=>((Sum.inr [b.1]:bU),D.str (tx h bs t b.1))) k).isSome else(dH (bs.map λb=>((Sum.inr [b.1]:bU),D.str (tx h bs t b.1))) k).isSome)))=_;simp only[eQ,WE,if_true];rw[e]
abbrev jG(ps:List Pt):D:=.dic ((cn [] ps).map λp=>(ah p,.bl true))
theorem ziT(ps:List Pt)(q:Pt):gQ false (ah q) (jG ps)=some (.pure (.bl (decide (q∈ps)))):=by
 have hg:k7 (my (ah q)) ((cn [] ps).map λp=>(ah p,D.bl true)) (ah q)=true:=by show(true&&((cn [] ps).map λp=>(ah p,D.bl true)).all λq=>gG true q.1)=true;rw[Bool.true_and,JK,WF];intro p _;rfl
 have hv:(i4 ((cn [] ps).map λp=>(ah p,D.bl true)) (ah q)).isSome=decide (q∈ps):=by unfold i4;rw[Option.isSome_map,Qi,List.find?_isSome,<-Ud,LR,decide_eq_true_eq,decide_eq_true_eq,A0];simp
 simp only[gQ,jG];rw[if_pos hg,hv];rfl
abbrev ahC(GU:DF):DE:=cb [6] (aV (aB GU [.val (aa 3),.val (aa 5)])) (ak [] 6) cH (ar (gQ false) (aa 6) (au 4))
abbrev Bw(GU:DF):DS:=bf (cU (aD (aF kM (ae (ahC GU))))) (aM (eD (.bl false))) bj
theorem zgT{GU:DF}{B C T:D}{kd:Pt->List Pt}(hk:∀p∈ps,(kd p).length<=1000/\GU [.pure T,.pure (ah p)]=some (.own (.lst ((kd p).map ah)),[.pure T,.pure (ah p)])):(¬(∀p∈ps,∀q∈kd p,q∈ps)/\∃S',forL (ak [] 5) (Bw GU) (ps.map ah) (lF A B C T (pO (jG ps)) none)=.ok (.ret (.pure (.bl false))) S')\/∃S',forL (ak [] 5) (Bw GU) (ps.map ah) (lF A B C T (pO (jG ps)) none)=.ok .next S'/\(∀p∈ps,∀q∈kd p,q∈ps)/\∃o5,S'=lF A B C T (pO (jG ps)) o5:=by
 have f:=Bt (g:=ak [] 5) (b:=Bw GU) (∀p∈ps,∀q∈kd p,q∈ps) (λrs Z=>∃qs o5,rs=qs.map ah/\(∀q∈qs,q∈ps)/\((∀p∈qs,∀q∈kd p,q∈ps)->∀p∈ps,∀q∈kd p,q∈ps)/\Z=lF A B C T (pO (jG ps)) o5) (λd rs Z hh=>by obtain⟨qs,o5,e,hq,hp,eδ⟩:=hh;subst eδ;match qs,e with
 |q::qs,e=>
 injection e with e1 e2;subst e1 e2;have hm:=hq q (.head _);obtain⟨hl,g⟩:=hk q hm;have c:=cS (j:=6) (np:=[]) (it:=aV (aB GU [.val (aa 3),.val (aa 5)])) (el:=ar (gQ false) (aa 6) (au 4)) ah (λx=>.bl (decide (x∈ps))) (Os:=lF A B C T (pO (jG ps)) (pS (ah q))) (Z:=lF A B C T (pO (jG ps)) (pS (ah q))) (as:=kd q) (by generalize ah q=Q,jG ps=DD at*;simp[lu,aB,bo,cL,cf,aa,S.d,bD,ba,g]) hl λx y=>by have e:=ziT ps x;generalize ah x=X,jG ps=DD at*;simp[ar,aa,au,S.d,e]
 refine⟨_,rfl,?_⟩;have z:=jF (a:=aM (eD (.bl false))) (b:=bj) (ou (kr c (Bs (kd q) λx=>decide (x∈ps))));cases h:(kd q).all λx=>decide (x∈ps)with|false=>rw[h]at z;exact .inl ⟨λk=>(by rw[List.all_eq_true.mpr λx hx=>decide_eq_true (k q hm x hx)]at h;cases h),_,z⟩|true=>
 rw[h]at z;refine .inr ⟨_,z,qs,_,rfl,λx hx=>hq x (.tail _ hx),λk=>hp λp hp x hx=>?_,rfl⟩;rcases Wt.mp hp with rfl|hp;.simpa using WF.mp h x hx
 .exact k p hp x hx) (ps.map ah) (lF A B C T (pO (jG ps)) none) ⟨ps,none,rfl,λy h=>h,λh=>h,rfl⟩;rcases f with f|⟨S',e,qs,o5,e1,_,hp,rfl⟩;.exact .inl f
 .match qs,e1 with|[],_=>exact .inr ⟨_,e,hp nofun,o5,rfl⟩
theorem L_{h:Nat}{bs:List (Nat×List Tx)}(R:cC h w bs):∀a∈bs.map (·.1),97<=a/\a<=122:=λa ha=>by obtain⟨b,hb,rfl⟩:=WH.mp ha;exact R.qV b hb
theorem zfV{h:Nat}{bs:List (Nat×List Tx)}(p:dZ h w bs n zs)(p':dZ h' w' aA n' aI){t:Nat}(ht:t=1\/t=2)(iN:t'=1\/t'=2)(e:fK h w h' w'=.tup [.int (t:Int),.int (t':Int)])(z:Rz h w bs t B)(z':Rz h' w' aA t' B')(eh:h^t=h'^t')(ew:w^t=w'^t'){d:D}(hd:Th d):∃b:Bool,(b=true↔Bu B B' n n' zs aI d)/\pK [.pure (aK h w bs n zs),.pure (aK h' w' aA n' aI),.pure d]=some (.inl (.pure (.bl b),[.pure (aK h w bs n zs),.pure (aK h' w' aA n' aI),.pure d])):=by
 have s1:=zdT (C:=d) (L7 p p' ht iN e);clear e;obtain⟨b2,g2,i2⟩:=zcS (L9 h bs t) (L9 h' aA t') (L_ p.R) (L_ p'.R) hd;have x1:ag (aK h w bs n zs) (.int 1)=pS (sD n):=rfl;have x2:ag (aK h' w' aA n' aI) (.int 1)=pS (sD n'):=rfl;have gu:=λps hl hg=>LW (A:=aK h w bs n zs) (B:=aK h' w' aA n' aI) p.R.up p'.R.up %[Wa|p.R.n1] %[Wa|p'.R.n1] p.p p'.p rfl rfl (ps:=ps) (.inr rfl) hl hg;have hk:∀q∈jE (bs.map (·.1)) (aA.map (·.1)),(kids B B' q).length<=1000/\i8 [.pure (.tup [dY h bs t,dY h' aA t']),.pure (ah q)]=some (.own (.lst ((kids B B' q).map ah)),[.pure (.tup [dY h bs t,dY h' aA t']),.pure (ah q)]):=λq hq=>by have hq:=fU.mp hq;have e1:=wy z.R %[z.fst|hq.1];have e2:=wy z'.R %[z'.fst|hq.2];have t1:=z.tx q.1 hq.1;have t2:=z'.tx q.2 hq.2;have c3:h^t*w^t<=4*4:=QD z.R.h1 z.R.w1;have u:=Lx (h:=h) (w:=w) (h':=h') (w':=w') (t:=t) (t':=t') hq.1 hq.2 (by rw[t1,t2,e1,e2,eh,ew]) (by rw[t1,e1];lia);rw[t1,t2]at u;exact⟨by unfold kids;rw[List.length_zip,e1];lia,u⟩
 unfold pK zM Bu;rw[z.fst,z'.fst];generalize aK h w bs n zs=P,aK h' w' aA n' aI=P',D.tup [dY h bs t,dY h' aA t']=T at*;cases b2 with|false=>exact⟨false,⟨nofun,λ⟨ps,e1,e2,e3,_⟩=>i2.mpr ⟨ps,e1,e2,e3⟩⟩,k_ (nz s1 (fI dD)) rfl rfl⟩|true=>
  obtain⟨ps,rfl,hg,ri⟩:=i2.mp rfl;have hl:ps.length<=1000:=by
   rcases hd with q|⟨ds,q,hl,_⟩;.cases q
   .rw[<-D.tup.inj q,Wa]at hl;exact hl
  have Bx:∀{Q:List Pt->Prop},(∃qs:List Pt,D.tup (ps.map ah)=.tup (qs.map ah)/\Q qs)->Q ps:=λ⟨qs,e,h⟩=>zi2 (D.tup.inj e)▸h;have m:nW true (.tup [sD n,sD n']) (.tup (ps.map ah))=_:=ziU ps (n,n');by_cases hm:(n,n')∈ps
  .rw[decide_eq_true hm]at m;have gu:=gu ps hl hg;have ln:=Bi ((ps.filter λp=>!decide (sgn zs p.1=sgn aI p.2)).map ah) %[Wa|Wy (List.length_filter_le _ _) hl];have gt:=gt_int ((ps.filter λp=>!decide (sgn zs p.1=sgn aI p.2)).map ah).length 0;have ed:=zdM (.bl true) hl;by_cases hs:∀p∈ps,sgn zs p.1=sgn aI p.2
   .rw[List.filter_eq_nil_iff.mpr λq hq=>#v[hs q hq]]at gu ln gt;have s4:=ku (g:=ak [] 4) (kr (cS (j:=5) (np:=[]) (it:=aV (aa 2)) (el:=a7 (aw (aa 5) (aw (eD (.bl true)) aN))) ah (λp=>.tup [ah p,.bl true]) (Os:=lF P P' (.tup (ps.map ah)) T none none) rfl hl λk k=>rfl) ed) rfl;have lp:=zgT (GU:=i8) (A:=P) (B:=P') (C:=.tup (ps.map ah)) (T:=T) (ps:=ps) (kd:=kids B B') λq hq=>hk q (hg q hq);clear hk;rcases lp with⟨no,S',e⟩|⟨S',e,cl,o5,rfl⟩;.exact⟨false,⟨nofun,λh=>(no (Bx h).2.2.2.2).elim⟩,k_ (nz s1 (nz dD (nz dD (nz s4 (fI ((du (it:=aV (aa 2)) rfl).trans e)))))) rfl rfl⟩
    .exact⟨true,⟨λk=>⟨ps,rfl,hg,ri,hm,hs,cl⟩,λk=>rfl⟩,k_ (nz s1 (nz dD (nz dD (nz s4 (nz ((du (it:=aV (aa 2)) rfl).trans e) rfl))))) rfl rfl⟩
   .have fp:0<((ps.filter λp=>!decide (sgn zs p.1=sgn aI p.2)).map ah).length:=by rw[Wa,List.length_pos_iff];intro q;rw[List.filter_eq_nil_iff]at q;exact hs λp hp=>by simpa using q p hp
    rw[decide_eq_true Y']at gt;generalize(ps.filter λp=>!decide (sgn zs p.1=sgn aI p.2)).map ah=L at*;exact⟨false,⟨nofun,λh=>(hs (Bx h).2.2.2.1).elim⟩,k_ (nz s1 (nz dD (fI dD))) rfl rfl⟩
  .rw[decide_eq_false hm]at m;exact⟨false,⟨nofun,λh=>(hm (Bx h).2.2.1).elim⟩,k_ (nz s1 (fI dD)) rfl rfl⟩
theorem zgU(x y:List D)(h:x.length+y.length<=10000):a_ (.lst x) (.lst y)=some (.own (.lst (x++y))):=by have hz:Wb=16777216:=rfl;simp only[a_];first|rw[if_pos Y']|rfl
theorem zjb{x:Tx}(h:x.length<=64):El (.str x):=.inl ⟨x,rfl,h⟩
theorem qao(p:Pt):sM (ah p):=.inr ⟨_,rfl,λe he=>by simp at he;rcases he with rfl|rfl<;>exact zjb U'⟩
theorem zh9(hl:ds.length<=1000)(h:∀d∈ds,sM d):Th (.tup ds):=.inr ⟨ds,rfl,hl,h⟩
theorem ziP(qs:List Pt):∀d∈qs.map ah,sM d:=λd hd=>by obtain⟨p,_,rfl⟩:=WH.mp hd;exact qao p
section
variable{ce:Tx->Nat}
theorem isU(fl:D)(tab:Tx->Bool)(rest:Dl):gn ce ys tab (au 0) (some (.pure (.exc (ce [85,110,108,105,107,101]) fl))::rest)=.ok (.pure (.bl (tab [85,110,108,105,107,101]))) (some (.pure (.exc (ce [85,110,108,105,107,101]) fl))::rest):=by simp[gn,au,ys]
theorem zhM(fl:D):pJ ce [.pure (.exc (ce [85,110,108,105,107,101]) fl)]=some (.pure (.str [117,110,108,105,107,101]),[.pure (.exc (ce [85,110,108,105,107,101]) fl)]):=by
 have i0:=λtab rest=>isU (ce:=ce) fl tab rest;have c1:pe (.lst [.bl false,.bl false,.bl false,.bl false,.bl true,.bl false,.bl false,.bl false,.bl false])=some (.pure (.int 1)):=by rfl
 have c2:pf (.lst [.bl false,.bl false,.bl false,.bl false,.bl true,.bl false,.bl false,.bl false,.bl false])=some (.pure (.int 4)):=by rfl
 rw[pJ,kz,IV];generalize ce [85,110,108,105,107,101]=n at*;simp[cy,bx,az,i0,aj,ck,au,a_,jw,cA,gO,putL,aD,c1,c2,eK,flat,aY,ag,fB,fA,c_,bF]
end
section
variable{α:Type}[DecidableEq α]
def eU(kd:α->List α):Nat->Nat->List α->List α|0,_,t=>t|n+1,m,t=>match t[m]? with|some x=>eU kd n (m+1) (cn t (kd x))|none=>t
end
structure sR(kd:Pt->List Pt)(U:List Pt):Prop where len:U.length<=1000sub:∀x∈U,∀q∈kd x,q∈U
theorem By{T:DT}{Bd:DS}{kd:Pt->List Pt}{U t0:List Pt}(K:sR kd U){J:Type}(mk:List Pt->Nat->J->Dl)(ht:∀t m j,Nd U t->m<=t.length->T (mk t m j)=.ok (decide (m<t.length)) (mk t m j))(hb:∀t m j x,Nd U t->t[m]?=some x->∃j',Bd (mk t m j)=.ok .next (mk (cn t (kd x)) (m+1) j')):∀(n m:Nat)(t:List Pt)(j:J),Wk kd U t0 t m->U.length+1<=n+m->∃j',gi T Bd n (mk t m j)=.ok .next (mk (eU kd n m t) (eU kd n m t).length j')/\Wk kd U t0 (eU kd n m t) (eU kd n m t).length
 |0,m,t,j,w,h=>by have:=Nd.len ⟨w.nd,w.sub⟩;have:=w.le;lia|n+1,m,t,j,w,h=>by
  have hl:=Nd.len ⟨w.nd,w.sub⟩;have ts:=ht t m j ⟨w.nd,w.sub⟩ w.le;unfold eU;by_cases hm:m<t.length;.rw[decide_eq_true hm]at ts;obtain⟨j',e⟩:=hb t m j t[m] ⟨w.nd,w.sub⟩ (W7 hm);rw[z9d ts e,W7 hm];exact By K mk ht hb n (m+1) _ j' (w.step K.sub (W7 hm)) Y'
  .rw[decide_eq_false hm]at ts;have:m=t.length:=by have:=w.le;lia
   subst this;rw[WQ (Wc _)];exact⟨j,za1 ts,w⟩
theorem Ma{kd:Pt->List Pt}{U:List Pt}(h:s∈U):Wk kd U [s] [s] 0:=⟨U',~~~h,⟨[],rfl⟩,Q5 _,λi x hi=>by lia,λj=>rfl⟩
abbrev jH(F:Pt->D)(t:List Pt):D:=.dic (t.map λp=>(ah p,F p))
theorem Mb(F:Pt->D)(t:List Pt)(q:Pt):((t.map λp=>(ah p,F p)).any λz=>aY z.1 (ah q))=decide (q∈t):=by rw[<-wm,Uf,Uf];rfl
theorem Mc(F:Pt->D)(t:List Pt)(q:Pt):k7 (my (ah q)) (t.map λp=>(ah p,F p)) (ah q)=true:=by show(true&&(t.map λp=>(ah p,F p)).all λq=>gG true q.1)=true;rw[Bool.true_and,JK,WF];intro p _;rfl
theorem qap(F:Pt->D)(t:List Pt)(q:Pt):gQ true (ah q) (jH F t)=pS (.bl !decide (q∈t)):=by
 have hv:(i4 (t.map λp=>(ah p,F p)) (ah q)).isSome=decide (q∈t):=by unfold i4;rw[Option.isSome_map,Qi,List.find?_isSome,<-Ud,Mb]
 simp only[gQ];rw[if_pos (Mc F t q),hv];rfl
theorem qaq(F:Pt->D)(h:q∉t):jx (t.map λp=>(ah p,F p)) (ah q) (F q)=(t++[q]).map λp=>(ah p,F p):=by unfold jx;rw[Mb,if_neg (~~~h),WO];rfl
theorem Md{fi fe:DE}{r:S}(he:fe Z=.ok r W')(hr:r.d=F q)(hi:W'[i]?=some (pO (jH F t)))(hk:fi W'=.ok (.pure (ah q)) W')(h:q∉t)(hl:t.length<=1000):k8 i fi fe Z=.ok .next (W'.set i (pO (jH F (t++[q])))):=by
 have g:=Mc F t q;have p:=qaq F h;have l:(t.map λp=>(ah p,F p)).length<Wb:=by rw[Wa,show Wb=16777216 from rfl];lia
 unfold k8;rw[he];show(if qZ W' i=true then _ else _)=_;rw[if_pos (by unfold qZ;rw[hi])];rw[hk];show(match W'[i]? with|some (some (.own (.dic ds)))=>_|_=>_)=_;rw[hi];show(if(k7 (my (ah q)) (t.map λp=>(ah p,F p)) (ah q)&&decide ((t.map λp=>(ah p,F p)).length<Wb))=true then Rs.ok Fl.next (W'.set i (some (.own (.dic (jx (t.map λp=>(ah p,F p)) (ah q) r.d)))))else .stuck)=_;rw[g,decide_eq_true l,hr,p];rfl
abbrev r7(s:D)(fa:Ua)(t:List Pt)(m:Nat)(j:Option S×Option S):Dl:=[pS s,pS (.fn fa),pO (.lst (t.map ah)),pO (jH (λk=>.bl true) t),pS (.int (m:Int)),j.1,j.2]
abbrev Bz:DS:=bf (aD (ar (gQ true) (aa 6) (au 3))) (aq (k8 3 (aa 6) (eD (.bl true))) (cA 2 (aa 6))) bj
abbrev rcB(fa:Ua)(F:D->Option D):DS:=aq (az (aj ag 2 (au 4)) (ak [] 5)) (aq (bC (aV (ny fa F 1 (aa 5))) (ak [] 6) Bz) (az (aj a_ 4 (ae (eD (.int 1)))) (ak [] 4)))
abbrev rcW:DT:=aD (aj gL 4 (ae (aF bI (au 2))))
theorem Me{j:Nat}(hi:Z[i]?=some (pO (.lst (t.map ah))))(hj:Z[j]?=some (pS (ah q)))(hl:t.length<=1000):cA i (aa j) Z=.ok .next (Z.set i (pO (.lst ((t++[q]).map ah)))):=by
 have l:(t.map ah).length<Wb:=by rw[Wa,show Wb=16777216 from rfl];lia
 rw[WO];generalize t.map ah=L at*;simp[cA,gO,putL,aa,hi,hj,l,S.d]
theorem zhI{s:D}(q:Pt)(hl:t.length<=1000)(o5:Option S):Bz (r7 s fa t m (o5,pS (ah q)))=.ok .next (r7 s fa (dR t q) m (o5,pS (ah q))):=by
 have e:aD (ar (gQ true) (aa 6) (au 3)) (r7 s fa t m (o5,pS (ah q)))=.ok (!decide (q∈t)) (r7 s fa t m (o5,pS (ah q))):=kC (gq (x:=.pure (ah q)) rfl rfl (qap _ t q));have z:=jF (a:=aq (k8 3 (aa 6) (eD (.bl true))) (cA 2 (aa 6))) (b:=bj) e;unfold dR;by_cases h:q∈t;.rw[decide_eq_true h]at z;rw[if_pos h];exact z
 .rw[decide_eq_false h]at z;rw[if_neg h];exact z.trans ((bQ (Md (F:=λj=>.bl true) rfl rfl rfl rfl h hl)).trans (Me rfl rfl hl))
theorem zhH{s:D}{U:List Pt}(hU:U.length<=1000)(m:Nat)(o5:Option S)(ps:List Pt)(hp:∀q∈ps,q∈U)(ht:Nd U t)(o6:Option S):∃o6',forL (ak [] 6) Bz (ps.map ah) (r7 s fa t m (o5,o6))=.ok .next (r7 s fa (cn t ps) m (o5,o6'))/\Nd U (cn t ps):=vY (g:=ak [] 6) ah (λt(j:Option S)=>r7 s fa t m (o5,j)) dR (Nd U) (λq=>q∈U) (λx a hx ha=>hx.add ha) (λt j q ht hq=>⟨_,_,rfl,zhI q (Wy ht.len hU) o5⟩) ps t o6 ht hp
theorem Mf:gL (.int (m:Int)) (.int (t.length:Int))=pS (.bl (decide (m<t.length))):=by rw[lt_int,show decide ((m:Int)<(t.length:Int))=decide (m<t.length)by rw[Qi,decide_eq_true_eq,decide_eq_true_eq];lia]
theorem Mg(t:List Pt)(h:t.length<=1000):bI (.lst (t.map ah))=pS (.int t.length):=by have e:=Bi (t.map ah) (~~~h);rwa[Wa]at e
theorem Mh{x:Pt}(h:t[m]?=some x):ag (.lst (t.map ah)) (.int (m:Int))=pS (ah x):=by simp only[ag];rw[k6,Wj,h];rfl
theorem iH{g:BE}{x r:S}(e1:Z[i]?=some (some x))(e2:g Z=.ok y Z)(h:p x.d y=some r):aj p i g Z=.ok r Z:=#v[aj,ck,e1,e2,h,au]
theorem wz{p:D->Option S}{r:S}(e:Z[i]?=some (some v))(h:p v.d=some r):aF p (au i) Z=.ok r Z:=#v[aF,au,e,h]
theorem zfR{s:D}(hl:t.length<=1000)(j):rcW (r7 s fa t m j)=.ok (decide (m<t.length)) (r7 s fa t m j):=kC (iH rfl (lE (wz rfl (Mg t hl))) Mf)
theorem zfq{F:D->Option D}{d:D}(e:Z[i]?=some (pS (.fn fa)))(h:f Z=.ok v W')(k:F v.d=some d):ny fa F i f Z=.ok (.pure d) W':=by unfold ny;rw[e];simp[h,k]
theorem zfS{kd:Pt->List Pt}{U:List Pt}(K:sR kd U){F:D->Option D}(hF:∀p∈U,F (ah p)=some (.lst ((kd p).map ah))){s:D}(j:Option S×Option S){x:Pt}(ht:Nd U t)(hx:t[m]?=some x):∃j',rcB fa F (r7 s fa t m j)=.ok .next (r7 s fa (cn t (kd x)) (m+1) j'):=by
 have hm:=ht.2 x (Wx hx);obtain⟨o6,e2,_⟩:=zhH (s:=s) (fa:=fa) K.len m (pS (ah x)) (kd x) (K.sub x hm) ht j.2;have e1:az (aj ag 2 (au 4)) (ak [] 5) (r7 s fa t m j)=.ok .next (r7 s fa t m (pS (ah x),j.2)):=ku (iH rfl rfl (Mh hx)) rfl;have e3:aV (ny fa F 1 (aa 5)) (r7 s fa t m (pS (ah x),j.2))=.ok ((kd x).map ah) (r7 s fa t m (pS (ah x),j.2)):=by rw[lu,zfq rfl (show aa 5 _=.ok (.pure (ah x)) (r7 s fa t m (pS (ah x),j.2))from rfl) (hF x hm)];rfl
 have e4:az (aj a_ 4 (ae (eD (.int 1)))) (ak [] 4) (r7 s fa (cn t (kd x)) m (pS (ah x),o6))=.ok .next (r7 s fa (cn t (kd x)) (m+1) (pS (ah x),o6)):=ku (iH rfl rfl (ai m 1)) rfl;exact⟨_,(bQ e1).trans ((bQ ((du e3).trans e2)).trans e4)⟩
theorem Mi{kd:Pt->List Pt}{U:List Pt}(K:sR kd U){F:D->Option D}(hF:∀p∈U,F (ah p)=some (.lst ((kd p).map ah)))(hs:s∈U):wG n8 7 F (ah s)=some (.lst ((eU kd 1000000 0 [s]).map ah))/\Wk kd U [s] (eU kd 1000000 0 [s]) (eU kd 1000000 0 [s]).length:=by have W:=λfa=>By (t0:=[s]) K (r7 (ah s) fa) (λt m j ht k=>zfR (Wy ht.len K.len) j) (λt m j x ht hx=>zfS K hF j ht hx) 1000000 0 [s] (none,none) (Ma hs) (by have:=K.len;lia);refine⟨Yu λfa=>?_,(W 0).choose_spec.2⟩;obtain⟨j,e,w⟩:=W fa;refine⟨.own (.lst ((eU kd 1000000 0 [s]).map ah)),[.pure (ah s),.pure (.fn fa)],?_,rfl⟩;unfold n8 dP;generalize eU kd 1000000 0 [s]=fin at*;rw[show aq _ _ _=_ from(bQ (show az (dq (aw (aa 0) aN)) (ak [] 2) (bx 7 [.pure (ah s),.pure (.fn fa)])=.ok .next [pS (ah s),pS (.fn fa),pO (.lst [ah s]),none,none,none,none]from rfl)).trans ((bQ (show az (q_ (aa 0) (eD (.bl true))) (ak [] 3) _=.ok .next [pS (ah s),pS (.fn fa),pO (.lst [ah s]),pO (.dic [(ah s,.bl true)]),none,none,none]from rfl)).trans ((bQ (show az (eD (.int 0)) (ak [] 4) _=.ok .next (r7 (ah s) fa [s] 0 (none,none))from rfl)).trans (bQ e)))];rfl
abbrev BA:=Option S×Option S×Option S×Option S×Option S×Option S
abbrev cu(A B:D)(F:Pt->D)(t:List Pt)(m:Nat)(j:BA):Dl:=[pS A,pS B,pO (.lst (t.map ah)),pO (jH F (t.take m)),j.1,j.2.1,j.2.2.1,j.2.2.2.1,j.2.2.2.2.1,j.2.2.2.2.2]
abbrev ow(x:Tx×Tx):D:=.lst ((x.1.zip x.2).map ah)
abbrev rows(B1 B2:List (Nat×List Tx))(p:Pt):List (Tx×Tx):=(bE B1 p.1).zip (bE B2 p.2)
abbrev eO(B1 B2:List (Nat×List Tx))(p:Pt):D:=.lst ((rows B1 B2 p).map ow)
theorem qar(hf:f Z=.ok v W')(hi:Z[i]?=some (pO (.lst L)))(hi1:W'[i]?=some (pO (.lst L)))(hl:L.length<=1000):cA i f Z=.ok .next (W'.set i (pO (.lst (L++[v.d])))):=by
 have l:L.length<Wb:=by rw[show Wb=16777216 from rfl];lia
 simp[cA,gO,putL,hf,hi,hi1,l]
theorem Mj{B:D}{o4 o8 o9:Option S}:∀(ls:List (Tx×Tx))(L:List D)(o6 o7:Option S),(∀x∈ls,x.1.length=x.2.length/\x.1.length<=1000)->L.length+ls.length<=1000->∃o6' o7',forL (bR 2 (aT (ak [] 6) (aT (ak [] 7) bX))) (cA 5 (j_ (aa 6) (aa 7))) (ls.map rwD) (cu A B F t m (o4,pO (.lst L),o6,o7,o8,o9))=.ok .next (cu A B F t m (o4,pO (.lst (L++ls.map ow)),o6',o7',o8,o9))
 |[],L,o6,o7,_,_=>⟨o6,o7,by rw[show L++([]:List (Tx×Tx)).map ow=L from WU L];rfl⟩|x::ls,L,o6,o7,hx,hl=>by
  have h:=hx x (.head _);have e:j_ (aa 6) (aa 7) (cu A B F t m (o4,pO (.lst L),pS (.str x.1),pS (.str x.2),o8,o9))=.ok (.own (ow x)) (cu A B F t m (o4,pO (.lst L),pS (.str x.1),pS (.str x.2),o8,o9)):=by have h2:x.2.length<=1000:=h.1▸h.2;simp[j_,aa,S.d,mB,wg,h,h2]
  have z:=qar (i:=5) (L:=L) e rfl rfl (by simp at hl;lia);obtain⟨a,b,e2⟩:=Mj ls (L++[ow x]) (pS (.str x.1)) (pS (.str x.2)) (λy hy=>hx y (.tail _ hy)) Re;refine⟨a,b,?_⟩;rw[Jl]at e2;exact(gp (by rfl) z).trans e2
abbrev wA:DS:=bf (aD (ar (j5 true) (aa 9) (au 2))) (cA 2 (aa 9)) bj
theorem zcf{r:List Pt}(h:m<=t.length):(t++r).take m=t.take m:=List.take_append_of_le_length h
theorem ziA{B:D}(q:Pt)(hm:m<=t.length)(hl:t.length<=1000)(o4 o5 o6 o7 o8:Option S):wA (cu A B F t m (o4,o5,o6,o7,o8,pS (ah q)))=.ok .next (cu A B F (dR t q) m (o4,o5,o6,o7,o8,pS (ah q))):=by
 have z:=jF (a:=cA 2 (aa 9)) (b:=bj) (show aD (ar (j5 true) (aa 9) (au 2)) (cu A B F t m (o4,o5,o6,o7,o8,pS (ah q)))=.ok (!decide (q∈t)) (cu A B F t m (o4,o5,o6,o7,o8,pS (ah q)))from kC (gq (x:=.pure (ah q)) rfl rfl (ziV t q)));unfold dR;by_cases h:q∈t;.rw[decide_eq_true h]at z;rw[if_pos h];exact z
 .rw[decide_eq_false h]at z;rw[if_neg h,show cu A B F (t++[q]) m _=(cu A B F t m (o4,o5,o6,o7,o8,pS (ah q))).set 2 (pO (.lst ((t++[q]).map ah)))by unfold cu;rw[zcf hm];rfl];exact z.trans (Me (i:=2) (j:=9) (t:=t) (q:=q) (Z:=cu A B F t m (o4,o5,o6,o7,o8,pS (ah q))) rfl rfl hl)
theorem ziz{B:D}{U:List Pt}(hU:U.length<=1000)(o4 o5 o6 o7:Option S)(ps:List Pt)(hp:∀q∈ps,q∈U)(ht:Nd U t)(hm:m<=t.length)(o9:Option S):∃o9',bC (aV (aa 8)) (ak [] 9) wA (cu A B F t m (o4,o5,o6,o7,pS (.lst (ps.map ah)),o9))=.ok .next (cu A B F (cn t ps) m (o4,o5,o6,o7,pS (.lst (ps.map ah)),o9'))/\Nd U (cn t ps)/\m<=(cn t ps).length:=by rw[du (it:=aV (aa 8)) (ds:=ps.map ah) (W':=cu A B F t m (o4,o5,o6,o7,pS (.lst (ps.map ah)),o9)) rfl];exact vY (g:=ak [] 9) ah (λt(j:Option S)=>cu A B F t m (o4,o5,o6,o7,pS (.lst (ps.map ah)),j)) dR (λt=>Nd U t/\m<=t.length) (λq=>q∈U) (λx a hx ha=>⟨hx.1.add ha,by obtain⟨r,e⟩:=KP [a] x;rw[show dR x a=x++r from e,Q6];exact Wy hx.2 (QY _ _)⟩) (λt j q ht hq=>⟨_,_,rfl,ziA q ht.2 (Wy ht.1.len hU) o4 o5 o6 o7 _⟩) ps t o9 ⟨ht,hm⟩ hp
theorem Mk{A B:D}{F:Pt->D}{m:Nat}{U:List Pt}(hU:U.length<=1000)(o4 o5 o6 o7:Option S):∀(ls:List (Tx×Tx)),(∀x∈ls,∀q∈x.1.zip x.2,q∈U)->∀{t:List Pt}(ht:Nd U t)(hm:m<=t.length)(o8 o9:Option S),∃o8' o9',forL (ak [] 8) (bC (aV (aa 8)) (ak [] 9) wA) (ls.map ow) (cu A B F t m (o4,o5,o6,o7,o8,o9))=.ok .next (cu A B F (cn t (ls.flatMap λx=>x.1.zip x.2)) m (o4,o5,o6,o7,o8',o9'))|[],_,t,_,_,o8,o9=>⟨o8,o9,rfl⟩|x::ls,hx,t,ht,hm,o8,o9=>by obtain⟨o9',e1,n1,m1⟩:=ziz (A:=A) (B:=B) (F:=F) hU o4 o5 o6 o7 (x.1.zip x.2) (hx x (.head _)) ht hm o9;obtain⟨a,b,e2⟩:=Mk (A:=A) (B:=B) (F:=F) hU o4 o5 o6 o7 ls (λy hy=>hx y (.tail _ hy)) n1 m1 (pS (ow x)) o9';refine⟨a,b,?_⟩;rw[List.flatMap_cons,zdY];exact(gp (by rfl) e1).trans e2
abbrev BB:DI:=rz (ar cg (aF cN (ae (ar ag (aj ag 0 (ae (eD (.int 0)))) (ae (eD (.int 2)))))) (ae (aj ag 4 (ae (eD (.int 0)))))) (ar cg (aF cN (ae (ar ag (aj ag 1 (ae (eD (.int 0)))) (ae (eD (.int 2)))))) (ae (aj ag 4 (ae (eD (.int 1))))))
abbrev Ml:DS:=aq (az (aj ag 2 (ae (aF j8 (au 3)))) (ak [] 4)) (aq (az (dq aN) (ak [] 5)) (aq (bC BB (bR 2 (aT (ak [] 6) (aT (ak [] 7) bX))) (cA 5 (j_ (aa 6) (aa 7)))) (aq (k8 3 (aa 4) (aa 5)) (bC (aV (aa 5)) (ak [] 8) (bC (aV (aa 8)) (ak [] 9) wA)))))
abbrev Mm:DT:=aD (ar gL (aF j8 (au 3)) (ae (aF bI (au 2))))
theorem qas{B D1 D2 b:D}{l1 l2:List D}(z1:ag A (.int 0)=pS r1)(z2:ag B (.int 0)=pS r2)(x1:ag r1 (.int 2)=pS T1)(x2:ag r2 (.int 2)=pS T2)(d1:cN T1=pO D1)(d2:cN T2=pO D2)(y1:cg D1 a=pS (.tup l1))(y2:cg D2 b=pS (.tup l2)):BB (cu A B F t m (pS (.tup [a,b]),j))=.ok (kZ l1 l2) (cu A B F t m (pS (.tup [a,b]),j)):=by have e1:ar cg (aF cN (ae (ar ag (aj ag 0 (ae (eD (.int 0)))) (ae (eD (.int 2)))))) (ae (aj ag 4 (ae (eD (.int 0))))) (cu A B F t m (pS (.tup [a,b]),j))=.ok (.pure (.tup l1)) (cu A B F t m (pS (.tup [a,b]),j)):=gq (kr (gq (iH rfl rfl z1) rfl x1) d1) (lE (iH rfl rfl rfl)) y1;have e2:ar cg (aF cN (ae (ar ag (aj ag 1 (ae (eD (.int 0)))) (ae (eD (.int 2)))))) (ae (aj ag 4 (ae (eD (.int 1))))) (cu A B F t m (pS (.tup [a,b]),j))=.ok (.pure (.tup l2)) (cu A B F t m (pS (.tup [a,b]),j)):=gq (kr (gq (iH rfl rfl z2) rfl x2) d2) (lE (iH rfl rfl rfl)) y2;unfold BB rz;rw[e1,jv,e2];rfl
theorem Bo.kd(o:Bo H W B1 B2):sR (kids B1 B2) o.U:=⟨o.len,o.Bp⟩
theorem zgu(o:Bo H W B1 B2){B:D}(z1:ag A (.int 0)=pS (aJ H W B1))(z2:ag B (.int 0)=pS (aJ H W B2)){x:Pt}(ht:Nd o.U t)(hx:t[m]?=some x)(j:BA):∃j',Ml (cu A B (eO B1 B2) t m j)=.ok .next (cu A B (eO B1 B2) (cn t (kids B1 B2 x)) (m+1) j'):=by
 have Mn:=ht.2 x (Wx hx);have wB:=fU.mp Mn;have hm:=(W6.mp hx).1;have hU:=o.len;have hl:=Wy ht.len hU;have b1:=sL o.R1 wB.1;have b2:=sL o.R2 wB.2;have H1:=o.R1.h1;have W1:=o.R1.w1;have n:j8 (jH (eO B1 B2) (t.take m))=pS (.int (m:Int)):=by show some (S.pure (.int (((t.take m).map λp=>(ah p,eO B1 B2 p)).length:Nat)))=_;rw[Wa,Jq,Uh Y']
 have it:=qas (A:=A) (B:=B) (F:=eO B1 B2) (t:=t) (m:=m) (j:=(pO (.lst []),j.2.2.1,j.2.2.2.1,j.2.2.2.2.1,j.2.2.2.2.2)) z1 z2 (jC H W B1).2.2 (jC H W B2).2.2 (si o.R1) (si o.R2) (sj wB.1) (sj wB.2);rw[wg]at it;have kd:(rows B1 B2 x).flatMap (λy=>y.1.zip y.2)=kids B1 B2 x:=LN (w:=W) _ _ (λr hr=>(b1.2 r hr).1) (λr hr=>(b2.2 r hr).1) Y';have lr:(rows B1 B2 x).length=H:=by rw[List.length_zip,b1.1,b2.1,Nat.min_self]
 obtain⟨o6,o7,e3⟩:=Mj (A:=A) (B:=B) (F:=eO B1 B2) (t:=t) (m:=m) (o4:=pS (ah x)) (o8:=j.2.2.2.2.1) (o9:=j.2.2.2.2.2) (rows B1 B2 x) [] j.2.2.1 j.2.2.2.1 λy hy=>by have h:=Jc (show(y.1,y.2)∈_ from hy);have q1:=(b1.2 _ h.1).1;have q2:=(b2.2 _ h.2).1;lia V';rw[Qv]at e3;have nx:x∉t.take m:=λz=>by
  obtain⟨i,hi,e⟩:=JQ.mp z;have eG:i<m:=by simp at hi;lia
  rw[List.getElem_take]at e;have e':t[m]=x:=by rw[W7 hm]at hx;exact WD hx
  exact absurd ((List.getElem_inj ht.1).mp (e.trans e'.symm)) Y'
 have tk:t.take m++[x]=t.take (m+1):=by rw[List.take_add_one,hx];rfl
 have e4:=Md (i:=3) (fi:=aa 4) (fe:=aa 5) (F:=eO B1 B2) (t:=t.take m) (q:=x) (Z:=cu A B (eO B1 B2) t m (pS (ah x),pO (eO B1 B2 x),o6,o7,j.2.2.2.2.1,j.2.2.2.2.2)) (W':=cu A B (eO B1 B2) t m (pS (ah x),pS (eO B1 B2 x),o6,o7,j.2.2.2.2.1,j.2.2.2.2.2)) rfl rfl rfl rfl nx V';rw[tk]at e4;obtain⟨o8,o9,e5⟩:=Mk (A:=A) (B:=B) (F:=eO B1 B2) (m:=m+1) hU (pS (ah x)) (pS (eO B1 B2 x)) o6 o7 (rows B1 B2 x) (λy hy q hq=>o.Bp x Mn q (by rw[<-kd];exact List.mem_flatMap.mpr ⟨y,hy,hq⟩)) ht hm j.2.2.2.2.1 j.2.2.2.2.2;rw[kd]at e5;have s1:az (aj ag 2 (ae (aF j8 (au 3)))) (ak [] 4) (cu A B (eO B1 B2) t m j)=.ok .next (cu A B (eO B1 B2) t m (pS (ah x),j.2)):=ku (iH rfl (lE (wz rfl n)) (Mh hx)) rfl;exact⟨_,(bQ s1).trans ((bQ (W':=cu A B (eO B1 B2) t m (pS (ah x),pO (.lst []),j.2.2)) rfl).trans ((bQ ((du it).trans e3)).trans ((bQ e4).trans ((du rfl).trans e5))))⟩
theorem zgt{B:D}(hm:m<=t.length)(hl:t.length<=1000)(j:BA):Mm (cu A B F t m j)=.ok (decide (m<t.length)) (cu A B F t m j):=by
 have n:j8 (jH F (t.take m))=pS (.int (m:Int)):=by show some (S.pure (.int (((t.take m).map λp=>(ah p,F p)).length:Nat)))=_;rw[Wa,Jq,Uh hm]
 exact kC (gq (wz rfl n) (lE (wz rfl (Mg t hl))) Mf)
abbrev eV(B1 B2:List (Nat×List Tx))(s:Pt):List Pt:=eU (kids B1 B2) 1000000 0 [s]
theorem zcU(o:Bo H W B1 B2){n1 n2:Nat}{B:D}(z1:ag A (.int 0)=pS (aJ H W B1))(z2:ag B (.int 0)=pS (aJ H W B2))(y1:ag A (.int 1)=pS (sD n1))(y2:ag B (.int 1)=pS (sD n2))(h1:n1∈B1.map (·.1))(h2:n2∈B2.map (·.1)):r9 [.pure A,.pure B]=some (.own (jH (eO B1 B2) (eV B1 B2 (n1,n2))),[.pure A,.pure B]):=by have hs:(n1,n2)∈o.U:=fU.mpr ⟨h1,h2⟩;obtain⟨j,e,w⟩:=By (t0:=[(n1,n2)]) o.kd (cu A B (eO B1 B2)) (T:=Mm) (Bd:=Ml) (λt m j ht hm=>zgt hm (Wy ht.len o.len) j) (λt m j x ht hx=>zgu o z1 z2 ht hx j) 1000000 0 [(n1,n2)] (none,none,none,none,none,none) (Ma hs) (by have:=o.len;lia);unfold r9 IY eV;generalize eU (kids B1 B2) 1000000 0 [(n1,n2)]=fin at*;rw[show cu A B (eO B1 B2) fin fin.length j=[_,_,_,pO (jH (eO B1 B2) fin),_,_,_,_,_,_]by unfold cu;rw[List.take_length]]at e;exact fj ((bQ (W':=[pS A,pS B,pO (.lst [ah (n1,n2)]),none,none,none,none,none,none,none]) (ku (v:=.own (.lst [ah (n1,n2)])) (W':=[pS A,pS B,none,none,none,none,none,none,none,none]) (by clear e w;exact bK) rfl)).trans ((bQ (W':=cu A B (eO B1 B2) [(n1,n2)] 0 (none,none,none,none,none,none)) rfl).trans ((bQ e).trans rfl)))
def pQ(z1 z2 qs:List Pt):D:=if qs.all λp=>decide (sgn z1 p.1=sgn z2 p.2)then .tup (qs.map ah)else .ax
theorem BC(ri:iG qs)(pm:qs.Perm t)(hl:t.length<64):k9 (.lst (t.map ah))=pO (.lst (qs.map ah)):=by obtain⟨rs,p,r,e⟩:=Br (pm.nodup_iff.mp (zfP ri)) hl;rw[e,zcK r ri (p.trans pm.symm)]
theorem zcm(ri:iG qs)(pm:qs.Perm t)(hl:t.length<64):nV (jH F t)=pO (.lst (qs.map ah)):=by
 have h:∀k∈t.map dE,k≠[]:=λk hk=>by obtain⟨x,_,rfl⟩:=WH.mp hk;simp
 have e1:=Yq (ps:=t.map λp=>(ah p,F p)) (ks:=t.map dE) (by rw[WV,WV];rfl) h (by rw[Wa];lia);have e2:=Hl h (by rw[Wa];lia);rw[<-Bq]at e2;rw[e1,<-e2];exact BC ri pm hl
theorem Mo{kd:Pt->List Pt}{U:List Pt}(K:sR kd U)(hs:s∈U):Wk kd U [s] (eU kd 1000000 0 [s]) (eU kd 1000000 0 [s]).length:=(Mi K (F:=λd=>match d with|.tup [.str [a],.str [b]]=>some (.lst ((kd (a,b)).map ah))|_=>none) (λp j=>rfl) hs).2
theorem sS(o:Bo H W B1 B2)(hs:s∈o.U):Wk (kids B1 B2) o.U [s] (eV B1 B2 s) (eV B1 B2 s).length:=Mo o.kd hs
theorem qat{g:DX}{B T:D}(e:g [.pure A,.pure B]=some (.inl (.pure T,[.pure A,.pure B]))):az (gC g [.val (aa 0),.val (aa 1)]) (ak [] 2) [pS A,pS B,none,none]=.ok .next [pS A,pS B,pS T,none]:=by simp[az,gC,bo,cL,cf,aa,S.d,bD,ba,e]
theorem Mp{h:Nat}{bs:List (Nat×List Tx)}(p:dZ h w bs n zs)(p':dZ h' w' aA n' aI){t:Nat}(ht:t=1\/t=2)(iN:t'=1\/t'=2)(e:fK h w h' w'=.tup [.int (t:Int),.int (t':Int)])(z:Rz h w bs t B)(z':Rz h' w' aA t' B')(eh:h^t=h'^t')(ew:w^t=w'^t')(fS:(eV B B' (n,n')).length<64)(ri:iG qs)(pm:qs.Perm (eV B B' (n,n'))):G_alike_of [.pure (aK h w bs n zs),.pure (aK h' w' aA n' aI)]=some (.inl (.pure (pQ zs aI qs),[.pure (aK h w bs n zs),.pure (aK h' w' aA n' aI)])):=by
 have s1:=qat (L7 p p' ht iN e);clear e;have o:Bo (h^t) (w^t) B B':=⟨z.R,%[eh,ew|z'.R]⟩;have hs:(n,n')∈o.U:=fU.mpr ⟨%[z.fst|p.f],%[z'.fst|p'.f]⟩;have x1:ag (aK h w bs n zs) (.int 1)=pS (sD n):=rfl;have x2:ag (aK h' w' aA n' aI) (.int 1)=pS (sD n'):=rfl;have gu:=λhl hg=>LW (A:=aK h w bs n zs) (B:=aK h' w' aA n' aI) p.R.up p'.R.up %[Wa|p.R.n1] %[Wa|p'.R.n1] p.p p'.p rfl rfl (ps:=eV B B' (n,n')) (.inl rfl) hl hg;have hk:∀q∈o.U,jX (aB i8 [.val (aa 1),.val (aa 0)]) [.tup [dY h bs t,dY h' aA t']] (ah q)=some (.lst ((kids B B' q).map ah)):=λq hq=>by have hq:=fU.mp hq;have e1:=wy z.R hq.1;have e2:=wy z'.R hq.2;rw[z.fst,z'.fst]at hq;have t1:=z.tx q.1 hq.1;have t2:=z'.tx q.2 hq.2;have c3:h^t*w^t<=4*4:=QD z.R.h1 z.R.w1;have u:=Lx (h:=h) (w:=w) (h':=h') (w':=w') (t:=t) (t':=t') hq.1 hq.2 (by rw[t1,t2,e1,e2,eh,ew]) (by rw[t1,e1];lia);rw[t1,t2]at u;generalize D.tup [dY h bs t,dY h' aA t']=T at*;have u:i8 [.pure T,.pure (ah q)]=some (.own (.lst ((kids B B' q).map ah)),_):=u;unfold jX;generalize ah q=Q,(kids B B' q).map ah=L at*;simp[aB,bo,cL,cf,aa,S.d,bD,ba,u]
 obtain⟨rc,wk⟩:=Mi o.kd hk hs;have hl:=Wy (Nd.len ⟨wk.nd,wk.sub⟩) o.len;have gu:=gu hl (λq hq=>by have:=fU.mp (wk.sub q hq);rw[z.fst,z'.fst]at this;exact fU.mpr this);have sr:=BC ri pm fS;have al:(∀p∈qs,sgn zs p.1=sgn aI p.2)↔∀p∈eV B B' (n,n'),sgn zs p.1=sgn aI p.2:=⟨λh p hp=>h p (pm.mem_iff.mpr hp),λh p hp=>h p (pm.mem_iff.mp hp)⟩;have ln:=Bi (((eV B B' (n,n')).filter λp=>!decide (sgn zs p.1=sgn aI p.2)).map ah) %[Wa|Wy (List.length_filter_le _ _) hl];have gt:=gt_int (((eV B B' (n,n')).filter λp=>!decide (sgn zs p.1=sgn aI p.2)).map ah).length 0;have lt:pQ zs aI qs=if 0<(((eV B B' (n,n')).filter λp=>!decide (sgn zs p.1=sgn aI p.2)).map ah).length then .ax else .tup (qs.map ah):=by
  have ps:0<(((eV B B' (n,n')).filter λp=>!decide (sgn zs p.1=sgn aI p.2)).map ah).length↔¬∀p∈qs,sgn zs p.1=sgn aI p.2:=by rw[Wa,List.length_pos_iff,Ne,List.filter_eq_nil_iff,al];simp
  unfold pQ;by_cases hq:∀p∈qs,sgn zs p.1=sgn aI p.2;.rw[if_pos (List.all_eq_true.mpr λp hp=>decide_eq_true (hq p hp)),if_neg λz=>ps.mp z hq]
  .rw[if_neg λz=>hq λp hp=>by simpa using WF.mp z p hp,if_pos (ps.mpr hq)]
 rw[lt];clear hk al lt;unfold eV at*;unfold G_alike_of b_alike_of;generalize((eU (kids B B') 1000000 0 [(n,n')]).filter λp=>!decide (sgn zs p.1=sgn aI p.2)).map ah=F at*;generalize aK h w bs n zs=P,aK h' w' aA n' aI=P',D.tup [dY h bs t,dY h' aA t']=T,(eU (kids B B') 1000000 0 [(n,n')]).map ah=L at*;have s2:az (o_ (a7 (aw (aj ag 0 (ae (eD (.int 1)))) (aw (aj ag 1 (ae (eD (.int 1)))) aN))) [2] (aB i8 [.val (aa 1),.val (aa 0)]) (wG n8 7)) (ak [] 3) [pS P,pS P',pS T,none]=.ok .next [pS P,pS P',pS T,pS (.lst L)]:=by refine ku (v:=.pure (.lst L)) (W':=[pS P,pS P',pS T,none]) ?_ rfl;have e:a7 (aw (aj ag 0 (ae (eD (.int 1)))) (aw (aj ag 1 (ae (eD (.int 1)))) aN)) [pS P,pS P',pS T,none]=.ok (.pure (.tup [sD n,sD n'])) [pS P,pS P',pS T,none]:=bK;unfold o_;rw[e];show(match wG n8 7 (jX _ [T]) (ah (n,n'))with|some d'=>_|none=>_)=_;rw[rc]
 by_cases hq:0<F.length;.rw[if_pos hq];rw[decide_eq_true Y']at gt;exact k_ (nz s1 (nz s2 (fI bK))) rfl rfl
 .rw[if_neg hq];rw[decide_eq_false Y']at gt;have tp:dt (.lst (qs.map ah))=pS (.tup (qs.map ah)):=rfl;generalize qs.map ah=Q at*;exact k_ (nz s1 (nz s2 (nz bK bK))) rfl rfl
abbrev v6(A B:D)(o2 o3 o4 o5:Option S):Dl:=[pS A,pS B,o2,o3,o4,o5]
abbrev Mq:DE:=ar bz (ar cg (aF cN (ae (aj ag 0 (ae (eD (.int 2)))))) (au 4)) (ae (ar cg (aF cN (ae (aj ag 1 (ae (eD (.int 2)))))) (au 5)))
theorem zgK{B:D}(u1:t1.Pairwise (.<.))(u2:t2.Pairwise (.<.))(l1:t1.length<=26)(l2:t2.length<=26)(P1:lA t1 z1)(P2:lA t2 z2)(x1:ag A (.int 2)=pS (.tup (z1.map ah)))(x2:ag B (.int 2)=pS (.tup (z2.map ah)))(hl:ps.length<=1000)(hp:∀p∈ps,p∈jE t1 t2)(o2:Option S):cb [4,5] (aV (aa 3)) (bR 2 (aT (ak [] 4) (aT (ak [] 5) bX))) cH Mq (v6 A B o2 (pO (.lst (ps.map ah))) none none)=.ok (.own (.lst (ps.map λp=>.bl (decide (sgn z1 p.1=sgn z2 p.2))))) (v6 A B o2 (pS (.lst (ps.map ah))) none none):=by
 have s:∀p∈ps,Mq (v6 A B o2 (pS (.lst (ps.map ah))) (pS (sD p.1)) (pS (sD p.2)))=.ok (.pure (.bl (decide (sgn z1 p.1=sgn z2 p.2)))) (v6 A B o2 (pS (.lst (ps.map ah))) (pS (sD p.1)) (pS (sD p.2))):=λp h=>by have h:=fU.mp (hp p h);exact gq (gq (kr (iH rfl rfl x1) (sG u1 l1 P1)) rfl (sH P1 h.1).1) (lE (gq (kr (iH rfl rfl x2) (sG u2 l2 P2)) rfl (sH P2 h.2).1)) (qal _ _)
 exact cM (f:=ah) (λp=>.bl (decide (sgn z1 p.1=sgn z2 p.2))) rfl hl λp hp=>⟨v6 A B o2 (pS (.lst (ps.map ah))) (pS (sD p.1)) (pS (sD p.2)),_,_,_,rfl,rfl,s p hp,rfl,rfl⟩
theorem Mr{h:Nat}{bs:List (Nat×List Tx)}(p:dZ h w bs n zs)(p':dZ h' w' aA n' aI):lg [.pure (aJ h w bs),.pure (aJ h' w' aA)]=some (.pure (fK h w h' w'),[.pure (aJ h w bs),.pure (aJ h' w' aA)]):=by have a1:=p.R.h1;have a2:=p.R.w1;have b1:=p'.R.h1;have b2:=p'.R.w1;exact zaE Y' Y' Y' Y'
theorem qau{h:Nat}{bs:List (Nat×List Tx)}(p:dZ h w bs n zs)(p':dZ h' w' aA n' aI){t:Nat}(e:fK h w h' w'=.tup [.int (t:Int),.int (t':Int)])(z:Rz h w bs t B)(z':Rz h' w' aA t' B')(o:Bo (h^t) (w^t) B B')(gz:ll [.pure (aK h w bs n zs),.pure (.int (t:Int))]=some (.pure (aK (h^t) (w^t) B n zs),[.pure (aK h w bs n zs),.pure (.int (t:Int))]))(BF:ll [.pure (aK h' w' aA n' aI),.pure (.int (t':Int))]=some (.pure (aK (h^t) (w^t) B' n' aI),[.pure (aK h' w' aA n' aI),.pure (.int (t':Int))]))(fS:(eV B B' (n,n')).length<64)(ri:iG qs)(pm:qs.Perm (eV B B' (n,n'))):mE [.pure (aK h w bs n zs),.pure (aK h' w' aA n' aI)]=some (.pure (pQ zs aI qs),[.pure (aK h w bs n zs),.pure (aK h' w' aA n' aI)]):=by
 have f1:n∈B.map (·.1):=%[z.fst|p.f];have f2:n'∈B'.map (·.1):=%[z'.fst|p'.f];have hs:(n,n')∈o.U:=fU.mpr ⟨f1,f2⟩;have wk:=sS o hs;have hl:=Wy (Nd.len ⟨wk.nd,wk.sub⟩) o.len;have g:=Mr p p';rw[e]at g;have lp:=zcU o (A:=aK (h^t) (w^t) B n zs) (B:=aK (h^t) (w^t) B' n' aI) rfl rfl rfl rfl f1 f2;have sd:=zcm (F:=eO B B') ri pm fS;have lq:qs.length<=1000:=by rw[pm.length_eq];lia
 have c:=zgK (A:=aK (h^t) (w^t) B n zs) (B:=aK (h^t) (w^t) B' n' aI) o.R1.up o.R2.up %[Wa|o.R1.n1] %[Wa|o.R2.n1] %[z.fst|p.p] %[z'.fst|p'.p] rfl rfl lq (λq hq=>wk.sub q (pm.mem_iff.mp hq)) (pS (.tup [.int (t:Int),.int (t':Int)]));have c4:=jF (a:=aM (eD .ax)) (b:=bj) (ou (kr c (Bs qs λp:Pt=>decide (sgn zs p.1=sgn aI p.2))));have z1:ag (aK h w bs n zs) (.int 0)=pS (aJ h w bs):=rfl;have z2:ag (aK h' w' aA n' aI) (.int 0)=pS (aJ h' w' aA):=rfl;have tp:dt (.lst (qs.map ah))=pS (.tup (qs.map ah)):=rfl;unfold mE IZ pQ;clear c e wk hl hs f1 f2 o z z';generalize aK h w bs n zs=P,aK h' w' aA n' aI=P',aK (h^t) (w^t) B n zs=Q,aK (h^t) (w^t) B' n' aI=Q',aJ h w bs=r1,aJ h' w' aA=r2,jH (eO B B') (eV B B' (n,n'))=DD at*;cases al:qs.all λp=>decide (sgn zs p.1=sgn aI p.2)<;>rw[al]at c4<;>clear al<;>generalize qs.map ah=L at*;.exact fj (nz bK (nz bK (nz bK (nz (W':=v6 Q Q' (pS (.tup [.int (t:Int),.int (t':Int)])) (pO (.lst L)) none none) bK (jA c4)))))
 .exact fj (nz bK (nz bK (nz bK (nz (W':=v6 Q Q' (pS (.tup [.int (t:Int),.int (t':Int)])) (pO (.lst L)) none none) bK ((bQ c4).trans bK)))))
section
variable{ce:Tx->Nat}
theorem zcW{h:Nat}{bs:List (Nat×List Tx)}(p:dZ h w bs n zs)(p':dZ h' w' aA n' aI)(e:fK h w h' w'=.ax):G_alike_of [.pure (aK h w bs n zs),.pure (aK h' w' aA n' aI)]=some (.inr (wx,[.pure (aK h w bs n zs),.pure (aK h' w' aA n' aI)])):=by have g:=zaF p p' e;unfold G_alike_of b_alike_of;generalize aK h w bs n zs=A,aK h' w' aA n' aI=B at*;refine LX (W':=[pS A,pS B,none,none]) (LY ?_) rfl rfl;simp[bx,az,gC,bo,cL,cf,aa,S.d,bD,ba,g];rfl
theorem zhW(GA:DX)(GK:DF){P1 P2:D}(g:GA [.pure P1,.pure P2]=some (.inr (wx,[.pure P1,.pure P2])))(k:GK [.pure (.exc (ce [85,110,108,105,107,101]) .ax)]=some (.pure (.str [117,110,108,105,107,101]),[.pure (.exc (ce [85,110,108,105,107,101]) .ax)])):bt [] 3 (nC ce ys 2 (aM (gC GA [.val (aa 0),.val (aa 1)])) (aM (aB GK [.val (aa 2)]))) [.pure P1,.pure P2]=some (.pure (.str [117,110,108,105,107,101]),[.pure P1,.pure P2]):=by
 refine fj (W':=[some (.pure P1),some (.pure P2),none]) ?_;show nC ce ys 2 _ _ [some (.pure P1),some (.pure P2),none]=_;have eb:aM (gC GA [.val (aa 0),.val (aa 1)]) [some (.pure P1),some (.pure P2),none]=.exc wx [some (.pure P1),some (.pure P2),none]:=by simp[aM,gC,bo,cL,cf,aa,S.d,bD,g,ba];try rfl
 unfold nC;rw[eb];simp[yJ,unset,ys,aB,bo,cL,cf,aa,S.d,bD,k,ba]
end
abbrev sw(p:Pt):Pt:=(p.2,p.1)
theorem zhi{p:Pt}(h:sw p=sw q):p=q:=by obtain⟨a,b⟩:=p;obtain⟨c,d⟩:=q;cases h;rfl
theorem Ms:sw q∈t.map sw↔q∈t:=⟨λh=>by obtain⟨x,hx,e⟩:=WH.mp h;exact zhi e▸hx,λh=>Qj h⟩
theorem zgV(qs:List Pt):∀t:List Pt,cn (t.map sw) (qs.map sw)=(cn t qs).map sw:=by induction qs with|nil=>intro t;rfl|cons q r ih=>
 intro t;show cn (dR (t.map sw) (sw q)) (r.map sw)=(cn (dR t q) r).map sw;rw[<-ih];congr 1;unfold dR;by_cases h:q∈t;.rw[if_pos h,if_pos (Ms.mpr h)]
 .rw[if_neg h,if_neg λz=>h (Ms.mp z),WO];rfl
theorem Mt{kd kd':Pt->List Pt}(h:∀p,kd' (sw p)=(kd p).map sw):∀(n m:Nat)(t:List Pt),eU kd' n m (t.map sw)=(eU kd n m t).map sw|0,m,t=>rfl|n+1,m,t=>by unfold eU;rw[Wj];cases e:t[m]? with|none=>rfl|some x=>show eU kd' n (m+1) (cn (t.map sw) (kd' (sw x)))=_;rw[h,zgV];exact Mt h n (m+1) _
theorem Mu:∀l r:Tx,r.zip l=(l.zip r).map sw|[],[]=>rfl|[],_::_=>rfl|_::_,[]=>rfl|a::l,b::r=>by rw[Ja,Ja,Wm,Mu l r]
theorem zj8(B B':List (Nat×List Tx))(s:Pt):eV B' B (sw s)=(eV B B' s).map sw:=Mt (kd:=kids B B') (kd':=kids B' B) (λp=>Mu _ _) 1000000 0 [s]
theorem zdP{a b c d:Bool}(h:b=true->c=true->a=true){t t':Int}(e:sk a b c d=.tup [.int t,.int t']):sk a c b d=.tup [.int t',.int t]:=by cases a<;>cases b<;>cases c<;>cases d<;>first|(cases h rfl rfl;done)|(cases e<;>rfl)
theorem wC(h w h' w' p q:Nat):cD h w h' w' p q=cD h' w' h w q p:=by unfold cD;congr 1<;>exact decide_eq_decide.mpr eq_comm
theorem zgN{h:Nat}(a1:0<h)(a2:0<w){t t':Int}(e:fK h w h' w'=.tup [.int t,.int t']):fK h' w' h w=.tup [.int t',.int t]:=by
 have one:∀{a b:Nat},0<a->a^1=b^2->a^2=b^1->a^1=b^1:=λ{a b}h0 e1 e2=>by
  simp only[QI,Jo]at*;rcases Nat.lt_or_ge 1 a with z|z;.have h1:=QD z (Wc a);have h2:=QD (show 1<=b by lia) (Wc b);lia
  .have:a=1:=by lia
   subst this;lia
 unfold fK at*;rw[wC h' w' h w 1 1,wC h' w' h w 1 2,wC h' w' h w 2 1,wC h' w' h w 2 2];refine zdP (λx y=>?_) e;unfold cD at*;rw[Wq,decide_eq_true_eq,decide_eq_true_eq]at*;exact⟨one a1 x.1 y.1,one a2 x.2 y.2⟩
abbrev q7(A B:D)(o2 o3 o4 o5 o6:Option S):Dl:=[pS A,pS B,o2,o3,o4,o5,o6]
theorem sT{G:DX}{j:Nat}{x:D}(g:G [.pure x,.pure y]=some (.inl (v,[.pure x,.pure y])))(h1:Z[i]?=some (pS x))(h2:Z[j]?=some (pS y)):e_ G [.val (aa i),.val (aa j)] Z=.ok v Z:=by simp[e_,bo,cL,cf,aa,S.d,bD,ba,g,h1,h2]
theorem zjl{G:DX}{j k:Nat}{x z:D}(g:G [.pure x,.pure y,.pure z]=some (.inl (v,[.pure x,.pure y,.pure z])))(h1:Z[i]?=some (pS x))(h2:Z[j]?=some (pS y))(h3:Z[k]?=some (pS z)):e_ G [.val (aa i),.val (aa j),.val (aa k)] Z=.ok v Z:=by simp[e_,bo,cL,cf,aa,S.d,bD,ba,g,h1,h2,h3]
theorem Mv(ps:List Pt):eK (.tup (ps.map ah)) (.tup (ps.map ah))=pS (.bl false):=by have f1:gX 49 (ps.map ah)=true:=LU 47 ps;have e:=wq ps ps;simp[eK,flat,aY,f1,e]
abbrev Mw:DS:=bf (dz (cU (aD (fO "tuple" (au 4)))) (dz (cU (aD (fO "str" (ae (aj ag 4 (ae (eD (.int 0)))))))) (cU (aD (fO "str" (ae (aj ag 4 (ae (eD (.int 1)))))))))) (aM (eD (.bl false))) bj
theorem Mx{T:String}{d:D}{b:Bool}{f:BE}(h:f Z=.ok d Z)(e:iS T d=some b):fO T f Z=.ok (.pure (.bl b)) Z:=by simp[fO,h,e]
theorem My{A B o2 o3:D}:∀(qs:List Pt)(o4:Option S),∃o4',forL (ak [] 4) Mw (qs.map ah) (q7 A B (pS o2) (pS o3) o4 none none)=.ok .next (q7 A B (pS o2) (pS o3) o4' none none)|[],o4=>⟨o4,rfl⟩|q::r,o4=>by obtain⟨o4',e⟩:=My r (pS (ah q));have z:Mw (q7 A B (pS o2) (pS o3) (pS (ah q)) none none)=.ok .next (q7 A B (pS o2) (pS o3) (pS (ah q)) none none):=jF (wo (ou (x:=true) (jW rfl rfl)) (wo (ou (x:=true) (Mx (lE (iH rfl rfl rfl)) rfl)) (ou (x:=true) (Mx (lE (iH rfl rfl rfl)) rfl))));exact⟨o4',(gp rfl z).trans e⟩
section
variable{ce:Tx->Nat}
theorem Mz:∀l:Tx,l.zip l=l.map λv=>(v,v)|[]=>rfl|a::l=>by rw[Ja,Mz l];rfl
theorem zgG{h:Nat}{bs:List (Nat×List Tx)}{t:Nat}(o:Bo (h^t) (w^t) B B')(z:Rz h w bs t B)(z':Rz h' w' aA t' B')(e:fK h w h' w'=.tup [.int (t:Int),.int (t':Int)])(hs:(n,n')∈o.U)(hb:bs.length*aA.length<64\/h'=h/\w'=w/\aA=bs/\n'=n/\bs.length<=8):(eV B B' (n,n')).length<64:=by
 have l1:B.length=bs.length:=by have:=congrArg Qf z.fst;simpa using this
 have l2:B'.length=aA.length:=by have:=congrArg Qf z'.fst;simpa using this
 rcases hb with hb|⟨rfl,rfl,rfl,rfl,hb⟩;.have wk:=sS o hs;have:=Nd.len ⟨wk.nd,wk.sub⟩;rw[LM,Wa,Wa,l1,l2]at this;lia
 .have oq:cD h' w' h' w' 1 1=true:=#v[cD];unfold fK sk at e;rw[oq,if_pos rfl]at e;injection e with e;injection e with e1 e2;injection e2 with e2;injection e1 with e1;injection e2 with e2;obtain rfl:t=t':=by lia
  have hn:=(fU.mp hs).1;rw[z.fst]at hn;have wk:=Mo (s:=(n',n')) (kd:=kids B B') (U:=(aA.map (·.1)).map λa=>(a,a)) ⟨by rw[Wa,Wa];lia,λx hx q hq=>by obtain⟨a,ha,rfl⟩:=WH.mp hx;have k:=o.Bp (a,a) (fU.mpr ⟨%[z.fst|ha],%[z'.fst|ha]⟩) q hq;have hq:q∈((bE B a).flatten).zip (bE B' a).flatten:=hq;rw[<-z.tx a ha,<-z'.tx a ha,Mz]at hq;obtain⟨v,_,rfl⟩:=WH.mp hq;have k:=(fU.mp k).1;rw[z.fst]at k;exact Qj k⟩ (Qj hn);have:=Nd.len ⟨wk.nd,wk.sub⟩;rw[Wa,Wa]at this;show(eU (kids B B') 1000000 0 [(n',n')]).length<64;lia
theorem MA{h:Nat}{bs:List (Nat×List Tx)}(p:dZ h w bs n zs)(p':dZ h' w' aA n' aI)(hb:bs.length*aA.length<64\/h'=h/\w'=w/\aA=bs/\n'=n/\bs.length<=8):G__law_right_of ce [.pure (aK h w bs n zs),.pure (aK h' w' aA n' aI)]=some (.pure (.bl true),[.pure (aK h w bs n zs),.pure (aK h' w' aA n' aI)]):=by
 have g:=Mr p p';have i1:fX false .ax .ax=pS (.bl true):=rfl;have z1:ag (aK h w bs n zs) (.int 0)=pS (aJ h w bs):=rfl;have z2:ag (aK h' w' aA n' aI) (.int 0)=pS (aJ h' w' aA):=rfl;unfold G__law_right_of b__law_right_of;rcases zdO p.R.h0 p.R.h1 p.R.w0 p.R.w1 p'.R.h0 p'.R.h1 p'.R.w0 p'.R.w1 with e|⟨t,t',ht,iN,e,eh,ew,hs,gK⟩<;>rw[e]at g
 .have gt:G__law_told ce [.pure (aK h w bs n zs),.pure (aK h' w' aA n' aI)]=some (.pure (.str [117,110,108,105,107,101]),[.pure (aK h w bs n zs),.pure (aK h' w' aA n' aI)]):=by unfold G__law_told b__law_told;exact zhW G_alike_of (pJ ce) (zcW p p' e) (zhM .ax)
  have e3:bz (.str [117,110,108,105,107,101]) (.str [117,110,108,105,107,101])=pS (.bl true):=rfl;clear e;generalize aK h w bs n zs=P,aK h' w' aA n' aI=P',aJ h w bs=r1,aJ h' w' aA=r2,D.str [117,110,108,105,107,101]=UN at*;exact fj (fI bK)
 .obtain⟨B,z,gz⟩:=LZ p ht hs;obtain⟨B',z',BF⟩:=LZ p' iN gK;rw[<-eh,<-ew]at BF;have o:Bo (h^t) (w^t) B B':=⟨z.R,%[eh,ew|z'.R]⟩;have o':Bo (h'^t') (w'^t') B' B:=⟨z'.R,by rw[<-eh,<-ew];exact z.R⟩;have f1:n∈B.map (·.1):=%[z.fst|p.f];have f2:n'∈B'.map (·.1):=%[z'.fst|p'.f];have hs:(n,n')∈o.U:=fU.mpr ⟨f1,f2⟩;have gK:(n',n)∈o'.U:=fU.mpr ⟨f2,f1⟩;have fs:eV B' B (n',n)=(eV B B' (n,n')).map sw:=zj8 B B' (n,n');have fS:=zgG o z z' e hs hb;have MB:(eV B' B (n',n)).length<64:=%[fs,Wa|fS];obtain⟨qs,pm,ri,_⟩:=Br (sS o hs).nd fS;obtain⟨rs,pm',ri',_⟩:=Br (sS o' gK).nd MB;have wk:=sS o hs;have pq:rs.Perm (qs.map sw):=by rw[fs]at pm';exact pm'.trans (pm.map sw).symm
  have l6:qs.length<64:=%[pm.length_eq|fS];have lq:qs.length<=1000:=by lia
  have gd:=qau p p' e z z' o gz BF fS ri pm;have ga:=Mp p p' ht iN e z z' eh ew fS ri pm;have gb:=Mp p' p iN ht (zgN p.R.h0 p.R.w0 e) z' z eh.symm ew.symm MB ri' pm';have i2:fX false (.tup [.int t,.int t']) .ax=pS (.bl false):=rfl;have k1:ar (fX false) (aB lg [.val (aj ag 0 (ae (eD (.int 0)))),.val (aj ag 1 (ae (eD (.int 0))))]) (ae (eD .ax)) (q7 (aK h w bs n zs) (aK h' w' aA n' aI) none none none none none)=.ok (.pure (.bl false)) (q7 (aK h w bs n zs) (aK h' w' aA n' aI) none none none none none):=by clear gd ga gb e;generalize aK h w bs n zs=P,aK h' w' aA n' aI=P',aJ h w bs=r1,aJ h' w' aA=r2,D.tup [.int t,.int t']=PW at*;exact bK
  have s1:=jF (a:=aM (ar bz (aB (G__law_told ce) [.val (aa 0),.val (aa 1)]) (ae (eD (.str [117,110,108,105,107,101]))))) (b:=bj) (kC k1);have al:(qs.all λp=>decide (sgn zs p.1=sgn aI p.2))=rs.all λp=>decide (sgn aI p.1=sgn zs p.2):=by
   rw[Qi,WF,WF];refine⟨λh x hx=>?_,λh x hx=>?_⟩;.obtain⟨y,hy,rfl⟩:=WH.mp (pq.mem_iff.mp hx);exact decide_eq_true (of_decide_eq_true (h y hy)).symm
   .exact decide_eq_true (of_decide_eq_true (h (sw x) (pq.mem_iff.mpr (Qj hx)))).symm
  unfold pQ at gd ga gb;rw[<-al]at gb;cases ha:qs.all λp=>decide (sgn zs p.1=sgn aI p.2)with|false=>
   rw[ha]at gd ga gb;generalize aK h w bs n zs=P,aK h' w' aA n' aI=P' at*;have s2:az (aB mE [.val (aa 0),.val (aa 1)]) (ak [] 2) (q7 P P' none none none none none)=.ok .next (q7 P P' (pS .ax) none none none none):=by clear ga gb s1 k1;exact bK
   have s3:az (e_ G_alike_of [.val (aa 0),.val (aa 1)]) (ak [] 3) (q7 P P' (pS .ax) none none none none)=.ok .next (q7 P P' (pS .ax) (pS .ax) none none none):=ku (sT ga rfl rfl) rfl;have s4:ar (fX false) (e_ G_alike_of [.val (aa 1),.val (aa 0)]) (ae (eD .ax)) (q7 P P' (pS .ax) (pS .ax) none none none)=.ok (.pure (.bl true)) (q7 P P' (pS .ax) (pS .ax) none none none):=gq (sT gb rfl rfl) rfl rfl;have s5:lZ (ar (fX false) (aa 3) (ae (eD .ax))) (ar (fX false) (e_ G_alike_of [.val (aa 1),.val (aa 0)]) (ae (eD .ax))) (q7 P P' (pS .ax) (pS .ax) none none none)=.ok (.pure (.bl true)) (q7 P P' (pS .ax) (pS .ax) none none none):=by have s0:ar (fX false) (aa 3) (ae (eD .ax)) (q7 P P' (pS .ax) (pS .ax) none none none)=.ok (.pure (.bl true)) (q7 P P' (pS .ax) (pS .ax) none none none):=gq (x:=.pure .ax) rfl rfl rfl;unfold lZ;rw[s0];exact s4
   exact fj (nz s1 (nz s2 (nz s3 (fI ((jF (kC (x:=true) (gq (x:=.pure .ax) rfl rfl rfl))).trans (rt s5))))))|true=>rw[ha]at gd ga gb;have ok:Bu B B' n n' zs aI (.tup (qs.map ah)):=⟨qs,rfl,λx hx=>wk.sub x (pm.mem_iff.mp hx),ri,by obtain⟨r,er⟩:=wk.pre;rw[pm.mem_iff,er];exact .head _,λx hx=>of_decide_eq_true (WF.mp ha x hx),λx hx y hy=>pm.mem_iff.mpr (wk.closed (Wc _) x (pm.mem_iff.mp hx) y hy)⟩;obtain⟨b,ib,gh⟩:=zfV p p' ht iN e z z' eh ew (d:=.tup (qs.map ah)) (zh9 (~~~lq) (ziP qs));cases b with|false=>exact nomatch ib.mpr ok|true=>
 have ne:=Mv qs;have ne':=Mv rs;have so:=BC ri' pq %[Wa|l6];clear ok ib ha al e;generalize aK h w bs n zs=P,aK h' w' aA n' aI=P' at*;have ga:G_alike_of [.pure P,.pure P']=some (.inl (.pure (.tup (qs.map ah)),_)):=ga;have gb:G_alike_of [.pure P',.pure P]=some (.inl (.pure (.tup (rs.map ah)),_)):=gb;have gd:mE [.pure P,.pure P']=some (.pure (.tup (qs.map ah)),_):=gd;have s2:az (aB mE [.val (aa 0),.val (aa 1)]) (ak [] 2) (q7 P P' none none none none none)=.ok .next (q7 P P' (pS (.tup (qs.map ah))) none none none none):=by clear ga gb s1 k1 gh;generalize D.tup (qs.map ah)=Q at*;exact bK
 have s3:az (e_ G_alike_of [.val (aa 0),.val (aa 1)]) (ak [] 3) (q7 P P' (pS (.tup (qs.map ah))) none none none none)=.ok .next (q7 P P' (pS (.tup (qs.map ah))) (pS (.tup (qs.map ah))) none none none):=ku (sT ga rfl rfl) rfl;obtain⟨o4,lp⟩:=My (A:=P) (B:=P') (o2:=.tup (qs.map ah)) (o3:=.tup (qs.map ah)) qs none;have cp:=cM (cs:=[5,6]) (it:=aV (aa 2)) (g:=bR 2 (aT (ak [] 5) (aT (ak [] 6) bX))) (t:=cH) (el:=a7 (aw (aa 6) (aw (aa 5) aN))) (f:=ah) (λq=>ah (sw q)) (as:=qs) (Z:=q7 P P' (pS (.tup (qs.map ah))) (pS (.tup (qs.map ah))) o4 none none) (W':=q7 P P' (pS (.tup (qs.map ah))) (pS (.tup (qs.map ah))) o4 none none) rfl lq λq j=>⟨_,_,.pure (ah (sw q)),_,rfl,rfl,rfl,rfl,rfl⟩;rw[show(qs.map λq=>ah (sw q))=(qs.map sw).map ah by rw[WV];rfl]at cp;have tp:dt (.lst (rs.map ah))=pS (.tup (rs.map ah)):=rfl;have c1:dz (cU (aD (fO "tuple" (au 3)))) (dz (aD (aj eK 3 (au 2))) (aD (ar eK (e_ G_alike_of [.val (aa 0),.val (aa 1)]) (au 3)))) (q7 P P' (pS (.tup (qs.map ah))) (pS (.tup (qs.map ah))) none none none)=.ok false (q7 P P' (pS (.tup (qs.map ah))) (pS (.tup (qs.map ah))) none none none):=wo (ou (x:=true) (jW rfl rfl)) (wo (kC (iH rfl rfl ne)) (kC (gq (sT ga rfl rfl) rfl ne)));have c2:aD (ar eK (e_ G_alike_of [.val (aa 1),.val (aa 0)]) (ae (aF dt (ae (aF k9 (ae (cb [5,6] (aV (aa 2)) (bR 2 (aT (ak [] 5) (aT (ak [] 6) bX))) cH (a7 (aw (aa 6) (aw (aa 5) aN)))))))))) (q7 P P' (pS (.tup (qs.map ah))) (pS (.tup (qs.map ah))) o4 none none)=.ok false (q7 P P' (pS (.tup (qs.map ah))) (pS (.tup (qs.map ah))) o4 none none):=kC (gq (sT gb rfl rfl) (lE (kr (kr cp so) tp)) ne');have c3:ar (pb false) (e_ pK [.val (aa 0),.val (aa 1),.val (aa 3)]) (ae (eD (.bl true))) (q7 P P' (pS (.tup (qs.map ah))) (pS (.tup (qs.map ah))) o4 none none)=.ok (.pure (.bl true)) (q7 P P' (pS (.tup (qs.map ah))) (pS (.tup (qs.map ah))) o4 none none):=gq (zjl gh rfl rfl rfl) rfl rfl;exact fj (nz s1 (nz s2 (nz s3 (nz (jF (kC (x:=false) (gq (x:=.pure (.tup (qs.map ah))) rfl rfl rfl))) (nz (jF c1) (nz ((du rfl).trans lp) (nz (jF c2) (rt c3))))))))
def Rg(a b:D):Prop:=∀ce,G__law_right_of ce [.pure a,.pure b]=some (.pure (.bl true),[.pure a,.pure b])
theorem MC{b:D}{k:Nat}(ha:PD m a)(hb:PD k b)(hm:m*k<=32:=by decide):Rg a b:=by obtain⟨h,w,bs,n,zs,rfl,p,l⟩:=ha;obtain⟨h',w',aA,n',aI,rfl,p',l'⟩:=hb;exactλce=>MA p p' (.inl (QA (QD l l') Y'))
theorem MD(ha:PD 8 a):Rg a a:=by obtain⟨h,w,bs,n,zs,rfl,p,l⟩:=ha;exactλce=>MA p p (.inr ⟨rfl,rfl,rfl,rfl,l⟩)
theorem zfQ{b:D}(h:PD 4 a/\PD 8 b\/PD 8 a/\PD 4 b):Rg a b/\Rg a a:=h.elim (λh=>⟨MC h.1 h.2,MD h.1.up⟩) λh=>⟨MC h.1 h.2,MD h.1⟩
theorem zgs{d1 d2:D}(h1:Rg d1 d2)(h2:Rg d1 d1)(ja c:D)(o4:Option S):∃o4',forL (ak [] 4) (bf (cU (aD (aB (G__law_right_of ce) [.val (aj ag 4 (ae (eD (.int 0)))),.val (aj ag 4 (ae (eD (.int 1))))]))) (aM (eD (.bl false))) bj) [.tup [d1,d2],.tup [d1,d1],.tup [d1,d2]] [pS ja,pS c,pS d1,pS d2,o4]=.ok .next [pS ja,pS c,pS d1,pS d2,o4']:=by
 have st:∀{a b:D},Rg a b->bf (cU (aD (aB (G__law_right_of ce) [.val (aj ag 4 (ae (eD (.int 0)))),.val (aj ag 4 (ae (eD (.int 1))))]))) (aM (eD (.bl false))) bj [pS ja,pS c,pS d1,pS d2,pS (.tup [a,b])]=.ok .next [pS ja,pS c,pS d1,pS d2,pS (.tup [a,b])]:=λ{a b}ha=>by have g:=ha ce;have x:ag (.tup [a,b]) (.int 0)=pS a:=rfl;have y:ag (.tup [a,b]) (.int 1)=pS b:=rfl;clear h1 h2 ha;generalize D.tup [a,b]=Q at*;exact jF (ou (x:=true) bK)
 exact⟨_,(gp rfl (st h1)).trans ((gp rfl (st h2)).trans ((gp rfl (st h1)).trans rfl))⟩
theorem zfU(ns:List Int)(hn:ns.length<=63):G_law ce [.pure (.lst (ns.map .int))]=some (.pure (.bl true),[.pure (.lst (ns.map .int))]):=by
 obtain⟨c0,e0⟩:=ZP ns;have ha:a_ (.lst [.int c0]) (.lst (b_ (ns.map .int) (some 1) (some 5)))=pO (.lst ((c0::b_ ns (some 1) (some 5)).map .int)):=by
  have hc:b_ (ns.map D.int) (some 1) (some 5)=(b_ ns (some 1) (some 5)).map D.int:=by unfold b_;simp[List.map_take,List.map_drop]
  have hl:(b_ ns (some 1) (some 5)).length<=63:=Wy (Dq _ _ _) hn;rw[hc,zgU _ _ V'];rfl
 have hs:dG (some 1) (some 5) (.lst (ns.map .int))=pO (.lst (b_ (ns.map .int) (some 1) (some 5))):=rfl;generalize D.lst (ns.map .int)=ja at*;obtain⟨S',e,o1,o2,o3,o4,rfl⟩:=vf (g:=ak [] 1) (b:=aq (az (mj nZ (aB n5 [.val (aa 1)]) []) (bR 2 (aT (ak [] 2) (aT (ak [] 3) bX)))) (bC (aV (dq (aw (a7 (aw (aa 2) (aw (aa 3) aN))) (aw (a7 (aw (aa 2) (aw (aa 2) aN))) (aw (a7 (aw (aa 2) (aw (aa 3) aN))) aN))))) (ak [] 4) (bf (cU (aD (aB (G__law_right_of ce) [.val (aj ag 4 (ae (eD (.int 0)))),.val (aj ag 4 (ae (eD (.int 1))))]))) (aM (eD (.bl false))) bj))) (λj Z=>∃(o1 o2 o3 o4:Option S),Z=[pS ja,o1,o2,o3,o4]) ((c0::b_ ns (some 1) (some 5)).map .int) 0 [pS ja,none,none,none,none] ⟨none,none,none,none,rfl⟩ λi d Z hd hh=>by
   obtain⟨o1,o2,o3,o4,e⟩:=hh
   subst e;simp only[Wj,Qc]at hd;obtain⟨k,_,rfl⟩:=hd;obtain⟨kB,e1,p1⟩:=ZO k;obtain⟨d1,d2,om,hd,p2,e2⟩:=qaj p1;obtain⟨h1,h2⟩:=zfQ hd;obtain⟨o4',lp⟩:=zgs (ce:=ce) h1 h2 ja (.int k) o4;have s1:az (mj nZ (aB n5 [.val (aa 1)]) []) (bR 2 (aT (ak [] 2) (aT (ak [] 3) bX))) [pS ja,pS (.int k),o2,o3,o4]=.ok .next [pS ja,pS (.int k),pS d1,pS d2,o4]:=by clear lp h1 h2;simp[az,mj,bo,aB,cL,cf,aa,S.d,bD,ba,e1,e2,bR,aT,bX]
   exact⟨_,_,rfl,(bQ s1).trans ((du rfl).trans lp),_,_,_,_,rfl⟩
 generalize(c0::b_ ns (some 1) (some 5)).map D.int=cs at*;generalize D.lst (b_ (ns.map .int) (some 1) (some 5))=cl at*;rw[G_law,b_law];have qi:aV (ar a_ (dq (aw (aB pD [.val (aa 0),.val (eD (.int 0))]) aN)) (ae (fE 0 (cK (eD (.int 1))) (cK (eD (.int 5)))))) [pS ja,none,none,none,none]=.ok cs [pS ja,none,none,none,none]:=by simp[lu,aB,bo,cL,cf,aa,bD,e0,ba,ar,fE,cK,au,S.d,hs,ha]
 exact v9 ((bQ ((du qi).trans e)).trans rfl)
end
def Gt:DF:=λss=>match ss with
 |[.pure (.lst ds)]=>match j0 ds with|some ns=>if ns.length<=63 then some (.pure (.bl true),ss)else none|none=>none
 |_=>none
theorem qav(ns:List Int)(h:ns.length<=63):∃aC,Gt [.pure (.lst (ns.map .int))]=some (.pure (.bl true),aC):=by unfold Gt;simp only[Lake.ints_map,h,if_true];exact⟨_,rfl⟩
theorem ME:∀{ds:List D}{ns:List Int},j0 ds=some ns->ds=ns.map .int|[],ns,h=>by simp[j0]at h;subst h;rfl|d::r,ns,h=>by cases d with
 |int i=>simp only[j0]at h;cases e:j0 r with|none=>rw[e]at h;cases h|some m=>rw[e]at h;cases h;rw[ME e];rfl
 |_=>simp[j0]at h
set_option tactic.hygienic true in theorem qaw:∀ce ss y,Gt ss=some y->G_law ce ss=some y:=by
 intro ce ss y h;unfold Gt at h;split at h;.rename_i ds;cases hi:j0 ds with|none=>rw[hi]at h;cases h|some ns=>
   rw[hi]at h;by_cases hn:ns.length<=63;.simp only[hn,if_true]at h;cases h;have e:=ME hi;subst e;exact zfU ns hn
   .simp only[hn,if_false]at h;cases h
 .cases h
end Lake.K61
open PySem PySem.W PyProof.Rows
namespace PySem.W.Fast
def tw11270029074333767761:=0
def tw415522132735868299:=0
def tw50465853981532642:=0
def tw5671586190768678795:=0
def tw1835631958564465180:=0
def tw1028799860102477439:=0
def tw9661538150027284127:=0
def tw15671685381527836510:=0
def tw3605272872288149102:=0
def tw13169911240373579198:=0
def tw100709702075061943:=0
def tw15738840592749964618:=0
def tw11404166932748515528:=0
def tw5736264452106528402:=0
def tw5412814199616842572:=0
def tw5791875905120707663:=0
def tw18314761070181722559:=0
def tw6956377712458685994:=0
def tw842853667266554705:=0
def tw14299023489303668432:=0
def tw6282591636648756679:=0
def tw244320609096253289:=0
def tw15014327294771126395:=0
def tw9697632750141141398:=0
def tw13784993639461432373:=0
def tw8490433497747267212:=0
def tw11262341630751798174:=0
def tw6159945423424270284:=0
def tw7364913029260763016:=0
def tw8534160742473037175:=0
def tw8011807739339227208:=0
def tw14533438600174815754:=0
def tw14368025395956626800:=0
def tw4729517749571459125:=0
def tw1160335252552142816:=0
def tw7650568126856461319:=0
def tw11385945893690313578:=0
def tw671897606641426801:=0
def tw15692809044232331248:=0
def tw14890447584131404652:=0
def tw3430203042312540674:=0
def tw17832311470741728281:=0
def tw4050035859243456897:=0
def tw119731893007800074:=0
def tw16107590493333607972:=0
def tw10283575233829160488:=0
def tw13906062675997538955:=0
def tw13656694782300430911:=0
def tw3192259244837170770:=0
def tw12373759948865784204:=0
def tw11607623742654016206:=0
def tw9260685675108439478:=0
def tw16569700351327250715:=0
def tw18064844593128182386:=0
def tw17692913706265980794:=0
def tw14449390252346940959:=0
def tw15000514486873408354:=0
def tw9642635179032057666:=0
def tw2889403899329837867:=0
def tw1115795344725954416:=0
def tw2075286696778976620:=0
def tw12131151993606007985:=0
def tw17002979591142786180:=0
def tw6883208910512045695:=0
def tw9249814332404460252:=0
def tw16180178515674202450:=0
def tw13160013268798843125:=0
def tw4900164124991875665:=0
def tw7558825195175945990:=0
def tw15264578732288350579:=0
def tw14345675635042657781:=0
def tw10947149515672056661:=0
def tw17524711490318573047:=0
def tw2823109479428260864:=0
def tw8691620002206954319:=0
def tw16292657554286684670:=0
def tw12741673523097664407:=0
def tw1535017518933887117:=0
def tw4897264753566708241:=0
def tw9676937060827011217:=0
def tw18273660930920413431:=0
def tw18377310873365516293:=0
def tw10285824140795826877:=0
def tw8486238793031740262:=0
def tw14469472293530236271:=0
def tw7458507006656714602:=0
def tw2730333387682554118:=0
def tw16509155003163555350:=0
def tw6803722777151016055:=0
def tw4560281725759724960:=0
def tw1548391243083873603:=0
def tw9811142210299702309:=0
def tw12103163880254186334:=0
def tw7867857196633458452:=0
def tw2945998144968389812:=0
def tw4616943723416850605:=0
def tw8206496803249515418:=0
def tw3011079832283009904:=0
def tw7491312128823430345:=0
def tw3989900588228535543:=0
def tw7583043468910383860:=0
def tw7209419169007307948:=0
def tw16946631511611763696:=0
def tw9181559329657872153:=0
def tw11399125131535081096:=0
def tw15550445426603202575:=0
def tw2084903080150670718:=0
def tw832427819189714521:=0
def tw1205149589930212905:=0
def tw13762851870344318172:=0
def tw1711400897748823303:=0
def tw7078965530868058902:=0
def tw2282856453918202099:=0
def tw13782605324367907729:=0
def tw6178271550962872609:=0
def tw109094201424793251:=0
def tw10542267102100277872:=0
def tw12295581554083493670:=0
def tw6968192266603039250:=0
def tw3441302162827330226:=0
def tw17187835371557059526:=0
def tw16476578132889895857:=0
def tw17367240560085664710:=0
def tw7802381323096389496:=0
def tw4906779863598926894:=0
def tw234774211191087541:=0
def tw13537695289766690863:=0
def tw4056933604682337676:=0
def tw3036729582993745943:=0
def tw916817506391147991:=0
def tw13573435596981298748:=0
def tw18415103648588410357:=0
def tw11996892939382185047:=0
def tw5388809564869286571:=0
def tw523700093707980054:=0
def tw11917428048078435602:=0
def tw10750759100919568800:=0
def tw6000512819541417422:=0
def tw17003508020469574011:=0
def tw882561562173597711:=0
def tw7099454987107035171:=0
def tw6401367056630061928:=0
def tw9785179340567229291:=0
def tw6376691402112094086:=0
def tw430092928771467647:=0
def tw12700557770427517170:=0
def tw15768526237207346274:=0
def tw16101811515549310284:=0
def tw17948646320612972666:=0
def tw17593210729235478198:=0
def tw11484058804672139476:=0
def tw15867052218608805169:=0
def tw12613016819376030741:=0
def tw17500453387560168554:=0
def tw161470903990240990:=0
def tw11274954518836629501:=0
def tw1717787906297805715:=0
def tw7492321846268168236:=0
def tw2688284591512414460:=0
def tw10324307547935253521:=0
def tw10693405279501188908:=0
def tw14568412210037246075:=0
def tw6709445807252611623:=0
def tw12223921261916404321:=0
def tw5193449061451769614:=0
def tw16967861734721102231:=0
def tw9895173797439591377:=0
def tw8134592080658962382:=0
def tw3887916243523761714:=0
def tw4636096368961824529:=0
def tw6945386750497136094:=0
def tw11719299502179337091:=0
def tw2347003452859885324:=0
def tw4321908261790628200:=0
def tw10248284704833259403:=0
def tw16767512983014256843:=0
def tw1415295751223158094:=0
def tw8214604398851784260:=0
def tw3289483753855619277:=0
def tw14031653101239683435:=0
def tw17855606462362046523:=0
def tw12410181454420939946:=0
def tw9624075640874477746:=0
def tw12024447935427474834:=0
def tw3848689649714418631:=0
def tw16820677878692256937:=0
def tw16090821763444166261:=0
def tw8703627472971150204:=0
def tw14981012088568822178:=0
def tw11177622123659146233:=0
def tw2852131197854543312:=0
def tw980603543192942057:=0
def tw16823550729806370118:=0
def tw12928759147155454118:=0
def tw2938982344902709854:=0
def tw9992661929621108549:=0
def tw3960510107133487775:=0
def tw13282946262015191788:=0
def tw10055224076835501060:=0
def tw14024438479539906315:=0
def tw5324623306557430391:=0
def tw17264758111625041255:=0
def tw12301271714896702558:=0
def tw8470298333022227864:=0
def tw187115214430074772:=0
def tw8266767201936241186:=0
def tw5236172897855351159:=0
def tw9849292945423143481:=0
def tw6310250532242305566:=0
def tw3163275284309904194:=0
def tw2330105822341473232:=0
def tw15171781970745958801:=0
def tw8269432038854855116:=0
def tw7810674226754157335:=0
def tw496046340158606456:=0
def tw14216017127566051942:=0
def tw11020311318172041745:=0
def tw5660781027452567163:=0
def tw14740633868476228526:=0
def tw5190574646489576349:=0
def tw8370369243741823988:=0
def tw8345615568683753164:=0
def tw7455265730687946926:=0
def tw6276029973558488712:=0
def tw6056998756244808684:=0
def tw4242104276963379183:=0
def tw2261328087295765274:=0
def tw18159851557222785970:=0
def tw17445466295862476245:=0
def tw16845651947543108730:=0
def tw16431653946079991563:=0
def tw16168092407373520394:=0
def tw14824326864675305719:=0
def tw14264199603984431190:=0
def tw137985892809310438:=0
def tw11548689457205409811:=0
def tw11368175108907585118:=0
def tw11148919264735498288:=0
def tw10257142651873455243:=0
def tw14099300618115218037:=0
def tw12981539602918184069:=0
def tw17648766043127725496:=0
def tw15315105281707957523:=0
def tw3918596325775722891:=0
def tw6802212188248251956:=0
def tw14863890923905251618:=0
def tw7149470820811188951:=0
def tw3507068383628381353:=0
def tw11005977625490347695:=0
def tw8530773740217053691:=0
def tw11613267783877354550:=0
def tw7369156822033240605:=0
def tw11899165710220200391:=0
def tw14897469953004322786:=0
def tw8261758203393141362:=0
def tw2585030412100659263:=0
def tw324053122302366970:=0
def tw15113695024461004489:=0
def tw17564692255233597914:=0
def tw5361426950923343243:=0
def tw15079108467343855568:=0
def tw9676383972080554665:=0
def tw13691023211908237989:=0
def tw6993421825725483104:=0
def tw6412614136654534571:=0
def tw4189353193389678623:=0
def tw14334399503187668030:=0
def tw1106904598588708548:=0
def tw8573567767613026658:=0
def tw5374426763289860480:=0
def tw17862438578514754967:=0
def tw16739726831127045029:=0
def tw11807682304070114784:=0
def tw1672870589921573216:=0
def tw15243279030508864769:=0
def tw10047324885679637338:=0
def tw1912919063891004328:=0
def tw13388046053339965334:=0
def tw5191585795311042916:=0
def tw1759307018004968268:=0
def tw15518760477510971905:=0
def tw18120048434646814143:=0
def tw1322576986635840311:=0
def tw511825033403191300:=0
def tw12156420883088719673:=0
def tw4078814038403168095:=0
def tw1354087014233225372:=0
def tw15987702602143835217:=0
def tw5498557677309256798:=0
def tw17539089491774206924:=0
def tw17072694848103920813:=0
def tw1688941300151387684:=0
def tw13202270885610977119:=0
def tw12878779962364005080:=0
def tw4630392858601754480:=0
def tw16096209789863357676:=0
def tw961493337149522679:=0
def tw9523272811551722518:=0
def tw8738580783825953465:=0
def tw8410038968822535901:=0
def tw8086937944600745187:=0
def tw7430190123667940779:=0
def tw7428583185099440479:=0
def tw68400547331763561:=0
def tw6507657290772678234:=0
def tw649513491368886404:=0
def tw5938131509898787489:=0
def tw5771711782812861890:=0
def tw5528271320351259873:=0
def tw5456465839912414019:=0
def tw4786643269833283658:=0
def tw43494983142286119:=0
def tw3671336133673118665:=0
def tw3527856318246418474:=0
def tw3340562366417566271:=0
def tw3339799034651132503:=0
def tw269780973938801842:=0
def tw2430822931450016207:=0
def tw18444685063701309512:=0
def tw17900547181492836002:=0
def tw17419605295518088555:=0
def tw17373884174322761365:=0
def tw17223906216533867581:=0
def tw17139512426156348259:=0
def tw17134346431865306726:=0
def tw16631080216568893573:=0
def tw15403656874485248142:=0
def tw14350055977224305585:=0
def tw1434235672347909013:=0
def tw14037695314670001248:=0
def tw13825235713290184898:=0
def tw13526733608147994242:=0
def tw13443948089745517311:=0
def tw12613175793064179383:=0
def tw11930401309340419038:=0
def tw11531943984557432183:=0
def tw11387055857215850396:=0
def tw11119223741671107130:=0
def tw10188708835751886588:=0
def tw9929310355918760715:=0
def tw9817413304053114913:=0
def tw9383337900596799119:=0
def tw931875695658813078:=0
def tw9196900660544635321:=0
def tw9191225793888706291:=0
def tw9004476146597113447:=0
def tw7842737339618761102:=0
def tw7359519167844560445:=0
def tw7149264829763496440:=0
def tw6792540086126373007:=0
def tw6530825769028393792:=0
def tw6497622311682419890:=0
def tw5749457508167995008:=0
def tw5654277143415188846:=0
def tw5458744705790034278:=0
def tw4974220337070247210:=0
def tw4824673535509282407:=0
def tw4759038407213755073:=0
def tw4188634947434664047:=0
def tw4029832972559996424:=0
def tw3961863838452345485:=0
def tw386996557809787297:=0
def tw3818730926864418358:=0
def tw3618958055389493069:=0
def tw3370917182491447119:=0
def tw2954211309603423441:=0
def tw1971506779483798181:=0
def tw1876385552119268359:=0
def tw1838473352244789943:=0
def tw18260145020028144431:=0
def tw1810466582809045465:=0
def tw16909835608842829749:=0
end PySem.W.Fast
set_option maxRecDepth 100000 in
set_option maxHeartbeats 0 in
theorem PySem.Challenge.cw_tilegrow_k61_papers_that_they_are_alike_holds : PySem.Challenge.rw_tilegrow_k61_papers_that_they_are_alike.Holds := by
 w_on; o_law; k_head; (case hw=>w_witness2)
 k_fill
 refine Lake.Um (l:=PySem.Challenge.rw_tilegrow_k61_papers_that_they_are_alike) (k:=8) (G:=Lake.K61.Gt) (tpos:=Lake.K61.kh) (tq:=Lake.K61.ki) rfl rfl ⟨rfl,Z',Z'⟩ (λw h M'=>⟨PySem.W.km_in_of M',PySem.W.km_tabs_of M' _ Wl⟩) ?L ?KT Lake.K61.qav ?F
 case L=>intro p; exact Eq.refl true
 case KT=>intro p; exact Eq.refl none
 case F =>
  intro w mg fa h KX G mT;refine' Lake.K61.all_mk Lake.K61.qaw KX G mT ?d0 ?d1 ?d2 ?d3 ?d4 ?d5 ?d6 ?d7 ?d8 ?d9 ?zP ?zQ ?zR ?zS ?zT ?zU ?zV ?zW ?zX ?zY ?zZ ?z5 ?z6 ?z7 ?z8 ?z9 ?z_ ?Aa ?vR ?Ab ?Ac ?dT ?gT ?Ad ?Ae ?Af ?Ag ?Ah ?Ai ?Aj ?Al ?Am ?An ?Ao ?Ap ?Aq ?Ar ?rG ?rH ?rJ ?rK ?rL ?rM ?rN ?rO ?rP ?rQ ?rR ?rS ?rT ?rU ?As ?Au ?Aw ?Ax ?Ay ?vS ?Az ?AA ?AB ?AD ?AE ?AF ?AG ?AH ?AI ?AJ ?AK ?AL ?AM ?i9 ?AN ?AO ?AQ ?AR ?AS ?AU ?AV ?AW ?AX ?AY ?AZ
  (case d0|d1|d2|d3|d4|d5|d6|d7|d8|d9|zP|zQ|zR|zS|zT|zU|zV|zW|zX|zY|zZ|z5|z6|z7|z8|z9|z_|Ad|Ae|Af|Ag|Ah|Ai|Aj|Al|Am|An=>exact⟨_,_,_,_,_,_,_,_,_,_,by k_is,by k_is,by k_is,by k_is⟩)
  (case Aa|vR|Ab|Ac|Ao|Ap|Aq|Ar|rG|rH|rJ|rK|rL|rM|rN|rO|rP|rQ|rR|rS|rT|rU|As|Au|Aw|Ax|Ay|vS|Az|AA|AB|AD|AG|AH|AI|AJ|AK|AL|AM|i9|AZ=>k_is)
  (case dT|gT|AE|AF=>kernel_rfl)
  (case AN|AO|AQ|AR|AS|AU|AV|AW|AX|AY=>kit_is)
