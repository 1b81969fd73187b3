import PyProof.Rows.All
import Wide.All
import OpenK.AllK
import Lean
import PyProof.FactsAll.zip
import PySem.Challenge.RW_tilegrow_k67_least_by_anybody
noncomputable section
set_option compiler.extract_closed false
open PySem renaming wpAny_bind→W0,wpAny_pure→W3,Shared→W4,wpAny→W7,sizeLine→Wb,Spec→Wc,starEach→We,Program→Wm,Around→Wt,World→Wv,mainGlobals→Wz,wpAny_call_entry→WA,mem_of_lookup→WC,wpAny_callSpecial?_slot→WE,compareOp→WF,wpAny_holding→WI,wpAny_field→WM,wpAny_newObj_type→WO,cLine→Q1,rawInt→Q6,wpAny_setField_rec→Q9,FuncData→Qi,wpAny_truthy_bool→Ql,wpAny_dictEntries→Qm,sysModules→Qt,wpAny_mono→Qy,backTo→Qz,wpAny_notOrdered_dict→QB,wpAny_loadPart'→QD,pyNext→QF,assignEach→QI,sizeLine_eq→QK,wpAny_seqItems→QL,bootBuiltins→QR,wpAny_rule→QU,cellsFrom→QV,wpAny_dictEpoch→QX,binaryOp→QY,wpAny_typeNameOfWhole_itemiter→J4,foldedSetIterable→J7,behindInMarks→J8,swapsWith→J9,attributeBase→Ja,wpAny_typeNameOfWhole_keyiter→Jc,wpAny_typeNameOfWhole_valiter→Jd,wpAny_pyIter_tuple→Jl,getattributeRaised→Jm,wpAny_passesOwn→Jn,wpAny_attempt→Js,sizeLine_eq→Ju,Addr→Jw,strIterType→Jx,codeAny→Jy,wpAny_typeOf→JA,getItem→JK,letOwnedTupleGo→JM,wpAny_Call_Name_kw→JN,wpAny_sequenceKey→JR,wpAny_pyIter_list→JS,wpAny_pyIter_slot→JT,builtinLookup_eq_fast→JX,wpAny_fieldsOf→JY,wpAny_isInstance→U0,sliceBounds→U2,tupleKind_room_in1→Ua,pushCells→Uc,call_meets→Uh,wpAny_setField→Uj,qualnameIn→Um,keywordEach→Uq
open PySem.W renaming Frag→W5,mg_none_of→Q0,fnOf→Qq,kia_one→QC,kitOne→Je,keepIn→Jz,envX→JC,codeHdIn→JD,cellsFrom_some→JO,fnMade→Ul
open PySem.Heap renaming get?_push_of_some→W6,get?_push_size→Wh,lt_size→Wp,size_push→Qw,SameBut→Qx,get?_update_self→QP,get?_update_other→JP
open List renaming getElem?_eq_getElem→W8,getElem?_eq_some_iff→W9,getElem?_set_ne→Wa,mem_cons→Wf,map_cons→Wi,mem_of_getElem?→Wj,mem_cons_of_mem→Wn,getElem?_map→Wo,map_map→Wq,getElem?_set_self→Wr,length_map→Ws,mem_map→Wu,size_toArray→Ww,mem_cons_self→Wx,range→WB,replicate→WG,not_mem_nil→WH,map_congr_left→WK,mem_map_of_mem→WL,length_cons→WP,getElem_mem→WQ,map_append→WT,idxOf_lt_length_of_mem→WU,length→WV,nodup_cons→WW,mem_append→WZ,nodup_iff_pairwise_ne→Q2,find?_cons→Q7,getElem?_set→Q8,mem_append_right→Qa,mem_iff_getElem?→Qb,append_nil→Qc,length_set→Qg,any_cons→Qj,getD_eq_getElem?_getD→Qk,getElem?_append_left→Qn,getElem?_eq_none→QA,lookup_cons→QJ,pairwise_map→QM,length_append→QS,getElem_idxOf→QT,drop_eq_getElem_cons→J0,nil_append→J3,cons_append→Jf,ext_getElem→Jg,take_of_length_le→Ji,map_nil→Jk,getElem?_append_right→Jo,mem_append_left→Jv,all_eq_true→JB,take_length→JE,filterMap_cons→JF,getElem?_cons_zero→JG,getElem?_cons_succ→JJ,all_cons→JL,any_eq_false→JQ,nodup_append→JU,take_add_one→JV,append_assoc→JW,mem_filter→U4,length_nil→U5,forIn_cons→U6,foldl_cons→U7,find?_some→U8,any_map→Ud,pairwise_cons→Ue,toArray→Uf,find?_eq_none→Ug,forIn_nil→Ui,find?_map→Uk,length_range→Uo,getElem?_inj→Up,length_take→Us,of_mem_zip→Ut,set_set→Uv
open Option.some renaming injEq→Wd,inj→WN
open Nat renaming le_refl→Wg,lt_of_lt_of_le→WJ,ne_of_lt→WR,le_trans→Qe,lt_irrefl→Qh,zero_add→Qs,zero_le→QE,ne_of_gt→Jj,le_add_right→U1,le_succ→U3,le_of_lt→U9,lt_of_le_of_lt→Ub,min_eq_left→Uw
open Bool renaming and_eq_true→Wy,false_ne_true→WD,false_eq_true→Qf,eq_iff_iff→Qp,or_eq_true→Uu
open PySem.Builtin.SmallTypes renaming nextOf→WS,ownedTupleIsFree→WY
open Option renaming map_some→WX,bind_some→Q3,map_eq_some_iff→Q5,isSome_iff_exists→J1,bind_eq_some_iff→JI,getD_some→JZ
open Array renaming length_toList→Q4,getElem?_toList→QQ
open PySem.Builtin.Dict_items renaming ownsTuple→Qd
open PySem.Builtin.Slice renaming slicePlaces→Qo,sliceAdjust→QO,sliceApplied→Jp
open PySem.Builtin.Tuple renaming tupleExact→Qr,tupleItemsOf→Jq
open Int renaming toNat_natCast→Qu
open PyProof.Rows renaming slot_tuple_getitem→Qv,callWith_type1→QG,seqObj→QH,envOfC→Jt
open PySem.Heap.SameBut renaming update→QN
open PySem.Builtin.Str renaming strSliceIndices→QW
open PySem.Builtin.Dict renaming showsAll→QZ,updateFrom→JH
open PySem.F renaming slot_dict_valueiterator_next→J5,slot_dict_itemiterator_next→Jb,slot_dict_keyiterator_next→Jh,slot_tuple_iterator_next→Jr
open List.cons renaming inj→Ur
set_option Elab.async false
set_option linter.all false
set_option maxRecDepth 100000
set_option maxHeartbeats 4000000
theorem Y'{p:Prop}(h:p:=by lia):p:=h
theorem Z'{p:Prop}(h:p:=by decide):p:=h
theorem U'{p:Prop}(h:p:=by simp):p:=h
theorem V'{p:Prop}(h:p:=by simp;lia):p:=h
theorem Re{p:Prop}(h:p:=by decide+kernel):p:=h
theorem P'{p:Prop}(h:p:=by simp at hl⊢;lia):p:=h
local macro_rules|`(~~~$x)=>`(by simpa using$x)
local macro_rules|`(#v[$xs,*])=>`(by simp[$[$xs:term],*])
local macro_rules|`(%[$xs,*|$k])=>`(by rw[$[$xs:term],*];exact$k)
local macro_rules|`(tactic|obtain $p:rcasesPatMed:=$e)=>`(tactic|first|(refine Classical.byContradiction fun g=>?_;rcases $e:term with $p<;>(try refine g ?_)<;>(try clear g))|rcases $e:term with $p)
local macro_rules|`(tactic|exists$s:str,$_,$_,$_)=>do let i(h:String):=Lean.mkIdent h.toName;let ts:=(s.getString.splitOn " ").toArray.map i;`(tactic|simp[*,-Wq,-List.map_take,-List.map_drop,-$(i "jn"),$[$ts:term],*])
set_option backward.eqns.nonrecursive false
set_option genSizeOf false
set_option bootstrap.genMatcherCode false
namespace Lake
open PySem PySem.Spec PyProof.Rows
variable{A:Wt}{B O O':Addr->Prop}{C code dl dx fa i1 i2 it sl:Addr}{E Q:Value->W4->Prop}{K:W5}{zj:Model}{N loose ls ps:List Str}{P prog:Wm}{P1 P2:Nat->Value->Prop}{R:Result->W4->Prop}{S1 S2 tn:Nat->Heap->Prop}{XP:(Str->Option Value)->Heap->Prop}{YP:Wv->Heap->Prop}{aW cd ct doc oc pm u v0 vl vu:Value}{ak first ic its' us:List Value}{an:Option Addr}{apos bF kH oq p0 pos pos' pp py tp tpos:Pos}{args:List WData}{base h h':Heap}{body t7:List Stmt}{cells cl:List (Str×Addr)}{ch f1:List Addr}{cs js np:List Nat}{ctx ep i j n n1 n2 t':Nat}{d':Drawn}{e elt tg:Expr}{eZ:Array (Option Value)}{elts es ifs:List Expr}{env:Env}{fd:Qi}{g':Array GenState}{hi lo:Option Int}{iE op:CmpOp}{items:Array Value}{kindOf:Str->Option NameKind}{m:Bool}{mA mb mg:Str->Option Value}{name qual tq x:Str}{ns:List Int}{oa od:Obj}{params:Arguments}{pins:List (Addr×Obj)}{sc scope:Scope}{t0:Tok}{w:Wv}
abbrev Key:=Sum Int Str
def iT:Key->Value->Bool|.inl k,v=>Value.isInt k v|.inr x,v=>Value.isStrOf x v
def wZ(w:Wv):Key->Int|.inl k=>hashInt k|.inr x=>hashStr w x
theorem lV:∀{k:Key}{v:Value},iT k v=true->(∃i t,k=Sum.inl i/\v=Value.int i t)\/∃x t,k=Sum.inr x/\v=Value.str x t|.inl i,v,h=>by obtain⟨t,e⟩:=Value.isInt_shape (k:=i) (v:=v) h;exact .inl ⟨i,t,rfl,e⟩|.inr x,v,h=>by obtain⟨t,e⟩:=Value.isStrOf_shape (x:=x) (v:=v) h;exact .inr ⟨x,t,rfl,e⟩
theorem MN(i:Int)(t):iT (.inl i) (.int i t)=true:=#v[iT,Value.isInt]
theorem MO(x t):iT (.inr x) (.str x t)=true:=#v[iT,Value.isStrOf]
theorem MP(a b:Int):decide ((Sum.inl a:Key)=Sum.inl b)=(a==b):=by grind
theorem MQ(a b):decide ((Sum.inr a:Key)=Sum.inr b)=decide (a=b):=by grind
theorem MR(a:Int)(b):decide ((Sum.inl a:Key)=Sum.inr b)=false:=by grind
theorem MS(a)(b:Int):decide ((Sum.inr a:Key)=Sum.inl b)=false:=by grind
def eY(prog:Wm)(w:Wv):PySem.KeyKind prog w Key where
 is:=iT
 hash:=wZ w
 inj:=λv a b ha hb=>by grind[lV]
 byValue:=λk v h=>by rcases lV h with⟨i,t,rfl,rfl⟩|⟨x,t,rfl,rfl⟩<;>rfl
 pyHash:=λhv h=>by
  rcases lV hv with⟨i,t,rfl,rfl⟩|⟨x,t,rfl,rfl⟩;.exact wpAny_pyHash_int h
  .exact wpAny_pyHash_str h
 eqBool:=λhu hv h=>by
  rcases lV hu with⟨i,t,rfl,rfl⟩|⟨x,t,rfl,rfl⟩
  .rcases lV hv with⟨j,u,rfl,rfl⟩|⟨y,u,rfl,rfl⟩;.rw[MP]at h;exact wpAny_eqBool_int h
   .rw[MR]at h;exact SeqAt.EqAt.int_str i t y u _ _ _ _ h
  .rcases lV hv with⟨j,u,rfl,rfl⟩|⟨y,u,rfl,rfl⟩;.rw[MS]at h;exact SeqAt.EqAt.str_int x t j u _ _ _ _ h
   .rw[MQ]at h;exact wpAny_eqBool_str h
 «strs»:=λk x t v h=>by
  rcases lV h with⟨i,u,rfl,e⟩|⟨y,u,rfl,e⟩;.exact nomatch e
  .injection e with e1 _;subst e1;cases v<;>rfl
theorem MT(prog w k v):(eY prog w).is k v=iT k v:=rfl
theorem MU(prog w)(i:Int)(t):(eY prog w).is (.inl i) (.int i t)=true:=MN i t
theorem MV(prog w x t):(eY prog w).is (.inr x) (.str x t)=true:=MO x t
inductive V where|aJ|bl(b:Bool)|int(i:Int)|str(x:Str)|byt(b:Array UInt8)|flt(b:UInt64)|ref(a:Addr)|ty(n:String)deriving DecidableEq
variable{MZ:List (Str×V)}{fv me vs ys:List V}{kps:List (Key×V)}
def RelV:V->Value->Prop|.aJ,u=>u=Value.none|.bl b,u=>u=Value.bool b|.int i,u=>∃t,u=Value.int i t|.str x,u=>∃t,u=Value.str x t|.byt b,u=>∃t,u=Value.bytes b t|.flt b,u=>∃t,u=Value.float b t|.ref a,u=>u=Value.ref a|.ty n,u=>u=Value.type n
abbrev Vals:List V->List Value->Prop:=Paired RelV
theorem Vals.length(r:Vals xs us):xs.length=us.length:=Paired.length r
theorem Vals.get:∀{xs:List V}{us:List Value}{i:Nat}{x:V},Vals xs us->xs[i]?=some x->∃u,us[i]?=some u/\RelV x u|_,_,_,_,.nil,e=>by simp at e|_,_,0,_,.cons r _,e=>by simp at e;subst e;exact⟨_,rfl,r⟩|_,_,i+1,x,.cons _ t,e=>by obtain⟨u,h1,h2⟩:=Vals.get (i:=i) (x:=x) t (~~~e);exact⟨u,~~~h1,h2⟩
theorem Vals.set{x}(r:RelV x u):∀{xs:List V}{us:List Value}i,Vals xs us->Vals (xs.set i x) (us.set i u)|_,_,_,.nil=>.nil|_,_,0,.cons _ t=>.cons r t|_,_,i+1,.cons q t=>.cons q (Vals.set r i t)
theorem Vals.append{xs ys us ws}(h:Vals xs us)(s:Vals ys ws):Vals (xs++ys) (us++ws):=by induction h with|nil=>exact s|cons r t ih=>exact .cons r ih
theorem Vals.take:∀{xs:List V}{us:List Value}n,Vals xs us->Vals (xs.take n) (us.take n)|_,_,0,_=>.nil|_,_,_+1,.nil=>.nil|_,_,n+1,.cons r t=>.cons r (Vals.take n t)
theorem Vals.drop:∀{xs:List V}{us:List Value}n,Vals xs us->Vals (xs.drop n) (us.drop n)|_,_,0,r=>r|_,_,_+1,.nil=>.nil|_,_,n+1,.cons _ t=>Vals.drop n t
def gj:Option V->Option Value->Prop|some v,some u=>RelV v u|none,none=>True|_,_=>False
def KV{κ:Type}:List (κ×V)->List (κ×Value)->Prop:=Paired λ(p:κ×V)(q:κ×Value)=>p.1=q.1/\RelV p.2 q.2
def kV:Key->V|.inl i=>.int i|.inr x=>.str x
inductive NK where|i(z:Int)|s(x:Str)|t(ks:List NK)
variable{xs:List (NK×Value×Value)}
noncomputable instance nkDec:DecidableEq NK:=λa b=>Classical.propDecidable (a=b)
mutual def fV(w:Wv):NK->Int|.i z=>wZ w (.inl z)|.s x=>wZ w (.inr x)|.t ks=>reduceHash (Builtin.Tuple.tupleHashOf (tR w ks))def tR(w:Wv):List NK->List Int|[]=>[]|k::ks=>fV w k::tR w ks end
inductive HO where|lst(xs:List V)|tup(xs:List V)|dK(ae:List (Key×V))|dT(ae:List (List Key×V))|set(S:Int->Bool)(n:Nat)|ins(C dx:Addr)(fs:List (Str×V))|own(x:Addr)|xd(fs:List (Str×V))|met(f x:Addr)|lW(lo hi:Int)|frz(o:Obj)(u:HO)|tbl(ps:Array Value)|ctab(pos:Pos)(q:Str)|dN(ep:Nat)(ae:List (NK×V×V))|ext(φ:Heap->Prop)
abbrev Hp:=Addr->Option HO
variable{H H' H1:Hp}
def upd(H:Hp)(a:Addr)(o:HO):Hp:=λb=>if b=a then some o else H b
theorem cD:upd H a o a=some o:=by unfold upd;rw[if_pos rfl]
theorem aP(h:b≠a):upd H a o b=H b:=by unfold upd;rw[if_neg h]
theorem BZ{u}:upd (upd H a o) a u=upd H a u:=by funext b;unfold upd;split<;>rfl
theorem MW{a b o u}(h:H a=some o)(h':H b=some u)(d:o≠u):a≠b:=by grind
theorem fF{a b o}(h:H a=some o)(h':H b=none):a≠b:=by grind
def iB(h:Heap)(a:Addr)(ak:Array Value):Prop:=∃n,h.get? a=some {cls:=.type "tuple",dict:=none,data:=.seq ak n,slots:=#[]}
theorem iB.tup{h a ak}(x:iB h a ak):IsTup h a ak:=let⟨n,e⟩:=x;⟨_,e,rfl,n,rfl⟩
theorem iB.new(h:Heap)(ak):iB (h.push {cls:=.type "tuple",data:=.seq ak}) h.objs.size ak:=⟨_,Wh _ rfl⟩
theorem iB.lt{ak}(x:iB h a ak):a<h.objs.size:=let⟨_,e⟩:=x;Wp e
section
variable(P:Wm)(w:Wv)
def bX(H:Hp)(h:Heap)(a:Addr):HO->Prop|.lst xs=>xs.length<=Wb/\∃(ak:List Value)(n:Nat),Vals xs ak/\h.get? a=some {cls:=.type "list",data:=.seq ak.toArray n}|.tup xs=>xs.length<=Wb/\∃ak:List Value,Vals xs ak/\iB h a ak.toArray|.dK ae=>ae.length<=Wb/\(a==Qt)=false/\∃vs,KV ae vs/\h.DictOf (eY P w) a vs|.dT ae=>ae.length<=Wb/\(a==Qt)=false/\∃xs:List (List Key×Addr×Value),Paired (λ(p:List Key×V)(q:List Key×Addr×Value)=>p.1=q.1/\H q.2.1=some (.tup (p.1.map kV))/\RelV p.2 q.2.2) ae xs/\∃o es ep,h.get? a=some o/\o.ExactDict/\o.data=.dict es ep/\es.toList=xs.map (entryOfKey (tupleKind (eY P w)))/\(xs.map (·.1)).Nodup|.set S n=>h.SetOf (intKind P w) a S n|.ins C dx fs=>H dx=some (.own a)/\fs.length<=1000/\dx≠a/\h.get? a=some (PySem.W.instObj C dx)/\∃mA,h.Ns1 dx mA/\(∀f,gj (fs.lookup f) (mA f))/\PySem.Within mA (fs.map (·.1))|.own _=>∃o,h.get? a=some o|.xd fs=>∃mA,h.Ns1 a mA/\∀f,gj (fs.lookup f) (mA f)|.lW lo hi=>∃t u v,h.get? a=some {cls:=.type "range",data:=.fields #[.int lo t,.int hi u,.int 1 v]}|.frz o u=>h.get? a=some o/\bX H h a u|.tbl ps=>h.get? a=some {cls:=.none,data:=.fields ps}|.dN ep ae=>ae.length<=Wb/\(a==Qt)=false/\∃o es,h.get? a=some o/\o.ExactDict/\o.data=.dict es ep/\Paired (λ(p:NK×V×V)(e:DictEntry)=>e.hash=fV w p.1/\RelV p.2.1 e.key/\RelV p.2.2 e.val) ae es.toList/\(ae.map (·.1)).Nodup|.ctab pos q=>∃ps,h.get? a=some {cls:=.none,data:=.fields ps}/\TriplesOk ps.toList/\∀cv,codeAmong pos ps.toList=some cv->∃c' oc,cv=.ref c'/\H c'=some (.frz oc (.ext λ_=>True))/\∃vs tq,oc.data=.fields vs/\vs[1]?=some (.str q tq)|.met f x=>h.get? a=some (PySem.W.methodObj (.ref f) (.ref x))|.ext φ=>φ h/\(∃o,h.get? a=some o)/\∀h1 h2:Heap,φ h1->(∀o,h1.get? a=some o->h2.get? a=some o)->φ h2
def cK(H:Hp)(h:Heap):Prop:=∀a o,H a=some o->bX P w H h a o
end
section
variable{a:Addr}{o:HO}
theorem bX.lt(x:bX P w H h a o):a<h.objs.size:=by cases o with|lst xs=>obtain⟨_,_,_,_,e⟩:=x;exact Wp e|tup xs=>obtain⟨_,_,_,p⟩:=x;exact p.lt|dK ae=>obtain⟨_,_,_,_,o,_,_,e,_⟩:=x;exact Wp e|dT ae=>obtain⟨_,_,_,_,o,_,_,e,_⟩:=x;exact Wp e|set S n=>obtain⟨o,_,_,_,e,_⟩:=x;exact Wp e|ins C dx fs=>obtain⟨_,_,_,e,_⟩:=x;exact Wp e|own y=>obtain⟨_,e⟩:=x;exact Wp e|xd fs=>obtain⟨_,⟨_,_,_,e,_⟩,_⟩:=x;exact Wp e|lW lo hi=>obtain⟨_,_,_,e⟩:=x;exact Wp e|frz ob u=>obtain⟨e,_⟩:=x;exact Wp e|tbl ps=>exact Wp (show h.get? a=some _ from x)|ctab pos q=>obtain⟨_,e,_⟩:=x;exact Wp e|dN ep ae=>obtain⟨_,_,_,_,e,_⟩:=x;exact Wp e|met f y=>exact Wp (show h.get? a=some _ from x)|ext φ=>obtain⟨_,⟨_,e⟩,_⟩:=x;exact Wp e
theorem Paired.w4{l₁:List α}{l₂:List β}(h:Paired F l₁ l₂)(f:∀a b,F a b->G a b):Paired G l₁ l₂:=by induction h with|nil=>exact .nil|cons r t ih=>exact .cons (f _ _ r) ih
theorem bX.gH(x:bX P w H h a o)(k:∀b u,b=a\/H b=some (.own a)->h.get? b=some u->h'.get? b=some u)(ho:∀b,H b=some (.own a)->H' b=some (.own a))(ht:∀b xs,H b=some (.tup xs)->H' b=some (.tup xs))(hf:∀b o u,H b=some (.frz o u)->H' b=some (.frz o u)):bX P w H' h' a o:=by induction o with|lst xs=>obtain⟨z,ak,n,r,e⟩:=x;exact⟨z,ak,n,r,k _ _ (.inl rfl) e⟩|tup xs=>obtain⟨z,ak,r,n,e⟩:=x;exact⟨z,ak,r,n,k _ _ (.inl rfl) e⟩|dK ae=>obtain⟨z,y,vs,r,ob,es,ep,e,c⟩:=x;exact⟨z,y,vs,r,ob,es,ep,k _ _ (.inl rfl) e,c⟩|dT ae=>obtain⟨z,y,xs,r,ob,es,ep,e,c⟩:=x;exact⟨z,y,xs,Paired.w4 r λp q z=>⟨z.1,ht _ _ z.2.1,z.2.2⟩,ob,es,ep,k _ _ (.inl rfl) e,c⟩|set S n=>obtain⟨ob,es,ep,t,e,c⟩:=x;exact⟨ob,es,ep,t,k _ _ (.inl rfl) e,c⟩|ins C dx fs=>obtain⟨d,z,ne,e,mA,⟨od,es,ep,e2,c⟩,r⟩:=x;exact⟨ho _ d,z,ne,k _ _ (.inl rfl) e,mA,⟨od,es,ep,k _ _ (.inr d) e2,c⟩,r⟩|own y=>obtain⟨ob,e⟩:=x;exact⟨ob,k _ _ (.inl rfl) e⟩|xd fs=>obtain⟨mA,⟨od,es,ep,e,c⟩,r⟩:=x;exact⟨mA,⟨od,es,ep,k _ _ (.inl rfl) e,c⟩,r⟩|lW lo hi=>obtain⟨t,u,v,e⟩:=x;exact⟨t,u,v,k _ _ (.inl rfl) e⟩|frz ob u ih=>obtain⟨e,q⟩:=x;exact⟨k _ _ (.inl rfl) e,ih q⟩|dN ep ae=>obtain⟨z,y,ob,es,e,c⟩:=x;exact⟨z,y,ob,es,k _ _ (.inl rfl) e,c⟩|ctab pos q=>obtain⟨ps,e,t,r⟩:=x;exact⟨ps,k _ _ (.inl rfl) e,t,λcv z=>let⟨c',oc,z1,z2,z3⟩:=r cv z;⟨c',oc,z1,hf _ _ _ z2,z3⟩⟩|tbl ps=>have e:h.get? a=some {cls:=.none,data:=.fields ps}:=x;show h'.get? a=some {cls:=.none,data:=.fields ps};exact k a _ (.inl rfl) e|met f y=>have e:h.get? a=some (PySem.W.methodObj (.ref f) (.ref y)):=x;show h'.get? a=some (PySem.W.methodObj (.ref f) (.ref y));exact k a _ (.inl rfl) e|ext φ=>obtain⟨p,⟨o,e⟩,st⟩:=x;exact⟨st _ _ p λo q=>k _ _ (.inl rfl) q,⟨o,k _ _ (.inl rfl) e⟩,st⟩
theorem cK.lt(x:cK P w H h)(e:H a=some o):a<h.objs.size:=(x a o e).lt
theorem cK.fresh(x:cK P w H h)(e:h.objs.size<=a):H a=none:=by cases q:H a with|none=>rfl|some u=>exact absurd (WJ (x.lt q) e) (Qh _)
theorem cK.kept(x:cK P w H h)(k:∀b u,h.get? b=some u->h'.get? b=some u):cK P w H h':=λa o e=>(x a o e).gH (λb u _ q=>k b u q) (λ_ q=>q) (λ_ _ q=>q) λ_ _ _ q=>q
theorem cK.laid(x:cK P w H h)(k:∀b u,h.get? b=some u->h'.get? b=some u)(hp:h.objs.size<=a)(new:bX P w (upd H a o) h' a o):cK P w (upd H a o) h':=λb u e=>by
 have hn:=x.fresh hp;by_cases hb:b=a;.grind[cD]
 .rw[aP hb]at e;exact(x b u e).gH (λc v _ q=>k c v q) (λc q=>%[aP (fF q hn)|q]) (λc xs q=>%[aP (fF q hn)|q]) λc o u q=>%[aP (fF q hn)|q]
end
def Rd(H:Hp)(a:Addr)(u:HO):Prop:=H a=some u\/∃o,H a=some (.frz o u)
theorem Rd.ok{u}(r:Rd H a u)(x:cK P w H h):bX P w H h a u:=by
 rcases r with r|⟨o,r⟩;.exact x a u r
 .obtain⟨_,q⟩:=x a _ r;exact q
def qu:Option HO->Prop|some (.lst _)=>True|some (.dK _)=>True|some (.dT _)=>True|some (.dN _ _)=>True|some (.set _ _)=>True|some (.ins _ _ _)=>True|some (.ext _)=>True|_=>False
section
variable{x e:Addr}{o':HO}
theorem cK.write(ok:cK P w H h)(mu:qu (H x))(he:e=x\/H e=some (.own x))(k:∀b u,b≠e->h.get? b=some u->h'.get? b=some u)(qv:∃u,h'.get? e=some u)(new:bX P w (upd H x o') h' x o'):cK P w (upd H x o') h':=λb u q=>by
 have fG:∀c y,H c=some (.own y)->c≠x:=λc y r z=>by subst z;rw[r]at mu;exact mu
 have MX:∀c xs,H c=some (.tup xs)->c≠x:=λc xs r z=>by subst z;rw[r]at mu;exact mu
 have MY:∀c o u,H c=some (.frz o u)->c≠x:=λc o u r z=>by subst z;rw[r]at mu;exact mu
 by_cases hb:b=x;.grind[cD]
 .rw[aP hb]at q;by_cases hbe:b=e
  .have q':H b=some (.own x):=by grind
   rw[q]at q';cases q';obtain⟨v,hv⟩:=qv;exact⟨v,%[hbe|hv]⟩
  .refine(ok b u q).gH (λc v hc r=>k c v ?_ r) (λc r=>%[aP (fG c b r)|r]) (λc xs r=>%[aP (MX c xs r)|r]) λc o u r=>%[aP (MY c o u r)|r];grind
end
structure Un(fs ex:List Addr)(H H':Hp)(h h':Heap):Prop where
 keep:∀b o,h.get? b=some o->H b=none->b∉fs->b∉ex->h'.get? b=some o
 slot:∀b o,h.get? b=some o->H b=none->b∈fs->b∉ex->∃sl,h'.get? b=some {o with slots:=sl}free:∀b o,h.get? b=some o->H b=none->b∉ex->H' b=none
 there:∀b o,h.get? b=some o->b∉ex->∃o',h'.get? b=some o'
 lX:∀b xs,H b=some (.tup xs)->H' b=some (.tup xs)j6:∀b o u,H b=some (.frz o u)->H' b=some (.frz o u)m3:∀b ps,H b=some (.tbl ps)->∃more,H' b=some (.tbl (ps++more))
section
variable{fs MZ ex ex':List Addr}{H2:Hp}{h1 h2:Heap}{a x e:Addr}{o:HO}
theorem Un.any(u:Un fs ex H H1 h h1)(q:h.get? b=some ob)(n:H b=none)(hx:b∉ex):∃sl,h1.get? b=some {ob with slots:=sl}:=by
 by_cases hb:b∈fs;.exact u.slot b ob q n hb hx
 .exact⟨ob.slots,u.keep b ob q n hb hx⟩
theorem Un.kept(k:∀b u,h.get? b=some u->h'.get? b=some u):Un fs ex H H h h':=⟨λb ob q _ _ _=>k b ob q,λb ob q _ _ _=>⟨ob.slots,k b ob q⟩,λ_ _ _ n _=>n,λb ob q _=>⟨ob,k b ob q⟩,λ_ _ q=>q,λ_ _ _ q=>q,λ_ ps q=>⟨#[],by rw[q];simp⟩⟩
theorem Un.refl:Un fs ex H H h h:=Un.kept λ_ _ q=>q
theorem Un.laid(k:∀b u,h.get? b=some u->h'.get? b=some u)(hp:h.objs.size<=a)(hn:H a=none):Un fs ex H (upd H a o) h h' where
 keep:=λb u q _ _ _=>k b u q
 slot:=λb u q _ _ _=>⟨u.slots,k b u q⟩
 free:=λb u q n _=>%[aP (WR (WJ (Wp q) hp))|n]
 there:=λb u q _=>⟨u,k b u q⟩
 lX:=λb xs q=>%[aP (fF q hn)|q]
 j6:=λb u xs q=>%[aP (fF q hn)|q]
 m3:=λb ps q=>⟨#[],by rw[aP (fF q hn),q];simp⟩
theorem Un.write(mu:qu (H x))(he:e=x\/H e=some (.own x))(k:∀b u,b≠e->h.get? b=some u->h'.get? b=some u)(qv:∃u,h'.get? e=some u):Un fs ex H (upd H x o) h h':=by
 have hx:∀b,H b=none->b≠x:=λb n z=>by subst z;rw[n]at mu;exact mu
 have hb:∀b,H b=none->b≠e:=λb n z=>by grind
 have hm:∀b u,H b=some u->¬qu (some u)->b≠x:=λb u q nm z=>by grind
 refine⟨λb u q n _ _=>k b u (hb b n) q,λb u q n _ _=>⟨u.slots,k b u (hb b n) q⟩,λb u q n _=>%[aP (hx b n)|n],λb u q _=>?_,λb xs q=>%[aP (hm b _ q λz=>z)|q],λb u xs q=>%[aP (hm b _ q λz=>z)|q],λb ps q=>⟨#[],by rw[aP (hm b _ q λz=>z),q];simp⟩⟩;grind
end
def w6(h:Heap)(H:Hp):List Addr:=(WB h.objs.size).filter λa=>(H a).isSome
def j7(h:Heap)(H:Hp):Heap:=PySem.W.hideAll h (w6 h H)
theorem M0(h:Heap)(H):(j7 h H).objs.size=h.objs.size:=PySem.W.hideAll_size _ _
theorem M1(e:h.get? b=some o)(n:H b=none):(j7 h H).get? b=some o:=PySem.W.hideAll_get _ e λhm=>by have q:(H b).isSome=true:=(U4.mp hm).2;rw[n]at q;simp at q
theorem M3(e:(j7 h H).get? b=some o):h.get? b=some o/\H b=none:=by have e':h.get? b=some o:=PySem.W.of_hideAll (w6 h H) e;refine⟨e',?_⟩;cases q:H b with|none=>rfl|some x=>have hm:b∈w6 h H:=List.mem_filter.mpr ⟨List.mem_range.mpr (Wp e'),#v[q]⟩;grind[j7,W.hideAll_none]
def M4(g h:Heap)(L:Addr):List (Addr×Obj):=(WB h.objs.size).filterMap λa=>if a=L\/(g.get? a).isSome=true then none else(h.get? a).map λo=>(a,o)
def rest(g h:Heap)(L d:Addr):List (Addr×Obj):=(M4 g h L).filter λp=>decide (p.1≠d)
structure Mod(K:W5)(mg:Str->Option Value)(base:Heap):Prop where
 qw:K.In base
 glob:base.Ns Wz mg
 blt:∃mb,base.Ns builtinsNs mb/\∀x:Str,x≠"__name__"->mb x=QR x
 nolimit:base.NoLimit
structure Cx where
 prog:Wm
 w:Wv
 K:W5
 mg:Str->Option Value
 base:Heap
 A:Wt
 N:List Str
 s₀:W4
 H₀:Hp
 env:Env
 outer:List Env
 stack:List Env
 ex:List Addr
 fn:Str->Bool
 calm:Bool
 pn:List (Addr×Obj)xe:Value->W4->Prop
variable{X:Cx}
def gX(l:List Env):List Addr:=l.filterMap (·.frame)
abbrev Cx.fs(X:Cx):List Addr:=gX X.outer
def tS(sc:Scope)(x:Str):Prop:=sc.names.lookup x=some .local\/sc.names.lookup x=some .cell\/sc.names.lookup x=some .free
def Loc(sc:Scope)(x:Str):Prop:=sc.names.lookup x=some .local\/sc.names.lookup x=some .cell
def Look(env:Env)(h:Heap)(m:Str->Option Value)(x:Str)(u:Value):Prop:=env.kindOf x=some .local/\m x=some u\/(env.kindOf x=some .cell\/env.kindOf x=some .free)/\∃c,env.cells.lookup x=some c/\h.IsCell c (some u)
structure Cx.Ok(X:Cx):Prop where
 mod:Mod X.K X.mg X.base
 kind:X.env.scope.kind=.function
 glob:X.env.globals=Wz
 blt:X.env.builtins=builtinsNs
 above:X.s₀.heap.objs.size<=X.env.locals
 inj:∀x y c,X.env.cells.lookup x=some c->X.env.cells.lookup y=some c->x=y
 has:∀x,X.env.kindOf x=some .cell\/X.env.kindOf x=some .free->∃c,X.env.cells.lookup x=some c
 oJ:∀x c,X.fn x=true->X.env.cells.lookup x=some c->X.s₀.heap.objs.size<=c
 hd:X.calm=true->X.A.handled=none
 frames:X.A.frames=some X.stack
 tU:X.stack=X.outer\/X.stack=X.env::X.outer/\X.env.frame=some X.env.locals
 tV:∀b∈X.ex,b≠X.env.locals/\∀x c,X.env.cells.lookup x=some c->c≠b
 bs:∀b o,X.base.get? b=some o->X.s₀.heap.get? b=some o/\X.H₀ b=none
 kM:X.base.objs.size<=X.s₀.heap.objs.size
 qx:∀b o,X.base.get? b=some o->b∉X.ex
 qy:∀b∈X.ex,b∉X.fs
 iC:X.s₀.heap.FunFrames X.base X.outer
 m4:∀b∈X.fs,X.H₀ b=none
structure Inv(X:Cx)(pins:List (Addr×Obj))(M:List (Option V))(H:Hp)(s:W4):Prop where
 ok:X.Ok
 os:s.os=X.s₀.os
 bare:AllBare s.gens
 base:Un X.fs X.ex X.H₀ H X.s₀.heap s.heap
 loc:∃m,s.heap.Ns X.env.locals m/\∀(i:Nat)(x:Str)(v:V),X.N[i]?=some x->M[i]?=some (some v)->tS X.env.scope x->∃u,RelV v u/\Look X.env s.heap m x u
 cell:∀x c,X.env.cells.lookup x=some c->∃v,s.heap.IsCell c v
 free:H X.env.locals=none
 iU:∀x c,X.env.cells.lookup x=some c->H c=none
 pin:∀p∈X.pn++pins,s.heap.get? p.1=some p.2/\H p.1=none/\p.1≠X.env.locals/\p.1∉X.fs/\∀v,p.2.data≠.cell v
 aB:cK X.prog X.w H s.heap
 len:M.length=X.N.length
section
variable{M:List (Option V)}{s:W4}
theorem Cx.Ok.M5(ok:X.Ok)(e:X.base.get? b=some o):b∉X.fs:=λhb=>by have:=(ok.iC.mem hb).1;grind
theorem Inv.bs(I:Inv X pins M H s):∀b o,X.base.get? b=some o->s.heap.get? b=some o/\H b=none:=λb o e=>⟨I.base.keep b o (I.ok.bs b o e).1 (I.ok.bs b o e).2 (I.ok.M5 e) (I.ok.qx b o e),I.base.free b o (I.ok.bs b o e).1 (I.ok.bs b o e).2 (I.ok.qx b o e)⟩
theorem Inv.bk(I:Inv X pins M H s):∀b o,X.base.get? b=some o->s.heap.get? b=some o:=λb o e=>(I.bs b o e).1
theorem Inv.mod(I:Inv X pins M H s):Mod X.K X.mg X.base:=I.ok.mod
theorem Inv.fm(I:Inv X pins M H s):X.K.In s.heap:=I.ok.mod.qw.keeps I.bk
theorem Inv.fr(I:Inv X pins M H s):∃m,Fr X.base X.env.locals s.heap m:=let⟨m,hn,_⟩:=I.loc
 ⟨m,hn,I.bk,Qe I.ok.kM I.ok.above⟩
theorem Inv.lt(I:Inv X pins M H s):X.env.locals<s.heap.objs.size:=let⟨_,hn,_⟩:=I.loc;hn.lt
theorem Inv.sz(I:Inv X pins M H s):X.s₀.heap.objs.size<=s.heap.objs.size:=Qe I.ok.above (U9 I.lt)
theorem Inv.M6(I:Inv X pins M H s)(h:s.heap.objs.size<=a):a∉X.fs:=λhb=>by obtain⟨_,o,ho,_⟩:=I.ok.iC.mem hb;exact absurd (WJ (Wp ho) (Qe I.sz h)) (Qh _)
theorem Inv.iV(I:Inv X pins M H s):∀x c,X.env.cells.lookup x=some c->c≠X.env.locals:=λx c e z=>by obtain⟨v,o,ho,hd⟩:=I.cell x c e;obtain⟨m,⟨o',es,ep,h9,lY,_⟩,_⟩:=I.loc;grind
theorem Inv.iC(I:Inv X pins M H s):s.heap.FunFrames X.base X.outer:=by
 have all:∀(l:List Env),(∀b∈gX l,b∈X.fs)->X.s₀.heap.FunFrames X.base l->s.heap.FunFrames X.base l:=by intro l;induction l with|nil=>intro _ _;trivial|cons env r ih=>intro hs hl;obtain⟨hk,⟨L,o,hf,hn,ho,hd⟩,hr⟩:=hl;have hL:L∈X.fs:=hs L (by unfold gX;rw[JF,hf];exact Wx);obtain⟨sl,e⟩:=I.base.slot L o ho (I.ok.m4 L hL) hL λz=>I.ok.qy L z hL;exact⟨hk,⟨L,_,hf,hn,e,hd⟩,ih (λb hb=>hs b (by unfold gX;rw[JF,hf];exact Wn _ hb)) hr⟩
 exact all X.outer (λ_ hb=>hb) I.ok.iC
theorem Inv.stack(I:Inv X pins M H s):s.heap.FunFrames X.base X.stack:=by
 rcases I.ok.tU with e|⟨e,hf⟩;.rw[e];exact I.iC
 .rw[e];obtain⟨m,hn,_⟩:=I.loc;refine .cons (by rw[I.ok.kind];decide) hf hn ?_ I.iC;exact Heap.get?_none_of_le (Qe I.ok.kM I.ok.above)
theorem Inv.tW(I:Inv X pins M H s):∀b∈gX X.stack,b∈X.env.locals::X.fs:=λb hb=>by
 rcases I.ok.tU with e|⟨e,hf⟩;.rw[e]at hb;exact Wn _ hb
 .rw[e]at hb;unfold gX at hb;rw[JF,hf]at hb;exact hb
theorem Inv.B0(I:Inv X pins M H s):∀b∈gX X.stack,H b=none:=λb hb=>by
 rcases Wf.mp (I.tW b hb)with e|hb;.rw[e];exact I.free
 .obtain⟨_,o,ho,_⟩:=I.ok.iC.mem hb;exact I.base.free b o ho (I.ok.m4 b hb) λz=>I.ok.qy b z hb
theorem Inv.step{g' t' d'}(I:Inv X pins M H s)(j8:∀b∈ch,(b∈X.ex\/X.s₀.heap.objs.size<=b)/\b≠X.env.locals/\(∀x c,X.env.cells.lookup x=some c->c≠b)/\∀p∈X.pn++pins,p.1≠b)(keep:∀b o,b≠X.env.locals->b∉X.fs->b∉ch->s.heap.get? b=some o->H b=none->h'.get? b=some o)(slot:∀b o,b≠X.env.locals->b∈X.fs->b∉ch->s.heap.get? b=some o->H b=none->∃sl,h'.get? b=some {o with slots:=sl})(free:∀b o,b∉ch->s.heap.get? b=some o->H b=none->H' b=none)(there:∀b o,b∉ch->s.heap.get? b=some o->∃o',h'.get? b=some o')(lX:∀b xs,H b=some (.tup xs)->H' b=some (.tup xs))(j6:∀b o u,H b=some (.frz o u)->H' b=some (.frz o u))(m3:∀b ps,H b=some (.tbl ps)->∃more,H' b=some (.tbl (ps++more)))(ns:∀m,s.heap.Ns X.env.locals m->h'.Ns X.env.locals m)(aB:cK X.prog X.w H' h')(hg:AllBare g'):Inv X pins M H' {s with heap:=h',gens:=g',drawn:=d',toks:=t'}:=by
 have B4:∀b o,X.s₀.heap.get? b=some o->b≠X.env.locals:=λb o e=>WR (WJ (Wp e) I.ok.above);have tY:∀b o,X.s₀.heap.get? b=some o->b∉X.ex->b∉ch:=λb o e hx hb=>by
  rcases(j8 b hb).1 with z|z;.exact hx z
  .exact absurd (WJ (Wp e) z) (Qh _)
 have cellK:∀x c,X.env.cells.lookup x=some c->∀v,s.heap.IsCell c v->h'.IsCell c v:=λx c e v⟨o,ho,hd⟩=>by
  have qA:c∉ch:=λz=>(j8 c z).2.2.1 x c e rfl;by_cases hc:c∈X.fs;.obtain⟨sl,q⟩:=slot c o (I.iV x c e) hc qA ho (I.iU x c e);exact⟨_,q,hd⟩
  .exact⟨o,keep c o (I.iV x c e) hc qA ho (I.iU x c e),hd⟩
 refine⟨I.ok,I.os,hg,⟨λb o e n hb hx=>?_,λb o e n hb hx=>?_,λb o e n hx=>?_,λb o e hx=>?_,λb xs e=>lX b xs (I.base.lX b xs e),λb o xs e=>j6 b o xs (I.base.j6 b o xs e),λb ps e=>?_⟩,?_,λx c e=>?_,?_,λx c e=>?_,λp hp=>?_,aB,I.len⟩;.exact keep b o (B4 b o e) hb (tY b o e hx) (I.base.keep b o e n hb hx) (I.base.free b o e n hx)
 .obtain⟨sl,e1⟩:=I.base.slot b o e n hb hx;obtain⟨sl',e2⟩:=slot b _ (B4 b o e) hb (tY b o e hx) e1 (I.base.free b o e n hx);exact⟨sl',e2⟩
 .obtain⟨o',e1⟩:=I.base.there b o e hx;exact free b o' (tY b o e hx) e1 (I.base.free b o e n hx)
 .obtain⟨o',e1⟩:=I.base.there b o e hx;exact there b o' (tY b o e hx) e1
 .obtain⟨m1,e1⟩:=I.base.m3 b ps e;grind
 .obtain⟨m,hn,hl⟩:=I.loc;refine⟨m,ns m hn,λi x v e1 e2 e3=>?_⟩;obtain⟨u,r,l⟩:=hl i x v e1 e2 e3;refine⟨u,r,?_⟩;rcases l with l|⟨k,c,e,z⟩;.exact .inl l
  .exact .inr ⟨k,c,e,cellK x c e _ z⟩
 .obtain⟨v,z⟩:=I.cell x c e;exact⟨v,cellK x c e v z⟩
 .obtain⟨m,⟨o,_,_,ho,_⟩,_⟩:=I.loc;exact free _ o (λz=>(j8 _ z).2.1 rfl) ho I.free
 .obtain⟨v,o,ho,hd⟩:=I.cell x c e;exact free c o (λz=>(j8 c z).2.2.1 x c e rfl) ho (I.iU x c e)
 .obtain⟨e,n,ne,nf,d⟩:=I.pin p hp;have qA:p.1∉ch:=λz=>(j8 p.1 z).2.2.2 p hp rfl;exact⟨keep p.1 p.2 ne nf qA e n,free p.1 p.2 qA e n,ne,nf,d⟩
theorem Inv.un{t'}(I:Inv X pins M H s)(u:Un X.fs [] H H' s.heap h')(aB:cK X.prog X.w H' h'):Inv X pins M H' {s with heap:=h',toks:=t'}:=by obtain⟨m,⟨o,es,ep,ho,r⟩,_⟩:=id I.loc;obtain⟨sl,hL⟩:=u.any ho I.free U';exact I.step (g':=s.gens) (d':=s.drawn) (ch:=[]) (λ_ z=>nomatch z) (λb o _ hb _ e n=>u.keep b o e n hb U') (λb o _ hb _ e n=>u.slot b o e n hb U') (λb o _ e n=>u.free b o e n U') (λb o _ e=>u.there b o e U') u.lX u.j6 u.m3 (λm' hm=>by obtain⟨o',m5,gk,h9,r'⟩:=hm;rw[ho]at h9;cases h9;exact⟨_,m5,gk,hL,r'⟩) aB I.bare
theorem Inv.call{t' d'}(I:Inv X pins M H s)(u:Un (gX X.stack) ch H H' s.heap h')(aB:cK X.prog X.w H' h')(hg:AllBare g')(j8:∀b∈ch,(b∈X.ex\/X.s₀.heap.objs.size<=b)/\b≠X.env.locals/\(∀x c,X.env.cells.lookup x=some c->c≠b)/\∀p∈X.pn++pins,p.1≠b):Inv X pins M H' {s with heap:=h',gens:=g',drawn:=d',toks:=t'}:=by obtain⟨m,⟨o,es,ep,ho,r⟩,_⟩:=id I.loc;obtain⟨sl,hL⟩:=u.any ho I.free λz=>(j8 _ z).2.1 rfl;exact I.step (ch:=ch) j8 (λb o hL hb hc e n=>u.keep b o e n (λz=>(Wf.mp (I.tW b z)).elim hL hb) hc) (λb o _ _ hc e n=>u.any e n hc) (λb o hc e n=>u.free b o e n hc) (λb o hc e=>u.there b o e hc) u.lX u.j6 u.m3 (λm' hm=>by obtain⟨o',m5,gk,h9,r'⟩:=hm;rw[ho]at h9;cases h9;exact⟨_,m5,gk,hL,r'⟩) aB hg
theorem Inv.turned{t'}(I:Inv X pins M H s)(k:∀b o,b≠it->s.heap.get? b=some o->h'.get? b=some o)(hn:H it=none)(hL:it≠X.env.locals)(h1:it∈X.ex\/X.s₀.heap.objs.size<=it)(h2:∀x c,X.env.cells.lookup x=some c->c≠it)(h3:∀p∈X.pn++pins,p.1≠it):Inv X pins M H {s with heap:=h',toks:=t'}:=by
 have lZ:∀b u,H b=some u->b≠it:=λb u e z=>by grind
 refine I.step (g':=s.gens) (d':=s.drawn) (ch:=[it]) (λb hb=>?_) (by grind) (λb o _ _ hc e _=>⟨o.slots,k b o (λz=>hc #v[z]) e⟩) (λ_ _ _ _ n=>n) (by grind) (λ_ _ e=>e) (λ_ _ _ e=>e) (λb ps e=>⟨#[],by rw[e];simp⟩) (λm hm=>?_) (λb u e=>?_) I.bare;.have e:b=it:= ~~~hb;subst e;exact⟨h1,hL,h2,h3⟩
 .obtain⟨o,es,ep,ho,r⟩:=hm;exact⟨o,es,ep,k _ o (Ne.symm hL) ho,r⟩
 .refine(I.aB b u e).gH (λc v hc q=>k c v ?_ q) (λ_ q=>q) (λ_ _ q=>q) λ_ _ _ q=>q;rcases hc with z|z;.rw[z];exact lZ b u e
  .exact lZ c _ z
theorem Inv.tok(I:Inv X pins M H s)(t):Inv X pins M H {s with toks:=t}:=I.un (h':=s.heap) (t':=t) Un.refl I.aB
theorem Inv.kept(I:Inv X pins M H s)(k:∀b u,s.heap.get? b=some u->h'.get? b=some u):Inv X pins M H {s with heap:=h',toks:=t'}:=I.un (Un.kept k) (I.aB.kept k)
theorem Inv.laid(I:Inv X pins M H s)(k:∀b u,s.heap.get? b=some u->h'.get? b=some u)(hp:s.heap.objs.size<=a)(new:bX X.prog X.w (upd H a o) h' a o):Inv X pins M (upd H a o) {s with heap:=h',toks:=t'}:=I.un (Un.laid k hp (I.aB.fresh hp)) (I.aB.laid k hp new)
theorem Inv.write{x e}(I:Inv X pins M H s)(mu:qu (H x))(he:e=x\/H e=some (.own x))(k:∀b u,b≠e->s.heap.get? b=some u->h'.get? b=some u)(qv:∃u,h'.get? e=some u)(new:bX X.prog X.w (upd H x o) h' x o):Inv X pins M (upd H x o) {s with heap:=h',toks:=t'}:=I.un (Un.write mu he k qv) (I.aB.write mu he k qv new)
theorem Inv.weak(I:Inv X pins M H s)(hl:M'.length=M.length)(w:∀(i:Nat)v,M'[i]?=some (some v)->M[i]?=some (some v)):Inv X pins M' H s:=⟨I.ok,I.os,I.bare,I.base,let⟨m,hn,iW⟩:=I.loc;⟨m,hn,λi x v e1 e2 e3=>iW i x v e1 (w i v e2) e3⟩,I.cell,I.free,I.iU,I.pin,I.aB,hl.trans I.len⟩
theorem Inv.B5(I:Inv X pins M H s)(h:∀p∈pins',s.heap.get? p.1=some p.2/\H p.1=none/\p.1≠X.env.locals/\p.1∉X.fs/\∀v,p.2.data≠.cell v):Inv X pins' M H s:=⟨I.ok,I.os,I.bare,I.base,I.loc,I.cell,I.free,I.iU,λp hp=>(WZ.mp hp).elim (λz=>I.pin p (Jv _ z)) (h p),I.aB,I.len⟩
theorem B6(hN:N.Nodup)(a:N[i]?=some x)(b:N[j]?=some x):i=j:=by obtain⟨h1,e1⟩:=W9.mp a;obtain⟨h2,e2⟩:=W9.mp b;exact(List.getElem_inj hN).mp (e1.trans e2.symm)
theorem B7{zj A}{E:Value->W4->Prop}{v}{Q:Unit->W4->Prop}(I:Inv X pins M H s)(hN:X.N.Nodup)(hi:X.N[i]?=some x)(hx:Loc X.env.scope x)(r:RelV v u)(h:∀s',Inv X pins (M.set i (some v)) H s'->(∃a,Qx a s.heap s'.heap/\(a=X.env.locals\/X.env.cells.lookup x=some a))->Q () s')(hf:X.fn x=true\/X.env.scope.names.lookup x=some .local:=by first|exact .inl rfl|exact .inr rfl|assumption):W7 zj A (storeName X.env x u) Q E s:=by
 obtain⟨m,hn,hl⟩:=id I.loc;have M7:(X.env.scope.kind==.class||X.env.scope.kind==.module&&X.env.locals !=X.env.globals)=false:=by rw[I.ok.kind];rfl
 have B8:i<M.length:=by rw[I.len];exact(W9.mp hi).1
 have iV:=I.iV;have tracked:∀{a:Addr}{h':Heap},(∃o,s.heap.get? a=some o/\H a=none)->Qx a s.heap h'->cK X.prog X.w H h':=λ{a h'}ha hs b ob e=>by obtain⟨_,_,tZ⟩:=ha;refine(I.aB b ob e).gH (λc w' hc q=>(hs.2 c ?_).trans q) (λ_ q=>q) (λ_ _ q=>q) λ_ _ _ q=>q;grind
 rcases hx with hk|hk
 .refine wpAny_storeName_local hk hn (λh' w8 hs=>?_) M7;obtain⟨oL,_,_,t4,_⟩:=id hn;refine h _ ⟨I.ok,I.os,I.bare,⟨λb o e n hb hx=>?_,λb o e n hb hx=>?_,I.base.free,λb o e hx=>?_,I.base.lX,I.base.j6,I.base.m3⟩,⟨_,w8,λj y v' e1 e2 e3=>?_⟩,λy c e=>?_,I.free,I.iU,λp hp=>?_,tracked ⟨oL,t4,I.free⟩ hs,~~~I.len⟩ ⟨_,hs,.inl rfl⟩;.exact(hs.2 b (WR (WJ (Wp e) I.ok.above))).trans (I.base.keep b o e n hb hx)
  .obtain⟨sl,e1⟩:=I.base.slot b o e n hb hx;exact⟨sl,(hs.2 b (WR (WJ (Wp e) I.ok.above))).trans e1⟩
  .obtain⟨o',e1⟩:=I.base.there b o e hx;exact⟨o',(hs.2 b (WR (WJ (Wp e) I.ok.above))).trans e1⟩
  .by_cases hj:j=i;.subst hj;rw[hi]at e1;cases e1;rw[Wr B8]at e2;cases e2;exact⟨u,r,.inl ⟨hk,U'⟩⟩
   .rw[Wa (Ne.symm hj)]at e2;obtain⟨u',r',q⟩:=hl j y v' e1 e2 e3;refine⟨u',r',?_⟩;rcases q with⟨k,e⟩|⟨k,c,e,z⟩;.refine .inl ⟨k,?_⟩;have:y≠x:=λe=>hj (B6 hN e1 (e▸hi));simp[this,e]
    .exact .inr ⟨k,c,e,z.sameBut hs (iV y c e)⟩
  .obtain⟨w',z⟩:=I.cell y c e;exact⟨w',z.sameBut hs (iV y c e)⟩
  .obtain⟨e,n,ne,nf,d⟩:=I.pin p hp;exact⟨(hs.2 p.1 ne).trans e,n,ne,nf,d⟩
 .have kO:X.fn x=true:=by grind
  obtain⟨c,hc⟩:=I.ok.has x (.inl hk);obtain⟨w',z⟩:=I.cell x c hc;refine wpAny_storeName_cell I.ok.kind hk hc z λh' iX hs=>?_;obtain⟨oc,hoc,hocd⟩:=id z;refine h {s with heap:=h'} ⟨I.ok,I.os,I.bare,⟨λb o e n hb hx=>?_,λb o e n hb hx=>?_,I.base.free,λb o e hx=>?_,I.base.lX,I.base.j6,I.base.m3⟩,⟨m,hn.sameBut hs (Ne.symm (iV x c hc)),λj y v' e1 e2 e3=>?_⟩,λy c' e=>?_,I.free,I.iU,λp hp=>?_,tracked ⟨oc,hoc,I.iU x c hc⟩ hs,~~~I.len⟩ ⟨c,hs,.inr hc⟩;.exact(hs.2 b (WR (WJ (Wp e) (I.ok.oJ x c kO hc)))).trans (I.base.keep b o e n hb hx)
  .obtain⟨sl,e1⟩:=I.base.slot b o e n hb hx;exact⟨sl,(hs.2 b (WR (WJ (Wp e) (I.ok.oJ x c kO hc)))).trans e1⟩
  .obtain⟨o',e1⟩:=I.base.there b o e hx;exact⟨o',(hs.2 b (WR (WJ (Wp e) (I.ok.oJ x c kO hc)))).trans e1⟩
  .by_cases hj:j=i;.subst hj;rw[hi]at e1;cases e1;rw[Wr B8]at e2;cases e2;exact⟨u,r,.inr ⟨.inl hk,c,hc,iX⟩⟩
   .rw[Wa (Ne.symm hj)]at e2;obtain⟨u',r',q⟩:=hl j y v' e1 e2 e3;refine⟨u',r',?_⟩;rcases q with q|⟨k,c',e,z'⟩;.exact .inl q
    .refine .inr ⟨k,c',e,z'.sameBut hs ?_⟩;rintro rfl;exact hj (B6 hN e1 (I.ok.inj _ _ _ e hc▸hi))
  .by_cases hcc:c'=c;.grind
   .obtain⟨w2,z2⟩:=I.cell y c' e;exact⟨w2,z2.sameBut hs hcc⟩
  .obtain⟨e,n,ne,nf,d⟩:=I.pin p hp;refine⟨(hs.2 p.1 ?_).trans e,n,ne,nf,d⟩;grind
theorem w_{Q}(I:Inv X pins M H s)(hN:X.N.Nodup)(hi:X.N[i]?=some x)(hx:Loc X.env.scope x)(r:RelV v u)(h:∀s',Inv X pins (M.set i (some v)) H s'->Q () s')(hf:X.fn x=true\/X.env.scope.names.lookup x=some .local:=by first|exact .inl rfl|exact .inr rfl|assumption):W7 zj A (storeName X.env x u) Q E s:=B7 I hN hi hx r (λs' I' _=>h s' I') hf
theorem Inv.M8(I:Inv X pins M H s)(ho:s'.os=s.os)(u:Un (gX X.stack) ch H H' s.heap s'.heap)(aB:cK X.prog X.w H' s'.heap)(hg:AllBare s'.gens)(j8:∀b∈ch,(b∈X.ex\/X.s₀.heap.objs.size<=b)/\b≠X.env.locals/\(∀x c,X.env.cells.lookup x=some c->c≠b)/\∀p∈X.pn++pins,p.1≠b):Inv X pins M H' s':=by obtain⟨h',g',d',t',o'⟩:=s';have e:o'=s.os:=ho;subst e;exact I.call (g':=g') (t':=t') (d':=d') u aB hg j8
end
abbrev XK:=Value->Option Addr->Hp->Prop
abbrev St:=List (Option V)
variable{M M':St}
abbrev VK:=V->Hp->Prop
abbrev TE:=St->Hp->VK->Prop
variable{ta tb td te tv tx ty:TE}
abbrev TT:=St->Hp->(Bool->Hp->Prop)->Prop
abbrev TA:=St->Hp->(List V->Hp->Prop)->Prop
structure Ends where
 nx:St->Hp->Prop
 rt:VK
 bk:St->Hp->Prop:=λ_ _=>False
 ct:St->Hp->Prop:=λ_ _=>False
variable{Dn:Ends}
abbrev TS:=Ends->St->Hp->Prop
def EP(X:Cx)(pins:List (Addr×Obj))(M:St)(Q:VK)(u:Value)(s':W4):Prop:=∃v H',Inv X pins M H' s'/\RelV v u/\Q v H'
def TP(X:Cx)(pins:List (Addr×Obj))(M:St)(Q:Bool->Hp->Prop)(b:Bool)(s':W4):Prop:=∃H',Inv X pins M H' s'/\Q b H'
def AP(X:Cx)(pins:List (Addr×Obj))(M:St)(Q:List V->Hp->Prop)(us:List Value)(s':W4):Prop:=∃vs H',Inv X pins M H' s'/\Vals vs us/\Q vs H'
def SP(X:Cx)(pins:List (Addr×Obj))(D:Ends)(f:Flow)(s':W4):Prop:=match f with|.next=>∃M' H',Inv X pins M' H' s'/\D.nx M' H'|.brk=>∃M' H',Inv X pins M' H' s'/\D.bk M' H'|.cont=>∃M' H',Inv X pins M' H' s'/\D.ct M' H'|.ret u=>∃v M' H',Inv X pins M' H' s'/\RelV v u/\D.rt v H'
def PE(X:Cx)(e:Expr)(t:TE):Prop:=∀(pins:List (Addr×Obj))(s:W4)(M:St)(H:Hp)(Q:VK),Inv X pins M H s->t M H Q->W7 (model X.prog X.w) X.A (eval e X.env) (EP X pins M Q) X.xe s
def PT(X:Cx)(e:Expr)(t:TT):Prop:=∀(pins:List (Addr×Obj))(s:W4)(M:St)(H:Hp)(Q:Bool->Hp->Prop),Inv X pins M H s->t M H Q->W7 (model X.prog X.w) X.A (isTrue e X.env (eval e X.env)) (TP X pins M Q) X.xe s
def PW(X:Cx)(e:Expr)(t:TT):Prop:=∀(whole:Sem Value)(pins:List (Addr×Obj))(s:W4)(M:St)(H:Hp)(Q:Bool->Hp->Prop),Inv X pins M H s->t M H Q->W7 (model X.prog X.w) X.A (isTrue e X.env whole) (TP X pins M Q) X.xe s
theorem PW.pt(h:PW X e t):PT X e t:=h _
def PA(X:Cx)(es:List Expr)(t:TA):Prop:=∀(pos:Pos)(pins:List (Addr×Obj))(s:W4)(M:St)(H:Hp)(Q:List V->Hp->Prop),Inv X pins M H s->t M H Q->W7 (model X.prog X.w) X.A (spliced (Qz pos (We es X.env))) (AP X pins M Q) X.xe s
def PS(X:Cx)(st:Stmt)(t:TS):Prop:=∀(pins:List (Addr×Obj))(s:W4)(M:St)(H:Hp)(D:Ends),Inv X pins M H s->t D M H->W7 (model X.prog X.w) X.A (exec st X.env) (SP X pins D) X.xe s
def dM(X:Cx)(st:List Stmt)(t:TS):Prop:=∀(pins:List (Addr×Obj))(s:W4)(M:St)(H:Hp)(D:Ends),Inv X pins M H s->t D M H->W7 (model X.prog X.w) X.A (execs st X.env) (SP X pins D) X.xe s
theorem aMc{Q:VK}(h:W7 zj A t (EP X pins M Q) E s)(k:∀u s v H,Inv X pins M H s->RelV v u->Q v H->Q' u s):W7 zj A t Q' E s:=Qy h (λ_ _⟨_,_,i,r,q⟩=>k _ _ _ _ i r q) λ_ _ x=>x
theorem aM{Q}(h:W7 zj A t Q E s)(hQ:∀a s,Q a s->Q' a s):W7 zj A t Q' E s:=Qy h hQ λ_ _ x=>x
section
theorem bin{a b}(ha:PE X a ta)(hb:PE X b tb){s}{R:V->V->Hp->Prop}(I:Inv X pins M H s)(h:ta M H λx H1=>tb M H1 λy H2=>R x y H2){α:Type}{Q:α->W4->Prop}{f:Value->Value->Sem α}(hf:∀v u s2 x y H2,Inv X pins M H2 s2->RelV x v->RelV y u->R x y H2->W7 (model X.prog X.w) X.A (f v u) Q X.xe s2):W7 (model X.prog X.w) X.A (eval a X.env) (λv s₁=>W7 (model X.prog X.w) X.A (eval b X.env) (λu s₂=>W7 (model X.prog X.w) X.A (f v u) Q X.xe s₂) X.xe s₁) X.xe s:=by refine aMc (ha pins s M H _ I h) λv s1 x H1 I1 r1 q1=>?_;refine aM (hb pins s1 M H1 _ I1 q1) λu s2 hh=>?_;obtain⟨y,H2,I2,r2,q2⟩:=hh;exact hf v u s2 x y H2 I2 r1 r2 q2
def dq(i:Nat):TE:=λM H Q=>∃v,M[i]?=some (some v)/\Q v H
def tC(v:V):TE:=λ_ H Q=>Q v H
theorem M9(hN:X.N[i]?=some x)(hv:tS X.env.scope x)(hd:(x==("__debug__":Str))=false:=by decide)(gY:(x==("__classdict__":Str))=false:=by decide):PE X (.Name x pos) (dq i):=by
 intro pins s M H Q I h;obtain⟨v,e,h⟩:=h;obtain⟨m,hn,hl⟩:=I.loc;obtain⟨u,r,l⟩:=hl i x v hN e hv;have fin:EP X pins M Q u s:=⟨v,H,I,r,h⟩;rcases l with⟨hk,hm⟩|⟨hk,c,hc,hcell⟩;.exact wpAny_Name (wpAny_loadName_local I.ok.kind hk hn hm fin) hd
 .rcases hk with hk|hk;.exact wpAny_Name (wpAny_loadName_cell I.ok.kind hk hc hcell fin) hd
  .exact wpAny_Name (wpAny_loadName_free I.ok.kind hk hc hcell fin gY) hd
theorem B9{i j pos}:PE X (.Constant (.int i) j pos) (tC (.int i)):=λ_ _ _ H _ I h=>wpAny_Constant_int ⟨.int i,H,I.tok _,⟨_,rfl⟩,h⟩
theorem M_{b j pos}:PE X (.Constant (.bool b) j pos) (tC (.bl b)):=λ_ _ _ H _ I h=>Constant_bool ⟨.bl b,H,I,rfl,h⟩
theorem Na{j pos}:PE X (.Constant .none j pos) (tC .aJ):=λ_ _ _ H _ I h=>Constant_none ⟨.aJ,H,I,rfl,h⟩
theorem B_{x j pos}:PE X (.Constant (.str x) j pos) (tC (.str x)):=λ_ _ _ H _ I h=>Calls.Constant_str ⟨.str x,H,I.tok _,⟨_,rfl⟩,h⟩
def Gl(X:Cx)(x:Str):Prop:=X.env.kindOf x=some .globalImplicit
theorem xa(I:Inv X pins M H s)(hg:Gl X x)(hm:X.mg x=some u)(h:Q u s)(hd:(x==("__debug__":Str))=false:=by decide):W7 (model X.prog X.w) X.A (eval (.Name x pos) X.env) Q E s:=Calls.Name_function_global I.ok.kind hg (Calls.loadGlobal_global %[I.ok.glob|I.mod.glob.keeps I.bk] hm h) hd
theorem l9(I:Inv X pins M H s)(hg:Gl X x)(hm:X.mg x=none)(hv:QR x=some u)(h:Q u s)(hn:x≠"__name__":=by decide)(hd:(x==("__debug__":Str))=false:=by decide):W7 (model X.prog X.w) X.A (eval (.Name x pos) X.env) Q E s:=by obtain⟨mb,h1,h2⟩:=I.mod.blt;exact Calls.Name_function_global I.ok.kind hg (Calls.loadGlobal_builtin %[I.ok.glob|I.mod.glob.keeps I.bk] hm %[I.ok.blt|h1.keeps I.bk] ((h2 x hn).trans hv) h) hd
theorem Ca(hg:Gl X x)(hm:X.mg x=some u)(r:RelV v u)(hd:(x==("__debug__":Str))=false:=by decide):PE X (.Name x pos) (tC v):=λ_ _ _ H _ I h=>xa I hg hm ⟨v,H,I,r,h⟩ hd
theorem Nb(hg:Gl X x)(hm:X.mg x=none)(hv:QR x=some u)(r:RelV v u)(hn:x≠"__name__":=by decide)(hd:(x==("__debug__":Str))=false:=by decide):PE X (.Name x pos) (tC v):=λ_ _ _ H _ I h=>l9 I hg hm hv ⟨v,H,I,r,h⟩ hn hd
variable{a b:Expr}
def PC(X:Cx)(op:CmpOp)(a b:Expr)(t:TE):Prop:=∀(pins:List (Addr×Obj))(s:W4)(M:St)(H:Hp)(Q:VK),Inv X pins M H s->t M H Q->W7 (model X.prog X.w) X.A (eval a X.env) (λv s₁=>W7 (model X.prog X.w) X.A (eval b X.env) (λu s₂=>W7 (model X.prog X.w) X.A (WF op v u) (EP X pins M Q) X.xe s₂) X.xe s₁) X.xe s
theorem Nc(b)(h:op≠.In)(h2:op≠.NotIn):J8 op b=false:=by
 have e1:(op==CmpOp.In)=false:=by cases op<;>first|rfl|exact absurd rfl h
 have e2:(op==CmpOp.NotIn)=false:=by cases op<;>first|rfl|exact absurd rfl h2
 cases b<;>simp[J8,e1,e2]
def tB(t:TE):TT:=λM H Q=>t M H λx H1=>∃c,x=.bl c/\Q c H1
theorem qaM(h:PC X op a b t)(h1:J8 op b=false:=by first|exact Nc _ Z' Z'|rfl):PT X (.Compare a [op] [b] pos) (tB t):=by intro pins s M H Q I hw;refine wpAny_isTrue_Compare1 (aM (h pins s M H _ I hw) λv s1 h1=>aM h1 λu s2 h2=>aM h2 λc s3 hh=>?_) h1;obtain⟨x,H1,I1,r1,q1⟩:=hh;obtain⟨d,rfl,q⟩:=q1;cases r1;exact Ql ⟨H1,I1,q⟩
theorem Nd(h:PE X e t)(he:∀whole,isTrue e X.env whole=(do let v<-whole;standAt e.pos;holding [v] (truthy v)):=by intro _;rfl):PT X e (tB t):=by intro pins s M H Q I hw;refine isTrue_plain (aM (h pins s M H _ I hw) λv s1 hh=>?_) (he _);obtain⟨x,H1,I1,r1,q1⟩:=hh;obtain⟨d,rfl,q⟩:=q1;cases r1;exact Ql ⟨H1,I1,q⟩
variable{tA t5:TT}{rest:List Expr}
def Nf(t u:TT):TT:=λM H Q=>t M H λc H1=>if c=true then u M H1 Q else Q false H1
def Ng(t u:TT):TT:=λM H Q=>t M H λc H1=>if c=true then Q true H1 else u M H1 Q
def Nh(t:TT):TT:=λM H Q=>t M H λc H1=>Q (!c) H1
theorem Ni(ha:PT X a tA):PW X (.BoolOp .And [a] pos) tA:=by intro wh pins s M H Q I h;refine isTrue_and (aM (ha pins s M H Q I h) λc s1 e=>?_);cases c with|true=>exact isTrue_and_nil e|false=>exact e
theorem Nj(ha:PT X a tA):PW X (.BoolOp .Or [a] pos) tA:=by intro wh pins s M H Q I h;refine isTrue_or (aM (ha pins s M H Q I h) λc s1 e=>?_);cases c with|false=>exact isTrue_or_nil e|true=>exact e
theorem Nk(ha:PT X a tA)(hb:PW X (.BoolOp .And (b::rest) pos) t5):PW X (.BoolOp .And (a::b::rest) pos) (Nf tA t5):=by intro wh pins s M H Q I h;refine isTrue_and (aM (ha pins s M H _ I h) λc s1⟨H1,I1,q1⟩=>?_);cases c with|true=>exact hb wh pins s1 M H1 Q I1 q1|false=>exact⟨H1,I1,q1⟩
theorem pw_or(ha:PT X a tA)(hb:PW X (.BoolOp .Or (b::rest) pos) t5):PW X (.BoolOp .Or (a::b::rest) pos) (Ng tA t5):=by intro wh pins s M H Q I h;refine isTrue_or (aM (ha pins s M H _ I h) λc s1⟨H1,I1,q1⟩=>?_);cases c with|true=>exact⟨H1,I1,q1⟩|false=>exact hb wh pins s1 M H1 Q I1 q1
theorem Nl(ha:PT X a tA):PT X (.UnaryOp .Not a pos) (Nh tA):=by intro pins s M H Q I h;exact isTrue_not (ha pins s M H (λc H1=>Q (!c) H1) I h)
def Nm(ta tb:TE):TE:=λM H Q=>ta M H λx H1=>∃c,x=.bl c/\if c=true then tb M H1 Q else Q (.bl false) H1
def Nn(ta tb:TE):TE:=λM H Q=>ta M H λx H1=>∃c,x=.bl c/\if c=true then Q (.bl true) H1 else tb M H1 Q
def Nq(ta:TE):TE:=λM H Q=>ta M H λx H1=>∃c,x=.bl c/\Q (.bl !c) H1
theorem Nr{op}(h:PE X a t):PE X (.BoolOp op [a] pos) t:=λpins s M H Q I hw=>BoolOp_one (h pins s M H Q I hw)
theorem Nt(ha:PE X a ta)(hb:PE X (.BoolOp .And (b::rest) pos) tb):PE X (.BoolOp .And (a::b::rest) pos) (Nm ta tb):=by intro pins s M H Q I h;refine BoolOp_and (aM (ha pins s M H _ I h) λv s1 hh=>?_);obtain⟨x,H1,I1,r1,q1⟩:=hh;obtain⟨c,rfl,q1⟩:=q1;cases r1;refine Ql ?_;cases c with|true=>exact hb pins s1 M H1 Q I1 q1|false=>exact⟨.bl false,H1,I1,rfl,q1⟩
theorem Nu(ha:PE X a ta)(hb:PE X (.BoolOp .Or (b::rest) pos) tb):PE X (.BoolOp .Or (a::b::rest) pos) (Nn ta tb):=by intro pins s M H Q I h;refine BoolOp_or (aM (ha pins s M H _ I h) λv s1 hh=>?_);obtain⟨x,H1,I1,r1,q1⟩:=hh;obtain⟨c,rfl,q1⟩:=q1;cases r1;refine Ql ?_;cases c with|false=>exact hb pins s1 M H1 Q I1 q1|true=>exact⟨.bl true,H1,I1,rfl,q1⟩
theorem Nv(ha:PE X a ta):PE X (.UnaryOp .Not a pos) (Nq ta):=by intro pins s M H Q I h;refine UnaryOp_ (aM (ha pins s M H _ I h) λv s1 hh=>?_);obtain⟨x,H1,I1,r1,q1⟩:=hh;obtain⟨c,rfl,q1⟩:=q1;cases r1;exact not_of (Ql ⟨.bl !c,H1,I1,rfl,q1⟩)
end
def cp(K:W5)(H:Hp)(a:Addr)(xs:List V):Prop:=Rd H a (.lst xs)\/∃(o:Obj)(ak:Array Value)(n:Nat),K.lookup a=some o/\o.cls=.type "list"/\o.dict=none/\o.data=.seq ak n/\ak.size<=Wb/\Vals xs ak.toList
def cE(K:W5)(H:Hp)(a:Addr)(xs:List V):Prop:=Rd H a (.tup xs)\/∃(o:Obj)(ak:Array Value)(n:Nat),K.lookup a=some o/\o.cls=.type "tuple"/\o.data=.seq ak n/\ak.size<=Wb/\Vals xs ak.toList
def Nw:Value->Option V|.none=>some .aJ|.bool b=>some (.bl b)|.int i _=>some (.int i)|.str x _=>some (.str x)|.bytes b _=>some (.byt b)|.float b _=>some (.flt b)|.ref a=>some (.ref a)|.type n=>some (.ty n)|_=>none
theorem RelV.abs{x}(r:RelV x u):Nw u=some x:=by cases x with|aJ=>cases r;rfl|bl _=>cases r;rfl|int _=>obtain⟨t,rfl⟩:=r;rfl|str _=>obtain⟨t,rfl⟩:=r;rfl|byt _=>obtain⟨t,rfl⟩:=r;rfl|flt _=>obtain⟨t,rfl⟩:=r;rfl|ref _=>cases r;rfl|ty _=>cases r;rfl
theorem RelV.inj{x}(r:RelV x u)(q:RelV y u):x=y:=WN (r.abs.symm.trans q.abs)
theorem Vals.inj{xs ys us}(h:Vals xs us)(k:Vals ys us):xs=ys:=by induction h generalizing ys with|nil=>cases k;rfl|cons r t ih=>cases k with|cons r' t'=>rw[r.inj r',ih t']
section
variable{s:W4}{a:Addr}{xs:List V}
theorem cp.of(h:H a=some (.lst xs)):cp K H a xs:=.inl (.inl h)
theorem cE.of(h:H a=some (.tup xs)):cE K H a xs:=.inl (.inl h)
theorem Inv.list(I:Inv X pins M H s)(h:cp X.K H a xs):∃ak:List Value,Vals xs ak/\PlainL s.heap a ak.toArray/\xs.length<=Wb:=by
 rcases h with h|⟨o,ak,n,hk,hc,hd,hs,hz,r⟩;.obtain⟨z,ak,n,r,e⟩:=h.ok I.aB;exact⟨ak,r,⟨_,n,e,rfl,rfl,rfl⟩,z⟩
 .refine⟨ak.toList,r,⟨o,n,I.fm a o hk,hc,hd,~~~hs⟩,?_⟩;have e:=r.length;simp only[Q4]at e;lia
theorem Inv.tuple(I:Inv X pins M H s)(h:cE X.K H a xs):∃ak:List Value,Vals xs ak/\IsTup s.heap a ak.toArray/\xs.length<=Wb:=by
 rcases h with h|⟨o,ak,n,hk,hc,hs,hz,r⟩;.obtain⟨z,ak,r,p⟩:=h.ok I.aB;exact⟨ak,r,p.tup,z⟩
 .refine⟨ak.toList,r,⟨o,I.fm a o hk,hc,n,~~~hs⟩,?_⟩;have e:=r.length;simp only[Q4]at e;lia
theorem Inv.xf(I:Inv X pins M H s)(h:cp X.K H a xs)(h':cp X.K H a ys):xs=ys:=by
 obtain⟨ak,r,⟨o,n,e,_,_,d⟩,_⟩:=I.list h;obtain⟨its',r',⟨o',n',e',_,_,d'⟩,_⟩:=I.list h';rw[e]at e';cases e';rw[d]at d';injection d' with d1 _;have:ak=its':=by grind
 subst this;exact r.inj r'
theorem Inv.xg(I:Inv X pins M H s)(h:cE X.K H a xs)(h':cE X.K H a ys):xs=ys:=by
 obtain⟨ak,r,⟨o,e,_,n,d⟩,_⟩:=I.tuple h;obtain⟨its',r',⟨o',e',_,n',d'⟩,_⟩:=I.tuple h';rw[e]at e';cases e';rw[d]at d';injection d' with d1 _;have:ak=its':=by grind
 subst this;exact r.inj r'
end
abbrev Cx.jI(X:Cx)(E:Value->W4->Prop):Cx:={X with xe:=E}
abbrev Cx.fW(X:Cx):Cx:=X.jI λ_ _=>False
theorem Cx.Ok.jI(ok:X.Ok)(E:Value->W4->Prop):(X.jI E).Ok:=⟨ok.mod,ok.kind,ok.glob,ok.blt,ok.above,ok.inj,ok.has,ok.oJ,ok.hd,ok.frames,ok.tU,ok.tV,ok.bs,ok.kM,ok.qx,ok.qy,ok.iC,ok.m4⟩
theorem Cx.Ok.kP(ok:(X.jI E).Ok):X.Ok:=⟨ok.mod,ok.kind,ok.glob,ok.blt,ok.above,ok.inj,ok.has,ok.oJ,ok.hd,ok.frames,ok.tU,ok.tV,ok.bs,ok.kM,ok.qx,ok.qy,ok.iC,ok.m4⟩
section
variable{s:W4}
theorem Inv.jI(I:Inv X pins M H s)(E:Value->W4->Prop):Inv (X.jI E) pins M H s:=⟨I.ok.jI E,I.os,I.bare,I.base,I.loc,I.cell,I.free,I.iU,I.pin,I.aB,I.len⟩
theorem Inv.kP(I:Inv (X.jI E) pins M H s):Inv X pins M H s:=⟨I.ok.kP,I.os,I.bare,I.base,I.loc,I.cell,I.free,I.iU,I.pin,I.aB,I.len⟩
theorem SP.kP(h:SP (X.jI E) pins D f s'):SP X pins D f s':=by cases f with|next=>obtain⟨M',H',I,q⟩:=h;exact⟨M',H',I.kP,q⟩|brk=>obtain⟨M',H',I,q⟩:=h;exact⟨M',H',I.kP,q⟩|cont=>obtain⟨M',H',I,q⟩:=h;exact⟨M',H',I.kP,q⟩|ret u=>obtain⟨v,M',H',I,r,q⟩:=h;exact⟨v,M',H',I.kP,r,q⟩
theorem PE.fW(h:PE X.fW e t):PE X e t:=λpins s M H Q I hw=>Qy (h pins s M H Q (I.jI _) hw) (λ_ _⟨v,H',I',r,q⟩=>⟨v,H',I'.kP,r,q⟩) (by grind)
theorem dM.fW{st t}(h:dM X.fW st t):dM X st t:=λpins s M H D I hw=>Qy (h pins s M H D (I.jI _) hw) (λ_ _ q=>q.kP) (by grind)
end
section
variable{st:Stmt}{rest:List Stmt}{t u:TS}
def Nx:TS:=λD M H=>D.nx M H
def Ny(t u:TS):TS:=λD M H=>t {D with nx:=u D} M H
theorem Nz:dM X [] Nx:=λ_ _ M H _ I h=>wpAny_execs_nil ⟨M,H,I,h⟩
theorem NA(h1:PS X st t)(h2:dM X rest u):dM X (st::rest) (Ny t u):=by intro pins s M H D I h;refine wpAny_execs_cons (aM (h1 pins s M H {D with nx:=u D} I h) λf s1 q=>?_);cases f with|next=>obtain⟨M',H',I',q⟩:=q;exact h2 pins s1 M' H' D I' q|ret v=>exact q|brk=>exact q|cont=>exact q
theorem Cb(h1:PS X st t):dM X [st] t:=by intro pins s M H D I h;refine wpAny_execs_cons (aM (h1 pins s M H D I h) λf s1 q=>?_);cases f with|next=>exact wpAny_execs_nil q|ret v=>exact q|brk=>exact q|cont=>exact q
theorem Inv.quiet(I:Inv X pins M H s):interactive X.env=false:=#v[interactive,I.ok.kind]
def qB(te:TE):TS:=λD M H=>te M H λ_ H1=>D.nx M H1
theorem xh(he:PE X e te)(hs:J9 e none pos.line X.env=pure false:=by rfl):PS X (.Expr e pos) (qB te):=by intro pins s M H D I h;exact wpAny_Expr_any (aMc (he pins s M H _ I h) λv s1 x H1 I1 r1 q1=>⟨M,H1,I1,q1⟩) I.quiet hs
def NC(te:TE):TS:=λD M H=>te M H D.rt
theorem Cc(he:PE X e te):PS X (.Return (some e) pos) (NC te):=by intro pins s M H D I h;exact wpAny_Return_some (aMc (he pins s M H _ I h) λv s1 x H1 I1 r1 q1=>⟨x,M,H1,I1,r1,q1⟩)
def NF(c:TT)(t u:TS):TS:=λD M H=>c M H λb H1=>if b=true then t D M H1 else u D M H1
theorem NG(hc:PT X c tc)(ha:dM X a t)(hb:dM X b u):PS X (.If c a b pos) (NF tc t u):=by intro pins s M H D I h;refine wpAny_If (aM (hc pins s M H _ I h) λd s1⟨H1,I1,q1⟩=>?_);cases d with|true=>exact ha pins s1 M H1 D I1 q1|false=>exact hb pins s1 M H1 D I1 q1
def Cd:TS:=λ_ _ _=>False
theorem NH:PS X st Cd:=λ_ _ _ _ _ _ h=>h.elim
theorem NI:dM X t7 Cd:=λ_ _ _ _ _ _ h=>h.elim
end
abbrev TG:=V->St->Hp->(St->Hp->Prop)->Prop
abbrev l_:=List V->St->Hp->(St->Hp->Prop)->Prop
def PG(X:Cx)(target:Expr)(t:TG):Prop:=∀(pins:List (Addr×Obj))(s:W4)(M:St)(H:Hp)(v:V)(u:Value)(Q:St->Hp->Prop),Inv X pins M H s->RelV v u->t v M H Q->W7 (model X.prog X.w) X.A (assign target X.env u) (λ_ s'=>∃M' H',Inv X pins M' H' s'/\Q M' H') X.xe s
def iD(X:Cx)(ts:List Expr)(t:l_):Prop:=∀(pins:List (Addr×Obj))(s:W4)(M:St)(H:Hp)(vs:List V)(us:List Value)(Q:St->Hp->Prop),Inv X pins M H s->Vals vs us->t vs M H Q->W7 (model X.prog X.w) X.A (assignInOrder ((QI ts X.env).map (·.2)) us) (λ_ s'=>∃M' H',Inv X pins M' H' s'/\Q M' H') X.xe s
abbrev Ce:=V->V->V->Hp->(Hp->Prop)->Prop
def Cf(X:Cx)(t:Ce):Prop:=∀(pins:List (Addr×Obj))(s:W4)(M:St)(H:Hp)(o i v:V)(ov iv u:Value)(Q:Hp->Prop),Inv X pins M H s->RelV o ov->RelV i iv->RelV v u->t o i v H Q->W7 (model X.prog X.w) X.A (setItem ov iv u) (λ_ s'=>∃H',Inv X pins M H' s'/\Q H') X.xe s
def oK(i:Nat):TG:=λv M H Q=>Q (M.set i (some v)) H
theorem t8(hN:X.N.Nodup)(hi:X.N[i]?=some x)(hx:Loc X.env.scope x)(hf:X.fn x=true\/X.env.scope.names.lookup x=some .local:=by first|exact .inl rfl|exact .inr rfl|assumption):PG X (.Name x pos) (oK i):=by intro pins s M H v u Q I r h;exact wpAny_assign_Name (w_ I hN hi hx r (λs' I'=>⟨_,H,I',h⟩) hf)
def Cg:l_:=λvs M H Q=>vs=[]/\Q M H
def xi(t:TG)(u:l_):l_:=λvs M H Q=>∃v r,vs=v::r/\t v M H λM' H'=>u r M' H' Q
theorem xj:iD X [] Cg:=by intro pins s M H vs us Q I r h;obtain⟨e,h⟩:=h;subst e;cases r;exact assignInOrder_nil ⟨M,H,I,h⟩
theorem t_{u}(h1:PG X e t)(h2:iD X es u)(hs:(QI (e::es) X.env).map (·.2)=assign e X.env::(QI es X.env).map (·.2):=by rfl):iD X (e::es) (xi t u):=by intro pins s M H vs us Q I r h;obtain⟨v,vr,e1,h⟩:=h;subst e1;cases r with|cons r rr=>rw[hs];refine assignInOrder_cons (aM (h1 pins s M H _ _ _ I r h) λ_ s1 hh=>?_);obtain⟨Tm,H1,I1,q1⟩:=hh;exact h2 pins s1 Tm H1 _ _ Q I1 rr q1
def Ci(K:W5)(n:Nat)(t:l_):TG:=λv M H Q=>∃a xs,v=.ref a/\cE K H a xs/\xs.length=n/\t xs M H Q
theorem xk(hc:X.calm=true)(h:iD X es t)(hn:(QI es X.env).length=n:=by rfl)(bV:(QI es X.env).findIdx? (·.1)=none:=by rfl):PG X (.Tuple es k pos) (Ci X.K n t):=by intro pins s M H v u Q I r hw;obtain⟨a,xs,e1,hq,hl,hw⟩:=hw;subst e1;cases r;obtain⟨ak,rv,ht,hz⟩:=I.tuple hq;refine assign_Tuple_tuple (I.ok.hd hc) ht (by simp[hn,<-hl,rv.length]) bV λh' hx=>?_;have I1:Inv X pins M H {s with heap:=h'}:=I.kept (t':=s.toks) λb o e=>hx b o (WR (Wp e)) e;exact h pins _ M H xs _ Q I1 (~~~rv) hw
def NJ(to ti:TE)(t:Ce):TG:=λv M H Q=>to M H λo H1=>ti M H1 λi H2=>t o i v H2 λH3=>Q M H3
theorem NL{i}(ho:PE X o to)(hi:PE X i ti)(hs:Cf X t)(ha:∀v,assign (.Subscript o i pos) X.env v=(do
 let ov<-holding [v] (eval o X.env)let iv<-holding [v,ov] (eval i X.env)standAt pos
 holding [v,ov,iv] (setItem ov iv v)release [v,ov,iv] []):=by intro _;rfl):PG X (.Subscript o i pos) (NJ to ti t):=by intro pins s M H v u Q I r h;rw[ha];refine W0 (WI (aMc (ho pins s M H _ I h) λov s1 x H1 I1 r1 q1=>?_));refine W0 (WI (aMc (hi pins s1 M H1 _ I1 q1) λiv s2 y H2 I2 r2 q2=>?_));refine W0 (wpAny_standAt (W0 (WI (aM (hs pins s2 M H2 x y v ov iv u _ I2 r1 r2 r q2) λ_ s3⟨H3,I3,q3⟩=>?_))));exact wpAny_release ⟨M,H3,I3,q3⟩
def ua(te:TE)(g:TG):TS:=λD M H=>te M H λx H1=>g x M H1 D.nx
theorem Cj(he:PE X e te)(hg:PG X tg g)(hs:swapsWithSole [tg] e pos.line X.env=pure false:=by rfl)(hw:swappedStores [tg] e X.env=pure none:=by rfl)(h1:(QI [tg] X.env).map (·.2)=[assign tg X.env]:=by rfl):PS X (.Assign [tg] e pos) (ua te g):=by intro pins s M H D I h;refine wpAny_Assign_stores (aM (he pins s M H _ I h) λv s1 hh=>?_) hs hw;obtain⟨x,H1,I1,r1,q1⟩:=hh;rw[h1];exact aM (hg pins s1 M H1 x v _ I1 r1 q1) λ_ s2 q=>q
theorem Ck(hN:X.N.Nodup)(hi:X.N[i]?=some x)(hx:Loc X.env.scope x)(he:PE X e te)(hs:J9 e (some (.Name x pos')) pos.line X.env=pure false:=by rfl)(hf:X.fn x=true\/X.env.scope.names.lookup x=some .local:=by first|exact .inl rfl|exact .inr rfl|assumption):PS X (.Assign [.Name x pos'] e pos) (ua te (oK i)):=by intro pins s M H D I h;refine wpAny_Assign_Name (aM (he pins s M H _ I h) λv s1 hh=>?_) hs;obtain⟨y,H1,I1,r1,q1⟩:=hh;exact w_ I1 hN hi hx r1 (λs2 I2=>⟨_,H1,I2,q1⟩) hf
def Cm(c:TT)(tb:TS):TS:=λD M H=>∃W:Nat->St->Hp->Prop,(∃m,W m M H)/\∀m M H,W m M H->c M H λb H1=>if b=true then∃N:St->Hp->Prop,(∀M' H',N M' H'->∃m',m'<m/\W m' M' H')/\tb {D with nx:=N,ct:=N,bk:=D.nx} M H1 else D.nx M H1
theorem NM{tb}(hp:PassesOwn (model X.prog X.w) X.A X.env X.xe)(hc:PT X c tc)(hb:dM X body tb):PS X (.While c body [] pos) (Cm tc tb):=by intro pins s M H D I h;obtain⟨W,⟨m0,w0⟩,turn⟩:=h;refine wpAny_While (codeAny_whileLoop (λn s'=>∃M' H',Inv X pins M' H' s'/\W n M' H') ?_ m0 ⟨M,H,I,w0⟩);rintro n s1⟨Tm,H1,I1,w1⟩;refine Jn hp (aM (hc pins s1 Tm H1 _ I1 (turn n Tm H1 w1)) λb s2⟨H2,I2,q2⟩=>?_);cases b with
 |true=>obtain⟨N,hN,q2⟩:=q2;rw[if_pos rfl];refine Jn hp (aM (hb pins s2 Tm H2 _ I2 q2) λf s3 q3=>?_);cases f with|next=>obtain⟨TW,H3,I3,n3⟩:=q3;obtain⟨m',hm,w3⟩:=hN TW H3 n3;exact⟨m',hm,TW,H3,I3,w3⟩|cont=>obtain⟨TW,H3,I3,n3⟩:=q3;obtain⟨m',hm,w3⟩:=hN TW H3 n3;exact⟨m',hm,TW,H3,I3,w3⟩|brk=>exact q3|ret v=>exact q3
 |false=>rw[if_neg WD];exact wpAny_execs_nil ⟨Tm,H2,I2,q2⟩
structure It where
 go:Nat->Hp->Prop
 qC:Nat->Hp->V->Hp->Prop
 stop:Nat->Hp->Prop
def fX(X:Cx)(pins:List (Addr×Obj))(H:Hp)(b:Addr):Prop:=H b=none/\b≠X.env.locals/\b∉X.fs/\(b∈X.ex\/X.s₀.heap.objs.size<=b)/\(∀x c,X.env.cells.lookup x=some c->c≠b)/\∀p∈X.pn++pins,p.1≠b
theorem Inv.iY(I:Inv X pins M H s)(hb:s.heap.objs.size<=b)(hn:H' b=none):fX X pins H' b:=by
 refine⟨hn,Jj (WJ I.lt hb),I.M6 hb,.inr (Qe I.sz hb),λx c e z=>?_,λp hp z=>?_⟩;.obtain⟨v,q⟩:=I.cell x c e;exact absurd (WJ q.lt %[z|hb]) (Qh _)
 .exact absurd (WJ (Wp (I.pin p hp).1) %[z|hb]) (Qh _)
structure Turn(P:Wm)(w:Wv)(K:W5)(tg:Expr)(J:It)(fp:List Addr)(it:Addr)(tn:Nat->Heap->Prop):Prop where
 mem:it∈fp
 obj:∀i h,tn i h->∀b∈fp,∃o,h.get? b=some o/\∀v,o.data≠.cell v
 keep:∀i h h',tn i h->(∀b∈fp,∀o,h.get? b=some o->h'.get? b=some o)->tn i h'
 item:∀(X:Cx),X.prog=P->X.w=w->X.K=K->X.calm=true->∀(i:Nat)(pins:List (Addr×Obj))(s:W4)(M:St)(H:Hp)(E:Value->W4->Prop),Inv X pins M H s->(∀b∈fp,fX X pins H b)->tn i s.heap->J.go i H->W7 (model P w) X.A (QF (.ref it)) (λr s1=>∃u,r=some u/\W7 (model P w) X.A (JM tg (.ref it) u) (λ_ s2=>∃x H',Inv X pins M H' s2/\RelV x u/\J.qC i H x H'/\tn (i+1) s2.heap/\∀b∈fp,H' b=none) E s1) E s
 done:∀(X:Cx),X.prog=P->X.w=w->X.K=K->X.calm=true->∀(i:Nat)(pins:List (Addr×Obj))(s:W4)(M:St)(H:Hp)(E:Value->W4->Prop),Inv X pins M H s->(∀b∈fp,fX X pins H b)->tn i s.heap->J.stop i H->W7 (model P w) X.A (QF (.ref it)) (λr s1=>r=none/\Inv X pins M H s1) E s
 self:∀(A:Wt)(i:Nat)(s:W4)(Q:Value->W4->Prop)(E:Value->W4->Prop),tn i s.heap->Q (.ref it) s->W7 (model P w) A (pyIter (.ref it)) Q E s
abbrev TI:=St->Hp->(It->Hp->Prop)->Prop
def Cn(X:Cx)(pins:List (Addr×Obj))(M:St)(tg:Expr)(R:It->Hp->Prop)(ub:Value)(s2:W4):Prop:=∃(it:Addr)(fp:List Addr)(tn:Nat->Heap->Prop)(J:It)(H':Hp),ub=.ref it/\Inv X pins M H' s2/\Turn X.prog X.w X.K tg J fp it tn/\tn 0 s2.heap/\(∀b∈fp,fX X pins H' b)/\R J H'
def PI(X:Cx)(tg iter:Expr)(wi:TI):Prop:=∀(pins:List (Addr×Obj))(s:W4)(M:St)(H:Hp)(R:It->Hp->Prop),Inv X pins M H s->wi M H R->W7 (model X.prog X.w) X.A (eval iter X.env) (λv s1=>W7 (model X.prog X.w) X.A (pyIter v) (Cn X pins M tg R) X.xe s1) X.xe s
theorem qD{n Q vs}(ho:s.heap.get? it=some o)(hc:o.cls=.type n)(hd:o.data=.fields vs)(hn:["enumerate","zip","dict_itemiterator","dict_reverseitemiterator","odict_iterator","itertools.zip_longest","itertools.pairwise"].contains n=false)(hQ:Q () s):W7 zj A (JM tg (.ref it) u) Q E s:=by unfold JM;cases tg<;>first|exact W3 hQ|(cases u<;>first|exact W3 hQ|(refine W0 (wpAny_load ho ?_);rw[hc,hd];show W7 zj A (if(["enumerate","zip","dict_itemiterator","dict_reverseitemiterator","odict_iterator","itertools.zip_longest","itertools.pairwise"].contains n&&vs[0]?==some (Q6 _))=true then _ else _) Q E s;rw[if_neg (by intro h;rw[hn,Bool.false_and]at h;cases h)];exact W3 hQ))
def uc(K:W5)(a:Addr):It:=⟨λi H=>∃xs x,cp K H a xs/\xs[i]?=some x,λi H x H'=>H'=H/\∀xs,cp K H a xs->xs[i]?=some x,λi H=>∃xs,cp K H a xs/\xs.length<=i⟩
def ud(K:W5)(a:Addr):It:=⟨λi H=>∃xs x,cE K H a xs/\xs[i]?=some x,λi H x H'=>H'=H/\∀xs,cE K H a xs->xs[i]?=some x,λi H=>∃xs,cE K H a xs/\xs.length<=i⟩
def ue(lo:Int)(n:Nat):It:=⟨λi _=>i<n,λi H x H'=>H'=H/\x=.int (lo+i),λi _=>n<=i⟩
theorem NO(a it):Turn P w K tg (uc K a) [it] it λi h=>h.IsListIter it a i where
 mem:=by simp
 obj:=λi h st b hb=>by have e:b=it:= ~~~hb;subst e;obtain⟨o,e,c,d⟩:=st;exact⟨o,e,λv z=>by rw[d]at z;cases z⟩
 keep:=λi h h' st k=>st.at λo e=>k it U' o e
 item:=by intro X hP hw hK hc i pins s M H E I hf st hg;subst hP hw hK;obtain⟨xs,x,hq,hx⟩:=hg;obtain⟨ak,rv,p,hz⟩:=I.list hq;obtain⟨u,hu,ru⟩:=rv.get hx;obtain⟨f0,f1,f2,f3,f4,f5⟩:=hf it U';refine wpAny_pyNext_list_item st p.isList (x:=u) (~~~hu) λh' cq sb=>?_;have I1:Inv X pins M H {s with heap:=h'}:=I.turned (t':=s.toks) (λb o hb e=>(sb.2 b hb).trans e) f0 f1 f3 f4 f5;obtain⟨o,e,c,d⟩:=id cq;exact⟨u,rfl,qD (s:={s with heap:=h'}) e c d Z' ⟨x,H,I1,ru,⟨rfl,λys hy=>%[I.xf hy hq|hx]⟩,cq,λb hb=>(hf b hb).1⟩⟩
 done:=by intro X hP hw hK hc i pins s M H E I hf st hg;subst hP hw hK;obtain⟨xs,hq,hx⟩:=hg;obtain⟨ak,rv,p,hz⟩:=I.list hq;obtain⟨f0,f1,f2,f3,f4,f5⟩:=hf it U';have hl:=rv.length;exact wpAny_pyNext_list_end (I.ok.hd hc) st p.isList V' λh' eb=>⟨rfl,I.turned (t':=s.toks) (λb o hb e=>eb b o hb e) f0 f1 f3 f4 f5⟩
 self:=λ_ _ _ _ _ st h=>wpAny_pyIter_listiter st h
theorem NP(a it):Turn P w K tg (ud K a) [it] it λi h=>h.IsTupleIter it a i where
 mem:=by simp
 obj:=λi h st b hb=>by have e:b=it:= ~~~hb;subst e;obtain⟨o,e,c,d⟩:=st;exact⟨o,e,λv z=>by rw[d]at z;cases z⟩
 keep:=λi h h' st k=>st.at λo e=>k it U' o e
 item:=by intro X hP hw hK hc i pins s M H E I hf st hg;subst hP hw hK;obtain⟨xs,x,hq,hx⟩:=hg;obtain⟨ak,rv,p,hz⟩:=I.tuple hq;obtain⟨u,hu,ru⟩:=rv.get hx;obtain⟨f0,f1,f2,f3,f4,f5⟩:=hf it U';refine wpAny_pyNext_tuple_item st (show s.heap.IsTuple a ak.toArray from p) (x:=u) (~~~hu) λh' cq sb=>?_;have I1:Inv X pins M H {s with heap:=h'}:=I.turned (t':=s.toks) (λb o hb e=>(sb.2 b hb).trans e) f0 f1 f3 f4 f5;obtain⟨o,e,c,d⟩:=id cq;exact⟨u,rfl,qD (s:={s with heap:=h'}) e c d Z' ⟨x,H,I1,ru,⟨rfl,λys hy=>%[I.xg hy hq|hx]⟩,cq,λb hb=>(hf b hb).1⟩⟩
 done:=by intro X hP hw hK hc i pins s M H E I hf st hg;subst hP hw hK;obtain⟨xs,hq,hx⟩:=hg;obtain⟨ak,rv,p,hz⟩:=I.tuple hq;obtain⟨f0,f1,f2,f3,f4,f5⟩:=hf it U';have hl:=rv.length;exact wpAny_pyNext_tuple_end (I.ok.hd hc) st (show s.heap.IsTuple a ak.toArray from p) V' λh' eb=>⟨rfl,I.turned (t':=s.toks) (λb o hb e=>eb b o hb e) f0 f1 f3 f4 f5⟩
 self:=λ_ _ _ _ _ st h=>wpAny_pyIter_tupleiter st h
theorem NQ(it)(lo:Int)(n:Nat):Turn P w K tg (ue lo n) [it] it λi h=>IsRangeIter h it (lo+(i:Nat)*1) ((n:Int)-(i:Nat)) 1where
 mem:=by simp
 obj:=λi h st b hb=>by have e:b=it:= ~~~hb;subst e;exact⟨_,st,λv z=>by have z':Data.fields _=Data.cell v:=z;cases z'⟩
 keep:=λi h h' st k=>k it U' _ st
 item:=by intro X hP hw hK hc i pins s M H E I hf st hg;subst hP hw hK;obtain⟨f0,f1,f2,f3,f4,f5⟩:=hf it U';have W:=Walks.range (prog:=X.prog) (w:=X.w) (I.ok.hd hc) it lo 1 n;refine W.item i s _ _ hg st λv h' tk hv cq kk=>?_;obtain⟨t,rfl⟩:=hv;have I1:Inv X pins M H {s with heap:=h',toks:=tk}:=I.turned (λb o hb e=>kk b o (~~~hb) e) f0 f1 f3 f4 f5;refine⟨_,rfl,qD (s:={s with heap:=h',toks:=tk}) (n:="range_iterator") cq rfl rfl Z' ⟨.int (lo+i),H,I1,⟨t,?_⟩,⟨rfl,rfl⟩,cq,λb hb=>(hf b hb).1⟩⟩;rw[Int.mul_one]
 done:=by intro X hP hw hK hc i pins s M H E I hf st hg;subst hP hw hK;obtain⟨f0,f1,f2,f3,f4,f5⟩:=hf it U';exact wpAny_pyNext_range_end (I.ok.hd hc) st (by have:n<=i:=hg;lia) λh' eb=>⟨rfl,I.turned (t':=s.toks) (λb o hb e=>eb b o hb e) f0 f1 f3 f4 f5⟩
 self:=λ_ _ _ _ _ st h=>wpAny_pyIter_rangeiter st h
theorem NS{s:W4}{R:It->Hp->Prop}{lo hi:Int}{t u v}{tk:Nat}(I:Inv X pins M H s)(h1:-2^62<=lo)(h2:lo<2^62)(h3:-2^62<=hi)(h4:hi<2^62)(q:R (ue lo (hi-lo).toNat) H):W7 (model X.prog X.w) X.A (pyIter (.ref s.heap.objs.size)) (Cn X pins M tg R) E {s with heap:=s.heap.push {cls:=.type "range",data:=.fields #[.int lo t,.int hi u,.int 1 v]},toks:=tk}:=by
 refine wpAny_pyIter_range (IsRange.new ..) (small_one h1 h2 h3 h4) ?_;have I1:Inv X pins M H {s with heap:=s.heap.push {cls:=.type "range",data:=.fields #[.int lo t,.int hi u,.int 1 v]},toks:=tk}:=I.kept λb o e=>W6 _ e;refine⟨(s.heap.push {cls:=.type "range",data:=.fields #[.int lo t,.int hi u,.int 1 v]}).objs.size,[(s.heap.push {cls:=.type "range",data:=.fields #[.int lo t,.int hi u,.int 1 v]}).objs.size],_,_,H,rfl,I1.kept (t':=tk) λb o e=>W6 _ e,NQ _ lo (hi-lo).toNat,?_,λb hb=>?_,q⟩
 .have e1:lo+((0:Nat):Int)*1=lo:=by simp
  have e2:(((hi-lo).toNat:Nat):Int)-((0:Nat):Int)=Builtin.Range.rangeSize lo hi 1:=by rw[rangeSize_one];split<;>lia
  show IsRangeIter _ _ (lo+((0:Nat):Int)*1) ((((hi-lo).toNat:Nat):Int)-((0:Nat):Int)) 1;rw[e1,e2];exact Wh _ rfl
 .have e:b=(s.heap.push {cls:=.type "range",data:=.fields #[.int lo t,.int hi u,.int 1 v]}).objs.size:=by grind
  subst e;exact I1.iY (Wg _) (I1.aB.fresh (Wg _))
def NT(ta:TA):TI:=λM H R=>ta M H λvs H1=>∃j:Int,vs=[.int j]/\-2^62<=j/\j<2^62/\R (ue 0 j.toNat) H1
theorem NU{a ta p pos}(hg:Gl X "range")(hm:X.mg "range"=none)(ha:PA X [a] ta)(hs:We [a] X.env=[(false,eval a X.env)]:=by rfl):PI X tg (.Call (.Name "range" p) [a] [] pos) (NT ta):=by intro pins s M H R I h;refine Call_ (l9 I hg hm boot_range (QG (aM (ha pos pins s M H _ I h) λus s1 hh=>?_) hs rfl));obtain⟨vs,H1,I1,r1,q1⟩:=hh;obtain⟨j,e,q1,q2,q⟩:=q1;subst e;cases r1 with|cons r rr=>cases rr;obtain⟨t,rfl⟩:=r;exact call_range_1 (NS I1 Y' Y' q1 q2 (~~~q))
def NV(wi:TI)(g:TG)(tb:TS):TS:=λD M H=>wi M H λJ H1=>∃W:Nat->Nat->St->Hp->Prop,(∃m,W 0 m M H1)/\∀i m M H,W i m M H->J.stop i H/\D.nx M H\/J.go i H/\∃N:St->Hp->Prop,(∀M' H',N M' H'->∃m',m'<m/\W (i+1) m' M' H')/\∀x H',J.qC i H x H'->g x M H' λT' H2=>tb {D with nx:=N,ct:=N,bk:=D.nx} T' H2
def qE(fp:List Addr)(h:Heap):List (Addr×Obj):=fp.filterMap λb=>(h.get? b).map λo=>(b,o)
theorem uf(hb:b∈fp)(e:h.get? b=some o):(b,o)∈qE fp h:=List.mem_filterMap.mpr ⟨b,hb,by rw[e];rfl⟩
theorem NW(hp:p∈qE fp h):p.1∈fp/\h.get? p.1=some p.2:=by obtain⟨b,hb,e⟩:=List.mem_filterMap.mp hp;cases q:h.get? b<;>grind
theorem Inv.pinned(I:Inv X pins M H s)(hf:∀b∈fp,fX X pins H b)(ho:∀b∈fp,∃o,s.heap.get? b=some o/\∀v,o.data≠.cell v):Inv X (pins++qE fp s.heap) M H s:=I.B5 λp hp=>(WZ.mp hp).elim (λz=>I.pin p (Qa _ z)) λz=>by obtain⟨hb,e⟩:=NW z;obtain⟨f0,f1,f2,_⟩:=hf p.1 hb;obtain⟨o,e',d⟩:=ho p.1 hb;rw[e]at e';cases e';exact⟨e,f0,f1,f2,d⟩
theorem Inv.ug(I:Inv X (pins++pl) M H s):Inv X pins M H s:=I.B5 λp hp=>I.pin p (Qa _ (Jv _ hp))
theorem Co{tb}(hp:PassesOwn (model X.prog X.w) X.A X.env X.xe)(hc:X.calm=true)(hi:PI X tg iter wi)(hg:PG X tg g)(hb:dM X body tb)(hs:∀x,J7 iter X.env x=pure x:=by intro _;rfl):PS X (.For tg iter body [] pos) (NV wi g tb):=by
 intro pins s M H D I h;refine wpAny_For (aM (hi pins s M H _ I h) λv s1 h1=>aM h1 λub s2 h2=>?_) hs;obtain⟨it,fp,tn,J,H2,e,I2,T,st2,f2,W,⟨m0,w0⟩,turn⟩:=h2;subst e;have xl:∀{H':Hp},(∀b∈fp,H' b=none)->∀b∈fp,fX X pins H' b:=λhn b hb=>⟨hn b hb,(f2 b hb).2⟩;refine codeAny_forLoop_any (λn s'=>∃i M' H',Inv X pins M' H' s'/\tn i s'.heap/\(∀b∈fp,H' b=none)/\W i n M' H') ?_ m0 ⟨0,M,H2,I2,st2,λb hb=>(f2 b hb).1,w0⟩;rintro n s3⟨i,TW,H3,I3,ma,fr3,w3⟩;rcases turn i n TW H3 w3 with⟨stop,qn⟩|⟨go,N,hN,step⟩;.refine Jn hp (aM (T.done X rfl rfl rfl hc i pins s3 TW H3 X.xe I3 (xl fr3) ma stop) λr s4⟨hr,I4⟩=>?_);subst hr;exact wpAny_execs_nil ⟨TW,H3,I4,qn⟩
 .refine Jn hp (aM (T.item X rfl rfl rfl hc i pins s3 TW H3 X.xe I3 (xl fr3) ma go) λr s4⟨u,hr,h4⟩=>?_);subst hr;refine Jn hp (aM h4 λ_ s5 hh=>?_);obtain⟨x,H5,I5,r5,y5,st5,fr5⟩:=hh;have NX:=I5.pinned (xl fr5) (T.obj _ _ st5);refine Jn hp (aM (hg _ s5 TW H5 x u _ NX r5 (step x H5 y5)) λ_ s6 hh=>?_);obtain⟨SL,H6,I6,q6⟩:=hh;refine Jn hp (aM (hb _ s6 SL H6 _ I6 q6) λf s7 q7=>?_);have again:∀{Tl:St}{H7:Hp},Inv X (pins++qE fp s5.heap) Tl H7 s7->N Tl H7->∃m,m<n/\∃i M' H',Inv X pins M' H' s7/\tn i s7.heap/\(∀b∈fp,H' b=none)/\W i m M' H':=λ{Tl H7}I7 n7=>by obtain⟨m',hm,w7⟩:=hN Tl H7 n7;refine⟨m',hm,i+1,Tl,H7,I7.ug,T.keep _ _ _ st5 λb hb o e=>(I7.pin (b,o) (Qa _ (Qa _ (uf hb e)))).1,λb hb=>?_,w7⟩;obtain⟨o,e,d⟩:=T.obj _ _ st5 b hb;exact(I7.pin (b,o) (Qa _ (Qa _ (uf hb e)))).2.1
  cases f with|next=>obtain⟨Tl,H7,I7,n7⟩:=q7;exact again I7 n7|cont=>obtain⟨Tl,H7,I7,n7⟩:=q7;exact again I7 n7|brk=>obtain⟨Tl,H7,I7,q7⟩:=q7;exact⟨Tl,H7,I7.ug,q7⟩|ret v=>obtain⟨x7,Tl,H7,I7,r7,q7⟩:=q7;exact⟨x7,Tl,H7,I7.ug,r7,q7⟩
abbrev R2:=V->V->Hp->VK->Prop
variable{r':R2}
def bD(X:Cx)(f:Value->Value->Sem Value)(r:R2):Prop:=∀(pins:List (Addr×Obj))(s:W4)(M:St)(H:Hp)(x y:V)(v u:Value)(Q:VK),Inv X pins M H s->RelV x v->RelV y u->r x y H Q->W7 (model X.prog X.w) X.A (f v u) (EP X pins M Q) X.xe s
def xm(X:Cx)(f:Value->Sem Value)(r:V->Hp->VK->Prop):Prop:=∀(pins:List (Addr×Obj))(s:W4)(M:St)(H:Hp)(x:V)(v:Value)(Q:VK),Inv X pins M H s->RelV x v->r x H Q->W7 (model X.prog X.w) X.A (f v) (EP X pins M Q) X.xe s
def eF(X:Cx)(f:Value)(r:List V->Hp->VK->Prop):Prop:=∀(pins:List (Addr×Obj))(s:W4)(M:St)(H:Hp)(xs:List V)(us:List Value)(Q:VK),Inv X pins M H s->Vals xs us->r xs H Q->W7 (model X.prog X.w) X.A (call f us) (EP X pins M Q) X.xe s
def m7(r:R2)(ta tb:TE):TE:=λM H Q=>ta M H λx H1=>tb M H1 λy H2=>r x y H2 Q
def xo(r:V->Hp->VK->Prop)(ta:TE):TE:=λM H Q=>ta M H λx H1=>r x H1 Q
def rI(C:Int->Int->Prop)(g:Int->Int->V):R2:=λx y H Q=>∃i j,x=.int i/\y=.int j/\C i j/\Q (g i j) H
def iZ(g:Int->Int->V):R2:=λx y H Q=>∃i j,x=.int i/\y=.int j/\Q (g i j) H
def rU(g:Int->V):V->Hp->VK->Prop:=λx H Q=>∃i,x=.int i/\Q (g i) H
section
variable{a b c:Expr}{tc:TE}
theorem xp(ha:PE X a ta)(hb:PE X b tb){s}{R:V->V->Hp->Prop}(I:Inv X pins M H s)(h:ta M H λx H1=>tb M H1 λy H2=>R x y H2){f:Value->Value->Sem Value}(hf:∀v u s2 x y H2,Inv X pins M H2 s2->RelV x v->RelV y u->R x y H2->W7 (model X.prog X.w) X.A (f v u) Q X.xe s2):W7 (model X.prog X.w) X.A (eval a X.env) (λv s₁=>W7 (model X.prog X.w) X.A (eval b X.env) (λu s₂=>W7 (model X.prog X.w) X.A (f v u) Q X.xe s₂) X.xe s₁) X.xe s:=by refine aMc (ha pins s M H _ I h) λv s1 x H1 I1 r1 q1=>?_;refine aM (hb pins s1 M H1 _ I1 q1) λu s2 hh=>?_;obtain⟨y,H2,I2,r2,q2⟩:=hh;exact hf v u s2 x y H2 I2 r1 r2 q2
theorem Cp{op r}(ho:bD X (QY op) r)(ha:PE X a ta)(hb:PE X b tb):PE X (.BinOp a op b pos) (m7 r ta tb):=by intro pins s M H Q I h;exact wpAny_BinOp (xp ha hb I h λv u s2 x y H2 I2 rx ry q=>ho pins s2 M H2 x y v u Q I2 rx ry q)
theorem Cq{op}(ho:xm X (unaryOp op) r)(ha:PE X a ta):PE X (.UnaryOp op a pos) (xo r ta):=by intro pins s M H Q I h;exact UnaryOp_ (aMc (ha pins s M H _ I h) λv s1 x H1 I1 r1 q1=>ho pins s1 M H1 x v Q I1 r1 q1)
theorem uh{f:Value->Value->Sem Value}{C:Int->Int->Prop}{g:Int->Int->Int}(rule:∀(i j:Int)t u (s:W4)(Q:Value->W4->Prop)(E:Value->W4->Prop),C i j->Q (.int (g i j) s.toks) {s with toks:=s.toks+1}->W7 (model X.prog X.w) X.A (f (.int i t) (.int j u)) Q E s):bD X f (rI C λi j=>.int (g i j)):=by intro pins s M H x y v u Q I rx ry h;obtain⟨i,j,rfl,rfl,hc,q⟩:=h;obtain⟨t,rfl⟩:=rx;obtain⟨t',rfl⟩:=ry;exact rule i j t t' s _ _ hc ⟨.int (g i j),H,I.tok _,⟨_,rfl⟩,q⟩
theorem Cr{f:Value->Value->Sem Value}{g:Int->Int->Int}(rule:∀(i j:Int)t u (s:W4)(Q:Value->W4->Prop)(E:Value->W4->Prop),Q (.int (g i j) s.toks) {s with toks:=s.toks+1}->W7 (model X.prog X.w) X.A (f (.int i t) (.int j u)) Q E s):bD X f (iZ λi j=>.int (g i j)):=by intro pins s M H x y v u Q I rx ry h;obtain⟨i,j,rfl,rfl,q⟩:=h;obtain⟨t,rfl⟩:=rx;obtain⟨t',rfl⟩:=ry;exact rule i j t t' s _ _ ⟨.int (g i j),H,I.tok _,⟨_,rfl⟩,q⟩
theorem oM{f:Value->Value->Sem Value}{g:Int->Int->Bool}(rule:∀(i j:Int)t u s (Q:Value->W4->Prop)(E:Value->W4->Prop),Q (.bool (g i j)) s->W7 (model X.prog X.w) X.A (f (.int i t) (.int j u)) Q E s):bD X f (iZ λi j=>.bl (g i j)):=by intro pins s M H x y v u Q I rx ry h;obtain⟨i,j,rfl,rfl,q⟩:=h;obtain⟨t,rfl⟩:=rx;obtain⟨t',rfl⟩:=ry;exact rule i j t t' s _ _ ⟨.bl (g i j),H,I,rfl,q⟩
def Cs(i j:Int):Prop:=0<j/\j<1073741824
def Ct(i j:Int):Prop:=0<=j/\j<=1000000/\i.natAbs<2^64
def qF(i j:Int):Prop:=-2^64<i/\i<2^64\/-2^64<j/\j<2^64
theorem qF.ok{i j}(h:qF i j):IntMulOk i j:=by
 rcases h with⟨h1,h2⟩|⟨h1,h2⟩;.exact .of_left (intBits_le_64 h1 h2)
 .exact .of_right (intBits_le_64 h1 h2)
theorem NY:bD X (QY .Add) (iZ λi j=>.int (i+j)):=Cr λ_ _ _ _ _ _ _ q=>add_int q
theorem NZ:bD X (QY .Sub) (iZ λi j=>.int (i-j)):=Cr λ_ _ _ _ _ _ _ q=>sub_int q
theorem N0:bD X (QY .Mult) (rI qF λi j=>.int (i*j)):=uh λ_ _ _ _ _ _ _ hc q=>mul_int q hc.ok
theorem N1:bD X (QY .FloorDiv) (rI Cs λi j=>.int (i/j)):=uh λi j _ _ _ _ _ hc q=>by have h1:(0:Int)<j:=hc.1;have h2:j<1073741824:=hc.2;exact floordiv_int Y' %[Int.fdiv_eq_ediv_of_nonneg i Y'|q] (.inl (PyProof.noPylong_small Y'))
theorem Cu:bD X (QY .Mod) (rI (λ_ j=>0<j) λi j=>.int (i%j)):=uh λi j _ _ _ _ _ hc q=>by have h1:(0:Int)<j:=hc;exact mod_int' Y' %[Int.fmod_eq_emod_of_nonneg i Y'|q]
theorem N2:bD X (QY .Pow) (rI Ct λi j=>.int (i^j.toNat)):=uh λ_ _ _ _ _ _ _ hc q=>pow_int_small hc.1 hc.2.1 hc.2.2 q
theorem N3{f:Value->Sem Value}{g:Int->Int}(rule:∀(i:Int)t (s:W4)(Q:Value->W4->Prop)(E:Value->W4->Prop),Q (.int (g i) s.toks) {s with toks:=s.toks+1}->W7 (model X.prog X.w) X.A (f (.int i t)) Q E s):xm X f (rU λi=>.int (g i)):=by intro pins s M H x v Q I rx h;obtain⟨i,rfl,q⟩:=h;obtain⟨t,rfl⟩:=rx;exact rule i t s _ _ ⟨.int (g i),H,I.tok _,⟨_,rfl⟩,q⟩
theorem Cw:xm X (unaryOp .USub) (rU λi=>.int (-i)):=N3 λ_ _ _ _ _ q=>neg_int q
theorem qG{Q}(I:Inv X pins M H s)(q:Q (.bl k) H)(e:k=k'):EP X pins M Q (.bool k') s:=by subst e;exact⟨.bl k,H,I,rfl,q⟩
theorem N4:bD X (WF .Lt) (iZ λi j=>.bl (decide (i<j))):=oM λ_ _ _ _ _ _ _ q=>lt_int q
theorem N5:bD X (WF .LtE) (iZ λi j=>.bl (decide (i<=j))):=oM λ_ _ _ _ _ _ _ q=>le_int q
theorem N6:bD X (WF .Gt) (iZ λi j=>.bl (decide (j<i))):=oM λ_ _ _ _ _ _ _ q=>gt_int q
theorem N7:bD X (WF .GtE) (iZ λi j=>.bl (decide (j<=i))):=oM λ_ _ _ _ _ _ _ q=>ge_int q
theorem N8:bD X (WF .Lt) λx y H Q=>∃i j,x=.str i/\y=.str j/\Q (.bl (decide (i.cps.toList<j.cps.toList))) H:=by intro pins s M H x y v u Q I rx ry h;obtain⟨i,j,rfl,rfl,q⟩:=h;obtain⟨t,rfl⟩:=rx;obtain⟨t',rfl⟩:=ry;exact lt_str (qG I q rfl)
theorem N9:bD X (WF .Is) λx y H Q=>y=.aJ/\Q (.bl (decide (x=.aJ))) H:=by intro pins s M H x y v u Q I rx ry h;obtain⟨rfl,q⟩:=h;cases ry;refine is_none_gen (qG I q ?_);cases x<;>first|(cases rx;rfl)|(obtain⟨t,rfl⟩:=rx;rfl)
theorem N_:bD X (WF .NotIn) λx y H Q=>∃i j,x=.str i/\y=.str j/\Q (.bl !!(Builtin.Str.occurrences j i 0 j.length 1).isEmpty) H:=by intro pins s M H x y v u Q I rx ry h;obtain⟨i,j,rfl,rfl,q⟩:=h;obtain⟨t,rfl⟩:=rx;obtain⟨t',rfl⟩:=ry;exact notIn_str (qG I q rfl)
theorem bD.or(h:bD X f r)(h':bD X f r'):bD X f λx y H Q=>r x y H Q\/r' x y H Q:=by
 intro pins s M H x y v u Q I rx ry q;rcases q with q|q;.exact h pins s M H x y v u Q I rx ry q
 .exact h' pins s M H x y v u Q I rx ry q
theorem Cy{r}(ho:bD X (WF op) r)(ha:PE X a ta)(hb:PE X b tb)(hm:J8 op b=false):PE X (.Compare a [op] [b] pos) (m7 r ta tb):=by intro pins s M H Q I h;exact wpAny_Compare1 (xp ha hb I h λv u s2 x y H2 I2 rx ry q=>ho pins s2 M H2 x y v u Q I2 rx ry q) hm
def Cz(t:TE):TT:=λM H Q=>t M H λx H'=>∃k,x=.bl k/\Q k H'
theorem CA(ho:bD X (WF op) r)(ha:PE X a ta)(hb:PE X b tb)(hm:J8 op b=false):PT X (.Compare a [op] [b] pos) (Cz (m7 r ta tb)):=by intro pins s M H Q I h;refine wpAny_isTrue_Compare1 (aMc (ha pins s M H _ I h) λv s1 x H1 I1 r1 q1=>aMc (hb pins s1 M H1 _ I1 q1) λu s2 y H2 I2 r2 q2=>aM (ho pins s2 M H2 x y v u _ I2 r1 r2 q2) λc s3 hh=>?_) hm;obtain⟨z,H3,I3,r3,k,e,q3⟩:=hh;subst e;cases r3;exact Ql ⟨H3,I3,q3⟩
def xq(r r':R2)(ta tb tc:TE):TE:=λM H Q=>ta M H λx H1=>tb M H1 λy H2=>r x y H2 λz H3=>∃k,z=.bl k/\if k=true then tc M H3 λw' H4=>r' y w' H4 Q else Q (.bl false) H3
theorem Oa(ho:bD X (WF op) r)(h9:bD X (WF iE) r')(ha:PE X a ta)(hb:PE X b tb)(hc:PE X c tc)(hm:lastMarks [op,iE] [b,c]=false:=by with_unfolding_all rfl):PE X (.Compare a [op,iE] [b,c] pos) (xq r r' ta tb tc):=by intro pins s M H Q I h;refine Compare_chain (aMc (ha pins s M H _ I h) λv s1 x H1 I1 r1 q1=>chain_link (aMc (hb pins s1 M H1 _ I1 q1) λu s2 y H2 I2 r2 q2=>aM (ho pins s2 M H2 x y v u _ I2 r1 r2 q2) λd s3 hh=>?_)) hm;obtain⟨z,H3,I3,r3,k,e,q3⟩:=hh;subst e;cases r3;refine Ql ?_;cases k with|false=>exact ite_ff ⟨.bl false,H3,I3,rfl,q3⟩|true=>exact ite_tt (chain_last (aMc (hc pins s3 M H3 _ I3 q3) λw' s4 z' H4 I4 r4 q4=>h9 pins s4 M H4 y z' u w' Q I4 r2 r4 q4))
theorem Ob(ho:bD X (WF op) r)(h9:bD X (WF iE) r')(ha:PE X a ta)(hb:PE X b tb)(hc:PE X c tc)(hm:lastMarks [op,iE] [b,c]=false:=by with_unfolding_all rfl):PT X (.Compare a [op,iE] [b,c] pos) (Cz (xq r r' ta tb tc)):=by intro pins s M H Q I h;refine isTrue_chain (aMc (ha pins s M H _ I h) λv s1 x H1 I1 r1 q1=>test_link (aMc (hb pins s1 M H1 _ I1 q1) λu s2 y H2 I2 r2 q2=>aM (ho pins s2 M H2 x y v u _ I2 r1 r2 q2) λd s3 hh=>?_)) hm;obtain⟨z,H3,I3,r3,k,e,q3⟩:=hh;subst e;cases r3;refine Ql ?_;cases k with|false=>obtain⟨k',e',q'⟩:=q3;cases e';exact ite_ff ⟨H3,I3,q'⟩|true=>refine ite_tt (test_last (aMc (hc pins s3 M H3 _ I3 q3) λw' s4 z' H4 I4 r4 q4=>aM (h9 pins s4 M H4 y z' u w' _ I4 r2 r4 q4) λd' s5 hh=>?_));obtain⟨z2,H5,I5,r5,k2,e2,q5⟩:=hh;subst e2;cases r5;exact Ql ⟨H5,I5,q5⟩
theorem oN:(Wb:Nat)<2^63:=by rw[QK];decide
theorem Oc:bD X (QY .Add) λx y H Q=>∃i j,x=.str i/\y=.str j/\i.length+j.length<=Wb/\Q (.str (i++j)) H:=by intro pins s M H x y v u Q I rx ry h;obtain⟨i,j,rfl,rfl,hz,q⟩:=h;obtain⟨t,rfl⟩:=rx;obtain⟨t',rfl⟩:=ry;exact add_str (λt' tk=>⟨.str (i++j),H,I.tok _,⟨_,rfl⟩,q⟩) hz
theorem gI{x}(r:Vals [x] us):∃u,us=[u]/\RelV x u:=by cases r with|cons r1 r2=>cases r2;exact⟨_,rfl,r1⟩
theorem CB{x}(r:Vals [x,y] us):∃u w',us=[u,w']/\RelV x u/\RelV y w':=by cases r with|cons r1 r2=>cases r2 with|cons r3 r4=>cases r4;exact⟨_,_,rfl,r1,r3⟩
theorem Od(hc:X.calm=true):eF X (.builtin "max") λxs H Q=>∃i j,xs=[.int i,.int j]/\Q (.int (if j>i then j else i)) H:=by
 intro pins s M H xs us Q I r h;obtain⟨i,j,rfl,q⟩:=h;obtain⟨u,w',rfl,⟨t,rfl⟩,⟨t',rfl⟩⟩:=CB r;refine max_two_ints (I.ok.hd hc) λh' tk k=>⟨_,H,I.kept k,?_,q⟩;by_cases hj:j>i;.rw[if_pos hj,if_pos hj];exact⟨_,rfl⟩
 .rw[if_neg hj,if_neg hj];exact⟨_,rfl⟩
theorem Oe:eF X (.type "int") λxs H Q=>(∃i,xs=[.int i]/\Q (.int i) H)\/∃k,xs=[.bl k]/\Q (.int (if k then 1 else 0)) H:=by
 intro pins s M H xs us Q I r h;rcases h with⟨i,rfl,q⟩|⟨k,rfl,q⟩;.obtain⟨u,rfl,t,rfl⟩:=gI r;exact call_int_int ⟨.int i,H,I,⟨_,rfl⟩,q⟩
 .obtain⟨u,rfl,r1⟩:=gI r;cases r1;exact call_int_bool ⟨.int (if k then 1 else 0),H,I.tok _,⟨_,rfl⟩,q⟩
end
structure xr(h:Heap)(x dx C:Addr)(mA:Str->Option Value):Prop where
 obj:h.get? x=some (PySem.W.instObj C dx)ns:h.Ns1 dx mA
 ne:dx≠x
theorem Of(n:h.Ns1 dx mA):∃od,h.get? dx=some od/\∀name,PySem.W.lookIn name od=some (mA name):=by
 obtain⟨o,es,ep,ho,hd,hk,_,hm⟩:=n;refine⟨o,ho,λname=>?_⟩;have e:=hm name;unfold nsFind findBy at e;rw[<-Array.find?_toList]at e;unfold PySem.W.lookIn;rw[hd];dsimp only;split;.rename_i y q;rw[q]at e;exact congrArg some e
 .rename_i q;rw[q]at e;have a:es.toList.any (·.refKey)=false:=by rw[JQ];intro y hy;obtain⟨z,t,ui⟩:=hk y (Array.mem_toList_iff.mp hy);simp[DictEntry.refKey,ui]
  grind
theorem xr.look{x}(I:xr h x dx C mA):∃od,PySem.W.InstAt h x (PySem.W.instObj C dx) C (some od)/\∀name,PySem.W.lookIn name od=some (mA name):=let⟨od,ho,hl⟩:=Of I.ns
 ⟨od,⟨I.obj,rfl,rfl,ho⟩,hl⟩
theorem gj.some_of(r:gj (some v) o):∃u,o=some u/\RelV v u:=by cases o with|none=>exact(show False from r).elim|some u=>exact⟨u,rfl,r⟩
theorem gj.none_of(r:gj none o):o=none:=by cases o with|none=>rfl|some u=>exact(show False from r).elim
section
variable{a:Addr}{fs:List (Str×V)}
theorem Og(aB:cK P w H h)(e:H a=some (.ins C dx fs)):∃mA,xr h a dx C mA/\(∀f,gj (fs.lookup f) (mA f))/\PySem.Within mA (fs.map (·.1))/\fs.length<=1000/\H dx=some (.own a):=by obtain⟨d,z,ne,ob,mA,n,r,q⟩:=show bX P w H h a (.ins C dx fs)from aB a _ e;exact⟨mA,⟨ob,n,ne⟩,r,q,z,d⟩
end
structure xt(K:W5)(C:Addr):Prop where
 pg:PySem.W.plainGet K C Str.empty=true
 hd:PySem.W.hasDictIn K C=true
 po:PySem.W.plainOver K C=true
 sa:PySem.W.findIn K (.ref C) "__setattr__"=some (some (.builtin "object.__setattr__"))
theorem xt.get(c:xt K C)(f):PySem.W.plainGet K C f=true:=c.pg
section
variable{s:W4}{c:Value}{b:Bool}
inductive i9(K:W5)(H:Hp):V->Value->Prop where|aJ:i9 K H .aJ (.type "NoneType")|bl(x:Bool):i9 K H (.bl x) (.type "bool")|int(i:Int):i9 K H (.int i) (.type "int")|str(x:Str):i9 K H (.str x) (.type "str")|flt(x:UInt64):i9 K H (.flt x) (.type "float")|lst{a:Addr}{xs:List V}(e:H a=some (.lst xs)):i9 K H (.ref a) (.type "list")|frz{a:Addr}{o:Obj}{xs:List V}(e:H a=some (.frz o (.lst xs))):i9 K H (.ref a) (.type "list")|tup{a:Addr}{xs:List V}(e:H a=some (.tup xs)):i9 K H (.ref a) (.type "tuple")|dK{a:Addr}{ae:List (Key×V)}(e:H a=some (.dK ae)):i9 K H (.ref a) (.type "dict")|dT{a:Addr}{ae:List (List Key×V)}(e:H a=some (.dT ae)):i9 K H (.ref a) (.type "dict")|ins{a C dx:Addr}{fs:List (Str×V)}(e:H a=some (.ins C dx fs))(cl:xt K C)(ha:PySem.W.findIn K (.ref C) "__class__"=some (some (.builtin "object.__class__")))(hn:PySem.W.specialIn K (.builtin "object.__class__") "__get__"=some (some (.builtin "getset_descriptor.__get__")))(CD:PySem.W.takesIn K (.builtin "object.__class__")=some true)(hm:PySem.W.mroIn K C (.type "object")=some true):i9 K H (.ref a) (.ref C)
theorem md{x}(I:Inv X pins M H s)(rx:RelV x u)(ty:i9 X.K H x t)(e:Je X.K t c=some b)(h:∀tk,Q (.bool b) {s with toks:=tk}):W7 (model X.prog X.w) A (call (.builtin "isinstance") [u,c]) Q E s:=by cases ty with|aJ=>cases show u=Value.none from rx;exact QC PySem.W.kitx_none I.fm True.intro e (by grind) h|bl y=>cases show u=Value.bool y from rx;exact QC PySem.W.kitx_bool I.fm True.intro e (by grind) h|int i=>obtain⟨t,q⟩:=show∃t,u=Value.int i t from rx;cases q;exact QC PySem.W.kitx_int I.fm True.intro e (by grind) h|str y=>obtain⟨t,q⟩:=show∃t,u=Value.str y t from rx;cases q;exact QC PySem.W.kitx_str I.fm True.intro e (by grind) h|flt y=>obtain⟨t,q⟩:=show∃t,u=Value.float y t from rx;cases q;exact QC PySem.W.kitx_float I.fm True.intro e (by grind) h|@lst a xs ea=>cases show u=Value.ref a from rx;obtain⟨_,_,n,_,h1⟩:=show bX X.prog X.w H s.heap a (.lst xs)from I.aB a _ ea;exact QC PySem.W.kitx_list I.fm ⟨_,h1,rfl⟩ e (by grind) h|@frz a ob xs ea=>cases show u=Value.ref a from rx;obtain⟨_,_,_,n,_,h1⟩:=show bX X.prog X.w H s.heap a (.frz ob (.lst xs))from I.aB a _ ea;exact QC PySem.W.kitx_list I.fm ⟨_,h1,rfl⟩ e (by grind) h|@tup a xs ea=>cases show u=Value.ref a from rx;obtain⟨_,_,_,p⟩:=show bX X.prog X.w H s.heap a (.tup xs)from I.aB a _ ea;obtain⟨o,h1,h2,_⟩:=p.tup;exact QC PySem.W.kitx_tuple I.fm ⟨o,h1,h2⟩ e (by grind) h|@dK a ae ea=>cases show u=Value.ref a from rx;obtain⟨_,_,vs,_,p⟩:=show bX X.prog X.w H s.heap a (.dK ae)from I.aB a _ ea;obtain⟨o,es,ep,h1,h2,_⟩:=p;exact QC PySem.W.kitx_dict I.fm ⟨o,h1,h2.1⟩ e (by grind) h|@dT a ae ea=>cases show u=Value.ref a from rx;obtain⟨_,_,xs,_,o,es,ep,h1,h2,_⟩:=show bX X.prog X.w H s.heap a (.dT ae)from I.aB a _ ea;exact QC PySem.W.kitx_dict I.fm ⟨o,h1,h2.1⟩ e (by grind) h|@ins a C dx fs ea cl ha hn CD hm=>cases show u=Value.ref a from rx;obtain⟨mA,O,_⟩:=Og I.aB ea;obtain⟨od,J,_⟩:=O.look;exact QC (PySem.W.kitx_own (cl.get _) cl.hd ha hn CD hm) I.fm J e (by grind) h
end
structure cP(k:Nat)(A:Wt):Prop where
 hd:A.handled=none
 dp:A.depth+3*k+5<recursionLimit
 un:A.units+16*k+200<Q1
theorem cP.mono(r:cP k A)(h:j<=k):cP j A:=⟨r.hd,by have:=r.dp;lia,by have:=r.un;lia⟩
theorem cP.deeper(r:cP (k+1) A)(env):cP k (A.deeper env):=⟨r.hd,by have:=r.dp;show A.depth+1+3*k+5<_;lia,by have:=r.un;show A.units+3+16*k+200<_;lia⟩
theorem cP.depth(r:cP k A):A.depth<recursionLimit:=by have:=r.dp;lia
def oO:TA:=λ_ H Q=>Q [] H
def uj(ta:TE)(tr:TA):TA:=λM H Q=>ta M H λx H1=>tr M H1 λxs H2=>Q (x::xs) H2
section
variable{t:TA}
theorem gJ:PA X [] oO:=λ_ _ _ _ H Q I h=>Calls.spliced_nil ⟨[],H,I,.nil,h⟩
theorem fq(ha:PE X e te)(hr:PA X es t)(hs:We (e::es) X.env=(false,eval e X.env)::We es X.env:=by rfl):PA X (e::es) (uj te t):=by intro pos pins s M H Q I h;rw[hs];show W7 _ _ (spliced ((false,eval e X.env)::Qz pos (We es X.env))) _ _ s;refine Calls.spliced_cons (aM (ha pins s M H _ I h) λu s1 hh=>?_);obtain⟨x,H1,I1,r1,q1⟩:=hh;exact aM (hr pos pins s1 M H1 _ I1 q1) λus s2⟨xs,H2,I2,r2,q2⟩=>⟨x::xs,H2,I2,.cons r1 r2,q2⟩
def Oh(t:TA):TE:=λM H Q=>t M H λxs H1=>xs.length<=Wb/\∀p,H1 p=none->Q (.ref p) (upd H1 p (.tup xs))
def xu(t:TA):TE:=λM H Q=>t M H λxs H1=>xs.length<=Wb/\∀p,H1 p=none->Q (.ref p) (upd H1 p (.lst xs))
theorem Oi{x1}(h:PA X es t):PE X (.Tuple es x1 pos) (Oh t):=by intro pins s M H Q I hq;refine wpAny_Tuple_spliced (aM (h pos pins s M H _ I hq) λus s1⟨xs,H1,I1,r,z,q⟩=>⟨by rw[<-r.length];exact z,?_⟩);have hf:H1 s1.heap.objs.size=none:=I1.aB.fresh (Wg _);refine⟨.ref s1.heap.objs.size,upd H1 s1.heap.objs.size (.tup xs),I1.laid (t':=s1.toks) (λb u e=>W6 _ e) (Wg _) ?_,rfl,q _ hf⟩;exact⟨z,us,r,⟨_,Wh _ rfl⟩⟩
theorem CF(h:PA X es t):PE X (.List es pos) (xu t):=by intro pins s M H Q I hq;refine wpAny_List_spliced (aM (h pos pins s M H _ I hq) λus s1⟨xs,H1,I1,r,z,q⟩=>⟨by rw[<-r.length];exact z,?_⟩);have hf:H1 s1.heap.objs.size=none:=I1.aB.fresh (Wg _);refine⟨.ref s1.heap.objs.size,upd H1 s1.heap.objs.size (.lst xs),I1.laid (t':=s1.toks) (λb u e=>W6 _ e) (Wg _) ?_,rfl,q _ hf⟩;exact⟨z,us,0,r,Wh _ rfl⟩
end
abbrev Sp:=List V->Hp->VK->XK->Prop
abbrev kQ:=List Env->Hp->W4->XK->Value->W4->Prop
variable{CX:kQ}
structure qH(P:Wm)(w:Wv)(K:W5)(mg:Str->Option Value)(base:Heap)(A:Wt)(outer:List Env)(s:W4)(H:Hp):Prop where
 frames:A.frames=some outer
 mod:Mod K mg base
 bs:∀b o,base.get? b=some o->s.heap.get? b=some o/\H b=none
 kM:base.objs.size<=s.heap.objs.size
 iC:s.heap.FunFrames base outer
 m4:∀b∈gX outer,H b=none
 aB:cK P w H s.heap
 bare:AllBare s.gens
def CE(outer:List Env)(P:Wm)(w:Wv)(H:Hp)(s:W4)(Q:VK)(u:Value)(s':W4):Prop:=∃v H',s'.os=s.os/\AllBare s'.gens/\Un (gX outer) [] H H' s.heap s'.heap/\cK P w H' s'.heap/\RelV v u/\Q v H'
def CR(CX:kQ)(outer:List Env)(P:Wm)(w:Wv)(H:Hp)(s:W4)(Q:VK)(E:XK)(r:Result)(s':W4):Prop:=match r with|.ok (.ret u)=>CE outer P w H s Q u s'|.ok _=>False|.error e=>CX outer H s E e s'
structure i_(P:Wm)(w:Wv)(K:W5)(mg:Str->Option Value)(base:Heap)(CX:kQ)(k:Nat)(f:Addr)(fd:Qi)(ps:List Str)(sp:Sp):Prop where
 len:∀vs H Q E,sp vs H Q E->vs.length=ps.length
 run:∀(A:Wt)(outer:List Env)(s:W4)(H:Hp)(args:Args)(us:List Value)(vs:List V)(Q:VK)(E:XK),cP k A->qH P w K mg base A outer s H->BindsTo s fd args (ps.zip us)->Vals vs us->sp vs H Q E->Jy (model P w) A (.call (.ref f) args) (CR CX outer P w H s Q E) s
section
variable{s s':W4}
theorem Inv.xw(I:Inv X pins M H s):qH X.prog X.w X.K X.mg X.base X.A X.stack s H:=⟨I.ok.frames,I.ok.mod,I.bs,Qe I.ok.kM I.sz,I.stack,I.B0,I.aB,I.bare⟩
theorem Inv.after{Q}(I:Inv X pins M H s)(h:CE X.stack X.prog X.w H s Q u s'):EP X pins M Q u s':=by obtain⟨v,H',os,bare,un,aB,r,q⟩:=h;obtain⟨hh,g,d,t,os'⟩:=s';obtain rfl:os'=s.os:=os;exact⟨v,H',I.call (h':=hh) (g':=g) (d':=d) (t':=t) (ch:=[]) un aB bare λb z=>absurd z U',r,q⟩
end
def CG(sp:Sp)(me:List V)(E:XK)(t:TA):TE:=λM H Q=>t M H λvs H1=>sp (vs++me) H1 Q E
def Binds(K:W5)(fd:Qi)(ps:List Str)(ds:List Value):Prop:=∀(s:W4)(us:List Value),K.In s.heap->(us++ds).length=ps.length->BindsTo s fd ⟨us,[]⟩ (ps.zip (us++ds))
theorem Binds.all(h:∀us:List Value,us.length=ps.length->bindArgs fd ⟨us,[]⟩=pure (ps.zip us)):Binds K fd ps []:=λs us _ hl=>by rw[Qc]at hl⊢;exact .of_eq (h us hl)
def xy(CX:kQ)(X:Cx)(E:XK):Prop:=∀(pins:List (Addr×Obj))(M:St)(H:Hp)(s:W4)(e:Value)(s':W4),Inv X pins M H s->CX X.stack H s E e s'->X.xe e s'
section
variable{k:Nat}{f:Addr}{sp:Sp}{ds:List Value}{E:XK}{m:Str}{p:Pos}{o:Expr}{t:TA}
theorem Oj{Q}(F:i_ X.prog X.w X.K X.mg X.base CX k f fd ps sp)(hr:cP k X.A)(hb:Binds X.K fd ps ds)(hd:Vals me ds)(hx:xy CX X E)(I:Inv X pins M H s)(r:Vals vs us)(h:sp (vs++me) H Q E):W7 (model X.prog X.w) X.A (call (.ref f) us) (EP X pins M Q) X.xe s:=by
 have r2:Vals (vs++me) (us++ds):=r.append hd;have hl:(us++ds).length=ps.length:=by rw[<-r2.length];exact F.len _ _ _ _ h
 refine wpAny_call (codeAny_mono (F.run X.A X.stack s H ⟨us,[]⟩ (us++ds) (vs++me) Q E hr I.xw (hb s us I.fm hl) r2 h) λr s' hq=>?_);cases r with|error e=>exact hx pins M H s e s' I hq|ok fl=>cases fl with|ret u=>exact I.after hq|next=>exact False.elim hq|brk=>exact False.elim hq|cont=>exact False.elim hq
theorem CI(F:i_ X.prog X.w X.K X.mg X.base CX k f fd ps sp)(hr:cP k X.A)(hg:Gl X x)(hm:X.mg x=some (.ref f))(hk:Jz X.K (.ref f)=true)(hb:Binds X.K fd ps ds)(hd:Vals me ds)(hx:xy CX X E)(ha:PA X (e::es) t)(gZ:(x==("__debug__":Str))=false:=by decide)(he:We (e::es) X.env=(false,eval e X.env)::We es X.env:=by rfl)(cQ:(Qz pos (We es X.env)).any (·.1)=false:=by rfl):PE X (.Call (.Name x p) (e::es) [] pos) (CG sp me E t):=by intro pins s M H Q I h;refine JN (xa I hg hm ?_ gZ);refine PySem.W.callWith_K (h₀:=X.base) I.ok.mod.qw hk (aM (ha pos pins s M H _ I h) λus s1⟨vs,H1,I1,r,q⟩=>⟨I1.fm,?_⟩) he cQ;exact Oj F hr hb hd hx I1 r q
end
def PK(X:Cx)(CJ:List Keyword)(t:TA):Prop:=∀(pos:Pos)(pins:List (Addr×Obj))(s:W4)(M:St)(H:Hp)(Q:List V->Hp->Prop),Inv X pins M H s->t M H Q->W7 (model X.prog X.w) X.A (evalAll ((backToKw pos (Uq CJ X.env)).map (·.2))) (AP X pins M Q) X.xe s
structure fY(N P:List Str)(sc:Scope):Prop where
 kind:sc.kind=.function
 co:sc.isCoroutine=false
 gen:sc.isGenerator=false
 nd:N.Nodup
 pre:N.take P.length=P
 par:∀x∈P,sc.names.lookup x=some .local\/sc.names.lookup x=some .cell
 xA:∀y∈sc.names,y.2≠.free
theorem scc{N P:List Str}(kind:sc.kind=.function:=by rfl)(co:sc.isCoroutine=false:=by rfl)(gen:sc.isGenerator=false:=by rfl)(nd:N.Nodup:=by decide+kernel)(pre:N.take P.length=P:=by rfl)(par:∀x∈P,sc.names.lookup x=some .local\/sc.names.lookup x=some .cell:=by decide+kernel)(xA:∀y∈sc.names,y.2≠.free:=by decide+kernel):fY N P sc:=⟨kind,co,gen,nd,pre,par,xA⟩
theorem CK:∀{binds:List (Str×Value)}{m:Str->Option Value},(∀v,(x,v)∉binds)->bindL kindOf binds m x=m x|[],_,_=>rfl|(n,v)::r,m,h=>by unfold bindL;rw[CK λw hw=>h w (Wn _ hw)];split;all_goals grind
theorem CL:∀{binds:List (Str×Value)}{m:Str->Option Value},(∀v,(x,v)∉binds)->bindC kindOf binds m x=m x|[],_,_=>rfl|(n,v)::r,m,h=>by unfold bindC;rw[CL λw hw=>h w (Wn _ hw)];split;all_goals grind
theorem CM{kindOf:Str->Option NameKind}{x v}:∀{P:List Str}{vs:List Value}{i:Nat}{m:Str->Option Value},P.Nodup->P[i]?=some x->vs[i]?=some v->kindOf x=some .local->bindL kindOf (P.zip vs) m x=some v|[],_,_,_,_,h,_,_=>by simp at h|_::_,[],_,_,_,_,h,_=>by simp at h|p::P,w::vs,0,m,nd,h1,h2,hk=>by simp at h1 h2;subst h1;subst h2;show bindL kindOf ((p,w)::P.zip vs) m p=_;unfold bindL;rw[CK λv hv=>(WW.mp nd).1 (Ut hv).1,if_pos hk];simp|p::P,w::vs,i+1,m,nd,h1,h2,hk=>by show bindL kindOf ((p,w)::P.zip vs) m x=_;unfold bindL;exact CM (i:=i) (WW.mp nd).2 (~~~h1) (~~~h2) hk
theorem CN{kindOf:Str->Option NameKind}{x v}:∀{P:List Str}{vs:List Value}{i:Nat}{m:Str->Option Value},P.Nodup->P[i]?=some x->vs[i]?=some v->kindOf x≠some .local->bindC kindOf (P.zip vs) m x=some v|[],_,_,_,_,h,_,_=>by simp at h|_::_,[],_,_,_,_,h,_=>by simp at h|p::P,w::vs,0,m,nd,h1,h2,hk=>by simp at h1 h2;subst h1;subst h2;show bindC kindOf ((p,w)::P.zip vs) m p=_;unfold bindC;rw[CL λv hv=>(WW.mp nd).1 (Ut hv).1,if_neg hk];simp|p::P,w::vs,i+1,m,nd,h1,h2,hk=>by show bindC kindOf ((p,w)::P.zip vs) m x=_;unfold bindC;exact CN (i:=i) (WW.mp nd).2 (~~~h1) (~~~h2) hk
def gn(N:List Str)(vs:List V):St:=vs.map some++WG (N.length-vs.length) none
def fZ(CX:kQ)(P:Wm)(w:Wv)(K:W5)(mg:Str->Option Value)(base:Heap)(N:List Str)(qual:Str)(scope:Scope)(f:Addr)(cd:Value)(A:Wt)(outer:List Env)(s:W4)(H:Hp)(E:XK):Cx where
 prog:=P
 w:=w
 K:=K
 mg:=mg
 base:=base
 A:=A.deeper (Jt qual scope s.heap.objs.size f cd)
 N:=N
 s₀:=s
 H₀:=H
 env:=Jt qual scope s.heap.objs.size f cd
 outer:=outer
 stack:=Jt qual scope s.heap.objs.size f cd::outer
 ex:=[]
 calm:=true
 fn:=λ_=>true
 pn:=[]
 xe:=λe s'=>W7 (model P w) (A.deeper (Jt qual scope s.heap.objs.size f cd)) (leaving (Jt qual scope s.heap.objs.size f cd) e) (λ_ m8=>CX outer H s E e m8) (λe' m8=>CX outer H s E e' m8) s'
theorem CO(h:sc.names.lookup x=some .cell):∃c,(QV n sc.names []).lookup x=some c:=by have q:=JO sc.names n [] (.inl h);exact J1.mp q
theorem CP{f outer}{s s1:W4}{E}(S:fY N ps scope)(hd:A.handled=none)(e0:qH P w K mg base A outer s H)(hl:vs.length=ps.length)(r:Vals vs us)(x:InCallC s s.heap.objs.size (bindL (Jt qual scope s.heap.objs.size f cd).kindOf (ps.zip us) λ_=>none) (QV (s.heap.objs.size+1) scope.names []) (bindC (Jt qual scope s.heap.objs.size f cd).kindOf (ps.zip us) λ_=>none) s1):Inv (fZ CX P w K mg base N qual scope f cd A outer s H E) [] (gn N vs) H s1:=by
 have cQ:ps.length<=N.length:=by have:=congrArg WV S.pre;rw[Us]at this;lia
 obtain⟨h1,tk,rfl,hk⟩:=x.done;have kR:∀b:Addr,b∉(fZ CX P w K mg base N qual scope f cd A outer s H E).ex:=λb z=>absurd (show b∈([]:List Addr)from z) U';refine⟨⟨e0.mod,S.kind,rfl,rfl,Wg _,λy z c h1 h2=>?_,λy hy=>?_,λy c _ h=>?_,λ_=>hd,Around.frames_deeper e0.frames,.inr ⟨rfl,rfl⟩,λb z=>absurd z (kR b),e0.bs,e0.kM,λb _ _=>kR b,λb z=>absurd z (kR b),e0.iC,e0.m4⟩,rfl,e0.bare,Un.kept hk,⟨_,x.toInCall.ns,λi y v h1 h2 h3=>?_⟩,λy c h=>⟨_,x.cell y c h⟩,e0.aB.fresh (Wg _),λy c h=>?_,λp hp=>absurd (show p∈([]:List (Addr×Obj))from hp) U',e0.aB.kept hk,?_⟩;.exact name_of_addr x.apart (WC h1) (WC h2)
 .have hy:scope.names.lookup y=some .cell\/scope.names.lookup y=some .free:=hy;rcases hy with hy|hy;.exact CO hy
  .exact absurd rfl (S.xA _ (WC hy))
 .exact U9 (x.above y c (WC h))
 .have hi:i<vs.length:=by
   unfold gn at h2;by_cases hi:i<vs.length;.exact hi
   .rw[Jo (~~~hi)]at h2;rw[List.getElem?_replicate]at h2;split at h2<;>cases h2
  have ha:vs[i]?=some v:=by unfold gn at h2;rw[Qn (~~~hi),Wo]at h2;cases e:vs[i]? with|none=>rw[e]at h2;cases h2|some a=>rw[e]at h2;cases h2;rfl
  obtain⟨u,hu,rv⟩:=r.get ha;have hp:ps[i]?=some y:=by rw[<-S.pre,List.getElem?_take_of_lt Y'];exact h1
  have CQ:ps.Nodup:=by rw[<-S.pre];exact S.nd.sublist (List.take_sublist _ _)
  refine⟨u,rv,?_⟩;rcases S.par y (Wj hp)with k|k;.exact .inl ⟨k,CM CQ hp hu k⟩
  .obtain⟨c,e⟩:=CO (n:=s.heap.objs.size+1) k;refine .inr ⟨.inl k,c,e,?_⟩;have q:=x.cell y c e;rw[CN CQ hp hu (by show scope.names.lookup y≠_;rw[k];decide)]at q;exact q
 .exact e0.aB.fresh (U9 (x.above y c (WC h)))
 .unfold gn;show _=N.length;rw[QS,Ws,List.length_replicate];lia
theorem CT{k f dV kV od sp}(lk:K.lookup f=some ⟨oc,od,.func (Qq name qual params body scope dV kV doc pm an aW ct),eZ⟩)(gY:PySem.W.codeIn K aW qual=true)(S:fY N ps scope)(len:∀vs H Q E,sp vs H Q E->vs.length=ps.length)(dR:∀(A:Wt)outer (s:W4)H (vs:List V)Q E,cP k (A.deeper (Jt qual scope s.heap.objs.size f aW))->sp vs H Q E->∃t,dM (fZ CX P w K mg base N qual scope f aW A outer s H E) body t/\t {nx:=λ_ H'=>Q .aJ H',rt:=Q} (gn N vs) H):i_ P w K mg base CX (k+1) f (Qq name qual params body scope dV kV doc pm an aW ct) ps sp:=by
 refine⟨len,λA outer s H args us vs Q E hr e0 hb r m9=>?_⟩;have hl:=len _ _ _ _ m9;have KX:K.In s.heap:=e0.mod.qw.keeps λb o e=>(e0.bs b o e).1;have lim:s.heap.NoLimit:=e0.mod.nolimit.keeps λb o e=>(e0.bs b o e).1;have xB:∀y∈ps.zip us,scope.names.lookup y.1=some .local\/scope.names.lookup y.1=some .cell/\((QV (s.heap.objs.size+1) scope.names []).lookup y.1).isSome=true:=λ⟨n,v⟩hy=>by
  rcases S.par n (Ut hy).1 with q|q;.exact .inl q
  .exact .inr ⟨q,JO _ _ _ (.inl q)⟩
 refine codeAny_call_function hr.depth (KX _ _ lk) rfl S.co S.gen rfl (PySem.W.codeRec_of KX gY) (hb _ _ _ _ ?_);refine wpAny_newFunctionEnv_cells S.kind xB λenv he s1 x=>?_;subst he;refine⟨lim.keeps x.toInCall.keep,codeAny_func ?_⟩;obtain⟨t,ht,hq⟩:=dR A outer s H vs Q E (hr.deeper _) m9;have I:Inv (fZ CX P w K mg base N qual scope f aW A outer s H E) [] (gn N vs) H s1:=CP S hr.hd e0 hl r x;refine Qy (ht [] s1 (gn N vs) H _ I hq) (λfl s' hs=>?_) λe s' hs=>hs;have fin:∀{M':St}{H':Hp}{v:V}{u:Value},Inv (fZ CX P w K mg base N qual scope f aW A outer s H E) [] M' H' s'->RelV v u->Q v H'->CE outer P w H s Q u s':=λ{M' H' v u}J rv q=>⟨v,H',J.os,J.bare,J.base,J.aB,rv,q⟩;cases fl with|ret u=>obtain⟨v,M',H',J,rv,q⟩:=hs;exact fin J rv q|next=>obtain⟨M',H',J,q⟩:=hs;exact fin (v:=V.aJ) (u:=Value.none) J rfl q|brk=>obtain⟨_,_,_,q⟩:=hs;exact False.elim q|cont=>obtain⟨_,_,_,q⟩:=hs;exact False.elim q
section
variable{p:Pos}{t:TA}{id T:String}{r:List V->Hp->VK->Prop}
def CU(r:List V->Hp->VK->Prop)(t:TA):TE:=λM H Q=>t M H λvs H1=>r vs H1 Q
theorem xC(hc:eF X (.builtin id) r)(hg:Gl X x)(hm:X.mg x=none)(hv:QR x=some (.builtin id))(ha:PA X (e::es) t)(hn:x≠"__name__":=by decide)(gZ:(x==("__debug__":Str))=false:=by decide)(he:We (e::es) X.env=(false,eval e X.env)::We es X.env:=by rfl)(cQ:(Qz pos (We es X.env)).any (·.1)=false:=by rfl):PE X (.Call (.Name x p) (e::es) [] pos) (CU r t):=by intro pins s M H Q I h;refine JN (l9 I hg hm hv ?_ hn gZ);exact PyProof.Rows.callWith_builtin1 (aM (ha pos pins s M H _ I h) λus s1⟨vs,H1,I1,r1,q1⟩=>hc pins s1 M H1 vs us Q I1 r1 q1) he cQ
theorem Ol(hc:eF X (.type T) r)(hg:Gl X x)(hm:X.mg x=none)(hv:QR x=some (.type T))(ha:PA X (e::es) t)(hn:x≠"__name__":=by decide)(gZ:(x==("__debug__":Str))=false:=by decide)(he:We (e::es) X.env=(false,eval e X.env)::We es X.env:=by rfl)(cQ:(Qz pos (We es X.env)).any (·.1)=false:=by rfl):PE X (.Call (.Name x p) (e::es) [] pos) (CU r t):=by intro pins s M H Q I h;refine JN (l9 I hg hm hv ?_ hn gZ);exact QG (aM (ha pos pins s M H _ I h) λus s1⟨vs,H1,I1,r1,q1⟩=>hc pins s1 M H1 vs us Q I1 r1 q1) he cQ
end
section
variable{s:W4}
theorem Om{vs}(ht:IsTup s.heap t vs.toArray)(hb:IsTup s.heap b ws.toArray)(hv:vs≠[])(h1:ws=[]->Q (.ref t) s)(h2:ws≠[]->Q (.ref s.heap.objs.size) {s with heap:=s.heap.push {cls:=.type "tuple",data:=.seq (vs++ws).toArray}})(hsz:vs.length+ws.length<=Wb):W7 (model prog w) A (QY .Add (.ref t) (.ref b)) Q E s:=by
 obtain⟨⟨cls,dd,data,sl⟩,ho,hc,n,hd⟩:=id ht;obtain⟨⟨cls2,kS,data2,j9⟩,ho2,hc2,n2,hd2⟩:=id hb;simp only at hc hd hc2 hd2;subst hc hd hc2 hd2;have e:vs.toArray++ws.toArray=(vs++ws).toArray:=by simp
 by_cases hw:ws=[]
 .exact concat_meets ⟨_,ho,rfl⟩ ⟨_,ho2,rfl⟩ noFill_tuple_add seq_tuple_add PySem.F.slot_tuple_add PySem.F.entry_tuple_add (PySem.F.args_tuple_add_2 _ _) (tuple_addW1 t b vs.toArray ws.toArray n n2 dd kS sl j9 (~~~hv) #v[hw]) ⟨ho,ho2,h1 hw⟩
 .refine concat_meets ⟨_,ho,rfl⟩ ⟨_,ho2,rfl⟩ noFill_tuple_add seq_tuple_add PySem.F.slot_tuple_add PySem.F.entry_tuple_add (PySem.F.args_tuple_add_2 _ _) (tuple_addW2 t b vs.toArray ws.toArray n n2 dd kS sl j9 (~~~hv) (~~~hw) %[Ww,Ww|hsz]) ⟨ho,ho2,?_⟩;rw[e];exact h2 hw
def ba(n d:Nat):Option Int->Nat|none=>d|some v=>if v<0 then(v+(n:Int)).toNat else min v.toNat n
theorem xD(n d:Nat)(hd:d<=n)(o):ba n d o<=n:=by cases o with|none=>exact hd|some v=>
 show(if v<0 then(v+(n:Int)).toNat else min v.toNat n)<=n;by_cases hv:v<0;.rw[if_pos hv];lia
 .rw[if_neg hv];exact Nat.min_le_right _ _
theorem CV(v:Int)(n d:Nat):(if v<0 then max (v+(n:Int)) 0 else min v (n:Int))=((ba n d (some v):Nat):Int):=by
 show(if v<0 then max (v+(n:Int)) 0 else min v (n:Int))=(((if v<0 then(v+(n:Int)).toNat else min v.toNat n):Nat):Int);by_cases hv:v<0;.simp only[if_pos hv];lia
 .simp only[if_neg hv];lia
theorem Oo(lo hi)(n:Nat):QO lo hi 1 (n:Int)=(((ba n 0 lo:Nat):Int),((ba n n hi:Nat):Int)):=by
 have h1:¬(1:Int)<0:=by lia
 unfold QO;simp only[h1,if_false];refine Prod.ext ?_ ?_;.cases lo with|none=>rfl|some v=>exact CV v n 0
 .cases hi with|none=>rfl|some v=>exact CV v n n
theorem Oq(i j:Nat):Qo (i:Int) (j:Int) 1=j-i:=by
 unfold Qo;have h1:(1:Int)>0:=by lia
 simp only[h1,if_true,Int.ediv_one];split<;>lia
theorem CW{Q}(p:IsPart v o)(h:Q o s):W7 (model prog w) A (Builtin.Slice.slicePartIndex v) Q E s:=by cases p with|none=>exact slicePart_none h|int i t=>exact slicePart_int h
theorem CY{Q:Int×Int×Nat->W4->Prop}(hs:s.heap.IsSliceOf sl vl vu .none)(pl:IsPart vl lo)(pu:IsPart vu hi)(h:Q (((ba n 0 lo:Nat):Int),1,ba n n hi-ba n 0 lo) s):W7 (model prog w) A (Jp (.ref sl) (pure (n:Int))) Q E s:=by obtain⟨os,hos,hcs,ja⟩:=id hs;unfold Jp Builtin.Slice.sliceFields;refine W0 (W0 (WM hos ja (x:=vl) rfl (W0 (WM hos ja (x:=vu) rfl (W0 (WM hos ja (x:=.none) rfl (W3 ?_)))))));refine W0 (slicePart_none ?_);show W7 _ _ (if((1:Int)==0)=true then _ else _) _ _ s;rw[if_neg Z'];refine W0 (CW pl (W0 (CW pu (W0 (W3 ?_)))));show W7 _ _ (match QO lo hi 1 (n:Int)with|(lo,hi)=>pure (lo,(1:Int),Qo lo hi 1)) _ _ s;rw[Oo lo hi n];show W7 _ _ (pure (((ba n 0 lo:Nat):Int),(1:Int),Qo ((ba n 0 lo:Nat):Int) ((ba n n hi:Nat):Int) 1)) _ _ s;rw[Oq];exact W3 h
theorem Ot(xs:Array Value)(i k:Nat):((WB k).filterMap λ(m:Nat)=>xs[((i:Int)+(m:Int)*1).toNat]?).toArray=((xs.toList.drop i).take k).toArray:=by
 have e:(λ(m:Nat)=>xs[((i:Int)+(m:Int)*1).toNat]?)=λm=>xs[i+m]?:=by
  funext m;have:((i:Int)+(m:Int)*1).toNat=i+m:=by lia
  rw[this]
 rw[e];have:=pick_run xs i k;rw[List.filterMap_map]at this;have e2:((λx=>xs[x]?)∘λx=>i+x)=λm=>xs[i+m]?:=rfl;rw[e2]at this;rw[this]
theorem Ou{t}(ht:IsTup s.heap t items)(hs:s.heap.IsSliceOf sl vl vu .none)(pl:IsPart vl lo)(pu:IsPart vu hi)(hw:¬(ba items.size 0 lo=0/\ba items.size items.size hi=items.size))(h:Q (.ref s.heap.objs.size) {s with heap:=s.heap.push {cls:=.type "tuple",data:=.seq ((items.toList.drop (ba items.size 0 lo)).take (ba items.size items.size hi-ba items.size 0 lo)).toArray}})(hsz:items.size<=Wb):W7 (model prog w) A (JK (.ref t) (.ref sl)) Q E s:=by
 have kT:sizeOk (.seq ((items.toList.drop (ba items.size 0 lo)).take (ba items.size items.size hi-ba items.size 0 lo)).toArray):=by show((items.toList.drop (ba items.size 0 lo)).take (ba items.size items.size hi-ba items.size 0 lo)).toArray.size<=Wb;rw[Ww,Us,List.length_drop,Q4];lia
 have hj:ba items.size items.size hi<=items.size:=xD _ _ (Wg _) hi;obtain⟨os,hos,hcs,ja⟩:=id hs;have qI:s.TypeIs (.ref sl) "slice":=⟨os,hos,hcs⟩;unfold JK;try with_reducible refine WI ?_
 first|refine W0 (W3 ?_)|skip
 refine W0 (JR ht.typeIs Z' ?_);refine W0 (WE (name:=Str.ofString "__getitem__") ht.typeIs Qv (WA Qv ht.typeIs entry_tuple_getitem ?_ (args_tuple_getitem _ _)));show W7 _ _ (Jq (.ref t)>>=_) _ _ s;refine W0 (tupleItemsOf_ ht ?_);refine W0 (JA qI ?_);rw[if_pos Z'];refine W0 (CY hs pl pu ?_);have f6:¬(((ba items.size 0 lo:Nat):Int)==0&&(1:Int)==1&&ba items.size items.size hi-ba items.size 0 lo==items.size)=true:=by intro q;rw[Wy,Wy]at q;have q1:((ba items.size 0 lo:Nat):Int)=0:=eq_of_beq q.1.1;have q2:ba items.size items.size hi-ba items.size 0 lo=items.size:=eq_of_beq q.2;exact hw ⟨Y',Y'⟩
 show W7 _ _ (if(((ba items.size 0 lo:Nat):Int)==0&&(1:Int)==1&&ba items.size items.size hi-ba items.size 0 lo==items.size)=true then _ else _) _ _ s;rw[if_neg f6,Ot];first|exact W0 (m:=Qr _) (WO (W3 ⟨_,rfl,W3 h⟩) kT)|exact W0 (m:=Qr _) (WO (W0 (W3 (W3 ⟨_,rfl,W3 h⟩))) kT)|exact W0 (W0 (m:=Qr _) (WO (W3 (W3 ⟨_,rfl,W3 h⟩)) kT))|exact W0 (W0 (m:=Qr _) (WO (W3 ⟨_,rfl,W3 h⟩) kT))
end
abbrev TO:=St->Hp->(Option Int->Hp->Prop)->Prop
def PO(X:Cx)(e:Option Expr)(t:TO):Prop:=∀(pins:List (Addr×Obj))(s:W4)(M:St)(H:Hp)(Q:Option Int->Hp->Prop),Inv X pins M H s->t M H Q->W7 (model X.prog X.w) X.A (evalPart e X.env) (λu s'=>∃o H',Inv X pins M H' s'/\IsPart u o/\Q o H') X.xe s
def Ov:TO:=λ_ H Q=>Q none H
def Ow(t:TE):TO:=λM H Q=>t M H λx H1=>∃i,x=.int i/\Q (some i) H1
section
variable{lo hi:Option Expr}{tl th:TO}{p2:Pos}
theorem Ox:PO X none Ov:=by intro pins s M H Q I h;rw[evalPart_none];exact W3 ⟨none,H,I,.none,h⟩
theorem Oy(h:PE X e te):PO X (some e) (Ow te):=by intro pins s M H Q I hw;rw[evalPart_some];refine aM (h pins s M H _ I hw) λu s1 hh=>?_;obtain⟨x,H1,I1,r1,q1⟩:=hh;obtain⟨i,rfl,q⟩:=q1;obtain⟨t,rfl⟩:=r1;exact⟨some i,H1,I1,.int i t,q⟩
def j_(X:Cx)(r:V->Option Int->Option Int->Hp->VK->Prop):Prop:=∀(pins:List (Addr×Obj))(s:W4)(M:St)(H:Hp)(x:V)(v vl vu:Value)(lo hi:Option Int)(sl:Addr)(Q:VK),Inv X pins M H s->RelV x v->s.heap.IsSliceOf sl vl vu .none->IsPart vl lo->IsPart vu hi->r x lo hi H Q->∃T id,typeLookup (.type T) "__getitem__"=pure (some (.builtin id))/\s.TypeIs v T/\W7 (model X.prog X.w) X.A (JK v (.ref sl)) (EP X pins M Q) X.xe s
theorem j_.or{r'}(h:j_ X r)(h':j_ X r'):j_ X λx lo hi H Q=>r x lo hi H Q\/r' x lo hi H Q:=by
 intro pins s M H x v vl vu lo hi sl Q I rx hs pl pu q;rcases q with q|q;.exact h pins s M H x v vl vu lo hi sl Q I rx hs pl pu q
 .exact h' pins s M H x v vl vu lo hi sl Q I rx hs pl pu q
def Oz(r:V->Option Int->Option Int->Hp->VK->Prop)(te:TE)(tl th:TO):TE:=λM H Q=>te M H λx H1=>tl M H1 λl H2=>th M H2 λu H3=>r x l u H3 Q
theorem CZ(hr:j_ X r)(he:PE X e te)(hl:PO X lo tl)(hu:PO X hi th):PE X (.Subscript e (.Slice lo hi none p2) pos) (Oz r te tl th):=by intro pins s M H Q I h;refine Subscript_ (aM (he pins s M H _ I h) λv s1 hh=>?_);obtain⟨x,H1,I1,r1,q1⟩:=hh;refine wpAny_Slice (aM (hl pins s1 M H1 _ I1 q1) λvl s2⟨l,H2,I2,pl,q2⟩=>aM (hu pins s2 M H2 _ I2 q2) λvu s3 hh=>?_);obtain⟨u,H3,I3,pu,q3⟩:=hh;rw[evalPart_none];refine W3 ?_;have I4:Inv X pins M H3 {s3 with heap:=s3.heap.push {cls:=.type "slice",data:=.fields #[vl,vu,.none]}}:=I3.kept (t':=s3.toks) λb ob q=>W6 _ q;obtain⟨T,id,hT,ht,hg⟩:=hr pins {s3 with heap:=s3.heap.push {cls:=.type "slice",data:=.fields #[vl,vu,.none]}} M H3 x v vl vu l u s3.heap.objs.size Q I4 r1 (Heap.IsSliceOf.new ..) pl pu q3;show W7 (model X.prog X.w) X.A (subscriptTail e (.Slice lo hi none p2) v (.ref s3.heap.objs.size)) (EP X pins M Q) X.xe {s3 with heap:=s3.heap.push {cls:=.type "slice",data:=.fields #[vl,vu,.none]}};exact tail_any (ops:=[.ref s3.heap.objs.size,v]) ht hT hg (by with_unfolding_all rfl)
def mf(xs:List V)(lo hi:Option Int):List V:=(xs.drop (ba xs.length 0 lo)).take (ba xs.length xs.length hi-ba xs.length 0 lo)
theorem C0(xs:List V)(lo hi):(mf xs lo hi).length<=xs.length:=by unfold mf;rw[Us,List.length_drop];lia
def OA(K:W5):V->Option Int->Option Int->Hp->VK->Prop:=λx lo hi H Q=>∃a xs,x=.ref a/\cE K H a xs/\¬(ba xs.length 0 lo=0/\ba xs.length xs.length hi=xs.length)/\∀p,H p=none->Q (.ref p) (upd H p (.tup (mf xs lo hi)))
theorem uk:j_ X (OA X.K):=by intro pins s M H x v vl vu lo hi sl Q I rx hs pl pu h;obtain⟨a,xs,rfl,hx,hw,q⟩:=h;cases rx;obtain⟨ak,r,ht,hz⟩:=I.tuple hx;have hlen:ak.toArray.size=xs.length:=%[Ww|r.length.symm];refine⟨"tuple",_,PyProof.Rows.slot_tuple_getitem.lookup,ht.typeIs,?_⟩;refine Ou ht hs pl pu %[hlen|hw] ?_ %[hlen|hz];rw[hlen];refine⟨.ref s.heap.objs.size,_,I.laid (t':=s.toks) (o:=.tup (mf xs lo hi)) (λb ob q=>W6 _ q) (Wg _) ?_,rfl,q _ (I.aB.fresh (Wg _))⟩;exact⟨Qe (C0 xs lo hi) hz,_,(r.drop (ba xs.length 0 lo)).take (ba xs.length xs.length hi-ba xs.length 0 lo),iB.new _ _⟩
def C3(K:W5):R2:=λx y H Q=>∃a b xs ys,x=.ref a/\y=.ref b/\cE K H a xs/\cE K H b ys/\xs≠[]/\xs.length+ys.length<=Wb/\(ys=[]->Q (.ref a) H)/\(ys≠[]->∀p,H p=none->Q (.ref p) (upd H p (.tup (xs++ys))))
theorem Vals.xE{xs}(r:Vals xs us):us=[]↔xs=[]:=by cases r with|nil=>simp|cons _ _=>simp
theorem OB:bD X (QY .Add) (C3 X.K):=by intro pins s M H x y v u Q I rx ry h;obtain⟨a,b,xs,ys,rfl,rfl,ha,hb,hx,hz,q1,q2⟩:=h;cases rx;cases ry;obtain⟨ak,r1,p1,_⟩:=I.tuple ha;obtain⟨its2,r2,p2,_⟩:=I.tuple hb;refine Om p1 p2 (λz=>hx (r1.xE.mp z)) (λz=>⟨.ref a,H,I,rfl,q1 (r2.xE.mp z)⟩) (λz=>?_) (by rw[<-r1.length,<-r2.length];exact hz);refine⟨.ref s.heap.objs.size,_,I.laid (t':=s.toks) (o:=.tup (xs++ys)) (λb ob q=>W6 _ q) (Wg _) ?_,rfl,q2 (λw=>z (r2.xE.mpr w)) _ (I.aB.fresh (Wg _))⟩;exact⟨%[QS|hz],_,r1.append r2,iB.new _ _⟩
end
def jb(n:Nat)(i:Int):Option Nat:=if 0<=i then if i<n then some i.toNat else none else if-(n:Int)<=i then some (i+n).toNat else none
def eN{α:Type}(xs:List α)(i:Int):Option α:=(jb xs.length i).bind λj=>xs[j]?
theorem C4{i}(h:jb n i=some j):seqIndex? i n=some j/\j<n/\-(n:Int)<=i/\i<n:=by
 unfold jb at h;by_cases h0:0<=i
 .rw[if_pos h0]at h;by_cases h1:i<n;.rw[if_pos h1]at h;have e:i.toNat=j:=WN h;exact⟨by rw[seqIndex_of h0 h1,e],Y',Y',h1⟩
  .rw[if_neg h1]at h;cases h
 .rw[if_neg h0]at h;by_cases h1:-(n:Int)<=i;.rw[if_pos h1]at h;have e:(i+n).toNat=j:=WN h;exact⟨by rw[seqIndex_neg Y' h1,e],Y',h1,Y'⟩
  .rw[if_neg h1]at h;cases h
theorem xF{xs i}(h:eN xs i=some v):∃j,seqIndex? i xs.length=some j/\xs[j]?=some v/\j<xs.length/\-(xs.length:Int)<=i/\i<xs.length:=by unfold eN at h;cases e:jb xs.length i with|none=>rw[e]at h;cases h|some j=>rw[e]at h;obtain⟨h1,h2,h3,h4⟩:=C4 e;exact⟨j,h1,h,h2,h3,h4⟩
def xG(b:Expr):Prop:=∀o i,subscripted b false o i=operate [o,i] (JK o i)
def g9(X:Cx)(r:R2):Prop:=∀(value slice:Expr)(pins:List (Addr×Obj))(s:W4)(M:St)(H:Hp)(x y:V)(v u:Value)(Q:VK),Inv X pins M H s->RelV x v->RelV y u->r x y H Q->subscripted slice false v u=operate [v,u] (JK v u)->W7 (model X.prog X.w) X.A (subscriptTail value slice v u) (EP X pins M Q) X.xe s
def xH(X:Cx)(id:String)(r:V->List V->Hp->VK->Prop):Prop:=∀(pins:List (Addr×Obj))(s:W4)(M:St)(H:Hp)(x:V)(xs:List V)(v:Value)(us:List Value)(Q:VK),Inv X pins M H s->RelV x v->Vals xs us->r x xs H Q->W7 (model X.prog X.w) X.A (call (.builtin id) (v::us)) (EP X pins M Q) X.xe s
section
variable{a b:Expr}
theorem g9.or(h:g9 X r)(h':g9 X r'):g9 X λx y H Q=>r x y H Q\/r' x y H Q:=by
 intro value slice pins s M H x y v u Q I rx ry q hs;rcases q with q|q;.exact h value slice pins s M H x y v u Q I rx ry q hs
 .exact h' value slice pins s M H x y v u Q I rx ry q hs
theorem C5(hr:g9 X r)(ha:PE X a ta)(hb:PE X b tb)(hs:xG b):PE X (.Subscript a b pos) (m7 r ta tb):=by intro pins s M H Q I h;exact Subscript_ (xp ha hb I h λv u s2 x y H2 I2 rx ry q=>hr a b pins s2 M H2 x y v u Q I2 rx ry q (hs _ _))
def C6(K:W5):R2:=λx y H Q=>∃p xs i v,x=.ref p/\y=.int i/\cp K H p xs/\eN xs i=some v/\Q v H
def C7(K:W5):R2:=λx y H Q=>∃p xs i v,x=.ref p/\y=.int i/\cE K H p xs/\eN xs i=some v/\Q v H
def C8:R2:=λx y H Q=>∃z i c,x=.str z/\y=.int i/\z.length<=Wb/\eN z.cps.toList i=some c/\Q (.str ⟨#[c]⟩) H
theorem OC:g9 X (C6 X.K):=by
 intro value slice pins s M H x y v u Q I rx ry h hs;obtain⟨p,xs,i,z,rfl,rfl,hq,he,q⟩:=h;cases rx;obtain⟨t,rfl⟩:=ry;obtain⟨ak,r,pl,hz⟩:=I.list hq;obtain⟨j,h1,h2,h3,h4,h5⟩:=xF he;obtain⟨w,ew,cR⟩:=r.get h2;have hl:=r.length;have hn:=oN;have fin:EP X pins M Q w s:=⟨z,H,I,cR,q⟩;by_cases h0:0<=i
 .have hj:i.toNat=j:=by rw[seqIndex_of h0 h5]at h1;exact WN h1
  exact item_listR pl.isList h0 Y' (by rw[hj];simpa using ew) fin hs
 .have hj:(i+(ak.toArray.size:Int)).toNat=j:=by rw[seqIndex_neg Y' h4]at h1;rw[Ww,<-hl];exact WN h1
  exact subscriptTail_builtinR (x:=w) pl.isList.typeIs slot_list_getitem.lookup (wpAny_getItem_list_neg (Q:=λr s'=>r=w/\EP X pins M Q r s') pl.isList Y' (by rw[Ww]<;>lia) Y' (by rw[hj];simpa using ew) ⟨rfl,fin⟩) hs
theorem OD:g9 X (C7 X.K):=by intro value slice pins s M H x y v u Q I rx ry h hs;obtain⟨p,xs,i,z,rfl,rfl,hq,he,q⟩:=h;cases rx;obtain⟨t,rfl⟩:=ry;obtain⟨ak,r,pl,hz⟩:=I.tuple hq;obtain⟨j,h1,h2,h3,h4,h5⟩:=xF he;obtain⟨w,ew,cR⟩:=r.get h2;have hl:=r.length;have hn:=oN;have fin:EP X pins M Q w s:=⟨z,H,I,cR,q⟩;exact subscriptTail_builtinR (x:=w) pl.typeIs slot_tuple_getitem.lookup (getItem_tuple (j:=j) (Q:=λr s'=>r=w/\EP X pins M Q r s') pl Y' Y' (by rw[Ww,<-hl];exact h1) (~~~ew) ⟨rfl,fin⟩) hs
theorem OE:g9 X C8:=by intro value slice pins s M H x y v u Q I rx ry h hs;obtain⟨z,i,c,rfl,rfl,hz,he,q⟩:=h;obtain⟨t,rfl⟩:=rx;obtain⟨t',rfl⟩:=ry;obtain⟨j,h1,h2,h3,h4,h5⟩:=xF he;have hl:z.cps.toList.length=z.length:=#v[Str.length];rw[hl]at h1 h4 h5;have hn:=oN;exact tail_any (typeIs_str s z t) slot_str_getitem.lookup (getItem_str (c:=c) (by have e1:decide (i< -(2^63:Int))=false:=decide_eq_false Y';have e2:decide (i≥2^63)=false:=decide_eq_false Y';rw[e1,e2,Bool.or_false]) (by rw[h1];simpa using h2) ⟨.str ⟨#[c]⟩,H,I.tok _,⟨_,rfl⟩,q⟩) hs
def oP(K:W5):R2:=λx y H Q=>C6 K x y H Q\/C7 K x y H Q\/C8 x y H Q
theorem xI:g9 X (oP X.K):=OC.or (OD.or OE)
theorem OF(ak:List Value)(n j u):Obj.mapSeq (·.setIfInBounds j u) {cls:=.type "list",data:=.seq ak.toArray n}={cls:=.type "list",data:=.seq (ak.set j u).toArray n}:=by simp[Obj.mapSeq]
theorem Inv.lst{X pins M H s p xs}(I:Inv X pins M H s)(h:H p=some (.lst xs)):∃(ak:List Value)(n:Nat),Vals xs ak/\s.heap.get? p=some {cls:=.type "list",data:=.seq ak.toArray n}/\xs.length<=Wb:=by obtain⟨z,ak,n,r,e⟩:=I.aB p _ h;exact⟨ak,n,r,e,z⟩
theorem Inv.OG{s:W4}{p}{xs ys:List V}{ak its':List Value}{n n'}{f:Obj->Obj}(I:Inv X pins M H s)(h:H p=some (.lst xs))(ho:s.heap.get? p=some {cls:=.type "list",data:=.seq ak.toArray n})(hf:f {cls:=.type "list",data:=.seq ak.toArray n}={cls:=.type "list",data:=.seq its'.toArray n'})(r:Vals ys its')(hz:ys.length<=Wb)(t):Inv X pins M (upd H p (.lst ys)) {s with heap:=s.heap.update p f,toks:=t}:=by
 have e:(s.heap.update p f).get? p=some {cls:=.type "list",data:=.seq its'.toArray n'}:=by rw[QP f ho (by rw[hf]<;>rfl),hf]
 refine I.write (x:=p) (e:=p) (by rw[h];trivial) (.inl rfl) (λb u hb q=>(JP _ _ (Ne.symm hb)).trans q) ⟨_,e⟩ ?_;exact⟨hz,its',n',r,e⟩
def OH:V->V->V->Hp->(Hp->Prop)->Prop:=λo i v H Q=>∃p xs k j,o=.ref p/\i=.int k/\H p=some (.lst xs)/\jb xs.length k=some j/\Q (upd H p (.lst (xs.set j v)))
theorem OI:Cf X OH:=by
 intro pins s M H o i v ov iv u Q I ro ri rv h;obtain⟨p,xs,k,j,rfl,rfl,hp,hj,q⟩:=h;cases ro;obtain⟨t,rfl⟩:=ri;obtain⟨ak,n,r,ho,hz⟩:=I.lst hp;obtain⟨h1,h2,h3,h4⟩:=C4 hj;have hl:=r.length;have hn:=oN;have I':Inv X pins M (upd H p (.lst (xs.set j v))) {s with heap:=s.heap.update p (Obj.mapSeq (·.setIfInBounds j u))}:=I.OG hp ho (OF ak n j u) (r.set rv j) %[Qg|hz] s.toks;by_cases h0:0<=k
 .have hk:k.toNat=j:=by rw[seqIndex_of h0 h4]at h1;exact WN h1
  exact PySem.W.ki_setAt ho h0 Y' (by rw[Ww,<-hl];exact h4) (by rw[hk];exact⟨_,I',q⟩)
 .have hk:(k+(ak.toArray.size:Int)).toNat=j:=by rw[seqIndex_neg Y' h3]at h1;rw[Ww,<-hl];exact WN h1
  exact PySem.W.ki_setBack ho Y' (by rw[Ww,<-hl];exact h3) Y' (by rw[hk];exact⟨_,I',q⟩)
theorem OJ(lo hi)(n:Nat):(U2 lo hi none n).1=((ba n 0 lo:Nat):Int)/\(U2 lo hi none n).2.1=((ba n n hi:Nat):Int)/\(U2 lo hi none n).2.2=1:=by
 refine⟨?_,?_,rfl⟩;.cases lo with|none=>simp[U2,ba]|some i=>
   simp only[U2,ba,Option.getD_none,show(1:Int)>0 by decide,if_true];by_cases h:i<0;.simp only[h,if_true]<;>lia
   .simp only[h,if_false]<;>lia
 .cases hi with|none=>simp[U2,ba]|some i=>
 simp only[U2,ba,Option.getD_none,show(1:Int)>0 by decide,if_true];by_cases h:i<0;.simp only[h,if_true]<;>lia
 .simp only[h,if_false]<;>lia
theorem OK(ak:List Value)(lo hi):slicePick ak.toArray lo hi none=((ak.drop (ba ak.length 0 lo)).take (ba ak.length ak.length hi-ba ak.length 0 lo)).toArray:=by obtain⟨h1,h2,h3⟩:=OJ lo hi ak.toArray.size;unfold slicePick;rw[h1,h2,h3];simp only[sliceRange_one,pick_run,Ww]<;>rfl
def C9(K:W5):V->Option Int->Option Int->Hp->VK->Prop:=λx lo hi H Q=>∃a xs,x=.ref a/\cp K H a xs/\∀p,H p=none->Q (.ref p) (upd H p (.lst (mf xs lo hi)))
theorem OL:j_ X (C9 X.K):=by intro pins s M H x v vl vu lo hi sl Q I rx hs pl pu h;obtain⟨a,xs,rfl,hx,q⟩:=h;cases rx;obtain⟨ak,r,ht,hz⟩:=I.list hx;have hlen:=r.length;refine⟨"list",_,slot_list_getitem.lookup,ht.isList.typeIs,?_⟩;refine wpAny_getItem_list_slice ht.isList hs pl pu .none U' ?_ (by rw[Ww]<;>lia);rw[OK,<-hlen];refine⟨.ref s.heap.objs.size,_,I.laid (t':=s.toks) (o:=.lst (mf xs lo hi)) (λb ob q=>W6 _ q) (Wg _) ?_,rfl,q _ (I.aB.fresh (Wg _))⟩;exact⟨Qe (C0 xs lo hi) hz,_,0,(r.drop (ba xs.length 0 lo)).take (ba xs.length xs.length hi-ba xs.length 0 lo),Wh _ rfl⟩
def kU:V->Bool|.aJ=>true|.bl _=>true|.int _=>true|.str _=>true|_=>false
def mh:V->V->Bool|.aJ,.aJ=>true|.bl a,.bl b=>a==b|.bl a,.int b=>(if a then 1 else 0)==b|.int a,.bl b=>a==if b then 1 else 0|.int a,.int b=>a==b|.str a,.str b=>a==b|_,_=>false
theorem OM{x}(ry:RelV y u)(rx:RelV x v)(fy:kU y=true)(fx:kU x=true):SeqAt.EqAt A s u v (mh y x):=by cases y with
 |aJ=>cases ry;cases x with|aJ=>cases rx;exact SeqAt.EqAt.same _|bl b=>cases rx;exact SeqAt.EqAt.none_bool b|int b=>obtain⟨t,rfl⟩:=rx;exact SeqAt.EqAt.none_int b t|str b=>obtain⟨t,rfl⟩:=rx;exact SeqAt.EqAt.none_str b t|_=>exact absurd (show false=true from fx) WD
 |bl a=>cases ry;cases x with|aJ=>cases rx;exact SeqAt.EqAt.bool_none a|bl b=>cases rx;exact SeqAt.EqAt.bool_bool a b|int b=>obtain⟨t,rfl⟩:=rx;exact SeqAt.EqAt.bool_int a b t|str b=>obtain⟨t,rfl⟩:=rx;exact SeqAt.EqAt.bool_str a b t|_=>exact absurd (show false=true from fx) WD
 |int a=>obtain⟨t',rfl⟩:=ry;cases x with|aJ=>cases rx;exact SeqAt.EqAt.int_none a t'|bl b=>cases rx;exact SeqAt.EqAt.int_bool a t' b|int b=>obtain⟨t,rfl⟩:=rx;exact SeqAt.EqAt.int_int a t' b t|str b=>obtain⟨t,rfl⟩:=rx;exact SeqAt.EqAt.int_str a t' b t|_=>exact absurd (show false=true from fx) WD
 |str a=>obtain⟨t',rfl⟩:=ry;cases x with|aJ=>cases rx;exact SeqAt.EqAt.str_none a t'|bl b=>cases rx;exact SeqAt.EqAt.str_bool a t' b|int b=>obtain⟨t,rfl⟩:=rx;exact SeqAt.EqAt.str_int a t' b t|str b=>obtain⟨t,rfl⟩:=rx;exact SeqAt.EqAt.str_str a t' b t|_=>exact absurd (show false=true from fx) WD
 |_=>exact absurd (show false=true from fy) WD
def kW(x:V)(u:Value):Bool:=match u with|.none=>mh .aJ x|.bool b=>mh (.bl b) x|.int i _=>mh (.int i) x|.str z _=>mh (.str z) x|_=>false
theorem C_{x}(r:RelV y u)(f:kU y=true):kW x u=mh y x:=by cases y with|aJ=>cases r;rfl|bl b=>cases r;rfl|int i=>obtain⟨t,rfl⟩:=r;rfl|str z=>obtain⟨t,rfl⟩:=r;rfl|_=>exact absurd (show false=true from f) WD
theorem xJ{x}{xs:List V}{us:List Value}(h:Vals xs us):xs.all kU=true->us.any (kW x)=xs.any λy=>mh y x:=by induction h with|nil=>exactλ_=>rfl|cons r t ih=>intro f;rw[JL,Wy]at f;rw[Qj,Qj,C_ r f.1,ih f.2]
theorem xK{x}(rx:RelV x v)(fx:kU x=true){xs:List V}{us}(h:Vals xs us):xs.all kU=true->∀u∈us,SeqAt.EqAt A s u v (kW x u):=by induction h with|nil=>exactλ_ _ h=>nomatch h|cons r t ih=>
  intro f u' hu;rw[JL,Wy]at f;rcases Wf.mp hu with rfl|hu;.rw[C_ r f.1];exact OM r rx f.1 fx
  .exact ih f.2 u' hu
def um(x:V)(xs:List V):Bool:=xs.any λy=>mh y x
def Dc(K:W5)(neg:Bool):R2:=λx y H Q=>∃p xs,y=.ref p/\(cp K H p xs\/cE K H p xs)/\kU x=true/\xs.all kU=true/\Q (.bl (if neg then !um x xs else um x xs)) H
theorem ON:bD X (WF .NotIn) (Dc X.K true):=by
 intro pins s M H x y v u Q I rx ry h;obtain⟨p,xs,rfl,hq,fx,fs,q⟩:=h;cases ry;rcases hq with hq|hq;.obtain⟨ak,r,pl,hz⟩:=I.list hq;refine SeqAt.notIn_listAt (kW x) pl.isList (λw hw=>xK rx fx r fs w (~~~hw)) ⟨.bl _,H,I,rfl,?_⟩;rw[show ak.toArray.any (kW x)=ak.any (kW x)by simp,xJ r fs];exact q
 .obtain⟨ak,r,pl,hz⟩:=I.tuple hq;refine SeqAt.notIn_tupleAt (kW x) pl (λw hw=>xK rx fx r fs w (~~~hw)) ⟨.bl _,H,I,rfl,?_⟩;rw[show ak.toArray.any (kW x)=ak.any (kW x)by simp,xJ r fs];exact q
theorem OO:eF X (.builtin "len") λxs H Q=>∃p ys,xs=[.ref p]/\(cp X.K H p ys\/cE X.K H p ys)/\Q (.int ys.length) H:=by
 intro pins s M H xs us Q I r h;obtain⟨p,ys,rfl,hq,q⟩:=h;obtain⟨u,rfl,rx⟩:=gI r;cases rx;have hn:=oN;rcases hq with hq|hq;.obtain⟨ak,r',pl,hz⟩:=I.list hq;have hlen:=r'.length;exact Calls.call_len_list pl.isList (by simp only[Ww]<;>lia) ⟨.int ys.length,H,I.tok _,⟨s.toks+1,by rw[Ww,hlen]⟩,q⟩
 .obtain⟨ak,r',pl,hz⟩:=I.tuple hq;have hlen:=r'.length;exact len_tuple pl (by simp only[Ww]<;>lia) ⟨.int ys.length,H,I.tok _,⟨s.toks+1,by rw[Ww,hlen]⟩,q⟩
theorem OP:eF X (.builtin "len") λxs H Q=>∃z,xs=[.str z]/\z.length<=Wb/\Q (.int z.length) H:=by intro pins s M H xs us Q I r h;obtain⟨z,rfl,hz,q⟩:=h;obtain⟨u,rfl,t,rfl⟩:=gI r;have hn:=oN;exact len_str Y' ⟨.int z.length,H,I.tok _,⟨_,rfl⟩,q⟩
theorem eF.or{r'}(h:eF X f r)(h':eF X f r'):eF X f λxs H Q=>r xs H Q\/r' xs H Q:=by
 intro pins s M H xs us Q I rs q;rcases q with q|q;.exact h pins s M H xs us Q I rs q
 .exact h' pins s M H xs us Q I rs q
theorem OQ:eF X (.type "list") λxs H Q=>∃p ys,xs=[.ref p]/\(cp X.K H p ys\/cE X.K H p ys)/\∀l,H l=none->Q (.ref l) (upd H l (.lst ys)):=by
 intro pins s M H xs us Q I r h;obtain⟨p,ys,rfl,hq,q⟩:=h;obtain⟨u,rfl,rx⟩:=gI r;cases rx;have fin:∀(ak:List Value),Vals ys ak->ys.length<=Wb->∀(h':Heap)(c':Nat),(∀b o',s.heap.get? b=some o'->h'.get? b=some o')->h'.get? s.heap.objs.size=some {cls:=.type "list",dict:=none,data:=.seq ak.toArray c',slots:=#[]}->EP X pins M Q (.ref s.heap.objs.size) {s with heap:=h'}:=λak r' hz h' c' kp e=>⟨.ref s.heap.objs.size,_,I.laid (t':=s.toks) kp (Wg _) (show bX X.prog X.w _ h' _ (.lst ys)from⟨hz,ak,c',r',e⟩),rfl,q _ (I.aB.fresh (Wg _))⟩;rcases hq with hq|hq;.obtain⟨ak,r',pl,hz⟩:=I.list hq;have hlen:=r'.length;obtain⟨o,ho,hc,n,hd⟩:=pl.isList;exact call_list_seq p (.inl rfl) ho hc hd (λh' c' kp e=>fin ak r' hz h' c' kp e) (by simp only[Ww]<;>lia)
 .obtain⟨ak,r',pl,hz⟩:=I.tuple hq;have hlen:=r'.length;obtain⟨o,ho,hc,n,hd⟩:=pl;exact call_list_seq p (.inr rfl) ho hc hd (λh' c' kp e=>fin ak r' hz h' c' kp e) (by simp only[Ww]<;>lia)
theorem OR:eF X (.type "tuple") λxs H Q=>∃p ys,xs=[.ref p]/\((cp X.K H p ys/\∀l,H l=none->Q (.ref l) (upd H l (.tup ys)))\/cE X.K H p ys/\Q (.ref p) H):=by
 intro pins s M H xs us Q I r h;obtain⟨p,ys,rfl,h⟩:=h;obtain⟨u,rfl,rx⟩:=gI r;cases rx;rcases h with⟨hq,q⟩|⟨hq,q⟩;.obtain⟨ak,r',pl,hz⟩:=I.list hq;have hlen:=r'.length;refine call_tuple_list pl.isList (λh' kp=>?_) (by simp only[Ww]<;>lia);have I1:Inv X pins M H {s with heap:=h'}:=I.kept (t':=s.toks) kp;have I2:Inv X pins M (upd H h'.objs.size (.tup ys)) {s with heap:=h'.push {cls:=.type "tuple",data:=.seq ak.toArray}}:=I1.laid (t':=s.toks) (λb o e=>W6 _ e) (Wg _) (show bX X.prog X.w _ _ _ (.tup ys)from⟨hz,ak,r',iB.new _ _⟩);exact⟨.ref h'.objs.size,_,I2,rfl,q _ (I1.aB.fresh (Wg _))⟩
 .obtain⟨ak,r',pl,hz⟩:=I.tuple hq;exact call_tuple_same pl ⟨.ref p,H,I,rfl,q⟩
def xM(K:W5)(T:String)(x:V)(H:Hp):Prop:=match x with|.str _=>T="str"|.int _=>T="int"|.ref p=>(T="list"/\∃xs,cp K H p xs)\/(T="tuple"/\∃o,K.lookup p=some o/\o.cls=.type "tuple"/\o.dict=none)\/T="dict"/\((∃ae,H p=some (.dK ae))\/∃ae,H p=some (.dT ae))\/T="set"/\∃S n,H p=some (.set S n)|_=>False
theorem OS{x}(I:Inv X pins M H s)(r:RelV x v)(ty:xM X.K T x H):s.TypeIs v T/\∀a,v=.ref a->∃ob,s.heap.get? a=some ob/\ob.dict=none:=by
 cases x with|str z=>obtain⟨t,rfl⟩:=r;cases show T="str"from ty;exact⟨typeIs_str s z t,λ_ e=>nomatch e⟩|int i=>obtain⟨t,rfl⟩:=r;cases show T="int"from ty;exact⟨typeIs_int s i t,λ_ e=>nomatch e⟩|ref p=>
  cases r;rcases ty with⟨rfl,xs,hq⟩|⟨rfl,o,hk,hc,hd⟩|⟨rfl,hk⟩|⟨rfl,S,n,hk⟩;.obtain⟨ak,_,pl,_⟩:=I.list hq;refine⟨pl.isList.typeIs,λa e=>?_⟩;cases e;obtain⟨o,n,e,c,hd,_⟩:=pl;exact⟨o,e,hd⟩
  .refine⟨⟨o,I.fm p o hk,hc⟩,λa e=>?_⟩;cases e;exact⟨o,I.fm _ o hk,hd⟩
  .have z:∃o,s.heap.get? p=some o/\o.ExactDict:=by
    rcases hk with⟨ae,hk⟩|⟨ae,hk⟩;.obtain⟨_,_,_,_,o,_,_,e,ex,_⟩:=I.aB p _ hk;exact⟨o,e,ex⟩
    .obtain⟨_,_,_,_,o,_,_,e,ex,_⟩:=I.aB p _ hk;exact⟨o,e,ex⟩
   obtain⟨o,e,ex⟩:=z;refine⟨⟨o,e,ex.1⟩,λa e2=>?_⟩;cases e2;exact⟨o,e,ex.2.1⟩
  .obtain⟨o,_,_,_,e,ex,_⟩:=I.aB p _ hk;refine⟨⟨o,e,ex.1⟩,λa e2=>?_⟩;cases e2;exact⟨o,e,ex.2.1⟩|_=>exact False.elim ty
def uo(K:W5)(T:String)(r:V->List V->Hp->VK->Prop)(to:TE)(t:TA):TE:=λM H Q=>to M H λx H1=>xM K T x H1/\t M H1 λxs H2=>r x xs H2 Q
variable{o:Expr}{to:TE}{t:TA}{T id:String}{r:V->List V->Hp->VK->Prop}
theorem uq(pa:PlainAttrs T)(slot:Slot T name id)(OT:typeOf (.builtin id)=pure (.type "method_descriptor"))(hm:xH X id r)(ho:PE X o to)(ha:PA X (e::es) t)(m_:Ja o name X.env (eval o X.env)=eval o X.env:=by rfl)(nh:((Qz bF (We (e::es) X.env)).all (λx=>!x.1)&&(backToKw bF (Uq [] X.env)).all (λx=>x.1.isSome)&&decide ((e::es).length+([]:List Keyword).length+(if([]:List Keyword).isEmpty then 0 else 1)<30))=true:=by rfl)(ni:(apos.endLine==bF.line)=true:=by rfl)(hs:We (e::es) X.env=(false,eval e X.env)::We es X.env:=by rfl)(xN:(Qz bF (We es X.env)).any (·.1)=false:=by rfl):PE X (.Call (.Attribute o name apos) (e::es) [] bF) (uo X.K T r to t):=by intro pins s M H Q I h;refine wpAny_Call_method_late m_ nh ni rfl (aM (ho pins s M H _ I h) λv s1 hh=>?_);obtain⟨x,H1,I1,r1,ty,q1⟩:=hh;obtain⟨h1,h2⟩:=OS I1 r1 ty;refine⟨T,id,pa,slot,OT,h1,h2,?_⟩;have hA:=ha bF pins s1 M H1 _ I1 q1;rw[hs]at hA⊢;refine Calls.callWith_builtin (by show(false||(Qz bF (We es X.env)).any (·.1))=false;rw[xN]<;>rfl) (Calls.evalArgs_plain ?_);exact aM hA λus s2⟨vs,H2,I2,r2,q2⟩=>hm pins s2 M H2 x vs v us Q I2 r1 r2 q2
end
def OU(X:Cx)(id:String)(r:V->List V->Hp->VK->Prop):Prop:=∀(pins:List (Addr×Obj))(s:W4)(M:St)(H:Hp)(x:V)(xs:List V)(v:Value)(us:List Value)(Q:VK),Inv X pins M H s->RelV x v->Vals xs us->r x xs H Q->W7 (model X.prog X.w) X.A (call (.builtin id) (v::us)) (EP X pins M Q) X.xe s
theorem Vals.two{x y us}(h:Vals [x,y] us):∃u v,us=[u,v]/\RelV x u/\RelV y v:=by cases h with|cons r t=>obtain⟨u,rfl,q⟩:=gI t;exact⟨_,_,rfl,r,q⟩
theorem Vals.reverse{xs}(h:Vals xs us):Vals xs.reverse us.reverse:=by induction h with|nil=>exact .nil|cons r t ih=>rw[List.reverse_cons,List.reverse_cons];exact Vals.append ih (.cons r .nil)
section
variable{s:W4}{l b:Addr}{xs zs:List V}
theorem Inv.OV{ak its':List Value}{n}{f:Array Value->Array Value}{t'}(I:Inv X pins M H s)(hH:H l=some (.lst xs))(e:s.heap.get? l=some {cls:=.type "list",data:=.seq ak.toArray n})(hf:f ak.toArray=its'.toArray)(hv:Vals ys its')(hz:ys.length<=Wb):Inv X pins M (upd H l (.lst ys)) {s with heap:=s.heap.update l (Obj.mapSeq f),toks:=t'}:=by have q:=PySem.IsL.update e f;rw[hf]at q;refine I.write (x:=l) (e:=l) %[hH|trivial] (.inl rfl) (λb' u hb hu=>(JP s.heap (Obj.mapSeq f) (Ne.symm hb)).trans hu) ⟨_,q⟩ ?_;exact⟨hz,its',_,hv,q⟩
theorem Inv.OW(I:Inv X pins M H s)(hv:Vals ys ak)(hz:ys.length<=Wb):Inv X pins M (upd H s.heap.objs.size (.lst ys)) {s with heap:=s.heap.push {cls:=.type "list",data:=.seq ak.toArray},toks:=t'}:=I.laid (λ_ _ q=>W6 _ q) (Wg _) ⟨hz,ak,0,hv,Wh _ rfl⟩
theorem Inv.fresh(I:Inv X pins M H s):H s.heap.objs.size=none:=I.aB.fresh (Wg _)
theorem Inv.OX(I:Inv X pins M H s)(hH:H l=some (.lst xs)):xs.length<=Wb/\∃(ak:List Value)(n:Nat),Vals xs ak/\xs.length=ak.length/\s.heap.get? l=some {cls:=.type "list",data:=.seq ak.toArray n}:=by obtain⟨z,ak,n,r,e⟩:=I.aB l _ hH;exact⟨z,ak,n,r,r.length,e⟩
end
def ur:V->List V->Hp->VK->Prop:=λx vs H Q=>∃l xs y,x=.ref l/\vs=[y]/\H l=some (.lst xs)/\xs.length<Wb/\Q .aJ (upd H l (.lst (xs++[y])))
theorem xO:OU X "list.append" ur:=by intro pins s M H x vs v us Q I rx rv h;obtain⟨l,xs,y,rfl,rfl,hH,hz,q⟩:=h;cases rx;obtain⟨u,rfl,ru⟩:=gI rv;obtain⟨z,ak,n,r,hl,e⟩:=I.OX hH;refine Uh F.slot_list_append ⟨_,e,rfl⟩ F.entry_list_append (F.args_list_append_2 _ _) (PySem.list_append l ak.toArray n u (by rw[Ww];lia)) ⟨e,?_⟩;refine⟨.aJ,_,I.OV (its':=ak++[u]) hH e U' (r.append (.cons ru .nil)) ?_,rfl,q⟩;rw[QS,List.length_singleton];lia
section
variable{κ:Type}[DecidableEq κ]
def gq(ae:List (κ×V))(k:κ):Option V:=(ae.find? λkv=>decide (kv.1=k)).map (·.2)
def putK(ae:List (κ×V))(k:κ)(v:V):List (κ×V):=if(ae.any λkv=>decide (kv.1=k))=true then ae.map λkv=>if kv.1=k then(kv.1,v)else kv else ae++[(k,v)]
theorem uu{p:κ×V}{r:List (κ×V)}{k:κ}(e:p.1=k):gq (p::r) k=some p.2:=#v[gq,Q7,e]
theorem uv{p:κ×V}{r:List (κ×V)}{k:κ}(e:¬p.1=k):gq (p::r) k=gq r k:=#v[gq,Q7,e]
theorem Dd(k:κ):∀ae:List (κ×V),(ae.any λkv=>decide (kv.1=k))=(gq ae k).isSome
 |[]=>rfl|p::r=>by
  rw[Qj];by_cases e:p.1=k;.simp only[uu e,decide_eq_true e,Bool.true_or,Option.isSome_some]
  .rw[uv e,decide_eq_false e,Bool.false_or];exact Dd k r
theorem oQ(ae:List (κ×V))(k:κ)(v):(putK ae k v).length<=ae.length+1:=by
 unfold putK;split;.rw[Ws];lia
 .rw[QS,WP,U5];lia
theorem gj.qJ{u}(r:gj o u):o.isSome=u.isSome:=by cases o with
 |none=>cases u with|none=>rfl|some _=>exact(show False from r).elim
 |some _=>cases u with|none=>exact(show False from r).elim|some _=>rfl
theorem KV.val{ae:List (κ×V)}{vs:List (κ×Value)}(r:KV ae vs)(k:κ):gj (gq ae k) (valueAt vs k):=by unfold KV at r;induction r with|nil=>exact True.intro|@cons p q ps qs h t ih=>
 obtain⟨h1,h2⟩:=h;by_cases e:p.1=k;.have e':q.1=k:=h1.symm.trans e;have b:valueAt (q::qs) k=some q.2:=#v[valueAt,Q7,e'];rw[uu e,b];exact h2
 .have e':¬q.1=k:=λz=>e (h1.trans z);have b:valueAt (q::qs) k=valueAt qs k:=#v[valueAt,Q7,e'];rw[uv e,b];exact ih
theorem KV.any{vs}(r:KV ae vs)(k:κ):(ae.any λkv=>decide (kv.1=k))=vs.any λkv=>decide (kv.1=k):=by unfold KV at r;induction r with|nil=>rfl|cons h t ih=>rw[Qj,Qj,ih,h.1]
theorem KV.xP{vs}(r:KV ae vs)(k:κ)(ry:RelV y u):KV (ae.map λkv=>if kv.1=k then(kv.1,y)else kv) (vs.map λkv=>if kv.1=k then(kv.1,u)else kv):=by unfold KV at r⊢;induction r with|nil=>exact .nil|@cons p q ps qs h t ih=>rw[Wi,Wi];refine .cons ?_ ih;grind
theorem KV.put{vs}(r:KV ae vs)(k:κ)(ry:RelV y u):KV (putK ae k y) (stored vs k u):=by
 unfold putK stored;rw[r.any k];by_cases e:(vs.any λkv=>decide (kv.1=k))=true;.rw[if_pos e,if_pos e];exact r.xP k ry
 .rw[if_neg e,if_neg e];exact Paired.snoc r ⟨rfl,ry⟩
theorem KV.length{vs}(r:KV ae vs):ae.length=vs.length:=Paired.length r
end
theorem kX(r:RelV (kV k) u):(eY P w).is k u=true:=by cases k with|inl i=>obtain⟨t,e⟩:=show∃t,u=Value.int i t from r;subst e;exact MU P w i t|inr x=>obtain⟨t,e⟩:=show∃t,u=Value.str x t from r;subst e;exact MV P w x t
theorem De:∀{ks:List Key}{us:List Value},Vals (ks.map kV) us->ItemsAre (eY P w) ks us|[],_,r=>by rw[Jk]at r;cases r;exact .nil|k::ks,_,r=>by rw[Wi]at r;cases r with|cons h t=>exact .cons (kX h) (De t)
abbrev KT(H:Hp):List (List Key×V)->List (List Key×Addr×Value)->Prop:=Paired λp q=>p.1=q.1/\H q.2.1=some (.tup (p.1.map kV))/\RelV p.2 q.2.2
theorem KT.val{H}{ae:List (List Key×V)}{xs:List (List Key×Addr×Value)}(r:KT H ae xs)(k):gj (gq ae k) ((atKey xs k).map (·.2)):=by induction r with|nil=>exact True.intro|@cons p q ps qs h t ih=>
 obtain⟨h1,_,h2⟩:=h;by_cases e:p.1=k;.have e':q.1=k:=h1.symm.trans e;have b:atKey (q::qs) k=some q.2:=#v[atKey,Q7,e'];rw[uu e,b];exact h2
 .have e':¬q.1=k:=λz=>e (h1.trans z);have b:atKey (q::qs) k=atKey qs k:=#v[atKey,Q7,e'];rw[uv e,b];exact ih
theorem KT.xP{xs}(r:KT H ae xs)(k)(ry:RelV y u):KT H (ae.map λkv=>if kv.1=k then(kv.1,y)else kv) (xs.map (putAt k u)):=by induction r with|nil=>exact .nil|@cons p q ps qs h t ih=>
 rw[Wi,Wi];refine .cons ?_ ih;obtain⟨h1,h2,h3⟩:=h;unfold putAt;by_cases e:p.1=k;.rw[if_pos e,if_pos (h1.symm.trans e)];exact⟨h1,h2,ry⟩
 .rw[if_neg e,if_neg λz=>e (h1.trans z)];exact⟨h1,h2,h3⟩
theorem KT.put{xs}(r:KT H ae xs)(k:List Key)(hb:H b=some (.tup (k.map kV)))(ry:RelV y u):KT H (putK ae k y) (storedH xs k b u):=by
 have e:(ae.any λkv=>decide (kv.1=k))=(atKey xs k).isSome:=by rw[Dd,(r.val k).qJ,Option.isSome_map]
 unfold putK storedH;rw[e];by_cases q:(atKey xs k).isSome=true;.rw[if_pos q,if_pos q];exact r.xP k ry
 .rw[if_neg q,if_neg q];exact Paired.snoc r ⟨rfl,hb,ry⟩
theorem KT.keeps{xs}(r:KT H ae xs)(ht:∀b ys,H b=some (.tup ys)->H' b=some (.tup ys)):KT H' ae xs:=Paired.w4 r λ_ _ z=>⟨z.1,ht _ _ z.2.1,z.2.2⟩
section
variable{a:Addr}
theorem Df{u}(ok:cK P w H h)(e:Rd H a u):bX P w H h a u:=e.ok ok
theorem qK(ok:cK P w H h)(e:Rd H a (.dK ae)):ae.length<=Wb/\(a==Qt)=false/\∃vs,KV ae vs/\h.DictOf (eY P w) a vs:=show bX P w H h a (.dK ae)from Df ok e
theorem oR(ok:cK P w H h)(e:H a=some (.dK ae)):ae.length<=Wb/\(a==Qt)=false/\∃vs,KV ae vs/\h.DictOf (eY P w) a vs:=qK ok (.inl e)
theorem qL(ok:cK P w H h)(e:H a=some (.tup (ks.map kV))):(tupleKind (eY P w)).is h ks a:=by obtain⟨_,ak,r,p⟩:=show bX P w H h a (.tup (ks.map kV))from ok a _ e;obtain⟨o,h1,h2,n,h3⟩:=p.tup;exact⟨o,ak.toArray,n,h1,h2,h3,by simpa using De r⟩
theorem uw(ok:cK P w H h)(e:Rd H a (.dT ae)):ae.length<=Wb/\(a==Qt)=false/\∃xs,KT H ae xs/\h.DictOfH (tupleKind (eY P w)) a xs:=by
 obtain⟨z,y,xs,r,o,es,ep,h1,h2,h3,h4,h5⟩:=show bX P w H h a (.dT ae)from Df ok e;refine⟨z,y,xs,r,o,es,ep,h1,h2,h3,h4,λx hx=>?_,h5⟩;have all:∀{l:List (List Key×V)}{m:List (List Key×Addr×Value)},KT H l m->∀x∈m,(tupleKind (eY P w)).is h x.1 x.2.1:=by intro l m q;induction q with|nil=>intro x hx;exact nomatch hx|@cons p q ps qs hq t ih=>
   intro x hx;rcases Wf.mp hx with e|hx;.subst e;exact qL ok (by rw[<-hq.1];exact hq.2.1)
   .exact ih x hx
 exact all r x hx
theorem OY(ok:cK P w H h)(e:H a=some (.dT ae)):ae.length<=Wb/\(a==Qt)=false/\∃xs,KT H ae xs/\h.DictOfH (tupleKind (eY P w)) a xs:=uw ok (.inl e)
end
def mi(H:Hp)(a:Addr)(y:V)(r:Option V):Prop:=(∃ae k,Rd H a (.dK ae)/\y=kV k/\r=gq ae k)\/∃ae k b,Rd H a (.dT ae)/\y=.ref b/\H b=some (.tup (k.map kV))/\r=gq ae k
def qM(H:Hp)(a:Addr)(y v:V)(H':Hp):Prop:=(∃ae k,H a=some (.dK ae)/\y=kV k/\ae.length<Wb/\H'=upd H a (.dK (putK ae k v)))\/∃ae k b,H a=some (.dT ae)/\y=.ref b/\H b=some (.tup (k.map kV))/\ae.length<Wb/\H'=upd H a (.dT (putK ae k v))
theorem mi.k{a ae k}(e:H a=some (.dK ae)):mi H a (kV k) (gq ae k):=.inl ⟨ae,k,.inl e,rfl,rfl⟩
theorem qM.k{a}{ae:List (Key×V)}{k v}(e:H a=some (.dK ae))(hl:ae.length<Wb):qM H a (kV k) v (upd H a (.dK (putK ae k v))):=.inl ⟨ae,k,e,rfl,hl,rfl⟩
section
variable{s:W4}{a:Addr}{y v:V}{r:Value}{o:Option V}
theorem Inv.big(I:Inv X pins M H s):Qt<s.heap.objs.size:=by have h:Wz<s.heap.objs.size:=(I.mod.glob.keeps I.bk).lt;exact Nat.lt_trans Z' h
theorem OZ(hu:A.units+1<Q1)(I:Inv X pins M H s)(g:mi H a y (some v))(ry:RelV y u)(h:∀w' s',Inv X pins M H s'->RelV v w'->Q w' s'):W7 (model X.prog X.w) A (JK (.ref a) u) Q E s:=by
 rcases g with⟨ae,k,e,ey,l⟩|⟨ae,k,b,e,ey,eb,l⟩;.subst ey;obtain⟨z,hd,vs,rel,dd⟩:=qK I.aB e;obtain⟨w',hw,cR⟩:=gj.some_of (v:=v) (o:=valueAt vs k) %[l|rel.val k];exact wpAny_getItem_of (kX ry) dd.mapOf hw (h w' _ (I.tok _) cR)
 .subst ey;cases show u=Value.ref b from ry;obtain⟨z,hd,xs,rel,dd⟩:=uw I.aB e;obtain⟨w',hw,cR⟩:=gj.some_of (v:=v) (o:=(atKey xs k).map (·.2)) %[l|rel.val k];obtain⟨p,hp,hp2⟩:=Option.map_eq_some_iff.mp hw;refine wpAny_getItem_heap (Ua hu) (qL I.aB eb) dd hp ?_;rw[hp2];exact h w' _ (I.tok _) cR
theorem O0(hu:A.units+1<Q1)(I:Inv X pins M H s)(g:mi H a y o)(ry:RelV y u)(h:∀s',Inv X pins M H s'->Q (.bool o.isSome) s'):W7 (model X.prog X.w) A (WF .In u (.ref a)) Q E s:=by
 rcases g with⟨ae,k,e,ey,l⟩|⟨ae,k,b,e,ey,eb,l⟩;.subst ey;obtain⟨z,hd,vs,rel,dd⟩:=qK I.aB e;refine wpAny_in_of (kX ry) hd dd.mapOf ?_;rw[<-(rel.val k).qJ,<-l];exact h _ (I.tok _)
 .subst ey;cases show u=Value.ref b from ry;obtain⟨z,hd,xs,rel,dd⟩:=uw I.aB e;refine wpAny_in_heap (Ua hu) (qL I.aB eb) hd dd ?_;have q:=(rel.val k).qJ;rw[Option.isSome_map]at q;rw[<-q,<-l];exact h _ (I.tok _)
theorem O1(hu:A.units+1<Q1)(I:Inv X pins M H s)(g:mi H a y o)(ry:RelV y u)(h:∀s',Inv X pins M H s'->Q (.bool !o.isSome) s'):W7 (model X.prog X.w) A (WF .NotIn u (.ref a)) Q E s:=by
 rcases g with⟨ae,k,e,ey,l⟩|⟨ae,k,b,e,ey,eb,l⟩;.subst ey;obtain⟨z,hd,vs,rel,dd⟩:=qK I.aB e;refine wpAny_notIn_of (kX ry) hd dd.mapOf ?_;rw[<-(rel.val k).qJ,<-l];exact h _ (I.tok _)
 .subst ey;cases show u=Value.ref b from ry;obtain⟨z,hd,xs,rel,dd⟩:=uw I.aB e;refine wpAny_notIn_heap (Ua hu) (qL I.aB eb) hd dd ?_;have q:=(rel.val k).qJ;rw[Option.isSome_map]at q;rw[<-q,<-l];exact h _ (I.tok _)
theorem nj(I:Inv X pins M H s)(mu:qu (H a))(hs:Qx a s.heap h')(he:∃q,h'.get? a=some q)(new:bX X.prog X.w (upd H a ob) h' a ob):Inv X pins M (upd H a ob) {s with heap:=h',toks:=t'}:=I.write (x:=a) (e:=a) mu (.inl rfl) (λb q hb z=>(hs.2 b hb).trans z) he new
theorem ux{vs}(z:ae.length<=Wb)(hd:(a==Qt)=false)(rel:KV ae vs)(dd:h'.DictOf (eY P w) a vs):bX P w H' h' a (.dK ae):=⟨z,hd,vs,rel,dd⟩
theorem O2{Q}(hu:A.units+1<Q1)(I:Inv X pins M H s)(g:qM H a y v H')(ry:RelV y u)(rv:RelV v r)(h:∀s',Inv X pins M H' s'->Q () s'):W7 (model X.prog X.w) A (setItem (.ref a) u r) Q E s:=by
 rcases g with⟨ae,k,e,ey,l,eH⟩|⟨ae,k,b,e,ey,eb,l,eH⟩
 .subst ey eH;obtain⟨z,hd,vs,rel,dd⟩:=oR I.aB e;have hz:vs.length<=Wb:=by rw[<-rel.length];exact z
  have hl:(putK ae k v).length<=Wb:=by have:=oQ ae k v;lia
  refine wpAny_setItem_pairs (hsz:=hz) (kX ry) dd λh' iF hs=>h _ ?_;have he:∃q,h'.get? a=some q:=let⟨q,_,_,hq,_⟩:=iF;⟨q,hq⟩;exact nj I %[e|True.intro] hs he (ux hl hd (rel.put k rv) iF)
 .subst ey eH;cases show u=Value.ref b from ry;obtain⟨z,hd,xs,rel,dd⟩:=OY I.aB e;have hz:xs.length<=Wb:=by rw[<-Paired.length rel];exact z
  have hl:(putK ae k v).length<=Wb:=by have:=oQ ae k v;lia
  refine wpAny_setItem_heap (hsz:=hz) (Ua hu) (qL I.aB eb) dd λh' iF hs=>h _ ?_;obtain⟨q,es,ep,hq,h2,h3,h4,_,h5⟩:=iF;refine nj I %[e|True.intro] hs ⟨q,hq⟩ ⟨hl,hd,_,(rel.put k eb rv).keeps λc ys ec=>?_,q,es,ep,hq,h2,h3,h4,h5⟩;rw[aP (MW ec e λz=>nomatch z)];exact ec
end
section
variable{s:W4}{a:Addr}{ae:List (Key×V)}{k:Key}
theorem O3(I:Inv X pins M H s)(e:Rd H a (.dK ae))(h:∀t s',Inv X pins M H s'->Q (.int ae.length t) s'):W7 (model X.prog X.w) A (call (.builtin "len") [.ref a]) Q E s:=by obtain⟨z,hd,vs,rel,dd⟩:=qK I.aB e;refine call_len_dict hd dd (by rw[<-rel.length];rw[QK]at z;lia) ?_;rw[<-rel.length];exact h _ _ (I.tok _)
end
def O4(td ty tv:TE):TS:=λD M H=>tv M H λv H1=>td M H1 λx H2=>ty M H2 λy H3=>∃a H4,x=.ref a/\qM H3 a y v H4/\D.nx M H4
section
variable{o i value:Expr}
theorem O5(hu:X.A.units+1<Q1)(ho:PE X o td)(hi:PE X i ty)(hv:PE X value tv)(hs:J9 value (some (.Subscript o i pos')) pos.line X.env=pure false):PS X (.Assign [.Subscript o i pos'] value pos) (O4 td ty tv):=by intro pins s M H D I h;refine wpAny_Assign_Subscript (aMc (hv pins s M H _ I h) λr s1 v H1 I1 rv q1=>aMc (ho pins s1 M H1 _ I1 q1) λu s2 x H2 I2 rx q2=>aM (hi pins s2 M H2 _ I2 q2) λiv s3 hh=>?_) hs;obtain⟨y,H3,I3,ry,a,H4,ex,g,q3⟩:=hh;subst ex;obtain rfl:u=Value.ref a:=rx;exact O2 hu I3 g ry rv λs4 I4=>⟨M,H4,I4,q3⟩
end
theorem uy(h:Heap)(hb:Qt<h.objs.size):bX P w H (h.push {cls:=.type "dict",data:=.dict #[]}) h.objs.size (.dK []):=⟨QE _,beq_eq_false_iff_ne.mpr (Ne.symm (WR hb)),[],.nil,Heap.DictOf.new h⟩
def O6:TE:=λ_ H Q=>∀p,H p=none->Q (.ref p) (upd H p (.dK []))
theorem O7:PE X (.Dict [] [] pos) O6:=λpins s M H Q I h=>wpAny_Dict_empty ⟨.ref s.heap.objs.size,_,I.laid (a:=s.heap.objs.size) (o:=.dK []) (t':=s.toks) (λ_ _ q=>W6 _ q) (Wg _) (uy s.heap I.big),rfl,h _ (I.aB.fresh (Wg _))⟩
def xQ:List (TE×TE)->St->Hp->(List (V×V)->Hp->Prop)->Prop|[],_,H,Q=>Q [] H|(tk,tv)::r,M,H,Q=>tk M H λx H1=>tv M H1 λy H2=>xQ r M H2 λps H3=>Q ((x,y)::ps) H3
abbrev VV:List (V×V)->List (Value×Value)->Prop:=Paired λp q=>RelV p.1 q.1/\RelV p.2 q.2
def uz(X:Cx)(pos:Pos)(keys:List (Option Expr))(values:List Expr)(nq:List (TE×TE)):Prop:=∀(pins:List (Addr×Obj))(s:W4)(M:St)(H:Hp)(Q:List (V×V)->Hp->Prop),Inv X pins M H s->xQ nq M H Q->W7 (model X.prog X.w) X.A (evalPairs (pairTrees keys values X.env pos)) (λvs s'=>∃ps H',Inv X pins M H' s'/\VV ps vs/\Q ps H') X.xe s
theorem O8:uz X pos [] [] []:=λpins s M H Q I h=>pairTrees_nil_walk ⟨[],H,I,.nil,h⟩
theorem O9{vs}(hk:PE X k tk)(hv:PE X v tv)(hr:uz X pos ks vs nq):uz X pos (some k::ks) (v::vs) ((tk,tv)::nq):=λpins s M H Q I h=>pairTrees_cons_walk (aMc (hk pins s M H _ I h) λu s1 x H1 I1 rx q1=>aMc (hv pins s1 M H1 _ I1 q1) λw2 s2 y H2 I2 ry q2=>aM (hr pins s2 M H2 _ I2 q2) λws s3⟨ps,H3,I3,rel,q3⟩=>⟨(x,y)::ps,H3,I3,.cons ⟨rx,ry⟩ rel,q3⟩)
def nr(ae more:List (Key×V)):List (Key×V):=more.foldl (λacc kv=>putK acc kv.1 kv.2) ae
theorem KV.merge:∀{more:List (Key×V)}{rs:List (Key×Value)}{ae:List (Key×V)}{vs:List (Key×Value)},KV more rs->KV ae vs->KV (nr ae more) (merged vs rs):=by intro more rs ae vs r;unfold KV at r;induction r generalizing ae vs with|nil=>intro q;exact q|@cons p q ps qs h t ih=>
 intro r0;have e:KV (putK ae p.1 p.2) (stored vs q.1 q.2):=by have:=r0.put p.1 h.2;rw[<-h.1];exact this
 exact ih e
theorem Dg:∀(more ae:List (Key×V)),(nr ae more).length<=ae.length+more.length|[],ae=>by show ae.length<=ae.length+0;lia|p::r,ae=>by have h1:=Dg r (putK ae p.1 p.2);have h2:=oQ ae p.1 p.2;show(nr (putK ae p.1 p.2) r).length<=_;rw[WP];lia
theorem Dh{P w}:∀{ae:List (Key×V)}{ws:List (Value×Value)},VV (ae.map λkv=>(kV kv.1,kv.2)) ws->∃rs,Carries (eY P w) ws rs/\KV ae rs|[],_,r=>by rw[Jk]at r;cases r;exact⟨[],True.intro,.nil⟩|p::ae,_,r=>by rw[Wi]at r;cases r with|@cons a b as bs h t=>obtain⟨rs,c,q⟩:=Dh (P:=P) (w:=w) t;obtain⟨b1,b2⟩:=b;exact⟨(p.1,b2)::rs,⟨kX h.1,rfl,c⟩,.cons ⟨rfl,h.2⟩ q⟩
def O_(nq:List (TE×TE)):TE:=λM H Q=>∀p,H p=none->xQ nq M (upd H p (.dK [])) λps H2=>H2 p=some (.dK [])/\∃ae:List (Key×V),ps=ae.map (λkv=>(kV kv.1,kv.2))/\ae.length<=15/\Q (.ref p) (upd H2 p (.dK (nr [] ae)))
theorem Pa(h:uz X pos keys values nq)(qN:keys.all (·.isSome)=true)(hl:keys.length=values.length)(h0:keys≠[])(Pb:keys.length<=15):PE X (.Dict keys values pos) (O_ nq):=by
 intro pins s M H Q I q;have hn:=I.aB.fresh (Wg s.heap.objs.size);have I1:=I.laid (a:=s.heap.objs.size) (o:=.dK []) (h':=s.heap.push {cls:=.type "dict",data:=.dict #[]}) (t':=s.toks) (λ_ _ q=>W6 _ q) (Wg _) (uy s.heap I.big);refine wpAny_Dict_walk (knd:=eY X.prog X.w) qN hl h0 Pb (aM (h pins _ M _ _ I1 (q _ hn)) λws s2 hh=>?_);obtain⟨ps,H2,I2,rel,e,ae,ep,lk,q2⟩:=hh;subst ep;obtain⟨rs,c,rk⟩:=Dh (P:=X.prog) (w:=X.w) rel;obtain⟨z,hd,vs0,r0,dd⟩:=oR I2.aB e;cases r0;refine⟨rs,c,dd,λh' iF hs=>⟨.ref s.heap.objs.size,_,?_,rfl,q2⟩⟩;have hz:(nr [] ae).length<=Wb:=by have h1:=Dg ae [];rw[U5]at h1;rw[QK];lia
 have he:∃q,h'.get? s.heap.objs.size=some q:=let⟨q,_,_,hq,_⟩:=iF;⟨q,hq⟩;exact nj I2 %[e|True.intro] hs he (ux hz hd (rk.merge .nil) iF)
structure M2(X:Cx)(o:Expr)(m:Str)(apos:Pos)(e f:Expr)(bF:Pos):Prop where
 base:Ja o m X.env (eval o X.env)=eval o X.env
 Pc:((Qz bF (We [e,f] X.env)).all (λx=>!x.1)&&(backToKw bF (Uq [] X.env)).all (λx=>x.1.isSome)&&decide (([e,f]:List Expr).length+([]:List Keyword).length+(if([]:List Keyword).isEmpty then 0 else 1)<30))=true
 line:(apos.endLine==bF.line)=true
 trees:Qz bF (We [e,f] X.env)=[(false,eval e X.env),(false,eval f X.env)]
section
open PySem.W PySem.Calls
theorem Pd{P}:∀(ns:List Int)vs,WellAll P h vs (ns.map WData.int)->IntsAre vs ns:=by intro ns;induction ns with|nil=>intro vs w;rw[Jk]at w;cases w;exact .nil|cons n ns ih=>intro vs w;rw[Wi]at w;cases w with|cons a b=>cases a;exact .cons _ _ (ih _ b)
theorem Pe{l:OpenLaw}(hn:l.most=some n){P vals}(uA:l.row.toRowW.claim.pre args=true)(xR:WellAll P h vals args):∃a vs ns,vals=[Value.ref a]/\args=[WData.list (ns.map WData.int)]/\h.get? a=some {cls:=.type "list",data:=.seq vs.toArray}/\IntsAre vs ns/\ns.length<=n:=by
 have Pf:WShape.hasAll [] args [.list .int]=true:=(pre_splitW uA).1;have hc:l.pre.holds [] {args:=args}=true:=(pre_splitW uA).2;obtain⟨d,r,rfl,h1,h2⟩:=hasAllW_cons Pf;obtain rfl:=hasAllW_nil h2;obtain⟨xs,rfl,h3⟩:=hasW_list h1;obtain⟨ns,rfl⟩:=items_int h3;have hlen:ns.length<=n:=by
  unfold OpenLaw.pre at hc;have h4:(WTm.not (.lt (.lit (.int (n:Int))) (.len (.arg 0)))).holds [] {args:=[.list (ns.map .int)]}=true:=by have h4:=(holds_andW hc).1;rw[hn]at h4;exact h4
  have h5:=condW_of h4 (w_not (w_lt w_lit (w_len_list (w_arg rfl))));rw[Ws]at h5;refine Nat.le_of_not_lt λq=>?_;have q':(n:Int)<((ns.length:Nat):Int):=by lia
  first|(rw[decide_eq_true q']at h5;exact absurd h5 Z')|(simp at h5;lia)
 cases xR with|cons w1 w2=>cases w2;cases w1 with|list ho qN=>exact⟨_,_,ns,rfl,rfl,ho,Pd ns _ qN,hlen⟩
theorem Pg(l:OpenLaw)(args):l.row.toRowW.claim.post args (.bool true) args=true:=postW_of (r:=l.row.toRowW) (X:=true==true) (show WShape.has [] (.bool true) .bool=true by first|rfl|decide|simp[WShape.has,WShape.arms,WShape.armsAll]) (show(WTm.eq .res (.lit (.bool true))).value [] {args:=args,res:=some (.bool true),after:=args}=some (.bool (true==true))from w_eq_bool (w_res rfl) w_lit) rfl
theorem Ph{l:OpenLaw}{q}{d:DefRec}(hn:l.most=some n)(xS:d.params.defaults=[])(call:∀w (s₀ s₁:W4)mg mb fa (o:Obj)pm cd doc a (vs:List Value)(ns:List Int),Ground q loose [] XP w s₀ mg mb s₁.heap->YP w s₁.heap->s₁.heap.get? fa=some o->o.data=.func (docDef d.name d.params d.body d.scope pm cd doc)->s₁.heap.CodeRec cd d.name->mg d.name=some (.ref fa)->s₁.heap.get? a=some {cls:=.type "list",data:=.seq vs.toArray}->IntsAre vs ns->ns.length<=n->s₁.gens=#[]->Jy (model l.prog w) callerA (.call (.ref fa) ⟨[.ref a],[]⟩) (λr s'=>r=.ok (.ret (.bool true))/\OldK s₁.heap s'.heap/\s'.os=s₁.os/\AllBare s'.gens) s₁):WalkO q loose XP YP l.row.toRowW d [] λf vs=>PySem.call f vs:=by intro w s₀ s₁ mg mb G Y fa o pm cd doc dV kV ho hd gY hD nt hg args vals as uA hlay hrd xR Di;obtain rfl:dV=.none:=Dflts.none hD xS;obtain rfl:kV=.none:=Dflts.noKw hD;obtain⟨a,vs,ns,rfl,rfl,xT,hints,hlen⟩:=Pe hn uA xR;refine enter_call (codeAny_mono (call w s₀ s₁ mg mb fa o pm cd doc a vs ns G Y ho (fd_plain hd) gY nt xT hints hlen hg) λr s' hq=>?_);obtain⟨rfl,h2,h3,h4⟩:=hq;exact⟨.inl ⟨.bool true,.bool true,[],rfl,λ_=>rfl,.bool true,Pg l _,λ_=>⟨List.Pairwise.nil,λ_ hm=>nomatch hm⟩⟩,h2,h3,h4⟩
end
theorem Dj{vs}{ns:List Int}(h:IntsAre vs ns):Vals (ns.map V.int) vs:=by induction h with|nil=>exact .nil|cons n t h ih=>exact .cons ⟨t,rfl⟩ ih
def qaO(H:Hp):Prop:=∀b,H b=none\/∃o xs,H b=some (.frz o (.lst xs))
abbrev KOf(_:K.In h):W5:=K
def h_(s:Stmt):Arguments:=match s with|.FunctionDef _ a _ _ _ _ _ _ _ _=>a|_=>{posonlyargs:=[],args:=[],vararg:=none,kwonlyargs:=[],kw_defaults:=[],kwarg:=none,defaults:=[]}
def d_(s:Stmt):List Stmt:=match s with|.FunctionDef _ _ b _ _ _ _ _ _ _=>b|_=>[]
def bK(s:Stmt):Scope:=match s with|.FunctionDef _ _ _ _ _ _ sc _ _ _=>sc|_=>{kind:=.function,names:=[],isGenerator:=false,isCoroutine:=false}
abbrev dS:kQ:=λ_ _ _ _ _ _=>False
abbrev E0:XK:=λ_ _ _=>False
theorem Dk:xy dS X E0:=λ_ _ _ _ _ _ _ h=>h.elim
structure dU(K:W5)(x qual:Str)(st:Stmt)(f:Addr)(fd:Qi):Prop where
 ex:∃(oc:Value)(od:Option Addr)(kV doc pm:Value)(an:Option Addr)(aW ct:Value)(eZ:Array (Option Value)),fd=Qq x qual (h_ st) (d_ st) (bK st) .none kV doc pm an aW ct/\K.lookup f=some ⟨oc,od,.func fd,eZ⟩/\PySem.W.codeIn K aW qual=true
 kp:Jz K (.ref f)=true
theorem dU.ok{st f k sp}(F:dU K x qual st f fd)(S:fY N ps (bK st))(len:∀vs H Q E,sp vs H Q E->vs.length=ps.length)(dR:∀aW (A:Wt)outer (s:W4)H (vs:List V)Q E,cP k (A.deeper (Jt qual (bK st) s.heap.objs.size f aW))->sp vs H Q E->∃t,dM (fZ dS P w K mg base N qual (bK st) f aW A outer s H E).fW (d_ st) t/\t {nx:=λ_ H'=>Q .aJ H',rt:=Q} (gn N vs) H):i_ P w K mg base dS (k+1) f fd ps sp:=by obtain⟨oc,od,kV,doc,pm,an,aW,ct,eZ,rfl,lk,gY⟩:=F.ex;refine CT lk gY S len λA outer s H vs Q E hr m9=>?_;obtain⟨t,h,q⟩:=dR aW A outer s H vs Q E hr m9;exact⟨t,h.fW,q⟩
theorem dU.binds{st f}(F:dU K x qual st f fd)(h:∀kV doc pm an aW ct (us:List Value),us.length=ps.length->bindArgs (Qq x qual (h_ st) (d_ st) (bK st) .none kV doc pm an aW ct) ⟨us,[]⟩=pure (ps.zip us)):Binds K fd ps []:=by obtain⟨oc,od,kV,doc,pm,an,aW,ct,eZ,rfl,lk,gY⟩:=F.ex;exact .all (h kV doc pm an aW ct)
theorem xU{st f od kV}(l:K.lookup f=some ⟨oc,od,.func (Qq x qual (h_ st) (d_ st) (bK st) .none kV doc pm an aW ct),eZ⟩)(c:PySem.W.codeIn K aW qual=true)(k:Jz K (.ref f)=true):dU K x qual st f (Qq x qual (h_ st) (d_ st) (bK st) .none kV doc pm an aW ct):=⟨⟨oc,od,kV,doc,pm,an,aW,ct,eZ,rfl,l,c⟩,k⟩
theorem Pj(h:n<=1000):n<Wb:=Ub h Z'
theorem pv(i:Nat)(hN:X.N[i]?=some x:=by rfl)(hv:tS X.env.scope x:=by first|exact Or.inl rfl|exact Or.inr (Or.inl rfl)|exact Or.inr (Or.inr rfl))(hd:(x==("__debug__":Str))=false:=by decide)(gY:(x==("__classdict__":Str))=false:=by decide):PE X (.Name x pos) (dq i):=M9 hN hv hd gY
theorem Pk:eF X (.builtin "len") λxs H Q=>∃a ae,xs=[V.ref a]/\H a=some (.dK ae)/\Q (.int ae.length) H:=by intro pins s M H xs us Q I r h;obtain⟨a,ae,rfl,ha,q⟩:=h;obtain⟨u,rfl,ru⟩:=gI r;cases ru;exact O3 I (.inl ha) λt s' I'=>⟨.int ae.length,H,I',⟨t,rfl⟩,q⟩
def gu(cells:List (Str×Addr)):List (Str×NameKind)->List (Str×Addr)->List (Str×Addr)|[],acc=>acc|(n,k)::r,acc=>gu cells r (if k==.free then match cells.lookup n with|some a=>(n,a)::acc|none=>acc else acc)
theorem xV(f:Str×NameKind->List (Str×Addr)->Sem (ForInStep (List (Str×Addr))))(hf:∀name kind cs,f (name,kind) cs=if kind==.free then do let a<-cellOf env name;pure (.yield ((name,a)::cs))else pure (.yield cs)):∀names acc,(∀x∈names,x.2=NameKind.free->∃c,env.cells.lookup x.1=some c)->(forIn names acc f:Sem (List (Str×Addr)))=pure (gu env.cells names acc)
 |[],acc,_=>by rw[Ui];rfl|(n,k)::r,acc,h=>by
  rw[U6,hf];unfold gu;by_cases hk:(k==NameKind.free)=true
  .obtain⟨c,hc⟩:=h (n,k) Wx (~~~hk);have iX:env.cells.lookup n=some c:=hc;have e:cellOf env n=pure c:=by unfold cellOf;rw[iX]
   rw[if_pos hk,if_pos hk,e,iX];exact xV f hf r _ λx hx=>h x (Wn _ hx)
  .rw[if_neg hk,if_neg hk];exact xV f hf r _ λx hx=>h x (Wn _ hx)
theorem Dm(h:∀x∈scope.names,x.2=NameKind.free->∃c,env.cells.lookup x.1=some c):closureFor scope env=pure (gu env.cells scope.names []):=by unfold closureFor;dsimp only;rw[xV (env:=env) _ λname kind cs=>by all_goals grind scope.names [] h];rfl
theorem Dp{n}:∀names acc,(n,c)∈gu cells names acc->(n,c)∈acc\/(n,NameKind.free)∈names/\cells.lookup n=some c|[],acc,h=>.inl h|(y,k)::r,acc,h=>by unfold gu at h;rcases Dp r _ h with q|⟨q,e⟩;all_goals grind
theorem Dq{n}:∀names (acc:List (Str×Addr)),(acc.lookup n).isSome=true\/(n,NameKind.free)∈names/\(cells.lookup n).isSome=true->((gu cells names acc).lookup n).isSome=true
 |[],acc,h=>h.elim id (by grind)|(y,k)::r,acc,h=>by
  unfold gu;apply Dq r;by_cases hk:(k==NameKind.free)=true;.rw[if_pos hk];cases e:cells.lookup y with
 |none=>
    rcases h with h|⟨h1,h2⟩;.exact .inl h
    .rcases Wf.mp h1 with z|z;.cases z;rw[e]at h2;cases h2
     .exact .inr ⟨z,h2⟩|some a=>
    by_cases hn:(n==y)=true;.refine .inl ?_;show(List.lookup n ((y,a)::acc)).isSome=true;rw[QJ,hn];rfl
    .rcases h with h|⟨h1,h2⟩;.refine .inl ?_;show(List.lookup n ((y,a)::acc)).isSome=true;have w8:(n==y)=false:= ~~~hn;rw[QJ,w8];exact h
     .rcases Wf.mp h1 with z|z;.cases z;exact absurd U' hn
      .exact .inr ⟨z,h2⟩
  .rw[if_neg hk];rcases h with h|⟨h1,h2⟩;.exact .inl h
   .rcases Wf.mp h1 with z|z;.cases z;exact absurd rfl hk
    .exact .inr ⟨z,h2⟩
theorem xW{n}:∀names (h:Heap)acc,(n,c)∈QV h.objs.size names acc->(n,c)∈acc\/(n,NameKind.cell)∈names/\h.objs.size<=c/\(Uc h names).IsCell c none
 |[],_,_,h=>.inl h|(y,k)::r,h,acc,hm=>by
  unfold QV at hm;unfold Uc;by_cases hk:(k==NameKind.cell)=true
  .rw[if_pos hk]at hm;rw[if_pos hk];have qO:k=NameKind.cell:= ~~~hk;have sz:(h.push {cls:=.type "cell",data:=.cell none}).objs.size=h.objs.size+1:=Qw ..;rw[<-sz]at hm;rcases xW r _ _ hm with q|⟨q1,q2,q3⟩
   .rcases Wf.mp q with z|z;.cases z;refine .inr ⟨%[qO|Wx],Wg _,?_⟩;exact Heap.IsCell.keeps ⟨_,Wh _ rfl,rfl⟩ (pushCells_keeps r _)
    .exact .inl z
   .exact .inr ⟨Wn _ q1,by rw[sz]at q2;lia,q3⟩
  .rw[if_neg hk]at hm;rw[if_neg hk];rcases xW r _ _ hm with q|⟨q1,q2,q3⟩;.exact .inl q
   .exact .inr ⟨Wn _ q1,q2,q3⟩
theorem xX:∀names k acc,(∀n n' c,(n,c)∈acc->(n',c)∈acc->n=n')->(∀n c,(n,c)∈acc->c<k)->∀n n' c,(n,c)∈QV k names acc->(n',c)∈QV k names acc->n=n'
 |[],_,_,h,_=>h|(y,kd)::r,k,acc,h,hb=>by
  unfold QV;by_cases hk:(kd==NameKind.cell)=true;.rw[if_pos hk];refine xX r (k+1) _ (λn n' c h1 h2=>?_) λn c hm=>?_;all_goals grind
  .rw[if_neg hk];exact xX r k acc h hb
theorem nu{env:Env}{x}:∀{names:List (Str×NameKind)}{k:NameKind},(names.map λ(y:Str×NameKind)=>if y.2==NameKind.free&&env.scope.kind==.function&&env.kindOf y.1==some .cell then(y.1,NameKind.cell)else(y.1,y.2)).lookup x=some k->names.lookup x=some k\/k=NameKind.cell/\names.lookup x=some .free
 |[],_,h=>by simp at h|(n,kd)::r,k,h=>by
  rw[Wi]at h;have ih:=@nu env x r k;cases hx:x==n with|true=>
 by_cases hc:(kd==NameKind.free&&env.scope.kind==.function&&env.kindOf n==some .cell)=true;.rw[if_pos hc,QJ,hx]at h;cases h;simp only[Wy]at hc;have:kd=NameKind.free:= ~~~hc.1.1;exact .inr ⟨rfl,by rw[QJ,hx,this]⟩
 .rw[if_neg hc,QJ,hx]at h;cases h;exact .inl (by rw[QJ,hx])|false=>
   have h':(r.map λ(y:Str×NameKind)=>if y.2==NameKind.free&&env.scope.kind==.function&&env.kindOf y.1==some .cell then(y.1,NameKind.cell)else(y.1,y.2)).lookup x=some k:=by
    by_cases hc:(kd==NameKind.free&&env.scope.kind==.function&&env.kindOf n==some .cell)=true;.rw[if_pos hc,QJ,hx]at h;exact h
    .rw[if_neg hc,QJ,hx]at h;exact h
   rw[QJ,hx];exact ih h'
def fH(X:Cx)(scope:Scope)(s₀:W4)(H₀:Hp)(ex:List Addr):Cx:={X with
 env:={scope:=relabel scope X.env,locals:=s₀.heap.objs.size,globals:=X.env.globals,cells:=QV (s₀.heap.objs.size+1) scope.names (gu X.env.cells scope.names []),qual:=X.env.qual,func:=none,code:=X.env.code,frame:=X.env.frame,builtins:=X.env.builtins}
 s₀:=s₀
 H₀:=H₀
 outer:=X.stack
 ex:=ex
 fn:=λx=>scope.names.lookup x==some .cell
 pn:=[]
 xe:=λ_ _=>False}
structure nv(X:Cx)(scope:Scope)(cs:List Nat):Prop where
 kind:scope.kind=.function
 names:∀x∈scope.names,x.2=.local->scope.names.lookup x.1=some .local
 free:∀x∈scope.names,x.2=.free->X.env.kindOf x.1=some .cell\/X.env.kindOf x.1=some .free
 nd:(scope.names.map (·.1)).Nodup
 own:∀(i:Nat)x,X.N[i]?=some x->scope.names.lookup x=some .local\/scope.names.lookup x=some .cell->i∈cs
def bM(cs:List Nat)(M:St):St:=cs.foldl (λM i=>M.set i none) M
theorem uB(cs):∀M:St,(bM cs M).length=M.length:=by induction cs with|nil=>intro M;rfl|cons i r ih=>intro M;show(bM r (M.set i none)).length=_;rw[ih];simp
theorem mj:∀cs (M:St)i v,(bM cs M)[i]?=some (some v)->M[i]?=some (some v)/\i∉cs:=by intro cs;induction cs with|nil=>intro M i v h;exact⟨h,U'⟩|cons j r ih=>
 intro M i v h;have h':(bM r (M.set j none))[i]?=some (some v):=h;obtain⟨h1,h2⟩:=ih _ i v h';by_cases e:j=i;.subst e;rw[Q8]at h1;simp at h1
 .rw[Wa e]at h1;exact⟨h1,by simp only[Wf,not_or];exact⟨Ne.symm e,h2⟩⟩
theorem xY:∀{l:List (Str×α)},(l.map (·.1)).Nodup->(x,k)∈l->(x,k')∈l->k=k'
 |(y,j)::r,nd,h1,h2=>by
  rw[Wi,WW]at nd;rcases Wf.mp h1 with e|g1<;>rcases Wf.mp h2 with e'|g2;.grind
  .grind
  .grind
  .exact xY nd.2 g1 g2
section
variable{s:W4}{fp:List Addr}
theorem Pl(I:Inv X pins M H s)(S:nv X scope cs)(hf:∀b∈fp,fX X pins H b)(bc:∀b∈fp,b<s.heap.objs.size):Inv (fH X scope s H fp) [] (bM cs M) H {s with heap:=Uc (s.heap.push {cls:=.type "dict",data:=.dict #[]}) scope.names}:=by
 have sz:(s.heap.push {cls:=.type "dict",data:=.dict #[]}).objs.size=s.heap.objs.size+1:=Qw ..;have kp:∀b o,s.heap.get? b=some o->(Uc (s.heap.push {cls:=.type "dict",data:=.dict #[]}) scope.names).get? b=some o:=λb o e=>pushCells_keeps _ _ b o (W6 _ e);have uC:∀n c,(n,c)∈gu X.env.cells scope.names []->(n,NameKind.free)∈scope.names/\X.env.cells.lookup n=some c:=λn c h=>(Dp _ _ h).elim (by grind) id;have Pm:∀n c,(n,c)∈gu X.env.cells scope.names []->c<s.heap.objs.size:=λn c h=>by obtain⟨v,q⟩:=I.cell n c (uC n c h).2;exact q.lt
 have qP:∀n c,(n,c)∈QV (s.heap.objs.size+1) scope.names (gu X.env.cells scope.names [])->(n,NameKind.free)∈scope.names/\X.env.cells.lookup n=some c\/(n,NameKind.cell)∈scope.names/\s.heap.objs.size+1<=c/\(Uc (s.heap.push {cls:=.type "dict",data:=.dict #[]}) scope.names).IsCell c none:=λn c h=>by
  rw[<-sz]at h;rcases xW _ _ _ h with q|q;.exact .inl (uC n c q)
  .rw[sz]at q;exact .inr q
 have Pn:=xX scope.names (s.heap.objs.size+1) (gu X.env.cells scope.names []) (λn n' c h1 h2=>I.ok.inj n n' c (uC n c h1).2 (uC n' c h2).2) λn c h=>Nat.lt_succ_of_lt (Pm n c h);have qQ:∀x∈scope.names,x.2=.free->∃c,X.env.cells.lookup x.1=some c:=λx hx hk=>I.ok.has x.1 (S.free x hx hk);have Po:∀b∈fp,b∉gX X.stack:=λb hb z=>by
  obtain⟨_,f1,f2,_⟩:=hf b hb;rcases Wf.mp (I.tW b z)with e|e;.exact f1 e
  .exact f2 e
 have Pp:∀x,(fH X scope s H fp).env.kindOf x=some .cell\/(fH X scope s H fp).env.kindOf x=some .free->scope.names.lookup x=some .cell\/scope.names.lookup x=some .free:=λx h=>by
  rcases h with h|h
  .have h':(relabel scope X.env).names.lookup x=some .cell:=h;rcases nu (env:=X.env) (names:=scope.names) h' with q|⟨_,q⟩;.exact .inl q
   .exact .inr q
  .have h':(relabel scope X.env).names.lookup x=some .free:=h;rcases nu (env:=X.env) (names:=scope.names) h' with q|⟨q,_⟩;.exact .inr q
   .cases q
 have Dr:∀x,scope.names.lookup x=some .cell\/scope.names.lookup x=some .free->∃c,(QV (s.heap.objs.size+1) scope.names (gu X.env.cells scope.names [])).lookup x=some c:=λx h=>by
  refine J1.mp (JO scope.names _ _ ?_);rcases h with h|h;.exact .inl h
  .refine .inr (Dq _ _ (.inr ⟨WC h,?_⟩));obtain⟨c,hc⟩:=qQ _ (WC h) rfl;grind
 have Pq:(Uc (s.heap.push {cls:=.type "dict",data:=.dict #[]}) scope.names).Ns s.heap.objs.size λ_=>none:=(Heap.Ns.new s.heap (.type "dict")).keeps (pushCells_keeps _ _);refine⟨⟨I.ok.mod,S.kind,I.ok.glob,I.ok.blt,Wg _,λy z c h1 h2=>Pn y z c (WC h1) (WC h2),λx hx=>Dr x (Pp x hx),λx c kO h=>?_,I.ok.hd,I.ok.frames,.inl rfl,λb hb=>⟨WR (bc b hb),λx c h e=>?_⟩,I.bs,Qe I.ok.kM I.sz,λb o e hb=>?_,Po,I.stack,I.B0⟩,rfl,I.bare,Un.kept kp,⟨λ_=>none,Pq,λi x v h1 h2 h3=>?_⟩,λx c h=>?_,I.aB.fresh (Wg _),λx c h=>?_,λp hp=>absurd (show p∈([]:List (Addr×Obj))from hp) U',I.aB.kept kp,(uB cs M).trans I.len⟩
 .rcases qP x c (WC h)with q|q
  .have Pr:scope.names.lookup x=some .cell:=by have:(scope.names.lookup x==some .cell)=true:=kO;exact eq_of_beq this
   have:=xY S.nd q.1 (WC Pr);cases this
  .exact Nat.le_of_succ_le q.2.1
 .subst e;rcases qP x c (WC h)with q|q;.exact(hf c hb).2.2.2.2.1 x c q.2 rfl
  .exact absurd (WJ (bc c hb) (Nat.le_of_succ_le q.2.1)) (Qh _)
 .obtain⟨_,_,_,f3,_⟩:=hf b hb;rcases f3 with z|z;.exact I.ok.qx b o e z
  .exact absurd (WJ (Wp (I.ok.bs b o e).1) z) (Qh _)
 .obtain⟨h2',hni⟩:=mj cs M i v h2;have Pt:¬(scope.names.lookup x=some .local\/scope.names.lookup x=some .cell):=λz=>hni (S.own i x h1 z);have tZ:scope.names.lookup x=some .free:=by
   rcases h3 with h3|h3|h3;.rcases nu (env:=X.env) (names:=scope.names) h3 with q|⟨q,_⟩;all_goals grind
   .rcases nu (env:=X.env) (names:=scope.names) h3 with q|⟨_,q⟩;.exact absurd (.inr q) Pt
    .exact q
   .rcases nu (env:=X.env) (names:=scope.names) h3 with q|⟨q,_⟩;.exact q
    .cases q
  have hk:=S.free _ (WC tZ) rfl;obtain⟨m,hn,hl⟩:=I.loc;have Pu:tS X.env.scope x:=by
   rcases hk with hk|hk;.exact .inr (.inl hk)
   .exact .inr (.inr hk)
  obtain⟨u,r,l⟩:=hl i x v h1 h2' Pu;refine⟨u,r,?_⟩;rcases l with⟨k,_⟩|⟨_,c,hc,hcell⟩;.grind
  .obtain⟨c',iX⟩:=Dr x (.inr tZ);have e:c'=c:=by
    rcases qP x c' (WC iX)with q|q;.have q2:=q.2;rw[hc]at q2;exact(WN q2).symm
    .have:=xY S.nd q.1 (WC tZ);cases this
   subst e;refine .inr ⟨?_,c',iX,hcell.keeps kp⟩;rcases h3 with h3|h3|h3;.rcases nu (env:=X.env) (names:=scope.names) h3 with q|⟨q,_⟩;all_goals grind
   .exact .inl h3
   .exact .inr h3
 .rcases qP x c (WC h)with q|q;.obtain⟨v,z⟩:=I.cell x c q.2;exact⟨v,z.keeps kp⟩
  .exact⟨none,q.2.2⟩
 .rcases qP x c (WC h)with q|q;.exact I.iU x c q.2
  .exact I.aB.fresh (Nat.le_of_succ_le q.2.1)
end
abbrev kY:Value->W4->Prop:=λ_ _=>False
def Ds(ifs:List Expr)(env:Env):Sem Bool:=forIn ifs true λc r=>if r=true then do let ok<-isTrue c env (eval c env);pure (ForInStep.yield ok)else pure (ForInStep.yield r)
theorem Pw{it}(I:Nat->W4->Prop)(turn:∀n s,I n s->W7 (model prog w) A (QF it) (λr s₁=>match r with|none=>R (.ok .next) s₁|some v=>W7 (model prog w) A (JM target it v) (λ_ Dt=>W7 (model prog w) A (assign target env v) (λ_ s₂=>W7 (model prog w) A (Ds ifs env) (λok s₃=>if ok=true then W7 (model prog w) A (eval elt env) (λx s₄=>W7 (model prog w) A (call (.builtin "list.append") [acc,x]) (λ_ s₅=>∃m,m<n/\I m s₅) kY s₄) kY s₃ else∃m,m<n/\I m s₃) kY s₂) kY Dt) kY s₁) kY s)(n)(h:I n s):Jy (model prog w) A (.compLoop (.ListComp elt [⟨target,iter,ifs,0⟩] scope pos) 0 it acc env) R s:=by refine codeAny_loop rfl I (λn s hI=>?_) n h;show W7 _ A ((compTurn (.ListComp elt [⟨target,iter,ifs,0⟩] scope pos) 0 it acc env).onRaise λx=>do noteFrame x env;theTreesLotGoes x) _ _ s;refine wpAny_noted ?_;rw[compTurn_list];refine W0 (wpAny_standAt (W0 (Qy (turn n s hI) (λr s₁ h₁=>?_) (by grind))));cases r with|none=>exact W3 h₁|some v=>refine W0 (Qy h₁ (λ_ Dt Px=>?_) (by grind));refine W0 (Qy Px (λ_ s₂ h₂=>W0 (Qy h₂ (λok s₃ h₃=>?_) (by grind))) (by grind));cases ok with|false=>exact W3 ⟨rfl,h₃⟩|true=>exact W0 (W0 (Qy h₃ (λx s₄ h₄=>W0 (Qy h₄ (λ_ s₅ h₅=>W3 (W3 ⟨rfl,h₅⟩)) (by grind))) (by grind)))
theorem Py{Q}(h:Q {scope,locals:=s.heap.objs.size,globals,cells:=QV (s.heap.objs.size+1) scope.names cl,qual,func:=none,code:=env.code,frame:=env.frame,builtins:=env.builtins} {s with heap:=Uc (s.heap.push {cls:=.type "dict",data:=.dict #[]}) scope.names}):W7 zj A (newFunctionEnv scope globals cl [] qual none .none (some env)) Q E s:=by simp only[newFunctionEnv,Option.isSome_some,if_true];refine W0 (wpAny_alloc ?_);refine W0 (wpAny_layCells _ λname kind cells=>by all_goals grind _ _ _ _ ?_);rw[show({s with heap:=s.heap.push {cls:=.type "dict",data:=.dict #[]}}:W4).heap.objs.size=s.heap.objs.size+1 from Qw ..];exact W0 (W3 (W3 h))
def oS(X:Cx)(ifs:List Expr)(t:TT):Prop:=∀(pins:List (Addr×Obj))(s:W4)(M:St)(H:Hp)(Q:Bool->Hp->Prop),Inv X pins M H s->t M H Q->W7 (model X.prog X.w) X.A (Ds ifs X.env) (TP X pins M Q) X.xe s
def Pz:TT:=λ_ H Q=>Q true H
theorem PH:oS X [] Pz:=λpins s M H Q I h=>wpAny_tests_nil ⟨H,I,h⟩
theorem PJ(h:PT X c t):oS X [c] t:=λpins s M H Q I q=>wpAny_tests_one (h pins s M H Q I q)
def Le(M M':St):Prop:=M'.length=M.length/\∀(i:Nat)(v:V),M[i]?=some (some v)->M'[i]?=some (some v)
def Du(cs:List Nat)(g:TG)(tt:TT)(te:TE)(M:St)(Q:VK)(J:It)(H1:Hp):Prop:=∀l,H1 l=none->∃W:Nat->Nat->Hp->Prop,(∃m,W 0 m (upd H1 l (.lst [])))/\∀i m H2,W i m H2->J.stop i H2/\Q (.ref l) H2\/J.go i H2/\∀x H3,J.qC i H2 x H3->g x (bM cs M) H3 λT0 H4=>Le (bM cs M) T0/\tt T0 H4 λb H5=>if b=true then te T0 H5 λv H6=>∃ys m',H6 l=some (.lst ys)/\ys.length<Wb/\m'<m/\W (i+1) m' (upd H6 l (.lst (ys++[v])))else∃m',m'<m/\W (i+1) m' H5
def xZ(cs:List Nat)(wi:TI)(g:TG)(tt:TT)(te:TE):TE:=λM H Q=>wi M H λJ H1=>Du cs g tt te M Q J H1
section
variable{s:W4}{iter:Expr}{g:TG}{tt:TT}
theorem Dv{fp J Q}{E:Value->W4->Prop}{RR:Value->Addr->Result->W4->Prop}(hc:X.calm=true)(I:Inv X pins M H s)(S:nv X scope cs)(T:Turn X.prog X.w X.K tg J fp it tn)(st:tn 0 s.heap)(hf:∀b∈fp,fX X pins H b)(hg:∀s₀ H₀ ex,PG (fH X scope s₀ H₀ ex) tg g)(ht:∀s₀ H₀ ex,oS (fH X scope s₀ H₀ ex) ifs tt)(he:∀s₀ H₀ ex,PE (fH X scope s₀ H₀ ex) elt te)(q:Du cs g tt te M Q J H)(PL:∀l C s' H',Inv X pins M H' s'->fX X pins H' C->(∃m,s'.heap.Ns C m)->Q (.ref l) H'->RR (.ref l) C (.ok .next) s'):W7 (model X.prog X.w) X.A (newList []) (λacc s₃=>W7 (model X.prog X.w) X.A (newFunctionEnv scope X.env.globals (gu X.env.cells scope.names []) [] X.env.qual none .none (some X.env)) (λDw s₄=>Jy (model X.prog X.w) X.A (.compStart (.ListComp elt [⟨tg,iter,ifs,0⟩] scope pos) 0 (.ref it) acc {Dw with scope:=relabel scope X.env}) (RR acc Dw.locals) s₄) E s₃) E s:=by
 refine WO ?_;have ke:H s.heap.objs.size=none:=I.aB.fresh (Wg _);obtain⟨W,⟨m0,w0⟩,turn⟩:=q s.heap.objs.size ke;generalize hl:s.heap.objs.size=l at*;have I3:Inv X pins M (upd H l (.lst [])) {s with heap:=s.heap.push {cls:=.type "list",dict:=none,data:=.seq ([]:List Value).toArray}}:=I.laid (t':=s.toks) (λb u e=>W6 _ e) (Nat.le_of_eq hl) ⟨QE _,[],0,.nil,by rw[<-hl];exact Wh _ rfl⟩;have uD:∀b o,s.heap.get? b=some o->(s.heap.push {cls:=.type "list",dict:=none,data:=.seq ([]:List Value).toArray}).get? b=some o:=λb o e=>W6 _ e;have x6:∀b∈fp,b≠l:=λb hb e=>by obtain⟨o,ho,_⟩:=T.obj 0 _ st b hb;exact absurd (Wp ho) %[e,hl|Qh _]
 have x8:∀b∈fp,fX X pins (upd H l (.lst [])) b:=λb hb=>⟨by rw[aP (x6 b hb)];exact(hf b hb).1,(hf b hb).2⟩;have ma:tn 0 (s.heap.push {cls:=.type "list",dict:=none,data:=.seq ([]:List Value).toArray}):=T.keep 0 _ _ st λb _ o e=>uD b o e;generalize hs3:({s with heap:=s.heap.push {cls:=.type "list",dict:=none,data:=.seq ([]:List Value).toArray}}:W4)=s3 at I3;have Dx:tn 0 s3.heap:=by rw[<-hs3];exact ma
 have PM:∀b∈fp,b<s3.heap.objs.size:=λb hb=>by obtain⟨o,ho,_⟩:=T.obj 0 _ Dx b hb;exact Wp ho
 refine Py ?_;have I4:=Pl I3 S x8 PM;generalize hX:fH X scope s3 (upd H l (.lst [])) fp=X' at I4;generalize hs4:({s3 with heap:=Uc (s3.heap.push {cls:=.type "dict",data:=.dict #[]}) scope.names}:W4)=s4 at I4⊢;have kf:=hg s3 (upd H l (.lst [])) fp;have ny:=ht s3 (upd H l (.lst [])) fp;have uE:=he s3 (upd H l (.lst [])) fp;rw[hX]at kf ny uE;have Dy:tn 0 s4.heap:=T.keep 0 _ _ Dx λb _ o e=>by rw[<-hs4];exact pushCells_keeps _ _ b o (W6 _ e)
 have hP:X'.prog=X.prog:=by rw[<-hX];rfl
 have hw:X'.w=X.w:=by rw[<-hX];rfl
 have hA:X'.A=X.A:=by rw[<-hX];rfl
 have hK:X'.K=X.K:=by rw[<-hX];rfl
 have iX:X'.calm=true:=by rw[<-hX];exact hc
 have uF:X'.xe=kY:=by rw[<-hX];rfl
 have Dz:X'.env.locals=s3.heap.objs.size:=by rw[<-hX];rfl
 have PN:({scope:=relabel scope X.env,locals:=s3.heap.objs.size,globals:=X.env.globals,cells:=QV (s3.heap.objs.size+1) scope.names (gu X.env.cells scope.names []),qual:=X.env.qual,func:=none,code:=X.env.code,frame:=X.env.frame,builtins:=X.env.builtins}:Env)=X'.env:=by rw[<-hX];rfl
 have x9:∀{H':Hp},(∀b∈fp,H' b=none)->∀b∈fp,fX X' [] H' b:=λ{H'}hn b hb=>by
  have ex:X'.ex=fp:=by rw[<-hX];rfl
  have pn:X'.pn=[]:=by rw[<-hX];rfl
  refine⟨hn b hb,(I4.ok.tV b %[ex|hb]).1,I4.ok.qy b %[ex|hb],.inl %[ex|hb],(I4.ok.tV b %[ex|hb]).2,λp hp=>?_⟩;rw[pn]at hp;simp at hp
 show Jy (model X.prog X.w) X.A (.compStart (.ListComp elt [⟨tg,iter,ifs,0⟩] scope pos) 0 (.ref it) (.ref l) ({scope:=relabel scope X.env,locals:=s3.heap.objs.size,globals:=X.env.globals,cells:=QV (s3.heap.objs.size+1) scope.names (gu X.env.cells scope.names []),qual:=X.env.qual,func:=none,code:=X.env.code,frame:=X.env.frame,builtins:=X.env.builtins}:Env)) (RR (.ref l) s3.heap.objs.size) s4;rw[PN];have loop:Jy (model X.prog X.w) X.A (.compLoop (.ListComp elt [⟨tg,iter,ifs,0⟩] scope pos) 0 (.ref it) (.ref l) X'.env) (RR (.ref l) s3.heap.objs.size) s4:=by
  refine Pw (λn s'=>∃i H',Inv X' [] (bM cs M) H' s'/\tn i s'.heap/\(∀b∈fp,H' b=none)/\W i n H') ?_ m0 ⟨0,_,I4,Dy,λb hb=>(x8 b hb).1,w0⟩;rintro n s5⟨i,H5,I5,st5,fr5,w5⟩;rcases turn i n H5 w5 with⟨stop,qn⟩|⟨go,step⟩
  .have:=T.done X' hP hw hK iX i [] s5 (bM cs M) H5 kY I5 (x9 fr5) st5 stop;rw[hA]at this;refine aM this λr s6⟨hr,I6⟩=>?_;subst hr;have b6:=I6.base;have e1:X'.fs=gX X.stack:=by rw[<-hX];rfl
   have e2:X'.ex=fp:=by rw[<-hX];rfl
   have e3:X'.H₀=upd H l (.lst []):=by rw[<-hX];rfl
   have e4:X'.s₀=s3:=by rw[<-hX];rfl
   rw[e1,e2,e3,e4]at b6;have o6:s6.os=s3.os:=by rw[<-e4];exact I6.os
   have PQ:cK X.prog X.w H5 s6.heap:=by rw[<-hP,<-hw];exact I6.aB
   have J6:Inv X pins M H5 s6:=I3.M8 o6 b6 PQ I6.bare λb hb=>by obtain⟨_,f1,_,f3,f4,f5⟩:=x8 b hb;exact⟨f3,f1,f4,f5⟩
   obtain⟨m6,n6,_⟩:=I6.loc;rw[Dz]at n6;refine PL l s3.heap.objs.size s6 H5 J6 (I3.iY (Wg _) ?_) ⟨m6,n6⟩ qn;rw[<-Dz];exact I6.free
  .have:=T.item X' hP hw hK iX i [] s5 (bM cs M) H5 kY I5 (x9 fr5) st5 go;rw[hA]at this;refine aM this λr s6⟨u,hr,h6⟩=>?_;subst hr;refine aM h6 λ_ s7 hh=>?_;obtain⟨x,H7,I7,r7,y7,st7,fr7⟩:=hh;have PU:=I7.pinned (x9 fr7) (T.obj _ _ st7);have a8:=kf _ s7 (bM cs M) H7 x u _ PU r7 (step x H7 y7);rw[hP,hw,hA,uF]at a8;refine aM a8 λ_ s8 hh=>?_;obtain⟨SU,H8,I8,le8,q8⟩:=hh;have a9:=ny _ s8 SU H8 _ I8 q8;rw[hP,hw,hA,uF]at a9;refine aM a9 λok s9⟨H9,I9,q9⟩=>?_;have back:∀{H':Hp}{s':W4},Inv X' ([]++qE fp s7.heap) SU H' s'->Inv X' [] (bM cs M) H' s'/\tn (i+1) s'.heap/\∀b∈fp,H' b=none:=λ{H' s'}J=>by refine⟨J.ug.weak le8.1.symm le8.2,T.keep _ _ _ st7 λb hb o e=>(J.pin (b,o) (Qa _ (Qa _ (uf hb e)))).1,λb hb=>?_⟩;obtain⟨o,e,d⟩:=T.obj _ _ st7 b hb;exact(J.pin (b,o) (Qa _ (Qa _ (uf hb e)))).2.1
   cases ok with|false=>rw[if_neg WD]at q9⊢;obtain⟨m',hm,w9⟩:=q9;obtain⟨b1,b2,b3⟩:=back I9;exact⟨m',hm,i+1,H9,b1,b2,b3,w9⟩|true=>rw[if_pos rfl]at q9⊢;have DC:=uE _ s9 SU H9 _ I9 q9;rw[hP,hw,hA,uF]at DC;refine aM DC λx10 kZ hh=>?_;obtain⟨v,H10,I10,r10,ys,m',hy,hz,hm,w10⟩:=hh;have DH:=xO (X:=X') _ kZ SU H10 (.ref l) [v] (.ref l) [x10] (λ_ H'=>W (i+1) m' H') I10 rfl (.cons r10 .nil) ⟨l,ys,v,rfl,rfl,hy,hz,w10⟩;rw[hP,hw,hA,uF]at DH;refine aM DH λ_ s11 hh=>?_;obtain⟨_,H11,I11,_,w11⟩:=hh;obtain⟨b1,b2,b3⟩:=back I11;exact⟨m',hm,i+1,H11,b1,b2,b3,w11⟩
 exact codeAny_compStart_list loop (T.self X.A 0 s4 _ _ Dy loop)
theorem PX(hc:X.calm=true)(S:nv X scope cs)(hi:PI X tg iter wi)(hg:∀s₀ H₀ ex,PG (fH X scope s₀ H₀ ex) tg g)(ht:∀s₀ H₀ ex,oS (fH X scope s₀ H₀ ex) ifs tt)(he:∀s₀ H₀ ex,PE (fH X scope s₀ H₀ ex) elt te)(hs:∀x,J7 iter X.env x=pure x:=by intro _;rfl):PE X (.ListComp elt [⟨tg,iter,ifs,0⟩] scope pos) (xZ cs wi g tt te):=by intro pins s M H Q I h;have qQ:∀x∈scope.names,x.2=.free->∃c,X.env.cells.lookup x.1=some c:=λx hx hk=>I.ok.has x.1 (S.free x hx hk);rw[eval_ListComp];refine wpAny_comprehension_free (use:=none) rfl hs (Dm qQ) S.kind S.names (aM (hi pins s M H _ I h) λxv s1 h1=>aM h1 λub s2 h2=>?_);obtain⟨it,fp,tn,J,H2,e,I2,T,st2,f2,q2⟩:=h2;subst e;refine Dv (RR:=λacc C=>compPost (model X.prog X.w) X.A X.xe none (EP X pins M Q) acc C) hc I2 S T st2 f2 hg ht he q2 ?_;intro l C s' H' I' fC⟨m,n⟩q;exact⟨m,n,λh' g_=>⟨.ref l,H',I'.turned (t':=s'.toks) (λb o hb e=>(g_.2 b hb).trans e) fC.1 fC.2.1 fC.2.2.2.1 fC.2.2.2.2.1 fC.2.2.2.2.2,rfl,q⟩⟩
theorem PY(hc:X.calm=true)(S:nv X scope cs)(hN:X.N.Nodup)(gL:X.N[i]?=some y)(hy:X.env.scope.names.lookup y=some .local)(hi:PI X tg iter wi)(hg:∀s₀ H₀ ex,PG (fH X scope s₀ H₀ ex) tg g)(ht:∀s₀ H₀ ex,oS (fH X scope s₀ H₀ ex) ifs tt)(he:∀s₀ H₀ ex,PE (fH X scope s₀ H₀ ex) elt te)(qR:J9 (.ListComp elt [⟨tg,iter,ifs,0⟩] scope pos) (some (.Name y py)) uG.line X.env=pure true:=by rfl)(hs:∀x,J7 iter X.env x=pure x:=by intro _;rfl):PS X (.Assign [.Name y py] (.ListComp elt [⟨tg,iter,ifs,0⟩] scope pos) uG) (ua (xZ cs wi g tt te) (oK i)):=by
 intro pins s M H D I h;have qQ:∀x∈scope.names,x.2=.free->∃c,X.env.cells.lookup x.1=some c:=λx hx hk=>I.ok.has x.1 (S.free x hx hk);rw[exec_Assign_Name_used _ _ _ _ qR];refine W0 (wpAny_standAt (W0 ?_));show W7 _ X.A (do let _<-comprehension (.ListComp elt [⟨tg,iter,ifs,0⟩] scope pos) scope X.env _ (newList []) false (eval iter X.env) (some (assign (.Name y py) X.env))) _ _ s;refine W0 (Qy (wpAny_comprehension_free (use:=some (assign (.Name y py) X.env)) (Q:=λ_ s'=>SP X pins D .next s') rfl hs (Dm qQ) S.kind S.names (aM (hi pins s M H _ I h) λxv s1 h1=>aM h1 λub s2 h2=>?_)) (λ_ s' hq=>W3 (W3 hq)) λ_ _ e=>e);obtain⟨it,fp,tn,J,H2,e,I2,T,st2,f2,q2⟩:=h2;subst e;refine Dv (RR:=λacc C=>compPost (model X.prog X.w) X.A X.xe (some (assign (.Name y py) X.env)) (λ_ s'=>SP X pins D .next s') acc C) hc I2 S T st2 f2 hg ht he q2 ?_;intro l C s' H' I' fC⟨m,n⟩q;show W7 _ X.A (assign (.Name y py) X.env (.ref l)) _ _ _;refine wpAny_assign_Name (B7 I' hN gL (.inl hy) (v:=.ref l) rfl (λm8 I''⟨a,x_,ha⟩=>?_) (.inr hy));have cu:C≠a:=by
  rcases ha with rfl|ha;.exact fC.2.1
  .exactλe=>fC.2.2.2.2.1 y a ha e.symm
 refine⟨m,n.sameBut x_ cu,λh' g_=>⟨_,H',I''.turned (t':=m8.toks) (λb o hb e=>(g_.2 b hb).trans e) fC.1 fC.2.1 fC.2.2.2.1 fC.2.2.2.2.1 fC.2.2.2.2.2,q⟩⟩
end
abbrev Tx:=List Nat
def toS(x:Tx):Str:=⟨x.toArray⟩
theorem oT(x):(toS x).cps.toList=x:=#v[toS]
theorem ml(x:Tx):(toS x).length=x.length:=#v[toS,Str.length]
theorem uH{x}(h:toS x=toS y):x=y:=by have:=congrArg (λz:Str=>z.cps.toList) h;simpa[toS]using this
theorem DJ(z:Str):z=toS z.cps.toList:=#v[toS]
abbrev aZ:=Sum Int Tx
def di:aZ->Key|.inl i=>.inl i|.inr x=>.inr (toS x)
inductive D where|aJ|bl(b:Bool)|int(i:Int)|str(x:Tx)|tup(xs:List D)|lst(xs:List D)|au(ae:List (aZ×D))|exc(n:Nat)(fl:D)|xd(fs:List (Tx×D))|fn(a:Nat)|dic(ae:List (D×D))
variable{F:D->Option D}{ds dv:List D}
mutual noncomputable def cF:Nat->D->Option NK|_,.int i=>some (.i i)|_,.bl b=>some (.i (if b then 1 else 0))|_,.str x=>some (.s (toS x))|n+1,.tup xs=>(gM n xs).map .t|_,_=>none noncomputable def gM:Nat->List D->Option (List NK)|_,[]=>some []|n,x::xs=>(cF n x).bind λk=>(gM n xs).map λks=>k::ks end
def excAt(C:Addr)(v:V)(a:Addr):Heap->Prop:=λh=>∃o,h.get? a=some o/\o.cls=.ref C/\(∀x,v=.ref x->o.dict=some x)/\∃vs,o.data=.fields vs
def PZ(fs:List (Str×V))(x:Addr):Heap->Prop:=λh=>∃mA,h.Ns1 x mA/\∀f,gj (fs.lookup f) (mA f)
inductive S where|pure(d:D)|own(d:D)
variable{p':D->D->Option S}{ss:List S}
def S.d:S->D|.pure d=>d|.own d=>d
abbrev Dl:=List (Option S)
variable{U ZB:Dl}
inductive Rep(H:Hp)(O:Addr->Prop):V->D->Prop|aJ:Rep H O .aJ .aJ|bl(b:Bool):Rep H O (.bl b) (.bl b)|int(i:Int):Rep H O (.int i) (.int i)|str(x:Tx):Rep H O (.str (toS x)) (.str x)|tup{a:Addr}{vs:List V}{ds:List D}:¬O a->H a=some (.tup vs)->vs.length=ds.length->(∀(i:Nat)v d,vs[i]?=some v->ds[i]?=some d->Rep H O v d)->Rep H O (.ref a) (.tup ds)|lst{a:Addr}{vs:List V}{ds:List D}:¬O a->Rd H a (.lst vs)->vs.length=ds.length->(∀(i:Nat)v d,vs[i]?=some v->ds[i]?=some d->Rep H O v d)->Rep H O (.ref a) (.lst ds)|au{a:Addr}{ws:List (Key×V)}{ds:List (aZ×D)}:¬O a->H a=some (.dK ws)->ws.map (·.1)=ds.map (λp=>di p.1)->(∀(i:Nat)p q,ws[i]?=some p->ds[i]?=some q->Rep H O p.2 q.2)->Rep H O (.ref a) (.au ds)|exc{a:Addr}{n:Nat}{v:V}{fl:D}:¬O a->H a=some (.ext (excAt n v a))->Rep H O v fl->Rep H O (.ref a) (.exc n fl)|xd{x:Addr}{fs:List (Str×V)}{ds:List (Tx×D)}:¬O x->H x=some (.ext (PZ fs x))->fs.map (·.1)=ds.map (λp=>toS p.1)->(∀(i:Nat)p q,fs[i]?=some p->ds[i]?=some q->Rep H O p.2 q.2)->Rep H O (.ref x) (.xd ds)|fn(a:Addr):Rep H O (.ref a) (.fn a)|dic{a:Addr}{ep:Nat}{ws:List (NK×V×V)}{ds:List (D×D)}:¬O a->H a=some (.dN ep ws)->ws.length=ds.length->(∀(i:Nat)p q,ws[i]?=some p->ds[i]?=some q->Rep H O p.2.1 q.1)->(∀(i:Nat)p q,ws[i]?=some p->ds[i]?=some q->Rep H O p.2.2 q.2)->(∀(i:Nat)p q,ws[i]?=some p->ds[i]?=some q->cF 6 q.1=some p.1)->Rep H O (.ref a) (.dic ds)
abbrev aH(H:Hp)(O:Addr->Prop)(vs:List V)(ds:List D):Prop:=vs.length=ds.length/\∀(i:Nat)v d,vs[i]?=some v->ds[i]?=some d->Rep H O v d
structure DN(H:Hp)(O:Addr->Prop)(ws:List (NK×V×V))(ds:List (D×D)):Prop where
 len:ws.length=ds.length
 key:∀(i:Nat)p q,ws[i]?=some p->ds[i]?=some q->Rep H O p.2.1 q.1val:∀(i:Nat)p q,ws[i]?=some p->ds[i]?=some q->Rep H O p.2.2 q.2nA:∀(i:Nat)p q,ws[i]?=some p->ds[i]?=some q->cF 6 q.1=some p.1
def gv(H:Hp)(O:Addr->Prop)(a:Addr):D->Prop|.lst ds=>∃vs,H a=some (.lst vs)/\aH H O vs ds|.au ds=>∃ws:List (Key×V),H a=some (.dK ws)/\ws.map (·.1)=ds.map (λp=>di p.1)/\∀(i:Nat)p q,ws[i]?=some p->ds[i]?=some q->Rep H O p.2 q.2|.dic ds=>∃(ep:Nat)(ws:List (NK×V×V)),H a=some (.dN ep ws)/\DN H O ws ds|_=>False
section
variable{v:V}{d:D}{a:Addr}
theorem Rd.keep{u}(h:Rd H a u)(k:∀o,H a=Option.some o->H' a=Option.some o):Rd H' a u:=by
 rcases h with h|⟨o,h⟩;.exact .inl (k _ h)
 .exact .inr ⟨o,k _ h⟩
theorem Rd.some{u}(h:Rd H a u):∃o,H a=some o:=by
 rcases h with h|⟨o,h⟩;.exact⟨_,h⟩
 .exact⟨_,h⟩
theorem Rep.keep(h:Rep H O v d)(k:∀a o,H a=some o->¬O a->H' a=some o):Rep H' O v d:=by induction h with|aJ=>exact .aJ|bl b=>exact .bl b|int i=>exact .int i|str x=>exact .str x|tup h1 h2 h3 _ ih=>exact .tup h1 (k _ _ h2 h1) h3 ih|lst h1 h2 h3 _ ih=>exact .lst h1 (Rd.keep h2 λo e=>k _ o e h1) h3 ih|au h1 h2 h3 _ ih=>exact .au h1 (k _ _ h2 h1) h3 ih|exc h1 h2 _ ih=>exact .exc h1 (k _ _ h2 h1) ih|xd h1 h2 h3 _ ih=>exact .xd h1 (k _ _ h2 h1) h3 ih|fn a=>exact .fn a|dic h1 h2 h3 _ _ h6 ih ih'=>exact .dic h1 (k _ _ h2 h1) h3 ih ih' h6
theorem Rep.aV(h:Rep H O v d)(k:∀a,O' a->O a\/H a=none):Rep H O' v d:=by
 have no:∀{a:Addr}{u:HO},¬O a->Rd H a u->¬O' a:=λ{a u}h1 h2 z=>by grind[Rd.some]
 induction h with|aJ=>exact .aJ|bl b=>exact .bl b|int i=>exact .int i|str x=>exact .str x|tup h1 h2 h3 _ ih=>exact .tup (no h1 (.inl h2)) h2 h3 ih|lst h1 h2 h3 _ ih=>exact .lst (no h1 h2) h2 h3 ih|au h1 h2 h3 _ ih=>exact .au (no h1 (.inl h2)) h2 h3 ih|exc h1 h2 _ ih=>exact .exc (no h1 (.inl h2)) h2 ih|xd h1 h2 h3 _ ih=>exact .xd (no h1 (.inl h2)) h2 h3 ih|fn a=>exact .fn a|dic h1 h2 h3 _ _ h6 ih ih'=>exact .dic (no h1 (.inl h2)) h2 h3 ih ih' h6
theorem DN.keep{ws:List (NK×V×V)}{ds}(h:DN H O ws ds)(k:∀a o,H a=some o->¬O a->H' a=some o):DN H' O ws ds:=⟨h.len,λi p q e1 e2=>(h.key i p q e1 e2).keep k,λi p q e1 e2=>(h.val i p q e1 e2).keep k,h.nA⟩
theorem DN.aV{ws:List (NK×V×V)}{ds}(h:DN H O ws ds)(k:∀a,O' a->O a\/H a=none):DN H O' ws ds:=⟨h.len,λi p q e1 e2=>(h.key i p q e1 e2).aV k,λi p q e1 e2=>(h.val i p q e1 e2).aV k,h.nA⟩
theorem aH.keep(h:aH H O vs ds)(k:∀a o,H a=some o->¬O a->H' a=some o):aH H' O vs ds:=⟨h.1,λi v d e1 e2=>(h.2 i v d e1 e2).keep k⟩
theorem aH.aV(h:aH H O vs ds)(k:∀a,O' a->O a\/H a=none):aH H O' vs ds:=⟨h.1,λi v d e1 e2=>(h.2 i v d e1 e2).aV k⟩
theorem aH.nil:aH H O [] []:=⟨rfl,λi v d e _=>by simp at e⟩
theorem aH.cons{H O v d vs ds}(h:Rep H O v d)(r:aH H O vs ds):aH H O (v::vs) (d::ds):=by refine⟨#v[r.1],λi v' d' e1 e2=>?_⟩;cases i with|zero=>simp at e1 e2;subst e1;subst e2;exact h|succ i=>exact r.2 i v' d' (~~~e1) (~~~e2)
theorem aH.head(r:aH H O (v::vs) (d::ds)):Rep H O v d:=r.2 0 v d rfl rfl
theorem aH.tail(r:aH H O (v::vs) (d::ds)):aH H O vs ds:=⟨~~~r.1,λi v' d' e1 e2=>r.2 (i+1) v' d' (~~~e1) (~~~e2)⟩
theorem aH.append(h:aH H O vs ds)(h':aH H O iG dW):aH H O (vs++iG) (ds++dW):=by induction vs generalizing ds with
 |nil=>cases ds with|nil=>exact h'|cons d r=>have:=h.1;simp at this
 |cons v r ih=>cases ds with|nil=>have:=h.1;simp at this|cons d q=>exact .cons h.head (ih h.tail)
theorem aH.get(h:aH H O vs ds)(e:ds[i]?=some d):∃v,vs[i]?=some v/\Rep H O v d:=by have hi:i<ds.length:=(W9.mp e).1;have hv:i<vs.length:=%[h.1|hi];exact⟨vs[i],#v[hv],h.2 i _ d #v[hv] e⟩
theorem aH.take(n)(h:aH H O vs ds):aH H O (vs.take n) (ds.take n):=by
 refine⟨#v[h.1],λi v d e1 e2=>?_⟩;by_cases hi:i<n;.rw[List.getElem?_take_of_lt hi]at e1 e2;exact h.2 i v d e1 e2
 .rw[List.getElem?_take_eq_none Y']at e1;cases e1
theorem aH.drop(n)(h:aH H O vs ds):aH H O (vs.drop n) (ds.drop n):=by refine⟨#v[h.1],λi v d e1 e2=>?_⟩;rw[List.getElem?_drop]at e1 e2;exact h.2 (n+i) v d e1 e2
theorem aH.set(h:aH H O vs ds)(r:Rep H O v d)(j):aH H O (vs.set j v) (ds.set j d):=by
 refine⟨#v[h.1],λi v' d' e1 e2=>?_⟩;by_cases hi:j=i;.subst hi;rw[Q8]at e1 e2;simp at e1 e2;obtain⟨_,rfl⟩:=e1;obtain⟨_,rfl⟩:=e2;exact r
 .rw[Wa hi]at e1 e2;exact h.2 i v' d' e1 e2
theorem aH.reverse(h:aH H O vs ds):aH H O vs.reverse ds.reverse:=by
 refine⟨#v[h.1],λi v d e1 e2=>?_⟩;have hl:=h.1;have h1:i<vs.length:=by have:=(W9.mp e1).1;simpa using this
 rw[List.getElem?_reverse Y']at e1;rw[List.getElem?_reverse Y']at e2;exact h.2 (vs.length-1-i) v d e1 %[hl|e2]
theorem gv.keep(h:gv H O a d)(hk:∀b o,H b=Option.some o->¬O b->H' b=Option.some o)(ha:∀o,H a=Option.some o->H' a=Option.some o):gv H' O a d:=by cases d<;>first|exact h.elim|(obtain⟨vs,e,r⟩:=h;exact⟨vs,ha _ e,aH.keep r hk⟩)|(obtain⟨ws,e,r,q⟩:=h;exact⟨ws,ha _ e,r,λi p p' e1 e2=>(q i p p' e1 e2).keep hk⟩)|(obtain⟨ep,ws,e,r⟩:=h;exact⟨ep,ws,ha _ e,r.keep hk⟩)
theorem gv.aV(h:gv H O a d)(k:∀a,O' a->O a\/H a=none):gv H O' a d:=by cases d<;>first|exact h.elim|(obtain⟨vs,e,r⟩:=h;exact⟨vs,e,aH.aV r k⟩)|(obtain⟨ws,e,r,q⟩:=h;exact⟨ws,e,r,λi p p' e1 e2=>(q i p p' e1 e2).aV k⟩)|(obtain⟨ep,ws,e,r⟩:=h;exact⟨ep,ws,e,r.aV k⟩)
theorem gv.some(h:gv H O a d):∃o,H a=some o:=by cases d<;>first|exact h.elim|(obtain⟨vs,e,r⟩:=h;exact⟨_,e⟩)|(obtain⟨ep,vs,e,r⟩:=h;exact⟨_,e⟩)
theorem gv.rep(h:gv H O a d)(ho:¬O a):Rep H O (.ref a) d:=by cases d with|lst ds=>obtain⟨vs,e,r⟩:=h;exact .lst ho (.inl e) r.1 r.2|au ds=>obtain⟨ws,e,r,q⟩:=h;exact .au ho e r q|dic ds=>obtain⟨ep,ws,e,r⟩:=h;exact .dic ho e r.len r.key r.val r.nA|_=>exact h.elim
end
structure Xc where
 cls:Tx
 qaP:D
structure Fc where
 H₀:Hp
 B:Addr->Prop
 pin:List (Nat×Addr)xc:Xc->Dl->Prop:=λ_ _=>False
variable{c:Fc}
def Fc.plus(c:Fc)(p:Addr):Fc:={c with B:=λa=>c.B a\/a=p}
def Fc.I(c:Fc)(a:Addr):Prop:=∃i,(i,a)∈c.pin
def Own(M:St)(U:Dl)(a:Addr):Prop:=∃(i:Nat)(d:D),U[i]?=some (some (.own d))/\M[i]?=some (some (.ref a))
def Av(c:Fc)(M:St)(U:Dl)(a:Addr):Prop:=c.B a\/Own M U a
structure Ok(c:Fc)(M:St)(U:Dl)(H:Hp):Prop where
 keep:∀a o,c.H₀ a=some o->¬c.I a->H a=some o
 bd:∀a,c.B a->∃o,H a=some o
 eJ:∀a,c.I a->∃o,H a=some o
 len:U.length=M.length
 slot:∀(i:Nat)d,U[i]?=some (some (.pure d))->∃v,M[i]?=some (some v)/\Rep H (Av c M U) v d
 own:∀(i:Nat)d,U[i]?=some (some (.own d))->∃a,M[i]?=some (some (.ref a))/\gv H (Av c M U) a d/\(c.I a\/c.H₀ a=none)/\¬c.B a
 inj:∀(i j:Nat)a d d',U[i]?=some (some (.own d))->U[j]?=some (some (.own d'))->M[i]?=some (some (.ref a))->M[j]?=some (some (.ref a))->i=j
 pinned:∀p∈c.pin,M[p.1]?=some (some (.ref p.2))
structure aY(c:Fc)(M:St)(U:Dl)(H:Hp)(M':St)(ZB:Dl)(H':Hp):Prop where
 ok:Ok c M' ZB H'
 keep:∀a o,H a=some o->¬Own M U a->H' a=some o
 own:∀a,Own M' ZB a->Own M U a\/H a=none
 there:∀a o,H a=some o->∃o',H' a=some o'
section
variable{M'':St}{U'':Dl}{DK:Hp}{v:V}{d:D}{a p:Addr}
theorem Ok.P0(k:Ok c M U H)(h:c.B a):∃o,H a=some o:=k.bd a h
theorem Ok.qS(k:Ok c M U H)(h:Own M U a):∃o,H a=some o:=by obtain⟨i,d,e1,e2⟩:=h;obtain⟨b,e3,q,_⟩:=k.own i d e1;rw[e2]at e3;cases e3;exact q.some
theorem Ok.uI(k:Ok c M U H)(h:Av c M U a):∃o,H a=some o:=h.elim k.P0 k.qS
theorem Ok.jc(k:Ok c M U H)(h:H a=none):¬Av c M U a:=λz=>by obtain⟨o,e⟩:=k.uI z;grind
theorem aY.refl(k:Ok c M U H):aY c M U H M U H:=⟨k,λ_ _ e _=>e,λ_ h=>.inl h,λ_ o e=>⟨o,e⟩⟩
theorem aY.trans(x:aY c M U H M' ZB H')(y:aY c M' ZB H' M'' U'' DK):aY c M U H M'' U'' DK:=by
 refine⟨y.ok,λa o e n=>?_,λa h=>?_,λa o e=>?_⟩;.refine y.keep a o (x.keep a o e n) λz=>?_;rcases x.own a z with q|q;all_goals grind
 .rcases y.own a h with q|q;.exact x.own a q
  .right;cases e:H a with|none=>rfl|some o=>obtain⟨o',e'⟩:=x.there a o e;grind
 .obtain⟨o',e'⟩:=x.there a o e;exact y.there a o' e'
theorem aY.av(x:aY c M U H M' ZB H'):∀a,Av c M' ZB a->Av c M U a\/H a=none:=λa h=>by
 rcases h with h|h;.exact .inl (.inl h)
 .rcases x.own a h with q|q;.exact .inl (.inr q)
  .exact .inr q
theorem Rep.dH(h:Rep H (Av c M U) v d)(x:aY c M U H M' ZB H'):Rep H' (Av c M' ZB) v d:=by have h1:Rep H (λa=>Av c M U a\/Av c M' ZB a) v d:=Rep.aV h λa z=>z.elim .inl (x.av a);exact(h1.keep λa o e n=>x.keep a o e λz=>n (.inl (.inr z))).aV λa z=>.inl (.inr z)
theorem aH.dH(h:aH H (Av c M U) vs ds)(x:aY c M U H M' ZB H'):aH H' (Av c M' ZB) vs ds:=⟨h.1,λi v d e1 e2=>Rep.dH (h.2 i v d e1 e2) x⟩
def bu(c:Fc)(M:St)(U:Dl)(Hs H:Hp)(v:V):S->Prop|.pure d=>Rep H (Av c M U) v d|.own d=>∃a,v=.ref a/\gv H (Av (c.plus a) M U) a d/\¬c.B a/\c.H₀ a=none/\Ok (c.plus a) M U H/\Hs a=none
theorem uJ(k:Ok (c.plus a) M U H):¬Own M U a:=λ⟨i,d,e1,e2⟩=>by obtain⟨b,e3,_,_,n⟩:=k.own i d e1;rw[e2]at e3;cases e3;exact n (.inr rfl)
theorem bu.rep(h:bu c M U Hs H v r):Rep H (Av c M U) v r.d:=by cases r with|pure d=>exact h|own d=>obtain⟨a,rfl,o,n,f,k,_⟩:=h;refine(o.aV λb z=>.inl ?_).rep λz=>z.elim n (uJ k);exact z.elim (λz=>.inl (.inl z)) .inr
theorem bu.back(h:bu c M U Hs H v r)(x:aY c M₀ U₀ H' M' ZB Hs):bu c M U H' H v r:=by cases r with|pure d=>exact h|own d=>obtain⟨a,e,o,n,f,k,hs⟩:=h;refine⟨a,e,o,n,f,k,?_⟩;cases q:H' a with|none=>rfl|some o=>obtain⟨o',e'⟩:=x.there a o q;grind
theorem bu.P4(h:bu c M U Hs H v r):bu c M U c.H₀ H v r:=by cases r with|pure d=>exact h|own d=>obtain⟨a,e,o,n,f,k,hs⟩:=h;exact⟨a,e,o,n,f,k,f⟩
theorem Ok.alloc(k:Ok c M U H)(hp:H p=none)(o):Ok c M U (upd H p o):=by
 have up:∀a w,H a=some w->upd H p o a=some w:=λa w e=>by rw[aP (fF e hp)];exact e
 refine⟨λa w e n=>up a w (k.keep a w e n),λa z=>(k.bd a z).elim λw e=>⟨w,up a w e⟩,λa z=>(k.eJ a z).elim λw e=>⟨w,up a w e⟩,k.len,λi d e=>?_,λi d e=>?_,k.inj,k.pinned⟩;.obtain⟨v,e1,r⟩:=k.slot i d e;exact⟨v,e1,r.keep λa w q _=>up a w q⟩
 .obtain⟨a,e1,r,q⟩:=k.own i d e;exact⟨a,e1,r.keep (λb w q _=>up b w q) λw q=>up a w q,q⟩
theorem aY.alloc(k:Ok c M U H)(hp:H p=none)(o):aY c M U H M U (upd H p o):=by
 have up:∀a w,H a=some w->upd H p o a=some w:=λa w e=>by rw[aP (fF e hp)];exact e
 exact⟨k.alloc hp o,λa w e _=>up a w e,λa h=>.inl h,λa w e=>⟨w,up a w e⟩⟩
theorem Ok.nC(k:Ok c M U H)(hp:H p=none):c.H₀ p=none:=by cases e:c.H₀ p with|none=>rfl|some o=>
 by_cases q:c.I p;.obtain⟨w,e'⟩:=k.eJ p q;grind
 .have:=k.keep p o e q;grind
theorem Ok.plus(k:Ok c M U H)(hp:H p=none)(o):Ok (c.plus p) M U (upd H p o):=by
 have k':=k.alloc hp o;have sub:∀b,Av (c.plus p) M U b->Av c M U b\/b=p:=λb z=>by
  rcases z with(z|z)|z;.exact .inl (.inl z)
  .exact .inr z
  .exact .inl (.inr z)
 have uK:∀b,Av (c.plus p) M U b->Av c M U b\/H b=none:=λb z=>(sub b z).elim .inl λe=>.inr %[e|hp];have up:∀a w,H a=some w->upd H p o a=some w:=λa w e=>by rw[aP (fF e hp)];exact e
 refine⟨k'.keep,λa z=>?_,k'.eJ,k.len,λi d e=>?_,λi d e=>?_,k.inj,k.pinned⟩
 .rcases z with z|z;.exact k'.bd a z
  .exact⟨o,%[z|cD]⟩
 .obtain⟨v,e1,r⟩:=k.slot i d e;exact⟨v,e1,(r.aV uK).keep λa w q _=>up a w q⟩
 .obtain⟨a,e1,r,q,nb⟩:=k.own i d e;refine⟨a,e1,(r.aV uK).keep (λb w q _=>up b w q) λw q=>up a w q,q,λz=>?_⟩;rcases z with z|z;all_goals grind[gv.some]
theorem bu.nD(k:Ok c M U H)(r:aH H (Av c M U) vs ds)(hp:H p=none):bu c M U H (upd H p (.lst vs)) (.ref p) (.own (.lst ds)):=by
 have up:∀a w,H a=some w->upd H p (.lst vs) a=some w:=λa w e=>by rw[aP (fF e hp)];exact e
 refine⟨p,rfl,⟨vs,cD,?_⟩,λz=>k.jc hp (.inl z),k.nC hp,k.plus hp _,hp⟩;have r1:aH H (Av (c.plus p) M U) vs ds:=aH.aV r λb z=>by
  rcases z with(z|z)|z;.exact .inl (.inl z)
  .exact .inr %[z|hp]
  .exact .inl (.inr z)
 exact aH.keep r1 λb w e _=>up b w e
theorem bu.oU(k:Ok c M U H)(r:aH H (Av c M U) vs ds)(hp:H p=none):bu c M U H (upd H p (.tup vs)) (.ref p) (.pure (.tup ds)):=by
 have up:∀a w,H a=some w->upd H p (.tup vs) a=some w:=λa w e=>by rw[aP (fF e hp)];exact e
 have r1:=aH.keep r (H':=upd H p (.tup vs)) λb w e _=>up b w e;exact .tup (k.jc hp) cD r1.1 r1.2
end
inductive Rs(α:Type)where|ok(a:α)(U:Dl)|exc(x:Xc)(U:Dl)|stuck
noncomputable def Rs.bind{α β:Type}(r:Rs α)(f:α->Dl->Rs β):Rs β:=match r with|.ok a U=>f a U|.exc x U=>.exc x U|.stuck=>.stuck
abbrev DE:=Dl->Rs S
variable{el fe:DE}
def XC(c:Fc)(x:Xc)(U:Dl):Prop:=c.xc x U
def post{α:Type}(c:Fc)(r:Rs α)(k:α->Dl->Prop):Prop:=match r with|.ok a U=>k a U|.exc x U=>XC c x U|.stuck=>False
theorem bp:post c (r.bind f) k↔post c r λa U=>post c (f a U) k:=by cases r<;>exact Iff.rfl
theorem aT(h:post c r k)(m:∀a U,k a U->k' a U):post c r k':=by cases r with|ok a U=>exact m a U h|exc x U=>exact h|stuck=>exact h
def tD(c:Fc)(f:DE):TE:=λM H Q=>∃U,Ok c M U H/\post c (f U) λr ZB=>∀v H',aY c M U H M ZB H'->bu c M ZB H H' v r->Q v H'
abbrev SE(X:Cx)(c:Fc)(e:Expr)(f:DE):Prop:=PE X e (tD c f)
def cT(c:Fc)(M:St)(U:Dl)(H:Hp)(v:V)(d:D):Prop:=Rep H (Av c M U) v d\/∃a,v=.ref a/\gv H (Av c M U) a d
abbrev BE:=Dl->Rs D
variable{fb fc:BE}
def UF(c:Fc)(f:BE):TE:=λM H Q=>∃U,Ok c M U H/\post c (f U) λd ZB=>∀v H',aY c M U H M ZB H'->cT c M ZB H' v d->Q v H'
abbrev SB(X:Cx)(c:Fc)(e:Expr)(f:BE):Prop:=PE X e (UF c f)
theorem PE.weak{t'}(h:PE X e t)(w:∀M H Q,t' M H Q->t M H Q):PE X e t':=λpins s M H Q I q=>h pins s M H Q I (w M H Q q)
def aq(f:DE):BE:=λU=>(f U).bind λr ZB=>.ok r.d ZB
theorem bu.b(h:bu c M U Hs H v r):cT c M U H v r.d:=.inl h.rep
theorem P5{f}(h:SE X c e f):SB X c e (aq f):=PE.weak h λM H Q⟨U,k,p⟩=>⟨U,k,by unfold aq at p;rw[bp]at p;exact aT p λr ZB q v H' a s=>q v H' a s.b⟩
def ah(i:Nat):BE:=λU=>match U[i]? with|some (some r)=>.ok r.d U|_=>.stuck
def aa(i:Nat):DE:=λU=>match U[i]? with|some (some (.pure d))=>.ok (.pure d) U|some (some (.own d))=>.ok (.pure d) (U.set i (some (.pure d)))|_=>.stuck
def eD(d:D):DE:=λU=>.ok (.pure d) U
theorem P6(h:PE X e (dq i)):SB X c e (ah i):=PE.weak h λM H Q⟨U,k,p⟩=>by unfold ah at p;cases e:U[i]? with|none=>rw[e]at p;exact p.elim|some o=>cases o with|none=>rw[e]at p;exact p.elim|some r=>rw[e]at p;cases r with|pure d=>obtain⟨v,e1,r⟩:=k.slot i d e;exact⟨v,e1,p v H (.refl k) (.inl r)⟩|own d=>obtain⟨a,e1,r,_⟩:=k.own i d e;exact⟨.ref a,e1,p _ H (.refl k) (.inr ⟨a,rfl,r⟩)⟩
theorem Own.sub(h:Own M (U.set i (some (.pure d))) a):Own M U a:=by
 obtain⟨j,d',e1,e2⟩:=h;by_cases hj:i=j;.subst hj;rw[Q8]at e1;simp at e1
 .rw[Wa hj]at e1;exact⟨j,d',e1,e2⟩
theorem Ok.give(k:Ok c M U H)(e:U[i]?=some (some (.own d))):∃a,M[i]?=some (some (.ref a))/\aY c M U H M (U.set i (some (.pure d))) H/\Rep H (Av c M (U.set i (some (.pure d)))) (.ref a) d:=by
 obtain⟨a,e1,r,q,nb⟩:=k.own i d e;have hi:i<U.length:=(W9.mp e).1;have sub:∀b,Av c M (U.set i (some (.pure d))) b->Av c M U b:=λb z=>z.elim .inl λz=>.inr z.sub;have na:¬Av c M (U.set i (some (.pure d))) a:=by
  rintro(z|⟨j,d',f1,f2⟩);.exact nb z
  .by_cases hj:i=j;.subst hj;rw[Q8]at f1;simp at f1
   .rw[Wa hj]at f1;exact hj (k.inj i j a d d' e f1 e1 f2)
 have rep:Rep H (Av c M (U.set i (some (.pure d)))) (.ref a) d:=(r.aV λb z=>.inl (sub b z)).rep na;refine⟨a,e1,⟨⟨k.keep,k.bd,k.eJ,%[Qg|k.len],λj d' f=>?_,λj d' f=>?_,λj l b d1 d2 f1 f2=>?_,k.pinned⟩,λ_ _ w _=>w,λb z=>.inl z.sub,λ_ o w=>⟨o,w⟩⟩,rep⟩
 .by_cases hj:i=j;.subst hj;rw[Wr hi]at f;cases f;exact⟨.ref a,e1,rep⟩
  .rw[Wa hj]at f;obtain⟨v,g1,g2⟩:=k.slot j d' f;exact⟨v,g1,g2.aV λb z=>.inl (sub b z)⟩
 .by_cases hj:i=j;.subst hj;rw[Wr hi]at f;cases f
  .rw[Wa hj]at f;obtain⟨b,g1,g2,g3⟩:=k.own j d' f;exact⟨b,g1,g2.aV λb z=>.inl (sub b z),g3⟩
 .have h1:U[j]?=some (some (.own d1)):=by
   by_cases hj:i=j;.subst hj;rw[Wr hi]at f1;cases f1
   .rw[Wa hj]at f1;exact f1
  have h2:U[l]?=some (some (.own d2)):=by
   by_cases hj:i=l;.subst hj;rw[Wr hi]at f2;cases f2
   .rw[Wa hj]at f2;exact f2
  exact k.inj j l b d1 d2 h1 h2
theorem P7(h:PE X e (dq i)):SE X c e (aa i):=PE.weak h λM H Q⟨U,k,p⟩=>by unfold aa at p;cases e:U[i]? with|none=>rw[e]at p;exact p.elim|some o=>cases o with|none=>rw[e]at p;exact p.elim|some r=>rw[e]at p;cases r with|pure d=>obtain⟨v,e1,r⟩:=k.slot i d e;exact⟨v,e1,p v H (.refl k) r⟩|own d=>obtain⟨a,e1,x,r⟩:=k.give e;exact⟨.ref a,e1,p _ H x r⟩
theorem DM{i j pos}:SE X c (.Constant (.int i) j pos) (eD (.int i)):=PE.weak B9 λM H Q⟨U,k,p⟩=>p _ H (.refl k) (.int i)
theorem DO{b j pos}:SE X c (.Constant (.bool b) j pos) (eD (.bl b)):=PE.weak M_ λM H Q⟨U,k,p⟩=>p _ H (.refl k) (.bl b)
theorem DQ{j pos}:SE X c (.Constant .none j pos) (eD .aJ):=PE.weak Na λM H Q⟨U,k,p⟩=>p _ H (.refl k) .aJ
theorem DU{x j pos}(y)(h:x=toS y:=by decide+kernel):SE X c (.Constant (.str x) j pos) (eD (.str y)):=by subst h;exact PE.weak B_ λM H Q⟨U,k,p⟩=>p _ H (.refl k) (.str y)
theorem P8{i}(hg:Gl X x)(hm:X.mg x=some (.int i t))(hd:(x==("__debug__":Str))=false:=by decide):SE X c (.Name x pos) (eD (.int i)):=PE.weak (Ca (v:=.int i) hg hm ⟨t,rfl⟩ hd) λM H Q⟨U,k,p⟩=>p _ H (.refl k) (.int i)
open PySem.SeqAt
mutual noncomputable def bw:D->D->Bool|.aJ,.aJ=>true|.bl a,.bl b=>a==b|.int a,.int b=>a==b|.bl a,.int b=>(if a then 1 else 0)==b|.int a,.bl b=>a==if b then 1 else 0|.str a,.str b=>a==b|.tup xs,.tup ys=>cU xs ys|.lst xs,.lst ys=>cU xs ys|_,_=>false noncomputable def cU:List D->List D->Bool|[],[]=>true|x::xs,y::ys=>bw x y&&cU xs ys|_,_=>false end
mutual noncomputable def flat:Nat->D->Bool|_,.aJ=>true|_,.bl _=>true|_,.int _=>true|_,.str _=>true|0,.tup _=>false|n+1,.tup xs=>jJ n xs|0,.lst _=>false|n+1,.lst xs=>jJ n xs|_,.au _=>false|_,.exc _ _=>false|_,.xd _=>false|_,.fn _=>false|_,.dic _=>false noncomputable def jJ:Nat->List D->Bool|_,[]=>true|n,x::xs=>flat n x&&jJ n xs end
theorem nE:∀{xs:List D}{x:D},jJ n xs=true->x∈xs->flat n x=true
 |[],_,_,h=>by simp at h|y::ys,x,h,hm=>by
  simp only[jJ,Wy]at h;rcases Wf.mp hm with e|hm;.rw[e];exact h.1
  .exact nE h.2 hm
theorem ya:∀{xs ys:List D}{f:Nat->Bool},xs.length=ys.length->(∀j x y,xs[j]?=some x->ys[j]?=some y->f j=bw x y)->(WB xs.length).all f=cU xs ys|[],[],f,_,_=>rfl|[],y::ys,f,h,_=>by simp at h|x::xs,[],f,h,_=>by simp at h|x::xs,y::ys,f,h,hf=>by simp only[cU];rw[WP,List.range_succ_eq_map,JL,hf 0 x y rfl rfl,List.all_map];rw[<-ya (f:=λj=>f (j+1)) (~~~h) λj a b e1 e2=>hf (j+1) a b (~~~e1) (~~~e2)];rfl
theorem yb:∀{xs ys:List D},xs.length≠ys.length->cU xs ys=false|[],[],h=>absurd rfl h|[],y::ys,_=>rfl|x::xs,[],_=>rfl|x::xs,y::ys,h=>by simp only[cU];rw[yb (xs:=xs) (ys:=ys) (by intro e;exact h #v[e])];simp
mutual theorem yc:∀{n:Nat}{d:D},flat n d=true->bw d d=true|_,.aJ,_=>rfl|_,.bl b,_=>#v[bw]|_,.int i,_=>#v[bw]|_,.str x,_=>#v[bw]|0,.tup xs,h=>by simp[flat]at h|n+1,.tup xs,h=>by simp only[bw];exact yd (n:=n) (by simpa[flat]using h)|0,.lst xs,h=>by simp[flat]at h|n+1,.lst xs,h=>by simp only[bw];exact yd (n:=n) (by simpa[flat]using h)|_,.au xs,h=>by simp[flat]at h|_,.exc n _,h=>by simp[flat]at h|_,.xd n,h=>by simp[flat]at h;theorem yd:∀{n:Nat}{ds:List D},jJ n ds=true->cU ds ds=true|_,[],_=>rfl|n,x::xs,h=>by simp only[jJ,Wy]at h;simp only[cU];rw[yc h.1,yd h.2];rfl;end
abbrev eA:Addr->Prop:=λ_=>False
theorem Rep.un(h:Rep H O v d):Rep H eA v d:=Rep.aV h λ_ z=>z.elim
theorem cT.un(h:cT c M U H v d):Rep H eA v d:=by
 rcases h with h|⟨a,rfl,o⟩;.exact Rep.un h
 .exact(o.aV (O':=eA) λ_ z=>z.elim).rep λz=>z
section
variable{s:W4}
theorem Inv.uL(I:Inv X pins M H s)(h:Rd H a (.lst vs)):∃ak:List Value,Vals vs ak/\s.heap.IsList a ak.toArray:=by obtain⟨ak,r,p,_⟩:=I.list (.inl h);exact⟨ak,r,p.isList⟩
theorem Inv.nF(I:Inv X pins M H s)(h:H a=some (.tup vs)):∃ak:List Value,Vals vs ak/\s.heap.IsTuple a ak.toArray:=by obtain⟨ak,r,p,_⟩:=I.tuple (.of h);exact⟨ak,r,p⟩
theorem qT(x y):((toS x:Str)==toS y)=(x==y):=by rw[Qp];simp only[beq_iff_eq];exact⟨uH,λe=>by rw[e]⟩
theorem DW(A:Wt):A.in1.units=A.units+1:=rfl
theorem Rd.inj{u w}(h:Rd H a u)(k:Rd H a w)(hu:∀o z,u≠.frz o z)(hw:∀o z,w≠.frz o z):u=w:=by
 rcases h with h|⟨o,h⟩<;>rcases k with k|⟨o',k⟩;.rw[h]at k;exact WN k
 .rw[h]at k;exact absurd (WN k) (hu _ _)
 .rw[h]at k;exact absurd (WN k).symm (hw _ _)
 .rw[h]at k;have:=WN k;injection this
theorem aH.inj:∀{ds es:List D},vs.length=ds.length->vs.length=es.length->(∀(i:Nat)v d e,vs[i]?=some v->ds[i]?=some d->es[i]?=some e->d=e)->ds=es:=by
 intro ds es h1 h2 h;apply List.ext_getElem?;intro i;by_cases hi:i<vs.length
 .have a1:i<ds.length:=by lia
  have a2:i<es.length:=by lia
  rw[W8 a1,W8 a2];rw[h i vs[i] ds[i] es[i] #v[hi] #v[a1] #v[a2]]
 .rw[QA Y',QA Y']
theorem Rep.inj{v d}(h:Rep H O v d):∀{n:Nat}{e:D},flat n d=true->flat n e=true->Rep H O v e->d=e:=by induction h with
 |aJ=>intro n e _ _ k;cases k;rfl|bl b=>intro n e _ _ k;cases k;rfl|int i=>intro n e _ _ k;cases k;rfl|str x=>intro n e _ _ k;generalize hz:V.str (toS x)=z at k;cases k with|str y=>injection hz with hz;rw[uH hz]|_=>cases hz
 |@tup a vs ds h1 h2 h3 h4 ih=>intro n e fd fe k;cases n with|zero=>simp[flat]at fd|succ n=>simp only[flat]at fd;cases k with|@tup _ ws es k1 k2 k3 k4=>simp only[flat]at fe;have e1:=Rd.inj (.inl h2) (.inl k2) (λ_ _ z=>by cases z) (λ_ _ z=>by cases z);injection e1 with e1;subst e1;rw[aH.inj h3 k3 λi v d e q1 q2 q3=>ih i v d q1 q2 (nE fd (Wj q2)) (nE fe (Wj q3)) (k4 i v e q1 q3)]|lst k1 k2=>exact absurd (Rd.inj (.inl h2) k2 (λ_ _ z=>by cases z) λ_ _ z=>by cases z) λz=>by cases z|au k1 k2=>exact absurd (Rd.inj (.inl h2) (.inl k2) (λ_ _ z=>by cases z) λ_ _ z=>by cases z) λz=>by cases z|exc k1 k2=>simp[flat]at fe|xd k1 k2=>simp[flat]at fe|fn _=>simp[flat]at fe|dic _=>simp[flat]at fe
 |@lst a vs ds h1 h2 h3 h4 ih=>intro n e fd fe k;cases n with|zero=>simp[flat]at fd|succ n=>simp only[flat]at fd;cases k with|@lst _ ws es k1 k2 k3 k4=>simp only[flat]at fe;have e1:=Rd.inj h2 k2 (λ_ _ z=>by cases z) (λ_ _ z=>by cases z);injection e1 with e1;subst e1;rw[aH.inj h3 k3 λi v d e q1 q2 q3=>ih i v d q1 q2 (nE fd (Wj q2)) (nE fe (Wj q3)) (k4 i v e q1 q3)]|tup k1 k2=>exact absurd (Rd.inj h2 (.inl k2) (λ_ _ z=>by cases z) λ_ _ z=>by cases z) λz=>by cases z|au k1 k2=>exact absurd (Rd.inj h2 (.inl k2) (λ_ _ z=>by cases z) λ_ _ z=>by cases z) λz=>by cases z|exc k1 k2=>simp[flat]at fe|xd k1 k2=>simp[flat]at fe|fn _=>simp[flat]at fe|dic _=>simp[flat]at fe
 |au h1 h2 h3 h4 ih=>intro n e fd _ _;cases n<;>simp[flat]at fd|exc h1 h2=>intro n e fd _ _;cases n<;>simp[flat]at fd|xd h1 h2=>intro n e fd _ _;cases n<;>simp[flat]at fd|fn _=>intro n e fd _ _;cases n<;>simp[flat]at fd|dic h1 h2=>intro n e fd _ _;cases n<;>simp[flat]at fd
def ye(H:Hp)(s:W4)(n:Nat):Prop:=∀(A:Wt)(x y:V)(u w:Value)(d e:D),A.units+n+1<Q1->flat n d=true->flat n e=true->Rep H eA x d->Rep H eA y e->RelV x u->RelV y w->EqAt A s u w (bw d e)
def uM(H:Hp)(s:W4)(A:Wt)(n:Nat):Prop:=match n with|0=>True|m+1=>A.units+m+2<Q1/\ye H s m
def qU(ds es:List D)(j:Nat):Bool:=match ds[j]?,es[j]? with|some p,some q=>bw p q|_,_=>false
theorem uN{es}(j p q)(e1:ds[j]?=some p)(e2:es[j]?=some q):qU ds es j=bw p q:=by unfold qU;rw[e1,e2]
theorem DY{ws:List V}{es:List D}(hu:A.units+n+2<Q1)(ih:ye H s n)(r1:Vals vs ak)(r2:Vals ws ic)(l1:vs.length=ds.length)(l2:ws.length=es.length)(g1:∀(i:Nat)v d,vs[i]?=some v->ds[i]?=some d->Rep H eA v d)(g2:∀(i:Nat)v d,ws[i]?=some v->es[i]?=some d->Rep H eA v d)(f1:jJ n ds=true)(f2:jJ n es=true):∀j(h1:j<ak.toArray.size)(h2:j<ic.toArray.size),EqAt A.in1 s ak.toArray[j] ic.toArray[j] (qU ds es j):=by
 intro j h1 h2;have e1:=r1.length;have e2:=r2.length;simp at h1 h2;have hd:j<ds.length:=by lia
 have he:j<es.length:=by lia
 have hv:j<vs.length:=by lia
 have hw:j<ws.length:=by lia
 obtain⟨u',kg,ru'⟩:=r1.get (i:=j) (x:=vs[j]) #v[hv];obtain⟨w',hw',rw''⟩:=r2.get (i:=j) (x:=ws[j]) #v[hw];have eu:ak.toArray[j]=u':=by simpa[h1]using kg
 have ew:ic.toArray[j]=w':=by simpa[h2]using hw'
 rw[eu,ew,uN j ds[j] es[j] #v[hd] #v[he]];exact ih A.in1 vs[j] ws[j] u' w' ds[j] es[j] (by rw[DW];lia) (nE f1 (WQ hd)) (nE f2 (WQ he)) (g1 j _ _ #v[hv] #v[hd]) (g2 j _ _ #v[hw] #v[he]) ru' rw''
theorem DZ{m es}(h1:n=ds.length)(h2:m=es.length):((WB (min n m)).all (qU ds es)&&n==m)=cU ds es:=by
 subst h1 h2;by_cases hl:ds.length=es.length;.rw[<-hl,Nat.min_self,ya hl uN];simp
 .rw[yb hl];simp[hl]
theorem P9{es}(I:Inv X pins M H s)(n:Nat)(A:Wt)(dX:A.units<Q1)(t1:s.heap.IsTuple a ak.toArray)(t2:s.heap.IsTuple b ic.toArray)(r1:Vals vs ak)(r2:Vals ws ic)(l1:vs.length=ds.length)(l2:ws.length=es.length)(g1:∀(i:Nat)v d,vs[i]?=some v->ds[i]?=some d->Rep H eA v d)(g2:∀(i:Nat)v d,ws[i]?=some v->es[i]?=some d->Rep H eA v d)(f1:flat n (.tup ds)=true)(f2:flat n (.tup es)=true)(ih:uM H s A n):RcAt A s (.ref a) (.ref b) (cU ds es):=by cases n with|zero=>simp[flat]at f1|succ n=>simp only[flat]at f1 f2;obtain⟨hu,ih⟩:=ih;have q:=RcAt.tuples (A:=A) (s:=s) t1 t2 dX (DY hu ih r1 r2 l1 l2 g1 g2 f1 f2);rw[DZ (by have:=r1.length;simp;lia) (by have:=r2.length;simp;lia)]at q;exact q
theorem P_{es}(I:Inv X pins M H s)(n:Nat)(A:Wt)(dX:A.units<Q1)(t1:s.heap.IsList a ak.toArray)(t2:s.heap.IsList b ic.toArray)(r1:Vals vs ak)(r2:Vals ws ic)(l1:vs.length=ds.length)(l2:ws.length=es.length)(g1:∀(i:Nat)v d,vs[i]?=some v->ds[i]?=some d->Rep H eA v d)(g2:∀(i:Nat)v d,ws[i]?=some v->es[i]?=some d->Rep H eA v d)(f1:flat n (.lst ds)=true)(f2:flat n (.lst es)=true)(ih:uM H s A n):RcAt A s (.ref a) (.ref b) (cU ds es):=by cases n with|zero=>simp[flat]at f1|succ n=>
 simp only[flat]at f1 f2;obtain⟨hu,ih⟩:=ih;have z1:ak.toArray.size=ds.length:=by have:=r1.length;simp;lia
 have z2:ic.toArray.size=es.length:=by have:=r2.length;simp;lia
 by_cases hl:ds.length=es.length;.have q:=RcAt.lists (A:=A) (s:=s) t1 t2 %[z1,z2|hl] dX (DY hu ih r1 r2 l1 l2 g1 g2 f1 f2);rw[z1,ya hl uN]at q;exact q
 .rw[yb hl];exact RcAt.lists_lengths (A:=A) (s:=s) t1 t2 (by rw[z1,z2];simpa using hl) dX
theorem yf(I:Inv X pins M H s)(n)(A:Wt)(x y u w d e)(dX:A.units<Q1)(fd:flat n d=true)(fe:flat n e=true)(ih:uM H s A n)(rx:Rep H eA x d)(ry:Rep H eA y e)(ru:RelV x u)(cR:RelV y w):RcAt A s u w (bw d e):=by cases rx with
 |tup h1 h2 h3 h4=>cases ru;obtain⟨its1,r1,t1⟩:=Inv.nF I h2;cases ry with|tup k1 k2 k3 k4=>cases cR;obtain⟨its2,r2,t2⟩:=Inv.nF I k2;simp only[bw];exact P9 I n A dX t1 t2 r1 r2 h3 k3 h4 k4 fd fe ih|lst k1 k2 k3 k4=>cases cR;obtain⟨its2,r2,t2⟩:=Inv.uL I k2;simp only[bw];exact RcAt.tuple_list t1 t2 dX|_=>first|(cases n<;>simp[flat]at fe;done)|((first|obtain⟨t2,rfl⟩:=cR|cases cR);simp only[bw];with_reducible first|exact RcAt.tuple_none t1 dX|exact RcAt.tuple_bool _ t1 dX|exact RcAt.tuple_int _ _ t1 dX|exact RcAt.tuple_str _ _ t1 dX)
 |lst h1 h2 h3 h4=>cases ru;obtain⟨its1,r1,t1⟩:=Inv.uL I h2;cases ry with|tup k1 k2 k3 k4=>cases cR;obtain⟨its2,r2,t2⟩:=Inv.nF I k2;simp only[bw];exact RcAt.list_tuple t1 t2 dX|lst k1 k2 k3 k4=>cases cR;obtain⟨its2,r2,t2⟩:=Inv.uL I k2;simp only[bw];exact P_ I n A dX t1 t2 r1 r2 h3 k3 h4 k4 fd fe ih|_=>first|(cases n<;>simp[flat]at fe;done)|((first|obtain⟨t2,rfl⟩:=cR|cases cR);simp only[bw];with_reducible first|exact RcAt.list_none t1 dX|exact RcAt.list_bool _ t1 dX|exact RcAt.list_int _ _ t1 dX|exact RcAt.list_str _ _ t1 dX)
 |_=>
 first|(cases n<;>simp[flat]at fd;done)|skip
 all_goals first|obtain⟨t1,rfl⟩:=ru|cases ru
 all_goals cases ry with
 |tup k1 k2 k3 k4=>cases cR;obtain⟨its2,r2,t2⟩:=Inv.nF I k2;simp only[bw];with_reducible first|exact RcAt.none_tuple t2 dX|exact RcAt.bool_tuple _ t2 dX|exact RcAt.int_tuple _ _ t2 dX|exact RcAt.str_tuple _ _ t2 dX
 |lst k1 k2 k3 k4=>cases cR;obtain⟨its2,r2,t2⟩:=Inv.uL I k2;simp only[bw];with_reducible first|exact RcAt.none_list t2 dX|exact RcAt.bool_list _ t2 dX|exact RcAt.int_list _ _ t2 dX|exact RcAt.str_list _ _ t2 dX
 |_=>first|(cases n<;>simp[flat]at fe;done)|((first|obtain⟨t2,rfl⟩:=cR|cases cR);simp only[bw];with_reducible first|exact RcAt.none_none|exact RcAt.none_bool _|exact RcAt.none_int _ _|exact RcAt.none_str _ _|exact RcAt.bool_none _|exact RcAt.bool_bool _ _|exact RcAt.bool_int _ _ _|exact RcAt.bool_str _ _ _|exact RcAt.int_none _ _|exact RcAt.int_bool _ _ _|exact RcAt.int_int _ _ _ _|exact RcAt.int_str _ _ _ _|exact RcAt.str_none _ _|exact RcAt.str_bool _ _ _|exact RcAt.str_int _ _ _ _|(rw[<-qT];exact RcAt.str_str _ _ _ _))
theorem D3{w}(h:RcAt A s u w k)(hs:u=w->k=true)(hf:∀b t,u≠Value.float b t):EqAt A s u w k:=λprog w' E Q hq=>by
 unfold eqBool;refine WI ?_;refine wpAny_ite_split (λgw=>?_) λ_=>?_;.have e:=eq_of_beq gw;rw[hs e]at hq;exact W0 (QU (W3 hq))
 .cases u with|float b t=>exact absurd rfl (hf b t)|_=>exact W0 (h prog w' E _ (Ql hq))
theorem D4{x}(r:Rep H eA x d)(ru:RelV x u)(b t):u≠Value.float b t:=by intro e;subst e;cases r<;>first|(cases ru;done)|(obtain⟨t',e⟩:=ru;cases e)
theorem D5(I:Inv X pins M H s)(n):ye H s n:=by induction n with|zero=>intro A x y u w d e hu fd fe rx ry ru cR;refine D3 (yf I 0 A x y u w d e Y' fd fe trivial rx ry ru cR) (λh=>?_) (D4 rx ru);subst h;have:=ru.inj cR;subst this;rw[Rep.inj rx fd fe ry];exact yc fe|succ n ih=>intro A x y u w d e hu fd fe rx ry ru cR;refine D3 (yf I (n+1) A x y u w d e Y' fd fe ⟨Y',ih⟩ rx ry ru cR) (λh=>?_) (D4 rx ru);subst h;have:=ru.inj cR;subst this;rw[Rep.inj rx fd fe ry];exact yc fe
theorem Q_(I:Inv X pins M H s):∀n:Nat,A.units+n+1<Q1->uM H s A n|0,_=>trivial|n+1,h=>⟨Y',D5 I n⟩
def yg:R2:=λx y H Q=>∃d e,Rep H eA x d/\Rep H eA y e/\flat 50 d=true/\flat 50 e=true/\Q (.bl (bw d e)) H
theorem Ra(hu:X.A.units+64<Q1):bD X (WF .Eq) yg:=by intro pins s M H x y v u Q I rx ry h;obtain⟨d,e,r1,r2,f1,f2,q⟩:=h;exact yf I 50 X.A x y v u d e Y' f1 f2 (Q_ I 50 Y') r1 r2 rx ry X.prog X.w X.xe _ ⟨.bl _,H,I,rfl,q⟩
end
def bC{α:Type}(xs:List α)(lo hi:Option Int):List α:=(xs.drop (ba xs.length 0 lo)).take (ba xs.length xs.length hi-ba xs.length 0 lo)
theorem D6(xs lo hi):bC xs lo hi=mf xs lo hi:=rfl
theorem kh(xs:List α)(lo hi):(bC xs lo hi).length<=xs.length:=by unfold bC;rw[Us,List.length_drop];lia
theorem aH.cut(lo hi)(h:aH H O vs ds):aH H O (bC vs lo hi) (bC ds lo hi):=by unfold bC;rw[h.1];exact aH.take _ (aH.drop _ h)
theorem Rb{α:Type}{xs:List α}(h:ba xs.length 0 lo=0/\ba xs.length xs.length hi=xs.length):bC xs lo hi=xs:=by unfold bC;rw[h.1,h.2];simp
section
variable{s:W4}
theorem Rc{t}(ht:IsTup s.heap t items)(hs:s.heap.IsSliceOf sl vl vu .none)(pl:IsPart vl lo)(pu:IsPart vu hi)(hw:ba items.size 0 lo=0/\ba items.size items.size hi=items.size)(h:Q (.ref t) s):W7 (model prog w) A (JK (.ref t) (.ref sl)) Q E s:=by
 obtain⟨os,hos,hcs,ja⟩:=id hs;have qI:s.TypeIs (.ref sl) "slice":=⟨os,hos,hcs⟩;unfold JK;try with_reducible refine WI ?_
 first|refine W0 (W3 ?_)|skip
 refine W0 (JR ht.typeIs Z' ?_);refine W0 (WE (name:=Str.ofString "__getitem__") ht.typeIs Qv (WA Qv ht.typeIs entry_tuple_getitem ?_ (args_tuple_getitem _ _)));show W7 _ _ (Jq (.ref t)>>=_) _ _ s;refine W0 (tupleItemsOf_ ht ?_);refine W0 (JA qI ?_);rw[if_pos Z'];refine W0 (CY hs pl pu ?_);show W7 _ _ (if(((ba items.size 0 lo:Nat):Int)==0&&(1:Int)==1&&ba items.size items.size hi-ba items.size 0 lo==items.size)=true then _ else _) _ _ s;rw[hw.1,hw.2];rw[if_pos U'];refine W0 (m:=Builtin.Tuple.tupleIsExact (.ref t)) ?_;unfold Builtin.Tuple.tupleIsExact;refine W0 (JA ht.typeIs (W3 ?_));rw[if_pos Z'];exact W0 (QU (W0 (W3 (W3 ⟨_,rfl,W3 h⟩))))
end
def D7(K:W5):V->Option Int->Option Int->Hp->VK->Prop:=λx lo hi H Q=>∃a xs,x=.ref a/\cE K H a xs/\((ba xs.length 0 lo=0/\ba xs.length xs.length hi=xs.length)->Q (.ref a) H)/\(¬(ba xs.length 0 lo=0/\ba xs.length xs.length hi=xs.length)->∀p,H p=none->Q (.ref p) (upd H p (.tup (mf xs lo hi))))
theorem Rf:j_ X (D7 X.K):=by
 intro pins s M H x v vl vu lo hi sl Q I rx hs pl pu h;obtain⟨a,xs,rfl,hx,q1,q2⟩:=h;by_cases hw:ba xs.length 0 lo=0/\ba xs.length xs.length hi=xs.length;.cases rx;obtain⟨ak,r,ht,hz⟩:=I.tuple hx;have hlen:ak.toArray.size=xs.length:=%[Ww|r.length.symm];refine⟨"tuple",_,PyProof.Rows.slot_tuple_getitem.lookup,ht.typeIs,?_⟩;exact Rc ht hs pl pu %[hlen|hw] ⟨.ref a,H,I,rfl,q1 hw⟩
 .exact uk pins s M H (.ref a) v vl vu lo hi sl Q I rx hs pl pu ⟨a,xs,rfl,hx,hw,q2 hw⟩
theorem Rg(a b:Nat):sliceRange (a:Int) (b:Int) 1=(WB (b-a)).map λk=>a+k:=by
 have h0:((1:Int)>0)=True:=by simp
 unfold sliceRange;simp only[h0,if_true];by_cases bc:(a:Int)<(b:Int)
 .rw[if_pos bc];have e3:(((b:Int)-(a:Int)+1-1)/1).toNat=b-a:=by rw[Int.ediv_one];lia
  rw[e3];refine WK λk _=>?_;lia
 .rw[if_neg bc];have:b-a=0:=by lia
  rw[this];rfl
theorem D8(lo hi)(n:Nat):QW lo hi 1 n=(WB (ba n n hi-ba n 0 lo)).map λk=>ba n 0 lo+k:=by
 have c:∀(i:Int)(d:Nat),max 0 (min (if i<0 then i+(n:Int)else i) (n:Int))=((ba n d (some i):Nat):Int):=by
  intro i d;show max 0 (min (if i<0 then i+(n:Int)else i) (n:Int))=(((if i<0 then(i+(n:Int)).toNat else min i.toNat n):Nat):Int);by_cases hi:i<0;.simp only[if_pos hi];lia
  .simp only[if_neg hi];lia
 have h0:((1:Int)>0)=True:=by simp
 rw[<-Rg];unfold QW;simp only[h0,if_true];cases lo with
 |none=>cases hi with|none=>rfl|some j=>show sliceRange 0 (max 0 (min (if j<0 then j+(n:Int)else j) (n:Int))) 1=_;rw[c j n];rfl
 |some i=>cases hi with|none=>show sliceRange (max 0 (min (if i<0 then i+(n:Int)else i) (n:Int))) (n:Int) 1=_;rw[c i 0];rfl|some j=>grind
theorem Rh(x lo hi):(⟨((QW lo hi 1 (toS x).length).filterMap ((toS x).cps[.]?)).toArray⟩:Str)=toS (bC x lo hi):=by unfold toS;congr 1;rw[D8];have:=pick_run x.toArray (ba x.length 0 lo) (ba x.length x.length hi-ba x.length 0 lo);have hl:({cps:=x.toArray}:Str).length=x.length:=#v[Str.length];rw[hl];rw[this];rfl
def D9:V->Option Int->Option Int->Hp->VK->Prop:=λx lo hi H Q=>∃z:Tx,x=.str (toS z)/\z.length<=Wb/\Q (.str (toS (bC z lo hi))) H
theorem D_(p:IsPart v o):∃q:Option (Int×Tok),v=partValue q/\q.map (·.1)=o:=by cases p with|none=>exact⟨none,rfl,rfl⟩|int i t=>exact⟨some (i,t),rfl,rfl⟩
theorem uO:j_ X D9:=by
 intro pins s M H x v vl vu lo hi sl Q I rx hs pl pu h;obtain⟨z,rfl,hz,q⟩:=h;obtain⟨t,rfl⟩:=rx;obtain⟨l,rfl,el⟩:=D_ pl;obtain⟨u,rfl,eu⟩:=D_ pu;obtain⟨o,ho,hc,hd⟩:=hs;refine⟨"str",_,F.slot_str_getitem.lookup,typeIs_str s _ t,?_⟩;refine wpAny_getItem_str_slice (l:=l) (u:=u) (st:=none) ⟨o,ho,hc,hd⟩ rfl ?_;unfold sliceMade;have e:slicePicked (toS z) l u none=QW lo hi 1 (toS z).length:=by unfold slicePicked;rw[el,eu];rfl
 rw[e];by_cases hw:(((none:Option (Int×Tok)).map (·.1)).getD 1==1&&(QW lo hi 1 (toS z).length).length==(toS z).length)=true
 .rw[if_pos hw];refine⟨.str (toS (bC z lo hi)),H,I,⟨t,?_⟩,q⟩;congr 1;rw[Wy]at hw;have yh:=eq_of_beq hw.2;rw[D8,Ws,Uo,ml]at yh;have h1:=xD z.length 0 (QE _) lo;have h2:=xD z.length z.length (Wg _) hi;unfold bC;congr 1;by_cases h0:z.length=0;.grind
  .have a1:ba z.length 0 lo=0:=by lia
   rw[a1]at yh⊢;rw[yh];simp
 .rw[if_neg hw];show Made.post (.str _) _ _;rw[Rh];exact⟨%[ml|Qe (kh z lo hi) hz],.str (toS (bC z lo hi)),H,I.tok _,⟨_,rfl⟩,q⟩
def Ea(X:Cx)(r:V->Hp->VK->Prop):Prop:=∀(pins:List (Addr×Obj))(s:W4)(M:St)(H:Hp)(x:V)(v:Value)(t:Tok)(sl:Addr)(Q:VK),Inv X pins M H s->RelV x v->s.heap.IsSliceOf sl .none .none (.int (-1) t)->r x H Q->∃T id,typeLookup (.type T) "__getitem__"=pure (some (.builtin id))/\s.TypeIs v T/\W7 (model X.prog X.w) X.A (JK v (.ref sl)) (EP X pins M Q) X.xe s
theorem Ri{r:V->Hp->VK->Prop}{st p2}(hr:Ea X r)(he:PE X e te)(bV:PE X st (tC (.int (-1)))):PE X (.Subscript e (.Slice none none (some st) p2) pos) (xo r te):=by intro pins s M H Q I h;refine Subscript_ (aM (he pins s M H _ I h) λv s1 hh=>?_);obtain⟨x,H1,I1,r1,q1⟩:=hh;refine wpAny_Slice ?_;rw[evalPart_none,evalPart_some];refine W3 (W3 ?_);refine aM (bV pins s1 M H1 (λy H2=>y=.int (-1)/\H2=H1) I1 ⟨rfl,rfl⟩) λu s2 hh=>?_;obtain⟨y,H2,I2,r2,ey,eh⟩:=hh;subst ey eh;obtain⟨t,rfl⟩:=r2;have I4:Inv X pins M H2 {s2 with heap:=s2.heap.push {cls:=.type "slice",data:=.fields #[.none,.none,.int (-1) t]}}:=I2.kept (t':=s2.toks) λb ob q=>W6 _ q;obtain⟨T,id,hT,ht,hg⟩:=hr pins {s2 with heap:=s2.heap.push {cls:=.type "slice",data:=.fields #[.none,.none,.int (-1) t]}} M H2 x v t s2.heap.objs.size Q I4 r1 (Heap.IsSliceOf.new ..) q1;show W7 (model X.prog X.w) X.A (subscriptTail e (.Slice none none (some st) p2) v (.ref s2.heap.objs.size)) (EP X pins M Q) X.xe {s2 with heap:=s2.heap.push {cls:=.type "slice",data:=.fields #[.none,.none,.int (-1) t]}};exact tail_any (ops:=[v,.ref s2.heap.objs.size]) ht hT hg (by with_unfolding_all rfl)
theorem Rj{X pos pos' j}:PE X (.UnaryOp .USub (.Constant (.int 1) j pos') pos) (tC (.int (-1))):=PE.weak (Cq Cw B9) λM H Q h=>⟨1,rfl,h⟩
theorem Rk:bD X (QY .Add) λx y H Q=>∃a b ys,x=.ref a/\y=.ref b/\cE X.K H a []/\cE X.K H b ys/\Q (.ref b) H:=by intro pins s M H x y v u Q I rx ry h;obtain⟨a,b,ys,rfl,rfl,ha,hb,q⟩:=h;cases rx;cases ry;obtain⟨ak,r1,p1,_⟩:=I.tuple ha;obtain⟨its2,r2,p2,_⟩:=I.tuple hb;cases r1;obtain⟨⟨cls,dd,data,sl⟩,ho,hc,n,hd⟩:=id p1;obtain⟨⟨cls2,kS,data2,j9⟩,ho2,hc2,n2,hd2⟩:=id p2;simp only at hc hd hc2 hd2;subst hc hd hc2 hd2;exact concat_meets ⟨_,ho,rfl⟩ ⟨_,ho2,rfl⟩ noFill_tuple_add seq_tuple_add PySem.F.slot_tuple_add PySem.F.entry_tuple_add (PySem.F.args_tuple_add_2 _ _) (tuple_addW0 a b #[] its2.toArray n n2 dd kS sl j9 rfl) ⟨ho,ho2,.ref b,H,I,rfl,q⟩
def Eb(K:W5):R2:=λx y H Q=>∃l b xs zs,x=.ref l/\y=.ref b/\cp K H l xs/\cp K H b zs/\xs.length+zs.length<=Wb/\∀p,H p=none->Q (.ref p) (upd H p (.lst (xs++zs)))
theorem Rl:bD X (QY .Add) (Eb X.K):=by
 intro pins s M H x y v u Q I rx ry h;obtain⟨l,b,xs,zs,rfl,rfl,hH,hB,hz,q⟩:=h;cases rx;cases ry;obtain⟨ak,r,⟨⟨cls,dd,data,sl⟩,n,e,hc,eO,hd⟩,z⟩:=I.list hH;obtain⟨its2,r2,⟨⟨cls2,kS,data2,j9⟩,n2,e2,hc2,hdd2,hd2⟩,z2⟩:=I.list hB;simp only at hc hd eO hc2 hd2 hdd2;subst hc hd eO hc2 hd2 hdd2;have hl:=r.length;have k6:=r2.length;refine concat_meets ⟨_,e,rfl⟩ ⟨_,e2,rfl⟩ noFill_list_add seq_list_add PySem.F.slot_list_add PySem.F.entry_list_add (PySem.F.args_list_add_2 _ _) (list_addW l b ak.toArray its2.toArray n n2 none none sl j9 (by rw[Ww,Ww];lia)) ⟨e,e2,?_⟩;have ea:ak.toArray++its2.toArray=(ak++its2).toArray:=by simp
 rw[ea];exact⟨.ref _,_,I.OW (t':=s.toks) (r.append r2) (by rw[QS];lia),rfl,q _ I.fresh⟩
theorem uP:∀{ys:List Str}{us:List Value},Vals (ys.map V.str) us->StrsAre us ys|[],us,r=>by cases r;exact .nil|y::ys,us,r=>by cases r with|cons r1 r2=>obtain⟨t,rfl⟩:=r1;exact .cons y t (uP r2)
theorem Ec{ys:List Str}{us}(h:StrsAre us ys):Vals (ys.map V.str) us:=by induction h with|nil=>exact .nil|cons y t h ih=>exact .cons ⟨t,rfl⟩ ih
def uQ(K:W5):V->List V->Hp->VK->Prop:=λx vs H Q=>∃(z:Str)(a:Addr)(ys:List Str),x=.str z/\vs=[.ref a]/\(cp K H a (ys.map V.str)\/cE K H a (ys.map V.str))/\(ys.map (·.length)).sum+ys.length*z.length<=16777216/\Q (.str (Txt.join z ys)) H
theorem Rm:xH X "str.join" (uQ X.K):=by
 intro pins s M H x vs v us Q I rx rv h;obtain⟨z,a,ys,rfl,rfl,hq,hz,q⟩:=h;obtain⟨t,rfl⟩:=rx;obtain⟨u,rfl,ru⟩:=gI rv;cases ru;rcases hq with hq|hq;.obtain⟨ak,r,p,_⟩:=I.list hq;exact join_list p.isList (by simpa using uP r) hz λt' k=>⟨.str _,H,I.tok _,⟨t',rfl⟩,q⟩
 .obtain⟨ak,r,p,_⟩:=I.tuple hq;exact join_tuple p (by simpa using uP r) hz λt' k=>⟨.str _,H,I.tok _,⟨t',rfl⟩,q⟩
theorem yi:∀{bs:List Bool}{us:List Value},Vals (bs.map V.bl) us->∀(i:Nat)v,us[i]?=some v->∃b,bs[i]?=some b/\v=.bool b|[],us,r,i,v,e=>by cases r;simp at e|b::bs,us,r,i,v,e=>by cases r with|cons r1 r2=>cases i with|zero=>simp at e;subst e;exact⟨b,rfl,r1⟩|succ i=>exact yi r2 i v (~~~e)
theorem Ed:∀bs:List Bool,((WB bs.length).all λi=>bs[i]?.getD true)=bs.all id|[]=>rfl|b::bs=>by rw[WP,List.range_succ_eq_map,JL,List.all_map];have:=Ed bs;simp only[JG,JZ,JL,id];rw[<-this];rfl
theorem Ee:∀bs:List Bool,((WB bs.length).any λi=>bs[i]?.getD false)=bs.any id|[]=>rfl|b::bs=>by rw[WP,List.range_succ_eq_map,Qj,Ud];have:=Ee bs;simp only[JG,JZ,Qj,id];rw[<-this];rfl
theorem Rn(hc:X.calm=true):eF X (.builtin "all") λxs H Q=>∃(a:Addr)(bs:List Bool),xs=[.ref a]/\cp X.K H a (bs.map V.bl)/\Q (.bl (bs.all λb=>b)) H:=by
 intro pins s M H xs us Q I r h;obtain⟨a,bs,rfl,hq,q⟩:=h;obtain⟨u,rfl,ru⟩:=gI r;cases ru;obtain⟨ak,r',p,_⟩:=I.list hq;have hl:=p.isList;have bc:a<s.heap.objs.size:=by obtain⟨_,e,_⟩:=hl;exact Wp e
 have hlen:=r'.length;rw[Ws]at hlen;refine call_all_walk (JS hl ?_);refine⟨s.heap.objs.size,[s.heap.objs.size,a],[s.heap.objs.size],ak.toArray.size,_,_,λi=>bs[i]?.getD true,rfl,Walks.list (A:=X.A.in1) (I.ok.hd hc) _ a (WR bc) ak.toArray,⟨⟨_,Wh _ rfl,rfl,rfl⟩,hl.push _⟩,λi v s' Q' E' hP hQ=>?_,λh' tk hk=>?_⟩;.obtain⟨b,e,rfl⟩:=yi r' i v (~~~hP);simp only[e,JZ]at hQ;exact Ql hQ
 .have e:((WB ak.toArray.size).all λi=>bs[i]?.getD true)=bs.all id:=by rw[Ww,<-hlen];exact Ed bs
  rw[e];exact⟨.bl _,H,I.kept λb o e=>hk b o (λhm=>by rw[List.mem_singleton.mp hm]at e;exact Qh _ (Wp e)) (W6 _ e),rfl,q⟩
theorem Ro(hc:X.calm=true):eF X (.builtin "any") λxs H Q=>∃(a:Addr)(bs:List Bool),xs=[.ref a]/\cp X.K H a (bs.map V.bl)/\Q (.bl (bs.any λb=>b)) H:=by
 intro pins s M H xs us Q I r h;obtain⟨a,bs,rfl,hq,q⟩:=h;obtain⟨u,rfl,ru⟩:=gI r;cases ru;obtain⟨ak,r',p,_⟩:=I.list hq;have hl:=p.isList;have bc:a<s.heap.objs.size:=by obtain⟨_,e,_⟩:=hl;exact Wp e
 have hlen:=r'.length;rw[Ws]at hlen;refine call_any_walk (JS hl ?_);refine⟨s.heap.objs.size,[s.heap.objs.size,a],[s.heap.objs.size],ak.toArray.size,_,_,λi=>bs[i]?.getD false,rfl,Walks.list (A:=X.A.in1) (I.ok.hd hc) _ a (WR bc) ak.toArray,⟨⟨_,Wh _ rfl,rfl,rfl⟩,hl.push _⟩,λi v s' Q' E' hP hQ=>?_,λh' tk hk=>?_⟩;.obtain⟨b,e,rfl⟩:=yi r' i v (~~~hP);simp only[e,JZ]at hQ;exact Ql hQ
 .have e:((WB ak.toArray.size).any λi=>bs[i]?.getD false)=bs.any id:=by rw[Ww,<-hlen];exact Ee bs
  rw[e];exact⟨.bl _,H,I.kept λb o e=>hk b o (λhm=>by rw[List.mem_singleton.mp hm]at e;exact Qh _ (Wp e)) (W6 _ e),rfl,q⟩
def k7(x:Tx):List Tx->List Tx|[]=>[x]|y::r=>if y<x then y::k7 x r else x::y::r
def iH:List Tx->List Tx|[]=>[]|x::r=>k7 x (iH r)
theorem yj(x):∀l:List Tx,(k7 x l).Perm (x::l)
 |[]=>.refl _|y::r=>by
  unfold k7;split;.exact((yj x r).cons y).trans (.swap x y r)
  .exact .refl _
theorem yk:∀l,(iH l).Perm l|[]=>.refl _|x::r=>(yj x _).trans ((yk r).cons x)
abbrev jd(a b:Tx):Prop:=¬b<a
theorem Rp{c}(h1:jd a b)(h2:jd b c):jd a c:=by grind
theorem Rq(h1:jd a b)(h2:jd b a):a=b:=by grind
theorem Ef(x):∀l:List Tx,l.Pairwise jd->(k7 x l).Pairwise jd
 |[],_=>#v[k7]|y::r,h=>by
  unfold k7;obtain⟨h1,h2⟩:=List.pairwise_cons.mp h;split;.rename_i bc;refine List.pairwise_cons.mpr ⟨λz hz=>?_,Ef x r h2⟩;grind[yj]
  grind[Ue]
theorem Eg:∀l,(iH l).Pairwise jd|[]=>.nil|x::r=>Ef x _ (Eg r)
theorem Rr(hp:l'.Perm l)(hs:l'.Pairwise jd):l'=iH l:=List.Perm.eq_of_pairwise (λ_ _ _ _ h1 h2=>Rq h1 h2) hs (Eg l) (hp.trans (yk l).symm)
theorem Eh:∀x r,risingS x r=true->((x::r).map λz:Str=>z.cps.toList).Pairwise jd
 |x,[],_=>by simp|x,y::r,h=>by
  have h':(!ltCps y.cps.toList x.cps.toList&&risingS y r)=true:=h;rw[Wy]at h';have ih:=Eh y r h'.2;have yl:jd x.cps.toList y.cps.toList:=by grind[ltCps_eq]
  rw[Wi];refine List.pairwise_cons.mpr ⟨λz hz=>?_,ih⟩;rw[Wi]at hz ih;rcases Wf.mp hz with e|hz;.subst e;exact yl
  .exact Rp yl ((List.pairwise_cons.mp ih).1 z hz)
theorem Rt:eF X (.builtin "sorted") λxs H Q=>∃(a:Addr)(ts:List Tx),xs=[.ref a]/\cp X.K H a (ts.map λz=>V.str (toS z))/\ts.length<64/\∀p,H p=none->Q (.ref p) (upd H p (.lst ((iH ts).map λz=>V.str (toS z)))):=by
 intro pins s M H xs us Q I r h;obtain⟨a,ts,rfl,hq,hz,q⟩:=h;obtain⟨u,rfl,ru⟩:=gI r;cases ru;obtain⟨ak,r',p,_⟩:=I.list hq;have r2:Vals ((ts.map toS).map V.str) ak:=%[Wq|r'];have hlen:=r'.length;rw[Ws]at hlen;refine sorted_strs p.isList (uP r2) Y' λout ss hS hp hs=>?_;have e:ss=(iH ts).map toS:=by
  have Rv:(ss.map λz:Str=>z.cps.toList).Pairwise jd:=by cases ss with|nil=>simp|cons x r=>exact Eh x r hs
  have ym:(ss.map λz:Str=>z.cps.toList).Perm ts:=by
   have:=hp.map λz:Str=>z.cps.toList;rw[Wq]at this;have e2:ts.map ((λz:Str=>z.cps.toList)∘toS)=ts:=by rw[show(λz:Str=>z.cps.toList)∘toS=id from funext λz=>oT z,List.map_id]
   rw[e2]at this;exact this
  rw[<-Rr ym Rv,Wq];have:(toS∘λz:Str=>z.cps.toList)=id:=funext λz=>(DJ z).symm;simp_all
 obtain⟨ep,he⟩:=sortedAll_at s.heap ak out;have hv:Vals ((iH ts).map λz=>V.str (toS z)) out.toList:=by have:=Ec hS;rw[e,Wq]at this;exact this
 have k6:((iH ts).map λz=>V.str (toS z)).length<=Wb:=by rw[Ws,(yk ts).length_eq];exact Qe (U9 hz) (by rw[QK];decide)
 refine⟨.ref (s.heap.objs.size+1),_,I.laid (a:=s.heap.objs.size+1) (o:=.lst ((iH ts).map λz=>V.str (toS z))) (t':=s.toks) (λb u e=>sortedAll_old e) (U3 _) ?_,rfl,q _ (I.aB.fresh (U3 _))⟩;exact⟨k6,out.toList,ep,hv,by simp_all⟩
noncomputable def p2(p:D->D->Option S)(x y:D)(U:Dl):Rs S:=match p x y with|some s=>.ok s U|none=>.stuck
def aA(p:D->D->Option S)(fa:DE)(fb:BE):DE:=λU=>(fa U).bind λx ZW=>(fb ZW).bind λy XV=>p2 p x.d y XV
def bB(p:D->D->Option S)(i:Nat)(fb:BE):DE:=λU=>(fb U).bind λy ZW=>(ah i ZW).bind λx XV=>p2 p x y XV
def cB(r:R2)(p:D->D->Option S):Prop:=∀(c:Fc)(M:St)(U:Dl)(H:Hp)(x y:V)(d e:D)(s:S)(Q:VK),Ok c M U H->cT c M U H x d->cT c M U H y e->p d e=some s->(∀v H',aY c M U H M U H'->bu c M U H H' v s->Q v H')->r x y H Q
section
variable{a b:Expr}{fa:DE}{r:R2}{p:D->D->Option S}
theorem qV{x e Q}(hp:cB r p)(k:Ok c M U H)(rx:cT c M U H x d)(ry:cT c M U H y e)(h:post c (p2 p d e U) λs ZB=>∀v H',aY c M U H M ZB H'->bu c M ZB H H' v s->Q v H'):r x y H Q:=by unfold p2 at h;cases e1:p d e with|none=>rw[e1]at h;exact h.elim|some s=>rw[e1]at h;exact hp c M U H x y d e s Q k rx ry e1 h
theorem uR{Q}(hp:cB r p)(h:tD c (aA p fa fb) M H Q):m7 r (tD c fa) (UF c fb) M H Q:=by obtain⟨U,k,q⟩:=h;refine⟨U,k,?_⟩;unfold aA at q;rw[bp]at q;refine aT q λx ZW q1 v H1 a1 r1=>⟨ZW,a1.ok,?_⟩;rw[bp]at q1;refine aT q1 λy XV q2 u H2 a2 r2=>?_;exact qV hp a2.ok (.inl (Rep.dH r1.rep a2)) r2 (aT q2 λs XL q3 v' H3 a3 r3=>q3 v' H3 (a1.trans (a2.trans a3)) (bu.back r3 (a1.trans a2)))
theorem Rw{Q}(hp:cB r p)(h:tD c (bB p i fb) M H Q)(hv:∀U,Ok c M U H->post c (fb U) (λ_ _=>True)->∃v,M[i]?=some (some v)):m7 r (dq i) (UF c fb) M H Q:=by obtain⟨U,k,q⟩:=h;unfold bB at q;rw[bp]at q;obtain⟨v,ev⟩:=hv U k (aT q λ_ _ _=>trivial);refine⟨v,ev,U,k,aT q λy ZW q1 u H1 a1 r1=>?_⟩;rw[bp]at q1;unfold ah at q1;cases e:ZW[i]? with|none=>rw[e]at q1;exact q1.elim|some o=>cases o with|none=>rw[e]at q1;exact q1.elim|some w=>
 rw[e]at q1;have Rx:post c (p2 p w.d y ZW) λs ZB=>∀v H',aY c M U H M ZB H'->bu c M ZB H H' v s->Q v H':=q1;have rb:cT c M ZW H1 v w.d:=by cases w with|pure d=>obtain⟨v',e1,r⟩:=a1.ok.slot i d e;rw[ev]at e1;cases e1;exact .inl r|own d=>obtain⟨a,e1,r,_⟩:=a1.ok.own i d e;rw[ev]at e1;cases e1;exact .inr ⟨a,rfl,r⟩
 exact qV hp a1.ok rb r1 (aT Rx λs XL q3 v' H3 a3 r3=>q3 v' H3 (a1.trans a3) (bu.back r3 a1))
theorem yn(k:Ok c M U H){w}(e:U[i]?=some (some w)):∃v,M[i]?=some (some v):=by cases w with|pure d=>obtain⟨v,e1,_⟩:=k.slot i d e;exact⟨v,e1⟩|own d=>obtain⟨a,e1,_⟩:=k.own i d e;exact⟨_,e1⟩
end
noncomputable def aj(p:D->D->Option S)(i:Nat)(fb:BE):DE:=λU=>match U[i]? with|some (some _)=>bB p i fb U|_=>.stuck
section
variable{a b:Expr}{fa:DE}{r:R2}{p:D->D->Option S}
theorem uS(hp:cB r p){Q}(h:tD c (aj p i fb) M H Q):m7 r (dq i) (UF c fb) M H Q:=by obtain⟨U,k,q⟩:=h;unfold aj at q;cases e:U[i]? with|none=>rw[e]at q;exact q.elim|some o=>cases o with|none=>rw[e]at q;exact q.elim|some w=>rw[e]at q;obtain⟨v,ev⟩:=yn k e;exact Rw hp (i:=i) ⟨U,k,q⟩ λ_ _ _=>⟨v,ev⟩
theorem oV{op}(ho:bD X (QY op) r)(hp:cB r p)(ha:SE X c a fa)(hb:SB X c b fb):SE X c (.BinOp a op b pos) (aA p fa fb):=PE.weak (Cp ho ha hb) λ_ _ _ h=>uR hp h
theorem yo{op}(ho:bD X (QY op) r)(hp:cB r p)(ha:PE X a (dq i))(hb:SB X c b fb):SE X c (.BinOp a op b pos) (aj p i fb):=PE.weak (Cp ho ha hb) λ_ _ _ h=>uS hp h
theorem nG(ho:bD X (WF op) r)(hp:cB r p)(ha:SE X c a fa)(hb:SB X c b fb)(hm:J8 op b=false):SE X c (.Compare a [op] [b] pos) (aA p fa fb):=PE.weak (Cy ho ha hb hm) λ_ _ _ h=>uR hp h
theorem nH(ho:bD X (WF op) r)(hp:cB r p)(ha:PE X a (dq i))(hb:SB X c b fb)(hm:J8 op b=false):SE X c (.Compare a [op] [b] pos) (aj p i fb):=PE.weak (Cy ho ha hb hm) λ_ _ _ h=>uS hp h
theorem Ry(hr:g9 X r)(hp:cB r p)(ha:SE X c a fa)(hb:SB X c b fb)(hs:xG b):SE X c (.Subscript a b pos) (aA p fa fb):=PE.weak (C5 hr ha hb hs) λ_ _ _ h=>uR hp h
theorem uT(hr:g9 X r)(hp:cB r p)(ha:PE X a (dq i))(hb:SB X c b fb)(hs:xG b):SE X c (.Subscript a b pos) (aj p i fb):=PE.weak (C5 hr ha hb hs) λ_ _ _ h=>uS hp h
end
abbrev DT:=Dl->Rs Bool
def tT(c:Fc)(f:DT):TT:=λM H Q=>∃U,Ok c M U H/\post c (f U) λb ZB=>∀H',aY c M U H M ZB H'->Q b H'
abbrev ST(X:Cx)(c:Fc)(e:Expr)(f:DT):Prop:=PT X e (tT c f)
theorem PT.weak{t'}(h:PT X e t)(w:∀M H Q,t' M H Q->t M H Q):PT X e t':=λpins s M H Q I q=>h pins s M H Q I (w M H Q q)
def aC(f:DE):DT:=λU=>(f U).bind λr ZB=>match r with|.pure (.bl b)=>.ok b ZB|_=>.stuck
section
variable{a b:Expr}{fa f:DE}{r:R2}{p:D->D->Option S}
theorem uU{Q}(h:tT c (aC f) M H Q):tD c f M H λx H'=>∃k,x=.bl k/\Q k H':=by obtain⟨U,k,q⟩:=h;refine⟨U,k,?_⟩;unfold aC at q;rw[bp]at q;refine aT q λr ZW q1 v H1 a1 r1=>?_;cases r with|own d=>exact q1.elim|pure d=>
 cases d<;>first|exact q1.elim|skip
 rename_i b;cases r1;exact⟨b,rfl,q1 H1 a1⟩
theorem nJ(ho:bD X (WF op) r)(hp:cB r p)(ha:SE X c a fa)(hb:SB X c b fb)(hm:J8 op b=false):ST X c (.Compare a [op] [b] pos) (aC (aA p fa fb)):=PT.weak (CA ho ha hb hm) λM H Q h=>uR hp (uU h)
theorem yp(ho:bD X (WF op) r)(hp:cB r p)(ha:PE X a (dq i))(hb:SB X c b fb)(hm:J8 op b=false):ST X c (.Compare a [op] [b] pos) (aC (aj p i fb)):=PT.weak (CA ho ha hb hm) λM H Q h=>uS hp (uU h)
theorem Rz(h:SE X c e f)(he:∀whole,isTrue e X.env whole=(do let v<-whole;standAt e.pos;holding [v] (truthy v)):=by intro _;rfl):ST X c e (aC f):=PT.weak (Nd h he) λM H Q h=>uU h
def qW(t u:DT):DT:=λU=>(t U).bind λb ZW=>if b then u ZW else .ok false ZW
def dj(t u:DT):DT:=λU=>(t U).bind λb ZW=>if b then .ok true ZW else u ZW
def b_(t:DT):DT:=λU=>(t U).bind λb ZW=>.ok (!b) ZW
abbrev SW(X:Cx)(c:Fc)(e:Expr)(f:DT):Prop:=PW X e (tT c f)
theorem PW.weak{t'}(h:PW X e t)(w:∀M H Q,t' M H Q->t M H Q):PW X e t':=λwh pins s M H Q I q=>h wh pins s M H Q I (w M H Q q)
variable{t u:DT}{rest:List Expr}
theorem RA(ha:ST X c a t):SW X c (.BoolOp .And [a] pos) t:=Ni ha
theorem RB(ha:ST X c a t):SW X c (.BoolOp .Or [a] pos) t:=Nj ha
theorem RC(ha:ST X c a t)(hb:SW X c (.BoolOp .And (b::rest) pos) u):SW X c (.BoolOp .And (a::b::rest) pos) (qW t u):=PW.weak (Nk ha hb) λM H Q⟨U,k,q⟩=>by unfold qW at q;rw[bp]at q;refine⟨U,k,aT q λx ZW q1 H1 a1=>?_⟩;cases x with|true=>exact⟨ZW,a1.ok,aT q1 λy XV q2 H2 a2=>q2 H2 (a1.trans a2)⟩|false=>exact q1 H1 a1
theorem RD(ha:ST X c a t)(hb:SW X c (.BoolOp .Or (b::rest) pos) u):SW X c (.BoolOp .Or (a::b::rest) pos) (dj t u):=PW.weak (pw_or ha hb) λM H Q⟨U,k,q⟩=>by unfold dj at q;rw[bp]at q;refine⟨U,k,aT q λx ZW q1 H1 a1=>?_⟩;cases x with|false=>exact⟨ZW,a1.ok,aT q1 λy XV q2 H2 a2=>q2 H2 (a1.trans a2)⟩|true=>exact q1 H1 a1
theorem RE(h:SW X c a t):ST X c a t:=PW.pt h
theorem RF(ha:ST X c a t):ST X c (.UnaryOp .Not a pos) (b_ t):=PT.weak (Nl ha) λM H Q⟨U,k,q⟩=>by unfold b_ at q;rw[bp]at q;exact⟨U,k,q⟩
def iI(f g:DE):DE:=λU=>(f U).bind λr ZW=>match r with|.pure (.bl true)=>g ZW|.pure (.bl false)=>.ok (.pure (.bl false)) ZW|_=>.stuck
def uV(f g:DE):DE:=λU=>(f U).bind λr ZW=>match r with|.pure (.bl false)=>g ZW|.pure (.bl true)=>.ok (.pure (.bl true)) ZW|_=>.stuck
def qX(f:DE):DE:=λU=>(f U).bind λr ZW=>match r with|.pure (.bl b)=>.ok (.pure (.bl !b)) ZW|_=>.stuck
def RG(t:DT)(f g:DE):DE:=λU=>(t U).bind λb ZW=>if b then f ZW else g ZW
variable{g:DE}
theorem RH{op}(h:SE X c a f):SE X c (.BoolOp op [a] pos) f:=Nr h
theorem RI(ha:SE X c a f)(hb:SE X c (.BoolOp .And (b::rest) pos) g):SE X c (.BoolOp .And (a::b::rest) pos) (iI f g):=PE.weak (Nt ha hb) λM H Q⟨U,k,q⟩=>by unfold iI at q;rw[bp]at q;refine⟨U,k,aT q λr ZW q1 v H1 a1 r1=>?_⟩;cases r with|own d=>exact q1.elim|pure d=>
 cases d<;>first|exact q1.elim|skip
 rename_i b;cases r1;refine⟨b,rfl,?_⟩;cases b with|true=>exact⟨ZW,a1.ok,aT q1 λy XV q2 v H2 a2 r2=>q2 v H2 (a1.trans a2) (bu.back r2 a1)⟩|false=>exact q1 _ H1 a1 (.bl false)
theorem RJ(ha:SE X c a f)(hb:SE X c (.BoolOp .Or (b::rest) pos) g):SE X c (.BoolOp .Or (a::b::rest) pos) (uV f g):=PE.weak (Nu ha hb) λM H Q⟨U,k,q⟩=>by unfold uV at q;rw[bp]at q;refine⟨U,k,aT q λr ZW q1 v H1 a1 r1=>?_⟩;cases r with|own d=>exact q1.elim|pure d=>
 cases d<;>first|exact q1.elim|skip
 rename_i b;cases r1;refine⟨b,rfl,?_⟩;cases b with|false=>exact⟨ZW,a1.ok,aT q1 λy XV q2 v H2 a2 r2=>q2 v H2 (a1.trans a2) (bu.back r2 a1)⟩|true=>exact q1 _ H1 a1 (.bl true)
theorem RK(ha:SE X c a f):SE X c (.UnaryOp .Not a pos) (qX f):=PE.weak (Nv ha) λM H Q⟨U,k,q⟩=>by unfold qX at q;rw[bp]at q;refine⟨U,k,aT q λr ZW q1 v H1 a1 r1=>?_⟩;cases r with|own d=>exact q1.elim|pure d=>
 cases d<;>first|exact q1.elim|skip
 rename_i b;cases r1;exact⟨b,rfl,q1 _ H1 a1 (.bl _)⟩
def je(p p':D->D->Option S)(fa:DE)(fb:DE)(fc:BE):DE:=λU=>(fa U).bind λx ZW=>(fb ZW).bind λy XV=>(p2 p x.d y.d XV).bind λz XL=>match z with|.pure (.bl true)=>(fc XL).bind λw UV=>p2 p' y.d w UV|.pure (.bl false)=>.ok (.pure (.bl false)) XL|_=>.stuck
theorem Ei{fb}(hp:cB r p)(dI:cB r' p'){Q}(h:tD c (je p p' fa fb fc) M H Q):xq r r' (tD c fa) (tD c fb) (UF c fc) M H Q:=by obtain⟨U,k,q⟩:=h;unfold je at q;rw[bp]at q;refine⟨U,k,aT q λx ZW q1 v H1 a1 r1=>⟨ZW,a1.ok,?_⟩⟩;rw[bp]at q1;refine aT q1 λy XV q2 u H2 a2 r2=>?_;rw[bp]at q2;refine qV hp a2.ok (.inl (Rep.dH r1.rep a2)) (.inl r2.rep) (aT q2 λs XL q3 v' H3 a3 r3=>?_);cases s with|own d=>exact q3.elim|pure d=>
 cases d<;>first|exact q3.elim|skip
 rename_i b;cases r3;refine⟨b,rfl,?_⟩;cases b with|false=>exact q3 _ H3 (a1.trans (a2.trans a3)) (.bl false)|true=>rw[if_pos rfl];have Ej:post c ((fc XL).bind λw UV=>p2 p' y.d w UV) λr ZB=>∀v H',aY c M U H M ZB H'->bu c M ZB H H' v r->Q v H':=q3;rw[bp]at Ej;refine⟨XL,a3.ok,aT Ej λw UV q4 v4 H4 a4 r4=>?_⟩;exact qV dI a4.ok (.inl (Rep.dH r2.rep (a3.trans a4))) r4 (aT q4 λs5 Ty q5 v5 H5 a5 r5=>q5 v5 H5 (a1.trans (a2.trans (a3.trans (a4.trans a5)))) (bu.back r5 (a1.trans (a2.trans (a3.trans a4)))))
theorem RL{fb}(ho:bD X (WF op) r)(h9:bD X (WF iE) r')(hp:cB r p)(dI:cB r' p')(ha:SE X c a fa)(hb:SE X c b fb)(he:SB X c e fc)(hm:lastMarks [op,iE] [b,e]=false:=by with_unfolding_all rfl):SE X c (.Compare a [op,iE] [b,e] pos) (je p p' fa fb fc):=PE.weak (Oa ho h9 ha hb he hm) λ_ _ _ h=>Ei hp dI h
theorem RM{fb}(ho:bD X (WF op) r)(h9:bD X (WF iE) r')(hp:cB r p)(dI:cB r' p')(ha:SE X c a fa)(hb:SE X c b fb)(he:SB X c e fc)(hm:lastMarks [op,iE] [b,e]=false:=by with_unfolding_all rfl):ST X c (.Compare a [op,iE] [b,e] pos) (aC (je p p' fa fb fc)):=PT.weak (Ob ho h9 ha hb he hm) λ_ _ _ h=>Ei hp dI (uU h)
end
section
variable{x:V}
theorem cT.int{i}(h:cT c M U H x (.int i)):x=.int i:=by
 rcases h with h|⟨_,_,h⟩;.cases h;rfl
 .exact h.elim
theorem cT.bl(h:cT c M U H x (.bl b)):x=.bl b:=by
 rcases h with h|⟨_,_,h⟩;.cases h;rfl
 .exact h.elim
theorem cT.str(h:cT c M U H x (.str z)):x=.str (toS z):=by
 rcases h with h|⟨_,_,h⟩;.cases h;rfl
 .exact h.elim
theorem cT.tup{c M U H x ds}(h:cT c M U H x (.tup ds)):∃a vs,x=.ref a/\H a=some (.tup vs)/\aH H (Av c M U) vs ds:=by
 rcases h with h|⟨_,_,h⟩;.cases h with|tup h1 h2 h3 h4=>exact⟨_,_,rfl,h2,h3,h4⟩
 .exact h.elim
theorem cT.lst{c M U H x ds}(h:cT c M U H x (.lst ds)):∃a vs,x=.ref a/\Rd H a (.lst vs)/\aH H (Av c M U) vs ds:=by
 rcases h with h|⟨a,e,h⟩;.cases h with|lst h1 h2 h3 h4=>exact⟨_,_,rfl,h2,h3,h4⟩
 .obtain⟨vs,h1,h2⟩:=h;exact⟨a,vs,e,.inl h1,h2⟩
theorem cT.au{ds}(h:cT c M U H x (.au ds)):∃a ws,x=.ref a/\H a=some (.dK ws)/\ws.map (·.1)=ds.map (λp=>di p.1)/\∀(i:Nat)p q,ws[i]?=some p->ds[i]?=some q->Rep H (Av c M U) p.2 q.2:=by
 rcases h with h|⟨a,e,h⟩;.cases h with|au h1 h2 h3 h4=>exact⟨_,_,rfl,h2,h3,h4⟩
 .obtain⟨ws,h1,h2,h3⟩:=h;exact⟨a,ws,e,h1,h2,h3⟩
end
theorem Ek(h:z.length<=Wb):(toS z).length<=Wb:=%[ml|h]
theorem RN(x y):toS x++toS y=toS (x++y):=by show Str.append (toS x) (toS y)=_;simp[toS,Str.append]
noncomputable def aU:D->D->Option S|.int i,.int j=>some (.pure (.int (i+j)))|.str x,.str y=>if x.length+y.length<=Wb then some (.pure (.str (x++y)))else none|.tup xs,.tup ys=>if xs.length+ys.length<=Wb then some (.pure (.tup (xs++ys)))else none|.lst xs,.lst ys=>if xs.length+ys.length<=Wb then some (.own (.lst (xs++ys)))else none|_,_=>none
def El(K:W5):R2:=λx y H Q=>iZ (λi j=>V.int (i+j)) x y H Q\/(∃i j,x=.str i/\y=.str j/\i.length+j.length<=Wb/\Q (.str (i++j)) H)\/(∃a b ys,x=.ref a/\y=.ref b/\cE K H a []/\cE K H b ys/\Q (.ref b) H)\/C3 K x y H Q\/Eb K x y H Q
theorem Em:bD X (QY .Add) (El X.K):=NY.or (Oc.or (Rk.or (OB.or Rl)))
theorem En:cB (El K) aU:=by
 intro c M U H x y d e s Q k rx ry hp q;cases d<;>cases e<;>first|(simp[aU]at hp;done)|skip
 .rename_i i j;simp only[aU,Wd]at hp;subst hp;exact .inl ⟨i,j,rx.int,ry.int,q _ H (.refl k) (.int _)⟩
 .rename_i u w;simp only[aU]at hp;split at hp;.rename_i hz;simp only[Wd]at hp;subst hp;refine .inr (.inl ⟨toS u,toS w,rx.str,ry.str,%[ml,ml|hz],?_⟩);rw[RN];exact q _ H (.refl k) (.str _)
  .cases hp
 .rename_i us ws;simp only[aU]at hp;split at hp
  .rename_i hz;simp only[Wd]at hp;subst hp;obtain⟨a,vs,ea,ha,ra⟩:=rx.tup;obtain⟨b,zs,eb,hb,rb⟩:=ry.tup
   cases vs with|nil=>
    have:us=[]:=by have:=ra.1;simpa using this.symm
    subst this;refine .inr (.inr (.inl ⟨a,b,zs,ea,eb,.of ha,.of hb,?_⟩));rw[eb]at ry;rcases ry with ry|⟨_,_,ry⟩;.exact q _ H (.refl k) ry
    .exact ry.elim|cons v0 vr=>
    refine .inr (.inr (.inr (.inl ⟨a,b,_,zs,ea,eb,.of ha,.of hb,U',%[ra.1,rb.1|hz],λe0=>?_,λ_ p hp=>?_⟩)))
    .subst e0;have:ws=[]:=by have:=rb.1;simpa using this.symm
     subst this;rw[ea]at rx;rcases rx with rx|⟨_,_,rx⟩;.rw[Qc]at q;exact q _ H (.refl k) rx
     .exact rx.elim
    .exact q _ _ (.alloc k hp _) (bu.oU k (ra.append rb) hp)
  .cases hp
 .rename_i us ws;simp only[aU]at hp;split at hp;.rename_i hz;simp only[Wd]at hp;subst hp;obtain⟨a,vs,ea,ha,ra⟩:=rx.lst;obtain⟨b,zs,eb,hb,rb⟩:=ry.lst;exact .inr (.inr (.inr (.inr ⟨a,b,vs,zs,ea,eb,.inl ha,.inl hb,%[ra.1,rb.1|hz],λp hp=>q _ _ (.alloc k hp _) (bu.nD k (ra.append rb) hp)⟩)))
  .cases hp
noncomputable def fJ(C:Int->Int->Bool)(g:Int->Int->D):D->D->Option S|.int i,.int j=>if C i j then some (.pure (g i j))else none|_,_=>none
theorem uW{C g'}(hC:∀i j,C' i j=true->C i j)(hg:∀i j H O,Rep H O (g i j) (g' i j)):cB (rI C g) (fJ C' g'):=by
 intro c M U H x y d e s Q k rx ry hp q;cases d<;>cases e<;>first|(simp[fJ]at hp;done)|skip
 rename_i i j;simp only[fJ]at hp;split at hp;.rename_i hc;simp only[Wd]at hp;subst hp;exact⟨i,j,rx.int,ry.int,hC i j hc,q _ H (.refl k) (hg i j H _)⟩
 .cases hp
theorem RO{g'}(hg:∀i j H O,Rep H O (g i j) (g' i j)):cB (iZ g) (fJ (λ_ _=>true) g'):=by
 intro c M U H x y d e s Q k rx ry hp q;cases d<;>cases e<;>first|(simp[fJ]at hp;done)|skip
 rename_i i j;simp only[fJ,if_true,Wd]at hp;subst hp;exact⟨i,j,rx.int,ry.int,q _ H (.refl k) (hg i j H _)⟩
def qY:=fJ (λ_ _=>true) λi j=>.int (i-j)
theorem RP:cB (iZ λi j=>V.int (i-j)) qY:=RO λ_ _ _ _=>.int _
def jK(i j:Int):Bool:=decide (-2^64<i)&&decide (i<2^64)||decide (-2^64<j)&&decide (j<2^64)
def e8:=fJ jK λi j=>.int (i*j)
theorem Eo:cB (rI qF λi j=>V.int (i*j)) e8:=uW (λi j h=>by unfold jK at h;simp only[Uu,Wy,decide_eq_true_eq]at h;exact h) λ_ _ _ _=>.int _
def qZ(_ j:Int):Bool:=decide (0<j)&&decide (j<1073741824)
def oW:=fJ qZ λi j=>.int (i/j)
theorem RQ:cB (rI Cs λi j=>V.int (i/j)) oW:=uW (λi j h=>by unfold qZ at h;simp only[Wy,decide_eq_true_eq]at h;exact h) λ_ _ _ _=>.int _
def f7:=fJ (λ_ j=>decide (0<j)) λi j=>.int (i%j)
theorem Ep:cB (rI (λ_ j=>0<j) λi j=>V.int (i%j)) f7:=uW (λi j h=>~~~h) λ_ _ _ _=>.int _
def yq(i j:Int):Bool:=decide (0<=j)&&decide (j<=1000000)&&decide (i.natAbs<2^64)
def uX:=fJ yq λi j=>.int (i^j.toNat)
theorem RT:cB (rI Ct λi j=>V.int (i^j.toNat)) uX:=uW (λi j h=>by unfold yq at h;simp only[Wy,decide_eq_true_eq]at h;exact⟨h.1.1,h.1.2,h.2⟩) λ_ _ _ _=>.int _
noncomputable def eK(f:Int->Int->Bool)(g:Tx->Tx->Bool):D->D->Option S|.int i,.int j=>some (.pure (.bl (f i j)))|.str x,.str y=>some (.pure (.bl (g x y)))|_,_=>none
def mq(f:Int->Int->Bool)(g:List Nat->List Nat->Bool):R2:=λx y H Q=>iZ (λi j=>V.bl (f i j)) x y H Q\/∃i j,x=.str i/\y=.str j/\Q (.bl (g i.cps.toList j.cps.toList)) H
theorem fK:cB (mq f g) (eK f g):=by
 intro c M U H x y d e s Q k rx ry hp q;cases d<;>cases e<;>first|(simp[eK]at hp;done)|skip
 .rename_i i j;simp only[eK,Wd]at hp;subst hp;exact .inl ⟨i,j,rx.int,ry.int,q _ H (.refl k) (.bl _)⟩
 .rename_i i j;simp only[eK,Wd]at hp;subst hp;refine .inr ⟨toS i,toS j,rx.str,ry.str,?_⟩;rw[oT,oT];exact q _ H (.refl k) (.bl _)
theorem q_{g:List Nat->List Nat->Bool}(rule:∀(i j:Str)t u (Q:Value->W4->Prop)s,Q (.bool (g i.cps.toList j.cps.toList)) s->W7 (model X.prog X.w) X.A (WF op (.str i t) (.str j u)) Q X.xe s):bD X (WF op) λx y H Q=>∃i j,x=.str i/\y=.str j/\Q (.bl (g i.cps.toList j.cps.toList)) H:=by intro pins s M H x y v u Q I rx ry h;obtain⟨i,j,rfl,rfl,q⟩:=h;obtain⟨t,rfl⟩:=rx;obtain⟨t',rfl⟩:=ry;exact rule i j t t' _ s ⟨.bl _,H,I,rfl,q⟩
def gN:=eK (λi j=>decide (i<j)) λx y=>decide (x<y)
theorem uY:bD X (WF .Lt) (mq (λi j=>decide (i<j)) λx y=>decide (x<y)):=N4.or N8
theorem uZ:cB (mq (λi j=>decide (i<j)) λx y=>decide (x<y)) gN:=fK
noncomputable def aw:D->D->Option S|.lst ds,.int i=>(eN ds i).map .pure|.tup ds,.int i=>(eN ds i).map .pure|.str x,.int i=>if x.length<=Wb then(eN x i).map λn=>.pure (.str [n])else none|_,_=>none
theorem Er{i}(r:aH H O vs ds)(h:eN ds i=some d):∃v,eN vs i=some v/\Rep H O v d:=by unfold eN at h⊢;rw[r.1];cases e:jb ds.length i with|none=>rw[e]at h;cases h|some j=>rw[e]at h;exact r.get h
theorem yr:cB (oP K) aw:=by
 intro c M U H x y d e s Q k rx ry hp q;cases d<;>cases e<;>first|(simp[aw]at hp;done)|skip
 .rename_i z i;simp only[aw]at hp;split at hp;.rename_i hz;cases e1:eN z i with|none=>rw[e1]at hp;cases hp|some n=>rw[e1]at hp;simp only[WX,Wd]at hp;subst hp;refine .inr (.inr ⟨toS z,i,n,rx.str,ry.int,Ek hz,%[oT|e1],?_⟩);exact q (.str (toS [n])) H (.refl k) (.str [n])
  .cases hp
 .rename_i ds i;simp only[aw]at hp;cases e1:eN ds i with|none=>rw[e1]at hp;cases hp|some n=>rw[e1]at hp;simp only[WX,Wd]at hp;subst hp;obtain⟨a,vs,ea,ha,ra⟩:=rx.tup;obtain⟨v,e2,r2⟩:=Er ra e1;exact .inr (.inl ⟨a,vs,i,v,ea,ry.int,.of ha,e2,q v H (.refl k) r2⟩)
 .rename_i ds i;simp only[aw]at hp;cases e1:eN ds i with|none=>rw[e1]at hp;cases hp|some n=>rw[e1]at hp;simp only[WX,Wd]at hp;subst hp;obtain⟨a,vs,ea,ha,ra⟩:=rx.lst;obtain⟨v,e2,r2⟩:=Er ra e1;exact .inl ⟨a,vs,i,v,ea,ry.int,.inl ha,e2,q v H (.refl k) r2⟩
def fw:=eK (λi j=>decide (i<=j)) λx y=>!decide (y<x)
def hJ:=eK (λi j=>decide (j<i)) λx y=>decide (y<x)
def yt:=eK (λi j=>decide (j<=i)) λx y=>!decide (x<y)
theorem nK:bD X (WF .LtE) (mq (λi j=>decide (i<=j)) λx y=>!decide (y<x)):=N5.or (q_ (g:=λx y=>!decide (y<x)) λ_ _ _ _ _ _ h=>PySem.P.le_str h)
theorem u6:bD X (WF .Gt) (mq (λi j=>decide (j<i)) λx y=>decide (y<x)):=N6.or (q_ (g:=λx y=>decide (y<x)) λ_ _ _ _ _ _ h=>PySem.P.gt_str h)
theorem RU:bD X (WF .GtE) (mq (λi j=>decide (j<=i)) λx y=>!decide (x<y)):=N7.or (q_ (g:=λx y=>!decide (x<y)) λ_ _ _ _ _ _ h=>PySem.P.ge_str h)
abbrev DA:=Dl->Rs (List D)
def RX(c:Fc)(f:DA):TA:=λM H Q=>∃U,Ok c M U H/\post c (f U) λds ZB=>∀vs H',aY c M U H M ZB H'->aH H' (Av c M ZB) vs ds->Q vs H'
structure SA(X:Cx)(c:Fc)(es:List Expr)(f:DA):Prop where pa:PA X es (RX c f)len:∀U ds ZB,f U=.ok ds ZB->ds.length=es.length
theorem PA.weak{t'}(h:PA X es t)(w:∀M H Q,t' M H Q->t M H Q):PA X es t':=λpos pins s M H Q I q=>h pos pins s M H Q I (w M H Q q)
def aD:DA:=λU=>.ok [] U
def ao(f:DE)(g:DA):DA:=λU=>(f U).bind λx ZW=>(g ZW).bind λxs XV=>.ok (x.d::xs) XV
section
variable{f:DE}{g:DA}
theorem Es:SA X c [] aD:=⟨PA.weak gJ λM H Q⟨U,k,q⟩=>q [] H (.refl k) .nil,λU ds ZB h=>by cases h;rfl⟩
theorem Et(ha:SE X c e f)(hr:SA X c es g)(hs:We (e::es) X.env=(false,eval e X.env)::We es X.env:=by rfl):SA X c (e::es) (ao f g):=by
 refine⟨PA.weak (fq ha hr.pa hs) λM H Q⟨U,k,q⟩=>?_,λU ds ZB h=>?_⟩;.unfold ao at q;rw[bp]at q;refine⟨U,k,aT q λx ZW q1 v H1 a1 r1=>⟨ZW,a1.ok,?_⟩⟩;rw[bp]at q1;exact aT q1 λxs XV q2 vs H2 a2 r2=>q2 (v::vs) H2 (a1.trans a2) (.cons (Rep.dH r1.rep a2) r2)
 .unfold ao at h;cases h1:f U with
 |ok x ZW=>rw[h1]at h;cases h2:g ZW with|ok xs XV=>simp only[Rs.bind,h2]at h;cases h;simp[hr.len _ _ _ h2]|exc x S'=>simp only[Rs.bind,h2]at h;cases h|stuck=>simp only[Rs.bind,h2]at h;cases h
 |exc x S'=>rw[h1]at h;cases h|stuck=>rw[h1]at h;cases h
def aQ(f:DA):DE:=λU=>(f U).bind λds ZB=>.ok (.pure (.tup ds)) ZB
def bQ(f:DA):DE:=λU=>(f U).bind λds ZB=>.ok (.own (.lst ds)) ZB
theorem Eu(h:n<=1000):n<=Wb:=U9 (Pj h)
theorem Ew(h:post c r k):post c r λa U=>r=.ok a U/\k a U:=by cases r with|ok a U=>exact⟨rfl,h⟩|exc x S'=>exact h|stuck=>exact h
theorem Ex{x1}(h:SA X c es g)(hz:es.length<=1000:=by decide):SE X c (.Tuple es x1 pos) (aQ g):=PE.weak (Oi h.pa) λM H Q⟨U,k,q⟩=>by unfold aQ at q;rw[bp]at q;refine⟨U,k,aT (Ew q) λds ZW⟨e1,q1⟩vs H1 a1 r1=>?_⟩;have hl:=h.len _ _ _ e1;exact⟨%[r1.1,hl|Eu hz],λp hp=>q1 _ _ (a1.trans (.alloc a1.ok hp _)) (bu.back (bu.oU a1.ok r1 hp) a1)⟩
theorem Ey(h:SA X c es g)(hz:es.length<=1000:=by decide):SE X c (.List es pos) (bQ g):=PE.weak (CF h.pa) λM H Q⟨U,k,q⟩=>by unfold bQ at q;rw[bp]at q;refine⟨U,k,aT (Ew q) λds ZW⟨e1,q1⟩vs H1 a1 r1=>?_⟩;have hl:=h.len _ _ _ e1;exact⟨%[r1.1,hl|Eu hz],λp hp=>q1 _ _ (a1.trans (.alloc a1.ok hp _)) (bu.back (bu.nD a1.ok r1 hp) a1)⟩
end
noncomputable def p1(p:D->Option S)(x:D)(U:Dl):Rs S:=match p x with|some s=>.ok s U|none=>.stuck
def az(p:D->Option S)(fb:BE):DE:=λU=>(fb U).bind λx ZW=>p1 p x ZW
def ki(r:V->Hp->VK->Prop)(p:D->Option S):Prop:=∀(c:Fc)(M:St)(U:Dl)(H:Hp)(x:V)(d:D)(s:S)(Q:VK),Ok c M U H->cT c M U H x d->p d=some s->(∀v H',aY c M U H M U H'->bu c M U H H' v s->Q v H')->r x H Q
section
variable{r:V->Hp->VK->Prop}{p:D->Option S}{id T:String}
theorem yu{Q}(hp:ki r p)(k:Ok c M U H)(rx:cT c M U H v d)(h:post c (p1 p d U) λs ZB=>∀v H',aY c M U H M ZB H'->bu c M ZB H H' v s->Q v H'):r v H Q:=by unfold p1 at h;cases e1:p d with|none=>rw[e1]at h;exact h.elim|some s=>rw[e1]at h;exact hp c M U H v d s Q k rx e1 h
theorem rg{Q}(hp:ki r p)(h:tD c (az p fb) M H Q):xo r (UF c fb) M H Q:=by obtain⟨U,k,q⟩:=h;unfold az at q;rw[bp]at q;exact⟨U,k,aT q λy ZW q1 v H1 a1 r1=>yu hp a1.ok r1 (aT q1 λs XV q2 w H2 a2 r2=>q2 w H2 (a1.trans a2) (bu.back r2 a1))⟩
theorem oX(hc:eF X (.builtin id) rl)(hl:∀v H Q,r v H Q->rl [v] H Q)(hp:ki r p)(hg:Gl X x)(hm:X.mg x=none)(hv:QR x=some (.builtin id))(he:SB X c e fb)(hn:x≠"__name__":=by decide)(gZ:(x==("__debug__":Str))=false:=by decide)(hs:We [e] X.env=(false,eval e X.env)::We [] X.env:=by rfl)(cQ:(Qz pos (We [] X.env)).any (·.1)=false:=by rfl):SE X c (.Call (.Name x pp) [e] [] pos) (az p fb):=PE.weak (xC hc hg hm hv (fq he gJ hs) hn gZ hs cQ) λM H Q h=>by obtain⟨U,k,q⟩:=rg hp h;exact⟨U,k,aT q λy ZW q1 v H1 a1 r1=>hl _ _ _ (q1 v H1 a1 r1)⟩
theorem rh(hc:eF X (.type T) rl)(hl:∀v H Q,r v H Q->rl [v] H Q)(hp:ki r p)(hg:Gl X x)(hm:X.mg x=none)(hv:QR x=some (.type T))(he:SB X c e fb)(hn:x≠"__name__":=by decide)(gZ:(x==("__debug__":Str))=false:=by decide)(hs:We [e] X.env=(false,eval e X.env)::We [] X.env:=by rfl)(cQ:(Qz pos (We [] X.env)).any (·.1)=false:=by rfl):SE X c (.Call (.Name x pp) [e] [] pos) (az p fb):=PE.weak (Ol hc hg hm hv (fq he gJ hs) hn gZ hs cQ) λM H Q h=>by obtain⟨U,k,q⟩:=rg hp h;exact⟨U,k,aT q λy ZW q1 v H1 a1 r1=>hl _ _ _ (q1 v H1 a1 r1)⟩
noncomputable def aX:D->Option S|.lst ds=>some (.pure (.int ds.length))|.tup ds=>some (.pure (.int ds.length))|.str z=>if z.length<=Wb then some (.pure (.int z.length))else none|.au ds=>some (.pure (.int ds.length))|_=>none
def RY(K:W5):V->Hp->VK->Prop:=λv H Q=>((∃p ys,v=.ref p/\(cp K H p ys\/cE K H p ys)/\Q (.int ys.length) H)\/∃z,v=.str z/\z.length<=Wb/\Q (.int z.length) H)\/∃a ae,v=V.ref a/\H a=some (.dK ae)/\Q (.int ae.length) H
theorem RZ:ki (RY K) aX:=by intro c M U H x d s Q k rx hp q;cases d with
 |lst ds=>simp only[aX,Wd]at hp;subst hp;obtain⟨a,vs,ea,ha,ra⟩:=rx.lst;exact .inl (.inl ⟨a,vs,ea,.inl (.inl ha),%[ra.1|q _ H (.refl k) (.int _)]⟩)|tup ds=>simp only[aX,Wd]at hp;subst hp;obtain⟨a,vs,ea,ha,ra⟩:=rx.tup;exact .inl (.inl ⟨a,vs,ea,.inr (.of ha),%[ra.1|q _ H (.refl k) (.int _)]⟩)|str z=>
 simp only[aX]at hp;split at hp;.rename_i hz;simp only[Wd]at hp;subst hp;exact .inl (.inr ⟨toS z,rx.str,Ek hz,%[ml|q _ H (.refl k) (.int _)]⟩)
 .cases hp|au ds=>
 simp only[aX,Wd]at hp;subst hp;obtain⟨a,ws,ea,ha,h1,h2⟩:=rx.au;have hl:ws.length=ds.length:=by have:=congrArg WV h1;simpa using this
 exact .inr ⟨a,ws,ea,ha,%[hl|q _ H (.refl k) (.int _)]⟩|_=>simp[aX]at hp
theorem R1(hg:Gl X "len")(hm:X.mg "len"=none)(he:SB X c e fb)(hs:We [e] X.env=(false,eval e X.env)::We [] X.env:=by rfl):SE X c (.Call (.Name "len" pp) [e] [] pos) (az aX fb):=oX ((OO.or OP).or Pk) (λv H Q h=>by
 rcases h with(⟨p,ys,e,h⟩|⟨z,e,h⟩)|⟨a,ae,e,h⟩;.exact .inl (.inl ⟨p,ys,by rw[e],h⟩)
 .exact .inl (.inr ⟨z,by rw[e],h⟩)
 .exact .inr ⟨a,ae,by rw[e],h⟩) (RZ (K:=X.K)) hg hm PySem.boot_len he Z' Z' hs
noncomputable def cm:D->Option S|.lst ds=>some (.pure (.tup ds))|.tup ds=>some (.pure (.tup ds))|_=>none
def R9(K:W5):V->Hp->VK->Prop:=λv H Q=>∃p ys,v=.ref p/\((cp K H p ys/\∀l,H l=none->Q (.ref l) (upd H l (.tup ys)))\/cE K H p ys/\Q (.ref p) H)
theorem R_:ki (R9 K) cm:=by
 intro c M U H x d s Q k rx hp q
 cases d with|lst ds=>simp only[cm,Wd]at hp;subst hp;obtain⟨a,vs,ea,ha,ra⟩:=rx.lst;exact⟨a,vs,ea,.inl ⟨.inl ha,λl hl=>q _ _ (.alloc k hl _) (bu.oU k ra hl)⟩⟩|tup ds=>
 simp only[cm,Wd]at hp;subst hp;obtain⟨a,vs,ea,ha,ra⟩:=rx.tup;refine⟨a,vs,ea,.inr ⟨.of ha,?_⟩⟩;rw[ea]at rx;rcases rx with rx|⟨_,_,rx⟩;.exact q _ H (.refl k) rx
 .exact rx.elim|_=>simp[cm]at hp
theorem Sa(hg:Gl X "tuple")(hm:X.mg "tuple"=none)(he:SB X c e fb)(hs:We [e] X.env=(false,eval e X.env)::We [] X.env:=by rfl):SE X c (.Call (.Name "tuple" pp) [e] [] pos) (az cm fb):=rh OR (λv H Q⟨p,ys,e,h⟩=>⟨p,ys,by rw[e],h⟩) (R_ (K:=X.K)) hg hm PyProof.Rows.boot_tuple he Z' Z' hs
noncomputable def oY:D->Option S|.int i=>some (.pure (.int i))|.bl b=>some (.pure (.int (if b then 1 else 0)))|_=>none
theorem Sb(hg:Gl X "int")(hm:X.mg "int"=none)(he:SB X c e fb)(hs:We [e] X.env=(false,eval e X.env)::We [] X.env:=by rfl):SE X c (.Call (.Name "int" pp) [e] [] pos) (az oY fb):=rh (r:=λv H Q=>(∃i,v=.int i/\Q (.int i) H)\/∃k,v=.bl k/\Q (.int (if k then 1 else 0)) H) Oe (λv H Q h=>by
 rcases h with⟨i,e,q⟩|⟨k,e,q⟩;.exact .inl ⟨i,by rw[e],q⟩
 .exact .inr ⟨k,by rw[e],q⟩) (λc M U H x d s Q k rx hp q=>by cases d with|int i=>simp only[oY,Wd]at hp;subst hp;exact .inl ⟨i,rx.int,q _ H (.refl k) (.int _)⟩|bl b=>simp only[oY,Wd]at hp;subst hp;exact .inr ⟨b,rx.bl,q _ H (.refl k) (.int _)⟩|_=>simp[oY]at hp) hg hm PyProof.Rows.boot_int he Z' Z' hs
noncomputable def iJ:List D->Option (List Bool)|[]=>some []|.bl b::r=>(iJ r).map (b::.)|_::_=>none
noncomputable def gy:List D->Option (List Tx)|[]=>some []|.str x::r=>(gy r).map (x::.)|_::_=>none
theorem yv:∀{ds:List D}{vs:List V}{bs:List Bool},iJ ds=some bs->aH H O vs ds->vs=bs.map V.bl|[],vs,bs,h,r=>by simp only[iJ,Wd]at h;subst h;have:=r.1;simpa using this|d::ds,[],bs,h,r=>by have:=r.1;simp at this|d::ds,v::vs,bs,h,r=>by cases d with
 |bl b=>simp only[iJ]at h;cases e:iJ ds with|none=>rw[e]at h;cases h|some bO=>rw[e]at h;simp only[WX,Wd]at h;subst h;have:=r.head;cases this;rw[yv e r.tail];rfl
 |_=>simp[iJ]at h
theorem oZ:∀{ds:List D}{vs:List V}{bs:List Tx},gy ds=some bs->aH H O vs ds->vs=bs.map λz=>V.str (toS z)|[],vs,bs,h,r=>by simp only[gy,Wd]at h;subst h;have:=r.1;simpa using this|d::ds,[],bs,h,r=>by have:=r.1;simp at this|d::ds,v::vs,bs,h,r=>by cases d with
 |str b=>simp only[gy]at h;cases e:gy ds with|none=>rw[e]at h;cases h|some bO=>rw[e]at h;simp only[WX,Wd]at h;subst h;have:=r.head;cases this;rw[oZ e r.tail];rfl
 |_=>simp[gy]at h
theorem Ez:∀ts:List Tx,aH H O (ts.map λz=>V.str (toS z)) (ts.map D.str)|[]=>.nil|t::ts=>.cons (.str t) (Ez ts)
noncomputable def mr:D->Option S|.lst ds=>(iJ ds).map λbs=>.pure (.bl (bs.all λb=>b))|_=>none
noncomputable def nL:D->Option S|.lst ds=>(iJ ds).map λbs=>.pure (.bl (bs.any λb=>b))|_=>none
noncomputable def o_:D->Option S
 |.lst ds=>match gy ds with|some ts=>if ts.length<64 then some (.own (.lst ((iH ts).map D.str)))else none|none=>none
 |_=>none
theorem Se:QR "all"=some (.builtin "all"):=by decide+kernel
theorem Sf:QR "any"=some (.builtin "any"):=by decide+kernel
theorem Sg(hc:X.calm=true)(hg:Gl X "all")(hm:X.mg "all"=none)(he:SB X c e fb)(hs:We [e] X.env=(false,eval e X.env)::We [] X.env:=by rfl):SE X c (.Call (.Name "all" pp) [e] [] pos) (az mr fb):=oX (r:=λv H Q=>∃(a:Addr)(bs:List Bool),v=.ref a/\cp X.K H a (bs.map V.bl)/\Q (.bl (bs.all λb=>b)) H) (Rn hc) (λv H Q⟨a,bs,e,h⟩=>⟨a,bs,by rw[e],h⟩) (λc M U H x d s Q k rx hp q=>by cases d with
 |lst ds=>simp only[mr]at hp;cases e:iJ ds with|none=>rw[e]at hp;cases hp|some bs=>rw[e]at hp;simp only[WX,Wd]at hp;subst hp;obtain⟨a,vs,ea,ha,ra⟩:=rx.lst;have:=yv e ra;subst this;exact⟨a,bs,ea,.inl ha,q _ H (.refl k) (.bl _)⟩
 |_=>simp[mr]at hp) hg hm Se he Z' Z' hs
theorem Sh(hc:X.calm=true)(hg:Gl X "any")(hm:X.mg "any"=none)(he:SB X c e fb)(hs:We [e] X.env=(false,eval e X.env)::We [] X.env:=by rfl):SE X c (.Call (.Name "any" pp) [e] [] pos) (az nL fb):=oX (r:=λv H Q=>∃(a:Addr)(bs:List Bool),v=.ref a/\cp X.K H a (bs.map V.bl)/\Q (.bl (bs.any λb=>b)) H) (Ro hc) (λv H Q⟨a,bs,e,h⟩=>⟨a,bs,by rw[e],h⟩) (λc M U H x d s Q k rx hp q=>by cases d with
 |lst ds=>simp only[nL]at hp;cases e:iJ ds with|none=>rw[e]at hp;cases hp|some bs=>rw[e]at hp;simp only[WX,Wd]at hp;subst hp;obtain⟨a,vs,ea,ha,ra⟩:=rx.lst;have:=yv e ra;subst this;exact⟨a,bs,ea,.inl ha,q _ H (.refl k) (.bl _)⟩
 |_=>simp[nL]at hp) hg hm Sf he Z' Z' hs
theorem Si(hg:Gl X "sorted")(hm:X.mg "sorted"=none)(he:SB X c e fb)(hs:We [e] X.env=(false,eval e X.env)::We [] X.env:=by rfl):SE X c (.Call (.Name "sorted" pp) [e] [] pos) (az o_ fb):=oX (r:=λv H Q=>∃(a:Addr)(ts:List Tx),v=.ref a/\cp X.K H a (ts.map λz=>V.str (toS z))/\ts.length<64/\∀p,H p=none->Q (.ref p) (upd H p (.lst ((iH ts).map λz=>V.str (toS z))))) Rt (λv H Q⟨a,bs,e,h⟩=>⟨a,bs,by rw[e],h⟩) (λc M U H x d s Q k rx hp q=>by cases d with
 |lst ds=>simp only[o_]at hp;cases e:gy ds with|none=>rw[e]at hp;cases hp|some ts=>
 rw[e]at hp;simp only at hp;split at hp;.rename_i hz;simp only[Wd]at hp;subst hp;obtain⟨a,vs,ea,ha,ra⟩:=rx.lst;have:=oZ e ra;subst this;exact⟨a,ts,ea,.inl ha,hz,λp hp=>q _ _ (.alloc k hp _) (bu.nD k (Ez _) hp)⟩
 .cases hp|_=>simp[o_]at hp) hg hm PyProof.Rows.boot_sorted he Z' Z' hs
noncomputable def yw:D->D->Option S|.int i,.int j=>some (.pure (.int (if j>i then j else i)))|_,_=>none
def u9(f g:DE):DE:=λU=>(f U).bind λx ZW=>(g ZW).bind λy XV=>p2 yw x.d y.d XV
theorem Sj{a b f g}(hc:X.calm=true)(hg:Gl X "max")(hm:X.mg "max"=none)(ha:SE X c a f)(hb:SE X c b g)(hs:We [a,b] X.env=(false,eval a X.env)::We [b] X.env:=by rfl)(rj:We [b] X.env=(false,eval b X.env)::We [] X.env:=by rfl)(cQ:(Qz pos (We [b] X.env)).any (·.1)=false:=by rfl):SE X c (.Call (.Name "max" pp) [a,b] [] pos) (u9 f g):=PE.weak (xC (Od hc) hg hm PyProof.Rows.boot_max (fq ha (fq hb gJ rj) hs) Z' Z' hs cQ) λM H Q⟨U,k,q⟩=>by
 unfold u9 at q;rw[bp]at q;refine⟨U,k,aT q λx ZW q1 v H1 a1 r1=>⟨ZW,a1.ok,?_⟩⟩;rw[bp]at q1;refine aT q1 λy XV q2 u H2 a2 r2=>?_;unfold p2 at q2;have hx:cT c M XV H2 v x.d:=.inl (Rep.dH r1.rep a2);have hy:=r2.b;generalize x.d=dx at q2 hx;generalize y.d=dy at q2 hy;cases dx<;>cases dy<;>first|exact q2.elim|skip
 rename_i i j;exact⟨i,j,by rw[hx.int,hy.int],q2 _ H2 (a1.trans a2) (.int _)⟩
noncomputable def kj(T:String):D->Option Bool|.aJ=>some (T=="NoneType")|.bl _=>some (T=="bool"||T=="int")|.int _=>some (T=="int")|.str _=>some (T=="str")|.tup _=>some (T=="tuple")|.lst _=>some (T=="list")|.au _=>some (T=="dict")|.exc _ _=>none|.xd _=>none|.fn _=>none|.dic _=>none
structure jL(K:W5)(T:String):Prop where aJ:Je K (.type "NoneType") (.type T)=some (T=="NoneType")bl:Je K (.type "bool") (.type T)=some (T=="bool"||T=="int")int:Je K (.type "int") (.type T)=some (T=="int")str:Je K (.type "str") (.type T)=some (T=="str")tup:Je K (.type "tuple") (.type T)=some (T=="tuple")lst:Je K (.type "list") (.type T)=some (T=="list")au:Je K (.type "dict") (.type T)=some (T=="dict")
def du(T:String)(fb:BE):DE:=λU=>(fb U).bind λd ZB=>match kj T d with|some b=>.ok (.pure (.bl b)) ZB|none=>.stuck
theorem Sk{Q}(ty:jL X.K T)(I:Inv X pins M H s)(ru:RelV v u)(r:Rep H eA v d)(e:kj T d=some b)(q:Q (.bl b) H):W7 (model X.prog X.w) X.A (call (.builtin "isinstance") [u,.type T]) (EP X pins M Q) X.xe s:=by
 have fin:∀tk,EP X pins M Q (.bool b) {s with toks:=tk}:=λtk=>⟨.bl b,H,I.tok tk,rfl,q⟩
 cases r with|aJ=>exact md I ru .aJ (ty.aJ.trans e) fin|bl x=>exact md I ru (.bl x) (ty.bl.trans e) fin|int x=>exact md I ru (.int x) (ty.int.trans e) fin|str x=>exact md I ru (.str _) (ty.str.trans e) fin|tup _ h2 _ _=>exact md I ru (.tup h2) (ty.tup.trans e) fin|lst _ h2 _ _=>
 rcases h2 with h2|⟨o,h2⟩;.exact md I ru (.lst h2) (ty.lst.trans e) fin
 .exact md I ru (.frz h2) (ty.lst.trans e) fin|au _ h2 _ _=>exact md I ru (.dK h2) (ty.au.trans e) fin|exc _ _=>cases e|xd _ _=>cases e|fn _=>cases e|dic _=>cases e
theorem Sl(ty:jL X.K T):eF X (.builtin "isinstance") λxs H Q=>∃v d b,xs=[v,.ty T]/\Rep H eA v d/\kj T d=some b/\Q (.bl b) H:=by intro pins s M H xs us Q I r h;obtain⟨v,d,b,rfl,rp,e,q⟩:=h;obtain⟨u,w',rfl,r1,r2⟩:=CB r;cases r2;exact Sk ty I r1 rp e q
theorem Sm{y py}(ty:jL X.K T)(hg:Gl X "isinstance")(hm:X.mg "isinstance"=none)(Sn:Gl X y)(So:X.mg y=none)(Sq:QR y=some (.type T))(he:SB X c e fb)(Sr:y≠"__name__":=by decide)(Ss:(y==("__debug__":Str))=false:=by decide)(hs:We [e,.Name y py] X.env=(false,eval e X.env)::We [.Name y py] X.env:=by rfl)(cQ:(Qz pos (We [.Name y py] X.env)).any (·.1)=false:=by rfl):SE X c (.Call (.Name "isinstance" pp) [e,.Name y py] [] pos) (du T fb):=PE.weak (xC (Sl ty) hg hm PyProof.Rows.boot_isinstance (fq he (fq (Nb (v:=.ty T) Sn So Sq rfl Sr Ss) gJ) hs) Z' Z' hs cQ) λM H Q⟨U,k,q⟩=>by unfold du at q;rw[bp]at q;refine⟨U,k,aT q λd ZW q1 v H1 a1 r1=>?_⟩;cases e1:kj T d with|none=>rw[e1]at q1;exact q1.elim|some b=>rw[e1]at q1;exact⟨v,d,b,rfl,r1.un,e1,q1 _ H1 a1 (.bl _)⟩
end
abbrev mv:=Dl->Rs (Option Int)
def Su(c:Fc)(f:mv):TO:=λM H Q=>∃U,Ok c M U H/\post c (f U) λo ZB=>∀H',aY c M U H M ZB H'->Q o H'
abbrev SO(X:Cx)(c:Fc)(e:Option Expr)(f:mv):Prop:=PO X e (Su c f)
theorem PO.weak{e t'}(h:PO X e t)(w:∀M H Q,t' M H Q->t M H Q):PO X e t':=λpins s M H Q I q=>h pins s M H Q I (w M H Q q)
def gz:mv:=λU=>.ok none U
def dw(f:DE):mv:=λU=>(f U).bind λr ZB=>match r with|.pure (.int i)=>.ok (some i) ZB|_=>.stuck
section
variable{f:DE}{fl fh:mv}{lo hi:Option Expr}{p2:Pos}
theorem Sv:SO X c none gz:=PO.weak Ox λM H Q⟨U,k,q⟩=>q H (.refl k)
theorem Sw(h:SE X c e f):SO X c (some e) (dw f):=PO.weak (Oy h) λM H Q⟨U,k,q⟩=>by unfold dw at q;rw[bp]at q;refine⟨U,k,aT q λr ZW q1 v H1 a1 r1=>?_⟩;cases r with|own d=>exact q1.elim|pure d=>
 cases d<;>first|exact q1.elim|skip
 rename_i i;cases r1;exact⟨i,rfl,q1 H1 a1⟩
noncomputable def dA(lo hi:Option Int):D->Option S|.str x=>if x.length<=Wb then some (.pure (.str (bC x lo hi)))else none|.tup ds=>some (.pure (.tup (bC ds lo hi)))|.lst ds=>some (.own (.lst (bC ds lo hi)))|_=>none
def EA(K:W5):V->Option Int->Option Int->Hp->VK->Prop:=λx lo hi H Q=>D9 x lo hi H Q\/D7 K x lo hi H Q\/C9 K x lo hi H Q
theorem EB:j_ X (EA X.K):=uO.or (Rf.or OL)
theorem EC(lo hi):ki (λx H Q=>EA K x lo hi H Q) (dA lo hi):=by intro c M U H x d s Q k rx hp q;cases d with
 |str z=>
  simp only[dA]at hp;split at hp;.rename_i hz;simp only[Wd]at hp;subst hp;exact .inl ⟨z,rx.str,hz,q _ H (.refl k) (.str _)⟩
  .cases hp|tup ds=>
  simp only[dA,Wd]at hp;subst hp;obtain⟨a,vs,ea,ha,ra⟩:=rx.tup;refine .inr (.inl ⟨a,vs,ea,.of ha,λhw=>?_,λ_ p hp=>?_⟩)
  .rw[ra.1]at hw;rw[Rb hw]at q;rw[ea]at rx;rcases rx with rx|⟨_,_,rx⟩;.exact q _ H (.refl k) rx
   .exact rx.elim
  .rw[<-D6];exact q _ _ (.alloc k hp _) (bu.oU k (ra.cut lo hi) hp)|lst ds=>simp only[dA,Wd]at hp;subst hp;obtain⟨a,vs,ea,ha,ra⟩:=rx.lst;refine .inr (.inr ⟨a,vs,ea,.inl ha,λp hp=>?_⟩);rw[<-D6];exact q _ _ (.alloc k hp _) (bu.nD k (ra.cut lo hi) hp)|_=>simp[dA]at hp
def mw(f:DE)(fl fh:mv):DE:=λU=>(f U).bind λx ZW=>(fl ZW).bind λl XV=>(fh XV).bind λh XL=>p1 (dA l h) x.d XL
theorem Sx(he:SE X c e f)(hl:SO X c lo fl)(hh:SO X c hi fh):SE X c (.Subscript e (.Slice lo hi none p2) pos) (mw f fl fh):=PE.weak (CZ EB he hl hh) λM H Q⟨U,k,q⟩=>by unfold mw at q;rw[bp]at q;refine⟨U,k,aT q λx ZW q1 v H1 a1 r1=>⟨ZW,a1.ok,?_⟩⟩;rw[bp]at q1;refine aT q1 λl XV q2 H2 a2=>⟨XV,a2.ok,?_⟩;rw[bp]at q2;refine aT q2 λh XL q3 H3 a3=>?_;exact yu (EC l h) a3.ok (.inl (Rep.dH r1.rep (a2.trans a3))) (aT q3 λs UV q4 w H4 a4 r4=>q4 w H4 (a1.trans (a2.trans (a3.trans a4))) (bu.back r4 (a1.trans (a2.trans a3))))
def eQ(i:Nat)(fl fh:mv):DE:=λU=>match U[i]? with|some (some _)=>(fl U).bind λl XV=>(fh XV).bind λh XL=>(ah i XL).bind λx UV=>p1 (dA l h) x UV|_=>.stuck
theorem Sy{v}{w:S}(k:Ok c M U H)(e:U[i]?=some (some w))(ev:M[i]?=some (some v)):cT c M U H v w.d:=by cases w with|pure d=>obtain⟨v',e1,r⟩:=k.slot i d e;rw[ev]at e1;cases e1;exact .inl r|own d=>obtain⟨a,e1,r,_⟩:=k.own i d e;rw[ev]at e1;cases e1;exact .inr ⟨a,rfl,r⟩
theorem Sz(h:post c ((ah i U).bind g) kk):∃w,U[i]?=some (some w)/\post c (g w.d U) kk:=by unfold ah at h;cases e:U[i]? with|none=>rw[e]at h;exact h.elim|some o=>cases o with|none=>rw[e]at h;exact h.elim|some w=>rw[e]at h;exact⟨w,rfl,h⟩
theorem SD(he:PE X e (dq i))(hl:SO X c lo fl)(hh:SO X c hi fh):SE X c (.Subscript e (.Slice lo hi none p2) pos) (eQ i fl fh):=PE.weak (CZ EB he hl hh) λM H Q⟨U,k,q⟩=>by unfold eQ at q;cases e:U[i]? with|none=>rw[e]at q;exact q.elim|some o=>cases o with|none=>rw[e]at q;exact q.elim|some w=>rw[e]at q;obtain⟨v,ev⟩:=yn k e;have q':post c ((fl U).bind λl XV=>(fh XV).bind λh XL=>(ah i XL).bind λx UV=>p1 (dA l h) x UV) λr ZB=>∀v H',aY c M U H M ZB H'->bu c M ZB H H' v r->Q v H':=q;rw[bp]at q';refine⟨v,ev,U,k,aT q' λl XV q2 H2 a2=>⟨XV,a2.ok,?_⟩⟩;rw[bp]at q2;refine aT q2 λh XL q3 H3 a3=>?_;obtain⟨w3,e3,q4⟩:=Sz q3;exact yu (EC l h) a3.ok (Sy a3.ok e3 ev) (aT q4 λs UV q4 w H4 a4 r4=>q4 w H4 (a2.trans (a3.trans a4)) (bu.back r4 (a2.trans a3)))
def jM(z:Tx):List Tx->Tx|[]=>[]|[x]=>x|x::y::r=>x++z++jM z (y::r)
theorem ED(z):∀(r:List Tx)(acc:Tx),(r.map toS).foldl (λ(acc:Array Nat)p=>acc++(toS z).cps++p.cps) acc.toArray=(match r with|[]=>acc|x::r'=>acc++z++jM z (x::r')).toArray|[],acc=>rfl|x::r,acc=>by rw[Wi,U7];have e:acc.toArray++(toS z).cps++(toS x).cps=(acc++z++x).toArray:=#v[toS];rw[e,ED z r (acc++z++x)];cases r with|nil=>simp[jM]|cons y r'=>simp[jM]
theorem SF(z)(ts:List Tx):Txt.join (toS z) (ts.map toS)=toS (jM z ts):=by show Builtin.Str.glued _ _=_;unfold Builtin.Str.glued;cases ts with|nil=>rfl|cons x r=>rw[Wi];show(⟨List.foldl _ (toS x).cps (r.map toS)⟩:Str)=_;have:=ED z r x;have e:(toS x).cps=x.toArray:=rfl;rw[e,this];cases r with|nil=>rfl|cons y r'=>rfl
def ie(ts:List Tx):Nat:=(ts.map (·.length)).sum
noncomputable def cO(z:Tx):D->Option S
 |.lst ds=>match gy ds with|some ts=>if ie ts+ts.length*z.length<=16777216 then some (.pure (.str (jM z ts)))else none|none=>none
 |.tup ds=>match gy ds with|some ts=>if ie ts+ts.length*z.length<=16777216 then some (.pure (.str (jM z ts)))else none|none=>none
 |_=>none
theorem SH(z):ki (λx H Q=>uQ K (.str (toS z)) [x] H Q) (cO z):=by
 intro c M U H x d s Q k rx hp q;have key:∀(a:Addr)(vs:List V)(ds:List D),x=.ref a->cp K H a vs\/cE K H a vs->aH H (Av c M U) vs ds->(match gy ds with|some ts=>if ie ts+ts.length*z.length<=16777216 then some (S.pure (.str (jM z ts)))else none|none=>none)=some s->uQ K (.str (toS z)) [x] H Q:=by intro a vs ds ea ha ra hp;cases e:gy ds with|none=>rw[e]at hp;cases hp|some ts=>
   rw[e]at hp;simp only at hp;split at hp
   .rename_i hz;simp only[Wd]at hp;subst hp;have:=oZ e ra;subst this;refine⟨toS z,a,ts.map toS,rfl,by rw[ea],?_,?_,?_⟩;.rw[Wq];exact ha
    .rw[Wq,Ws,ml];have:(λx:Str=>x.length)∘toS=λx:Tx=>x.length:=funext λx=>ml x;rw[this];exact hz
    .rw[SF];exact q _ H (.refl k) (.str _)
   .cases hp
 cases d with|lst ds=>obtain⟨a,vs,ea,ha,ra⟩:=rx.lst;exact key a vs ds ea (.inl (.inl ha)) ra hp|tup ds=>obtain⟨a,vs,ea,ha,ra⟩:=rx.tup;exact key a vs ds ea (.inr (.of ha)) ra hp|_=>simp[cO]at hp
theorem SJ{j}{p0 apos bF:Pos}(z)(he:SB X c e fb)(hx:x=toS z:=by decide+kernel)(m_:Ja (.Constant (.str x) j p0) "join" X.env (eval (.Constant (.str x) j p0) X.env)=eval (.Constant (.str x) j p0) X.env:=by rfl)(nh:((Qz bF (We [e] X.env)).all (λx=>!x.1)&&(backToKw bF (Uq [] X.env)).all (λx=>x.1.isSome)&&decide ([e].length+([]:List Keyword).length+(if([]:List Keyword).isEmpty then 0 else 1)<30))=true:=by rfl)(ni:(apos.endLine==bF.line)=true:=by rfl)(hs:We [e] X.env=(false,eval e X.env)::We [] X.env:=by rfl):SE X c (.Call (.Attribute (.Constant (.str x) j p0) "join" apos) [e] [] bF) (az (cO z) fb):=by subst hx;refine PE.weak (uq PySem.F.plainAttrs_str PySem.F.slot_str_join PySem.F.type_str_join Rm B_ (fq he gJ hs) m_ nh ni hs rfl) λM H Q h=>?_;obtain⟨U,k,q⟩:=rg (r:=λx H Q=>uQ X.K (.str (toS z)) [x] H Q) (SH z) h;refine⟨?_,U,k,q⟩;show("str":String)="str";rfl
end
inductive Fl where|next|ret(r:S)|brk|cont
abbrev DS:=Dl->Rs Fl
variable{il:Addr->(D->Option D)->DS}
def fin(c:Fc)(D:Ends)(M:St)(U:Dl)(H:Hp):Fl->Prop|.next=>D.nx M H|.ret r=>∀v,bu c M U c.H₀ H v r->D.rt v H|.brk=>D.bk M H|.cont=>D.ct M H
def eB(c:Fc)(D:Ends)(M:St)(U:Dl)(H:Hp)(r:Rs Fl):Prop:=post c r λfl ZB=>∀M' H',aY c M U H M' ZB H'->fin c D M' ZB H' fl
def nM(c:Fc)(f:DS):TS:=λD M H=>∃U,Ok c M U H/\eB c D M U H (f U)
abbrev SS(X:Cx)(c:Fc)(st:Stmt)(f:DS):Prop:=PS X st (nM c f)
abbrev eR(X:Cx)(c:Fc)(st:List Stmt)(f:DS):Prop:=dM X st (nM c f)
theorem PS.weak{st t t'}(h:PS X st t)(w:∀D M H,t' D M H->t D M H):PS X st t':=λpins s M H D I q=>h pins s M H D I (w D M H q)
theorem dM.weak{st t t'}(h:dM X st t)(w:∀D M H,t' D M H->t D M H):dM X st t':=λpins s M H D I q=>h pins s M H D I (w D M H q)
def bL:DS:=λU=>.ok .next U
def ar(f g:DS):DS:=λU=>(f U).bind λfl ZW=>match fl with|.next=>g ZW|.ret r=>.ok (.ret r) ZW|.brk=>.ok .brk ZW|.cont=>.ok .cont ZW
def ph(f:DE):DS:=λU=>(f U).bind λ_ ZW=>.ok .next ZW
def bh(f:DE):DS:=λU=>(f U).bind λr ZW=>.ok (.ret r) ZW
def bG(t:DT)(f g:DS):DS:=λU=>(t U).bind λb ZW=>if b then f ZW else g ZW
def pj:DS:=λ_=>.stuck
def qaQ(np:List Nat)(i:Nat):DE:=λU=>match U[i]? with|some (some (.own d))=>if np.contains i then .ok (.pure d) (U.set i (some (.pure d)))else .ok (.own d) (U.set i none)|some (some (.pure d))=>.ok (.pure d) U|_=>.stuck
section
variable{st:Stmt}{a:Expr}{f g:DS}{t:DT}
theorem EE:eR X c [] bL:=dM.weak Nz λD M H⟨U,k,q⟩=>q M H (.refl k)
theorem EF(h1:SS X c st f)(h2:eR X c t7 g):eR X c (st::t7) (ar f g):=dM.weak (NA h1 h2) λD M H⟨U,k,q⟩=>by unfold ar eB at q;rw[bp]at q;refine⟨U,k,aT q λfl ZW q1 Tm H1 a1=>?_⟩;cases fl with|next=>exact⟨ZW,a1.ok,aT q1 λfl2 XV q2 T' H2 a2=>q2 T' H2 (a1.trans a2)⟩|ret r=>exact q1 Tm H1 a1|brk=>exact q1 Tm H1 a1|cont=>exact q1 Tm H1 a1
theorem EG(h1:SS X c st f):eR X c [st] f:=dM.weak (Cb h1) λD M H h=>h
theorem SK:SS X c st pj:=PS.weak NH λD M H⟨U,k,q⟩=>q
theorem SM:eR X c t7 pj:=dM.weak NI λD M H⟨U,k,q⟩=>q
theorem SN(he:SE X c e fe):SS X c (.Return (some e) pos) (bh fe):=PS.weak (Cc he) λD M H⟨U,k,q⟩=>by unfold bh eB at q;rw[bp]at q;exact⟨U,k,aT q λr ZW q1 v H1 a1 r1=>q1 M H1 a1 v r1.P4⟩
theorem SQ{b1 b2}(ht:ST X c e t)(h1:eR X c b1 f)(h2:eR X c b2 g):SS X c (.If e b1 b2 pos) (bG t f g):=PS.weak (NG ht h1 h2) λD M H⟨U,k,q⟩=>by unfold bG eB at q;rw[bp]at q;refine⟨U,k,aT q λb ZW q1 H1 a1=>?_⟩;cases b with|true=>exact⟨ZW,a1.ok,aT q1 λfl XV q2 T' H2 a2=>q2 T' H2 (a1.trans a2)⟩|false=>exact⟨ZW,a1.ok,aT q1 λfl XV q2 T' H2 a2=>q2 T' H2 (a1.trans a2)⟩
theorem Own.rm(h:Own (M.set i (some v)) (U.set i (some r)) b):Own M U b\/v=.ref b/\∃d,r=.own d:=by
 obtain⟨j,d,e1,e2⟩:=h;by_cases hj:i=j;.subst hj;right;rw[Q8]at e1 e2;simp at e1 e2;obtain⟨_,h1⟩:=e1;obtain⟨_,h2⟩:=e2;exact⟨h2,d,h1⟩
 .rw[Wa hj]at e1 e2;exact .inl ⟨j,d,e1,e2⟩
theorem Ok.set(x:aY c M₀ U₀ H₁ M U H)(hr:bu c M U H₁ H v r)(hp:∀p∈c.pin,p.1≠i):aY c M₀ U₀ H₁ (M.set i (some v)) (U.set i (some r)) H:=by
 have k:=x.ok;have all:∃c':Fc,c'.H₀=c.H₀/\c'.pin=c.pin/\Ok c' M U H/\∀b,Av c (M.set i (some v)) (U.set i (some r)) b->Av c' M U b:=by cases r with
 |pure d=>
   refine⟨c,rfl,rfl,k,λb z=>?_⟩;rcases z with z|z;.exact .inl z
   .rcases z.rm with z|⟨_,d',e⟩;.exact .inr z
    .cases e|own d=>
   obtain⟨a,ea,o,n,f,k2,_⟩:=hr;refine⟨c.plus a,rfl,rfl,k2,λb z=>?_⟩;rcases z with z|z;.exact .inl (.inl z)
   .rcases z.rm with z|⟨e,_⟩;.exact .inr z
    .rw[ea]at e;cases e;exact .inl (.inr rfl)
 obtain⟨c',eH,eP,k2,sub⟩:=all;have eI:∀a,c'.I a↔c.I a:=λa=>by unfold Fc.I;rw[eP]
 have SR:Rep H (Av c (M.set i (some v)) (U.set i (some r))) v r.d\/∃d,r=.own d:=by cases r with
 |pure d=>
   left;refine Rep.aV hr λb z=>?_;rcases z with z|z;.exact .inl (.inl z)
   .rcases z.rm with z|⟨_,d',e⟩;.exact .inl (.inr z)
    .cases e|own d=>exact .inr ⟨d,rfl⟩
 refine⟨⟨k.keep,k.bd,k.eJ,%[Qg,Qg|k.len],λj d e=>?_,λj d e=>?_,λj l a d d' e1 e2 e3 e4=>?_,λp hm=>?_⟩,x.keep,λb z=>?_,x.there⟩
 .by_cases hj:i=j
  .subst hj;rw[Q8]at e;simp at e;obtain⟨hi,rfl⟩:=e;have gL:i<M.length:=by rw[<-k.len];exact hi
   rcases SR with h|⟨_,h⟩;.exact⟨v,by rw[Wr gL],h⟩
   .cases h
  .rw[Wa hj]at e;obtain⟨w,e1,q⟩:=k2.slot j d e;exact⟨w,%[Wa hj|e1],q.aV λb z=>.inl (sub b z)⟩
 .by_cases hj:i=j
  .subst hj;rw[Q8]at e;simp at e;obtain⟨hi,rfl⟩:=e;have gL:i<M.length:=by rw[<-k.len];exact hi
   obtain⟨a,ea,o,n,f,k3,_⟩:=hr;refine⟨a,by rw[Wr gL,ea],o.aV λb z=>.inl ?_,.inr f,n⟩;rcases z with z|z;.exact .inl (.inl z)
   .rcases z.rm with z|⟨e,_⟩;.exact .inr z
    .rw[ea]at e;cases e;exact .inl (.inr rfl)
  .rw[Wa hj]at e;obtain⟨a,e1,q,q2,q3⟩:=k.own j d e;obtain⟨a',e1',q',_,_⟩:=k2.own j d e;rw[e1]at e1';cases e1';exact⟨a,%[Wa hj|e1],q'.aV λb z=>.inl (sub b z),q2,q3⟩
 .by_cases hj:i=j
  .subst hj;by_cases hl:i=l;.exact hl
   .rw[Wa hl]at e2 e4;rw[Q8]at e1 e3;simp at e1 e3;obtain⟨_,rfl⟩:=e1;obtain⟨_,rfl⟩:=e3;obtain⟨a',ea,o,n,f,k3,_⟩:=hr;cases ea;exact absurd ⟨l,d',e2,e4⟩ (uJ k3)
  .rw[Wa hj]at e1 e3;by_cases hl:i=l;.subst hl;rw[Q8]at e2 e4;simp at e2 e4;obtain⟨_,rfl⟩:=e2;obtain⟨_,rfl⟩:=e4;obtain⟨a',ea,o,n,f,k3,_⟩:=hr;cases ea;exact absurd ⟨j,d,e1,e3⟩ (uJ k3)
   .rw[Wa hl]at e2 e4;exact k.inj j l a d d' e1 e2 e3 e4
 .rw[Wa (Ne.symm (hp p hm))];exact k.pinned p hm
 .rcases z.rm with z|⟨e,d,ed⟩;.exact x.own b z
  .subst ed;obtain⟨a,ea,_,_,_,_,hs⟩:=hr;grind
abbrev DG:=S->Dl->Option Dl
def yx(c:Fc)(g:DG):TG:=λv M H Q=>∃M₀ U₀ H₁ U r ZB,aY c M₀ U₀ H₁ M U H/\bu c M U H₁ H v r/\g r U=some ZB/\∀M',aY c M₀ U₀ H₁ M' ZB H->Q M' H
abbrev SG(X:Cx)(c:Fc)(tg:Expr)(g:DG):Prop:=PG X tg (yx c g)
def ag(np:List Nat)(i:Nat):DG:=λr U=>if np.contains i then none else some (U.set i (some r))
def Np(c:Fc)(np:List Nat):Prop:=∀p∈c.pin,np.contains p.1=true
theorem yy{Q}(hp:Np c np)(h:yx c (ag np i) v M H Q):oK i v M H Q:=by
 obtain⟨M₀,U₀,H₁,U,r,ZB,x,rr,e,q⟩:=h;unfold ag at e;split at e;.cases e
 .rename_i hn;cases e;exact q _ (Ok.set x rr λp hm e=>hn (by rw[<-e];exact hp p hm))
theorem PG.weak{t t'}(h:PG X tg t)(w:∀v M H Q,t' v M H Q->t v M H Q):PG X tg t':=λpins s M H v u Q I r q=>h pins s M H v u Q I r (w v M H Q q)
theorem iD.weak{tg t t'}(h:iD X tg t)(w:∀v M H Q,t' v M H Q->t v M H Q):iD X tg t':=λpins s M H v u Q I r q=>h pins s M H v u Q I r (w v M H Q q)
theorem SV(hp:Np c np)(hN:X.N.Nodup)(hi:X.N[i]?=some x)(hx:Loc X.env.scope x)(hf:X.fn x=true\/X.env.scope.names.lookup x=some .local):SG X c (.Name x pos) (ag np i):=PG.weak (t8 hN hi hx hf) λv M H Q h=>yy hp h
abbrev jf:=List D->Dl->Option Dl
def SY(c:Fc)(g:jf):l_:=λvs M H Q=>∃U ds ZB,Ok c M U H/\aH H (Av c M U) vs ds/\g ds U=some ZB/\∀M',aY c M U H M' ZB H->Q M' H
abbrev rq(X:Cx)(c:Fc)(tg:List Expr)(g:jf):Prop:=iD X tg (SY c g)
def cw:jf:=λds U=>match ds with|[]=>some U|_=>none
def a7(g:DG)(gs:jf):jf:=λds U=>match ds with|[]=>none|d::r=>(g (.pure d) U).bind λZW=>gs r ZW
theorem S3:rq X c [] cw:=iD.weak xj λvs M H Q hh=>by
 obtain⟨U,ds,ZB,k,r,e,q⟩:=hh
 cases ds with|nil=>
 cases e;have:vs=[]:=by have:=r.1;simpa using this
 exact⟨this,q M (.refl k)⟩|cons d r=>cases e
theorem S4{g gs}(h1:SG X c e g)(h2:rq X c es gs)(hs:(QI (e::es) X.env).map (·.2)=assign e X.env::(QI es X.env).map (·.2):=by rfl):rq X c (e::es) (a7 g gs):=iD.weak (t_ h1 h2 hs) λvs M H Q hh=>by obtain⟨U,ds,ZB,k,r,e,q⟩:=hh;cases ds with|nil=>cases e|cons d ds=>cases vs with|nil=>have:=r.1;simp at this|cons v vs=>simp only[a7]at e;cases e1:g (.pure d) U with|none=>rw[e1]at e;cases e|some ZW=>rw[e1]at e;refine⟨v,vs,rfl,M,U,H,U,.pure d,ZW,.refl k,r.head,e1,λTm a1=>?_⟩;exact⟨ZW,ds,ZB,a1.ok,aH.dH r.tail a1,e,λT' a2=>q T' (a1.trans a2)⟩
def cj(n:Nat)(gs:jf):DG:=λr U=>match r.d with|.tup ds=>if ds.length=n then gs ds U else none|_=>none
theorem S5{k gs}(hc:X.calm=true)(h:rq X c es gs)(hn:(QI es X.env).length=n:=by rfl)(bV:(QI es X.env).findIdx? (·.1)=none:=by rfl):SG X c (.Tuple es k pos) (cj n gs):=PG.weak (xk hc h hn bV) λv M H Q hw=>by
 obtain⟨M₀,U₀,H₁,U,r,ZB,x,rr,e,q⟩:=hw;have hb:=rr.b;unfold cj at e;generalize r.d=d at e hb;cases d<;>first|(cases e;done)|skip
 rename_i ds;simp only at e;split at e;.rename_i hl;obtain⟨a,vs,ea,ha,ra⟩:=hb.tup;exact⟨a,vs,ea,.of ha,%[ra.1|hl],U,ds,ZB,x.ok,ra,e,λM' a1=>q M' (x.trans a1)⟩
 .cases e
def ax(f:DE)(g:DG):DS:=λU=>(f U).bind λr ZW=>match g r ZW with|some XV=>.ok .next XV|none=>.stuck
theorem yz{g D tg}(he:∀M H Q,tD c fe M H Q->te M H Q)(hg:∀v M H Q,yx c g v M H Q->tg v M H Q)(h:nM c (ax fe g) D M H):ua te tg D M H:=by obtain⟨U,k,q⟩:=h;unfold ax eB at q;rw[bp]at q;refine he _ _ _ ⟨U,k,aT q λr ZW q1 v H1 a1 r1=>hg _ _ _ _ ?_⟩;cases e:g r ZW with|none=>rw[e]at q1;exact q1.elim|some XV=>rw[e]at q1;exact⟨M,U,H,ZW,r,XV,a1,r1,e,λM' a2=>q1 M' H1 a2⟩
theorem S6{g}(he:SE X c e fe)(hg:SG X c tg g)(hs:swapsWithSole [tg] e pos.line X.env=pure false:=by rfl)(hw:swappedStores [tg] e X.env=pure none:=by rfl)(h1:(QI [tg] X.env).map (·.2)=[assign tg X.env]:=by rfl):SS X c (.Assign [tg] e pos) (ax fe g):=PS.weak (Cj he hg hs hw h1) λD M H h=>yz (λ_ _ _ h=>h) (λ_ _ _ _ h=>h) h
theorem S7(hp:Np c np)(hN:X.N.Nodup)(hi:X.N[i]?=some x)(hx:Loc X.env.scope x)(he:SE X c e fe)(hs:J9 e (some (.Name x pos')) pos.line X.env=pure false)(hf:X.fn x=true\/X.env.scope.names.lookup x=some .local):SS X c (.Assign [.Name x pos'] e pos) (ax fe (ag np i)):=PS.weak (Ck hN hi hx he hs hf) λD M H h=>yz (λ_ _ _ h=>h) (λ_ _ _ _ h=>yy hp h) h
theorem S8(he:SE X c e fe)(hs:∀(x:Value),J9 e none pos.line X.env=pure false:=by intro _;rfl)(hd:True:=trivial)(h:PS X (.Expr e pos) (qB (tD c fe))):SS X c (.Expr e pos) (ph fe):=PS.weak h λD M H⟨U,k,q⟩=>by unfold ph eB at q;rw[bp]at q;exact⟨U,k,aT q λr ZW q1 v H1 a1 r1=>q1 M H1 a1⟩
theorem Ok.EH{dW a iG}(k:Ok c M U H)(e:U[i]?=some (some (.own (.lst ds))))(ea:M[i]?=some (some (.ref a)))(r:aH H (Av c M U) iG dW):aY c M U H M (U.set i (some (.own (.lst dW)))) (upd H a (.lst iG)):=by
 have hi:i<U.length:=(W9.mp e).1;obtain⟨a',ea',oa,ia,nb⟩:=k.own i _ e;rw[ea]at ea';cases ea';obtain⟨vs,ha,_⟩:=oa;have rA:Own M U a:=⟨i,_,e,ea⟩;have rC:Av c M U a:=.inr rA;have my:∀b,Own M (U.set i (some (.own (.lst dW)))) b↔Own M U b:=λb=>by
  constructor
  .rintro⟨j,d,e1,e2⟩;by_cases hj:i=j;.subst hj;exact⟨i,_,e,e2⟩
   .rw[Wa hj]at e1;exact⟨j,d,e1,e2⟩
  .rintro⟨j,d,e1,e2⟩;by_cases hj:i=j;.subst hj;exact⟨i,_,by rw[Wr hi],e2⟩
   .exact⟨j,d,%[Wa hj|e1],e2⟩
 have jN:∀b,Av c M (U.set i (some (.own (.lst dW)))) b->Av c M U b:=λb z=>z.elim .inl λz=>.inr ((my b).mp z);have ne:∀b,¬Av c M U b->b≠a:=λb n z=>n %[z|rC];have kp:∀b o,H b=some o->¬Av c M U b->upd H a (.lst iG) b=some o:=λb o h n=>%[aP (ne b n)|h];have ig:∀b o,H b=some o->∃o',upd H a (.lst iG) b=some o':=λb o h=>by
  by_cases hb:b=a;.exact⟨_,%[hb|cD]⟩
  .exact⟨o,%[aP hb|h]⟩
 refine⟨⟨λb o h n=>?_,λb z=>?_,λb z=>?_,%[Qg|k.len],λj d h=>?_,λj d h=>?_,λj l b d d' h1 h2 h3 h4=>?_,k.pinned⟩,λb o h n=>?_,λb z=>.inl ((my b).mp z),ig⟩
 .have hb:b≠a:=λz=>by grind
  rw[aP hb];exact k.keep b o h n
 .obtain⟨o,h⟩:=k.bd b z;exact ig b o h
 .obtain⟨o,h⟩:=k.eJ b z;exact ig b o h
 .have hj:i≠j:=λz=>by subst z;rw[Wr hi]at h;cases h
  rw[Wa hj]at h;obtain⟨v,h1,h2⟩:=k.slot j d h;exact⟨v,h1,(h2.keep kp).aV λb z=>.inl (jN b z)⟩
 .by_cases hj:i=j;.subst hj;rw[Wr hi]at h;cases h;exact⟨a,ea,⟨iG,cD,aH.aV (aH.keep r kp) λb z=>.inl (jN b z)⟩,ia,nb⟩
  .rw[Wa hj]at h;obtain⟨b,h1,h2,h3,h4⟩:=k.own j d h;have hb:b≠a:=λz=>by subst z;exact hj (k.inj i j b _ d e h ea h1)
   exact⟨b,h1,(h2.keep kp λo q=>%[aP hb|q]).aV λb z=>.inl (jN b z),h3,h4⟩
 .have f1:∃d,U[j]?=some (some (.own d)):=by
   by_cases hj:i=j;.subst hj;exact⟨_,e⟩
   .rw[Wa hj]at h1;exact⟨d,h1⟩
  have f2:∃d,U[l]?=some (some (.own d)):=by
   by_cases hj:i=l;.subst hj;exact⟨_,e⟩
   .rw[Wa hj]at h2;exact⟨d',h2⟩
  obtain⟨_,f1⟩:=f1;obtain⟨_,f2⟩:=f2;exact k.inj j l b _ _ f1 f2 h3 h4
 grind[aP]
def jg(U:Dl)(i:Nat):Bool:=match U[i]? with|some (some (.own (.lst _)))=>true|_=>false
noncomputable def putL(U:Dl)(i:Nat)(f:List D->Option (List D)):Rs Fl:=match U[i]? with
 |some (some (.own (.lst ds)))=>match f ds with|some dW=>.ok .next (U.set i (some (.own (.lst dW))))|none=>.stuck
 |_=>.stuck
theorem EI(h:jg U i=true):∃ds,U[i]?=some (some (.own (.lst ds))):=by
 unfold jg at h;split at h;.rename_i ds e;exact⟨ds,e⟩
 .cases h
theorem EJ{g:List D->Option (List D)}{kk:Fl->Dl->Prop}(h:post c (putL U i g) kk):∃ds dW,U[i]?=some (some (.own (.lst ds)))/\g ds=some dW/\kk .next (U.set i (some (.own (.lst dW)))):=by
 unfold putL at h;split at h
 .rename_i ds e;split at h;.rename_i dW e2;exact⟨ds,dW,e,e2,h⟩
  .exact h.elim
 .exact h.elim
def cL(i:Nat)(f:DE):DS:=λU=>if jg U i then(f U).bind λr ZW=>putL ZW i λds=>if ds.length<Wb then some (ds++[r.d])else none else .stuck
theorem S9{o}{p0:Pos}(ho:PE X o (dq i))(he:SE X c e fe)(h:PS X (.Expr (.Call (.Attribute o "append" apos) [e] [] bF) pos) (qB (uo X.K "list" ur (dq i) (uj (tD c fe) oO)))):SS X c (.Expr (.Call (.Attribute o "append" apos) [e] [] bF) pos) (cL i fe):=PS.weak h λD M H⟨U,k,q⟩=>by
  unfold cL eB at q;split at q
  .rename_i fz;obtain⟨ds0,e0⟩:=EI fz;rw[bp]at q;obtain⟨a,ea,oa,_⟩:=k.own i _ e0;refine⟨.ref a,ea,?_,U,k,aT q λr ZW q1 v H1 a1 r1=>?_⟩;.obtain⟨vs,ha,_⟩:=oa;exact .inl ⟨rfl,vs,.of ha⟩
   .obtain⟨ds,dW,e1,e2,q2⟩:=EJ q1;split at e2;.rename_i hz;cases e2;obtain⟨a',ea',oa1,_⟩:=a1.ok.own i _ e1;rw[ea]at ea';cases ea';obtain⟨vs,ha,ra⟩:=id oa1;refine⟨a,vs,v,rfl,rfl,ha,%[ra.1|hz],?_⟩;exact q2 M _ (a1.trans (Ok.EH a1.ok e1 ea (ra.append (.cons r1.rep .nil))))
    .cases e2
  .exact q.elim
def nN(i:Nat)(fi:DE)(fe:DE):DS:=λU=>if jg U i then(fe U).bind λr ZW=>(fi ZW).bind λk XV=>match k with|.pure (.int j)=>putL XV i λds=>(jb ds.length j).map λn=>ds.set n r.d|_=>.stuck else .stuck
theorem S_{o ix fi sp}(ho:PE X o (dq i))(hi:SE X c ix fi)(he:SE X c e fe)(ha:∀v,assign (.Subscript o ix sp) X.env v=(do
   let ov<-holding [v] (eval o X.env)let iv<-holding [v,ov] (eval ix X.env)standAt sp
   holding [v,ov,iv] (setItem ov iv v)release [v,ov,iv] []):=by intro _;rfl)(hs:swapsWithSole [.Subscript o ix sp] e pos.line X.env=pure false:=by rfl)(hw:swappedStores [.Subscript o ix sp] e X.env=pure none:=by rfl)(h1:(QI [.Subscript o ix sp] X.env).map (·.2)=[assign (.Subscript o ix sp) X.env]:=by rfl):SS X c (.Assign [.Subscript o ix sp] e pos) (nN i fi fe):=PS.weak (Cj he (NL ho hi OI ha) hs hw h1) λD M H⟨U,k,q⟩=>by
  unfold nN eB at q;split at q;.rename_i fz;obtain⟨ds0,e0⟩:=EI fz;rw[bp]at q;obtain⟨a,ea,_,_⟩:=k.own i _ e0;refine⟨U,k,aT q λr ZW q1 v H1 a1 r1=>⟨.ref a,ea,ZW,a1.ok,?_⟩⟩;rw[bp]at q1;refine aT q1 λkx XV q2 u H2 a2 r2=>?_;cases kx with|own d=>exact q2.elim|pure d=>
    cases d<;>first|exact q2.elim|skip
    rename_i j;cases r2;obtain⟨ds,dW,e1,e2,q3⟩:=EJ q2;cases e3:jb ds.length j with|none=>rw[e3]at e2;cases e2|some n=>rw[e3]at e2;cases e2;obtain⟨a',ea',oa1,_⟩:=a2.ok.own i _ e1;rw[ea]at ea';cases ea';obtain⟨vs,ha,ra⟩:=id oa1;refine⟨a,vs,j,n,rfl,rfl,ha,%[ra.1|e3],?_⟩;exact q3 M _ (a1.trans (a2.trans (Ok.EH a2.ok e1 ea (ra.set (Rep.dH r1.rep a2) n))))
  .exact q.elim
end
abbrev DI:=Dl->Rs (List D)
def mz(c:Fc)(M:St)(U:Dl)(H:Hp)(J:It)(ds:List D):Prop:=∀H2,(∀a o,H a=some o->¬Own M U a->H2 a=some o)->J.stop ds.length H2/\∀(i:Nat)d,ds[i]?=some d->J.go i H2/\∀x H3,J.qC i H2 x H3->H3=H2/\Rep H (Av c M U) x d\/∃p vs es,H2 p=none/\H3=upd H2 p (.tup vs)/\x=.ref p/\d=.tup es/\aH H (Av c M U) vs es
def tI(c:Fc)(f:DI):TI:=λM H R=>∃U,Ok c M U H/\post c (f U) λds ZB=>∀J H',aY c M U H M ZB H'->mz c M ZB H' J ds->R J H'
abbrev SI(X:Cx)(c:Fc)(tg iter:Expr)(f:DI):Prop:=PI X tg iter (tI c f)
theorem PI.weak{t'}(h:PI X tg iter t)(w:∀M H R,t' M H R->t M H R):PI X tg iter t':=λpins s M H R I q=>h pins s M H R I (w M H R q)
theorem qaR(K)(h:Rd H a (.lst vs))(n:¬Own M U a)(r:aH H (Av c M U) vs ds)(hK:∀H2 ws,Rd H2 a (.lst vs)->cp K H2 a ws->ws=vs):mz c M U H (uc K a) ds:=by intro H2 kp;have h2:Rd H2 a (.lst vs):=Rd.keep h λo e=>kp a o e n;refine⟨⟨vs,.inl h2,%[r.1|Wg _]⟩,λi d e=>?_⟩;obtain⟨v,ev,rv⟩:=r.get e;refine⟨⟨vs,v,.inl h2,ev⟩,λx H3⟨e3,y⟩=>.inl ⟨e3,?_⟩⟩;have:=y vs (.inl h2);grind
theorem Ta(K)(h:H a=some (.tup vs))(n:¬Own M U a)(r:aH H (Av c M U) vs ds):mz c M U H (ud K a) ds:=by intro H2 kp;have h2:=kp a _ h n;refine⟨⟨vs,.of h2,%[r.1|Wg _]⟩,λi d e=>?_⟩;obtain⟨v,ev,rv⟩:=r.get e;refine⟨⟨vs,v,.of h2,ev⟩,λx H3⟨e3,y⟩=>.inl ⟨e3,?_⟩⟩;have:=y vs (.of h2);grind
def e9(lo:Int)(n:Nat):List D:=(WB n).map λk:Nat=>D.int (lo+k)
theorem Tb{lo:Int}{d}(h:(e9 lo n)[i]?=some d):i<n/\d=.int (lo+i):=by
 unfold e9 at h;rw[Wo]at h;by_cases hi:i<n;.rw[List.getElem?_range hi]at h;simp at h;exact⟨hi,h.symm⟩
 .rw[QA (~~~hi)]at h;cases h
theorem Tc(lo:Int)(n:Nat):mz c M U H (ue lo n) (e9 lo n):=by intro H2 kp;refine⟨by show n<=(e9 lo n).length;simp[e9],λi d e=>?_⟩;obtain⟨hi,rfl⟩:=Tb e;exact⟨hi,λx H3⟨e3,ex⟩=>.inl ⟨e3,%[ex|.int _]⟩⟩
def pk(j:Int):Bool:=decide (-2^62<=j)&&decide (j<2^62)
def cG(f:DE):DI:=λU=>(f U).bind λr ZW=>match r with|.pure (.int j)=>if pk j then .ok (e9 0 j.toNat) ZW else .stuck|_=>.stuck
theorem Td(hg:Gl X "range")(hm:X.mg "range"=none)(he:SE X c e fe)(hs:We [e] X.env=[(false,eval e X.env)]:=by rfl):SI X c tg (.Call (.Name "range" pp) [e] [] pos) (cG fe):=PI.weak (NU hg hm (fq he gJ hs) hs) λM H R⟨U,k,q⟩=>by unfold cG at q;rw[bp]at q;refine⟨U,k,aT q λr ZW q1 v H1 a1 r1=>?_⟩;cases r with|own d=>exact q1.elim|pure d=>
 cases d<;>first|exact q1.elim|skip
 rename_i j;cases r1;simp only at q1;split at q1;.rename_i hj;unfold pk at hj;simp only[Wy,decide_eq_true_eq]at hj;exact⟨j,rfl,hj.1,hj.2,q1 _ H1 a1 (Tc 0 j.toNat)⟩
 .exact q1.elim
noncomputable def forL(g:DG)(b:DS):List D->DS|[],U=>.ok .next U|d::r,U=>match g (.pure d) U with|none=>.stuck|some ZW=>(b ZW).bind λfl XV=>match fl with|.next=>forL g b r XV|.cont=>forL g b r XV|.brk=>.ok .next XV|.ret v=>.ok (.ret v) XV
def bE(it:DI)(g:DG)(b:DS):DS:=λU=>(it U).bind λds ZW=>forL g b ds ZW
theorem EK{x}(io:mz c M U H J ds)(a:aY c M U H T' XV H2)(e:ds[i]?=some d)(y:J.qC i H2 x H3):aY c T' XV H2 T' XV H3/\Rep H3 (Av c T' XV) x d:=by
 obtain⟨_,t⟩:=io H2 a.keep;rcases(t i d e).2 x H3 y with⟨e3,r⟩|⟨p,vs,es,hp,e3,ex,ed,r⟩;.subst e3;exact⟨.refl a.ok,Rep.dH r a⟩
 .subst e3 ex ed;have:=bu.oU a.ok (aH.dH r a) hp;exact⟨.alloc a.ok hp _,this⟩
theorem Te{iter it g b}(hp:PassesOwn (model X.prog X.w) X.A X.env X.xe)(hc:X.calm=true)(hi:SI X c tg iter it)(hg:SG X c tg g)(hb:eR X c body b)(hs:∀x,J7 iter X.env x=pure x:=by intro _;rfl):SS X c (.For tg iter body [] pos) (bE it g b):=PS.weak (Co hp hc hi hg hb hs) λD M H⟨U,k,q⟩=>by
 unfold bE eB at q;rw[bp]at q;refine⟨U,k,aT q λds ZW q1 J H1 a1 io=>?_⟩;refine⟨λi m T' H2=>∃XV,m=ds.length-i/\i<=ds.length/\aY c M ZW H1 T' XV H2/\eB c D T' XV H2 (forL g b (ds.drop i) XV),⟨ds.length,ZW,U',QE _,.refl a1.ok,?_⟩,?_⟩;.rw[List.drop_zero];exact aT q1 λfl XV q2 T' H2 a2=>q2 T' H2 (a1.trans a2)
 .rintro i m T' H2⟨XV,rfl,mB,a2,p2⟩;by_cases bc:i<ds.length;.right;have e:ds[i]?=some ds[i]:=#v[bc];rw[J0 bc]at p2;refine⟨((io H2 a2.keep).2 i _ e).1,λT0 H4=>∃UV,aY c M ZW H1 T0 UV H4/\eB c D T0 UV H4 (forL g b (ds.drop (i+1)) UV),λT0 H4⟨UV,a4,p4⟩=>⟨ds.length-(i+1),Y',UV,rfl,bc,a4,p4⟩,λx H3 y=>?_⟩;obtain⟨a3,r3⟩:=EK io a2 e y;simp only[forL,eB]at p2;cases eg:g (.pure ds[i]) XV with|none=>rw[eg]at p2;exact p2.elim|some XL=>rw[eg]at p2;refine⟨T',XV,H3,XV,.pure ds[i],XL,.refl a3.ok,r3,eg,λTW a3'=>?_⟩;have p3:post c ((b XL).bind λfl XV=>match fl with|.next=>forL g b (ds.drop (i+1)) XV|.cont=>forL g b (ds.drop (i+1)) XV|.brk=>.ok .next XV|.ret v=>.ok (.ret v) XV) λfl ZB=>∀M' H',aY c T' XV H2 M' ZB H'->fin c D M' ZB H' fl:=p2;rw[bp]at p3;have Tf:aY c T' XV H2 TW XL H3:=a3.trans a3';refine⟨XL,a3'.ok,aT p3 λfl UV p4 T0 H4 a4=>?_⟩;have iK:=Tf.trans a4;cases fl with|next=>exact⟨UV,a2.trans iK,aT p4 λfl Ty p5 SZ H5 a5=>p5 SZ H5 (iK.trans a5)⟩|cont=>exact⟨UV,a2.trans iK,aT p4 λfl Ty p5 SZ H5 a5=>p5 SZ H5 (iK.trans a5)⟩|brk=>exact p4 T0 H4 iK|ret r=>exact p4 T0 H4 iK
  .left;have nO:i=ds.length:=by lia
   subst nO;rw[List.drop_length]at p2;exact⟨(io H2 a2.keep).1,p2 T' H2 (.refl a2.ok)⟩
def dY(t:DT)(b:DS):Nat->DS|0,_=>.stuck|n+1,U=>(t U).bind λx ZW=>if x then(b ZW).bind λfl XV=>match fl with|.next=>dY t b n XV|.cont=>dY t b n XV|.brk=>.ok .next XV|.ret v=>.ok (.ret v) XV else .ok .next ZW
theorem Tg{t b}(n)(hw:∀{tt:TT}{tb:TS},PT X e tt->dM X body tb->PS X (.While e body [] pos) (Cm tt tb))(ht:ST X c e t)(hb:eR X c body b):SS X c (.While e body [] pos) (dY t b n):=PS.weak (hw ht hb) λD M H⟨U,k,q⟩=>by refine⟨λm T' H2=>∃XV,Ok c T' XV H2/\eB c D T' XV H2 (dY t b m XV),⟨n,U,k,q⟩,?_⟩;rintro m T' H2⟨XV,k2,q2⟩;cases m with|zero=>exact q2.elim|succ m=>simp only[dY,eB]at q2;rw[bp]at q2;refine⟨XV,k2,aT q2 λx XL q3 H3 a3=>?_⟩;cases x with|false=>exact q3 T' H3 a3|true=>have p3:post c ((b XL).bind λfl XV=>match fl with|.next=>dY t b m XV|.cont=>dY t b m XV|.brk=>.ok .next XV|.ret v=>.ok (.ret v) XV) λfl ZB=>∀M' H',aY c T' XV H2 M' ZB H'->fin c D M' ZB H' fl:=q3;rw[bp]at p3;refine⟨λT0 H4=>∃UV,Ok c T0 UV H4/\eB c D T0 UV H4 (dY t b m UV),λT0 H4 w=>⟨m,Nat.lt_succ_self _,w⟩,XL,a3.ok,aT p3 λfl UV p4 T0 H4 a4=>?_⟩;have iK:=a3.trans a4;cases fl with|next=>exact⟨UV,a4.ok,aT p4 λfl Ty p5 SZ H5 a5=>p5 SZ H5 (iK.trans a5)⟩|cont=>exact⟨UV,a4.ok,aT p4 λfl Ty p5 SZ H5 a5=>p5 SZ H5 (iK.trans a5)⟩|brk=>exact p4 T0 H4 iK|ret r=>exact p4 T0 H4 iK
def bx(cs:List Nat)(U:Dl):Dl:=cs.foldl (λU i=>U.set i none) U
def eM(cs:List Nat)(U₁ U:Dl):Dl:=cs.foldl (λU i=>match U₁[i]? with|some o=>U.set i o|none=>U) U
def dP(U:Dl)(i:Nat):Bool:=match U[i]? with|some (some (.own _))=>true|_=>false
theorem EL(cs):∀U:Dl,(bx cs U).length=U.length:=by induction cs with|nil=>intro U;rfl|cons i r ih=>intro U;show(bx r (U.set i none)).length=_;rw[ih];simp
theorem jh:∀cs (U:Dl)i v,(bx cs U)[i]?=some (some v)->U[i]?=some (some v)/\i∉cs:=by intro cs;induction cs with|nil=>intro U i v h;exact⟨h,U'⟩|cons j r ih=>
 intro U i v h;have h':(bx r (U.set j none))[i]?=some (some v):=h;obtain⟨h1,h2⟩:=ih _ i v h';by_cases e:j=i;.subst e;rw[Q8]at h1;simp at h1
 .rw[Wa e]at h1;exact⟨h1,by simp only[Wf,not_or];exact⟨Ne.symm e,h2⟩⟩
theorem k8:∀cs (M:St)i,i∉cs->(bM cs M)[i]?=M[i]?:=by intro cs;induction cs with|nil=>intro M i _;rfl|cons j r ih=>intro M i h;simp only[Wf,not_or]at h;show(bM r (M.set j none))[i]?=_;rw[ih _ _ h.2,Wa (Ne.symm h.1)]
theorem Ti:∀cs (U:Dl)i,i∉cs->(bx cs U)[i]?=U[i]?:=by intro cs;induction cs with|nil=>intro M i _;rfl|cons j r ih=>intro M i h;simp only[Wf,not_or]at h;show(bx r (M.set j none))[i]?=_;rw[ih _ _ h.2,Wa (Ne.symm h.1)]
theorem Tj(cs U₁):∀U:Dl,(eM cs U₁ U).length=U.length:=by induction cs with|nil=>intro U;rfl|cons i r ih=>intro U;unfold eM;rw[U7];have:=ih (match U₁[i]? with|some o=>U.set i o|none=>U);unfold eM at this;rw[this];cases U₁[i]?<;>simp
theorem u_:∀cs (U₁ U:Dl)i,i∉cs->(eM cs U₁ U)[i]?=U[i]?:=by intro cs U₁;induction cs with|nil=>intro U i _;rfl|cons j r ih=>intro U i h;simp only[Wf,not_or]at h;unfold eM;rw[U7];have:=ih (match U₁[j]? with|some o=>U.set j o|none=>U) i h.2;unfold eM at this;rw[this];cases U₁[j]? with|none=>rfl|some o=>simp only;rw[Wa (Ne.symm h.1)]
theorem yA:∀cs (U₁ U:Dl)i,U₁.length=U.length->i∈cs->(eM cs U₁ U)[i]?=U₁[i]?:=by intro cs U₁;induction cs with|nil=>intro U i _ h;simp at h|cons j r ih=>
  intro U i hl h;unfold eM;rw[U7];have k6:U₁.length=(match U₁[j]? with|some o=>U.set j o|none=>U).length:=by cases U₁[j]?<;>simp[hl]
  by_cases hr:i∈r;.have:=ih (match U₁[j]? with|some o=>U.set j o|none=>U) i k6 hr;unfold eM at this;exact this
  .have e:i=j:=by grind
   subst e;have:=u_ r U₁ (match U₁[i]? with|some o=>U.set i o|none=>U) i hr;unfold eM at this;rw[this];cases e:U₁[i]? with|none=>simp only;have:=List.getElem?_eq_none_iff.mp e;exact QA Y'|some o=>simp only;have:=(W9.mp e).1;rw[Wr Y']
section
variable{l:Addr}
theorem Ok.less(k:Ok (c.plus l) M U H):Ok c M U H:=by
 have sub:∀b,Av c M U b->Av (c.plus l) M U b:=λb z=>z.elim (λz=>.inl (.inl z)) .inr;refine⟨k.keep,λa z=>k.bd a (.inl z),k.eJ,k.len,λi d e=>?_,λi d e=>?_,k.inj,k.pinned⟩;.obtain⟨v,h1,h2⟩:=k.slot i d e;exact⟨v,h1,h2.aV λb z=>.inl (sub b z)⟩
 .obtain⟨a,h1,h2,h3,h4⟩:=k.own i d e;exact⟨a,h1,h2.aV λb z=>.inl (sub b z),h3,λz=>h4 (.inl z)⟩
theorem Ok.Tn(k:Ok c M U H)(hb:c.B l)(h0:c.H₀ l=none)(o):Ok c M U (upd H l o):=by
 have kp:∀b w,H b=some w->¬Av c M U b->upd H l o b=some w:=λb w e n=>by rw[aP λz=>n %[z|.inl hb]];exact e
 have ig:∀b w,H b=some w->∃w',upd H l o b=some w':=λb w h=>by
  by_cases hb:b=l;.exact⟨_,%[hb|cD]⟩
  .exact⟨w,%[aP hb|h]⟩
 refine⟨λa w e n=>?_,λa z=>?_,λa z=>?_,k.len,λi d e=>?_,λi d e=>?_,k.inj,k.pinned⟩
 .have:a≠l:=λz=>by grind
  rw[aP this];exact k.keep a w e n
 .obtain⟨w,e⟩:=k.bd a z;exact ig a w e
 .obtain⟨w,e⟩:=k.eJ a z;exact ig a w e
 .obtain⟨v,h1,h2⟩:=k.slot i d e;exact⟨v,h1,h2.keep kp⟩
 .obtain⟨a,h1,h2,h3,h4⟩:=k.own i d e;have:a≠l:=λz=>h4 %[z|hb];exact⟨a,h1,h2.keep kp λw q=>%[aP this|q],h3,h4⟩
theorem Own.bM(h:Own (bM cs M) (bx cs U) l):Own M U l:=by obtain⟨i,d,e1,e2⟩:=h;exact⟨i,d,(jh cs U i _ e1).1,(mj cs M i _ e2).1⟩
theorem Ok.bM(k:Ok c M U H)(hp:∀p∈c.pin,p.1∉cs):Ok c (Lake.bM cs M) (bx cs U) H:=by
 have sub:∀b,Av c (Lake.bM cs M) (bx cs U) b->Av c M U b:=λb z=>z.elim .inl λz=>.inr z.bM;refine⟨k.keep,k.bd,k.eJ,%[EL,uB|k.len],λi d e=>?_,λi d e=>?_,λi j a d d' e1 e2 e3 e4=>?_,λp hm=>?_⟩;.obtain⟨e',hi⟩:=jh cs U i _ e;obtain⟨v,h1,h2⟩:=k.slot i d e';exact⟨v,%[k8 cs M i hi|h1],h2.aV λb z=>.inl (sub b z)⟩
 .obtain⟨e',hi⟩:=jh cs U i _ e;obtain⟨a,h1,h2,h3⟩:=k.own i d e';exact⟨a,%[k8 cs M i hi|h1],h2.aV λb z=>.inl (sub b z),h3⟩
 .exact k.inj i j a d d' (jh cs U i _ e1).1 (jh cs U j _ e2).1 (mj cs M i _ e3).1 (mj cs M j _ e4).1
 .rw[k8 cs M _ (hp p hm)];exact k.pinned p hm
theorem aY.back(k:Ok c₀ M U H)(ji:c.pin=c₀.pin)(hB:∀b,c.B b->c₀.B b\/H b=none)(f6:cs.any (dP U)=false)(x:aY c (Lake.bM cs M) (bx cs U) H (Lake.bM cs M) ZB H'):aY c M U H M (eM cs U ZB) H':=by
 have len:U.length=ZB.length:=by have:=x.ok.len;rw[uB]at this;rw[this];exact k.len
 have fG:∀i d,i∈cs->U[i]?≠some (some (.own d)):=λi d hi e=>by have:=List.any_eq_false.mp f6 i hi;unfold dP at this;rw[e]at this;simp at this
 have ownOut:∀i d,(eM cs U ZB)[i]?=some (some (.own d))->i∉cs/\ZB[i]?=some (some (.own d)):=λi d e=>by
  by_cases hi:i∈cs;.rw[yA cs U ZB i len hi]at e;exact absurd e (fG i d hi)
  .rw[u_ cs U ZB i hi]at e;exact⟨hi,e⟩
 have sub:∀b,Own M (eM cs U ZB) b->Own (Lake.bM cs M) ZB b:=λb⟨i,d,e1,e2⟩=>by obtain⟨hi,e⟩:=ownOut i d e1;exact⟨i,d,e,%[k8 cs M i hi|e2]⟩
 have nQ:∀b,Av c M (eM cs U ZB) b->Av c (Lake.bM cs M) ZB b:=λb z=>z.elim .inl λz=>.inr (sub b z);have ownEq:∀b,Own M U b->Own (Lake.bM cs M) (bx cs U) b:=λb⟨i,d,e1,e2⟩=>by have hi:i∉cs:=λz=>fG i d z e1;exact⟨i,d,%[Ti cs U i hi|e1],%[k8 cs M i hi|e2]⟩
 refine⟨⟨x.ok.keep,x.ok.bd,x.ok.eJ,by rw[Tj,<-len];exact k.len,λi d e=>?_,λi d e=>?_,λi j a d d' e1 e2 e3 e4=>?_,%[ji|k.pinned]⟩,λa o e n=>?_,λa z=>?_,x.there⟩
 .by_cases hi:i∈cs
  .rw[yA cs U ZB i len hi]at e;obtain⟨v,h1,h2⟩:=k.slot i d e;have h3:Rep H (Av c (Lake.bM cs M) (bx cs U)) v d:=h2.aV λb z=>by
    rcases z with z|z;.exact(hB b z).elim (λz=>.inl (.inl z)) .inr
    .exact .inl (.inr z.bM)
   exact⟨v,h1,(Rep.dH h3 x).aV λb z=>.inl (nQ b z)⟩
  .rw[u_ cs U ZB i hi]at e;obtain⟨v,h1,h2⟩:=x.ok.slot i d e;exact⟨v,(mj cs M i v h1).1,h2.aV λb z=>.inl (nQ b z)⟩
 .obtain⟨hi,e'⟩:=ownOut i d e;obtain⟨a,h1,h2,h3⟩:=x.ok.own i d e';exact⟨a,(mj cs M i _ h1).1,h2.aV λb z=>.inl (nQ b z),h3⟩
 .obtain⟨hi,f1⟩:=ownOut i d e1;obtain⟨hj,f2⟩:=ownOut j d' e2;exact x.ok.inj i j a d d' f1 f2 %[k8 cs M i hi|e3] %[k8 cs M j hj|e4]
 .exact x.keep a o e λz=>n z.bM
 .rcases x.own a (sub a z)with q|q;.exact .inl q.bM
  .exact .inr q
end
noncomputable def eS(cs:List Nat)(g:DG)(t:DT)(el:DE):List D->Dl->List D->Rs (List D)|[],U,acc=>.ok acc U|d::r,U,acc=>match g (.pure d) U with|none=>.stuck|some ZW=>(t ZW).bind λb XV=>if b then(el XV).bind λx XL=>if acc.length<Wb then eS cs g t el r (bx cs XL) (acc++[x.d])else .stuck else eS cs g t el r (bx cs XV) acc
def bJ(cs:List Nat)(it:DI)(g:DG)(t:DT)(el:DE):DE:=λU=>(it U).bind λds ZW=>if cs.any (dP ZW)then .stuck else(eS cs g t el ds (bx cs ZW) []).bind λacc XV=>.ok (.own (.lst acc)) (eM cs ZW XV)
def bP:DT:=λU=>.ok true U
abbrev rD(X:Cx)(c:Fc)(ifs:List Expr)(t:DT):Prop:=oS X ifs (tT c t)
theorem To:rD X c [] bP:=λpins s M H Q I⟨U,k,q⟩=>PH pins s M H Q I (q H (.refl k))
theorem Tp{t}(h:ST X c e t):rD X c [e] t:=PJ h
section
variable{iter:Expr}{it:DI}{g:DG}{t:DT}
theorem aY.clear(x:aY c (Lake.bM cs M) U H T0 UV H4)(le:Le (Lake.bM cs M) T0)(hp:∀p∈c.pin,p.1∉cs)(hs:∀i v,T0[i]?=some (some v)->i∉cs->M[i]?=some (some v)):aY c (Lake.bM cs M) U H (Lake.bM cs M) (bx cs UV) H4:=by
 have eq:∀i,i∉cs->∀v,T0[i]?=some (some v)->(Lake.bM cs M)[i]?=some (some v):=λi hi v e=>%[k8 cs M i hi|hs i v e hi];have own:∀b,Own (Lake.bM cs M) (bx cs UV) b->Own T0 UV b:=λb⟨i,d,e1,e2⟩=>by exact⟨i,d,(jh cs UV i _ e1).1,le.2 i _ e2⟩
 have sub:∀b,Av c (Lake.bM cs M) (bx cs UV) b->Av c T0 UV b:=λb z=>z.elim .inl λz=>.inr (own b z);have k:=x.ok;refine⟨⟨k.keep,k.bd,k.eJ,%[EL,k.len|le.1],λi d e=>?_,λi d e=>?_,λi j a d d' e1 e2 e3 e4=>?_,λp hm=>?_⟩,x.keep,λa z=>x.own a (own a z),x.there⟩;.obtain⟨e',hi⟩:=jh cs UV i _ e;obtain⟨v,h1,h2⟩:=k.slot i d e';exact⟨v,eq i hi v h1,h2.aV λb z=>.inl (sub b z)⟩
 .obtain⟨e',hi⟩:=jh cs UV i _ e;obtain⟨a,h1,h2,h3⟩:=k.own i d e';exact⟨a,eq i hi _ h1,h2.aV λb z=>.inl (sub b z),h3⟩
 .exact k.inj i j a d d' (jh cs UV i _ e1).1 (jh cs UV j _ e2).1 (le.2 i _ e3) (le.2 j _ e4)
 .exact eq p.1 (hp p hm) _ (k.pinned p hm)
def Out(cs:List Nat)(M M':St):Prop:=M'.length=M.length/\∀i,i∉cs->M'[i]?=M[i]?
theorem Out.trans(a:Out cs M M')(b:Out cs M' M''):Out cs M M'':=⟨b.1.trans a.1,λi h=>(b.2 i h).trans (a.2 i h)⟩
def va(cs:List Nat)(c:Fc)(g:DG):TG:=λv M H Q=>∃M₀ U₀ H₁ U r ZB,aY c M₀ U₀ H₁ M U H/\bu c M U H₁ H v r/\g r U=some ZB/\∀M',aY c M₀ U₀ H₁ M' ZB H->Out cs M M'->Q M' H
abbrev pq(X:Cx)(c:Fc)(cs:List Nat)(tg:Expr)(g:DG):Prop:=PG X tg (va cs c g)
theorem Tq(hp:Np c np)(hN:X.N.Nodup)(hi:X.N[i]?=some x)(hx:Loc X.env.scope x)(hf:X.fn x=true\/X.env.scope.names.lookup x=some .local)(hc:i∈cs):pq X c cs (.Name x pos) (ag np i):=PG.weak (t8 hN hi hx hf) λv M H Q hh=>by
 obtain⟨M₀,U₀,H₁,U,r,ZB,x,rr,e,q⟩:=hh
 unfold ag at e;split at e;.cases e
 .rename_i hn;cases e;refine q _ (Ok.set x rr λp hm e=>hn (by rw[<-e];exact hp p hm)) ⟨U',λj hj=>?_⟩;rw[Wa λz=>hj (by rw[<-z];exact hc)]
def Tr(cs:List Nat)(c:Fc)(g:jf):l_:=λvs M H Q=>∃U ds ZB,Ok c M U H/\aH H (Av c M U) vs ds/\g ds U=some ZB/\∀M',aY c M U H M' ZB H->Out cs M M'->Q M' H
abbrev rE(X:Cx)(c:Fc)(cs:List Nat)(tg:List Expr)(g:jf):Prop:=iD X tg (Tr cs c g)
theorem Ts:rE X c cs [] cw:=iD.weak xj λvs M H Q hh=>by
 obtain⟨U,ds,ZB,k,r,e,q⟩:=hh
 cases ds with|nil=>
 cases e;have:vs=[]:=by have:=r.1;simpa using this
 exact⟨this,q M (.refl k) ⟨rfl,λ_ _=>rfl⟩⟩|cons d r=>cases e
theorem Tt{g gs}(h1:pq X c cs e g)(h2:rE X c cs es gs)(hs:(QI (e::es) X.env).map (·.2)=assign e X.env::(QI es X.env).map (·.2):=by rfl):rE X c cs (e::es) (a7 g gs):=iD.weak (t_ h1 h2 hs) λvs M H Q hh=>by obtain⟨U,ds,ZB,k,r,e,q⟩:=hh;cases ds with|nil=>cases e|cons d ds=>cases vs with|nil=>have:=r.1;simp at this|cons v vs=>simp only[a7]at e;cases e1:g (.pure d) U with|none=>rw[e1]at e;cases e|some ZW=>rw[e1]at e;refine⟨v,vs,rfl,M,U,H,U,.pure d,ZW,.refl k,r.head,e1,λTm a1 o1=>?_⟩;exact⟨ZW,ds,ZB,a1.ok,aH.dH r.tail a1,e,λT' a2 o2=>q T' (a1.trans a2) (o1.trans o2)⟩
theorem Tu{k gs}(hc:X.calm=true)(h:rE X c cs es gs)(hn:(QI es X.env).length=n:=by rfl)(bV:(QI es X.env).findIdx? (·.1)=none:=by rfl):pq X c cs (.Tuple es k pos) (cj n gs):=PG.weak (xk hc h hn bV) λv M H Q hw=>by
 obtain⟨M₀,U₀,H₁,U,r,ZB,x,rr,e,q⟩:=hw;have hb:=rr.b;unfold cj at e;generalize r.d=d at e hb;cases d<;>first|(cases e;done)|skip
 rename_i ds;simp only at e;split at e;.rename_i hl;obtain⟨a,vs,ea,ha,ra⟩:=hb.tup;exact⟨a,vs,ea,.of ha,%[ra.1|hl],U,ds,ZB,x.ok,ra,e,λM' a1 o1=>q M' (x.trans a1) o1⟩
 .cases e
theorem aY.less(x:aY (c.plus l) M U H M' ZB H'):aY c M U H M' ZB H':=⟨x.ok.less,x.keep,x.own,x.there⟩
theorem EM{Q}(EN:∀M H R,tI c it M H R->wi M H R)(hg:∀l v M H Q,va cs (c.plus l) g v M H Q->gt v M H Q)(ht:∀l M H Q,tT (c.plus l) t M H Q->tt M H Q)(he:∀l M H Q,tD (c.plus l) el M H Q->te M H Q)(hp:∀p∈c.pin,p.1∉cs)(h:tD c (bJ cs it g t el) M H Q):xZ cs wi gt tt te M H Q:=by
 obtain⟨U,k,q⟩:=h;unfold bJ at q;rw[bp]at q;refine EN _ _ _ ⟨U,k,aT q λds ZW q1 J H1 a1 io=>?_⟩;intro l hl;split at q1;.exact q1.elim
 .rename_i f6;have EO:cs.any (dP ZW)=false:=by grind
  rw[bp]at q1;have k1:=a1.ok;have kp:=k1.plus hl (.lst []);have k0:Ok (c.plus l) (Lake.bM cs M) (bx cs ZW) (upd H1 l (.lst [])):=kp.bM hp;have up:∀a w,H1 a=some w->upd H1 l (.lst []) a=some w:=λa w e=>by rw[aP (fF e hl)];exact e
  have h0:c.H₀ l=none:=k1.nC hl;have yB:mz (c.plus l) (Lake.bM cs M) (bx cs ZW) H1 J ds:=by
   intro H2 kp2;obtain⟨s1,s2⟩:=io H2 λa o e n=>kp2 a o e λz=>n z.bM;have cv:∀{x:V}{d:D},Rep H1 (Av c M ZW) x d->Rep H1 (Av (c.plus l) (Lake.bM cs M) (bx cs ZW)) x d:=λ{x d}r=>r.aV λb z=>by
     rcases z with(z|z)|z;.exact .inl (.inl z)
     .exact .inr %[z|hl]
     .exact .inl (.inr z.bM)
   refine⟨s1,λi d e=>⟨(s2 i d e).1,λx H3 y=>?_⟩⟩;rcases(s2 i d e).2 x H3 y with⟨e3,r⟩|⟨p,vs,es,hp,e3,ex,ed,r⟩;.exact .inl ⟨e3,cv r⟩
   .exact .inr ⟨p,vs,es,hp,e3,ex,ed,r.1,λi v d e1 e2=>cv (r.2 i v d e1 e2)⟩
  let Fin:List D->Dl->Prop:=λacc ZB=>∀H' vs,aY (c.plus l) (Lake.bM cs M) (bx cs ZW) H1 (Lake.bM cs M) ZB H'->H' l=some (.lst vs)->aH H' (Av (c.plus l) (Lake.bM cs M) ZB) vs acc->Q (.ref l) H';have q2:post c (eS cs g t el ds (bx cs ZW) []) Fin:=aT q1 λacc XV q2 H' vs x hv r=>by
   have b1:aY (c.plus l) M ZW H1 M (eM cs ZW XV) H':=aY.back k1 rfl (λb z=>z.elim .inl λz=>.inr %[z|hl]) EO x;have b2:aY c M ZW H1 M (eM cs ZW XV) H':=b1.less;have len:ZW.length=XV.length:=by have:=x.ok.len;rw[uB]at this;rw[this];exact k1.len
   have Tv:H l=none:=by cases e:H l with|none=>rfl|some o=>obtain⟨o',e'⟩:=a1.there l o e;grind
   refine q2 _ H' (a1.trans b2) ⟨l,rfl,⟨vs,hv,aH.aV r λb z=>.inl ?_⟩,λz=>k1.jc hl (.inl z),h0,b1.ok,Tv⟩;rcases z with z|⟨i,d,e1,e2⟩;.exact .inl z
   .have hi:i∉cs:=λhi=>by rw[yA cs ZW XV i len hi]at e1;have:=List.any_eq_false.mp EO i hi;unfold dP at this;rw[e1]at this;simp at this
    rw[u_ cs ZW XV i hi]at e1;exact .inr ⟨i,d,e1,%[k8 cs M i hi|e2]⟩
  refine⟨λi m H2=>∃XV acc vs,m=ds.length-i/\i<=ds.length/\aY (c.plus l) (Lake.bM cs M) (bx cs ZW) H1 (Lake.bM cs M) XV H2/\H2 l=some (.lst vs)/\aH H2 (Av (c.plus l) (Lake.bM cs M) XV) vs acc/\post c (eS cs g t el (ds.drop i) XV acc) Fin,⟨ds.length,bx cs ZW,[],[],U',QE _,⟨k0,λa w e _=>up a w e,λa z=>.inl z,λa w e=>⟨w,up a w e⟩⟩,cD,.nil,%[List.drop_zero|q2]⟩,?_⟩;rintro i m H2⟨XV,acc,vs,rfl,mB,a2,hv,rv,p2⟩;by_cases bc:i<ds.length;.right;have e:ds[i]?=some ds[i]:=#v[bc];rw[J0 bc]at p2;refine⟨((yB H2 a2.keep).2 i _ e).1,λx H3 y=>hg l _ _ _ _ ?_⟩;obtain⟨a3,r3⟩:=EK yB a2 e y;simp only[eS]at p2;cases eg:g (.pure ds[i]) XV with|none=>rw[eg]at p2;exact p2.elim|some XL=>
    rw[eg]at p2;have p3:post c ((t XL).bind λb XV=>if b then(el XV).bind λx XL=>if acc.length<Wb then eS cs g t el (ds.drop (i+1)) (bx cs XL) (acc++[x.d])else .stuck else eS cs g t el (ds.drop (i+1)) (bx cs XV) acc) Fin:=p2;refine⟨Lake.bM cs M,XV,H3,XV,.pure ds[i],XL,.refl a3.ok,r3,eg,λT0 a4 o4=>?_⟩;have le:Le (Lake.bM cs M) T0:=⟨o4.1,λj v ej=>by rw[o4.2 j (mj cs M j v ej).2];exact ej⟩;have hs:∀(j:Nat)v,T0[j]?=some (some v)->j∉cs->M[j]?=some (some v):=λj v ej hj=>by rw[o4.2 j hj]at ej;exact(mj cs M j v ej).1
    refine⟨le,ht l _ _ _ ⟨XL,a4.ok,?_⟩⟩;rw[bp]at p3;have ER:∀p∈(c.plus l).pin,p.1∉cs:=hp;have iK:=a2.trans (a3.trans a4);have ln:∀{M':St}{ZB:Dl}{H':Hp},Ok (c.plus l) M' ZB H'->¬Own M' ZB l:=λ{M' ZB H'}k=>uJ k;have Tw:post (c.plus l) (t XL) λb Ty=>post c (if b then(el Ty).bind λx XL=>if acc.length<Wb then eS cs g t el (ds.drop (i+1)) (bx cs XL) (acc++[x.d])else .stuck else eS cs g t el (ds.drop (i+1)) (bx cs Ty) acc) Fin:=p3;refine aT Tw λb Ty p5 H5 a5=>?_;have ES:=iK.trans a5;have Tz:H3 l=some (.lst vs):=a3.keep l _ hv (ln a2.ok);have ET:H5 l=some (.lst vs):=a5.keep l _ Tz (ln a4.ok);have EU:=aH.dH (aH.dH (aH.dH rv a3) a4) a5;cases b with|false=>have c5:=ES.clear le ER hs;refine⟨ds.length-(i+1),Y',bx cs Ty,acc,vs,rfl,bc,c5,ET,aH.aV EU λb z=>.inl ?_,p5⟩;exact z.elim .inl λ⟨j,d,e1,e2⟩=>.inr ⟨j,d,(jh cs Ty j _ e1).1,le.2 j _ e2⟩|true=>
     have EV:post c ((el Ty).bind λx XL=>if acc.length<Wb then eS cs g t el (ds.drop (i+1)) (bx cs XL) (acc++[x.d])else .stuck) Fin:=p5;rw[bp]at EV;refine he l _ _ _ ⟨Ty,a5.ok,?_⟩;have p6:post (c.plus l) (el Ty) λx Tk=>post c (if acc.length<Wb then eS cs g t el (ds.drop (i+1)) (bx cs Tk) (acc++[x.d])else .stuck) Fin:=EV;refine aT p6 λx Tk p7 v H6 a6 r6=>?_;split at p7
     .rename_i hz;have TB:=ES.trans a6;have TC:H6 l=some (.lst vs):=a6.keep l _ ET (ln a5.ok);have EW:=aH.dH EU a6;have rr:aH H6 (Av (c.plus l) T0 Tk) (vs++[v]) (acc++[x.d]):=EW.append (.cons r6.rep .nil);have c6:=TB.clear le ER hs;have vb:∀b o,H6 b=some o->¬Av (c.plus l) T0 Tk b->upd H6 l (.lst (vs++[v])) b=some o:=λb o e n=>by rw[aP λz=>n %[z|.inl (.inr rfl)]];exact e
      have TF:∀b,Av (c.plus l) (Lake.bM cs M) (bx cs Tk) b->Av (c.plus l) T0 Tk b:=λb z=>z.elim .inl λ⟨j,d,e1,e2⟩=>.inr ⟨j,d,(jh cs Tk j _ e1).1,le.2 j _ e2⟩;refine⟨vs,ds.length-(i+1),TC,%[EW.1|hz],Y',bx cs Tk,acc++[x.d],vs++[v],rfl,bc,?_,cD,aH.aV (aH.keep rr vb) λb z=>.inl (TF b z),p7⟩;refine⟨c6.ok.Tn (.inr rfl) h0 _,λa o ea n=>?_,λa z=>c6.own a z,λa o ea=>?_⟩
      .have yC:a≠l:=λz=>by grind
       rw[aP yC];exact c6.keep a o ea n
      .by_cases yC:a=l;.grind
       .obtain⟨o',e'⟩:=c6.there a o ea;exact⟨o',%[aP yC|e']⟩
     .exact p7.elim
  .left;have nO:i=ds.length:=by lia
   subst nO;rw[List.drop_length]at p2;exact⟨(yB H2 a2.keep).1,p2 H2 vs a2 hv rv⟩
theorem TJ(hc:X.calm=true)(S:nv X scope cs)(hi:SI X c tg iter it)(hg:∀l s₀ H₀ ex,pq (fH X scope s₀ H₀ ex) (c.plus l) cs tg g)(ht:∀l s₀ H₀ ex,rD (fH X scope s₀ H₀ ex) (c.plus l) ifs t)(he:∀l s₀ H₀ ex,SE (fH X scope s₀ H₀ ex) (c.plus l) elt el)(hp:∀p∈c.pin,p.1∉cs)(hs:∀x,J7 iter X.env x=pure x:=by intro _;rfl):SE X c (.ListComp elt [⟨tg,iter,ifs,0⟩] scope pos) (bJ cs it g t el):=PE.weak (PX (g:=λv M H Q=>∃l,va cs (c.plus l) g v M H Q) (tt:=λM H Q=>∃l,tT (c.plus l) t M H Q) (te:=λM H Q=>∃l,tD (c.plus l) el M H Q) hc S hi (λs₀ H₀ ex pins s M H v u Q I r⟨l,q⟩=>hg l s₀ H₀ ex pins s M H v u Q I r q) (λs₀ H₀ ex pins s M H Q I⟨l,q⟩=>ht l s₀ H₀ ex pins s M H Q I q) (λs₀ H₀ ex pins s M H Q I⟨l,q⟩=>he l s₀ H₀ ex pins s M H Q I q) hs) λM H Q h=>EM (λ_ _ _ h=>h) (λl _ _ _ _ h=>⟨l,h⟩) (λl _ _ _ h=>⟨l,h⟩) (λl _ _ _ h=>⟨l,h⟩) hp h
theorem TK{y}{uG:Pos}(dm:Np c np)(hc:X.calm=true)(S:nv X scope cs)(hN:X.N.Nodup)(gL:X.N[i]?=some y)(hy:X.env.scope.names.lookup y=some .local)(hi:SI X c tg iter it)(hg:∀l s₀ H₀ ex,pq (fH X scope s₀ H₀ ex) (c.plus l) cs tg g)(ht:∀l s₀ H₀ ex,rD (fH X scope s₀ H₀ ex) (c.plus l) ifs t)(he:∀l s₀ H₀ ex,SE (fH X scope s₀ H₀ ex) (c.plus l) elt el)(hp:∀p∈c.pin,p.1∉cs)(qR:J9 (.ListComp elt [⟨tg,iter,ifs,0⟩] scope pos) (some (.Name y py)) uG.line X.env=pure true:=by rfl)(hs:∀x,J7 iter X.env x=pure x:=by intro _;rfl):SS X c (.Assign [.Name y py] (.ListComp elt [⟨tg,iter,ifs,0⟩] scope pos) uG) (ax (bJ cs it g t el) (ag np i)):=PS.weak (PY (g:=λv M H Q=>∃l,va cs (c.plus l) g v M H Q) (tt:=λM H Q=>∃l,tT (c.plus l) t M H Q) (te:=λM H Q=>∃l,tD (c.plus l) el M H Q) hc S hN gL hy hi (λs₀ H₀ ex pins s M H v u Q I r⟨l,q⟩=>hg l s₀ H₀ ex pins s M H v u Q I r q) (λs₀ H₀ ex pins s M H Q I⟨l,q⟩=>ht l s₀ H₀ ex pins s M H Q I q) (λs₀ H₀ ex pins s M H Q I⟨l,q⟩=>he l s₀ H₀ ex pins s M H Q I q) qR hs) λD M H h=>yz (λM H Q h=>EM (λ_ _ _ h=>h) (λl _ _ _ _ h=>⟨l,h⟩) (λl _ _ _ h=>⟨l,h⟩) (λl _ _ _ h=>⟨l,h⟩) hp h) (λ_ _ _ _ h=>yy dm h) h
end
abbrev DF:=List S->Option (S×List S)
variable{G:DF}
def cW:Nat->List S->List V->List (Nat×Addr)|n,.own _::ss,.ref a::vs=>(n,a)::cW (n+1) ss vs|n,_::ss,_::vs=>cW (n+1) ss vs|_,_,_=>[]
theorem nR:∀{n:Nat}{ss:List S}{vs:List V}{i:Nat}{a:Addr},(i,a)∈cW n ss vs->∃j d,i=n+j/\ss[j]?=some (.own d)/\vs[j]?=some (.ref a)
 |n,[],vs,i,a,h=>by simp[cW]at h|n,s::ss,[],i,a,h=>by cases s<;>simp[cW]at h|n,s::ss,v::vs,i,a,h=>by
  have yD:(i,a)∈cW (n+1) ss vs->∃j d,i=n+j/\(s::ss)[j]?=some (.own d)/\(v::vs)[j]?=some (.ref a):=λh=>by obtain⟨j,d,e,h1,h2⟩:=nR h;exact⟨j+1,d,Y',~~~h1,~~~h2⟩
  cases s with|pure d=>exact yD h|own d=>
 cases v with|ref b=>
    rcases Wf.mp h with e|h;.cases e;exact⟨0,d,rfl,rfl,rfl⟩
    .exact yD h|_=>exact yD h
theorem vc:∀{n:Nat}{ss:List S}{vs:List V}{j:Nat}{d:D}{a:Addr},ss[j]?=some (.own d)->vs[j]?=some (.ref a)->(n+j,a)∈cW n ss vs
 |n,[],vs,j,d,a,h,_=>by simp at h|n,s::ss,[],j,d,a,_,h=>by simp at h|n,s::ss,v::vs,0,d,a,h1,h2=>by simp at h1 h2;subst h1 h2;exact Wx|n,s::ss,v::vs,j+1,d,a,h1,h2=>by
  have ih:=vc (n:=n+1) (ss:=ss) (vs:=vs) (j:=j) (d:=d) (a:=a) (~~~h1) (~~~h2);have e:n+1+j=n+(j+1):=by lia
  rw[e]at ih;cases s with|pure d=>exact ih|own d=>cases v with|ref b=>exact Wn _ ih|_=>exact ih
abbrev cy(vs:List V):St:=vs.map some
abbrev cA(ss:List S):Dl:=ss.map some
theorem fA{r}:(cA ss)[i]?=some (some r)↔ss[i]?=some r:=by rw[Wo];cases ss[i]?<;>simp
theorem fL{v}:(cy vs)[i]?=some (some v)↔vs[i]?=some v:=by rw[Wo];cases vs[i]?<;>simp
def vd(n:Nat)(G:DF):Sp:=λvs H Q _=>∃ss B,vs.length=n/\Ok ⟨H,B,cW 0 ss vs,λ_ _=>False⟩ (cy vs) (cA ss) H/\∃r a_,G ss=some (r,a_)/\∀v H',aY ⟨H,B,cW 0 ss vs,λ_ _=>False⟩ (cy vs) (cA ss) H (cy vs) (cA a_) H'->bu ⟨H,B,cW 0 ss vs,λ_ _=>False⟩ (cy vs) (cA a_) H H' v r->Q v H'
def bj(P:Wm)(w:Wv)(K:W5)(mg:Str->Option Value)(base:Heap)(k:Nat)(x:Str)(n:Nat)(G:DF):Prop:=∃(f:Addr)(fd:Qi)(ps:List Str),mg x=some (.ref f)/\Jz K (.ref f)=true/\Binds K fd ps []/\i_ P w K mg base dS k f fd ps (vd n G)
def bY(n:Nat)(ss:List S):Dl:=cA ss++WG (n-ss.length) none
def da:Nat->List S->Dl->Option (List S)|_,[],_=>some []|n,.pure d::ss,U=>(da (n+1) ss U).map (.pure d::.)|n,.own _::ss,U=>match U[n]? with|some (some (.own d'))=>(da (n+1) ss U).map (.own d'::.)|_=>none
noncomputable def e_:Fl->Option S|.next=>some (.pure .aJ)|.ret r=>some r|_=>none
def fB(f:DS)(n:Nat)(ss:List S):Option (S×List S):=match f (bY n ss)with|.ok fl U=>(e_ fl).bind λr=>(da 0 ss U).map λa_=>(r,a_)|_=>none
def eC(np:List Nat):Nat->List S->Bool|_,[]=>true|n,.own _::ss=>np.contains n&&eC np (n+1) ss|n,.pure _::ss=>eC np (n+1) ss
theorem yE:∀{n:Nat}{ss:List S}{j:Nat}{d:D},eC np n ss=true->ss[j]?=some (.own d)->np.contains (n+j)=true
 |n,[],j,d,_,h=>by simp at h|n,s::ss,0,d,h,e=>by simp at e;subst e;simp only[eC,Wy]at h;exact h.1|n,s::ss,j+1,d,h,e=>by
  have h':eC np (n+1) ss=true:=by cases s with|pure d=>exact h|own d=>simp only[eC,Wy]at h;exact h.2
  have:=yE (n:=n+1) (j:=j) h' (~~~e);rw[show n+(j+1)=n+1+j by lia];exact this
theorem ve:∀{n:Nat}{ss a_:List S}{U:Dl},da n ss U=some a_->a_.length=ss.length/\∀i s,ss[i]?=some s->(∃d,s=.pure d/\a_[i]?=some (.pure d))\/∃d d',s=.own d/\U[n+i]?=some (some (.own d'))/\a_[i]?=some (.own d')
 |n,[],a_,U,h=>by simp only[da,Wd]at h;subst h;exact⟨rfl,λi s e=>by simp at e⟩|n,.pure d::ss,a_,U,h=>by simp only[da]at h;cases e:da (n+1) ss U with|none=>rw[e]at h;cases h|some os=>rw[e]at h;simp only[WX,Wd]at h;subst h;obtain⟨h1,h2⟩:=ve e;refine⟨#v[h1],λi s es=>?_⟩;cases i with|zero=>simp at es;subst es;exact .inl ⟨d,rfl,rfl⟩|succ i=>
    rcases h2 i s (~~~es)with⟨d,z1,z2⟩|⟨d,d',z1,z2,z3⟩;.exact .inl ⟨d,z1,~~~z2⟩
    .exact .inr ⟨d,d',z1,%[show n+(i+1)=n+1+i by lia|z2],~~~z3⟩
 |n,.own d::ss,a_,U,h=>by
  simp only[da]at h;split at h;.rename_i d' ed;cases e:da (n+1) ss U with|none=>rw[e]at h;cases h|some os=>rw[e]at h;simp only[WX,Wd]at h;subst h;obtain⟨h1,h2⟩:=ve e;refine⟨#v[h1],λi s es=>?_⟩;cases i with|zero=>simp at es;subst es;exact .inr ⟨d,d',rfl,ed,rfl⟩|succ i=>
     rcases h2 i s (~~~es)with⟨d,z1,z2⟩|⟨d,d',z1,z2,z3⟩;.exact .inl ⟨d,z1,~~~z2⟩
     .exact .inr ⟨d,d',z1,%[show n+(i+1)=n+1+i by lia|z2],~~~z3⟩
  .cases h
section
variable{a_:List S}
theorem mD{α:Type}{l:List (Option α)}{k}{v:α}(h:(l++WG k none)[i]?=some (some v)):l[i]?=some (some v):=by
 by_cases hi:i<l.length;.rw[Qn hi]at h;exact h
 .rw[Jo Y',List.getElem?_replicate]at h;split at h<;>cases h
theorem k9{α:Type}{l:List (Option α)}{k}{v:α}(h:l[i]?=some (some v)):(l++WG k none)[i]?=some (some v):=by have hi:i<l.length:=(W9.mp h).1;rw[Qn hi];exact h
theorem Own.ext{k a}:Own (M++WG k none) (U++WG k none) a↔Own M U a:=⟨λ⟨i,d,e1,e2⟩=>⟨i,d,mD e1,mD e2⟩,λ⟨i,d,e1,e2⟩=>⟨i,d,k9 e1,k9 e2⟩⟩
theorem Ok.ext(k:Ok c M U H)(n):Ok c (M++WG n none) (U++WG n none) H:=by
 have sub:∀b,Av c (M++WG n none) (U++WG n none) b->Av c M U b:=λb z=>z.elim .inl λz=>.inr (Own.ext.mp z);refine⟨k.keep,k.bd,k.eJ,#v[k.len],λi d e=>?_,λi d e=>?_,λi j a d d' e1 e2 e3 e4=>k.inj i j a d d' (mD e1) (mD e2) (mD e3) (mD e4),λp hm=>k9 (k.pinned p hm)⟩;.obtain⟨v,h1,h2⟩:=k.slot i d (mD e);exact⟨v,k9 h1,h2.aV λb z=>.inl (sub b z)⟩
 .obtain⟨a,h1,h2,h3⟩:=k.own i d (mD e);exact⟨a,k9 h1,h2.aV λb z=>.inl (sub b z),h3⟩
theorem pw(hc:c=⟨H,B,cW 0 ss vs,λ_ _=>False⟩)(k:Ok c (cy vs) (cA ss) H)(x:aY c (cy vs++WG n none) (cA ss++WG n none) H M' ZB H')(ho:da 0 ss ZB=some a_):aY c (cy vs) (cA ss) H (cy vs) (cA a_) H'/\∀v r,bu c M' ZB H H' v r->bu c (cy vs) (cA a_) H H' v r:=by
 obtain⟨hlen,hat⟩:=ve ho;have jO:ss.length=vs.length:=by have:=k.len;simpa using this
 have pin:∀(i:Nat)(a:Addr)(d:D),ss[i]?=some (.own d)->vs[i]?=some (.ref a)->M'[i]?=some (some (.ref a)):=λi a d h1 h2=>by have:=vc (n:=0) h1 h2;rw[Qs]at this;exact x.ok.pinned (i,a) %[hc|this]
 have vf:∀(i:Nat)(d:D),a_[i]?=some (.own d)->(∃d₀,ss[i]?=some (.own d₀))/\ZB[i]?=some (some (.own d)):=λi d e=>by
  have hi:i<ss.length:=by rw[<-hlen];exact(W9.mp e).1
  rcases hat i ss[i] #v[hi]with⟨d₁,z1,z2⟩|⟨d₁,d',z1,z2,z3⟩;all_goals grind
 have sub:∀b,Own (cy vs) (cA a_) b->Own M' ZB b:=λb⟨i,d,e1,e2⟩=>by obtain⟨⟨d₀,h0⟩,h1⟩:=vf i d (fA.mp e1);exact⟨i,d,h1,pin i b d₀ h0 (fL.mp e2)⟩
 have nQ:∀b,Av c (cy vs) (cA a_) b->Av c M' ZB b:=λb z=>z.elim .inl λz=>.inr (sub b z);have EX:∀{c':Fc},c'.pin=c.pin->Ok c' M' ZB H'->(∀b,c.B b->c'.B b)->(∀(i:Nat)d v,ss[i]?=some (.pure d)->vs[i]?=some v->Rep H' (Av c' M' ZB) v d)->Ok c' (cy vs) (cA a_) H':=λ{c'}ep k' hB hsl=>by
  have EY:∀b,Av c' (cy vs) (cA a_) b->Av c' M' ZB b:=λb z=>z.elim .inl λz=>.inr (sub b z);refine⟨k'.keep,k'.bd,k'.eJ,#v[hlen,jO],λi d e=>?_,λi d e=>?_,λi j a d d' e1 e2 e3 e4=>?_,λp hm=>?_⟩
  .have e':=fA.mp e;have hi:i<ss.length:=by rw[<-hlen];exact(W9.mp e').1
   have hv:i<vs.length:=by lia
   rcases hat i ss[i] #v[hi]with⟨d₁,z1,z2⟩|⟨d₁,d',z1,z2,z3⟩;.rw[e']at z2;cases z2;exact⟨vs[i],#v[hv],(hsl i d vs[i] (by rw[W8 hi,z1]) #v[hv]).aV λb z=>.inl (EY b z)⟩
   grind
  .have e':=fA.mp e;obtain⟨⟨d₀,h0⟩,h1⟩:=vf i d e';obtain⟨a₀,h2,_⟩:=k.own i d₀ (fA.mpr h0);obtain⟨a,h3,h4,h5⟩:=k'.own i d h1;rw[pin i a₀ d₀ h0 (fL.mp h2)]at h3;cases h3;exact⟨a₀,h2,h4.aV λb z=>.inl (EY b z),h5⟩
  .obtain⟨⟨d₀,h0⟩,h1⟩:=vf i d (fA.mp e1);obtain⟨⟨d₁,h2⟩,h3⟩:=vf j d' (fA.mp e2);exact k'.inj i j a d d' h1 h3 (pin i a d₀ h0 (fL.mp e3)) (pin j a d₁ h2 (fL.mp e4))
  .exact k.pinned p (by rw[<-ep];exact hm)
 have slots:∀(i:Nat)d v,ss[i]?=some (.pure d)->vs[i]?=some v->Rep H' (Av c M' ZB) v d:=λi d v h1 h2=>by obtain⟨w,e1,r⟩:=(k.ext n).slot i d (k9 (fA.mpr h1));rw[k9 (fL.mpr h2)]at e1;cases e1;exact Rep.dH r x
 refine⟨⟨EX rfl x.ok (λ_ z=>z) slots,λa o e m=>x.keep a o e λz=>m (Own.ext.mp z),λa z=>(x.own a (sub a z)).elim (λz=>.inl (Own.ext.mp z)) .inr,x.there⟩,λv r hr=>?_⟩;cases r with|pure d=>exact Rep.aV hr λb z=>.inl (nQ b z)|own d=>
  obtain⟨a,ea,o,nb,h0,kp,hs⟩:=hr;refine⟨a,ea,o.aV λb z=>.inl (z.elim .inl λz=>.inr (sub b z)),nb,h0,EX rfl kp (λ_ z=>.inl z) λi d v h1 h2=>?_,hs⟩;obtain⟨w,e1,r⟩:=(k.ext n).slot i d (k9 (fA.mpr h1));rw[k9 (fL.mpr h2)]at e1;cases e1;have px:H a=none:=hs;have r1:Rep H (Av c (cy vs++WG n none) (cA ss++WG n none)) v d:=r;have r2:Rep H (λb=>Av c (cy vs++WG n none) (cA ss++WG n none) b\/Av (c.plus a) M' ZB b) v d:=r1.aV λb z=>by
   rcases z with z|(z|z)|z;.exact .inl z
   .exact .inl (.inl z)
   .exact .inr %[z|px]
   .rcases x.own b z with q|q;.exact .inl (.inr q)
    .exact .inr q
  exact(r2.keep λb o e m=>x.keep b o e λz=>m (.inl (.inr z))).aV λb z=>.inl (.inr z)
end
theorem TM{st f k fb}(F:dU K x qual st f fd)(S:fY N ps (bK st))(dR:∀c aW (A:Wt)outer (s:W4)H E,cP k (A.deeper (Jt qual (bK st) s.heap.objs.size f aW))->Np c np->eR (fZ dS P w K mg base N qual (bK st) f aW A outer s H E).fW c (d_ st) fb)(hG:∀ss y,G ss=some y->eC np 0 ss=true/\fB fb N.length ss=some y):i_ P w K mg base dS (k+1) f fd ps (vd ps.length G):=by
 refine F.ok S (λvs H Q E h=>?_) λaW A outer s H vs Q E hr h=>?_;.obtain⟨ss,B,hl,_⟩:=h;exact hl
 .obtain⟨ss,B,hl,ok,r,a_,hg,q⟩:=h;obtain⟨gA,hrun⟩:=hG ss _ hg;have jO:ss.length=vs.length:=by have:=ok.len;simpa using this
  have yF:Np ⟨H,B,cW 0 ss vs,λ_ _=>False⟩ np:=λp hp=>by obtain⟨j,d,e,h1,_⟩:=nR (i:=p.1) (a:=p.2) hp;rw[e];exact yE gA h1
  refine⟨nM ⟨H,B,cW 0 ss vs,λ_ _=>False⟩ fb,dR ⟨H,B,cW 0 ss vs,λ_ _=>False⟩ aW A outer s H E hr yF,?_⟩;have bV:gn N vs=cy vs++WG (N.length-ss.length) none:=by rw[jO];rfl
  refine⟨bY N.length ss,%[bV|ok.ext _],?_⟩;unfold fB at hrun;unfold eB;cases e:fb (bY N.length ss)with|exc x S'=>rw[e]at hrun;cases hrun|stuck=>rw[e]at hrun;cases hrun|ok fl ZB=>rw[e]at hrun;show∀M' H',aY _ (gn N vs) (bY N.length ss) H M' ZB H'->fin _ _ M' ZB H' fl;intro M' H' a;rw[bV]at a;simp only at hrun;cases fl with
 |brk=>cases hrun|cont=>cases hrun|next=>simp only[e_,Q3]at hrun;cases eo:da 0 ss ZB with|none=>rw[eo]at hrun;cases hrun|some os=>rw[eo]at hrun;cases hrun;obtain⟨l1,l2⟩:=pw rfl ok a eo;exact q .aJ H' l1 .aJ
 |ret r'=>simp only[e_,Q3]at hrun;cases eo:da 0 ss ZB with|none=>rw[eo]at hrun;cases hrun|some os=>rw[eo]at hrun;cases hrun;obtain⟨l1,l2⟩:=pw rfl ok a eo;exactλv rv=>q v H' l1 (l2 v _ rv)
theorem yG{st f k fb}(F:dU K x qual st f fd)(hm:mg x=some (.ref f))(hb:Binds K fd ps [])(S:fY N ps (bK st))(dR:∀c aW (A:Wt)outer (s:W4)H E,cP k (A.deeper (Jt qual (bK st) s.heap.objs.size f aW))->Np c np->eR (fZ dS P w K mg base N qual (bK st) f aW A outer s H E).fW c (d_ st) fb)(hG:∀ss y,G ss=some y->eC np 0 ss=true/\fB fb N.length ss=some y):bj P w K mg base (k+1) x ps.length G:=⟨f,fd,ps,hm,F.kp,hb,TM F S dR hG⟩
inductive Ak where|val(f:DE)|io(i:Nat)
variable{as:List Ak}
def cV:List Ak->Dl->Rs (List (Option D))|[],U=>.ok [] U|.val f::r,U=>(f U).bind λx ZW=>(cV r ZW).bind λxs XV=>.ok (some x.d::xs) XV|.io _::r,U=>(cV r U).bind λxs XV=>.ok (none::xs) XV
inductive km(c:Fc)(M:St)(U:Dl)(H:Hp):List V->List Ak->List (Option D)->Prop|nil:km c M U H [] [] []|val{v:V}{d:D}{f:DE}{vs:List V}{as:List Ak}{ds:List (Option D)}:Rep H (Av c M U) v d->km c M U H vs as ds->km c M U H (v::vs) (.val f::as) (some d::ds)|io{v:V}{i:Nat}{vs:List V}{as:List Ak}{ds:List (Option D)}:M[i]?=some (some v)->km c M U H vs as ds->km c M U H (v::vs) (.io i::as) (none::ds)
def tX(c:Fc)(as:List Ak):TA:=λM H Q=>∃U,Ok c M U H/\(∀i,Ak.io i∈as->∃v,M[i]?=some (some v))/\post c (cV as U) λds ZB=>∀vs H',aY c M U H M ZB H'->km c M ZB H' vs as ds->Q vs H'
abbrev SX(X:Cx)(c:Fc)(es:List Expr)(as:List Ak):Prop:=PA X es (tX c as)
theorem TN:SX X c [] []:=PA.weak gJ λM H Q⟨U,k,_,q⟩=>q [] H (.refl k) .nil
theorem TQ(ha:SE X c e fe)(hr:SX X c es as)(hs:We (e::es) X.env=(false,eval e X.env)::We es X.env:=by rfl):SX X c (e::es) (.val fe::as):=PA.weak (fq ha hr hs) λM H Q⟨U,k,gA,q⟩=>by unfold cV at q;rw[bp]at q;refine⟨U,k,aT q λx ZW q1 v H1 a1 r1=>⟨ZW,a1.ok,λi hi=>gA i (Wn _ hi),?_⟩⟩;rw[bp]at q1;exact aT q1 λxs XV q2 vs H2 a2 r2=>q2 (v::vs) H2 (a1.trans a2) (.val (Rep.dH r1.rep a2) r2)
theorem TR(ha:PE X e (dq i))(hr:SX X c es as)(hs:We (e::es) X.env=(false,eval e X.env)::We es X.env:=by rfl):SX X c (e::es) (.io i::as):=PA.weak (fq ha hr hs) λM H Q⟨U,k,gA,q⟩=>by obtain⟨v,ev⟩:=gA i Wx;unfold cV at q;rw[bp]at q;exact⟨v,ev,U,k,λi hi=>gA i (Wn _ hi),aT q λxs XV q2 vs H2 a2 r2=>q2 (v::vs) H2 a2 (.io ev r2)⟩
def cH:List Ak->List (Option D)->Dl->Option (List S)
 |[],[],_=>some []|.val _::as,some d::ds,U=>(cH as ds U).map (.pure d::.)|.io i::as,none::ds,U=>match U[i]? with|some (some (.own d))=>(cH as ds U).map (.own d::.)|_=>none
 |_,_,_=>none
def bW:List Ak->List Nat|[]=>[]|.val _::as=>bW as|.io i::as=>i::bW as
def bH:List Ak->List S->Dl->Dl|.io i::as,r::rs,U=>bH as rs (U.set i (some r))|.val _::as,_::rs,U=>bH as rs U|_,_,U=>U
def dC:List Nat->Bool|[]=>true|i::r=>!r.contains i&&dC r
def aF(G:DF)(as:List Ak):DE:=λU=>if(bW as).all (dP U)&&dC (bW as)then(cV as U).bind λds ZW=>match cH as ds ZW with|none=>.stuck|some ss=>match G ss with|none=>.stuck|some (r,a_)=>.ok r (bH as a_ ZW)else .stuck
theorem EZ:∀{l:List Nat},dC l=true->l.Nodup|[],_=>.nil|i::r,h=>by simp only[dC,Wy,Bool.not_eq_true']at h;exact WW.mpr ⟨λhm=>by have:=h.1;simp at this;exact this hm,EZ h.2⟩
theorem nS:∀{as:List Ak}{i:Nat},i∈bW as↔Ak.io i∈as|[],i=>#v[bW]|.val f::as,i=>#v[bW,nS (as:=as)]|.io j::as,i=>#v[bW,nS (as:=as)]
theorem yH:∀{as:List Ak}{i j k:Nat},(bW as).Nodup->as[j]?=some (.io i)->as[k]?=some (.io i)->j=k
 |[],i,j,k,_,h,_=>by simp at h|.val f::as,i,j,k,nd,h1,h2=>by cases j with|zero=>simp at h1|succ j=>cases k with|zero=>simp at h2|succ k=>exact congrArg (.+1) (yH (as:=as) nd (~~~h1) (~~~h2))
 |.io n::as,i,j,k,nd,h1,h2=>by have hU:=WW.mp nd;cases j with|zero=>grind[nS]|succ j=>cases k with|zero=>grind[nS]|succ k=>exact congrArg (.+1) (yH (as:=as) hU.2 (~~~h1) (~~~h2))
section
variable{ds:List (Option D)}
theorem yI(h:km c M U H vs as ds):∀{ss:List S},cH as ds U=some ss->ss.length=vs.length/\as.length=vs.length/\∀(j:Nat)s v,ss[j]?=some s->vs[j]?=some v->(∃d f,s=.pure d/\as[j]?=some (.val f)/\Rep H (Av c M U) v d)\/∃d i,s=.own d/\as[j]?=some (.io i)/\M[i]?=some (some v)/\U[i]?=some (some (.own d)):=by induction h with
 |nil=>intro ss h;simp only[cH,Wd]at h;subst h;exact⟨rfl,rfl,λj s v e _=>by simp at e⟩|@val v d f vs as ds r _ ih=>intro ss h;simp only[cH]at h;cases e:cH as ds U with|none=>rw[e]at h;cases h|some rs=>rw[e]at h;simp only[WX,Wd]at h;subst h;obtain⟨h1,h2,h3⟩:=ih e;refine⟨#v[h1],#v[h2],λj s v' e1 e2=>?_⟩;cases j with|zero=>simp at e1 e2;subst e1 e2;exact .inl ⟨d,f,rfl,rfl,r⟩|succ j=>simpa using h3 j s v' (~~~e1) (~~~e2)
 |@io v i vs as ds ev _ ih=>
 intro ss h;simp only[cH]at h;split at h;.rename_i d ed;cases e:cH as ds U with|none=>rw[e]at h;cases h|some rs=>rw[e]at h;simp only[WX,Wd]at h;subst h;obtain⟨h1,h2,h3⟩:=ih e;refine⟨#v[h1],#v[h2],λj s v' e1 e2=>?_⟩;cases j with|zero=>simp at e1 e2;subst e1 e2;exact .inr ⟨d,i,rfl,rfl,ev,ed⟩|succ j=>simpa using h3 j s v' (~~~e1) (~~~e2)
 .cases h
theorem yJ:∀as rs (U:Dl),(bH as rs U).length=U.length|[],rs,U=>#v[bH]|.val f::as,[],U=>#v[bH]|.io i::as,[],U=>#v[bH]|.val f::as,r::rs,U=>#v[bH,yJ as rs U]|.io i::as,r::rs,U=>#v[bH,yJ as rs]
theorem rF:∀as rs (U:Dl)i,i∉bW as->(bH as rs U)[i]?=U[i]?|[],rs,U,i,_=>#v[bH]|.val f::as,[],U,i,_=>#v[bH]|.io j::as,[],U,i,_=>#v[bH]|.val f::as,r::rs,U,i,h=>%[bH|rF as rs U i h]|.io j::as,r::rs,U,i,h=>by simp only[bW,Wf,not_or]at h;rw[bH,rF as rs _ i h.2,Wa (Ne.symm h.1)]
theorem vg:∀(as:List Ak)(rs:List S)(U:Dl)(i j:Nat)(r:S),(bW as).Nodup->as[j]?=some (.io i)->rs[j]?=some r->i<U.length->(bH as rs U)[i]?=some (some r)
 |[],rs,U,i,j,r,_,h,_,_=>by simp at h|a::as,[],U,i,j,r,_,_,h,_=>by simp at h|.val f::as,r0::rs,U,i,j,r,nd,h1,h2,hi=>by cases j with|zero=>simp at h1|succ j=>rw[bH];exact vg as rs U i j r nd (~~~h1) (~~~h2) hi
 |.io k::as,r0::rs,U,i,j,r,nd,h1,h2,hi=>by have hU:=WW.mp nd;cases j with|zero=>simp at h1 h2;subst h1 h2;rw[bH,rF as rs _ k hU.1,Wr hi]|succ j=>rw[bH];exact vg as rs _ i j r hU.2 (~~~h1) (~~~h2) (~~~hi)
theorem TU(k:Ok c M U H)(hr:km c M U H vs as ds)(hm:cH as ds U=some ss)(nd:(bW as).Nodup):Ok ⟨H,λa=>Av c M U a/\¬∃(j:Nat)(d:D),ss[j]?=some (S.own d)/\vs[j]?=some (V.ref a),cW 0 ss vs,λ_ _=>False⟩ (cy vs) (cA ss) H:=by
 obtain⟨h1,h2,h3⟩:=yI hr hm;have at':∀(j:Nat)s,ss[j]?=some s->∃v,vs[j]?=some v:=λj s e=>by
  have:j<vs.length:=by rw[<-h1];exact(W9.mp e).1
  simp_all
 have rG:∀a,Own (cy vs) (cA ss) a↔∃(j:Nat)(d:D),ss[j]?=some (S.own d)/\vs[j]?=some (V.ref a):=λa=>⟨λ⟨j,d,e1,e2⟩=>⟨j,d,fA.mp e1,fL.mp e2⟩,λ⟨j,d,e1,e2⟩=>⟨j,d,fA.mpr e1,fL.mpr e2⟩⟩;have E3:∀a,Own (cy vs) (cA ss) a->Own M U a:=λa z=>by
  obtain⟨j,d,e1,e2⟩:=(rG a).mp z;rcases h3 j _ _ e1 e2 with⟨d',f,e,_⟩|⟨d',i,e,_,es,ed⟩;.cases e
  .exact⟨i,d',ed,es⟩
 have sub:∀a,Av ⟨H,λa=>Av c M U a/\¬∃(j:Nat)(d:D),ss[j]?=some (S.own d)/\vs[j]?=some (V.ref a),cW 0 ss vs,λ_ _=>False⟩ (cy vs) (cA ss) a->Av c M U a:=λa z=>z.elim (λz=>z.1) λz=>.inr (E3 a z);refine⟨λa o e _=>e,λa z=>k.uI z.1,λa⟨i,hi⟩=>?_,#v[h1],λj d e=>?_,λj d e=>?_,λi j a d d' e1 e2 e3 e4=>?_,λp hp=>?_⟩;.obtain⟨j,d,_,e1,e2⟩:=nR hi;exact k.qS (E3 a ((rG a).mpr ⟨j,d,e1,e2⟩))
 .have e':=fA.mp e;obtain⟨v,ev⟩:=at' j _ e';rcases h3 j _ v e' ev with⟨d',f,e,_,r⟩|⟨d',i,e,_⟩;.cases e;exact⟨v,fL.mpr ev,r.aV λb z=>.inl (sub b z)⟩
  .cases e
 .have e':=fA.mp e;obtain⟨v,ev⟩:=at' j _ e';rcases h3 j _ v e' ev with⟨d',f,e,_,r⟩|⟨d',i,e,_,es,ed⟩;.cases e
  .cases e;obtain⟨a,g1,g2,g3⟩:=k.own i d ed;rw[es]at g1;cases g1;refine⟨a,fL.mpr ev,g2.aV λb z=>.inl (sub b z),.inl ⟨0+j,vc e' ev⟩,λz=>z.2 ⟨j,d,e',ev⟩⟩
 .have f1:=fA.mp e1;have f2:=fA.mp e2;rcases h3 i _ _ f1 (fL.mp e3)with⟨_,_,e,_⟩|⟨d1,i1,e,a1,s1,x1⟩;.cases e
  .rcases h3 j _ _ f2 (fL.mp e4)with⟨_,_,e',_⟩|⟨d2,i2,e',a2,s2,x2⟩;.cases e'
   .have:=k.inj i1 i2 a d1 d2 x1 x2 s1 s2;subst this;exact yH nd a1 a2
 .obtain⟨j,d,e,e1,e2⟩:=nR (i:=p.1) (a:=p.2) hp;rw[Qs]at e;rw[e];exact fL.mpr e2
theorem TV(k:Ok c M U H)(hr:km c M U H vs as ds)(hm:cH as ds U=some ss)(nd:(bW as).Nodup)(hB:B=λa=>Av c M U a/\¬∃(j:Nat)(d:D),ss[j]?=some (S.own d)/\vs[j]?=some (V.ref a))(x:aY ⟨H,B,cW 0 ss vs,λ_ _=>False⟩ (cy vs) (cA ss) H (cy vs) (cA a_) H')(gA:∀(j:Nat)d,ss[j]?=some (.own d)->∃d',a_[j]?=some (.own d'))(hpo:∀(j:Nat)d,ss[j]?=some (.pure d)->∃d',a_[j]?=some (.pure d')):aY c M U H M (bH as a_ U) H'/\∀v r,bu ⟨H,B,cW 0 ss vs,λ_ _=>False⟩ (cy vs) (cA a_) H H' v r->bu c M (bH as a_ U) H H' v r:=by
 obtain⟨h1,h2,h3⟩:=yI hr hm;have vh:∀i,i∈bW as->∃(j:Nat)(d:D)(a:Addr),as[j]?=some (.io i)/\ss[j]?=some (.own d)/\vs[j]?=some (.ref a)/\M[i]?=some (some (.ref a))/\U[i]?=some (some (.own d)):=λi hi=>by
  obtain⟨j,hj,ej⟩:=List.mem_iff_getElem.mp (nS.mp hi);have hv:j<vs.length:=by lia
  have hs:j<ss.length:=by lia
  have E4:as[j]?=some (.io i):=by rw[W8 hj,ej]
  rcases h3 j ss[j] vs[j] #v[hs] #v[hv]with⟨d,f,e,a1,_⟩|⟨d,i',e,a1,s1,x1⟩;.grind
  .rw[E4]at a1;cases a1;obtain⟨a,g1,_⟩:=k.own i d x1;rw[s1]at g1;have g2:vs[j]=.ref a:=by have:=WN g1;exact WN this
   exact⟨j,d,a,E4,by rw[W8 hs,e],by rw[W8 hv,g2],by rw[s1,g2],x1⟩
 have vi:∀a,(∃(j:Nat)(d:D),ss[j]?=some (S.own d)/\vs[j]?=some (V.ref a))->Own M U a:=λa⟨j,d,e1,e2⟩=>by
  rcases h3 j _ _ e1 e2 with⟨d',f,e,_⟩|⟨d',i,e,_,es,ed⟩;.cases e
  .exact⟨i,d',ed,es⟩
 have qaS:∀a,(⟨H,B,cW 0 ss vs,λ_ _=>False⟩:Fc).I a↔∃(j:Nat)(d:D),ss[j]?=some (S.own d)/\vs[j]?=some (V.ref a):=λa=>⟨λ⟨i,hi⟩=>by obtain⟨j,d,_,e1,e2⟩:=nR hi;exact⟨j,d,e1,e2⟩,λ⟨j,d,e1,e2⟩=>⟨0+j,vc e1 e2⟩⟩;have ownIn:∀a,Own (cy vs) (cA ss) a->∃(j:Nat)(d:D),ss[j]?=some (S.own d)/\vs[j]?=some (V.ref a):=λa⟨j,d,e1,e2⟩=>⟨j,d,fA.mp e1,fL.mp e2⟩;have vj:∀(i:Nat)(d:D),(bH as a_ U)[i]?=some (some (.own d))->i∉bW as/\U[i]?=some (some (.own d))\/i∈bW as/\∃(j:Nat)(d0:D)(a:Addr),as[j]?=some (.io i)/\ss[j]?=some (.own d0)/\vs[j]?=some (.ref a)/\M[i]?=some (some (.ref a))/\a_[j]?=some (.own d):=λi d e=>by
  by_cases hi:i∈bW as;.right;obtain⟨j,d0,a,a1,a2,a3,a4,a5⟩:=vh i hi;obtain⟨d',ed'⟩:=gA j d0 a2;have bc:i<U.length:=(W9.mp a5).1;have:=vg as a_ U i j (.own d') nd a1 ed' bc;rw[e]at this;cases this;exact⟨hi,j,d0,a,a1,a2,a3,a4,ed'⟩
  .rw[rF as a_ U i hi]at e;exact .inl ⟨hi,e⟩
 have rH:∀b,Own M (bH as a_ U) b->Own M U b:=λb⟨i,d,e1,e2⟩=>by
  rcases vj i d e1 with⟨_,e⟩|⟨hi,j,d0,a,_,a2,a3,a4,_⟩;.exact⟨i,d,e,e2⟩
  grind
 have TY:∀(i:Nat)(d:D),(bH as a_ U)[i]?=some (some (.pure d))->i∉bW as/\U[i]?=some (some (.pure d)):=λi d e=>by
  by_cases hi:i∈bW as;.obtain⟨j,d0,a,a1,a2,a3,a4,a5⟩:=vh i hi;obtain⟨d',ed'⟩:=gA j d0 a2;have bc:i<U.length:=(W9.mp a5).1;have:=vg as a_ U i j (.own d') nd a1 ed' bc;rw[e]at this;cases this
  .rw[rF as a_ U i hi]at e;exact⟨hi,e⟩
 have E5:∀a o,H a=some o->¬Av c M U a->H' a=some o:=λa o e n=>x.keep a o e λz=>n (.inr (vi a (ownIn a z)));have nQ:∀b,Av c M (bH as a_ U) b->Av c M U b:=λb z=>z.elim .inl λz=>.inr (rH b z);have big:∀{c':Fc},c'.B=B->∀b,Av c M U b->Av c' (cy vs) (cA a_) b:=λ{c'}hB' b z=>by
  by_cases hp:∃(j:Nat)(d:D),ss[j]?=some (S.own d)/\vs[j]?=some (V.ref b);.obtain⟨j,d,e1,e2⟩:=hp;obtain⟨d',ed'⟩:=gA j d e1;exact .inr ⟨j,d',fA.mpr ed',fL.mpr e2⟩
  .exact .inl (by rw[hB',hB];exact⟨z,hp⟩)
 have E6:∀(c1 c2:Fc),c1.H₀=c.H₀->c1.pin=c.pin->(∀b,c1.B b->c.B b\/c2.B b/\H b=none)->c2.pin=cW 0 ss vs->(∀b,B b->c2.B b)->Ok c2 (cy vs) (cA a_) H'->(∀b,c1.B b->∃o,H' b=some o)->Ok c1 M (bH as a_ U) H':=λc1 c2 e0 e1 e2 e3 e4 k2 hex=>by
  have E7:∀b,Av c1 M (bH as a_ U) b->Av c M U b\/H b=none:=λb z=>by
   rcases z with z|z
   .rcases e2 b z with z|⟨_,z⟩;.exact .inl (.inl z)
    .exact .inr z
   .exact .inl (.inr (rH b z))
  have uK:∀b,Av c1 M (bH as a_ U) b->Av c2 (cy vs) (cA a_) b:=λb z=>by
   have bg:∀b,Av c M U b->Av c2 (cy vs) (cA a_) b:=λb z=>by
    by_cases hp:∃(j:Nat)(d:D),ss[j]?=some (S.own d)/\vs[j]?=some (V.ref b);.obtain⟨j,d,e1,e2⟩:=hp;obtain⟨d',ed'⟩:=gA j d e1;exact .inr ⟨j,d',fA.mpr ed',fL.mpr e2⟩
    .exact .inl (e4 b (by rw[hB];exact⟨z,hp⟩))
   rcases z with z|z
   .rcases e2 b z with z|⟨z,_⟩;.exact bg b (.inl z)
    .exact .inl z
   .exact bg b (.inr (rH b z))
  have TZ:∀{v:V}{d:D},Rep H (Av c M U) v d->Rep H' (Av c1 M (bH as a_ U)) v d:=λ{v d}r=>by have r1:Rep H (λb=>Av c M U b\/Av c1 M (bH as a_ U) b) v d:=r.aV λb z=>z.elim .inl (E7 b);exact(r1.keep λb o e n=>E5 b o e λz=>n (.inl z)).aV λb z=>.inl (.inr z)
  refine⟨λa o e n=>?_,hex,λa z=>?_,%[yJ|k.len],λi d e=>?_,λi d e=>?_,λi j a d d' f1 f2 f3 f4=>?_,%[e1|k.pinned]⟩;.rw[e0]at e;have n':¬c.I a:=λz=>n (by unfold Fc.I at z⊢;rw[e1];exact z);refine x.keep a o (k.keep a o e n') λz=>?_;obtain⟨i,d,g1,g2⟩:=vi a (ownIn a z);obtain⟨a',g3,_,g4,_⟩:=k.own i d g1;grind
  .have z':c.I a:=by unfold Fc.I at z⊢;rw[<-e1];exact z
   obtain⟨o,e⟩:=k.eJ a z';exact x.there a o e
  .obtain⟨hi,e'⟩:=TY i d e;obtain⟨v,g1,g2⟩:=k.slot i d e';exact⟨v,g1,TZ g2⟩
  .rcases vj i d e with⟨hi,e'⟩|⟨hi,j,d0,a,b1,b2,b3,b4,b5⟩
   .obtain⟨a,g1,g2,g3,g4⟩:=k.own i d e';have na:¬Own (cy vs) (cA ss) a:=λz=>by
     obtain⟨j,d1,q1,q2⟩:=ownIn a z;rcases h3 j _ _ q1 q2 with⟨d',f,ee,_⟩|⟨d',i',ee,ai,es,ed⟩;.cases ee
     .have:=k.inj i i' a d d' e' ed g1 es;grind[nS]
    have T1:gv H' (Av c1 M (bH as a_ U)) a d:=by have o1:gv H (λb=>Av c M U b\/Av c1 M (bH as a_ U) b) a d:=g2.aV λb z=>z.elim .inl (E7 b);exact(o1.keep (λb o e n=>E5 b o e λz=>n (.inl z)) λo e=>x.keep a o e na).aV λb z=>.inl (.inr z)
    refine⟨a,g1,T1,by unfold Fc.I at g3⊢;rw[e0,e1];exact g3,λz=>?_⟩;rcases e2 a z with z|⟨_,z⟩;.exact g4 z
    .obtain⟨o,eo⟩:=g2.some;rw[z]at eo;cases eo
   .obtain⟨a',g1,g2,g3,g4⟩:=k2.own j d (fA.mpr b5);rw[fL.mpr b3]at g1;cases g1;obtain⟨i0,d1,q1,q2⟩:=vi a ⟨j,d0,b2,b3⟩;obtain⟨a'',q3,q4,q5,q6⟩:=k.own i0 d1 q1;rw[q2]at q3;cases q3;refine⟨a,b4,g2.aV λb z=>.inl (uK b z),by unfold Fc.I at q5⊢;rw[e0,e1];exact q5,λz=>?_⟩;grind
  .obtain⟨d1,g1⟩:∃d1,U[i]?=some (some (.own d1)):=by
    rcases vj i d f1 with⟨_,e'⟩|⟨hi,_⟩;.exact⟨d,e'⟩
    .obtain⟨_,d1,_,_,_,_,_,a5⟩:=vh i hi;exact⟨d1,a5⟩
   obtain⟨d2,g2⟩:∃d2,U[j]?=some (some (.own d2)):=by
    rcases vj j d' f2 with⟨_,e'⟩|⟨hi,_⟩;.exact⟨d',e'⟩
    .obtain⟨_,d1,_,_,_,_,_,a5⟩:=vh j hi;exact⟨d1,a5⟩
   exact k.inj i j a d1 d2 g1 g2 f3 f4
 have T2:Ok c M (bH as a_ U) H':=E6 c ⟨H,B,cW 0 ss vs,λ_ _=>False⟩ rfl rfl (λb z=>.inl z) rfl (λb z=>z) x.ok λb z=>by obtain⟨o,e⟩:=k.bd b z;exact x.there b o e
 refine⟨⟨T2,λa o e n=>x.keep a o e λz=>n (vi a (ownIn a z)),λa z=>.inl (rH a z),x.there⟩,λv r hr=>?_⟩;cases r with|pure d=>exact Rep.aV hr λb z=>.inl (big rfl b (nQ b z))|own d=>
  obtain⟨a,ea,o,nb,h0,kp,hs⟩:=hr;have px:H a=none:=hs;have jc:¬Av c M U a:=k.jc px;refine⟨a,ea,o.aV λb z=>.inl ?_,λz=>jc (.inl z),k.nC px,?_,px⟩
  .rcases z with(z|z)|z;.exact(big rfl b (.inl z)).elim (λz=>.inl (.inl z)) .inr
   .exact .inl (.inr z)
   .exact(big rfl b (.inr (rH b z))).elim (λz=>.inl (.inl z)) .inr
  .refine E6 (c.plus a) (Fc.plus ⟨H,B,cW 0 ss vs,λ_ _=>False⟩ a) rfl rfl (λb z=>?_) rfl (λb z=>.inl z) kp λb z=>?_
   .rcases z with z|z;.exact .inl z
    .exact .inr ⟨.inr z,%[z|px]⟩
   .rcases z with z|z;.obtain⟨o,e⟩:=k.bd b z;exact x.there b o e
    .rw[z];exact o.some
end
def pA(G:DF):Prop:=∀ss r a_,G ss=some (r,a_)->a_.length=ss.length/\∀(j:Nat),(∀d,ss[j]?=some (.own d)->∃d',a_[j]?=some (.own d'))/\∀d,ss[j]?=some (.pure d)->∃d',a_[j]?=some (.pure d')
theorem T3{fb}(hG:∀ss y,G ss=some y->fB fb n ss=some y):pA G:=λss r a_ h=>by have:=hG ss _ h;unfold fB at this;cases e:fb (bY n ss)with|exc x S'=>rw[e]at this;cases this|stuck=>rw[e]at this;cases this|ok fl U=>rw[e]at this;simp only at this;cases e1:e_ fl with|none=>rw[e1]at this;cases this|some r'=>rw[e1]at this;simp only[Q3]at this;cases e2:da 0 ss U with|none=>rw[e2]at this;cases this|some os=>
    rw[e2]at this;cases this;obtain⟨h1,h2⟩:=ve e2;refine⟨h1,λj=>⟨λd ed=>?_,λd ed=>?_⟩⟩
    .rcases h2 j _ ed with⟨d',z,_⟩|⟨d',d'',_,_,z⟩;.cases z
     .exact⟨d'',z⟩
    .rcases h2 j _ ed with⟨d',z,z'⟩|⟨d',d'',z,_⟩;.exact⟨d',z'⟩
     .cases z
section
variable{k:Nat}
theorem E8{ps:List Str}(hK:pA G){Q}(hl:as.length=n)(h:tD c (aF G as) M H Q):CG (vd n G) [] E0 (tX c as) M H Q:=by
 obtain⟨U,kk,q⟩:=h;unfold aF at q;split at q
 .rename_i hc;rw[Wy]at hc;have nd:=EZ hc.2;rw[bp]at q;refine⟨U,kk,λi hi=>?_,aT q λds ZW q1 vs H1 a1 r1=>?_⟩
  .have:=JB.mp hc.1 i (nS.mpr hi);unfold dP at this;split at this;.rename_i d ed;exact yn kk ed
   .cases this
  .cases em:cH as ds ZW with|none=>rw[em]at q1;exact q1.elim|some ss=>rw[em]at q1;simp only at q1;cases eg:G ss with|none=>rw[eg]at q1;exact q1.elim|some y=>obtain⟨r,a_⟩:=y;rw[eg]at q1;have gD:=TU a1.ok r1 em nd;obtain⟨m1,m2,_⟩:=yI r1 em;obtain⟨g1,g2⟩:=hK ss r a_ eg;refine⟨ss,_,by rw[Qc,<-m2];exact hl,%[Qc|gD],r,a_,eg,λv H2 a2 r2=>?_⟩;rw[Qc]at a2 r2;obtain⟨o1,o2⟩:=TV a1.ok r1 em nd rfl a2 (λj d ed=>(g2 j).1 d ed) λj d ed=>(g2 j).2 d ed;exact q1 v H2 (a1.trans o1) (bu.back (o2 v r r2) a1)
 .exact q.elim
theorem T4(F:bj X.prog X.w X.K X.mg X.base k x n G)(hK:pA G)(hr:cP k X.A)(hg:Gl X x)(ha:SX X c (e::es) as)(hl:as.length=n)(gZ:(x==("__debug__":Str))=false:=by decide)(he:We (e::es) X.env=(false,eval e X.env)::We es X.env:=by rfl)(cQ:(Qz pos (We es X.env)).any (·.1)=false:=by rfl):SE X c (.Call (.Name x pp) (e::es) [] pos) (aF G as):=by obtain⟨f,fd,ps,hm,hk,hb,ok⟩:=F;exact PE.weak (CI ok hr hg hm hk hb .nil Dk ha gZ he cQ) λM H Q h=>E8 (ps:=ps) hK hl h
end
def bI(np:List Nat)(n:Nat)(b:DS):DF:=λss=>if eC np 0 ss then fB b n ss else none
theorem nT(h:bI np n b ss=some y):eC np 0 ss=true/\fB b n ss=some y:=by
 unfold bI at h;split at h;.rename_i hi;exact⟨hi,h⟩
 .cases h
theorem E9:pA (bI np n b):=T3 λ_ _ h=>(nT h).2
theorem k_(r:cP k A):A.units+64<Q1:=by have:=r.un;lia
theorem E_(h:Np c np)(hc:cs.all (λi=>!np.contains i)=true):∀p∈c.pin,p.1∉cs:=λp hp z=>by have h1:=h p hp;grind
def vk:List Str->Bool|[]=>true|x::r=>!r.contains x&&vk r
theorem Fb:∀{l:List Str},vk l=true->l.Nodup|[],_=>.nil|x::r,h=>by simp only[vk,Wy,Bool.not_eq_true']at h;exact WW.mpr ⟨λhm=>by have:=h.1;simp at this;exact this hm,Fb h.2⟩
def iL(names:List (Str×NameKind))(x:Str)(k:NameKind):Bool:=match names.lookup x with|some j=>j==k|none=>false
theorem yK(h:iL names x k=true):names.lookup x=some k:=by
 unfold iL at h;split at h;.rename_i j e;rw[e,eq_of_beq h]
 .cases h
def Fe(names:List (Str×NameKind))(N:List Str)(sc:List (Str×NameKind))(cs:List Nat):Bool:=sc.all (λx=>!x.2==.local||iL sc x.1 .local)&&sc.all (λx=>!x.2==.free||(iL names x.1 .cell||iL names x.1 .free))&&vk (sc.map (·.1))&&(WB N.length).all λi=>match N[i]? with|some x=>!(iL sc x .local||iL sc x .cell)||cs.contains i|none=>true
theorem T5(h:names.lookup x=some k):iL names x k=true:=by unfold iL;rw[h];simp
theorem Ff{X:Cx}{scope:Scope}{cs}(hk:scope.kind=.function)(h:Fe X.env.scope.names X.N scope.names cs=true):nv X scope cs:=by
 unfold Fe at h;simp only[Wy]at h;obtain⟨⟨⟨h1,h2⟩,h3⟩,h4⟩:=h;refine⟨hk,λx hx hl=>?_,λx hx hf=>?_,Fb h3,λi x hi hl=>?_⟩;.have:=JB.mp h1 x hx;rw[hl]at this;exact yK (~~~this)
 .have:=JB.mp h2 x hx;rw[hf]at this;have:iL X.env.scope.names x.1 .cell=true\/iL X.env.scope.names x.1 .free=true:= ~~~this;exact this.elim (λz=>.inl (yK z)) λz=>.inr (yK z)
 .have mB:i<X.N.length:=(W9.mp hi).1;have:=JB.mp h4 i (List.mem_range.mpr mB);rw[hi]at this;have iW:(iL scope.names x .local||iL scope.names x .cell)=true:=by grind[T5]
  grind
theorem T6:jL K "int":=⟨rfl,rfl,rfl,rfl,rfl,rfl,rfl⟩
theorem T7:jL K "bool":=⟨rfl,rfl,rfl,rfl,rfl,rfl,rfl⟩
theorem T8:jL K "str":=⟨rfl,rfl,rfl,rfl,rfl,rfl,rfl⟩
theorem T9:jL K "tuple":=⟨rfl,rfl,rfl,rfl,rfl,rfl,rfl⟩
theorem Fg:bD X (QY .Mult) (rI qF λi j=>.int (i*j)):=N0
def mE:Expr->Bool|.Starred ..=>false|_=>true
theorem nU(h:mE e=true):We (e::es) env=(false,eval e env)::We es env:=by
 cases e<;>first|(cases h;done)|rw[We]|rfl
 all_goals(intros;contradiction)
section
variable{f:DE}{g:DA}
theorem T_(ha:SE X c e f)(hr:SA X c es g)(hs:mE e=true:=by rfl):SA X c (e::es) (ao f g):=Et ha hr (nU hs)
theorem Ux(ha:SE X c e fe)(hr:SX X c es as)(hs:mE e=true:=by rfl):SX X c (e::es) (.val fe::as):=TQ ha hr (nU hs)
theorem Uy(ha:PE X e (dq i))(hr:SX X c es as)(hs:mE e=true:=by rfl):SX X c (e::es) (.io i::as):=TR ha hr (nU hs)
end
mutual def jP:Nat->Expr->Option D|_,.Constant (.int i) _ _=>some (.int i)|_,.Constant (.bool b) _ _=>some (.bl b)|_,.Constant .none _ _=>some .aJ|_,.Constant (.str x) _ _=>some (.str x.cps.toList)|n+1,.Tuple es _ _=>if es.length<=1000 then(mF n es).map .tup else none|_,_=>none def mF:Nat->List Expr->Option (List D)|_,[]=>some []|n,e::es=>match jP n e,mF n es with|some d,some ds=>some (d::ds)|_,_=>none end
theorem Uz:∀{n:Nat}{e:Expr}{d:D},jP n e=some d->mE e=true:=λ{n e d}h=>by cases e<;>first|rfl|(cases n<;>simp[jP]at h)
theorem Fh{k a b d}(h:jP n (.Constant k a b)=some d):SE X c (.Constant k a b) (eD d):=by cases k<;>cases n<;>simp[jP]at h<;>subst h<;>first|exact DM|exact DO|exact DQ|exact DU _ (DJ _)
theorem yL(ih:∀{e:Expr}{d:D},jP n e=some d->SE X c e (eD d)):∀{es:List Expr}{ds:List D},mF n es=some ds->SA X c es λU=>.ok ds U
 |[],ds,h=>by simp only[mF,Wd]at h;subst h;exact Es|e::es,ds,h=>by
  simp only[mF]at h;split at h;.rename_i d dW h1 h2;cases h;exact Et (ih h1) (yL ih h2) (nU (Uz h1))
  .cases h
theorem Fi:∀{e:Expr}{d:D},jP n e=some d->SE X c e (eD d):=by induction n with
 |zero=>intro e d h;cases e<;>first|exact Fh h|(simp[jP]at h;done)
 |succ n ih=>
 intro e d h;cases e<;>first|exact Fh h|(simp[jP]at h;done)|skip
 simp only[jP]at h;split at h;.rename_i es _ _ hl;cases e:mF n es with|none=>rw[e]at h;cases h|some ds=>rw[e]at h;simp only[WX,Wd]at h;subst h;exact Ex (yL ih e) hl
 .cases h
theorem UA(h:mF n es=some ds):SA X c es λU=>.ok ds U:=yL Fi h
def yM(ds:List D):DE:=λU=>.ok (.own (.lst ds)) U
theorem UB{d}(h:jP 9 e=some d):SE X c e (eD d):=Fi h
theorem UC(h:mF 9 es=some ds)(hl:es.length<=1000):SE X c (.List es pos) (yM ds):=Ey (UA h) hl
theorem UD{i:Int}(hg:Gl X x)(hm:∃t,X.mg x=some (.int i t))(hd:(x==("__debug__":Str))=false:=by decide):SE X c (.Name x pos) (eD (.int i)):=by obtain⟨t,h⟩:=hm;exact P8 hg h hd
theorem UE(he:SE X c e fe)(hs:J9 e none pos.line X.env=pure false:=by rfl):SS X c (.Expr e pos) (ph fe):=S8 he (λ_=>hs) trivial (xh he hs)
theorem UG{o}{apos bF:Pos}(ho:PE X o (dq i))(he:SE X c e fe)(m_:Ja o "append" X.env (eval o X.env)=eval o X.env:=by rfl)(nh:((Qz bF (We [e] X.env)).all (λx=>!x.1)&&(backToKw bF (Uq [] X.env)).all (λx=>x.1.isSome)&&decide ([e].length+([]:List Keyword).length+(if([]:List Keyword).isEmpty then 0 else 1)<30))=true:=by rfl)(ni:(apos.endLine==bF.line)=true:=by rfl)(hs:We [e] X.env=(false,eval e X.env)::We [] X.env:=by rfl)(qR:J9 (.Call (.Attribute o "append" apos) [e] [] bF) none pos.line X.env=pure false:=by rfl):SS X c (.Expr (.Call (.Attribute o "append" apos) [e] [] bF) pos) (cL i fe):=S9 (p0:=apos) ho he (xh (uq PySem.F.plainAttrs_list PySem.F.slot_list_append PySem.F.type_list_append xO ho (fq he gJ hs) m_ nh ni hs rfl) qR)
def yN(K:W5):Bool:=K.all λp=>match p.2.cls with|.type t=>!t=="list"|_=>true
theorem Fj[BEq α][LawfulBEq α]:∀{K:List (α×β)}{a:α}{o:β},K.lookup a=some o->(a,o)∈K|[],a,o,e=>by simp at e|(b,o')::r,a,o,e=>by rw[QJ]at e;cases hb:a==b with|true=>rw[hb]at e;have h1:o'=o:=WN e;have h2:a=b:=eq_of_beq hb;rw[h1,h2];exact Wx|false=>rw[hb]at e;exact Wn _ (Fj e)
theorem UH{a}{o:Obj}(h:yN K=true)(e:K.lookup a=some o)(hc:o.cls=.type "list"):False:=by have hm:(a,o)∈(K:List (Addr×Obj)):=Fj e;have h1:=JB.mp h (a,o) hm;have h2:(match o.cls with|.type t=>!t=="list"|_=>true)=true:=h1;rw[hc]at h2;have h3:!("list":String)=="list"=true:=h2;rw[beq_self_eq_true]at h3;cases h3
def yO(x:Str):It:=⟨λi _=>i<x.cps.size,λi H y H'=>H'=H/\∃c,x.cps[i]?=some c/\y=.str ⟨#[c]⟩,λi _=>i=x.cps.size⟩
theorem UI(x t it T)(hT:T="str_ascii_iterator"\/T="str_iterator"):Turn P w K tg (yO x) [it] it λi h=>h.IsStrIter it T x t i:=by
 have W:∀A:Wt,A.handled=none->Walks P w A it [it] [it] x.cps.size (SignAt x) λi h=>h.IsStrIter it T x t i:=λA hh=>by
  rcases hT with rfl|rfl;.exact Walks.strAscii hh it x t
  .exact Walks.strWide hh it x t
 refine⟨U',λi h st b hb=>?_,λi h h' st k=>?_,?_,?_,λA i s Q E st h=>?_⟩;.have e:b=it:= ~~~hb;subst e;obtain⟨o,e,c,d⟩:=st;exact⟨o,e,λv z=>by rw[d]at z;cases z⟩
 .obtain⟨o,e,r⟩:=st;exact⟨o,k it U' o e,r⟩
 .intro X hP hw hK hc i pins s M H E I hf st hg;subst hP hw hK;obtain⟨f0,f1,f2,f3,f4,f5⟩:=hf it U';refine(W X.A (I.ok.hd hc)).item i s _ _ hg st λv h' tk hv cq kk=>?_;obtain⟨c,u,hx,rfl⟩:=hv;have I1:Inv X pins M H {s with heap:=h',toks:=tk}:=I.turned (λb o hb e=>kk b o (~~~hb) e) f0 f1 f3 f4 f5;obtain⟨o,e,c',d⟩:=id cq;refine⟨_,rfl,qD (s:={s with heap:=h',toks:=tk}) e c' d (by rcases hT with rfl|rfl<;>decide) ⟨.str ⟨#[c]⟩,H,I1,⟨u,rfl⟩,⟨rfl,c,hx,rfl⟩,cq,λb hb=>(hf b hb).1⟩⟩
 .intro X hP hw hK hc i pins s M H E I hf st hg;subst hP hw hK;have kf:i=x.cps.size:=hg;subst kf;obtain⟨f0,f1,f2,f3,f4,f5⟩:=hf it U';exact(W X.A (I.ok.hd hc)).done s _ _ st λh' tk eb=>⟨rfl,I.turned (λb o hb e=>eb b o (~~~hb) e) f0 f1 f3 f4 f5⟩
 grind[wpAny_pyIter_striter_ascii,wpAny_pyIter_striter_wide]
def UJ(K:W5)(tl:TE):TI:=λM H R=>tl M H λx H1=>(∃a,x=.ref a/\(∃xs,cp K H1 a xs)/\R (uc K a) H1)\/(∃a,x=.ref a/\(∃xs,cE K H1 a xs)/\R (ud K a) H1)\/∃z,x=.str z/\R (yO z) H1
theorem UK{l tl}(hl:PE X l tl):PI X tg l (UJ X.K tl):=by
 intro pins s M H R I h;refine aM (hl pins s M H _ I h) λv s1 hh=>?_;obtain⟨x,H1,I1,r1,q1⟩:=hh;rcases q1 with q1|q1|⟨z,e,q⟩;.obtain⟨a,e,⟨xs,hq⟩,q⟩:=q1;subst e;cases r1;obtain⟨ak,rv,p,hz⟩:=I1.list hq;refine JS p.isList ?_;refine⟨s1.heap.objs.size,[s1.heap.objs.size],_,_,H1,rfl,I1.kept (t':=s1.toks) λb o e=>W6 _ e,NO a _,⟨_,Wh _ rfl,rfl,rfl⟩,λb hb=>?_,q⟩;have e:b=s1.heap.objs.size:= ~~~hb;subst e;exact I1.iY (Wg _) (I1.aB.fresh (Wg _))
 .obtain⟨a,e,⟨xs,hq⟩,q⟩:=q1;subst e;cases r1;obtain⟨ak,rv,p,hz⟩:=I1.tuple hq;refine Jl (show s1.heap.IsTuple a ak.toArray from p) ?_;refine⟨s1.heap.objs.size,[s1.heap.objs.size],_,_,H1,rfl,I1.kept (t':=s1.toks) λb o e=>W6 _ e,NP a _,⟨_,Wh _ rfl,rfl,rfl⟩,λb hb=>?_,q⟩;have e:b=s1.heap.objs.size:= ~~~hb;subst e;exact I1.iY (Wg _) (I1.aB.fresh (Wg _))
 .subst e;obtain⟨t,rfl⟩:=r1;refine wpAny_pyIter_strU ?_;have hT:Jx z="str_ascii_iterator"\/Jx z="str_iterator":=by
   unfold Jx;split;.exact .inl rfl
   .exact .inr rfl
  refine⟨s1.heap.objs.size,[s1.heap.objs.size],_,_,H1,rfl,I1.kept (t':=s1.toks) λb o e=>W6 _ e,UI z t _ _ hT,⟨_,Wh _ rfl,rfl,rfl⟩,λb hb=>?_,q⟩;have e:b=s1.heap.objs.size:= ~~~hb;subst e;exact I1.iY (Wg _) (I1.aB.fresh (Wg _))
theorem UL(z:Tx):mz c M U H (yO (toS z)) (z.map λn=>D.str [n]):=by intro H2 kp;have hsz:(toS z).cps.size=z.length:=#v[toS];refine⟨by show(z.map _).length=_;rw[hsz];simp,λi d e=>?_⟩;rw[Wo]at e;cases ez:z[i]? with|none=>rw[ez]at e;cases e|some n=>rw[ez]at e;cases e;have hi:i<z.length:=(W9.mp ez).1;refine⟨by show i<_;rw[hsz];exact hi,λx H3⟨e3,cc,hc,hx⟩=>.inl ⟨e3,?_⟩⟩;have:(toS z).cps[i]?=z[i]?:=#v[toS];rw[this,ez]at hc;cases hc;rw[hx];exact .str [n]
def aK(f:DE):DI:=λU=>(f U).bind λr ZW=>match r.d with|.lst ds=>.ok ds ZW|.tup ds=>.ok ds ZW|.str x=>.ok (x.map λn=>.str [n]) ZW|_=>.stuck
theorem UM(he:SE X c e fe):SI X c tg e (aK fe):=PI.weak (UK he) λM H R⟨U,k,q⟩=>by
 unfold aK at q;rw[bp]at q;refine⟨U,k,aT q λr ZW q1 v H1 a1 r1=>?_⟩;have rr:=r1.rep;generalize r.d=d at q1 rr;cases d<;>first|exact q1.elim|skip
 .cases rr;exact .inr (.inr ⟨_,rfl,q1 _ H1 a1 (UL _)⟩)
 .cases rr with|tup h1 h2 h3 h4=>exact .inr (.inl ⟨_,rfl,⟨_,.of h2⟩,q1 _ H1 a1 (Ta _ h2 (λz=>h1 (.inr z)) ⟨h3,h4⟩)⟩)
 .cases rr with|lst h1 h2 h3 h4=>refine .inl ⟨_,rfl,⟨_,.inl h2⟩,q1 _ H1 a1 ?_⟩;intro H2 kp;rename_i a vs;have h5:Rd H2 a (.lst vs):=Rd.keep h2 λo e=>kp a o e λz=>h1 (.inr z);have r':aH H1 (Av c M ZW) vs _:=⟨h3,h4⟩;refine⟨⟨vs,.inl h5,%[r'.1|Wg _]⟩,λi d e=>?_⟩;obtain⟨v,ev,rv⟩:=r'.get e;refine⟨⟨vs,v,.inl h5,ev⟩,λx H3⟨e3,y⟩=>.inl ⟨e3,?_⟩⟩;have:=y vs (.inl h5);grind
theorem bu.newD(k:Ok c M U H)(hp:H p=none):bu c M U H (upd H p (.dK [])) (.ref p) (.own (.au [])):=by refine⟨p,rfl,⟨[],cD,rfl,λi p q e=>by simp at e⟩,λz=>k.jc hp (.inl z),k.nC hp,k.plus hp _,hp⟩
def nV:DE:=λU=>.ok (.own (.au [])) U
theorem UN:SE X c (.Dict [] [] pos) nV:=PE.weak O7 λM H Q⟨U,k,q⟩=>λp hp=>q _ _ (.alloc k hp _) (bu.newD k hp)
theorem Fm:entryFor table "dict.update.loop"=some Builtin.«dict.update.loop»:=entryFor_of_tree (by kernel_rfl)
theorem pB:plainId "dict.update.loop"=true:=by decide+kernel
theorem UO:typeLookup (.type "tuple") "keys"=pure none:=by rw[typeLookup_type,JX];kernel_rfl
theorem UP:typeLookup (.type "list") "keys"=pure none:=by rw[typeLookup_type,JX];kernel_rfl
set_option maxRecDepth 8000 in theorem UQ{Q xs}(hx:s.heap.get? a=some o)(hc:o.cls=.type "tuple")(ij:o.data=.seq xs k)(hd:o.dict=none)(hA:A.handled=none)(h:∀h' tk,(∀b ob,s.heap.get? b=some ob->h'.get? b=some ob)->Q none {s with heap:=h',toks:=tk}):W7 (model prog w) A (getAttr? (.ref a) "keys") Q E s:=by
 obtain⟨c,au,dat,sl⟩:=o;simp only at hc ij hd;subst hc ij hd;obtain⟨hp,g,d,tk,os⟩:=s;have hT:∀jQ,(⟨hp,g,d,jQ,os⟩:W4).TypeIs (.ref a) "tuple":=λ_=>⟨_,hx,rfl⟩;have f1:=sub_AttributeError;have f3:=F.slot_tuple_getattribute.lookup;have f4:=F.slot_tuple_getattribute.bind (.ref a);have f5:=am_tuple_getattr_none;have vm:=UO;unfold getAttr? getAttrBy? getAttrBy;repeat(any_goals(first|assumption|exact hT _|((with_reducible show W7 _ _ (call (Value.builtin "tuple.__getattribute__") _ _) _ _ _);refine Uh F.slot_tuple_getattribute (hT _) am_entry_tuple_getattribute (F.args_tuple_getattribute_2 _ _) (meets_getattribute_miss_tuple a xs k sl "keys" _ vm Re) ⟨hx,hA,λh' jQ e mG=>?_⟩)|wp_step))
 obtain⟨t',u',he⟩:=mG.there;show W7 _ _ (Jm _ _ _ _ _ _ _) _ _ _;unfold Jm;repeat(any_goals(first|assumption|wp_step))
 exact h _ _ mG.keeps
set_option maxRecDepth 8000 in theorem UR{Q xs}(hx:s.heap.get? a=some o)(hc:o.cls=.type "list")(ij:o.data=.seq xs k)(hd:o.dict=none)(hA:A.handled=none)(h:∀h' tk,(∀b ob,s.heap.get? b=some ob->h'.get? b=some ob)->Q none {s with heap:=h',toks:=tk}):W7 (model prog w) A (getAttr? (.ref a) "keys") Q E s:=by
 obtain⟨c,au,dat,sl⟩:=o;simp only at hc ij hd;subst hc ij hd;obtain⟨hp,g,d,tk,os⟩:=s;have hT:∀jQ,(⟨hp,g,d,jQ,os⟩:W4).TypeIs (.ref a) "list":=λ_=>⟨_,hx,rfl⟩;have f1:=sub_AttributeError;have f3:=F.slot_list_getattribute.lookup;have f4:=F.slot_list_getattribute.bind (.ref a);have f5:=am_list_getattr_none;have vm:=UP;unfold getAttr? getAttrBy? getAttrBy;repeat(any_goals(first|assumption|exact hT _|((with_reducible show W7 _ _ (call (Value.builtin "list.__getattribute__") _ _) _ _ _);refine Uh F.slot_list_getattribute (hT _) am_entry_list_getattribute (F.args_list_getattribute_2 _ _) (meets_getattribute_miss_list a xs k sl "keys" _ vm Re) ⟨hx,hA,λh' jQ e mG=>?_⟩)|wp_step))
 obtain⟨t',u',he⟩:=mG.there;show W7 _ _ (Jm _ _ _ _ _ _ _) _ _ _;unfold Jm;repeat(any_goals(first|assumption|wp_step))
 exact h _ _ mG.keeps
def eE(kps:List (Key×V))(acc:List (Key×V)):List (Key×V):=kps.foldl (λa kv=>putK a kv.1 kv.2) acc
theorem Fo{R:Result->W4->Prop}{s dl}{i:Int}{t0}(hn:W7 (model prog w) A.in1 (QF (.ref it)) (λr s1=>∃(q:Addr)(k v:Value)(n:Nat),r=some (.ref q)/\s1.heap.get? q=some {cls:=.type "tuple",dict:=none,data:=.seq #[k,v] n,slots:=#[]}/\W7 (model prog w) A.in1 (dictSet dl k v) (λ_ s2=>Jy (model prog w) A (.builtin "dict.update.loop" ⟨[.ref dl,.ref it,Q6 (i+1),.none],[]⟩) R s2) (λ_ _=>False) s1) (λ_ _=>False) s):Jy (model prog w) A (.builtin "dict.update.loop" ⟨[.ref dl,.ref it,.int i t0,.none],[]⟩) R s:=by
 refine codeAny_builtin Fm ?_;rw[Around.under_plainId pB _];show W7 _ A.in1 (QF (.ref it)>>=_) _ _ s;refine W0 (Qy hn (λr s1 hr=>?_) (by grind));obtain⟨q,k,v,n,rfl,hq,hd⟩:=hr;dsimp only;refine W0 ?_;try with_reducible refine WI ?_
 refine W0 (wpAny_tryCatch ?_);have hT:s1.TypeIs (.ref q) "tuple":=⟨_,hq,rfl⟩;unfold Builtin.Dict.pairItems;refine W0 (JA hT ?_);rw[if_pos Z'];refine W0 ?_;unfold seqItems?;refine W0 (wpAny_load hq (W3 ?_));refine W3 ?_;show W7 _ A.in1 (holding [k,v] (dictSet dl k v)) _ _ s1;try with_reducible refine WI ?_
 refine Qy hd (λ_ s2 h2=>?_) (by grind);exact W3 ⟨plainId_quiet pB _,h2⟩
theorem Fp{s}{i:Int}(hn:W7 (model prog w) A.in1 (QF (.ref it)) (λr s1=>r=none/\R (.ok (.ret .none)) s1) (λ_ _=>False) s):Jy (model prog w) A (.builtin "dict.update.loop" ⟨[.ref dl,.ref it,.int i t0,.none],[]⟩) R s:=by refine codeAny_builtin Fm ?_;rw[Around.under_plainId pB _];show W7 _ A.in1 (QF (.ref it)>>=_) _ _ s;refine W0 (Qy hn (λr s1 hr=>?_) (by grind));obtain⟨rfl,hd⟩:=hr;dsimp only;show W7 _ A.in1 (Builtin.Dict.addKeywords dl []>>=_) _ _ s1;exact W0 (W3 (W3 hd))
theorem Rd.sub{u}(h:Rd H a u)(k:∀b o,H b=Option.some o->H' b=Option.some o):Rd H' a u:=by
 rcases h with h|⟨o,h⟩;.exact .inl (k _ _ h)
 .exact .inr ⟨o,k _ _ h⟩
def vn(H:Hp)(ys:List V)(kps:List (Key×V)):Prop:=ys.length=kps.length/\∀(i:Nat)y kv,ys[i]?=some y->kps[i]?=some kv->∃q,y=.ref q/\H q=some (.tup [kV kv.1,kv.2])
theorem yP:∀(kps acc:List (Key×V)),(eE kps acc).length<=acc.length+kps.length|[],acc=>Wg _|kv::r,acc=>by have h1:=yP r (putK acc kv.1 kv.2);have h2:=oQ acc kv.1 kv.2;show(eE r (putK acc kv.1 kv.2)).length<=_;simp only[WP];lia
theorem Fq(kps)(kv:Key×V)(acc):eE (kps++[kv]) acc=putK (eE kps acc) kv.1 kv.2:=by unfold eE;rw[List.foldl_append];rfl
theorem Fs(hP:vn H ys kps)(gO:H dl=none)(hz:kps.length<=Wb)(item:∀(i:Nat)y H' (s:W4)(Q:Option Value->W4->Prop),(∀b o,H b=some o->H' b=some o)->H' it=none->Inv X pins M H' s->tn i s.heap->ys[i]?=some y->(∀u s',RelV y u->Inv X pins M H' s'->tn (i+1) s'.heap->Q (some u) s')->W7 (model X.prog X.w) A.in1 (QF (.ref it)) Q (λ_ _=>False) s)(done:∀H' (s:W4)(Q:Option Value->W4->Prop),(∀b o,H b=some o->H' b=some o)->H' it=none->Inv X pins M H' s->tn ys.length s.heap->(∀s',Inv X pins M H' s'->Q none s')->W7 (model X.prog X.w) A.in1 (QF (.ref it)) Q (λ_ _=>False) s)(keep:∀(i:Nat)(h h':Heap),tn i h->(∀o,h.get? it=some o->h'.get? it=some o)->tn i h')(hit:H it=none)(cu:it≠dl)(hR:∀s',Inv X pins M (upd H dl (.dK (eE kps []))) s'->R (.ok (.ret .none)) s'):∀(k i:Nat)(s:W4)(j:Int)t0,ys.length-i=k->i<=ys.length->Inv X pins M (upd H dl (.dK (eE (kps.take i) []))) s->tn i s.heap->Jy (model X.prog X.w) A (.builtin "dict.update.loop" ⟨[.ref dl,.ref it,.int j t0,.none],[]⟩) R s:=by
 have up:∀(acc:List (Key×V))b o,H b=some o->upd H dl (.dK acc) b=some o:=λacc b o e=>%[aP (fF e gO)|e];have lZ:∀acc:List (Key×V),upd H dl (.dK acc) it=none:=λacc=>%[aP cu|hit]
 intro k;induction k with|zero=>
 intro i s j t0 hk hi I st;have e:i=ys.length:=by lia
 subst e;rw[hP.1,Ji (Wg _)]at I;refine Fp (done _ s _ (up _) (lZ _) I st λs' I'=>⟨rfl,hR s' I'⟩)|succ k ih=>
 intro i s j t0 hk hi I st;have bc:i<ys.length:=by lia
 have ik:i<kps.length:=by rw[<-hP.1];exact bc
 obtain⟨q,ey,hq⟩:=hP.2 i ys[i] kps[i] #v[bc] #v[ik];have main:∀s1,Inv X pins M (upd H dl (.dK (eE (kps.take i) []))) s1->tn (i+1) s1.heap->∃(kk vv:Value)(n:Nat),s1.heap.get? q=some {cls:=.type "tuple",dict:=none,data:=.seq #[kk,vv] n,slots:=#[]}/\RelV (kV kps[i].1) kk/\RelV kps[i].2 vv:=λs1 I1 _=>by obtain⟨_,ak,r,n,e⟩:=show bX X.prog X.w _ s1.heap q (.tup [kV kps[i].1,kps[i].2])from I1.aB q _ (up _ q _ hq);obtain⟨u,v,rfl,r1,r2⟩:=Vals.two r;exact⟨u,v,n,e,r1,r2⟩
 refine Fo (item i ys[i] _ s _ (up _) (lZ _) I st #v[bc] λu s' ru I' cq=>?_);rw[ey]at ru;cases ru;obtain⟨kk,vv,n,e,r1,r2⟩:=main s' I' cq;refine⟨q,kk,vv,n,rfl,e,?_⟩;obtain⟨z,hd,vs,rel,dd⟩:=oR I'.aB cD;have jO:vs.length<=Wb:=by rw[<-rel.length];exact z
 have hl:(putK (eE (kps.take i) []) kps[i].1 kps[i].2).length<=Wb:=by have h1:=oQ (eE (kps.take i) []) kps[i].1 kps[i].2;have h2:=yP (kps.take i) [];simp at h2;lia
 refine wpAny_dictSet_pairs (hsz:=jO) (kX r1) dd λh' iF hs=>?_;have he:∃q,h'.get? dl=some q:=let⟨q,_,_,hq,_⟩:=iF;⟨q,hq⟩;have I2:=nj (t':=s'.toks+1) I' %[cD|True.intro] hs he (ux hl hd (rel.put kps[i].1 r2) iF);rw[BZ]at I2;have et:kps.take (i+1)=kps.take i++[kps[i]]:=by simp_all
 rw[show putK (eE (kps.take i) []) kps[i].1 kps[i].2=eE (kps.take (i+1)) []by rw[et,Fq]]at I2;exact ih (i+1) _ (j+1) _ Y' bc I2 (keep (i+1) _ _ cq λo eo=>(hs.2 it cu).trans eo)
theorem US(hc:X.calm=true):eF X (.type "dict") λxs H Q=>∃p ys kps,xs=[.ref p]/\(H p=some (.tup ys)\/Rd H p (.lst ys))/\vn H ys kps/\kps.length<=Wb/\∀l,H l=none->Q (.ref l) (upd H l (.dK (eE kps []))):=by
 intro pins s M H xs us Q I r h;obtain⟨p,ys,kps,rfl,hp,hP,hz,q⟩:=h;obtain⟨u,rfl,rx⟩:=gI r;cases rx;have hA:X.A.handled=none:=I.ok.hd hc;refine callType_codes (Q₁:=λobj s₁=>obj=.ref s.heap.objs.size/\s₁={s with heap:=s.heap.push {cls:=.type "dict",data:=.dict #[]}}) F.kt_called_dict (F.kt_typeCall_dict_1 _) F.entry_dict_init (kt_code_dict_new _ ⟨rfl,rfl⟩) ?_;rintro obj s₁⟨rfl,rfl⟩;have gO:H s.heap.objs.size=none:=I.aB.fresh (Wg _);have I1:Inv X pins M (upd H s.heap.objs.size (.dK [])) {s with heap:=s.heap.push {cls:=.type "dict",data:=.dict #[]}}:=I.laid (t':=s.toks) (λ_ _ q=>W6 _ q) (Wg _) (uy s.heap I.big);generalize eO:s.heap.objs.size=dl at gO I1;have up:∀(acc:List (Key×V))b o,H b=some o->upd H dl (.dK acc) b=some o:=λacc b o e=>%[aP (fF e gO)|e];have rJ:({s with heap:=s.heap.push {cls:=.type "dict",data:=.dict #[]}}:W4).TypeIs (.ref dl) "dict":=⟨_,by rw[<-eO];exact Wh _ rfl,rfl⟩;refine⟨rJ,F.args_dict_init_2 _ _,?_⟩;unfold Builtin.«dict.__init__»;refine W0 ?_;unfold Builtin.Dict.selfAndRest;refine W0 (QB rJ ?_);show W7 _ _ (pure (dl,[Value.ref p])) _ _ _;refine W3 ?_;show W7 _ _ (JH "dict.__init__" dl (.ref p) [] .none) _ _ _;unfold JH;have fin:∀s',Inv X pins M (upd H dl (.dK (eE kps []))) s'->EP X pins M Q (.ref dl) s':=λs' I'=>⟨.ref dl,_,I',rfl,q dl gO⟩;rcases hp with hp|hp
 .obtain⟨_,ak,r,n,e⟩:=show bX X.prog X.w _ (s.heap.push {cls:=.type "dict",data:=.dict #[]}) p (.tup ys)from I1.aB p _ (up _ p _ hp);refine W0 (JA ⟨_,e,rfl⟩ ?_);rw[if_pos Z'];refine W0 (UQ e rfl rfl rfl hA λh' tk kp=>?_);rw[if_pos (show(none:Option Value).isNone=true from rfl)];refine W0 (QU ?_);have I2:Inv X pins M (upd H dl (.dK [])) {s with heap:=h',toks:=tk}:=I1.kept kp;have yQ:h'.IsTuple p ak.toArray:=⟨_,kp _ _ e,rfl,n,rfl⟩;refine W0 (Jl (s:={s with heap:=h',toks:=tk}) yQ ?_);refine W3 ⟨plainId_quiet pB _,?_⟩;have ke:upd H dl (.dK []) h'.objs.size=none:=I2.aB.fresh (Wg _);have cu:h'.objs.size≠dl:=λz=>by grind[cD]
  have hit:H h'.objs.size=none:=by rw[aP cu]at ke;exact ke
  have fp:∀H':Hp,H' h'.objs.size=none->fX X pins H' h'.objs.size:=λH' hn=>I2.iY (Wg _) hn;refine Fs (X:=X) (pins:=pins) (M:=M) (H:=H) (dl:=dl) (it:=h'.objs.size) (ys:=ys) (kps:=kps) (tn:=λi h=>h.IsTupleIter h'.objs.size p i) hP gO hz ?_ ?_ (λi h h2 st k=>st.at k) hit cu (λs' I'=>⟨rfl,fin s' I'⟩) ys.length 0 _ 0 _ (Nat.sub_zero _) (QE _) ?_ ?_;.intro i y H' s' Q' sub hn I' st hy k;obtain⟨_,its2,r2,n2,e2⟩:=show bX X.prog X.w _ s'.heap p (.tup ys)from I'.aB p _ (sub p _ hp);obtain⟨v,hv,rv⟩:=r2.get hy;obtain⟨f0,f1,f2,f3,f4,f5⟩:=fp H' hn;refine wpAny_pyNext_tuple_item st (items:=its2.toArray) ⟨_,e2,rfl,n2,rfl⟩ (x:=v) (~~~hv) λh3 ma sb=>?_;exact k v {s' with heap:=h3} rv (I'.turned (t':=s'.toks) (λb o hb e=>(sb.2 b hb).trans e) f0 f1 f3 f4 f5) ma
  .intro H' s' Q' sub hn I' st k;obtain⟨_,its2,r2,n2,e2⟩:=show bX X.prog X.w _ s'.heap p (.tup ys)from I'.aB p _ (sub p _ hp);obtain⟨f0,f1,f2,f3,f4,f5⟩:=fp H' hn;have k6:=r2.length;exact wpAny_pyNext_tuple_end (show X.A.in1.in1.handled=none from hA) st (items:=its2.toArray) ⟨_,e2,rfl,n2,rfl⟩ V' λh3 eb=>k {s' with heap:=h3} (I'.turned (t':=s'.toks) (λb o hb e=>eb b o hb e) f0 f1 f3 f4 f5)
  .exact I2.kept (t':=tk) λb o e=>W6 _ e
  .exact⟨_,Wh _ rfl,rfl,rfl⟩
 .obtain⟨_,ak,n,r,e⟩:=show bX X.prog X.w _ (s.heap.push {cls:=.type "dict",data:=.dict #[]}) p (.lst ys)from(Rd.sub hp (up _)).ok I1.aB;refine W0 (JA ⟨_,e,rfl⟩ ?_);rw[if_pos Z'];refine W0 (UR e rfl rfl rfl hA λh' tk kp=>?_);rw[if_pos (show(none:Option Value).isNone=true from rfl)];refine W0 (QU ?_);have I2:Inv X pins M (upd H dl (.dK [])) {s with heap:=h',toks:=tk}:=I1.kept kp;have yQ:h'.IsList p ak.toArray:=⟨_,kp _ _ e,rfl,n,rfl⟩;refine W0 (JS (s:={s with heap:=h',toks:=tk}) yQ ?_);refine W3 ⟨plainId_quiet pB _,?_⟩;have ke:upd H dl (.dK []) h'.objs.size=none:=I2.aB.fresh (Wg _);have cu:h'.objs.size≠dl:=λz=>by grind[cD]
  have hit:H h'.objs.size=none:=by rw[aP cu]at ke;exact ke
  have fp:∀H':Hp,H' h'.objs.size=none->fX X pins H' h'.objs.size:=λH' hn=>I2.iY (Wg _) hn;refine Fs (X:=X) (pins:=pins) (M:=M) (H:=H) (dl:=dl) (it:=h'.objs.size) (ys:=ys) (kps:=kps) (tn:=λi h=>h.IsListIter h'.objs.size p i) hP gO hz ?_ ?_ (λi h h2 st k=>st.at k) hit cu (λs' I'=>⟨rfl,fin s' I'⟩) ys.length 0 _ 0 _ (Nat.sub_zero _) (QE _) ?_ ?_;.intro i y H' s' Q' sub hn I' st hy k;obtain⟨_,its2,n2,r2,e2⟩:=show bX X.prog X.w _ s'.heap p (.lst ys)from(Rd.sub hp sub).ok I'.aB;obtain⟨v,hv,rv⟩:=r2.get hy;obtain⟨f0,f1,f2,f3,f4,f5⟩:=fp H' hn;refine wpAny_pyNext_list_item st (items:=its2.toArray) ⟨_,e2,rfl,n2,rfl⟩ (x:=v) (~~~hv) λh3 ma sb=>?_;exact k v {s' with heap:=h3} rv (I'.turned (t':=s'.toks) (λb o hb e=>(sb.2 b hb).trans e) f0 f1 f3 f4 f5) ma
  .intro H' s' Q' sub hn I' st k;obtain⟨_,its2,n2,r2,e2⟩:=show bX X.prog X.w _ s'.heap p (.lst ys)from(Rd.sub hp sub).ok I'.aB;obtain⟨f0,f1,f2,f3,f4,f5⟩:=fp H' hn;have k6:=r2.length;exact wpAny_pyNext_list_end (show X.A.in1.in1.handled=none from hA) st (items:=its2.toArray) ⟨_,e2,rfl,n2,rfl⟩ V' λh3 eb=>k {s' with heap:=h3} (I'.turned (t':=s'.toks) (λb o hb e=>eb b o hb e) f0 f1 f3 f4 f5)
  .exact I2.kept (t':=tk) λb o e=>W6 _ e
  .exact⟨_,Wh _ rfl,rfl,rfl⟩
def cX(ae:List (aZ×D))(k:aZ):Option D:=(ae.find? λkv=>decide (kv.1=k)).map (·.2)
def putD(ae:List (aZ×D))(k:aZ)(v:D):List (aZ×D):=if(ae.any λkv=>decide (kv.1=k))=true then ae.map λkv=>if kv.1=k then(kv.1,v)else kv else ae++[(k,v)]
def jk(kps acc:List (aZ×D)):List (aZ×D):=kps.foldl (λa kv=>putD a kv.1 kv.2) acc
theorem UT{j}(h:di k=di j):k=j:=by
 cases k<;>cases j<;>simp[di]at h;.rw[h]
 .rw[uH h]
def DR(H:Hp)(O:Addr->Prop):List (Key×V)->List (aZ×D)->Prop|[],[]=>True|p::ws,q::ds=>p.1=di q.1/\Rep H O p.2 q.2/\DR H O ws ds|_,_=>False
theorem DR.of:∀{ws:List (Key×V)}{ds:List (aZ×D)},ws.map (·.1)=ds.map (λp=>di p.1)->(∀(i:Nat)p q,ws[i]?=some p->ds[i]?=some q->Rep H O p.2 q.2)->DR H O ws ds|[],[],_,_=>trivial|[],_::_,h,_=>by simp at h|_::_,[],h,_=>by simp at h|p::ws,q::ds,h,k=>by simp only[Wi,List.cons.injEq]at h;exact⟨h.1,k 0 p q rfl rfl,DR.of h.2 λi p' q' e1 e2=>k (i+1) p' q' (~~~e1) (~~~e2)⟩
theorem DR.keys:∀{ws:List (Key×V)}{ds:List (aZ×D)},DR H O ws ds->ws.map (·.1)=ds.map λp=>di p.1|[],[],_=>rfl|[],_::_,h=>h.elim|_::_,[],h=>h.elim|p::ws,q::ds,h=>by simp only[Wi,h.1,DR.keys h.2.2]
theorem DR.vals:∀{ws:List (Key×V)}{ds:List (aZ×D)},DR H O ws ds->∀(i:Nat)p q,ws[i]?=some p->ds[i]?=some q->Rep H O p.2 q.2|[],[],_,i,p,q,e,_=>by simp at e|[],_::_,h,_,_,_,_,_=>h.elim|_::_,[],h,_,_,_,_,_=>h.elim|p::ws,q::ds,h,i,p',q',e1,e2=>by cases i with|zero=>simp at e1 e2;subst e1 e2;exact h.2.1|succ i=>exact DR.vals h.2.2 i p' q' (~~~e1) (~~~e2)
theorem DR.map:∀{ws:List (Key×V)}{ds:List (aZ×D)},DR H O ws ds->(∀v d,Rep H O v d->Rep H' O' v d)->DR H' O' ws ds|[],[],_,_=>trivial|[],_::_,h,_=>h.elim|_::_,[],h,_=>h.elim|p::ws,q::ds,h,k=>⟨h.1,k _ _ h.2.1,DR.map h.2.2 k⟩
theorem nW(h:p=di q):p=di k↔q=k:=⟨λe=>UT (by rw[<-h];exact e),by grind⟩
theorem DR.any:∀{ws:List (Key×V)}{ds:List (aZ×D)}k,DR H O ws ds->(ws.any λkv=>decide (kv.1=di k))=ds.any λkv=>decide (kv.1=k)|[],[],_,_=>rfl|[],_::_,_,h=>h.elim|_::_,[],_,h=>h.elim|p::ws,q::ds,k,h=>by rw[Qj,Qj,DR.any k h.2.2];congr 1;exact decide_eq_decide.mpr (nW h.1)
theorem DR.val{H O}:∀{ws:List (Key×V)}{ds:List (aZ×D)}k,DR H O ws ds->cX ds k=none/\gq ws (di k)=none\/∃v d,cX ds k=some d/\gq ws (di k)=some v/\Rep H O v d
 |[],[],_,_=>.inl ⟨rfl,rfl⟩|[],_::_,_,h=>h.elim|_::_,[],_,h=>h.elim|p::ws,q::ds,k,h=>by
  by_cases e:q.1=k;.have e':=(nW h.1).mpr e;exact .inr ⟨p.2,q.2,#v[cX,Q7,e],uu e',h.2.1⟩
  .have e':¬p.1=di k:=λz=>e ((nW h.1).mp z);have ev:cX (q::ds) k=cX ds k:=#v[cX,Q7,e];rw[ev,uv e'];exact DR.val k h.2.2
theorem DR.append:∀{ws Ft:List (Key×V)}{ds dW:List (aZ×D)},DR H O ws ds->DR H O Ft dW->DR H O (ws++Ft) (ds++dW)|[],_,[],_,_,h'=>h'|[],_,_::_,_,h,_=>h.elim|_::_,_,[],_,h,_=>h.elim|p::ws,_,q::ds,_,h,h'=>⟨h.1,h.2.1,DR.append h.2.2 h'⟩
theorem DR.store:∀{ws:List (Key×V)}{ds:List (aZ×D)}{k:aZ}{v:V}{d:D},DR H O ws ds->Rep H O v d->DR H O (ws.map λkv=>if kv.1=di k then(kv.1,v)else kv) (ds.map λkv=>if kv.1=k then(kv.1,d)else kv)
 |[],[],_,_,_,_,_=>trivial|[],_::_,_,_,_,h,_=>h.elim|_::_,[],_,_,_,h,_=>h.elim|p::ws,q::ds,k,v,d,h,r=>by
  refine⟨?_,?_,DR.store h.2.2 r⟩
  .by_cases e:q.1=k;.dsimp only;rw[if_pos ((nW h.1).mpr e),if_pos e];exact h.1
   .dsimp only;rw[if_neg λz=>e ((nW h.1).mp z),if_neg e];exact h.1
  .by_cases e:q.1=k;.dsimp only;rw[if_pos ((nW h.1).mpr e),if_pos e];exact r
   .dsimp only;rw[if_neg λz=>e ((nW h.1).mp z),if_neg e];exact h.2.1
theorem DR.put{ds}(h:DR H O ws ds)(r:Rep H O v d):DR H O (putK ws (di k) v) (putD ds k d):=by
 unfold putK putD;rw[DR.any k h];split;.exact DR.store h r
 .exact DR.append h ⟨rfl,r,trivial⟩
theorem DR.vo:∀{kps:List (Key×V)}{vp:List (aZ×D)}{ws:List (Key×V)}{ds:List (aZ×D)},DR H O kps vp->DR H O ws ds->DR H O (eE kps ws) (jk vp ds)|[],[],_,_,_,h=>h|[],_::_,_,_,h,_=>h.elim|_::_,[],_,_,h,_=>h.elim|p::kps,q::vp,ws,ds,h,h'=>by show DR H O (eE kps (putK ws p.1 p.2)) (jk vp (putD ds q.1 q.2));rw[h.1];exact DR.vo h.2.2 (DR.put h' h.2.1)
noncomputable def cb:D->Option aZ|.int i=>some (.inl i)|.str x=>some (.inr x)|_=>none
theorem yR(h:cb d=some k)(r:Rep H O v d):v=kV (di k):=by cases d<;>simp[cb]at h<;>subst h<;>cases r<;>rfl
theorem vq(h:cb d=some k)(r:cT c M U H v d):v=kV (di k):=by
 rcases r with r|⟨a,rfl,r⟩;.exact yR h r
 .cases d<;>simp[cb]at h<;>exact r.elim
noncomputable def gP:List D->Option (List (aZ×D))
 |[]=>some []|.tup [k,v]::r=>match cb k,gP r with|some k',some r'=>some ((k',v)::r')|_,_=>none
 |_::_=>none
noncomputable def dD:D->Option S|.lst ds=>(gP ds).bind λps=>if ps.length<=Wb then some (.own (.au (jk ps [])))else none|.tup ds=>(gP ds).bind λps=>if ps.length<=Wb then some (.own (.au (jk ps [])))else none|_=>none
theorem yS:∀{ds:List D}{vs:List V}{ps:List (aZ×D)},gP ds=some ps->aH H O vs ds->∃kps,vn H vs kps/\DR H O kps ps/\kps.length=ps.length
 |[],[],ps,h,_=>by simp[gP]at h;subst h;exact⟨[],⟨rfl,λi y kv e=>by simp at e⟩,trivial,rfl⟩|[],_::_,_,_,r=>by have:=r.1;simp at this|_::_,[],_,_,r=>by have:=r.1;simp at this|d::ds,v::vs,ps,h,r=>by
  unfold gP at h;split at h;.grind
  .rename_i k w r' heq;cases heq;split at h;.rename_i k' r'' hk hr;cases h;obtain⟨kps,hP,hD,hL⟩:=yS hr r.tail;have rp:=r.head;cases rp with|tup h1 h2 h3 h4=>rename_i a us;rcases us with _|⟨x,_|⟨y,_|_⟩⟩<;>cases h3;have rk:=h4 0 x k rfl rfl;have rv:=h4 1 y w rfl rfl;have ek:=yR hk rk;subst ek;refine⟨(di k',y)::kps,⟨#v[hP.1],λi z kv e1 e2=>?_⟩,⟨rfl,rv,hD⟩,#v[hL]⟩;cases i with|zero=>simp at e1 e2;subst e1 e2;exact⟨a,rfl,h2⟩|succ i=>exact hP.2 i z kv (~~~e1) (~~~e2)
   .cases h
  .cases h
theorem bu.yT{ds}(k:Ok c M U H)(hp:H p=none)(r:DR H (Av c M U) ws ds):bu c M U H (upd H p (.dK ws)) (.ref p) (.own (.au ds)):=by
 have up:∀a w,H a=some w->upd H p (.dK ws) a=some w:=λa w e=>%[aP (fF e hp)|e];have r1:DR (upd H p (.dK ws)) (Av (c.plus p) M U) ws ds:=r.map λv d h=>(h.aV λb z=>by
 rcases z with(z|z)|z;.exact .inl (.inl z)
 .exact .inr %[z|hp]
 .exact .inl (.inr z)).keep λb w e _=>up b w e;exact⟨p,rfl,⟨ws,cD,r1.keys,r1.vals⟩,λz=>k.jc hp (.inl z),k.nC hp,k.plus hp _,hp⟩
theorem UU:QR "dict"=some (.type "dict"):=by decide+kernel
theorem UW(hc:X.calm=true)(hg:Gl X "dict")(hm:X.mg "dict"=none)(he:SB X c e fb)(hs:mE e=true:=by rfl):SE X c (.Call (.Name "dict" pp) [e] [] pos) (az dD fb):=rh (r:=λv H Q=>∃p ys kps,v=.ref p/\(H p=some (.tup ys)\/Rd H p (.lst ys))/\vn H ys kps/\kps.length<=Wb/\∀l,H l=none->Q (.ref l) (upd H l (.dK (eE kps [])))) (US hc) (λv H Q⟨p,ys,kps,e,h⟩=>⟨p,ys,kps,by rw[e],h⟩) (λc M U H x d s Q k rx hp q=>by cases d with
 |lst ds=>simp only[dD]at hp;cases hps:gP ds with|none=>rw[hps]at hp;cases hp|some ps=>
 rw[hps]at hp;simp only[Q3]at hp;split at hp;.rename_i hz;cases hp;obtain⟨a,vs,ex,ha,r⟩:=rx.lst;obtain⟨kps,hP,hD,hL⟩:=yS hps r;exact⟨a,vs,kps,ex,.inr ha,hP,%[hL|hz],λl hl=>q _ _ (.alloc k hl _) (bu.yT k hl (DR.vo hD (ws:=[]) (ds:=[]) trivial))⟩
 .cases hp|tup ds=>simp only[dD]at hp;cases hps:gP ds with|none=>rw[hps]at hp;cases hp|some ps=>
 rw[hps]at hp;simp only[Q3]at hp;split at hp;.rename_i hz;cases hp;obtain⟨a,vs,ex,ha,r⟩:=rx.tup;obtain⟨kps,hP,hD,hL⟩:=yS hps r;exact⟨a,vs,kps,ex,.inl ha,hP,%[hL|hz],λl hl=>q _ _ (.alloc k hl _) (bu.yT k hl (DR.vo hD (ws:=[]) (ds:=[]) trivial))⟩
 .cases hp|_=>simp[dD]at hp) hg hm UU he Z' Z' (nU hs)
theorem Fu{ds}(r:cT c M U H v (.au ds)):∃a ws,v=.ref a/\H a=some (.dK ws)/\DR H (Av c M U) ws ds:=by obtain⟨a,ws,e,h,k1,k2⟩:=r.au;exact⟨a,ws,e,h,DR.of k1 k2⟩
def yU(neg:Bool):R2:=λx y H Q=>∃a ae k,y=.ref a/\H a=some (.dK ae)/\x=kV k/\Q (.bl (if neg then !(gq ae k).isSome else(gq ae k).isSome)) H
theorem qaT(hu:X.A.units+64<Q1):bD X (WF .In) (yU false):=by intro pins s M H x y v u Q I rx ry h;obtain⟨a,ae,k,rfl,ha,rfl,q⟩:=h;cases ry;exact O0 Y' I (mi.k ha) rx λs' I'=>⟨.bl _,H,I',rfl,q⟩
theorem UX(hu:X.A.units+64<Q1):bD X (WF .NotIn) (yU true):=by intro pins s M H x y v u Q I rx ry h;obtain⟨a,ae,k,rfl,ha,rfl,q⟩:=h;cases ry;exact O1 Y' I (mi.k ha) rx λs' I'=>⟨.bl _,H,I',rfl,q⟩
def Fv(K:W5)(neg:Bool):R2:=λx y H Q=>yU neg x y H Q\/Dc K neg x y H Q\/∃i j,x=.str i/\y=.str j/\Q (.bl (if neg then !!(Builtin.Str.occurrences j i 0 j.length 1).isEmpty else !(Builtin.Str.occurrences j i 0 j.length 1).isEmpty)) H
theorem Fw{X:Cx}(hu:X.A.units+64<Q1):bD X (WF .NotIn) (Fv X.K true):=(UX hu).or (ON.or N_)
noncomputable def dQ(neg:Bool)(x y:D):Option S:=match y with
 |.au ds=>(cb x).map λk=>.pure (.bl (if neg then !(cX ds k).isSome else(cX ds k).isSome))|.str y=>match x with|.str [n]=>some (.pure (.bl (if neg then !decide (n∈y)else decide (n∈y))))|_=>none
 |.lst ds=>match x,gy ds with|.str z,some ts=>some (.pure (.bl (if neg then !ts.contains z else ts.contains z)))|_,_=>none
 |.tup ds=>match x,gy ds with|.str z,some ts=>some (.pure (.bl (if neg then !ts.contains z else ts.contains z)))|_,_=>none
 |_=>none
theorem Fx(z)(ts:List Tx):um (V.str (toS z)) (ts.map λz=>V.str (toS z))=ts.contains z:=by unfold um;rw[Ud];induction ts with|nil=>rfl|cons t r ih=>rw[Qj,List.contains_cons,ih];congr 1;show(toS t==toS z)=(z==t);rw[qT,Bool.beq_comm]
theorem Fy(ts:List Tx):(ts.map λz=>V.str (toS z)).all kU=true:=by rw[List.all_map];exact List.all_eq_true.mpr λ_ _=>rfl
theorem Fz{K}(neg):cB (Fv K neg) (dQ neg):=by
 intro c M U H x y d e s Q k rx ry hp q;cases e<;>first|(simp[dQ]at hp;done)|skip
 .rename_i z;simp only[dQ]at hp;split at hp<;>first|(cases hp;done)|skip
  rename_i n;cases hp;refine .inr (.inr ⟨toS [n],toS z,rx.str,ry.str,?_⟩);rw[show toS [n]=⟨#[n]⟩from rfl,PySem.StrLaws.found_one,show(toS z).cps.toList=z by simp[toS]];exact q _ H (.refl k) (.bl _)
 .rename_i ds;simp only[dQ]at hp;split at hp<;>first|(cases hp;done)|skip
  rename_i z ts ht;cases hp;obtain⟨a,vs,ea,ha,r⟩:=ry.tup;have ev:=oZ ht r;refine .inr (.inl ⟨a,vs,ea,.inr (.of ha),by rw[rx.str];rfl,%[ev|Fy ts],?_⟩);rw[rx.str,ev,Fx];exact q _ H (.refl k) (.bl _)
 .rename_i ds;simp only[dQ]at hp;split at hp<;>first|(cases hp;done)|skip
  rename_i z ts ht;cases hp;obtain⟨a,vs,ea,ha,r⟩:=ry.lst;have ev:=oZ ht r;refine .inr (.inl ⟨a,vs,ea,.inl (.inl ha),by rw[rx.str];rfl,%[ev|Fy ts],?_⟩);rw[rx.str,ev,Fx];exact q _ H (.refl k) (.bl _)
 .rename_i ds;simp only[dQ]at hp;cases hk:cb d with|none=>rw[hk]at hp;cases hp|some kk=>
   rw[hk]at hp;cases hp;obtain⟨a,ws,ea,ha,dr⟩:=Fu ry;refine .inl ⟨a,ws,di kk,ea,ha,vq hk rx,?_⟩;have:(gq ws (di kk)).isSome=(cX ds kk).isSome:=by
    rcases dr.val kk with⟨e1,e2⟩|⟨v,d,e1,e2,_⟩;.rw[e1,e2];rfl
    .rw[e1,e2];rfl
   rw[this];exact q _ H (.refl k) (.bl _)
def rK:R2:=λx y H Q=>∃a ae k v,x=.ref a/\H a=some (.dK ae)/\y=kV k/\gq ae k=some v/\Q v H
noncomputable def aN:D->D->Option S|.au ds,k=>(cb k).bind λk=>(cX ds k).map .pure|x,y=>aw x y
theorem UY(hu:X.A.units+64<Q1):g9 X rK:=by intro value slice pins s M H x y v u Q I rx ry h hs;obtain⟨a,ae,k,w,rfl,ha,rfl,hv,q⟩:=h;cases rx;obtain⟨_,_,vs,_,dd⟩:=oR I.aB ha;have hT:s.TypeIs (.ref a) "dict":=dd.typeIs;exact tail_any hT F.slot_dict_getitem.lookup (OZ (v:=w) Y' I (by rw[<-hv];exact mi.k ha) ry λw' s' I' cR=>⟨w,H,I',cR,q⟩) hs
theorem FA:cB (λx y H Q=>rK x y H Q\/oP K x y H Q) aN:=by intro c M U H x y d e s Q k rx ry hp q;cases d with
 |au ds=>simp only[aN]at hp;cases hk:cb e with|none=>rw[hk]at hp;cases hp|some kk=>
 rw[hk]at hp;simp only[Q3,Q5]at hp;obtain⟨dv,hv,rfl⟩:=hp;obtain⟨a,ws,ea,ha,dr⟩:=Fu rx;rcases dr.val kk with⟨e1,e2⟩|⟨v,d',e1,e2,r⟩;.grind
 .rw[e1]at hv;cases hv;exact .inl ⟨a,ws,di kk,v,ea,ha,vq hk ry,e2,q v H (.refl k) r⟩
 |_=>exact .inr (yr c M U H x y _ e s Q k rx ry hp q)
open Sem(wp)
section
open AutoSeq1(wpAny_loadPart')
section
variable{s:W4}
theorem UZ{x}{items}(hit:s.heap.IsTupleIter it l i)(hl:s.heap.IsTuple l items)(hx:items[i]?=some x)(hQ:∀h',h'.IsTupleIter it l (i+1)->Qx it s.heap h'->Q x {s with heap:=h'}):W7 (model prog w) A (WS (.ref it)) Q E s:=by obtain⟨o,ho,hc,hd⟩:=id hit;obtain⟨ol,hol,_,nl,gO⟩:=hl;unfold WS;refine W0 (WE (name:=Str.ofString "__next__") hit.typeIs Jr (WA Jr hit.typeIs F.entry_tuple_iterator_next ?_ (F.args_tuple_iterator_next_1 _)));show W7 _ _ (field (.ref it) 0>>=_) _ _ s;refine W0 (WM ho hd (x:=.ref l) rfl ?_);show W7 _ _ (if(Value.ref l==Value.none)=true then _ else _) _ _ s;rw[if_neg (show¬(Value.ref l==Value.none)=true from WD)];show W7 _ _ (field (.ref it) 1>>=_) _ _ s;refine W0 (WM ho hd (x:=.int i 0) rfl ?_);show W7 _ _ (seqItems? (.ref l)>>=_) _ _ s;refine W0 (QL hol gO ?_);simp only[Qu,hx];refine W0 (Uj ho hd U' (W3 ⟨x,rfl,W3 (hQ _ ?_ (QN ..))⟩));exact⟨_,QP _ ho (Obj.isFreed_of_fields (Obj.data_mapFields hd _)),(Obj.cls_mapFields ..).trans hc,by rw[Obj.data_mapFields hd];simp[Q6]⟩
theorem U_{items}(hh:A.handled=none)(hit:s.heap.IsTupleIter it l i)(hl:s.heap.IsTuple l items)(hx:items[i]?=none)(hE:∀h' e,Heap.ExtBut it s.heap h'->(∃o,h'.get? e=some o/\o.cls=.type "StopIteration")->E (.ref e) {s with heap:=h'}):W7 (model prog w) A (WS (.ref it)) Q E s:=by
 obtain⟨o,ho,hc,hd⟩:=id hit;obtain⟨ol,hol,_,nl,gO⟩:=hl;unfold WS;refine W0 (WE (name:=Str.ofString "__next__") hit.typeIs Jr (WA Jr hit.typeIs F.entry_tuple_iterator_next ?_ (F.args_tuple_iterator_next_1 _)));show W7 _ _ (field (.ref it) 0>>=_) _ _ s;refine W0 (WM ho hd (x:=.ref l) rfl ?_);show W7 _ _ (if(Value.ref l==Value.none)=true then _ else _) _ _ s;rw[if_neg (show¬(Value.ref l==Value.none)=true from WD)];show W7 _ _ (field (.ref it) 1>>=_) _ _ s;refine W0 (WM ho hd (x:=.int i 0) rfl ?_);show W7 _ _ (seqItems? (.ref l)>>=_) _ _ s;refine W0 (QL hol gO ?_);simp only[Qu,hx];refine W0 (QU (W0 (Uj ho hd U' ?_)));show W7 _ _ (newExc (.type "StopIteration") []>>=_) _ _ _;refine W0 ?_;simp only[newExc,newTuple];refine W0 (WO ?_ (by size_fits));refine W0 (m:=firstArgMember _ _) (wpAny_of_eq (a:=Value.none) (by first|rfl|(simp only[firstArgMember];rfl)) ?_);refine WO ?_ (by size_fits);simp only[raiseNew];refine W0 (wpAny_handled ?_);first|rw[show A.in1.handled=none from hh]|rw[hh]
 refine W0 (W3 (wpAny_throw ?_));exact hE _ _ (((QN ..).extBut.push _).push _) ⟨_,Wh _ rfl,rfl⟩
end
theorem IsTuple.at'{l}(x:h.IsTuple l items)(k:∀o,h.get? l=some o->h'.get? l=some o):h'.IsTuple l items:=by obtain⟨o,ho,r⟩:=x;exact⟨o,k o ho,r⟩
theorem Draws.tuple'(hh:A.handled=none)(it l)(cu:l≠it)(items:Array Value):Draws prog w A it [it,l] items.size (λi v=>items[i]?=some v) λi h=>h.IsTupleIter it l i/\h.IsTuple l items where
 live:=λ_ _ st=>let⟨o,ho,_⟩:=st.1;⟨o,ho⟩
 frame:=λ_ _ _ st hk=>⟨st.1.at λo e=>hk it U' o e,IsTuple.at' st.2 λo e=>hk l U' o e⟩
 item:=λi s Q E hi st hQ=>by refine UZ st.1 st.2 (x:=items[i]) #v[hi] λh' ko g_=>?_;exact hQ _ h' s.toks #v[hi] ⟨ko,IsTuple.at' st.2 λo e=>(g_.2 l cu).trans e⟩ g_
 done:=λs Q E st hE=>U_ hh st.1 st.2 U' hE
theorem Va(l items n au)(sl:Array (Option Value)):Meets (Builtin.«enumerate.__new__» ⟨[.type "enumerate",.ref l],[]⟩) λ_ R s=>s.heap.get? l=some {cls:=.type "tuple",dict:=au,data:=.seq items n,slots:=sl}/\R (.ok (.ret (.ref (s.heap.push {cls:=.type "tuple_iterator",data:=.fields #[.ref l,.int 0 0]}).objs.size))) {s with heap:=(s.heap.push {cls:=.type "tuple_iterator",data:=.fields #[.ref l,.int 0 0]}).push {cls:=.type "enumerate",data:=.fields #[.none,.bool false,.ref s.heap.objs.size,Q6 0,.none,.none]}}:=.of_wp λprog w A R s h=>by
  obtain⟨hp,g,d,tk,os⟩:=s;obtain⟨hl,h⟩:=h;have jR:=sub_enumerate;have hL:Heap.IsTuple (Shared.heap ⟨hp,g,d,tk,os⟩) l items:=⟨_,hl,rfl,n,rfl⟩;wp_walk using QD hl;refine wpAny_stack_any λst=>W3 ?_;split
  .rename_i c _ _ _ _ _;cases c==Value.type "enumerate";.wp_walk using QD hl,Jl hL;exact⟨_,rfl,h⟩
   .wp_walk using QD hl,Jl hL;exact⟨_,rfl,h⟩
  .wp_walk using QD hl,Jl hL;exact⟨_,rfl,h⟩
theorem Vb(hL:s.heap.IsTuple l items)(h:∀h',IsEnum h' (s.heap.objs.size+1) s.heap.objs.size 0 .none->h'.IsTupleIter s.heap.objs.size l 0->h'.objs.size=s.heap.objs.size+2->(∀b o,s.heap.get? b=some o->h'.get? b=some o)->Q (.ref (s.heap.objs.size+1)) {s with heap:=h'}):W7 (model prog w) A (call (.type "enumerate") [.ref l]) Q E s:=by
 obtain⟨⟨c,au,dt,sl⟩,hl,hc,n,hd⟩:=hL;replace hc:c=.type "tuple":=hc;replace hd:dt=.seq items n:=hd;subst hc hd;refine callType_new F.called_enumerate Z' (F.typeCall_enumerate_1 _) (F.newCall_enumerate_1 _) (λobj=>F.args_object_init_2 obj _) F.entry_enumerate_new (Va l items n au sl) ⟨hl,?_⟩;have hz:(s.heap.push {cls:=.type "tuple_iterator",data:=.fields #[.ref l,.int 0 0]}).objs.size=s.heap.objs.size+1:=Qw ..;show _/\_;rw[hz];have he:IsEnum ((s.heap.push {cls:=.type "tuple_iterator",data:=.fields #[.ref l,.int 0 0]}).push {cls:=.type "enumerate",data:=.fields #[.none,.bool false,.ref s.heap.objs.size,Q6 0,.none,.none]}) (s.heap.objs.size+1) s.heap.objs.size 0 .none:=by have:=Wh (s.heap.push {cls:=.type "tuple_iterator",data:=.fields #[.ref l,.int 0 0]}) (o:={cls:=.type "enumerate",data:=.fields #[.none,.bool false,.ref s.heap.objs.size,Q6 0,.none,.none]}) rfl;rw[hz]at this;exact this
 refine⟨⟨_,he,rfl⟩,h _ he ⟨_,W6 _ (Wh _ rfl),rfl,rfl⟩ (by rw[Qw,hz]) λb o x=>W6 _ (W6 _ x)⟩
end
section
variable{s:W4}
theorem Inv.nX(fp:List Addr)(I:Inv X pins M H s)(k:∀b o,b∉fp->s.heap.get? b=some o->h'.get? b=some o)(hf:∀b∈fp,fX X pins H b):Inv X pins M H {s with heap:=h',toks:=t'}:=by
 have lZ:∀b u,H b=some u->b∉fp:=λb u e z=>by rw[(hf b z).1]at e;cases e
 refine I.step (g':=s.gens) (d':=s.drawn) (ch:=fp) (λb hb=>?_) (λb o _ _ hc e _=>k b o hc e) (λb o _ _ hc e _=>⟨o.slots,k b o hc e⟩) (λ_ _ _ _ n=>n) (λb o hc e=>⟨o,k b o hc e⟩) (λ_ _ e=>e) (λ_ _ _ e=>e) (λb ps e=>⟨#[],by rw[e];simp⟩) (λm hm=>?_) (λb u e=>?_) I.bare;.obtain⟨f0,f1,f2,f3,f4,f5⟩:=hf b hb;exact⟨f3,f1,f4,f5⟩
 .obtain⟨o,es,ep,ho,r⟩:=hm;exact⟨o,es,ep,k _ o (λz=>(hf _ z).2.1 rfl) ho,r⟩
 .refine(I.aB b u e).gH (λc v hc q=>k c v ?_ q) (λ_ q=>q) (λ_ _ q=>q) λ_ _ _ q=>q;rcases hc with z|z;.rw[z];exact lZ b u e
  .exact lZ c _ z
theorem Inv.FC{e i}(I:Inv X pins M H s)(hf:∀b∈[e,it],fX X pins H b)(bc:∀b∈[e,it],b<s.heap.objs.size)(ru:RelV y u)(hT:h'.get? s.heap.objs.size=some {cls:=.type "tuple",data:=.seq #[.int i tk,u]})(k:∀b o,b≠e->b≠it->s.heap.get? b=some o->h'.get? b=some o):Inv X pins M (upd H s.heap.objs.size (.tup [.int i,y])) {s with heap:=h',toks:=t'}:=by
 have I1:Inv X pins M (upd H s.heap.objs.size (.tup [.int i,y])) {s with heap:=s.heap.push {cls:=.type "tuple",data:=.seq #[.int i tk,u]},toks:=t'}:=I.laid (t':=t') (λb o e=>W6 _ e) (Wg _) (show bX X.prog X.w _ _ _ (.tup [.int i,y])from⟨by simp only[WP,U5];rw[QK];decide,[.int i tk,u],.cons ⟨_,rfl⟩ (.cons ru .nil),iB.new _ _⟩);have:=Inv.nX (t':=t') (h':=h') [e,it] I1 (λb o hb eb=>?_) λb hb=>?_;.exact this
 .have he:b≠e:=λz=>hb #v[z];have hi:b≠it:=λz=>hb #v[z];rcases Heap.get?_push_cases eb with⟨z,z'⟩|eb;.subst z z';exact hT
  .exact k b o he hi eb
 .obtain⟨f0,r⟩:=hf b hb;refine⟨?_,r⟩;have hl:=bc b hb;rw[aP (WR hl)];exact f0
def Vc(K:W5)(a:Addr):It:=⟨(uc K a).go,λi H x H'=>∃p y,H p=none/\(∀xs,cp K H a xs->xs[i]?=some y)/\H'=upd H p (.tup [.int i,y])/\x=.ref p,λi H=>∃xs,cp K H a xs/\xs.length=i⟩
def FE(K:W5)(a:Addr):It:=⟨(ud K a).go,λi H x H'=>∃p y,H p=none/\(∀xs,cE K H a xs->xs[i]?=some y)/\H'=upd H p (.tup [.int i,y])/\x=.ref p,λi H=>∃xs,cE K H a xs/\xs.length=i⟩
theorem zgO{ctx}(a e it)(rL:e≠it)(Vd:a≠e)(rM:a≠it):Turn P w K (.Tuple elts ctx pos) (Vc K a) [e,it] e λi h=>(∃old,IsEnum h e it i old)/\h.IsListIter it a i where
 mem:=by simp
 obj:=λi h st b hb=>by
  obtain⟨⟨old,he⟩,hi⟩:=st;have hb:b=e\/b=it:= ~~~hb;rcases hb with z|z;.grind
  .subst z;obtain⟨o,e,c,d⟩:=hi;exact⟨o,e,λv z=>by rw[d]at z;cases z⟩
 keep:=λi h h' st k=>⟨let⟨old,he⟩:=st.1;⟨old,k e U' _ he⟩,st.2.at λo q=>k it U' o q⟩
 item:=by
  intro X hP hw hK hc i pins s M H E I hf st hg;subst hP hw hK;obtain⟨xs,x,hq,hx⟩:=hg;obtain⟨ak,rv,p,hz⟩:=I.list hq;obtain⟨u,hu,ru⟩:=rv.get hx;obtain⟨⟨old,he⟩,hi⟩:=st;have hL:s.heap.IsList a ak.toArray:=p.isList;have D:=Draws.list (prog:=X.prog) (w:=X.w) (A:=X.A.in1) (I.ok.hd hc) it a rM ak.toArray;have yV:i<ak.length:=(W9.mp hu).1;have bc:∀b∈[e,it],b<s.heap.objs.size:=λb hb=>by
   have hb:b=e\/b=it:= ~~~hb;rcases hb with z|z;.subst z;exact Wp he
   .subst z;obtain⟨o,q,_⟩:=hi;exact Wp q
  refine wpAny_pyNext_enum_itemD D he ⟨hi,hL⟩ (~~~yV) rL (by grind) λx' h' tk hP ho g_ hT hsz hk=>?_;have ex:x'=u:=by have:ak.toArray[i]?=some x':=hP;rw[List.getElem?_toArray,hu]at this;cases this;rfl
  subst ex;refine⟨_,rfl,wpAny_letOwnedTupleGo_enum ho λh2 yW sb=>?_⟩;have k2:∀b o,b≠e->b≠it->s.heap.get? b=some o->h2.get? b=some o:=λb o q1 q2 q=>(sb.2 b q1).trans (hk b o q1 q2 q);have yX:h2.get? s.heap.objs.size=some {cls:=.type "tuple",data:=.seq #[.int i tk,x']}:=(sb.2 _ (Jj (bc e U'))).trans hT;have I2:Inv X pins M (upd H s.heap.objs.size (.tup [.int i,x])) {s with heap:=h2,toks:=tk+1}:=Inv.FC (t':=tk+1) I hf bc ru yX k2;refine⟨.ref s.heap.objs.size,_,I2,rfl,⟨s.heap.objs.size,x,I.aB.fresh (Wg _),λys hy=>%[I.xf hy hq|hx],rfl,rfl⟩,⟨⟨x',~~~yW⟩,g_.1.at λo q=>(sb.2 it (Ne.symm rL)).trans q⟩,λb hb=>?_⟩;rw[aP (WR (bc b hb))];exact(hf b hb).1
 done:=by
  intro X hP hw hK hc i pins s M H E I hf st hg;subst hP hw hK;obtain⟨xs,hq,hx⟩:=hg;obtain⟨ak,rv,p,hz⟩:=I.list hq;obtain⟨⟨old,he⟩,hi⟩:=st;have hL:s.heap.IsList a ak.toArray:=p.isList;have hl:=rv.length;have D:=Draws.list (prog:=X.prog) (w:=X.w) (A:=X.A.in1) (I.ok.hd hc) it a rM ak.toArray;have hn:ak.toArray.size=i:=by simp;lia
  obtain⟨f0,f1,f2,f3,f4,f5⟩:=hf it U';exact wpAny_pyNext_enum_endD D he ⟨%[hn|hi],hL⟩ λh' eb=>⟨rfl,I.turned (t':=s.toks) (λb o hb q=>eb b o hb q) f0 f1 f3 f4 f5⟩
 self:=λ_ _ _ _ _ st h=>by obtain⟨⟨old,he⟩,_⟩:=st;exact wpAny_pyIter_enum he h
theorem Ve{ctx}(a e it)(rL:e≠it)(Vd:a≠e)(rM:a≠it):Turn P w K (.Tuple elts ctx pos) (FE K a) [e,it] e λi h=>(∃old,IsEnum h e it i old)/\h.IsTupleIter it a i where
 mem:=by simp
 obj:=λi h st b hb=>by
  obtain⟨⟨old,he⟩,hi⟩:=st;have hb:b=e\/b=it:= ~~~hb;rcases hb with z|z;.grind
  .subst z;obtain⟨o,e,c,d⟩:=hi;exact⟨o,e,λv z=>by rw[d]at z;cases z⟩
 keep:=λi h h' st k=>⟨let⟨old,he⟩:=st.1;⟨old,k e U' _ he⟩,st.2.at λo q=>k it U' o q⟩
 item:=by
  intro X hP hw hK hc i pins s M H E I hf st hg;subst hP hw hK;obtain⟨xs,x,hq,hx⟩:=hg;obtain⟨ak,rv,p,hz⟩:=I.tuple hq;obtain⟨u,hu,ru⟩:=rv.get hx;obtain⟨⟨old,he⟩,hi⟩:=st;have hL:s.heap.IsTuple a ak.toArray:=p;have D:=Draws.tuple' (prog:=X.prog) (w:=X.w) (A:=X.A.in1) (I.ok.hd hc) it a rM ak.toArray;have yV:i<ak.length:=(W9.mp hu).1;have bc:∀b∈[e,it],b<s.heap.objs.size:=λb hb=>by
   have hb:b=e\/b=it:= ~~~hb;rcases hb with z|z;.subst z;exact Wp he
   .subst z;obtain⟨o,q,_⟩:=hi;exact Wp q
  refine wpAny_pyNext_enum_itemD D he ⟨hi,hL⟩ (~~~yV) rL (by grind) λx' h' tk hP ho g_ hT hsz hk=>?_;have ex:x'=u:=by have:ak.toArray[i]?=some x':=hP;rw[List.getElem?_toArray,hu]at this;cases this;rfl
  subst ex;refine⟨_,rfl,wpAny_letOwnedTupleGo_enum ho λh2 yW sb=>?_⟩;have k2:∀b o,b≠e->b≠it->s.heap.get? b=some o->h2.get? b=some o:=λb o q1 q2 q=>(sb.2 b q1).trans (hk b o q1 q2 q);have yX:h2.get? s.heap.objs.size=some {cls:=.type "tuple",data:=.seq #[.int i tk,x']}:=(sb.2 _ (Jj (bc e U'))).trans hT;have I2:Inv X pins M (upd H s.heap.objs.size (.tup [.int i,x])) {s with heap:=h2,toks:=tk+1}:=Inv.FC (t':=tk+1) I hf bc ru yX k2;refine⟨.ref s.heap.objs.size,_,I2,rfl,⟨s.heap.objs.size,x,I.aB.fresh (Wg _),λys hy=>%[I.xg hy hq|hx],rfl,rfl⟩,⟨⟨x',~~~yW⟩,g_.1.at λo q=>(sb.2 it (Ne.symm rL)).trans q⟩,λb hb=>?_⟩;rw[aP (WR (bc b hb))];exact(hf b hb).1
 done:=by
  intro X hP hw hK hc i pins s M H E I hf st hg;subst hP hw hK;obtain⟨xs,hq,hx⟩:=hg;obtain⟨ak,rv,p,hz⟩:=I.tuple hq;obtain⟨⟨old,he⟩,hi⟩:=st;have hL:s.heap.IsTuple a ak.toArray:=p;have hl:=rv.length;have D:=Draws.tuple' (prog:=X.prog) (w:=X.w) (A:=X.A.in1) (I.ok.hd hc) it a rM ak.toArray;have hn:ak.toArray.size=i:=by simp;lia
  obtain⟨f0,f1,f2,f3,f4,f5⟩:=hf it U';exact wpAny_pyNext_enum_endD D he ⟨%[hn|hi],hL⟩ λh' eb=>⟨rfl,I.turned (t':=s.toks) (λb o hb q=>eb b o hb q) f0 f1 f3 f4 f5⟩
 self:=λ_ _ _ _ _ st h=>by obtain⟨⟨old,he⟩,_⟩:=st;exact wpAny_pyIter_enum he h
end
def pC(ds:List D):List D:=ds.mapIdx λi d=>D.tup [.int (i:Nat),d]
theorem FG{d}(h:(pC ds)[i]?=some d):∃d',ds[i]?=some d'/\d=.tup [.int i,d']:=by unfold pC at h;rw[List.getElem?_mapIdx]at h;cases e:ds[i]? with|none=>rw[e]at h;cases h|some d'=>rw[e]at h;cases h;exact⟨d',rfl,rfl⟩
theorem aH.pair{i}(r:Rep H O v d):aH H O [.int i,v] [.int i,d]:=by refine⟨rfl,λj v' d' e1 e2=>?_⟩;match j with|0=>simp at e1 e2;subst e1 e2;exact .int _|1=>simp at e1 e2;subst e1 e2;exact r|j+2=>simp at e1
section
variable{s:W4}
theorem Vf(n:Nat):QO none none (-1) (n:Int)=((n:Int)-1,-1):=by unfold QO;simp
theorem Vg(n:Nat):Qo ((n:Int)-1) (-1) (-1)=n:=by unfold Qo;simp;try lia
theorem Vh{t}{Q:Int×Int×Nat->W4->Prop}(hs:s.heap.IsSliceOf sl .none .none (.int (-1) t))(h:Q ((n:Int)-1,-1,n) s):W7 (model prog w) A (Jp (.ref sl) (pure (n:Int))) Q E s:=by obtain⟨os,hos,hcs,ja⟩:=id hs;unfold Jp Builtin.Slice.sliceFields;refine W0 (W0 (WM hos ja (x:=.none) rfl (W0 (WM hos ja (x:=.none) rfl (W0 (WM hos ja (x:=.int (-1) t) rfl (W3 ?_)))))));refine W0 (slicePart_int ?_);show W7 _ _ (if((-1:Int)==0)=true then _ else _) _ _ s;rw[if_neg Z'];refine W0 (slicePart_none (W0 (slicePart_none (W0 (W3 ?_)))));show W7 _ _ (match QO none none (-1) (n:Int)with|(lo,hi)=>pure (lo,(-1:Int),Qo lo hi (-1))) _ _ s;rw[Vf n];show W7 _ _ (pure ((n:Int)-1,(-1:Int),Qo ((n:Int)-1) (-1) (-1))) _ _ s;rw[Vg];exact W3 h
theorem FH:∀{l:List α},(∀x∈l,f x=g x)->l.filterMap f=l.filterMap g|[],_=>rfl|x::l,h=>by rw[JF,JF,h x U',FH λy hy=>h y #v[hy]]
theorem Vi(xs:Array Value):((WB xs.size).filterMap λ(m:Nat)=>xs[(((xs.size:Int)-1)+(m:Int)*-1).toNat]?).toArray=xs.toList.reverse.toArray:=by
 have e:((WB xs.size).filterMap λ(m:Nat)=>xs[(((xs.size:Int)-1)+(m:Int)*-1).toNat]?)=((WB xs.size).map λk=>xs.size-1-k).filterMap (xs[.]?):=by
  rw[List.filterMap_map];refine FH λm hm=>?_;have:(((xs.size:Int)-1)+(m:Int)*-1).toNat=xs.size-1-m:=by have:=List.mem_range.mp hm;lia
  simp only[this,Function.comp]
 rw[e,PySem.W.krv_range,List.filterMap_reverse,PySem.W.krv_all]
theorem Vj(ht:IsTup s.heap t items)(hs:s.heap.IsSliceOf sl .none .none (.int (-1) tk))(h:Q (.ref s.heap.objs.size) {s with heap:=s.heap.push {cls:=.type "tuple",data:=.seq items.toList.reverse.toArray}})(hsz:items.size<=Wb):W7 (model prog w) A (JK (.ref t) (.ref sl)) Q E s:=by
 have kT:sizeOk (.seq items.toList.reverse.toArray):=by show items.toList.reverse.toArray.size<=Wb;simpa using hsz
 obtain⟨os,hos,hcs,ja⟩:=id hs;have qI:s.TypeIs (.ref sl) "slice":=⟨os,hos,hcs⟩;unfold JK;try with_reducible refine WI ?_
 first|refine W0 (W3 ?_)|skip
 refine W0 (JR ht.typeIs Z' ?_);refine W0 (WE (name:=Str.ofString "__getitem__") ht.typeIs Qv (WA Qv ht.typeIs entry_tuple_getitem ?_ (args_tuple_getitem _ _)));show W7 _ _ (Jq (.ref t)>>=_) _ _ s;refine W0 (tupleItemsOf_ ht ?_);refine W0 (JA qI ?_);rw[if_pos Z'];refine W0 (Vh hs ?_);have f6:¬(((items.size:Int)-1)==0&&(-1:Int)==1&&items.size==items.size)=true:=by intro q;rw[Wy,Wy]at q;exact absurd q.1.2 Z'
 show W7 _ _ (if(((items.size:Int)-1)==0&&(-1:Int)==1&&items.size==items.size)=true then _ else _) _ _ s;rw[if_neg f6,Vi];first|exact W0 (m:=Qr _) (WO (W3 ⟨_,rfl,W3 h⟩) kT)|exact W0 (m:=Qr _) (WO (W0 (W3 (W3 ⟨_,rfl,W3 h⟩))) kT)|exact W0 (W0 (m:=Qr _) (WO (W3 (W3 ⟨_,rfl,W3 h⟩)) kT))|exact W0 (W0 (m:=Qr _) (WO (W3 ⟨_,rfl,W3 h⟩) kT))
end
theorem Vk:Ea X λx H Q=>∃a xs,x=.ref a/\cE X.K H a xs/\∀p,H p=none->Q (.ref p) (upd H p (.tup xs.reverse)):=by intro pins s M H x v t sl Q I rx hs h;obtain⟨a,xs,rfl,hx,q⟩:=h;cases rx;obtain⟨ak,r,ht,hz⟩:=I.tuple hx;have hlen:=r.length;refine⟨"tuple",_,PyProof.Rows.slot_tuple_getitem.lookup,ht.typeIs,?_⟩;refine Vj ht hs ?_ (by rw[Ww];lia);refine⟨.ref s.heap.objs.size,_,I.laid (t':=s.toks) (o:=.tup xs.reverse) (λb ob q=>W6 _ q) (Wg _) ?_,rfl,q _ (I.aB.fresh (Wg _))⟩;exact⟨%[List.length_reverse|hz],_,r.reverse,iB.new _ _⟩
section
variable{p2:Pos}
noncomputable def pD:D->Option S|.int i=>some (.pure (.int (-i)))|_=>none
theorem Vl(he:SB X c e fb):SE X c (.UnaryOp .USub e pos) (az pD fb):=PE.weak (Cq Cw he) λM H Q h=>rg (λc M U H x d s Q k rx hp q=>by cases d with|int i=>simp only[pD,Wd]at hp;subst hp;exact⟨i,rx.int,q _ H (.refl k) (.int _)⟩|_=>simp[pD]at hp) h
noncomputable def vt:D->Bool|.aJ=>true|_=>false
noncomputable def pE(neg:Bool)(d e:D):Option S:=match e with|.aJ=>some (.pure (.bl (neg !=vt d)))|_=>none
theorem Vm:cB (λx y H Q=>y=.aJ/\Q (.bl (decide (x=.aJ))) H) (pE false):=by
 intro c M U H x y d e s Q k rx ry hp q
 cases e with|aJ=>
  simp only[pE,Wd]at hp;subst hp;have ey:y=.aJ:=by
   rcases ry with r|⟨a,e,o⟩;.cases r;rfl
   .exact o.elim
  have:decide (x=V.aJ)=(false !=vt d):=by
   rcases rx with r|⟨a,e,o⟩;.cases r<;>simp[vt]
   .subst e;cases d<;>first|exact o.elim|simp[vt]
  exact⟨ey,%[this|q _ H (.refl k) (.bl _)]⟩|_=>simp[pE]at hp
end
def Fc.yY(c:Fc)(i:Nat)(a:Addr):Fc:=⟨c.H₀,λb=>c.B b\/b=a,(i,a)::c.pin,c.xc⟩
section
variable{a:Addr}
theorem Own.unset(h:Own M (U.set i none) b):Own M U b:=by
 obtain⟨j,d',e1,e2⟩:=h;by_cases hj:i=j
 .subst hj;rw[Q8]at e1;split at e1;.split at e1<;>cases e1
  .rename_i q;exact absurd rfl q
 .rw[Wa hj]at e1;exact⟨j,d',e1,e2⟩
theorem Vn(k:Ok c M U H)(e:U[i]?=some (some (.own (.lst ds))))(ea:M[i]?=some (some (.ref a)))(b)(z:Av (c.yY i a) M (U.set i none) b):Av c M U b:=by
 rcases z with(z|z)|z;.exact .inl z
 .subst z;exact .inr ⟨i,_,e,ea⟩
 .exact .inr z.unset
theorem Ok.yY(k:Ok c M U H)(e:U[i]?=some (some (.own (.lst ds))))(ea:M[i]?=some (some (.ref a))):Ok (c.yY i a) M (U.set i none) H:=by
 have sub:=Vn k e ea;have ne:∀j d,(U.set i none)[j]?=some (some d)->i≠j/\U[j]?=some (some d):=λj d q=>by
  by_cases hj:i=j;.subst hj;rw[Wr (W9.mp e).1]at q;cases q
  .rw[Wa hj]at q;exact⟨hj,q⟩
 refine⟨λb o h n=>k.keep b o h λ⟨j,z⟩=>n ⟨j,Wn _ z⟩,λb z=>?_,λb⟨j,z⟩=>?_,%[Qg|k.len],λj d q=>?_,λj d q=>?_,λj l b d d' q1 q2=>?_,λp hp=>?_⟩
 .rcases z with z|z;.exact k.bd b z
  .subst z;exact k.qS ⟨i,_,e,ea⟩
 .rcases Wf.mp z with z|z;.cases z;exact k.qS ⟨i,_,e,ea⟩
  .exact k.eJ b ⟨j,z⟩
 .obtain⟨_,q⟩:=ne j _ q;obtain⟨v,g1,g2⟩:=k.slot j d q;exact⟨v,g1,g2.aV λb z=>.inl (sub b z)⟩
 .obtain⟨hj,q⟩:=ne j _ q;obtain⟨b,g1,g2,g3,g4⟩:=k.own j d q;refine⟨b,g1,g2.aV λb z=>.inl (sub b z),g3.imp (λ⟨l,z⟩=>⟨l,Wn _ z⟩) id,λz=>?_⟩;rcases z with z|z;.exact g4 z
  .subst z;exact hj (k.inj i j b _ _ e q ea g1)
 .exact k.inj j l b d d' (ne j _ q1).2 (ne l _ q2).2
 .rcases Wf.mp hp with z|z;.subst z;exact ea
  .exact k.pinned p z
end
def qaU(i:Nat)(g:DG)(b:DS):DS:=λU=>match U[i]? with
 |some (some (.own (.lst ds)))=>(forL g b ds (U.set i none)).bind λfl ZB=>match fl with|.ret (.own _)=>.stuck|fl=>.ok fl (ZB.set i (some (.own (.lst ds))))
 |_=>.stuck
section
variable{iter:Expr}{g:DG}{b:DS}
def lh(np:List Nat)(i:Nat):DS:=λU=>match U[i]? with|some (some (.own d))=>if np.contains i||!np.all (dP U)then .ok (.ret (.pure d)) (U.set i (some (.pure d)))else .ok (.ret (.own d)) (U.set i none)|some (some (.pure d))=>.ok (.ret (.pure d)) U|_=>.stuck
theorem Vo(dm:Np c np)(he:PE X e (dq i)):SS X c (.Return (some e) pos) (lh np i):=PS.weak (Cc he) λD M H⟨U,k,q⟩=>by
 unfold lh eB at q;split at q
 .rename_i d e;obtain⟨a,ea,oa,ia,nb⟩:=k.own i d e;refine⟨.ref a,ea,?_⟩;split at q;.obtain⟨a',ea',x,r⟩:=k.give e;rw[ea]at ea';cases ea';exact q M H x _ r
  .rename_i hc;simp only[Uu,not_or,Bool.not_eq_true,Bool.not_eq_false',List.all_eq_true]at hc;obtain⟨FI,hc2⟩:=hc;have nI:¬c.I a:=λ⟨j,z⟩=>by
    have z1:=dm (j,a) z;have z2:=k.pinned (j,a) z;have z3:=hc2 j (~~~z1);unfold dP at z3;split at z3;.rename_i d' ej;have:=k.inj i j a _ _ e ej ea z2;grind
    .cases z3
   have h0:c.H₀ a=none:=ia.resolve_left nI;have hi:i<U.length:=(W9.mp e).1;have ne:∀j d,(U.set i none)[j]?=some (some d)->i≠j/\U[j]?=some (some d):=λj d q=>by
    by_cases hj:i=j;.subst hj;rw[Wr hi]at q;cases q
    .rw[Wa hj]at q;exact⟨hj,q⟩
   have sub:∀b,Av (c.plus a) M (U.set i none) b->Av c M U b:=λb z=>by
    rcases z with(z|z)|z;.exact .inl z
    .subst z;exact .inr ⟨i,_,e,ea⟩
    .exact .inr z.unset
   have kp:Ok (c.plus a) M (U.set i none) H:=by
    refine⟨k.keep,λb z=>?_,k.eJ,%[Qg|k.len],λj d q=>?_,λj d q=>?_,λj l b d d' q1 q2=>k.inj j l b d d' (ne j _ q1).2 (ne l _ q2).2,k.pinned⟩
    .rcases z with z|z;.exact k.bd b z
     .subst z;exact k.qS ⟨i,_,e,ea⟩
    .obtain⟨_,q⟩:=ne j _ q;obtain⟨v,g1,g2⟩:=k.slot j d q;exact⟨v,g1,g2.aV λb z=>.inl (sub b z)⟩
    .obtain⟨hj,q⟩:=ne j _ q;obtain⟨b,g1,g2,g3,g4⟩:=k.own j d q;refine⟨b,g1,g2.aV λb z=>.inl (sub b z),g3,λz=>?_⟩;rcases z with z|z;.exact g4 z
     .subst z;exact hj (k.inj i j b _ _ e q ea g1)
   have x:aY c M U H M (U.set i none) H:=by
    refine⟨⟨k.keep,k.bd,k.eJ,%[Qg|k.len],λj d q=>?_,λj d q=>?_,λj l b d d' q1 q2=>k.inj j l b d d' (ne j _ q1).2 (ne l _ q2).2,k.pinned⟩,λ_ _ w _=>w,λb z=>.inl z.unset,λ_ o w=>⟨o,w⟩⟩;.obtain⟨_,q⟩:=ne j _ q;obtain⟨v,g1,g2⟩:=k.slot j d q;exact⟨v,g1,g2.aV λb z=>.inl (z.elim .inl λz=>.inr z.unset)⟩
    .obtain⟨hj,q⟩:=ne j _ q;obtain⟨b,g1,g2,g3,g4⟩:=k.own j d q;exact⟨b,g1,g2.aV λb z=>.inl (z.elim .inl λz=>.inr z.unset),g3,g4⟩
   exact q M H x _ ⟨a,rfl,oa.aV λb z=>.inl (sub b z),nb,h0,kp,h0⟩
 .rename_i d e;obtain⟨v,e1,r⟩:=k.slot i d e;exact⟨v,e1,q M H (.refl k) v r⟩
 .exact q.elim
end
theorem FJ(hu:X.A.units+64<Q1):g9 X λx y H Q=>rK x y H Q\/oP X.K x y H Q:=(UY hu).or xI
open Classical in noncomputable def itAt(U₀:Dl)(ds:List D):DI:=λU=>if U=U₀ then .ok ds U else .stuck
theorem Ok.Vp{ds}(k:Ok c M U H)(e:U[i]?=some (some (.own (.au ds))))(ea:M[i]?=some (some (.ref a)))(r:DR H (Av c M U) iG dW):aY c M U H M (U.set i (some (.own (.au dW)))) (upd H a (.dK iG)):=by
 have hi:i<U.length:=(W9.mp e).1;obtain⟨a',ea',oa,ia,nb⟩:=k.own i _ e;rw[ea]at ea';cases ea';obtain⟨vs,ha,_⟩:=oa;have rA:Own M U a:=⟨i,_,e,ea⟩;have rC:Av c M U a:=.inr rA;have my:∀b,Own M (U.set i (some (.own (.au dW)))) b↔Own M U b:=λb=>by
  constructor
  .rintro⟨j,d,e1,e2⟩;by_cases hj:i=j;.subst hj;exact⟨i,_,e,e2⟩
   .rw[Wa hj]at e1;exact⟨j,d,e1,e2⟩
  .rintro⟨j,d,e1,e2⟩;by_cases hj:i=j;.subst hj;exact⟨i,_,by rw[Wr hi],e2⟩
   .exact⟨j,d,%[Wa hj|e1],e2⟩
 have jN:∀b,Av c M (U.set i (some (.own (.au dW)))) b->Av c M U b:=λb z=>z.elim .inl λz=>.inr ((my b).mp z);have ne:∀b,¬Av c M U b->b≠a:=λb n z=>n %[z|rC];have kp:∀b o,H b=some o->¬Av c M U b->upd H a (.dK iG) b=some o:=λb o h n=>%[aP (ne b n)|h];have ig:∀b o,H b=some o->∃o',upd H a (.dK iG) b=some o':=λb o h=>by
  by_cases hb:b=a;.exact⟨_,%[hb|cD]⟩
  .exact⟨o,%[aP hb|h]⟩
 refine⟨⟨λb o h n=>?_,λb z=>?_,λb z=>?_,%[Qg|k.len],λj d h=>?_,λj d h=>?_,λj l b d d' h1 h2 h3 h4=>?_,k.pinned⟩,λb o h n=>?_,λb z=>.inl ((my b).mp z),ig⟩
 .have hb:b≠a:=λz=>by grind
  rw[aP hb];exact k.keep b o h n
 .obtain⟨o,h⟩:=k.bd b z;exact ig b o h
 .obtain⟨o,h⟩:=k.eJ b z;exact ig b o h
 .have hj:i≠j:=λz=>by subst z;rw[Wr hi]at h;cases h
  rw[Wa hj]at h;obtain⟨v,h1,h2⟩:=k.slot j d h;exact⟨v,h1,(h2.keep kp).aV λb z=>.inl (jN b z)⟩
 .by_cases hj:i=j;.subst hj;rw[Wr hi]at h;cases h;exact⟨a,ea,let r':=r.map λv d h=>(Rep.keep h kp).aV λb z=>.inl (jN b z);⟨iG,cD,r'.keys,r'.vals⟩,ia,nb⟩
  .rw[Wa hj]at h;obtain⟨b,h1,h2,h3,h4⟩:=k.own j d h;have hb:b≠a:=λz=>by subst z;exact hj (k.inj i j b _ d e h ea h1)
   exact⟨b,h1,(h2.keep kp λo q=>%[aP hb|q]).aV λb z=>.inl (jN b z),h3,h4⟩
 .have f1:∃d,U[j]?=some (some (.own d)):=by
   by_cases hj:i=j;.subst hj;exact⟨_,e⟩
   .rw[Wa hj]at h1;exact⟨d,h1⟩
  have f2:∃d,U[l]?=some (some (.own d)):=by
   by_cases hj:i=l;.subst hj;exact⟨_,e⟩
   .rw[Wa hj]at h2;exact⟨d',h2⟩
  obtain⟨_,f1⟩:=f1;obtain⟨_,f2⟩:=f2;exact k.inj j l b _ _ f1 f2 h3 h4
 grind[aP]
def jl(U:Dl)(i:Nat):Bool:=match U[i]? with|some (some (.own (.au _)))=>true|_=>false
def dE(i:Nat)(fi fe:DE):DS:=λU=>if jl U i then(fe U).bind λr ZW=>if jl ZW i then(fi ZW).bind λk XV=>match XV[i]? with
 |some (some (.own (.au ds)))=>match cb k.d with|some kk=>if ds.length<Wb then .ok .next (XV.set i (some (.own (.au (putD ds kk r.d)))))else .stuck|none=>.stuck
 |_=>.stuck else .stuck else .stuck
theorem Vq(h:jl U i=true):∃ds,U[i]?=some (some (.own (.au ds))):=by
 unfold jl at h;split at h;.rename_i ds e;exact⟨ds,e⟩
 .cases h
theorem Vr{o ix fi sp}(hu:X.A.units+64<Q1)(ho:PE X o (dq i))(hi:SE X c ix fi)(he:SE X c e fe)(hs:J9 e (some (.Subscript o ix sp)) pos.line X.env=pure false:=by rfl):SS X c (.Assign [.Subscript o ix sp] e pos) (dE i fi fe):=PS.weak (O5 Y' ho hi he hs) λD M H⟨U,k,q⟩=>by
  unfold dE eB at q;split at q;case isFalse=>exact q.elim
  rename_i fz;rw[bp]at q;refine⟨U,k,aT q λr ZW q1 v H1 a1 r1=>?_⟩;split at q1;case isFalse=>exact q1.elim
  rename_i hown1;obtain⟨ds1,e1⟩:=Vq hown1;obtain⟨a,ea,_,_⟩:=a1.ok.own i _ e1;refine⟨.ref a,ea,ZW,a1.ok,?_⟩;rw[bp]at q1;refine aT q1 λkx XV q2 u H2 a2 r2=>?_;split at q2
  .rename_i ds e2;split at q2
   .rename_i kk hk;split at q2
    .rename_i hz;obtain⟨a',ea',oa,_⟩:=a2.ok.own i _ e2;rw[ea]at ea';cases ea';obtain⟨ws,ha,hk1,hk2⟩:=id oa;have dr:DR H2 (Av c M XV) ws ds:=DR.of hk1 hk2;have kg:=vq hk r2.b;subst kg;have hlen:ws.length=ds.length:=by have:=congrArg WV hk1;simpa using this
     have rv:Rep H2 (Av c M XV) v r.d:=Rep.dH r1.rep a2;refine⟨a,_,rfl,qM.k ha %[hlen|hz],?_⟩;exact q2 M _ (a1.trans (a2.trans (Ok.Vp a2.ok e2 ea (dr.put rv))))
    .exact q2.elim
   .exact q2.elim
  .exact q2.elim
def yZ(neg:Bool):R2:=λx y H Q=>∃c d:Bool,x=.bl c/\y=.bl d/\Q (.bl (if neg then c !=d else c==d)) H
theorem Vs:bD X (WF .IsNot) (yZ true):=by intro pins s M H x y v u Q I rx ry h;obtain⟨c,d,rfl,rfl,q⟩:=h;cases rx;cases ry;exact isnot_bool (qG I q rfl)
noncomputable def jS(neg:Bool):D->D->Option S|.bl c,.bl d=>some (.pure (.bl (if neg then c !=d else c==d)))|_,_=>none
theorem FK(neg):cB (yZ neg) (jS neg):=by
 intro c M U H x y d e s Q k rx ry hp q;cases d<;>cases e<;>first|(simp[jS]at hp;done)|skip
 rename_i i j;simp only[jS,Wd]at hp;subst hp;have ex:x=.bl i:=by
  rcases rx with r|⟨a,e,o⟩;.cases r;rfl
  .exact o.elim
 have ey:y=.bl j:=by
  rcases ry with r|⟨a,e,o⟩;.cases r;rfl
  .exact o.elim
 exact⟨i,j,ex,ey,q _ H (.refl k) (.bl _)⟩
def Cx.loop(X:Cx):Cx:={X with xe:=notedBy (model X.prog X.w) X.A X.env (cameBackBy (model X.prog X.w) X.A X.env X.xe)}
abbrev DX:=List S->Option ((S×List S)⊕Xc×List S)
structure ZA(z TI TO i1 i2:Addr)(f1 f2:List Addr):Prop where
 m1:i1∈f1
 m2:i2∈f2
 z1:z∉f1
 z2:z∉f2
 t1:TO∉f1
 t2:TO∉f2
 k1:i1∉f2
 k2:i2∉f1
 tz:TO≠z
 iz:TI≠z
 io:TI≠TO
 n1:TI≠i1
 n2:TI≠i2
def lj(b:Bool)(h:Heap)(a:Addr)(ak:Array Value):Prop:=match b with|true=>h.IsList a ak|false=>h.IsTuple a ak
def FL(b:Bool)(h:Heap)(it a:Addr)(i:Nat):Prop:=match b with|true=>h.IsListIter it a i|false=>h.IsTupleIter it a i
def FN(b:Bool)(a:Addr):Obj:={cls:=.type (match b with|true=>"list_iterator"|false=>"tuple_iterator"),data:=.fields #[.ref a,.int 0 0]}
theorem lj.lt{ak}(q:lj b h a ak):a<h.objs.size:=by
 cases b;.obtain⟨o,e,_⟩:=(q:h.IsTuple a ak);exact Wp e
 .obtain⟨o,e,_⟩:=(q:h.IsList a ak);exact Wp e
theorem lj.push{ak}(q:lj b h a ak)(o):lj b (h.push o) a ak:=by
 cases b;.obtain⟨o,e,r⟩:=(q:h.IsTuple a ak);exact⟨o,W6 _ e,r⟩
 .obtain⟨o,e,r⟩:=(q:h.IsList a ak);exact⟨o,W6 _ e,r⟩
theorem Vt{ak}(h:lj b s.heap a ak)(q:Q (.ref s.heap.objs.size) {s with heap:=s.heap.push (FN b a)}):W7 (model prog w) A (pyIter (.ref a)) Q E s:=by
 cases b;.exact Jl h q
 .exact JS h q
theorem Vu(b)(hh:A.handled=none)(it a)(cu:a≠it)(ak:Array Value):Draws prog w A it [it,a] ak.size (λi v=>ak[i]?=some v) λi h=>FL b h it a i/\lj b h a ak:=by
 cases b;.exact Draws.tuple' hh it a cu ak
 .exact Draws.list hh it a cu ak
section
variable{s:W4}
theorem Inv.FP{x}(fp:List Addr)(I:Inv X pins M H s)(hf:∀b∈fp,fX X pins H b)(bc:∀b∈fp,b<s.heap.objs.size)(ru:RelV x u)(rv:RelV y v)(hT:h'.get? s.heap.objs.size=some {cls:=.type "tuple",data:=.seq #[u,v]})(k:∀b o,b∉fp->s.heap.get? b=some o->h'.get? b=some o):Inv X pins M (upd H s.heap.objs.size (.tup [x,y])) {s with heap:=h',toks:=t'}:=by
 have I1:Inv X pins M (upd H s.heap.objs.size (.tup [x,y])) {s with heap:=s.heap.push {cls:=.type "tuple",data:=.seq #[u,v]},toks:=t'}:=I.laid (t':=t') (λb o e=>W6 _ e) (Wg _) (show bX X.prog X.w _ _ _ (.tup [x,y])from⟨by simp only[WP,U5];rw[QK];decide,[u,v],.cons ru (.cons rv .nil),iB.new _ _⟩);have:=Inv.nX (t':=t') (h':=h') fp I1 (λb o hb eb=>?_) λb hb=>?_;.exact this
 .rcases Heap.get?_push_cases eb with⟨z,z'⟩|eb;.subst z z';exact hT
  .exact k b o hb eb
 .obtain⟨f0,r⟩:=hf b hb;exact⟨%[aP (WR (bc b hb))|f0],r⟩
def nY(b:Bool)(K:W5)(H:Hp)(a:Addr)(xs:List V):Prop:=match b with|true=>cp K H a xs|false=>cE K H a xs
theorem Inv.FQ{xs}(I:Inv X pins M H s)(h:nY b X.K H a xs):∃ak,Vals xs ak/\lj b s.heap a ak.toArray:=by
 cases b;.obtain⟨ak,rv,p,_⟩:=I.tuple (h:cE X.K H a xs);exact⟨ak,rv,p⟩
 .obtain⟨ak,rv,p,_⟩:=I.list (h:cp X.K H a xs);exact⟨ak,rv,p.isList⟩
theorem Inv.Vv{xs}(I:Inv X pins M H s)(h:nY b X.K H a xs)(h':nY b X.K H a ys):xs=ys:=by
 cases b;.exact I.xg h h'
 .exact I.xf h h'
end
def kq(xs ys:List D):List D:=List.zipWith (λx y=>D.tup [x,y]) xs ys
theorem Vx{xs ys:List D}{d}(h:(kq xs ys)[i]?=some d):∃x y,xs[i]?=some x/\ys[i]?=some y/\d=.tup [x,y]:=by unfold kq at h;rw[List.getElem?_zipWith]at h;cases e1:xs[i]? with|none=>rw[e1]at h;cases h|some x=>cases e2:ys[i]? with|none=>rw[e1,e2]at h;cases h|some y=>rw[e1,e2]at h;cases h;exact⟨x,y,rfl,rfl,rfl⟩
theorem aH.two{u x}(r:Rep H O u x)(r':Rep H O v y):aH H O [u,v] [x,y]:=by refine⟨rfl,λj v' d' e1 e2=>?_⟩;match j with|0=>simp at e1 e2;subst e1 e2;exact r|1=>simp at e1 e2;subst e1 e2;exact r'|j+2=>simp at e1
noncomputable def rN:D->Option (List D)|.lst ds=>some ds|.tup ds=>some ds|_=>none
theorem Rep.sq{v d}(r:Rep H O v d)(e:rN d=some ds):∃b a vs,v=.ref a/\nY b K H a vs/\aH H O vs ds/\∀H2,(∀p o,H p=some o->¬O p->H2 p=some o)->nY b K H2 a vs:=by
 cases d<;>first|(simp[rN]at e;done)|skip
 .cases r with|tup h1 h2 h3 h4=>simp only[rN,Wd]at e;subst e;exact⟨false,_,_,rfl,cE.of h2,⟨h3,h4⟩,λH2 k=>cE.of (k _ _ h2 h1)⟩
 .cases r with|lst h1 h2 h3 h4=>simp only[rN,Wd]at e;subst e;exact⟨true,_,_,rfl,.inl h2,⟨h3,h4⟩,λH2 k=>.inl (Rd.keep h2 λo e=>k _ o e h1)⟩
def nZ(fk fv:DE):DE:=λU=>(fk U).bind λr ZW=>(fv ZW).bind λs XV=>match r,s with
 |.pure dk,.pure d=>match cb dk with|some kk=>.ok (.own (.au [(kk,d)])) XV|none=>.stuck
 |_,_=>.stuck
section
variable{p:Addr}
theorem Ok.Vy(k:Ok (c.plus p) M U H)(h0:c.H₀ p=none)(o):Ok (c.plus p) M U (upd H p o):=by
 have vb:∀b w,H b=some w->¬Av (c.plus p) M U b->upd H p o b=some w:=λb w e n=>by rw[aP λz:b=p=>n (.inl (.inr z))];exact e
 have ex:∀b,(∃w,H b=some w)->∃w,upd H p o b=some w:=λb⟨w,e⟩=>by
  by_cases z:b=p;.rw[z];exact⟨o,cD⟩
  .rw[aP z];exact⟨w,e⟩
 refine⟨λa w e n=>?_,λa z=>ex a (k.bd a z),λa z=>ex a (k.eJ a z),k.len,λi d e=>?_,λi d e=>?_,k.inj,k.pinned⟩;.rw[aP λz:a=p=>by have e':c.H₀ a=some w:=e;grind];exact k.keep a w e n
 .obtain⟨v,e1,r⟩:=k.slot i d e;exact⟨v,e1,r.keep vb⟩
 .obtain⟨a,e1,oa,h1,h2⟩:=k.own i d e;exact⟨a,e1,oa.keep vb λw e=>%[aP λz:a=p=>h2 (.inr z)|e],h1,h2⟩
theorem FR(h:post c r k)(m:∀a U,k a U->k' a U):post (c.plus p) r k':=by cases r with|ok a U=>exact m a U h|exc x U=>exact h|stuck=>exact h
end
theorem Vz{k v fk fv}(hk:∀c',SE X c' k fk)(hv:∀c',SE X c' v fv):SE X c (.Dict [some k] [v] pos) (nZ fk fv):=by have PK:PE X k λM H Q=>∃c',tD c' fk M H Q:=λpins s M H Q I⟨c',h⟩=>hk c' pins s M H Q I h;have PV:PE X v λM H Q=>∃c',tD c' fv M H Q:=λpins s M H Q I⟨c',h⟩=>hv c' pins s M H Q I h;refine PE.weak (Pa (O9 PK PV O8) rfl rfl U' U') λM H Q⟨U,kk,q⟩=>?_;intro p hp;show∃c',tD c' fk M (upd H p (.dK [])) λx H1=>∃c',tD c' fv M H1 λy H2=>H2 p=some (.dK [])/\∃ae:List (Key×V),[(x,y)]=ae.map (λkv=>(kV kv.1,kv.2))/\ae.length<=15/\Q (.ref p) (upd H2 p (.dK (nr [] ae)));unfold nZ at q;rw[bp]at q;refine⟨c.plus p,U,kk.plus hp _,FR q λr ZW q1 x H1 a1 rx=>?_⟩;rw[bp]at q1;refine⟨c.plus p,ZW,a1.ok,FR q1 λs XV q2 y H2 a2 ry=>?_⟩;have A:=a1.trans a2;have h0:=kk.nC hp;have nb:¬c.B p:=λz=>kk.jc hp (.inl z);have VA:H2 p=some (.dK []):=A.keep p _ cD λz=>kk.jc hp (.inr z);cases r with|own d=>exact q2.elim|pure dk=>cases s with|own d=>exact q2.elim|pure d=>cases hkd:cb dk with|none=>simp only[hkd]at q2;exact q2.elim|some kd=>
    simp only[hkd]at q2;have ex:x=kV (di kd):=vq hkd (.inl rx);refine⟨VA,[(di kd,y)],by rw[ex];rfl,U',?_⟩;have em:nr [] [(di kd,y)]=[(di kd,y)]:=rfl;rw[em];have FU:=A.ok.Vy h0 (.dK [(di kd,y)]);have ne:∀{a w},H a=some w->a≠p:=λe z=>by grind
    refine q2 (.ref p) _ ⟨FU.less,λa w e n=>?_,λa z=>?_,λa w e=>?_⟩ ⟨p,rfl,⟨[(di kd,y)],cD,rfl,λi u t e1 e2=>?_⟩,nb,h0,FU,hp⟩;.rw[aP (ne e)];exact A.keep a w %[aP (ne e)|e] n
    .by_cases zp:a=p;.rw[zp];exact .inr hp
     .rcases A.own a z with z|z;.exact .inl z
      .rw[aP zp]at z;exact .inr z
    .obtain⟨w',e'⟩:=A.there a w %[aP (ne e)|e];exact⟨w',%[aP (ne e)|e']⟩
    .match i with|0=>cases e1;cases e2;exact Rep.keep (show Rep H2 (Av (c.plus p) M XV) y d from ry) λb w e n=>%[aP λz:b=p=>n (.inl (.inr z))|e]|i+1=>cases e1
namespace PySem.SeqAt
open AutoSeq1(wpAny_loadPart')
open MeetsSeq
theorem VB(l b)(o:Obj):Meets (Builtin.«dict.__eq__» ⟨[.ref l,.ref b],[]⟩) λ_ R s=>s.heap.get? l=some o/\o.cls=.type "dict"/\s.TypeIs (.ref b) "tuple"/\R (.ok (.ret .notImplemented)) s:=.of_wp λprog w A R s h=>by obtain⟨hl,hc,hb,h⟩:=h;have hT:s.TypeIs (.ref l) "dict":=⟨o,hl,hc⟩;show W7 _ _ (Builtin.Dict.dictSlotArgs "__eq__" ⟨[.ref l,.ref b],[]⟩>>=_) _ _ s;refine W0 ?_;unfold Builtin.Dict.dictSlotArgs;refine W0 (QB hT ?_);show W7 _ _ (pure (Value.ref l,Value.ref b)) _ _ s;refine W3 ?_;refine W0 (U0 (T:="tuple") hb PySem.F.sub_tuple_dict ?_);show W7 _ _ (if(!false)=true then _ else _) _ _ s;rw[if_pos Z'];refine W0 (QU ?_);exact W3 ⟨_,rfl,h⟩
theorem VD(l b items n es ep dd kS)(sl j9:Array (Option Value)):Meets (Builtin.«tuple.__eq__» ⟨[.ref l,.ref b],[]⟩) λ_ R s=>s.heap.get? l=some {cls:=.type "tuple",dict:=dd,data:=.seq items n,slots:=sl}/\s.heap.get? b=some {cls:=.type "dict",dict:=kS,data:=.dict es ep,slots:=j9}/\R (.ok (.ret .notImplemented)) s:=.of_wp λprog w A R s h=>by obtain⟨hp,g,d,tk,os⟩:=s;obtain⟨hl,hb,h⟩:=h;have f1:=F.sub_dict_tuple;wp_walk using QD hl,QD hb;exact⟨_,rfl,h⟩
section
variable{s:W4}
theorem VE{es}(hl:s.heap.get? l=some o)(hc:o.cls=.type "dict")(hd:o.data=.dict es ep)(hb:s.heap.IsTuple b items)(hu:A.units<Q1):l≠b/\RcAt A s (.ref l) (.ref b) false:=by
 obtain⟨cls,dd,data,sl⟩:=o;obtain⟨⟨cls2,kS,data2,j9⟩,ho2,hc2,n2,hd2⟩:=id hb;simp only at hc hd hc2 hd2;subst hc hd hc2 hd2;have cu:l≠b:=λe=>by subst e;rw[hl]at ho2;simp at ho2
 refine⟨cu,λprog w E Q h=>?_⟩;exact rc_eq_decline_or (k:=false) ⟨_,hl,rfl⟩ ⟨_,ho2,rfl⟩ Z' F.sub_tuple_dict F.slot_dict_eq F.slot_tuple_eq_refl (λ_ hq=>Uh F.slot_dict_eq ⟨_,hl,rfl⟩ F.entry_dict_eq (F.args_dict_eq_2 _ _) (VB l b _) ⟨hl,rfl,⟨_,ho2,rfl⟩,hq⟩) (λ_ hq=>Uh F.slot_tuple_eq_refl ⟨_,ho2,rfl⟩ F.entry_tuple_eq (F.args_tuple_eq_2 _ _) (VD b l items n2 es ep kS dd j9 sl) ⟨ho2,hl,hq⟩) (λ_ hq=>wpAny_isSame_ref_other cu hl ho2 U' hq) (.inr hu) h
end
end PySem.SeqAt
section
open PySem.SeqAt
section
variable{s:W4}
def jm(d e:D):Bool:=flat 49 d&&flat 49 e||match d,e with|.au _,.tup _=>true|_,_=>false
theorem VF{e x w}(I:Inv X pins M H s)(hu:A.units+50<Q1)(ok:jm d e=true)(rx:Rep H eA x d)(ry:Rep H eA y e)(ru:RelV x u)(cR:RelV y w):EqAt A s u w (bw d e):=by
 unfold jm at ok;rw[Uu]at ok;rcases ok with ok|ok;.rw[Wy]at ok;exact D5 I 49 A x y u w d e hu ok.1 ok.2 rx ry ru cR
 .cases rx with
 |au h1 h2 h3 h4=>cases ry with|tup k1 k2 k3 k4=>cases ru;cases cR;obtain⟨its2,r2,t2⟩:=Inv.nF I k2;obtain⟨_,_,vs,_,o,es,ep,o1,o2,o3,_⟩:=oR I.aB h2;obtain⟨ne,q⟩:=VE (A:=A) o1 o2.1 o3 t2 Y';exact .of_refs ne q|_=>simp at ok
 |_=>simp at ok
theorem VG(I:Inv X pins M H s){ws:List V}{es:List D}(hu:A.units+52<Q1)(r1:Vals vs ak)(r2:Vals ws ic)(l1:vs.length=ds.length)(l2:ws.length=es.length)(g1:∀(i:Nat)v d,vs[i]?=some v->ds[i]?=some d->Rep H eA v d)(g2:∀(i:Nat)v d,ws[i]?=some v->es[i]?=some d->Rep H eA v d)(ok:∀(i:Nat)d e,ds[i]?=some d->es[i]?=some e->jm d e=true):∀j(h1:j<ak.toArray.size)(h2:j<ic.toArray.size),EqAt A.in1 s ak.toArray[j] ic.toArray[j] (qU ds es j):=by
 intro j h1 h2;have e1:=r1.length;have e2:=r2.length;simp at h1 h2;have hd:j<ds.length:=by lia
 have he:j<es.length:=by lia
 have hv:j<vs.length:=by lia
 have hw:j<ws.length:=by lia
 obtain⟨u',kg,ru'⟩:=r1.get (i:=j) (x:=vs[j]) #v[hv];obtain⟨w',hw',rw''⟩:=r2.get (i:=j) (x:=ws[j]) #v[hw];have eu:ak.toArray[j]=u':=by simpa[h1]using kg
 have ew:ic.toArray[j]=w':=by simpa[h2]using hw'
 rw[eu,ew,uN j ds[j] es[j] #v[hd] #v[he]];exact VF I (by rw[DW];lia) (ok j _ _ #v[hd] #v[he]) (g1 j _ _ #v[hv] #v[hd]) (g2 j _ _ #v[hw] #v[he]) ru' rw''
def FV:R2:=λx y H Q=>∃ds es,Rep H eA x (.tup ds)/\Rep H eA y (.tup es)/\(∀(i:Nat)d e,ds[i]?=some d->es[i]?=some e->jm d e=true)/\Q (.bl (cU ds es)) H
theorem VH(hu:X.A.units+64<Q1):bD X (WF .Eq) λx y H Q=>yg x y H Q\/FV x y H Q:=(Ra hu).or (by intro pins s M H x y v u Q I rx ry h;obtain⟨ds,es,r1,r2,ok,q⟩:=h;cases r1 with|tup h1 h2 h3 h4=>cases r2 with|tup k1 k2 k3 k4=>cases rx;cases ry;obtain⟨its1,r1,t1⟩:=Inv.nF I h2;obtain⟨its2,r2,t2⟩:=Inv.nF I k2;have z:=RcAt.tuples (A:=X.A) (s:=s) t1 t2 Y' (VG I Y' r1 r2 h3 k3 h4 k4 ok);rw[DZ (by have:=r1.length;simp;lia) (by have:=r2.length;simp;lia)]at z;exact z X.prog X.w X.xe _ ⟨.bl _,H,I,rfl,q⟩)
noncomputable def pF(d e:D):Option S:=if flat 50 d&&flat 50 e then some (.pure (.bl (bw d e)))else match d,e with|.tup ds,.tup es=>if(ds.zip es).all λp=>jm p.1 p.2then some (.pure (.bl (cU ds es)))else none|_,_=>none
theorem VI:cB (λx y H Q=>yg x y H Q\/FV x y H Q) pF:=by
 intro c M U H x y d e s Q k rx ry hp q;unfold pF at hp;split at hp;.rename_i hf;rw[Wy]at hf;simp only[Wd]at hp;subst hp;exact .inl ⟨d,e,rx.un,ry.un,hf.1,hf.2,q _ H (.refl k) (.bl _)⟩
 .split at hp
  .split at hp;.rename_i ds es _ hf;simp only[Wd]at hp;subst hp;refine .inr ⟨ds,es,rx.un,ry.un,λi d e h1 h2=>?_,q _ H (.refl k) (.bl _)⟩;rw[List.all_eq_true]at hf;exact hf (d,e) (Wj (i:=i) (by rw[List.getElem?_zip_eq_some];exact⟨h1,h2⟩))
   .cases hp
  .cases hp
end
section
variable{p2:Pos}
theorem VJ:bD X (WF .Eq) (yZ false):=by intro pins s M H x y v u Q I rx ry h;obtain⟨c,d,rfl,rfl,q⟩:=h;cases rx;cases ry;exact eq_bool (qG I q rfl)
noncomputable def pG:D->Option S|.tup ds=>some (.pure (.tup ds.reverse))|_=>none
theorem VL{st}(he:SB X c e fb)(bV:PE X st (tC (.int (-1)))):SE X c (.Subscript e (.Slice none none (some st) p2) pos) (az pG fb):=PE.weak (Ri Vk he bV) λM H Q h=>rg (λc M U H x d s Q k rx hp q=>by
 cases d<;>first|cases hp|skip
 obtain⟨a,vs,ea,ha,ra⟩:=rx.tup;exact⟨a,vs,ea,.of ha,λp hp=>q _ _ (.alloc k hp _) (bu.oU k ra.reverse hp)⟩) h
noncomputable def lq:D->Option S|.tup ds=>some (.own (.lst ds))|_=>none
theorem VM(hg:Gl X "list")(hm:X.mg "list"=none)(he:SB X c e fb)(hs:mE e=true:=by rfl):SE X c (.Call (.Name "list" pp) [e] [] pos) (az lq fb):=rh (r:=λv H Q=>∃p ys,v=.ref p/\(cp X.K H p ys\/cE X.K H p ys)/\∀l,H l=none->Q (.ref l) (upd H l (.lst ys))) OQ (λv H Q⟨p,ys,e,h⟩=>⟨p,ys,by rw[e],h⟩) (λc M U H x d s Q k rx hp q=>by
 cases d<;>first|cases hp|skip
 obtain⟨a,vs,ex,ha,r⟩:=rx.tup;exact⟨a,vs,ex,.inr (.of ha),λl hl=>q _ _ (.alloc k hl _) (bu.nD k r hl)⟩) hg hm PyProof.Rows.boot_list he Z' Z' (nU hs)
theorem VN{ta}{ctx}(hg:Gl X "enumerate")(hm:X.mg "enumerate"=none)(ha:PA X [a] ta)(hs:We [a] X.env=[(false,eval a X.env)]:=by rfl):PI X (.Tuple elts ctx tp) (.Call (.Name "enumerate" pp) [a] [] pos) λM H R=>ta M H λvs H1=>∃a,vs=[.ref a]/\(∃xs,cE X.K H1 a xs)/\R (FE X.K a) H1:=by intro pins s M H R I h;refine Call_ (l9 I hg hm boot_enumerate (QG (aM (ha pos pins s M H _ I h) λus s1 hh=>?_) hs rfl));obtain⟨vs,H1,I1,r1,a,ev,⟨xs,hq⟩,q⟩:=hh;subst ev;cases r1 with|cons r rr=>
 cases rr;cases r;obtain⟨ak,rv,p,hz⟩:=I1.tuple hq;have hL:s1.heap.IsTuple a ak.toArray:=p;have bc:a<s1.heap.objs.size:=by obtain⟨o,q,_⟩:=hL;exact Wp q
 refine Vb hL λh' he hi hsz kp=>wpAny_pyIter_enum he ?_;refine⟨s1.heap.objs.size+1,[s1.heap.objs.size+1,s1.heap.objs.size],_,_,H1,rfl,I1.kept (t':=s1.toks) kp,Ve a _ _ (Nat.succ_ne_self _) (WR (Nat.lt_succ_of_lt bc)) (WR bc),⟨⟨_,he⟩,hi⟩,λb hb=>?_,q⟩;have hb:b=s1.heap.objs.size+1\/b=s1.heap.objs.size:= ~~~hb;have hle:s1.heap.objs.size<=b:=by rcases hb with z|z<;>subst z<;>first|exact Wg _|exact U3 _
 exact I1.iY hle (I1.aB.fresh hle)
def vw(f:DE):DI:=λU=>(f U).bind λr ZW=>match r.d with|.tup ds=>.ok (pC ds) ZW|_=>.stuck
theorem VO{ctx}(hg:Gl X "enumerate")(hm:X.mg "enumerate"=none)(he:SE X c e fe)(hs:We [e] X.env=[(false,eval e X.env)]:=by rfl):SI X c (.Tuple elts ctx tp) (.Call (.Name "enumerate" pp) [e] [] pos) (vw fe):=PI.weak (VN hg hm (fq he gJ hs) hs) λM H R⟨U,k,q⟩=>by
 unfold vw at q;rw[bp]at q;refine⟨U,k,aT q λr ZW q1 v H1 a1 r1=>?_⟩;have rr:=r1.rep;generalize r.d=d at q1 rr;cases d<;>first|exact q1.elim|skip
 cases rr with|tup h1 h2 h3 h4=>rename_i a vs;refine⟨_,rfl,⟨_,.of h2⟩,q1 _ H1 a1 ?_⟩;intro H2 kp;have h5:=kp _ _ h2 λz=>h1 (.inr z);have r':aH H1 (Av c M ZW) vs _:=⟨h3,h4⟩;refine⟨⟨vs,.of h5,by rw[r'.1];simp[pC]⟩,λi d e=>?_⟩;obtain⟨d',e',rfl⟩:=FG e;obtain⟨v,ev,rv⟩:=r'.get e';refine⟨⟨vs,v,.of h5,ev⟩,λx H3⟨p,y,hp,hy,e3,ex⟩=>.inr ⟨p,_,_,hp,e3,ex,rfl,?_⟩⟩;have:=hy vs (.of h5);rw[ev]at this;cases this;exact aH.pair rv
end
section
variable{q:Str}{st:Stmt}{f:Addr}
abbrev bq(K:W5)(x:Str)(st:Stmt):Prop:=∃(f:Addr)(oc:Value)(od:Option Addr)(kV dc pm:Value)(an:Option Addr)(cd ct:Value)(sl:Array (Option Value)),PySem.W.nsIn K Wz x=some (some (.ref f))/\K.lookup f=some ⟨oc,od,.func (Qq x x (h_ st) (d_ st) (bK st) .none kV dc pm an cd ct),sl⟩/\PySem.W.codeIn K cd x=true/\Jz K (.ref f)=true
theorem pH(X:K.In h)(G:h.Ns Wz mg)(d:bq K x st):∃f fd,dU K x x st f fd/\mg x=some (.ref f):=by obtain⟨f,oc,od,kV,dc,pm,an,cd,ct,sl,a,l,c,k⟩:=d;exact⟨f,_,xU l c k,PySem.W.mg_of X G a⟩
abbrev Bd(x q:Str)(st:Stmt)(ps:List Str)(us:List Value):Prop:=∀(kV doc pm:Value)(an:Option Addr)(aW ct:Value),bindArgs (Qq x q (h_ st) (d_ st) (bK st) .none kV doc pm an aW ct) ⟨us,[]⟩=pure (ps.zip us)
variable{p1 p2 p3 p4 p5 p6:Str}
theorem FW(F:dU K x q st f fd)(h:∀a,Bd x q st [p1] [a]):Binds K fd [p1] []:=F.binds λ_ _ _ _ _ _ us hl=>by rcases us with _|⟨a,_|_⟩<;>cases hl;exact h a _ _ _ _ _ _
theorem vx(F:dU K x q st f fd)(h:∀a b,Bd x q st [p1,p2] [a,b]):Binds K fd [p1,p2] []:=F.binds λ_ _ _ _ _ _ us hl=>by rcases us with _|⟨a,_|⟨b,_|_⟩⟩<;>cases hl;exact h a b _ _ _ _ _ _
theorem y3(F:dU K x q st f fd)(h:∀a b c,Bd x q st [p1,p2,p3] [a,b,c]):Binds K fd [p1,p2,p3] []:=F.binds λ_ _ _ _ _ _ us hl=>by rcases us with _|⟨a,_|⟨b,_|⟨c,_|_⟩⟩⟩<;>cases hl;exact h a b c _ _ _ _ _ _
theorem VP(F:dU K x q st f fd)(h:∀a b c d,Bd x q st [p1,p2,p3,p4] [a,b,c,d]):Binds K fd [p1,p2,p3,p4] []:=F.binds λ_ _ _ _ _ _ us hl=>by rcases us with _|⟨a,_|⟨b,_|⟨c,_|⟨d,_|_⟩⟩⟩⟩<;>cases hl;exact h a b c d _ _ _ _ _ _
end
theorem VQ{α:Type}{P:α->Prop}{a:α}(x:P a):∀z∈[a],P z:=λ_ h=>by cases h with|head=>exact x|tail _ h=>cases h
theorem VR{α:Type}{P:α->Prop}{a b:α}(x:P a)(y:P b):∀z∈[a,b],P z:=λ_ h=>by cases h with|head=>exact x|tail _ h=>exact VQ y _ h
end
section
open PySem.SeqAt
def y4(z:Str):Value->Bool|.str x _=>x==z|_=>false
theorem VS{xs}(h:Vals xs us):∀(j:Nat)(u:Value),us[j]?=some u->∃v,xs[j]?=some v/\RelV v u:=by induction h with|nil=>intro j u e;simp at e|cons r rs ih=>intro j u e;cases j with|zero=>simp at e;subst e;exact⟨_,rfl,r⟩|succ j=>simpa using ih j u (~~~e)
def FX(K:W5):V->List V->Hp->VK->Prop:=λx xs H Q=>∃(a:Addr)(ts:List Tx)(z:Tx),x=.ref a/\xs=[.str (toS z)]/\cp K H a (ts.map λt=>V.str (toS t))/\z∈ts/\ts.length<=1000/\Q (.int (ts.idxOf z:Nat)) H
theorem VT:xH X "list.index" (FX X.K):=by
 intro pins s M H x xs v us Q I rx rs h;obtain⟨a,ts,z,rfl,rfl,hq,hm,hl,q⟩:=h;obtain⟨u,rfl,ru⟩:=gI rs;obtain⟨tk,rfl⟩:=ru;cases rx;obtain⟨ak,r',p,_⟩:=I.list hq;obtain⟨⟨cls,dd,data,sl⟩,ho,hc,n,hd⟩:=p.isList;simp only at hc hd;subst hc;subst hd;have at':∀j(hj:j<ak.length),∃t tk,ts[j]?=some t/\ak[j]=.str (toS t) tk:=λj hj=>by obtain⟨v,e1,r1⟩:=VS r' j _ (W8 hj);rw[Wo]at e1;obtain⟨t,e2,e3⟩:=Option.map_eq_some_iff.mp e1;subst e3;obtain⟨tk,e4⟩:=r1;exact⟨t,tk,e2,e4⟩
 have hlen:ak.length=ts.length:=by have:=r'.length;simpa using this.symm
 have hj:ts.idxOf z<ts.length:=List.idxOf_lt_length_iff.mpr hm;have lr:ts.idxOf z<ak.length:=by lia
 refine Uh PySem.F.slot_list_index ⟨_,ho,rfl⟩ PySem.F.entry_list_index (PySem.F.args_list_index_2 _ _) (list_indexAt a _ n dd sl (.str (toS z) tk) (y4 (toS z)) (ts.idxOf z) (~~~lr) Y' ?_ ?_) ⟨ho,λy hy=>?_,⟨.int (ts.idxOf z:Nat),H,I.tok _,⟨_,rfl⟩,q⟩⟩;.obtain⟨t,jQ,e1,e2⟩:=at' _ lr;have e3:ts[ts.idxOf z]=z:=QT hj;rw[W8 hj,e3]at e1;cases e1;simp only[List.getElem_toArray,e2,y4];exact beq_self_eq_true _
 .intro m pI bc;have FY:m<ak.length:= ~~~pI;obtain⟨t,jQ,e1,e2⟩:=at' m FY;have cu:t≠z:=λe=>by
   subst e;have y6:m<ts.length:=by lia
   have z2:=List.not_of_lt_findIdx (p:=(.==t)) (xs:=ts) (i:=m) bc;rw[W8 y6]at e1;cases e1;simp at z2
  simp only[List.getElem_toArray,e2,y4];rw[qT];exact beq_false_of_ne cu
 .have VU:y∈ak:= ~~~hy;obtain⟨j,hjj,rfl⟩:=List.getElem_of_mem VU;obtain⟨t,jQ,e1,e2⟩:=at' j hjj;rw[e2];exact EqAt.str_str _ _ _ _
end
noncomputable def FZ:D->Bool|.lst _=>true|_=>false
noncomputable def n4(x y:D):Option S:=match x,y with
 |.lst ds,.str z=>match gy ds with|some ts=>if z∈ts/\ts.length<=1000 then some (.pure (.int (ts.idxOf z:Nat)))else none|none=>none
 |_,_=>none
def rO(fa fb:DE):DE:=λU=>(fa U).bind λr ZW=>if FZ r.d then(fb ZW).bind λy XV=>p2 n4 r.d y.d XV else .stuck
section
variable{o:Expr}{fa fb:DE}
theorem VW:cB (λx y H Q=>FX K x [y] H Q) n4:=by intro c M U H x y d e s Q k rx ry hp q;cases d with
 |lst ds=>cases e with
  |str z=>
   simp only[n4]at hp;split at hp
   .rename_i ts ht;split at hp;.rename_i hz;cases hp;obtain⟨a,vs,ea,ha,r⟩:=rx.lst;have ev:=oZ ht r;subst ev;exact⟨a,ts,z,ea,by rw[ry.str],.inl ha,hz.1,hz.2,q _ H (.refl k) (.int _)⟩
    .cases hp
   .cases hp|_=>simp[n4]at hp
 |_=>simp[n4]at hp
theorem VX(he:SE X c o fa)(hx:SE X c e fb)(m_:Ja o "index" X.env (eval o X.env)=eval o X.env:=by rfl)(nh:((Qz bF (We [e] X.env)).all (λx=>!x.1)&&(backToKw bF (Uq [] X.env)).all (λx=>x.1.isSome)&&decide ([e].length+([]:List Keyword).length+(if([]:List Keyword).isEmpty then 0 else 1)<30))=true:=by rfl)(ni:(apos.endLine==bF.line)=true:=by rfl)(hs:We [e] X.env=(false,eval e X.env)::We [] X.env:=by rfl):SE X c (.Call (.Attribute o "index" apos) [e] [] bF) (rO fa fb):=by
 refine PE.weak (uq PySem.F.plainAttrs_list PySem.F.slot_list_index PySem.F.type_list_index VT he (fq hx gJ hs) m_ nh ni hs rfl) λM H Q h=>?_;obtain⟨U,k,q⟩:=h;unfold rO at q;rw[bp]at q;refine⟨U,k,aT q λr ZW q1 v H1 a1 r1=>?_⟩;split at q1;case isFalse=>exact q1.elim
 rename_i hL;have ty:xM X.K "list" v H1:=by
  have r2:=r1.rep;cases hd:r.d<;>rw[hd]at hL<;>try cases hL
  rw[hd]at r2;obtain⟨a,vs,ea,ha,_⟩:=cT.lst (.inl r2:cT c M ZW H1 v _);subst ea;exact .inl ⟨rfl,_,.inl ha⟩
 rw[bp]at q1;refine⟨ty,ZW,a1.ok,aT q1 λy XV q2 u H2 a2 r2=>?_⟩;exact qV VW a2.ok (.inl (Rep.dH r1.rep a2)) (.inl r2.rep) (aT q2 λs XL q3 v' H3 a3 r3=>q3 v' H3 (a1.trans (a2.trans a3)) (bu.back r3 (a1.trans a2)))
end
section
open PySem.W
def Good(n:Nat){α:Type}:KasT α->(α->Prop)->Prop|.ret a,R=>R a|.ask i j k,R=>i<n/\j<n/\i≠j/\∀b,Good n (k b) R
def runK{α:Type}(lt:Nat->Nat->Bool):KasT α->α|.ret a=>a|.ask i j k=>runK lt (k (lt i j))
section
variable{α β:Type}
theorem Good.bind{R}:∀{t:KasT α},Good n t R->(∀a,R a->Good n (f a) R')->Good n (t.bind f) R'|.ret a,h,k=>k a h|.ask i j g,h,k=>⟨h.1,h.2.1,h.2.2.1,λb=>Good.bind (h.2.2.2 b) k⟩
theorem Good.mono{R}:∀{t:KasT α},Good n t R->(∀a,R a->R' a)->Good n t R'|.ret a,h,k=>k a h|.ask i j g,h,k=>⟨h.1,h.2.1,h.2.2.1,λb=>Good.mono (h.2.2.2 b) k⟩
theorem Good.run{R}(lt:Nat->Nat->Bool):∀{t:KasT α},Good n t R->R (runK lt t)|.ret a,h=>h|.ask i j g,h=>Good.run (t:=g (lt i j)) lt (h.2.2.2 _)
theorem Good.wp{R G}(hc:∀i j,i<n->j<n->i≠j->∀C:Bool->W4->Prop,C (lt i j) s->cmp i j C s):∀{t:KasT α},Good n t R->G (runK lt t) s->t.kasWp cmp G s|.ret a,h,g=>g|.ask i j k,h,g=>hc i j h.1 h.2.1 h.2.2.1 _ (Good.wp hc (h.2.2.2 _) g)
end
section
variable{p:Array Nat}
abbrev dF(n:Nat)(p:Array Nat):Prop:=p.Perm (Uf (WB n))
theorem dF.size(h:dF n p):p.size=n:=by rw[Array.Perm.size_eq h];simp
theorem dF.list(h:dF n p):p.toList.Perm (WB n):=by simpa using Array.perm_iff_toList_perm.mp h
theorem dF.lt(h:dF n p)(h0:0<n)(i):p.getD i 0<n:=by
 by_cases hi:i<p.size
 .have:p[i]∈p.toList:=by simp
  have:=(h.list.mem_iff).mp this;simpa[Array.getD,hi]using this
 .simpa[Array.getD,hi]using h0
theorem dF.ne(h:dF n p)(hi:i<n)(hj:j<n)(e:i≠j):p.getD i 0≠p.getD j 0:=by
 have hs:=h.size;have nd:p.toList.Nodup:=h.list.nodup_iff.mpr List.nodup_range;have gL:i<p.size:=by lia
 have lr:j<p.size:=by lia
 intro z;have e1:p.getD i 0=p.toList[i]'(~~~gL):=#v[Array.getD,gL];have e2:p.getD j 0=p.toList[j]'(~~~lr):=#v[Array.getD,lr];rw[e1,e2]at z;rcases Nat.lt_or_gt_of_ne e with q|q;.exact(List.pairwise_iff_getElem.mp nd) i j (~~~gL) (~~~lr) q z
 .exact(List.pairwise_iff_getElem.mp nd) j i (~~~lr) (~~~gL) q z.symm
theorem dF.rev(h:dF n p)(i j):dF n (kas_rev p i j):=(mirror_perm p i j _).trans h
theorem dF.VY(h:dF n p)(i j):dF n (bubble p i j):=(bubble_perm p i j).trans h
theorem y8(h:dF n p):∀f m,1<=m->m+f<=n->Good n (kas_asc p f m) λr=>m<=r/\r<=n|0,m,h1,h2=>⟨Wg _,h2⟩|f+1,m,h1,h2=>⟨h.lt Y' _,h.lt Y' _,h.ne Y' Y' Y',λb=>by
 cases b;.exact(y8 h f (m+1) Y' Y').mono λr z=>⟨Y',z.2⟩
 .exact⟨Wg _,Y'⟩⟩
theorem vy:∀f{p:Array Nat}(h:dF n p)m q,1<=m->m+f<=n->Good n (kas_desc f p m q) λr=>dF n r.1/\1<=r.2.1/\r.2.1<=n|0,p,h,m,q,h1,h2=>⟨h,h1,h2⟩|f+1,p,h,m,q,h1,h2=>⟨h.lt Y' _,h.lt Y' _,h.ne Y' Y' Y',λb=>by
  cases b
  .refine⟨h.lt Y' _,h.lt Y' _,h.ne Y' Y' Y',λd=>?_⟩;cases d;.exact vy f h (m+1) (q+1) Y' Y'
   .exact⟨h,h1,show m<=n by lia⟩
  .show Good n (if q>0 then kas_desc f (kas_rev p (m-(q+1)) m) (m+1) 0 else kas_desc f p (m+1) 0) _;split;.exact vy f (h.rev _ _) (m+1) 0 Y' Y'
   .exact vy f h (m+1) 0 Y' Y'⟩
theorem F0{m}(h:dF n p)(h1:1<=m)(h2:m<=n):Good n (kas_tail3 m n p) λr=>dF n r.2/\1<=r.1/\r.1<=n:=(y8 (h.rev 0 m) (n-m) m h1 Y').bind λr z=>⟨h.rev _ _,by have:=z.1;lia,z.2⟩
theorem F1{m}(h:dF n p)(h1:1<=m)(h2:m+1<=n):Good n (kas_descPart m n p) λr=>dF n r.2/\1<=r.1/\r.1<=n:=(vy (n-(m+1)) h (m+1) 0 Y' Y').bind λr z=>by
 show Good n (if r.2.2>0 then _ else _) _;split;.exact F0 (z.1.rev _ _) z.2.1 z.2.2
 .exact F0 z.1 z.2.1 z.2.2
theorem VZ(h:dF n p)(h2:2<=n):Good n (kas_count n p) λr=>dF n r.2/\1<=r.1/\r.1<=n:=(y8 h (n-1) 1 Y' Y').bind λm z=>by
  show Good n (if(m==n)=true then _ else _) _;split;.exact⟨h,z.1,z.2⟩
  .rename_i hm;have pI:m≠n:=λe=>hm #v[e];split
   .refine⟨h.lt Y' _,h.lt Y' _,h.ne Y' Y' Y',λc=>?_⟩;cases c;.exact F1 (h.rev _ _) z.1 Y'
    .exact⟨h,z.1,z.2⟩
   .exact F1 h z.1 Y'
theorem y9(h:dF n p)(hk:k<n):∀f l r,r<=k->Good n (kas_place p k f l r) λ_=>True
 |0,l,r,_=>trivial|f+1,l,r,hr=>by
  show Good n (if l≥r then _ else _) _;split;.trivial
  .refine⟨h.lt Y' _,h.lt Y' _,h.ne Y' Y' Y',λc=>?_⟩;cases c;.exact y9 h hk f _ _ hr
   .exact y9 h hk f _ _ Y'
theorem F2:∀f{p:Array Nat}(h:dF n p)k,k+f<=n->Good n (kas_bin f p k) λr=>dF n r|0,p,h,k,_=>h|f+1,p,h,k,hk=>(y9 h Y' k 0 k (Wg _)).bind λl _=>F2 f (h.VY _ _) (k+1) Y'
theorem F3(h2:2<=n):Good n (kas_sort n) λr=>dF n r:=(VZ (.refl _) h2).bind λr z=>by
 show Good n (if r.1<n then _ else _) _;split;.exact F2 _ z.1 _ Y'
 .exact z.1
end
def f9(ks:List Tx):List Nat:=(runK (λi j=>decide (ks.getD i []<ks.getD j [])) (kas_sort ks.length)).toList
theorem vz(h:2<=ks.length):(f9 ks).Perm (WB ks.length):=dF.list (Good.run _ (F3 h))
structure kr(h:Heap)(vs:List Value)(ks:List Tx):Prop where
 len:ks.length=vs.length
 at':∀i v,vs[i]?=some v->∃b o xs m t,v=.ref b/\h.get? b=some o/\o.cls=.type "tuple"/\o.data=.seq xs m/\xs[0]?=some (.str (toS (ks.getD i [])) t)
theorem kr.keeps{vs}(t:kr h vs ks)(k:∀b o,h.get? b=some o->o.cls=.type "tuple"->h'.get? b=some o):kr h' vs ks:=⟨t.len,λi v e=>by obtain⟨b,o,xs,m,tk,e1,e2,e3,r⟩:=t.at' i v e;exact⟨b,o,xs,m,tk,e1,k b o e2 e3,e3,r⟩⟩
theorem F4:∀{vs:List Value}{ks:List Tx},kr h vs ks->∃fs,KatTups h vs fs/\fs.length=vs.length/\∀v∈fs,∃x t,v=Value.str x t|[],ks,t=>⟨[],trivial,rfl,λv h=>by simp at h⟩|v::vs,[],t=>by have:=t.len;simp at this|v::vs,k::ks,t=>by obtain⟨fs,a,b,c⟩:=F4 (vs:=vs) (ks:=ks) ⟨by have:=t.len;simpa using this,λi v e=>by have:=t.at' (i+1) v (~~~e);simpa using this⟩;obtain⟨x,o,xs,m,tk,rfl,e2,e3,e4,e5⟩:=t.at' 0 v rfl;exact⟨_::fs,⟨⟨x,o,xs,m,rfl,e2,e3,e4,e5⟩,a⟩,#v[b],λv hv=>by
 rcases Wf.mp hv with rfl|hv;.exact⟨_,_,rfl⟩
 .exact c v hv⟩
section
variable{s:W4}{vs:List Value}{ks:List Tx}
theorem V0{C}(t:kr s.heap vs ks)(nd:ks.Nodup)(hi:i<vs.length)(hj:j<vs.length)(ne:i≠j)(h:C (decide (ks.getD i []<ks.getD j [])) s):kas_ask prog w A (tuples' true) vs i j C s:=by
 obtain⟨a,o,xs,m,tk,e1,e2,e3,e4,e5⟩:=t.at' i vs[i] #v[hi];obtain⟨b,p,ys,n,tl,f1,f2,f3,f4,f5⟩:=t.at' j vs[j] #v[hj];unfold kas_ask;rw[Qk,Qk,W8 hi,W8 hj];simp only[JZ];rw[e1,f1];refine kat_lt e2 e4 f2 f4 ?_;have hx:∃r,xs.toList=.str (toS (ks.getD i [])) tk::r:=by have:xs.toList[0]?=some (.str (toS (ks.getD i [])) tk):= ~~~e5;cases z:xs.toList with|nil=>rw[z]at this;simp at this|cons u r=>rw[z]at this;simp at this;exact⟨r,by rw[this];simp⟩
 have hy:∃r,ys.toList=.str (toS (ks.getD j [])) tl::r:=by have:ys.toList[0]?=some (.str (toS (ks.getD j [])) tl):= ~~~f5;cases z:ys.toList with|nil=>rw[z]at this;simp at this|cons u r=>rw[z]at this;simp at this;exact⟨r,by rw[this];simp⟩
 obtain⟨r,hr⟩:=hx;obtain⟨q,hq⟩:=hy;rw[hr,hq,List.zip_cons_cons];have V1:i<ks.length:=%[t.len|hi];have V2:j<ks.length:=%[t.len|hj];have cu:(toS (ks.getD i [])==toS (ks.getD j []))=false:=by rw[beq_eq_false_iff_ne];intro z;have z:=uH z;rw[Qk,Qk,W8 V1,W8 V2]at z;exact ne ((List.getElem_inj nd).mp z)
 refine kat_cons (eqBool_str ?_);rw[cu];refine kat_no (oneLt_str ?_);rw[oT,oT];exact h
theorem V3{P}(ho:s.heap.get? a=some (QH "list" vs.toArray n))(t:kr s.heap vs ks)(nd:ks.Nodup)(h2:2<=vs.length)(pJ:vs.length<64)(h:P (.done (.ret .none)) {s with heap:=sortedHeap s.heap a vs (Uf ((f9 ks).map λi=>vs.getD i Value.none))}):W7 (model prog w) A (Builtin.«list.sort» ⟨[.ref a],[]⟩) P E s:=by
 have bc:a<s.heap.objs.size:=Wp ho;obtain⟨e1,ho1⟩:∃e1,(s.heap.update a (Obj.mapSeq λ_=>(#[]:Array Value))).get? a=some (QH "list" #[] e1):=⟨_,get?_update_seq ho λ_=>#[]⟩;rw[list_sort_plain];refine W0 (listItems_at ho rfl (W0 (listUpdate_at ho rfl (W0 (seqEpoch_at ho1 rfl (W0 (wpAny_newTuple (W0 (wpAny_newList (WI ?_) (QE _))) (by show vs.length<=_;rw[QK];lia))))) (by rw[Ww,QK];lia) (QE _))));show W7 (model prog w) A _ P E {s with heap:=((s.heap.update a (Obj.mapSeq λ_=>(#[]:Array Value))).push (QH "tuple" vs.toArray 0)).push (QH "list" #[] 0)};have h6:(((s.heap.update a (Obj.mapSeq λ_=>(#[]:Array Value))).push (QH "tuple" vs.toArray 0)).push (QH "list" #[] 0)).get? a=some (QH "list" #[] e1):=W6 _ (W6 _ ho1);have t6:kr (((s.heap.update a (Obj.mapSeq λ_=>(#[]:Array Value))).push (QH "tuple" vs.toArray 0)).push (QH "list" #[] 0)) vs ks:=t.keeps λb o e c=>by
  have nb:b≠a:=λz=>by rw[z,ho]at e;cases e;exact absurd (Value.type.inj c) Z'
  refine W6 _ (W6 _ ?_);rw[JP _ _ (Ne.symm nb)];exact e
 dsimp only;have jT:¬vs.toArray.size<2:=by rw[Ww];lia
 rw[if_neg jT,if_neg jT];obtain⟨fs,kt,fl,ft⟩:=F4 t6;refine W0 (kat_kind (s:={s with heap:=((s.heap.update a (Obj.mapSeq λ_=>(#[]:Array Value))).push (QH "tuple" vs.toArray 0)).push (QH "list" #[] 0)}) (T:=.type "str") kt Y' (λv hv=>by obtain⟨x,tk,rfl⟩:=ft v hv;exact .now) rfl ?_);refine W0 (Qy (kat_run (s:={s with heap:=((s.heap.update a (Obj.mapSeq λ_=>(#[]:Array Value))).push (QH "tuple" vs.toArray 0)).push (QH "list" #[] 0)}) (κ:=tuples' true) (ks:=vs) (vs:=vs) (E:=E) (G:=λp s'=>p.toList=f9 ks/\s'={s with heap:=((s.heap.update a (Obj.mapSeq λ_=>(#[]:Array Value))).push (QH "tuple" vs.toArray 0)).push (QH "list" #[] 0)}) (Q:=λcq s'=>(arrOf cq).map (·.2)=Uf ((f9 ks).map λi=>vs.getD i Value.none)/\failedOf cq=none/\s'={s with heap:=((s.heap.update a (Obj.mapSeq λ_=>(#[]:Array Value))).push (QH "tuple" vs.toArray 0)).push (QH "list" #[] 0)}) rfl h2 pJ (λp cq s' a1 a2 a3 a4=>⟨by rw[kat_snds rfl a2,a4.1],a3,a4.2⟩) ?_) ?_ λ_ _ e=>e);.refine Good.wp (n:=vs.length) (lt:=λi j=>decide (ks.getD i []<ks.getD j [])) (R:=λ_=>True) (λi j hi hj ne C hC=>V0 t6 nd hi hj ne hC) ((F3 h2).mono λ_ _=>trivial) ⟨?_,rfl⟩;unfold f9;rw[t.len]
 .rintro⟨⟨⟩,cq⟩s'⟨q1,q2,rfl⟩;dsimp only at q1 q2⊢;have hz:((f9 ks).map λi=>vs.getD i Value.none).length=vs.length:=by rw[Ws,(vz (ks:=ks) %[t.len|h2]).length_eq,Uo,t.len]
  rw[q1];refine W0 (seqEpoch_at h6 rfl (W0 (listUpdate_at h6 rfl ?_ (QE _) (by rw[Ww,hz,QK];lia))));rw[q2];simp only[bne_self_eq_false,Qf,if_false];exact W3 h
theorem V4(hl:s.heap.IsList l vs.toArray)(t:kr s.heap vs ks)(nd:ks.Nodup)(h2:2<=vs.length)(pJ:vs.length<64)(h:Q (.ref (s.heap.objs.size+1)) {s with heap:=sortedAll s.heap vs (Uf ((f9 ks).map λi=>vs.getD i Value.none))}):W7 (model prog w) A (call (.builtin "sorted") [.ref l]) Q E s:=by
 refine Calls.call_function_entry kind_sorted plain_sorted entry_sorted (args_sorted1 _) ?_;unfold Builtin.«sorted»;refine W0 (m:=checkCount "sorted" 1 1 _) (W3 (W0 (collect_list hl (W0 (wpAny_newList ?_ (by rw[QK];lia))) (by rw[QK];lia))));have hz:((s.heap.push (QH "list" #[] 0)).update s.heap.objs.size (Obj.mapSeq (.++vs.toArray))).objs.size=s.heap.objs.size+1:=by rw[Heap.size_update,size_push']
 have t4:(((s.heap.push (QH "list" #[] 0)).update s.heap.objs.size (Obj.mapSeq (.++vs.toArray))).push (QH "list" vs.toArray 0)).get? (s.heap.objs.size+1)=some (QH "list" vs.toArray 0):=by rw[<-hz];exact Wh _ rfl
 have t2:kr (((s.heap.push (QH "list" #[] 0)).update s.heap.objs.size (Obj.mapSeq (.++vs.toArray))).push (QH "list" vs.toArray 0)) vs ks:=t.keeps λb o e _=>by have hb:b<s.heap.objs.size:=Wp e;refine W6 _ ?_;rw[JP _ _ (Jj hb)];exact W6 _ e
 show W7 _ _ _ _ _ {s with heap:=((s.heap.push (QH "list" #[] 0)).update s.heap.objs.size (Obj.mapSeq (.++vs.toArray))).push (QH "list" vs.toArray 0)};rw[hz];refine W0 (WI (WA slot_list_sort ⟨_,t4,rfl⟩ entry_list_sort (V3 (s:={s with heap:=((s.heap.push (QH "list" #[] 0)).update s.heap.objs.size (Obj.mapSeq (.++vs.toArray))).push (QH "list" vs.toArray 0)}) t4 t2 nd h2 pJ ⟨_,rfl,?_⟩) (args_list_sort _)));exact W3 ⟨_,rfl,h⟩
end
theorem Vals.at2{v}(r:Vals vs ak)(e1:vs[i]?=some v)(e2:ak[i]?=some u):RelV v u:=by obtain⟨u',e,q⟩:=Vals.get r e1;rw[e2]at e;cases e;exact q
theorem Vals.pick(r:Vals vs ak):∀is:List Nat,(∀i∈is,i<vs.length)->Vals (is.map λi=>vs.getD i .aJ) (is.map λi=>ak.getD i Value.none)|[],_=>.nil|i::is,h=>by refine .cons ?_ (Vals.pick r is λj hj=>h j (Wn _ hj));have hi:=h i Wx;have hl:=r.length;have e1:vs.getD i .aJ=vs[i]:=#v[hi];have e2:ak.getD i Value.none=ak[i]' Y':=#v[show i<ak.length by lia];show RelV (vs.getD i .aJ) (ak.getD i Value.none);rw[e1,e2];exact Vals.at2 (i:=i) r (W8 hi) (W8 Y')
theorem V5:eF X (.builtin "sorted") λxs H Q=>∃(a:Addr)(vs:List V)(ks:List Tx),xs=[.ref a]/\cp X.K H a vs/\ks.length=vs.length/\(∀i v,vs[i]?=some v->∃b ws,v=.ref b/\H b=some (.tup ws)/\ws[0]?=some (.str (toS (ks.getD i []))))/\ks.Nodup/\2<=vs.length/\vs.length<64/\∀p,H p=none->Q (.ref p) (upd H p (.lst ((f9 ks).map λi=>vs.getD i .aJ))):=by
 intro pins s M H xs us Q I r h;obtain⟨a,vs,ks,rfl,hq,hlen,ht,nd,h2,pJ,q⟩:=h;obtain⟨u,rfl,ru⟩:=gI r;cases ru;obtain⟨ak,r',p,_⟩:=I.list hq;have hl:=r'.length;have t:kr s.heap ak ks:=⟨Y',λi v e=>by have hi:i<ak.length:=(W9.mp e).1;have hv:vs[i]?=some (vs[i]' Y'):=#v[show i<vs.length by lia];have rv:=Vals.at2 r' hv e;obtain⟨b,ws,eb,hb,h0⟩:=ht i _ hv;rw[eb]at rv;obtain rfl:v=Value.ref b:=rv;obtain⟨_,its',r2,n,eo⟩:=show bX X.prog X.w H s.heap b (.tup ws)from I.aB b _ hb;have k6:=r2.length;have hw0:0<ws.length:=(W9.mp h0).1;have r0:=Vals.at2 r2 h0 (show its'[0]?=some (its'[0]' Y')by simp[show 0<its'.length by lia]);obtain⟨tk,e0⟩:=show∃tk,its'[0]' Y'=Value.str (toS (ks.getD i [])) tk from r0;exact⟨b,_,its'.toArray,n,tk,rfl,eo,rfl,rfl,by rw[<-e0];simp[show 0<its'.length by lia]⟩⟩;refine V4 p.isList t nd Y' Y' ?_;have hp:=vz (ks:=ks) Y';have Di:((f9 ks).map λi=>vs.getD i V.aJ).length=vs.length:=by rw[Ws,hp.length_eq,Uo,hlen]
 obtain⟨e,he⟩:=sortedAll_at s.heap ak (Uf ((f9 ks).map λi=>ak.getD i Value.none));have I1:Inv X pins M (upd H (s.heap.objs.size+1) (.lst ((f9 ks).map λi=>vs.getD i .aJ))) {s with heap:=sortedAll s.heap ak (Uf ((f9 ks).map λi=>ak.getD i Value.none))}:=I.laid (t':=s.toks) (λb o z=>sortedAll_old z) (U3 _) (show bX X.prog X.w _ _ _ (.lst ((f9 ks).map λi=>vs.getD i .aJ))from⟨by rw[Di,QK];lia,(f9 ks).map λi=>ak.getD i Value.none,e,r'.pick _ λi hi=>by have:=hp.mem_iff.mp hi;simp at this;lia,he⟩);exact⟨.ref _,_,I1,rfl,q _ (I.aB.fresh (U3 _))⟩
end
noncomputable def mH:List D->Option (List Tx)|[]=>some []|.tup (.str x::_)::r=>(mH r).map (x::.)|_::_=>none
theorem F5:∀{ds:List D}{ks:List Tx},mH ds=some ks->ks.length=ds.length/\∀(i:Nat)d,ds[i]?=some d->∃r,d=.tup (.str (ks.getD i [])::r)
 |[],ks,h=>by cases h;exact⟨rfl,λi d e=>by simp at e⟩|d::r,ks,h=>by
  unfold mH at h;split at h;.rename_i e;cases e
  .rename_i x q r' e;cases e;cases e:mH r with|none=>rw[e]at h;cases h|some ks'=>rw[e]at h;cases h;obtain⟨h1,h2⟩:=F5 e;refine⟨#v[h1],λi d' e'=>?_⟩;cases i with|zero=>simp at e';subst e';exact⟨q,U'⟩|succ i=>simpa using h2 i d' (~~~e')
  .cases h
def pK:List Tx->Bool|[]=>true|x::r=>!r.contains x&&pK r
theorem F6:∀{ks:List Tx},pK ks=true->ks.Nodup|[],_=>.nil|x::r,h=>by simp only[pK,Wy,Bool.not_eq_true',List.contains_iff_mem,<-Bool.not_eq_true]at h;exact WW.mpr ⟨~~~h.1,F6 h.2⟩
noncomputable def n5:D->Option S
 |.lst ds=>match mH ds with|some ks=>if 2<=ks.length/\ks.length<64/\pK ks=true then some (.own (.lst ((f9 ks).map λi=>ds.getD i .aJ)))else none|none=>none
 |_=>none
theorem aH.pick(r:aH H O vs ds):∀is:List Nat,(∀i∈is,i<vs.length)->aH H O (is.map λi=>vs.getD i .aJ) (is.map λi=>ds.getD i .aJ)
 |[],_=>.nil|i::is,h=>by
  have hi:=h i Wx;have hl:=r.1;refine .cons (r.2 i _ _ ?_ ?_) (aH.pick r is λj hj=>h j (Wn _ hj));.simp[hi]
  .simp[show i<ds.length by lia]
theorem V6:ki (λv H Q=>∃(a:Addr)(vs:List V)(ks:List Tx),v=.ref a/\cp K H a vs/\ks.length=vs.length/\(∀i v,vs[i]?=some v->∃b ws,v=.ref b/\H b=some (.tup ws)/\ws[0]?=some (.str (toS (ks.getD i []))))/\ks.Nodup/\2<=vs.length/\vs.length<64/\∀p,H p=none->Q (.ref p) (upd H p (.lst ((f9 ks).map λi=>vs.getD i .aJ)))) n5:=λc M U H x d s Q k rx hp q=>by cases d with
 |lst ds=>simp only[n5]at hp;cases e:mH ds with|none=>rw[e]at hp;cases hp|some ks=>
    rw[e]at hp;simp only at hp;split at hp
    .rename_i hh;cases hp;obtain⟨h1,h2⟩:=F5 e;obtain⟨a,vs,ea,ha,ra⟩:=rx.lst;have hl:=ra.1;refine⟨a,vs,ks,ea,.inl ha,Y',λi v ev=>?_,F6 hh.2.2,Y',Y',λp hp=>?_⟩;.have hi:i<vs.length:=(W9.mp ev).1;have hd:ds[i]?=some (ds[i]' Y'):=#v[show i<ds.length by lia];obtain⟨r,er⟩:=h2 i _ hd;have rv:=ra.2 i v _ ev hd;rw[er]at rv;cases rv with|@tup b ws _ _ hb hlen hat=>
 have h0:0<ws.length:=by rw[hlen];simp
 have r0:=hat 0 (ws[0]'h0) (.str (ks.getD i [])) #v[h0] rfl;refine⟨b,ws,rfl,hb,?_⟩;generalize hz:ws[0]'h0=z at r0;cases r0;rw[W8 h0,hz]
     .refine q _ _ (.alloc k hp _) (bu.nD k (aH.pick ra _ λi hi=>?_) hp);have:=(vz (ks:=ks) hh.1).mem_iff.mp hi;simp at this;lia
    .cases hp|_=>simp[n5]at hp
theorem V7(hg:Gl X "sorted")(hm:X.mg "sorted"=none)(he:SB X c e fb)(hs:We [e] X.env=(false,eval e X.env)::We [] X.env:=by rfl):SE X c (.Call (.Name "sorted" pp) [e] [] pos) (az n5 fb):=oX (r:=λv H Q=>∃(a:Addr)(vs:List V)(ks:List Tx),v=.ref a/\cp X.K H a vs/\ks.length=vs.length/\(∀(i:Nat)v,vs[i]?=some v->∃b ws,v=.ref b/\H b=some (.tup ws)/\ws[0]?=some (.str (toS (ks.getD i []))))/\ks.Nodup/\2<=vs.length/\vs.length<64/\∀p,H p=none->Q (.ref p) (upd H p (.lst ((f9 ks).map λi=>vs.getD i .aJ)))) V5 (λv H Q⟨a,vs,ks,e,h⟩=>⟨a,vs,ks,by rw[e],h⟩) V6 hg hm PyProof.Rows.boot_sorted he Z' Z' hs
section
open PySem.W
section
variable{lt:Nat->Nat->Bool}{r:Nat->Nat}{α β:Type}
structure Lt(lt:Nat->Nat->Bool)(r:Nat->Nat)(n:Nat):Prop where lt:∀i j,i<n->j<n->lt i j=decide (r i<r j)inj:∀i j,i<n->j<n->i≠j->r i≠r j
end
end
section
variable{α β:Type}
@[simp high]theorem zzg{α:Type}(a:α)(l:List α):(a::l)[0]?=some a:=rfl
@[simp high]theorem zzh{α:Type}(a:α)(l:List α)(n:Nat):(a::l)[n+1]?=l[n]?:=rfl
theorem zzj(a:α)(U:Dl)(f:α->Dl->Rs β):(Rs.ok a U).bind f=f a U:=rfl
@[simp]theorem jn(a:α)(U:Dl)(f:α->Dl->Rs β):(Rs.ok a U).bind f=f a U:=id rfl
@[simp]theorem zdC(f:α->Dl->Rs β):(Rs.stuck:Rs α).bind f=.stuck:=id rfl
@[simp]theorem qaX(d:D):(S.pure d).d=d:=id rfl
@[simp]theorem qaY(d:D):(S.own d).d=d:=id rfl
end
section
variable(U:Dl)(i:Nat)(d e:D)(f g:DE)(fb:BE)(t u:DT)(p:D->D->Option S)
@[simp]theorem qaZ:eD d U=.ok (.pure d) U:=id rfl
@[simp]theorem qa0:aq f U=(f U).bind λr ZB=>.ok r.d ZB:=id rfl
@[simp]theorem qa1:aA p f fb U=(f U).bind λx ZW=>(fb ZW).bind λy XV=>p2 p x.d y XV:=id rfl
@[simp]theorem qa2:qW t u U=(t U).bind λb ZW=>if b then u ZW else .ok false ZW:=id rfl
@[simp]theorem qa3:dj t u U=(t U).bind λb ZW=>if b then .ok true ZW else u ZW:=id rfl
@[simp]theorem qa4:b_ t U=(t U).bind λb ZW=>.ok (!b) ZW:=id rfl
@[simp]theorem qa5:RG t f g U=(t U).bind λb ZW=>if b then f ZW else g ZW:=id rfl
@[simp]theorem qa6:bL U=.ok .next U:=id rfl
@[simp]theorem qa7:bP U=.ok true U:=id rfl
@[simp]theorem qa8:ph f U=(f U).bind λ_ ZW=>.ok .next ZW:=id rfl
@[simp]theorem qa9:bh f U=(f U).bind λr ZW=>.ok (.ret r) ZW:=id rfl
@[simp]theorem F8(a b:DS):bG t a b U=(t U).bind λx ZW=>if x then a ZW else b ZW:=id rfl
@[simp]theorem qa_(it:DI)(gg:DG)(b:DS):bE it gg b U=(it U).bind λds ZW=>forL gg b ds ZW:=id rfl
@[simp]theorem qba(a:DA):aQ a U=(a U).bind λds ZB=>.ok (.pure (.tup ds)) ZB:=id rfl
@[simp]theorem qbb(a:DA):bQ a U=(a U).bind λds ZB=>.ok (.own (.lst ds)) ZB:=id rfl
@[simp]theorem qbc(ds:List D):yM ds U=.ok (.own (.lst ds)) U:=id rfl
@[simp]theorem qbd:aD U=.ok [] U:=id rfl
@[simp]theorem qbe(a:DA):ao f a U=(f U).bind λx ZW=>(a ZW).bind λxs XV=>.ok (x.d::xs) XV:=id rfl
@[simp]theorem qbf(q:D->Option S):az q fb U=(fb U).bind λx ZW=>p1 q x ZW:=id rfl
@[simp]theorem qbg:u9 f g U=(f U).bind λx ZW=>(g ZW).bind λy XV=>p2 yw x.d y.d XV:=id rfl
@[simp]theorem qbh(fl fh:mv):mw f fl fh U=(f U).bind λx ZW=>(fl ZW).bind λl XV=>(fh XV).bind λh XL=>p1 (dA l h) x.d XL:=id rfl
@[simp]theorem qbi:gz U=.ok none U:=id rfl
@[simp]theorem qbj(cs:List Nat)(it:DI)(gg:DG)(el:DE):bJ cs it gg t el U=(it U).bind λds ZW=>if cs.any (dP ZW)then .stuck else(eS cs gg t el ds (bx cs ZW) []).bind λacc XV=>.ok (.own (.lst acc)) (eM cs ZW XV):=id rfl
@[simp]theorem qbk(np:List Nat)(r:S):ag np i r U=if np.contains i then none else some (U.set i (some r)):=id rfl
@[simp]theorem zgt(gg:DG)(b:DS):forL gg b [] U=.ok .next U:=id rfl
end
section
variable(U:Dl)(i:Nat)(d e:D)(f g:DE)(fb:BE)(p:D->D->Option S)(s:S)
@[simp]theorem qbl(x y:D):p2 p x y U=match p x y with|some s=>.ok s U|none=>.stuck:=id rfl
@[simp]theorem qbm(q:D->Option S)(x:D):p1 q x U=match q x with|some s=>.ok s U|none=>.stuck:=id rfl
@[simp]theorem qbn(a b:DS):ar a b U=(a U).bind λfl ZW=>match fl with|.next=>b ZW|.ret r=>.ok (.ret r) ZW|.brk=>.ok .brk ZW|.cont=>.ok .cont ZW:=id rfl
@[simp]theorem zgP{α β:Type}(c:Prop)[Decidable c](x y:Rs α)(k:α->Dl->Rs β):(if c then x else y).bind k=if c then x.bind k else y.bind k:=by split<;>rfl
end
theorem de:Wb=16777216:=rfl
theorem iM(xs:List α)(i:Nat):eN xs (i:Int)=xs[i]?:=by
 unfold eN jb;by_cases h:i<xs.length;.rw[if_pos Y',if_pos Y'];simp
 .rw[if_pos Y',if_neg Y'];simp[QA (Nat.le_of_not_lt h)]
theorem y_(xs:List α):eN xs 2=xs[2]?:=iM xs 2
theorem ku(xs:List α):eN xs 0=xs[0]?:=iM xs 0
theorem za(xs:List α):eN xs 1=xs[1]?:=iM xs 1
theorem F9{el}(I:Dl->Prop)(R:D->D->Prop):∀(ds:List D)(U:Dl)(acc:List D),I U->acc.length+ds.length<=Wb->(∀d∈ds,∀U,I U->∃ZW XV x XL,g (.pure d) U=some ZW/\t ZW=.ok true XV/\el XV=.ok x XL/\I (bx cs XL)/\R d x.d)->∃xs ZB,eS cs g t el ds U acc=.ok (acc++xs) ZB/\I ZB/\xs.length=ds.length/\∀(i:Nat)d x,ds[i]?=some d->xs[i]?=some x->R d x
 |[],U,acc,h,_,_=>⟨[],U,#v[eS],h,rfl,λi d x e=>by simp at e⟩|d::r,U,acc,h,hl,hs=>by
  obtain⟨ZW,XV,x,XL,e1,e2,e3,h3,hr⟩:=hs d Wx U h;have iW:acc.length<Wb:=by simp at hl;lia
  obtain⟨xs,ZB,e4,h4,hn,hf⟩:=F9 (g:=g) (t:=t) (el:=el) I R r (bx cs XL) (acc++[x.d]) h3 P' λd hd=>hs d (Wn _ hd);refine⟨x.d::xs,ZB,?_,h4,#v[hn],λi d' x' f1 f2=>?_⟩;.unfold eS;simp_all
  .cases i with|zero=>simp at f1 f2;subst f1 f2;exact hr|succ i=>exact hf i d' x' (~~~f1) (~~~f2)
theorem n8(I:Nat->Dl->Prop):∀(ds:List D)n U,I n U->(∀i d U,ds[i]?=some d->I (n+i) U->∃ZW XV,g (.pure d) U=some ZW/\b ZW=.ok .next XV/\I (n+i+1) XV)->∃ZB,forL g b ds U=.ok .next ZB/\I (n+ds.length) ZB
 |[],n,U,h,_=>⟨U,rfl,h⟩|d::r,n,U,h,hs=>by
  obtain⟨ZW,XV,e1,e2,h2⟩:=hs 0 d U rfl h;obtain⟨ZB,e3,h3⟩:=n8 (g:=g) (b:=b) I r (n+1) XV h2 λi d' ZB e hi=>by have:=hs (i+1) d' ZB (~~~e) %[show n+(i+1)=n+1+i by lia|hi];rw[show n+(i+1)+1=n+1+i+1 by lia]at this;exact this
  refine⟨ZB,?_,%[WP,show n+(r.length+1)=n+1+r.length by lia|h3]⟩;unfold forL;rw[e1];simp only[e2,jn,e3]
theorem pL(xs:List Tx):gy (xs.map .str)=some xs:=by induction xs with|nil=>rfl|cons x r ih=>simp[gy,ih]
theorem vA:∀ts:List Tx,jM [] ts=ts.flatten|[]=>rfl|[x]=>#v[jM]|x::y::r=>by rw[jM,vA (y::r)];simp
theorem V8(xs:List Nat):ie (xs.map λn=>[n])=xs.length:=by unfold ie;induction xs with|nil=>rfl|cons x r ih=>simp at ih⊢;lia
theorem V9(xs:List Nat):(xs.map λn=>[n]).flatten=xs:=by induction xs with|nil=>rfl|cons x r ih=>simp[ih]
theorem zb(xs:List Nat)(h:xs.length<=16777216):cO [] (.lst (xs.map λn=>.str [n]))=some (.pure (.str xs)):=by
 have e:(xs.map λn=>D.str [n])=(xs.map λn=>[n]).map D.str:=by simp
 unfold cO;simp only[e,pL,V8,vA,V9];rw[if_pos (~~~h)]
theorem F_(bs:List Bool):iJ (bs.map .bl)=some bs:=by induction bs with|nil=>rfl|cons x r ih=>simp[iJ,ih]
theorem V_(r:Tx)(c:Nat)(h:c<r.length)(hl:r.length<=64):aw (.str r) (.int c)=some (.pure (.str [r.getD c 0])):=by unfold aw;have:Wb=16777216:=rfl;simp only;rw[if_pos Y',iM];simp[h]
abbrev bN(fl:List Tx):D:=.tup (fl.map .str)
def lW(r:S)(ZW:Dl):Rs (List D):=match r with|.pure (.int j)=>if pk j then .ok (e9 0 j.toNat) ZW else .stuck|_=>.stuck
@[simp]theorem zc(f:DE)(U:Dl):cG f U=(f U).bind λr ZW=>lW r ZW:=id rfl
theorem W_(w:Nat)(hw:w<=1000000):pk (w:Int)=true:=by
 have h1:-(4611686018427387904:Int)<=(w:Int):=by lia
 have h2:(w:Int)<4611686018427387904:=by lia
 unfold pk;rw[Wy];exact⟨decide_eq_true h1,decide_eq_true h2⟩
theorem Xa(j:Int)(hs:pk j=true)(U):lW (.pure (.int j)) U=.ok (e9 0 j.toNat) U:=by unfold lW;grind
theorem vB(w:Nat)(hw:w<=1000000)(U):lW (.pure (.int w)) U=.ok (e9 0 w) U:=by have:=Xa (w:Int) (W_ w hw) U;rwa[Qu]at this
theorem Ga(h:(e9 0 n)[i]?=some d):i<n/\d=.int (i:Int):=by
 unfold e9 at h;rw[Wo]at h;by_cases hi:i<n;.rw[List.getElem?_range hi]at h;simp at h;exact⟨hi,h.symm⟩
 .rw[QA (~~~hi)]at h;cases h
@[simp]theorem Gb(lo:Int)(n:Nat):(e9 lo n).length=n:=#v[e9]
def jo(x:Nat):List Nat->List Nat|[]=>[x]|y::r=>if y<x then y::jo x r else x::y::r
def iN:List Nat->List Nat|[]=>[]|x::r=>jo x (iN r)
theorem kz(a b):([a]:Tx)<[b]↔a<b:=by
 constructor;.intro h;cases h<;>simp_all
 .intro h;exact List.Lex.rel h
theorem Gd(x):∀xs:List Nat,k7 [x] (xs.map λn=>[n])=(jo x xs).map λn=>[n]
 |[]=>rfl|y::r=>by
  simp only[Wi,k7,jo];by_cases h:y<x;.rw[if_pos ((kz y x).mpr h),if_pos h,Gd x r];rfl
  .rw[if_neg λz=>h ((kz y x).mp z),if_neg h];rfl
theorem Ge:∀xs:List Nat,iH (xs.map λn=>[n])=(iN xs).map λn=>[n]|[]=>rfl|x::r=>by rw[Wi,iH,Ge r,Gd];rfl
theorem ze{x}:∀{xs:List Nat},y∈jo x xs↔y=x\/y∈xs
 |[]=>#v[jo]|z::r=>by
  unfold jo;split;.simp[ze (xs:=r)];all_goals grind
  .simp
theorem zf:∀{xs:List Nat},y∈iN xs↔y∈xs|[]=>#v[iN]|x::r=>by rw[iN,ze,zf (xs:=r)];simp
theorem Gf(x):∀xs:List Nat,(jo x xs).length=xs.length+1|[]=>rfl|y::r=>by unfold jo;split<;>simp[Gf x r]
theorem Gg:∀xs:List Nat,(iN xs).length=xs.length|[]=>rfl|x::r=>by rw[iN,Gf,Gg r];rfl
theorem Gh{x}:∀{xs:List Nat},xs.Pairwise (.<.)->x∉xs->(jo x xs).Pairwise (.<.)
 |[],_,_=>#v[jo]|y::r,h,hx=>by
  rw[Ue]at h;simp at hx;unfold jo;split
  .rename_i hl;rw[Ue];refine⟨λz hz=>?_,Gh h.2 hx.2⟩;rcases ze.mp hz with rfl|hz;.exact hl
   .exact h.1 z hz
  .rename_i hl;rw[Ue];refine⟨λz hz=>?_,List.pairwise_cons.mpr h⟩;rcases Wf.mp hz with rfl|hz;.lia
   .have:=h.1 z hz;lia
theorem Gi:∀{xs:List Nat},xs.Nodup->(iN xs).Pairwise (.<.)|[],_=>#v[iN]|x::r,h=>by rw[WW]at h;exact Gh (Gi h.2) λz=>h.1 (zf.mp z)
theorem zg{P:Nat->Prop}:∀{xs:List D},(∀x∈xs,∃n,P n/\x=.str [n])->∃row:List Nat,xs=row.map (λn=>.str [n])/\∀n∈row,P n|[],_=>⟨[],rfl,U'⟩|x::r,h=>by obtain⟨n,hn,rfl⟩:=h x Wx;obtain⟨row,rfl,hr⟩:=zg (xs:=r) λy hy=>h y (Wn _ hy);exact⟨n::row,rfl,by simpa using⟨hn,hr⟩⟩
theorem Xb{R:D->D->Prop}{xs:List D}{Q:D->Prop}(hn:xs.length=ds.length)(hf:∀(i:Nat)d x,ds[i]?=some d->xs[i]?=some x->R d x)(hq:∀d x,d∈ds->R d x->Q x):∀x∈xs,Q x:=λx hx=>by obtain⟨i,hi⟩:=List.getElem?_of_mem hx;have h1:=(W9.mp hi).1;have h2:ds[i]?=some (ds[i]' Y'):=#v[show i<ds.length by lia];exact hq _ x (WQ _) (hf i _ x h2 hi)
abbrev aL(b:Nat×List Tx):D:=.tup [.str [b.1],bN b.2]
abbrev aG(h w:Nat)(bs:List (Nat×List Tx)):D:=.tup [.int h,.int w,.tup (bs.map aL)]
structure iO(h w:Nat)(bs:List (Nat×List Tx)):Prop where
 h0:0<h
 h1:h<=4w0:0<w
 w1:w<=4hw:2<h+w
 n0:0<bs.length
 n1:bs.length<=26up:(bs.map (·.1)).Pairwise (.<.)zh:∀b∈bs,97<=b.1/\b.1<=122bR:∀b∈bs,b.2.length=h/\∀r∈b.2,r.length=w/\∀n∈r,n∈bs.map (·.1)
theorem zi{el cs A}(f F:A->D)(U):∀(as:List A)(acc:List D),acc.length+as.length<=Wb->(∀a∈as,∃ZW XV x XL,g (.pure (f a)) U=some ZW/\t ZW=.ok true XV/\el XV=.ok x XL/\bx cs XL=U/\x.d=F a)->eS cs g t el (as.map f) U acc=.ok (acc++as.map F) U
 |[],acc,_,_=>#v[eS]|a::r,acc,hl,hs=>by
  obtain⟨ZW,XV,x,XL,e1,e2,e3,e4,e5⟩:=hs a Wx;have iW:acc.length<Wb:=by simp at hl;lia
  have ih:=zi (cs:=cs) (g:=g) (t:=t) (el:=el) f F U r (acc++[x.d]) P' λa ha=>hs a (Wn _ ha);rw[Wi];unfold eS;simp_all
theorem Xd:entryFor table "dict_itemiterator.__iter__"=some Builtin.«dict_keyiterator.__iter__»:=entryFor_alias (id':="dict_keyiterator.__iter__") (by kernel_rfl) rfl Re (by kernel_rfl)
theorem Xe(hit:IsItemIter s.heap it d i n ep ok ov)(h:Q (.ref it) s):W7 (model prog w) A (pyIter (.ref it)) Q E s:=by have hT:s.TypeIs (.ref it) "dict_itemiterator":=⟨_,hit,rfl⟩;refine JT hT F.slot_dict_itemiterator_iter (WA F.slot_dict_itemiterator_iter hT Xd ?_ (F.args_dict_itemiterator_iter_1 _));show W7 _ _ (ret (.ref it)) _ _ s;exact W3 ⟨_,rfl,"dict_itemiterator",_,hT,F.slot_dict_itemiterator_next.lookup,h⟩
section
variable{x y:Nat}{a:Addr}{d:D}
theorem Ok.move(k:Ok c M U H)(dm:Np c np)(hx:np.contains x=false)(yl:x≠y)(e:U[y]?=some (some (.own d)))(ea:M[y]?=some (some (.ref a)))(hl:x<U.length):aY c M U H (M.set x (some (.ref a))) ((U.set y none).set x (some (.own d))) H:=by
 have Xf:y<U.length:=(W9.mp e).1;have Xg:x<M.length:=by rw[<-k.len];exact hl
 have at_:∀j r,((U.set y none).set x (some (.own d)))[j]?=some (some r)->j=x/\r=.own d\/j≠x/\j≠y/\U[j]?=some (some r):=λj r q=>by
  by_cases hj:x=j;.subst hj;rw[Wr %[Qg|hl]]at q;cases q;exact .inl ⟨rfl,rfl⟩
  .rw[Wa hj]at q;by_cases hy:y=j;.subst hy;rw[Wr Xf]at q;cases q
   .rw[Wa hy]at q;exact .inr ⟨Ne.symm hj,Ne.symm hy,q⟩
 have sx:(M.set x (some (.ref a)))[x]?=some (some (.ref a)):=Wr Xg;have so:∀j,j≠x->(M.set x (some (.ref a)))[j]?=M[j]?:=λj hj=>Wa (Ne.symm hj);have own:∀b,Own (M.set x (some (.ref a))) ((U.set y none).set x (some (.own d))) b->Own M U b:=λb⟨j,r,q1,q2⟩=>by
  rcases at_ j _ q1 with⟨z,z'⟩|⟨h1,h2,q⟩;.subst z;cases z';rw[sx]at q2;cases q2;exact⟨y,d,e,ea⟩
  .rw[so j h1]at q2;exact⟨j,r,q,q2⟩
 have av:∀b,Av c (M.set x (some (.ref a))) ((U.set y none).set x (some (.own d))) b->Av c M U b:=λb z=>z.elim .inl λz=>.inr (own b z);obtain⟨a',ea',oa,hI,nB⟩:=k.own y _ e;rw[ea]at ea';cases ea';refine⟨⟨k.keep,k.bd,k.eJ,by simp only[Qg];exact k.len,λj r q=>?_,λj r q=>?_,λj l b d1 d2 q1 q2 s1 s2=>?_,λp hp=>?_⟩,λ_ _ h _=>h,λb z=>.inl (own b z),λ_ o h=>⟨o,h⟩⟩
 .rcases at_ j _ q with⟨_,z⟩|⟨h1,h2,q⟩;.cases z
  .obtain⟨v,g1,g2⟩:=k.slot j r q;exact⟨v,%[so j h1|g1],g2.aV λb z=>.inl (av b z)⟩
 .rcases at_ j _ q with⟨z,z'⟩|⟨h1,h2,q⟩;.subst z;cases z';exact⟨a,sx,oa.aV λb z=>.inl (av b z),hI,nB⟩
  .obtain⟨b,g1,g2,g3⟩:=k.own j r q;exact⟨b,%[so j h1|g1],g2.aV λb z=>.inl (av b z),g3⟩
 .rcases at_ j _ q1 with⟨z,_⟩|⟨h1,h2,p1⟩<;>rcases at_ l _ q2 with⟨z',_⟩|⟨h1',h2',p2⟩;.rw[z,z']
  .subst z;rw[sx]at s1;cases s1;rw[so l h1']at s2;exact absurd (k.inj y l a _ _ e p2 ea s2).symm h2'
  .subst z';rw[sx]at s2;cases s2;rw[so j h1]at s1;exact absurd (k.inj y j a _ _ e p1 ea s1).symm h2
  .rw[so j h1]at s1;rw[so l h1']at s2;exact k.inj j l b _ _ p1 p2 s1 s2
 .have h:=dm p hp;have cu:p.1≠x:=λz=>by rw[z,hx]at h;cases h
  rw[so p.1 cu];exact k.pinned p hp
def pM(np:List Nat)(x y:Nat):DS:=λU=>if np.contains x||x==y||!decide (x<U.length)then .stuck else match U[y]? with|some (some (.own d))=>.ok .next ((U.set y none).set x (some (.own d)))|_=>.stuck
theorem Xh(dm:Np c np)(hN:X.N.Nodup)(hi:X.N[x]?=some nm)(hx:Loc X.env.scope nm)(he:PE X e (dq y))(hs:J9 e (some (.Name nm pos')) pos.line X.env=pure false:=by rfl)(hf:X.fn nm=true\/X.env.scope.names.lookup nm=some .local:=by first|exact .inl rfl|exact .inr rfl|assumption):SS X c (.Assign [.Name nm pos'] e pos) (pM np x y):=PS.weak (Ck hN hi hx he hs hf) λD M H⟨U,k,q⟩=>by
 unfold pM eB at q;split at q;case isTrue=>exact q.elim
 rename_i hc;simp only[Uu,not_or,Bool.not_eq_true,beq_eq_false_iff_ne,Bool.not_eq_false',decide_eq_true_eq]at hc;obtain⟨⟨h1,h2⟩,h3⟩:=hc;split at q;case h_2=>exact q.elim
 rename_i d e';obtain⟨a,ea,_⟩:=k.own y _ e';exact⟨.ref a,ea,q _ H (k.move dm h1 h2 e' ea h3)⟩
end
structure zm(P:Wm)(w:Wv)(K:W5)(mg:Str->Option Value)(base:Heap)(k:Nat)(f:Addr)(fd:Qi)(ps:List Str)(sp:List Env->W4->Sp):Prop where
 len:∀outer s vs H Q E,sp outer s vs H Q E->vs.length=ps.length
 run:∀(A:Wt)(outer:List Env)(s:W4)(H:Hp)(args:Args)(us:List Value)(vs:List V)(Q:VK)(E:XK),cP k A->qH P w K mg base A outer s H->BindsTo s fd args (ps.zip us)->Vals vs us->sp outer s vs H Q E->Jy (model P w) A (.call (.ref f) args) (CR dS outer P w H s Q E) s
theorem dU.Xi{st f k}{sp:List Env->W4->Sp}(F:dU K x qual st f fd)(S:fY N ps (bK st))(len:∀outer s vs H Q E,sp outer s vs H Q E->vs.length=ps.length)(dR:∀aW (A:Wt)outer (s:W4)H (vs:List V)Q E,cP k (A.deeper (Jt qual (bK st) s.heap.objs.size f aW))->A.frames=some outer->sp outer s vs H Q E->∃t,dM (fZ dS P w K mg base N qual (bK st) f aW A outer s H E).fW (d_ st) t/\t {nx:=λ_ H'=>Q .aJ H',rt:=Q} (gn N vs) H):zm P w K mg base (k+1) f fd ps sp:=by
 obtain⟨oc,od,kV,doc,pm,an,aW,ct,eZ,rfl,lk,gY⟩:=F.ex;refine⟨len,λA outer s H args us vs Q E hr e0 hb r m9=>?_⟩;have hl:=len _ _ _ _ _ _ m9;have KX:K.In s.heap:=e0.mod.qw.keeps λb o e=>(e0.bs b o e).1;have lim:s.heap.NoLimit:=e0.mod.nolimit.keeps λb o e=>(e0.bs b o e).1;have xB:∀y∈ps.zip us,(bK st).names.lookup y.1=some .local\/(bK st).names.lookup y.1=some .cell/\((QV (s.heap.objs.size+1) (bK st).names []).lookup y.1).isSome=true:=λ⟨n,v⟩hy=>by
  rcases S.par n (Ut hy).1 with q|q;.exact .inl q
  .exact .inr ⟨q,JO _ _ _ (.inl q)⟩
 refine codeAny_call_function hr.depth (KX _ _ lk) rfl S.co S.gen rfl (PySem.W.codeRec_of KX gY) (hb _ _ _ _ ?_);refine wpAny_newFunctionEnv_cells S.kind xB λenv he s1 x=>?_;subst he;refine⟨lim.keeps x.toInCall.keep,codeAny_func ?_⟩;obtain⟨t,ht0,hq⟩:=dR aW A outer s H vs Q E (hr.deeper _) e0.frames m9;have ht:=ht0.fW;have I:Inv (fZ dS P w K mg base N qual (bK st) f aW A outer s H E) [] (gn N vs) H s1:=CP S hr.hd e0 hl r x;refine Qy (ht [] s1 (gn N vs) H _ I hq) (λfl s' hs=>?_) λe s' hs=>hs;have fin:∀{M':St}{H':Hp}{v:V}{u:Value},Inv (fZ dS P w K mg base N qual (bK st) f aW A outer s H E) [] M' H' s'->RelV v u->Q v H'->CE outer P w H s Q u s':=λ{M' H' v u}J rv q=>⟨v,H',J.os,J.bare,J.base,J.aB,rv,q⟩;cases fl with|ret u=>obtain⟨v,M',H',J,rv,q⟩:=hs;exact fin J rv q|next=>obtain⟨M',H',J,q⟩:=hs;exact fin (v:=V.aJ) (u:=Value.none) J rfl q|brk=>obtain⟨_,_,_,q⟩:=hs;exact False.elim q|cont=>obtain⟨_,_,_,q⟩:=hs;exact False.elim q
def pN(P:Wm)(w:Wv)(K:W5)(mg:Str->Option Value)(base:Heap)(N:List Str)(qual:Str)(scope:Scope)(f:Addr)(cd:Value)(cl:List (Str×Addr))(A:Wt)(outer:List Env)(s:W4)(H:Hp):Cx where
 prog:=P
 w:=w
 K:=K
 mg:=mg
 base:=base
 A:=A.deeper (JC qual scope s.heap.objs.size f cd cl)
 N:=N
 s₀:=s
 H₀:=H
 env:=JC qual scope s.heap.objs.size f cd cl
 outer:=outer
 stack:=JC qual scope s.heap.objs.size f cd cl::outer
 ex:=[]
 calm:=true
 fn:=λ_=>false
 pn:=[]
 xe:=λ_ _=>False
structure vD(p:Str)(fr:List Str)(sc:Scope):Prop where
 kind:sc.kind=.function
 co:sc.isCoroutine=false
 gen:sc.isGenerator=false
 loc:sc.names.lookup p=some .local
 Gj:∀y∈sc.names,y.2≠.cell
 free:∀x,sc.names.lookup x=some .free->x∈fr
 Xj:∀x∈fr,sc.names.lookup x=some .free
theorem Ok.mono(k:Ok c M U H)(up:∀a o,H a=some o->H' a=some o):Ok c M U H':=⟨λa o e n=>up _ _ (k.keep a o e n),λa z=>(k.bd a z).elim λw e=>⟨w,up _ _ e⟩,λa z=>(k.eJ a z).elim λw e=>⟨w,up _ _ e⟩,k.len,λi d e=>let⟨v,e1,r⟩:=k.slot i d e;⟨v,e1,r.keep λa o q _=>up a o q⟩,λi d e=>let⟨a,e1,r,q⟩:=k.own i d e;⟨a,e1,r.keep (λb o q _=>up b o q) λo q=>up a o q,q⟩,k.inj,k.pinned⟩
theorem aY.mono(k:Ok c M U H)(up:∀a o,H a=some o->H' a=some o):aY c M U H M U H':=⟨k.mono up,λa o e _=>up a o e,λa h=>.inl h,λa o e=>⟨o,up a o e⟩⟩
structure vE(X:Cx)(c:Fc)(fa:Addr)(F:D->Option D):Prop where there:∀pins M H s,Inv X pins M H s->∃fd,s.heap.get? fa=some {cls:=.type "function",data:=.func fd}run:∀pins s M U H v u d d' Q,Inv X pins M H s->Ok c M U H->Rep H (Av c M U) v d->RelV v u->F d=some d'->(∀v' H',aY c M U H M U H'->Rep H' (Av c M U) v' d'->Q v' H')->W7 (model X.prog X.w) X.A (call (.ref fa) [u]) (EP X pins M Q) X.xe s
noncomputable def jq(fa:Addr)(F:D->Option D)(i:Nat)(fe:DE):DE:=λU=>match U[i]? with|some (some (.pure (.fn a)))=>if a=fa then(fe U).bind λr ZW=>match F r.d with|some d'=>.ok (.pure d') ZW|none=>.stuck else .stuck|_=>.stuck
theorem Xk{E:Value->W4->Prop}{s a first}{Q:Value->W4->Prop}{rest}(h:W7 zj A (spliced (Qz pos (We (e::rest) env))) (λvs s₁=>(∃fd,s₁.heap.get? a=some {cls:=.type "function",data:=.func fd})/\W7 zj A (call (.ref a) (first++vs)) Q E s₁) E s)(he:We (e::rest) env=(false,eval e env)::We rest env:=by rfl)(xN:(Qz pos (We rest env)).any (·.1)=false:=by rfl):W7 zj A (callWith pos (.ref a) first (Qz pos (We (e::rest) env)) []) Q E s:=by rw[he]at h⊢;exact PySem.W.callWith_of (P:=λh=>∃fd,h.get? a=some {cls:=.type "function",data:=.func fd}) (by show((false||(Qz pos (We rest env)).any (·.1))||false)=false;rw[xN];rfl) (λh⟨fd,hf⟩=>⟨.frame,.inl rfl,(PySem.W.Looks.ld (part:=none) hf).andThen .now⟩) (Calls.evalArgs_plain h)
theorem Xl{p pos}(hc:vE X c fa F)(hv:PE X (.Name x p) (dq i))(he:SE X c e fe)(hs:We [e] X.env=(false,eval e X.env)::We [] X.env:=by rfl):SE X c (.Call (.Name x p) [e] [] pos) (jq fa F i fe):=by
 intro pins s M H Q I⟨U,k,q⟩;unfold jq at q;split at q
 .rename_i a e1;split at q
  .rename_i ea;subst ea;obtain⟨v,e2,r⟩:=k.slot i (.fn a) e1;cases r;refine JN (Qy (hv pins s M H (λv' H'=>v'=.ref a/\H'=H) I ⟨.ref a,e2,rfl,rfl⟩) (λu s1 hh=>?_) λ_ _ z=>z);obtain⟨v',H',I1,ru,ev,eH⟩:=hh;subst ev eH;obtain rfl:u=Value.ref a:=ru;have ha:=fq he gJ hs;refine Xk (aM (ha pos pins s1 M H' (λvs H2=>∃r ZW d',vs.length=1/\F r=some d'/\(∀v∈vs,Rep H2 (Av c M ZW) v r)/\aY c M U H' M ZW H2/\∀v' H3,aY c M U H' M ZW H3->Rep H3 (Av c M ZW) v' d'->Q v' H3) I1 ⟨U,k,?_⟩) λus s2 hh=>?_) hs rfl;.rw[bp]at q;refine aT q λr ZW q1 v H1 a1 r1=>?_;cases hF:F r.d with|none=>rw[hF]at q1;exact q1.elim|some d'=>rw[hF]at q1;exact⟨r.d,ZW,d',rfl,hF,λv' Xm=>by have:v'=v:= ~~~Xm;subst this;exact r1.rep,a1,λv' H3 a3 r3=>q1 v' H3 a3 r3⟩
   .obtain⟨vs,H2,I2,rr,r,ZW,d',hl,hF,hr,af,hq⟩:=hh;refine⟨hc.there _ _ _ _ I2,?_⟩;rcases vs with _|⟨v,_|_⟩<;>cases hl
    obtain⟨u,rfl,ru⟩:=gI rr;exact hc.run pins s2 M ZW H2 v u r d' Q I2 af.ok (hr v U') ru hF λv' H3 a3 r3=>hq v' H3 (af.trans a3) r3
  .exact q.elim
 .exact q.elim
theorem Gk{a b:Value}{x y:Int}{t u:Tok}:∀{l:List Value},TriplesOk l->TriplesOk (l++[.int x t,.int y u,b])|[],_=>trivial|.int _ _::.int _ _::_::r,h=>Gk (a:=a) (l:=r) h
theorem Gm{x u}:∀{l:List Value},TriplesOk l->codeAmong pos l=none->codeAmong pos (l++[.int x t,.int y u,b])=some cv->cv=b
 |[],_,_,h=>by
  simp only[J3,codeAmong]at h;split at h;.exact(WN h).symm
  .cases h|.int i _::.int j _::c::r,h,hn,e=>by
  simp only[codeAmong]at hn;split at hn;.cases hn
  .rename_i q;simp only[Jf,codeAmong]at e;rw[if_neg q]at e;exact Gm (l:=r) h hn e
section
variable{s:W4}{body:Expr}{c P:Addr}{fr:List Str}
theorem Inv.Xn(I:Inv X pins M H s)(kO:∀x,X.fn x=true)(h:X.env.cells.lookup x=some c):c∉gX X.stack:=λz=>by
 rcases Wf.mp (I.tW c z)with e|e;.exact I.iV x c h e
 .obtain⟨_,o,ho,_⟩:=I.ok.iC.mem e;exact absurd (WJ (Wp ho) (I.ok.oJ x c (kO x) h)) (Qh _)
end
abbrev kA:=List (Addr×Pos×Str)
variable{ts:kA}
def TH(ts:kA)(H:Hp):Prop:=∀t∈ts,H t.1=some (.ctab t.2.1 t.2.2)
structure FT(ts:kA)(c:Fc):Prop where
 h:TH ts c.H₀
 n:∀t∈ts,¬c.I t.1
theorem FT.now(f:FT ts c)(k:Ok c M U H):TH ts H:=λt ht=>k.keep _ _ (f.h t ht) (f.n t ht)
def n9(ts:kA)(n:Nat)(G:DF):Sp:=λvs H Q E=>TH ts H/\vd n G vs H Q E
def lu(P:Wm)(w:Wv)(K:W5)(mg:Str->Option Value)(base:Heap)(ts:kA)(k:Nat)(x:Str)(n:Nat)(G:DF):Prop:=∃(f:Addr)(fd:Qi)(ps:List Str),mg x=some (.ref f)/\Jz K (.ref f)=true/\Binds K fd ps []/\i_ P w K mg base dS k f fd ps (n9 ts n G)
theorem Gn{st f k fb}(F:dU K x qual st f fd)(S:fY N ps (bK st))(dR:∀c aW (A:Wt)outer (s:W4)H E,cP k (A.deeper (Jt qual (bK st) s.heap.objs.size f aW))->Np c np->FT ts c->(∃oc od kV doc pm an ct eZ,K.lookup f=some ⟨oc,od,.func (Qq x qual (h_ st) (d_ st) (bK st) .none kV doc pm an aW ct),eZ⟩)->eR (fZ dS P w K mg base N qual (bK st) f aW A outer s H E).fW c (d_ st) fb)(hG:∀ss y,G ss=some y->eC np 0 ss=true/\fB fb N.length ss=some y):i_ P w K mg base dS (k+1) f fd ps (n9 ts ps.length G):=by
 obtain⟨oc,od,kV,doc,pm,an,aW,ct,eZ,rfl,lk,gY⟩:=F.ex;refine CT lk gY S (λvs H Q E h=>?_) λA outer s H vs Q E hr h=>?_;.obtain⟨_,ss,B,hl,_⟩:=h;exact hl
 .obtain⟨hT,ss,B,hl,ok,r,a_,hg,q⟩:=h;obtain⟨gA,hrun⟩:=hG ss _ hg;have jO:ss.length=vs.length:=by have:=ok.len;simpa using this
  have yF:Np ⟨H,B,cW 0 ss vs,λ_ _=>False⟩ np:=λp hp=>by obtain⟨j,d,e,h1,_⟩:=nR (i:=p.1) (a:=p.2) hp;rw[e];exact yE gA h1
  have ft:FT ts ⟨H,B,cW 0 ss vs,λ_ _=>False⟩:=⟨hT,λt ht⟨i,z⟩=>by obtain⟨j,d,_,h1,h2⟩:=nR z;obtain⟨a,e1,o,_⟩:=ok.own j d (fA.mpr h1);rw[fL.mpr h2]at e1;cases e1;have:=hT t ht;cases d with|lst ds=>obtain⟨_,e,_⟩:=o;grind|au ds=>obtain⟨_,e,_⟩:=o;grind|dic ds=>obtain⟨_,_,e,_⟩:=o;grind|_=>exact o.elim⟩;have hb:=dR ⟨H,B,cW 0 ss vs,λ_ _=>False⟩ aW A outer s H E hr yF ft ⟨oc,od,kV,doc,pm,an,ct,eZ,lk⟩;refine⟨nM ⟨H,B,cW 0 ss vs,λ_ _=>False⟩ fb,hb.fW,?_⟩;have bV:gn N vs=cy vs++WG (N.length-ss.length) none:=by rw[jO];rfl
  refine⟨bY N.length ss,%[bV|ok.ext _],?_⟩;unfold fB at hrun;unfold eB;cases e:fb (bY N.length ss)with|exc x S'=>rw[e]at hrun;cases hrun|stuck=>rw[e]at hrun;cases hrun|ok fl ZB=>rw[e]at hrun;show∀M' H',aY _ (gn N vs) (bY N.length ss) H M' ZB H'->fin _ _ M' ZB H' fl;intro M' H' a;rw[bV]at a;simp only at hrun;cases fl with
 |brk=>cases hrun|cont=>cases hrun|next=>simp only[e_,Q3]at hrun;cases eo:da 0 ss ZB with|none=>rw[eo]at hrun;cases hrun|some os=>rw[eo]at hrun;cases hrun;obtain⟨l1,l2⟩:=pw rfl ok a eo;exact q .aJ H' l1 .aJ
 |ret r'=>simp only[e_,Q3]at hrun;cases eo:da 0 ss ZB with|none=>rw[eo]at hrun;cases hrun|some os=>rw[eo]at hrun;cases hrun;obtain⟨l1,l2⟩:=pw rfl ok a eo;exactλv rv=>q v H' l1 (l2 v _ rv)
section
variable{k:Nat}
theorem Xo(F:lu X.prog X.w X.K X.mg X.base ts k x n G)(ft:FT ts c)(hK:pA G)(hr:cP k X.A)(hg:Gl X x)(ha:SX X c (e::es) as)(hl:as.length=n)(gZ:(x==("__debug__":Str))=false:=by decide)(he:We (e::es) X.env=(false,eval e X.env)::We es X.env:=by rfl)(cQ:(Qz pos (We es X.env)).any (·.1)=false:=by rfl):SE X c (.Call (.Name x pp) (e::es) [] pos) (aF G as):=by obtain⟨f,fd,ps,hm,hk,hb,ok⟩:=F;refine PE.weak (CI ok hr hg hm hk hb .nil Dk ha gZ he cQ) λM H Q h=>?_;obtain⟨U,kk,gA,q⟩:=E8 (ps:=ps) hK hl h;exact⟨U,kk,gA,aT q λds ZW q1 vs H1 a1 r1=>⟨ft.now a1.ok,q1 vs H1 a1 r1⟩⟩
end
theorem Xp(h:∀q∈cl,cells.lookup q.1=some q.2):∀x a,cl.lookup x=some a->cells.lookup x=some a:=λx a e=>h (x,a) (WC e)
theorem Xq(h1:sc.kind=.function:=by rfl)(h2:sc.isCoroutine=false:=by rfl)(h3:sc.isGenerator=false:=by rfl)(h4:sc.names.lookup p=some .local:=by rfl)(h5:∀y∈sc.names,y.2≠.cell:=by decide+kernel)(h6:∀y∈sc.names,y.2=.free->y.1∈fr:=by decide+kernel)(h7:∀x∈fr,sc.names.lookup x=some .free:=by decide+kernel):vD p fr sc:=⟨h1,h2,h3,h4,h5,λx e=>h6 _ (WC e) rfl,h7⟩
theorem Xr{P w}{k:Nat}{fa a T c tpos tq fd G}{s₁:W4}{vs:List Value}{ns:List Int}(KX:K.In s₁.heap)(rP:s₁.heap.Ns Wz mg)(hb:s₁.heap.Ns builtinsNs mb)(Xs:∀x:Str,x≠"__name__"->mb x=QR x)(Xt:s₁.heap.NoLimit)(hg:s₁.gens=#[])(ha:s₁.heap.get? a=some {cls:=.type "list",data:=.seq vs.toArray})(hi:IntsAre vs ns)(hl:ns.length<=Wb)(hr:cP k callerA)(hL:yN K=true)(hT:s₁.heap.get? T=some (PySem.W.tabObj #[]))(hC:PySem.W.CodeHd s₁.heap c T)(hB:∃bm o,mg "__builtins__"=some (.ref bm)/\bm≠builtinsNs/\s₁.heap.get? bm=some o/\o.cls=.type "module"/\o.dict=some builtinsNs/\o.data=.plain)(Gp:K.lookup T=none)(F:∀base:Heap,K.In base->base.Ns Wz mg->base.BuiltinsAt mg T->i_ P w K mg base dS k fa fd [x] (n9 [(T,tpos,tq)] 1 G))(Xu:∀s u,BindsTo s fd ⟨[u],[]⟩ [(x,u)])(hG:∃a_,G [.pure (.lst (ns.map .int))]=some (.pure (.bl true),a_)):Jy (model P w) callerA (.call (.ref fa) ⟨[.ref a],[]⟩) (λr s'=>r=.ok (.ret (.bool true))/\OldK s₁.heap s'.heap/\s'.os=s₁.os/\AllBare s'.gens) s₁:=by
 have rv:=Lake.Dj hi;have qbp:=hi.length;have Xv:T≠a:=λz=>by grind
 have hka:K.lookup a=none:=by cases hk:K.lookup a with|none=>rfl|some o=>have e:=KX a o hk;rw[ha]at e;cases e;exact(UH hL hk rfl).elim
 let H:Hp:=λb=>if b=a then some (.frz {cls:=.type "list",data:=.seq vs.toArray} (.lst (ns.map V.int)))else if b=T then some (.ctab tpos tq)else none;have Ha:H a=some (.frz {cls:=.type "list",data:=.seq vs.toArray} (.lst (ns.map V.int))):=if_pos rfl;have HT:H T=some (.ctab tpos tq):=by show(if T=a then _ else _)=_;rw[if_neg Xv,if_pos rfl]
 have Hn:∀b,b≠a->b≠T->H b=none:=λb h1 h2=>by show(if b=a then _ else _)=_;rw[if_neg h1,if_neg h2]
 have aB:cK P w H s₁.heap:=λb u z=>by
  by_cases h1:b=a;.subst h1;rw[Ha]at z;cases z;exact⟨ha,%[Ws|hl],vs,_,rv,ha⟩
  .by_cases h2:b=T;.subst h2;rw[HT]at z;cases z;exact⟨#[],hT,trivial,λcv q=>by cases q⟩
   .rw[Hn b h1 h2]at z;cases z
 have zo:∀{b:Addr}{o:Obj},s₁.heap.get? b=some o->H b=none->(j7 s₁.heap H).get? b=some o:=λe n=>M1 e n;have kR:∀{b:Addr}{o:Obj}{es:Array DictEntry}{ep:Nat},s₁.heap.get? b=some o->o.data=.dict es ep->H b=none:=λ{b o es ep}e d=>by grind
 have vF:∀{b:Addr}{m:Str->Option Value},s₁.heap.Ns b m->(j7 s₁.heap H).Ns b m:=λ{b m}⟨o,es,ep,e,d,r⟩=>⟨o,es,ep,zo e (kR e d),d,r⟩;have Gq:K.In (j7 s₁.heap H):=λb o e=>zo (KX b o e) (Hn b λz=>by grind λz=>by grind);have hM:Mod K mg (j7 s₁.heap H):=⟨Gq,vF rP,⟨mb,vF hb,Xs⟩,let⟨mc,h1,h2⟩:=Xt;⟨mc,vF h1,h2⟩⟩;have e0:qH P w K mg (j7 s₁.heap H) callerA [] s₁ H:=⟨rfl,hM,λb o e=>M3 e,Nat.le_of_eq (M0 _ _),trivial,λb hb=>absurd (show b∈([]:List Addr)from hb) U',aB,.of_eq hg⟩;have Xw:TH [(T,tpos,tq)] H:=λt ht=>by have:t=(T,tpos,tq):= ~~~ht;subst this;exact HT
 have hR:Rd H a (.lst (ns.map V.int)):=.inr ⟨_,Ha⟩;have sp:n9 [(T,tpos,tq)] 1 G [.ref a] H (λv H'=>v=.bl true/\H' T=some (.ctab tpos tq)) E0:=by
  obtain⟨a_,hg⟩:=hG;have rep:∀O:Addr->Prop,¬O a->Rep H O (.ref a) (.lst (ns.map D.int)):=λO hO=>.lst hO hR U' λi v d e1 e2=>by rw[Wo]at e1 e2;cases e:ns[i]? with|none=>rw[e]at e1;cases e1|some k=>rw[e]at e1 e2;cases e1;cases e2;exact .int k
  refine⟨Xw,[.pure (.lst (ns.map .int))],λ_=>False,rfl,⟨λb o e _=>e,λb z=>z.elim,λb⟨i,z⟩=>?_,rfl,λi d e=>?_,λi d e=>?_,λi j b d d' e1 e2 e3 e4=>?_,λp z=>?_⟩,_,a_,hg,λv H' x r=>?_⟩;.simp[cW]at z
  .cases i with
 |zero=>
 simp at e;subst e;refine⟨.ref a,rfl,rep _ λz=>?_⟩;rcases z with z|⟨j,d',z1,z2⟩;.exact z
 .cases j with|zero=>simp at z1|succ j=>simp at z1
 |succ i=>simp at e
  .cases i with|zero=>simp at e|succ i=>simp at e
  .cases i with|zero=>simp at e1|succ i=>simp at e1
  .simp[cW]at z
  .cases r;exact⟨rfl,x.ok.keep T _ HT λ⟨i,z⟩=>by simp[cW]at z⟩
 have Xx:(j7 s₁.heap H).BuiltinsAt mg T:=by
  obtain⟨bm,o,b1,b2,b3,b4,b5,b6⟩:=hB;refine⟨bm,o,b1,b2,λz=>?_,λz=>?_,zo b3 (Hn bm (λz=>?_) λz=>?_),b4,b5,b6⟩;.obtain⟨o2,es,ep,e,d,_⟩:=rP;grind
  all_goals grind
 refine codeAny_mono ((F _ Gq (vF rP) Xx).run callerA [] s₁ H ⟨[.ref a],[]⟩ [.ref a] [.ref a] _ _ hr e0 (Xu s₁ (.ref a)) (.cons rfl .nil) sp) λr s' h=>?_;cases r with|error e=>exact h.elim|ok fl=>cases fl with|next=>exact False.elim h|brk=>exact False.elim h|cont=>exact False.elim h|ret u=>
   obtain⟨v,H',os,bare,un,hok',r',q⟩:=h;obtain⟨q1,q2⟩:=q;subst q1;obtain rfl:u=Value.bool true:=r';have old:∀b o,s₁.heap.get? b=some o->asItWas s₁.heap s'.heap b o/\∃o',s'.heap.get? b=some o':=λb o e=>by
    by_cases h1:b=a;.subst h1;have z2:=un.j6 b _ _ Ha;obtain⟨e2,_⟩:=hok' b _ z2;rw[ha]at e;cases e;exact⟨.inl e2,_,e2⟩
    .by_cases h2:b=T;.subst h2;obtain⟨ps,e2,_⟩:=hok' b _ q2;rw[hT]at e;cases e;exact⟨.inr (.inl ⟨(hC.tab hT).isCodeTable,rfl,#[],ps,rfl,by rw[e2];simp⟩),_,e2⟩
     .have:=un.keep b o e (Hn b h1 h2) (by intro z;exact absurd (show b∈([]:List Addr)from z) U') U';exact⟨.inl this,_,this⟩
   exact⟨rfl,⟨λb o e=>(old b o e).1,λb o e=>(old b o e).2⟩,os,bare⟩
theorem Xy{l:PySem.W.OpenLaw}{q}{d:DefRec}{K:Params->W5}{k T}(hn:l.most=some 63)(xS:d.params.defaults=[])(hr:cP k callerA)(hY:∀(w:Wv)(h:Heap),YP w h->(K w.params).In h/\h.get? T=some (PySem.W.tabObj #[]))(hL:∀p:Params,yN (K p)=true)(Gp:∀p:Params,(K p).lookup T=none)(hG:∀ns:List Int,ns.length<=63->∃a_,G [.pure (.lst (ns.map .int))]=some (.pure (.bl true),a_))(F:∀(w:Wv)mg fa (h:Heap),(K w.params).In h->h.Ns Wz mg->mg d.name=some (.ref fa)->(∃c,JD (K w.params) c T=true)/\∃fd:Qi,(∀s u,BindsTo s fd ⟨[u],[]⟩ [("script",u)])/\∀base:Heap,(K w.params).In base->base.Ns Wz mg->base.BuiltinsAt mg T->i_ l.prog w (K w.params) mg base dS k fa fd ["script"] (n9 [(T,tpos,tq)] 1 G)):PySem.W.WalkO q loose XP YP l.row.toRowW d [] λf vs=>PySem.call f vs:=by refine Ph hn xS λw s₀ s₁ mg mb fa o pm cd doc a vs ns G' Y ho hd gY nt xT hints hlen hg=>?_;obtain⟨KX,hT⟩:=hY w _ Y;obtain⟨⟨c,hC⟩,fd,hb,hF⟩:=F w mg fa _ KX G'.T.g nt;exact Xr KX G'.T.g G'.T.b G'.T.builtins G'.T.nolimit hg xT hints (Qe hlen Z') hr (hL _) hT (PySem.W.codeHd_of_K KX hC) G'.T.bmain (Gp _) hF hb (hG ns hlen)
theorem zq{st f k fb}(F:dU K x qual st f fd)(hm:mg x=some (.ref f))(hb:Binds K fd ps [])(S:fY N ps (bK st))(dR:∀c aW (A:Wt)outer (s:W4)H E,cP k (A.deeper (Jt qual (bK st) s.heap.objs.size f aW))->Np c np->FT ts c->(∃oc od kV doc pm an ct eZ,K.lookup f=some ⟨oc,od,.func (Qq x qual (h_ st) (d_ st) (bK st) .none kV doc pm an aW ct),eZ⟩)->eR (fZ dS P w K mg base N qual (bK st) f aW A outer s H E).fW c (d_ st) fb)(hG:∀ss y,G ss=some y->eC np 0 ss=true/\fB fb N.length ss=some y):lu P w K mg base ts (k+1) x ps.length G:=⟨f,fd,ps,hm,F.kp,hb,Gn F S dR hG⟩
theorem Xz{st f}(h1:∃oc od kV doc pm an ct eZ,K.lookup f=some ⟨oc,od,.func (Qq x qual (h_ st) (d_ st) (bK st) .none kV doc pm an aW ct),eZ⟩)(h2:∃oc od kV doc pm an ct eZ,K.lookup f=some ⟨oc,od,.func (Qq x qual (h_ st) (d_ st) (bK st) .none kV doc pm an (.ref code) ct),eZ⟩):aW=.ref code:=by obtain⟨_,_,_,_,_,_,_,_,e1⟩:=h1;obtain⟨_,_,_,_,_,_,_,_,e2⟩:=h2;rw[e1]at e2;cases e2;rfl
section
open PySem.SeqAt
mutual def gQ:NK->Nat|.i _=>1|.s _=>1|.t ks=>jr ks+1def jr:List NK->Nat|[]=>0|k::ks=>gQ k+jr ks end
inductive dJ(h:Heap):Nat->NK->Value->Prop|int{n:Nat}(z:Int)(t:Tok):dJ h n (.i z) (.int z t)|bl{n:Nat}(b:Bool):dJ h n (.i (if b then 1 else 0)) (.bool b)|str{n:Nat}(x:Str)(t:Tok):dJ h n (.s x) (.str x t)|tup{n:Nat}{a:Addr}{ak:Array Value}{ks:List NK}:h.IsTuple a ak->ks.length=ak.toList.length->(∀(i:Nat)k v,ks[i]?=some k->ak.toList[i]?=some v->dJ h n k v)->dJ h (n+1) (.t ks) (.ref a)
theorem XA{α β:Type}{xs ys:List α}{vs:List β}(h1:xs.length=vs.length)(h2:ys.length=vs.length)(q:∀(i:Nat)x y v,xs[i]?=some x->ys[i]?=some y->vs[i]?=some v->x=y):xs=ys:=by apply Jg Y';intro i a b;exact q i _ _ vs[i] (W8 a) (W8 b) (W8 Y')
theorem dJ.inj{x:NK}{v:Value}(r:dJ h n x v):∀{m:Nat}{y:NK},dJ h m y v->x=y:=by induction r with|int z t=>intro m y k;cases k;rfl|bl b=>intro m y k;cases k;rfl|str x t=>intro m y k;cases k;rfl|@tup n a ak ks h1 h2 h3 ih=>intro m y k;cases k with|@tup m _ its' ks' k1 k2 k3=>obtain⟨o,e,c,q,d⟩:=h1;obtain⟨o',e',c',q',d'⟩:=k1;rw[e]at e';cases e';rw[d]at d';cases d';rw[XA h2 k2 λi x y v e1 e2 e3=>ih i x v e1 e3 (k3 i y v e2 e3)]
theorem dJ.kept{x}(r:dJ h n x v)(k:∀b ak,h.IsTuple b ak->h'.IsTuple b ak):dJ h' n x v:=by induction r with|int z t=>exact .int z t|bl b=>exact .bl b|str x t=>exact .str x t|tup h1 h2 h3 ih=>exact .tup (k _ _ h1) h2 ih
theorem dJ.up{x}(r:dJ h n x v):∀{m:Nat},n<=m->dJ h m x v:=by induction r with|int z t=>intro m _;exact .int z t|bl b=>intro m _;exact .bl b|str x t=>intro m _;exact .str x t|tup h1 h2 h3 ih=>intro m l;obtain⟨m,rfl⟩:∃m',m=m'+1:=⟨m-1,Y'⟩;exact .tup h1 h2 λi k v e1 e2=>ih i k v e1 e2 Y'
theorem XB{Q}(h:Q (hashInt (if b then 1 else 0)) {s with toks:=s.toks+1}):W7 (model prog w) A (PySem.pyHash (.bool b)) Q E s:=by
 have z:reduceHash (if b then 1 else 0)=hashInt (if b then 1 else 0):=by cases b<;>decide+kernel
 refine PySem.W.pyHash_slot (id:="int.__hash__") (T:="bool") (hT:=rfl) (slot:=F.slot_bool_hash) (entry:=entry_int_hash) (args:=args_int_hash _) (hid:=beq_builtin_none _) (hu:=.inl rfl) (body:=?_);cases b;.exact show W7 _ _ (mkInt 0>>=λv=>ret v) _ _ _ from W0 (wpAny_mkInt (W3 ⟨_,_,rfl,z▸h⟩))
 .exact show W7 _ _ (mkInt 1>>=λv=>ret v) _ _ _ from W0 (wpAny_mkInt (W3 ⟨_,_,rfl,z▸h⟩))
theorem Gr(w):∀ks:List NK,tR w ks=ks.map (fV w)|[]=>rfl|k::ks=>by simp only[tR,Wi,Gr w ks]
theorem Gu:∀xs ys,jr (xs++ys)=jr xs+jr ys|[],ys=>#v[jr]|x::xs,ys=>by simp only[Jf,jr,Gu xs ys];lia
theorem dJ.pyHash(r:dJ h n k v):∀{A:Wt}{s:W4}{Q:Int->W4->Prop},s.heap=h->A.units+n<Q1->Q (fV w k) {s with toks:=s.toks+gQ k}->W7 (model prog w) A (PySem.pyHash v) Q E s:=by induction r with|int z t=>intro A s Q _ _ q;exact wpAny_pyHash_int q|bl b=>intro A s Q _ _ q;exact XB q|str x t=>intro A s Q _ _ q;exact wpAny_pyHash_str q|@tup n a ak ks h1 h2 h3 ih=>
  intro A s Q hs hu q;subst hs;obtain⟨o,ho,hc,m,hd⟩:=id h1;have hT:s.TypeIs (.ref a) "tuple":=⟨o,ho,hc⟩;refine PySem.W.pyHash_slot (T:="tuple") hT F.slot_tuple_hash F.entry_tuple_hash (F.args_tuple_hash_1 _) (beq_builtin_none _) (.inr Y') ?_;show W7 _ _ (Jq (.ref a)>>=_) _ _ s;refine W0 (wpAny_tupleItemsOf ho hd ?_);refine W0 ?_;rw[<-Array.forIn_toList];refine wpAny_forIn_list _ (λrest(b:Array Int)s'=>∃i,i<=ks.length/\rest=ak.toList.drop i/\b.toList=(ks.take i).map (fV w)/\s'={s with toks:=s.toks+jr (ks.take i)}) _ ?_ ?_ _ _ ⟨0,QE _,rfl,rfl,#v[jr]⟩
  .rintro x rest b s'⟨i,hi,hr,hb,rfl⟩;have bc:i<ak.toList.length:=by
    rcases Nat.lt_or_ge i ak.toList.length with z|z;.exact z
    .rw[List.drop_eq_nil_of_le z]at hr;cases hr
   rw[J0 bc]at hr;injection hr with hx hr;have ik:i<ks.length:=by lia
   refine W0 (ih i ks[i] x (W8 ik) %[hx|W8 bc] rfl (show A.units+1+n<Q1 by lia) ?_);have ht:ks.take (i+1)=ks.take i++[ks[i]]:=by simp_all
   have fin:∃j,j<=ks.length/\rest=ak.toList.drop j/\(b.push (fV w ks[i])).toList=(ks.take j).map (fV w)/\({s with toks:=s.toks+jr (ks.take i)+gQ ks[i]}:W4)={s with toks:=s.toks+jr (ks.take j)}:=by refine⟨i+1,ik,hr,by rw[ht,WT,Array.toList_push,hb];rfl,?_⟩;rw[ht,Gu];simp only[jr];rw[Nat.add_zero,Nat.add_assoc]
   first|exact W3 fin|exact W0 (W3 (W3 fin))
  .rintro b s'⟨i,hi,hr,hb,rfl⟩;have hz:i=ks.length:=by have:=congrArg WV hr;simp at this;simp at h2;lia
   subst hz;rw[JE]at hb⊢;show W7 _ _ (retInt (Builtin.Tuple.tupleHashOf b.toList)) _ _ _;rw[hb];refine W0 (wpAny_mkInt (W3 ⟨_,_,rfl,?_⟩));simp only[fV,gQ,Gr]at q;simpa[Nat.add_assoc]using q
theorem dJ.quiet(r:dJ s.heap n k v):∀{A:Wt}{m:Nat}{Q:Bool->W4->Prop},n<=m->Q true s->W7 (model prog w) A (eqIsQuiet m v) Q E s:=by induction r with|int z t=>intro A m Q _ q;rw[eqIsQuiet_byValue _ rfl];exact W3 q|bl b=>intro A m Q _ q;rw[eqIsQuiet_byValue _ rfl];exact W3 q|str x t=>intro A m Q _ q;rw[eqIsQuiet_byValue _ rfl];exact W3 q|@tup n a ak ks h1 h2 h3 ih=>
  intro A m Q hm q;obtain⟨o,ho,hc,mm,hd⟩:=id h1;have hT:s.TypeIs (.ref a) "tuple":=⟨o,ho,hc⟩;obtain⟨m,rfl⟩:∃m',m=m'+1:=⟨m-1,Y'⟩;unfold eqIsQuiet;refine W0 (wpAny_specialOf hT F.slot_tuple_eq.lookup ?_);show W7 _ _ (isInstance (.ref a) (.type "tuple")>>=_) _ _ s;refine W0 (U0 hT isSubtype_tuple_tuple ?_);simp only[Bool.not_true,Qf,if_false];refine W0 (QL ho hd ?_);refine W0 ?_;show W7 _ _ (forIn ak _ _) _ _ s;rw[<-Array.forIn_toList];refine wpAny_forIn_list _ (λrest r s'=>r.1=none/\s'=s/\∃i,rest=ak.toList.drop i) _ ?_ ?_ _ _ ⟨rfl,rfl,0,rfl⟩
  .rintro x rest r s'⟨hr,rfl,i,hi⟩;have bc:i<ak.toList.length:=by grind[List.drop_eq_nil_of_le]
   rw[J0 bc]at hi;injection hi with hx hi;have ik:i<ks.length:=by lia
   refine W0 (ih i ks[i] x (W8 ik) %[hx|W8 bc] Y' ?_);simp only[Bool.not_true,Qf,if_false];exact W3 ⟨rfl,rfl,i+1,hi⟩
  grind[W3]
theorem mI(a b:Int):decide (NK.i a=NK.i b)=(a==b):=by grind
theorem zr(a b):decide (NK.s a=NK.s b)=(a==b):=by grind
theorem zt(a b:Bool):(a==b)=(((if a then 1 else 0:Int))==(if b then 1 else 0:Int)):=by cases a<;>cases b<;>rfl
theorem XD{xs ys e}(he:∀(j:Nat)x y,xs[j]?=some x->ys[j]?=some y->e j=decide (x=y)):((WB (min xs.length ys.length)).all e&&xs.length==ys.length)=decide (NK.t xs=NK.t ys):=by
 by_cases hl:xs.length=ys.length
 .rw[<-hl,Nat.min_self];simp only[beq_self_eq_true,Bool.and_true];by_cases hx:xs=ys;.simp_all
  .rw[decide_eq_false λq=>hx (NK.t.inj q)];rw[List.all_eq_false];apply Classical.byContradiction;intro hn;apply hx;apply Jg hl;intro j a b;apply Classical.byContradiction;intro cu;refine hn ⟨j,List.mem_range.mpr a,?_⟩;rw[he j _ _ (W8 a) (W8 b)];simpa using cu
 grind
theorem dJ.XE{x}(r:dJ s.heap n x u):∀{A:Wt}{m:Nat}{y:NK}{v:Value},dJ s.heap m y v->A.units+n<Q1->EqAt A s u v (decide (x=y)):=by induction r with
 |int z t=>intro A m y v k hu;cases k with|int z' t'=>rw[mI];exact EqAt.int_int _ _ _ _|bl b=>rw[mI];exact EqAt.int_bool _ _ _|str x t'=>rw[decide_eq_false λq=>nomatch q];exact EqAt.int_str _ _ _ _|tup k1 k2 k3=>rw[decide_eq_false λq=>nomatch q];exact EqAt.int_tuple _ _ k1 Y'
 |bl b=>intro A m y v k hu;cases k with|int z' t'=>rw[mI];exact EqAt.bool_int _ _ _|bl b=>rw[mI,<-zt];exact EqAt.bool_bool _ _|str x t'=>rw[decide_eq_false λq=>nomatch q];exact EqAt.bool_str _ _ _|tup k1 k2 k3=>rw[decide_eq_false λq=>nomatch q];exact EqAt.bool_tuple _ k1 Y'
 |str x t=>intro A m y v k hu;cases k with|int z' t'=>rw[decide_eq_false λq=>nomatch q];exact EqAt.str_int _ _ _ _|bl b=>rw[decide_eq_false λq=>nomatch q];exact EqAt.str_bool _ _ _|str x t'=>rw[zr];exact EqAt.str_str _ _ _ _|tup k1 k2 k3=>rw[decide_eq_false λq=>nomatch q];exact EqAt.str_tuple _ _ k1 Y'
 |@tup n a ak ks h1 h2 h3 ih=>intro A m y v k hu;cases k with|int z' t'=>rw[decide_eq_false λq=>nomatch q];exact EqAt.tuple_int _ _ h1 Y'|bl b=>rw[decide_eq_false λq=>nomatch q];exact EqAt.tuple_bool _ h1 Y'|str x t'=>rw[decide_eq_false λq=>nomatch q];exact EqAt.tuple_str _ _ h1 Y'|@tup m' b its' ks' k1 k2 k3=>
   by_cases gw:a=b;.subst gw;have e:NK.t ks=NK.t ks':=dJ.inj (dJ.tup h1 h2 h3) (dJ.tup k1 k2 k3);rw[decide_eq_true e];exact EqAt.same _
   .refine EqAt.of_refs gw ?_;let e:Nat->Bool:=λj=>match ks[j]?,ks'[j]? with|some x,some y=>decide (x=y)|_,_=>false;have z1:ak.size=ks.length:= ~~~h2.symm;have z2:its'.size=ks'.length:= ~~~k2.symm;have q:=RcAt.tuples (A:=A) (s:=s) (e:=e) h1 k1 Y' λj j1 j2=>by
     have l1:j<ks.length:=by lia
     have l2:j<ks'.length:=by lia
     have ee:e j=decide (ks[j]=ks'[j]):=by simp only[e,W8 l1,W8 l2]
     rw[ee];exact ih j ks[j] ak[j] (W8 l1) #v[j1] (k3 j ks'[j] its'[j] (W8 l2) #v[j2]) (show A.units+1+n<Q1 by lia)
    rw[z1,z2,XD λj x y e1 e2=>by simp only[e,e1,e2]]at q;exact q
theorem XF{es ep}(ho:h.get? d=some o)(hd:o.data=.dict es ep)(hs:Qx d h h'):∀b ak,h.IsTuple b ak->h'.IsTuple b ak:=λb ak hh=>by
 obtain⟨o',e,c,n,q⟩:=hh
 have cu:b≠d:=by grind
 exact⟨o',(hs.2 b cu).trans e,c,n,q⟩
noncomputable def nkKind(prog:Wm)(w:Wv):HeapKind prog w NK where
 is:=λh k a=>dJ h 6 k (.ref a)
 hash:=fV w
 draws:=gQ
 room:=λA=>A.units+6<Q1
 inj:=λhx hy=>hx.inj hy
 keeps:=λx ho hd hs=>x.kept (XF ho hd hs)
 pyHash:=λhu hk h=>hk.pyHash rfl hu h
 eqBool:=λhu hx hy h=>hx.XE hy hu _ _ _ _ h
 quiet:=λhk h=>hk.quiet Y' h
def kN:Key->NK|.inl z=>.i z|.inr x=>.s x
theorem XG(h:kN p=kN q):p=q:=by cases p<;>cases q<;>first|(cases h;rfl)|cases h
def kB(h:Heap)(m:Bool)(k:NK)(u:Value):Prop:=match m with|true=>∃a,u=.ref a/\dJ h 6 k u|false=>∃q:Key,iT q u=true/\k=kN q
theorem XH(h1:iT p u=true)(h2:iT q u=true):p=q:=by all_goals grind[lV]
def ent(w:Wv)(x:NK×Value×Value):DictEntry:=⟨fV w x.1,x.2.1,x.2.2⟩
section
variable{s:W4}
theorem zu{Q}(hu:A.units+6<Q1)(hk:kB s.heap m k u)(h:Q (fV w k) {s with toks:=s.toks+gQ k}):W7 (model prog w) A (PySem.pyHash u) Q E s:=by cases m with|true=>obtain⟨a,rfl,r⟩:=hk;exact r.pyHash rfl hu h|false=>obtain⟨q,h1,rfl⟩:=hk;refine(eY prog w).pyHash (k:=q) h1 ?_;cases q<;>exact h
theorem Gv:∀{xs:List (NK×Value×Value)},(∀x∈xs,kB h true x.1 x.2.1)->∃ys:List (NK×Addr×Value),xs=ys.map λy=>(y.1,Value.ref y.2.1,y.2.2)|[],_=>⟨[],rfl⟩|x::xs,q=>by obtain⟨ys,e⟩:=Gv (xs:=xs) λy hy=>q y (Wn _ hy);obtain⟨a,e1,_⟩:=q x Wx;exact⟨(x.1,a,x.2.2)::ys,by rw[Wi,<-e];simp only[<-e1]⟩
theorem zv{k:NK}{d:Addr}{o:Obj}{es ep}{Q:Option Nat->W4->Prop}(hu:A.units+6<Q1)(hk:kB s.heap m k u)(ho:s.heap.get? d=some o)(hd:o.data=.dict es ep)(he:es.toList=xs.map (ent w))(hx:∀x∈xs,kB s.heap m x.1 x.2.1)(hn:(xs.map (·.1)).Nodup)(Gw:(∀(j:Nat)p,xs[j]?≠some (k,p))->Q none s)(XI:∀(j:Nat)p,xs[j]?=some (k,p)->Q (some j) s):W7 (model prog w) A (dictFind d u (fV w k)) Q E s:=by
 cases m with|true=>
 obtain⟨a,rfl,r⟩:=hk;obtain⟨ys,rfl⟩:=Gv hx;refine wpAny_dictFind_heap (knd:=nkKind prog w) (xs:=ys) hu r ho hd (by rw[he,Wq];rfl) (λy hy=>?_) (by rw[Wq]at hn;exact hn) (λf6=>Gw λj p e=>?_) λj p e=>?_;.obtain⟨b,e1,e2⟩:=hx _ (WL hy);cases e1;exact e2
 .rw[Wo]at e;cases q:ys[j]? with|none=>rw[q]at e;cases e|some y=>rw[q]at e;simp only[WX,Wd]at e;exact f6 j y.2 (by rw[q,<-show y.1=k from congrArg Prod.fst e])
 .exact XI j (.ref p.1,p.2) (by rw[Wo,e];rfl)|false=>
 obtain⟨q,h1,rfl⟩:=hk;have zw:∀(j:Nat)e,es[j]?=some e->∃x,xs[j]?=some x/\e=ent w x:=λj e z=>by rw[<-QQ,he,Wo]at z;cases y:xs[j]? with|none=>rw[y]at z;cases z|some x=>rw[y]at z;simp only[WX,Wd]at z;exact⟨x,rfl,z.symm⟩
 have ks:KeysOf (eY prog w) es:=λe gD=>by obtain⟨j,hj⟩:=Qb.mp (Array.mem_toList_iff.mpr gD);obtain⟨x,e1,rfl⟩:=zw j e (by rw[<-QQ];exact hj);obtain⟨q',e2,e3⟩:=hx x (Wj e1);refine⟨q',e2,?_⟩;show fV w x.1=_;rw[e3];cases q'<;>rfl
 have hh:fV w (kN q)=(eY prog w).hash q:=by cases q<;>rfl
 rw[hh];refine wpAny_dictFind_of (knd:=eY prog w) (k:=q) h1 ho hd ks ?_;cases hf:es.findIdx? λe=>(eY prog w).is q e.key with|none=>
 refine Gw λj p e=>?_;have hj:j<xs.length:=(W9.mp e).1;have hz:es.size=xs.length:=by rw[<-Q4,he,Ws]
 obtain⟨x,e1,e2⟩:=zw j es[j] #v[hz,hj];rw[e]at e1;cases e1;have:=Array.findIdx?_eq_none_iff.mp hf es[j] (Array.getElem_mem _);obtain⟨q',e3,e4⟩:=hx _ (Wj e);rw[XG e4]at this;rw[e2]at this;have z:iT q' p.1=false:=this;grind|some j=>obtain⟨bc,hp,_⟩:=Array.findIdx?_eq_some_iff_getElem.mp hf;obtain⟨x,e1,e2⟩:=zw j es[j] #v[bc];obtain⟨q',e3,e4⟩:=hx x (Wj e1);rw[e2]at hp;have:q=q':=XH (show iT q x.2.1=true from hp) e3;grind
noncomputable def atN(xs:List (NK×Value×Value))(k:NK):Option (Value×Value):=(xs.find? λx=>decide (x.1=k)).map (·.2)
noncomputable def stN(xs:List (NK×Value×Value))(k:NK)(u v:Value):List (NK×Value×Value):=if(xs.any λx=>decide (x.1=k))=true then xs.map λx=>if x.1=k then(x.1,x.2.1,v)else x else xs++[(k,u,v)]
theorem vG(h:∀(j:Nat)p,xs[j]?≠some (k,p)):atN xs k=none/\(xs.any λx=>decide (x.1=k))=false:=by
 have z:∀x∈xs,decide (x.1=k)=false:=λx hx=>by grind[List.mem_iff_getElem?]
 grind[atN]
theorem vH:∀{xs:List (NK×Value×Value)}{k:NK}{j:Nat}{p:Value×Value},(xs.map (·.1)).Nodup->xs[j]?=some (k,p)->atN xs k=some p/\(xs.any λx=>decide (x.1=k))=true|[],k,j,p,_,e=>by simp at e|x::xs,k,j,p,hn,e=>by rw[Wi,WW]at hn;cases j with|zero=>simp at e;subst e;simp[atN]|succ j=>have e':xs[j]?=some (k,p):= ~~~e;have cu:¬x.1=k:=λz=>hn.1 (by rw[z];exact Wu.mpr ⟨_,Wj e',rfl⟩);obtain⟨h1,h2⟩:=vH hn.2 e';grind[atN]
theorem XJ{k d}{o:Obj}{es ep}{Q:Option Value->W4->Prop}(hu:A.units+6<Q1)(hk:kB s.heap m k u)(ho:s.heap.get? d=some o)(hd:o.data=.dict es ep)(he:es.toList=xs.map (ent w))(hx:∀x∈xs,kB s.heap m x.1 x.2.1)(hn:(xs.map (·.1)).Nodup)(h:Q ((atN xs k).map (·.2)) {s with toks:=s.toks+gQ k}):W7 (model prog w) A (dictGet d u) Q E s:=by
 unfold dictGet;try with_reducible refine WI ?_
 refine W0 (zu hu hk (W0 (zv (s:={s with toks:=s.toks+gQ k}) hu hk ho hd he hx hn ?_ ?_)));.intro f6;rw[(vG f6).1]at h;exact W3 h
 .intro j p hj;rw[(vH hn hj).1]at h;refine W0 (Qm (s:={s with toks:=s.toks+gQ k}) ho hd ?_);rw[<-QQ,he,Wo,hj];exact W3 h
theorem Gx(hn:(xs.map (·.1)).Nodup):((stN xs k u v).map (·.1)).Nodup:=by
 unfold stN;split;.rw[Wq];rw[show((λx:NK×Value×Value=>x.1)∘λx=>if x.1=k then(x.1,x.2.1,v)else x)=(·.1)from funext λx=>by simp only[Function.comp];split<;>rfl];exact hn
 .rename_i hh;rw[WT,List.nodup_append];refine⟨hn,U',λx hx y hy e=>?_⟩;simp only[Wi,Jk,List.mem_singleton]at hy;subst hy e;obtain⟨z,hz,e⟩:=Wu.mp hx;exact hh (List.any_eq_true.mpr ⟨z,hz,decide_eq_true e⟩)
theorem Gy:∀{xs:List (NK×Value×Value)}{j:Nat}{p:Value×Value},(xs.map (·.1)).Nodup->xs[j]?=some (k,p)->(xs.map (ent w)).modify j (λe=>{e with val:=v})=(xs.map λx=>if x.1=k then(x.1,x.2.1,v)else x).map (ent w)
 |[],j,p,_,e=>by simp at e|x::xs,j,p,hn,e=>by
  rw[Wi,WW]at hn;cases j with|zero=>
   simp at e;subst e;have z:(xs.map λx=>if x.1=k then(x.1,x.2.1,v)else x)=xs:=by
    conv=>rhs;rw[<-List.map_id xs]
    refine WK λy hy=>?_;rw[if_neg λq=>hn.1 (Wu.mpr ⟨y,hy,q⟩)];rfl
   rw[Wi,Wi,Wi,z,if_pos rfl];rfl|succ j=>have e':xs[j]?=some (k,p):= ~~~e;have cu:¬x.1=k:=λz=>hn.1 (by rw[z];exact Wu.mpr ⟨_,Wj e',rfl⟩);rw[Wi,Wi,Wi,if_neg cu];show ent w x::(xs.map (ent w)).modify j _=_;rw[Gy hn.2 e']
theorem XM{k v d}{o:Obj}{es ep}{Q:Unit->W4->Prop}(hu:A.units+6<Q1)(hk:kB s.heap m k u)(ho:s.heap.get? d=some o)(hc:o.ExactDict)(hd:o.data=.dict es ep)(he:es.toList=xs.map (ent w))(hx:∀x∈xs,kB s.heap m x.1 x.2.1)(hn:(xs.map (·.1)).Nodup)(hz:xs.length<=Wb)(hQ:∀h' o' m5 gk,h'.get? d=some o'->o'.ExactDict->o'.data=.dict m5 gk->m5.toList=(stN xs k u v).map (ent w)->Qx d s.heap h'->Q () {s with heap:=h',toks:=s.toks+gQ k}):W7 (model prog w) A (dictSet d u v) Q E s:=by
 have hsz:es.size=xs.length:=by rw[<-Q4,he,Ws]
 unfold dictSet;try with_reducible refine WI ?_
 refine W0 (zu hu hk ?_);unfold dictSetHashed;try with_reducible refine WI ?_
 refine W0 (zv (s:={s with toks:=s.toks+gQ k}) hu hk ho hd he hx hn ?_ ?_);.intro f6;refine W0 (QU (wpAny_updateDictKeys (hz:=by lia) (s:={s with toks:=s.toks+gQ k}) ho hd (hQ _ _ _ (ep+1) (QP _ ho (Obj.isFreed_of_dict (Obj.data_mapDictKeys hd _))) (hc.mapDictKeys _) (Obj.data_mapDictKeys hd _) ?_ (QN ..))));unfold stN;rw[if_neg (by rw[(vG f6).2];simp)];simp[he,ent]
 .intro j p hj;refine W0 (QU (W0 (wpAny_updateDict (s:={s with toks:=s.toks+gQ k}) ho hd (wpAny_point (hQ _ _ _ ep (QP _ ho (Obj.isFreed_of_dict (Obj.data_mapDict hd _))) (hc.mapDict _) (Obj.data_mapDict hd _) ?_ (QN ..))))));unfold stN;rw[if_pos (vH hn hj).2,<-Gy hn hj,<-he];grind
end
inductive ly(H:Hp):Nat->NK->V->Prop|int{n:Nat}(z:Int):ly H n (.i z) (.int z)|bl{n:Nat}(b:Bool):ly H n (.i (if b then 1 else 0)) (.bl b)|str{n:Nat}(x:Str):ly H n (.s x) (.str x)|tup{n:Nat}{a:Addr}{vs:List V}{ks:List NK}:H a=some (.tup vs)->ks.length=vs.length->(∀(i:Nat)k v,ks[i]?=some k->vs[i]?=some v->ly H n k v)->ly H (n+1) (.t ks) (.ref a)
def jU(H:Hp)(m:Bool)(k:NK)(v:V):Prop:=match m with|true=>(∃a,v=.ref a)/\ly H 6 k v|false=>∃q:Key,k=kN q/\v=kV q
theorem Vals.XN{xs:List V}(r:Vals xs us)(e:us[i]?=some u):∃x,xs[i]?=some x/\RelV x u:=by
 have h1:=r.length;have h2:i<xs.length:=by have:=(W9.mp e).1;lia
 obtain⟨u',e',rr⟩:=r.get (W8 h2);rw[e]at e';cases e';exact⟨_,W8 h2,rr⟩
theorem ly.nk{k v}(ok:cK P w H h)(r:ly H n k v):∀{u:Value},RelV v u->dJ h n k u:=by induction r with|int z=>intro u q;obtain⟨t,rfl⟩:=q;exact .int z t|bl b=>intro u q;cases q;exact .bl b|str x=>intro u q;obtain⟨t,rfl⟩:=q;exact .str x t|@tup n a vs ks h1 h2 h3 ih=>intro u q;cases q;obtain⟨_,ak,r,p⟩:=show bX P w H h a (.tup vs)from ok a _ h1;have ht:h.IsTuple a ak.toArray:=p.tup;refine .tup ht (by rw[h2];simpa using r.length) λi k u e1 e2=>?_;obtain⟨x,e3,rx⟩:=r.XN (u:=u) (i:=i) (~~~e2);exact ih i k x e1 e3 rx
theorem jU.key(ok:cK P w H h)(r:jU H m k v)(q:RelV v u):kB h m k u:=by cases m with|true=>obtain⟨⟨a,rfl⟩,r⟩:=r;cases q;exact⟨a,rfl,r.nk ok rfl⟩|false=>obtain⟨q',rfl,rfl⟩:=r;exact⟨q',by rw[<-MT P w];exact kX q,rfl⟩
abbrev NE:=NK×V×V
def dB:List NE->List (NK×Value×Value)->Prop:=Paired λ(p:NE)(x:NK×Value×Value)=>p.1=x.1/\RelV p.2.1 x.2.1/\RelV p.2.2 x.2.2
theorem Gz{ae es}(h:Paired (λ p (e:DictEntry)=>e.hash=fV w p.1/\RelV p.2.1 e.key/\RelV p.2.2 e.val) ae es):∃xs,dB ae xs/\es=xs.map (ent w):=by induction h with|nil=>exact⟨[],.nil,rfl⟩|@cons p e _ _ r t ih=>obtain⟨xs,h1,h2⟩:=ih;refine⟨(p.1,e.key,e.val)::xs,.cons ⟨rfl,r.2.1,r.2.2⟩ h1,?_⟩;rw[Wi,<-h2];unfold ent;rw[<-r.1]
theorem GJ{ae}{xs:List (NK×Value×Value)}(h:dB ae xs):Paired (λ p (e:DictEntry)=>e.hash=fV w p.1/\RelV p.2.1 e.key/\RelV p.2.2 e.val) ae (xs.map (ent w)):=by induction h with|nil=>exact .nil|@cons p x _ _ r t ih=>exact .cons ⟨by show fV w x.1=_;rw[r.1],r.2.1,r.2.2⟩ ih
theorem dB.keys{ae:List NE}{xs:List (NK×Value×Value)}(h:dB ae xs):ae.map (·.1)=xs.map (·.1):=by induction h with|nil=>rfl|cons r t ih=>rw[Wi,Wi,r.1,ih]
noncomputable def valN(ae:List NE)(k:NK):Option V:=(ae.find? λp=>decide (p.1=k)).map (·.2.2)
noncomputable def putN(ae:List NE)(k:NK)(y v:V):List NE:=if(ae.any λp=>decide (p.1=k))=true then ae.map λp=>if p.1=k then(p.1,p.2.1,v)else p else ae++[(k,y,v)]
theorem dB.val(k){ae:List NE}{xs:List (NK×Value×Value)}(h:dB ae xs):gj (valN ae k) ((atN xs k).map (·.2))/\(ae.any λp=>decide (p.1=k))=xs.any λx=>decide (x.1=k):=by induction h with|nil=>exact⟨trivial,rfl⟩|@cons p x ae xs r t ih=>
  obtain⟨i1,i2⟩:=ih;rw[Qj,Qj,i2,r.1];refine⟨?_,rfl⟩;unfold valN atN at i1⊢;rw[Q7,Q7,r.1];by_cases e:x.1=k;.rw[decide_eq_true e];exact r.2.2
  .rw[decide_eq_false e];exact i1
theorem dB.st(rv:RelV v r){ae:List NE}{xs:List (NK×Value×Value)}(h:dB ae xs):dB (ae.map λp=>if p.1=k then(p.1,p.2.1,v)else p) (xs.map λx=>if x.1=k then(x.1,x.2.1,r)else x):=by induction h with|nil=>exact .nil|@cons p x _ _ q t ih=>
  rw[Wi,Wi];refine .cons ?_ ih;rw[q.1];by_cases e:x.1=k;.rw[if_pos e,if_pos e];exact⟨rfl,q.2.1,rv⟩
  .rw[if_neg e,if_neg e];exact q
theorem dB.app(ry:RelV y u)(rv:RelV v r){ae}{xs:List (NK×Value×Value)}(h:dB ae xs):dB (ae++[(k,y,v)]) (xs++[(k,u,r)]):=by induction h with|nil=>exact .cons ⟨rfl,ry,rv⟩ .nil|cons q t ih=>exact .cons q ih
theorem dB.put(ry:RelV y u)(rv:RelV v r)(h:dB ae xs):dB (putN ae k y v) (stN xs k u r):=by
 unfold putN stN;rw[(dB.val k h).2];split;.exact h.st rv
 .exact h.app ry rv
section
variable{a:Addr}{ae:List NE}
structure kC(w:Wv)(h:Heap)(a:Addr)(ep:Nat)(xs:List (NK×Value×Value))(o:Obj)(es:Array DictEntry):Prop where
 get:h.get? a=some o
 ex:o.ExactDict
 data:o.data=.dict es ep
 ents:es.toList=xs.map (ent w)jV:(xs.map (·.1)).Nodup
theorem jt(ok:cK P w H h)(e:H a=some (.dN ep ae)):ae.length<=Wb/\(a==Qt)=false/\∃xs o es,dB ae xs/\kC w h a ep xs o es:=by obtain⟨z,hS,o,es,h1,h2,h3,h4,h5⟩:=show bX P w H h a (.dN ep ae)from ok a _ e;obtain⟨xs,q1,q2⟩:=Gz h4;exact⟨z,hS,xs,o,es,q1,h1,h2,h3,q2,by rw[<-q1.keys];exact h5⟩
theorem GK{es}(z:ae.length<=Wb)(hS:(a==Qt)=false)(r:dB ae xs)(d:kC w h a ep xs o es):bX P w H h a (.dN ep ae):=⟨z,hS,o,es,d.get,d.ex,d.data,%[d.ents|GJ r],%[r.keys|d.jV]⟩
theorem kC.typeIs{s:W4}{o es}(d:kC w s.heap a ep xs o es):s.TypeIs (.ref a) "dict":=⟨o,d.get,d.ex.1⟩
theorem kC.noDict{es}(d:kC w h a ep xs o es):∀b,Value.ref a=.ref b->∃ob,h.get? b=some ob/\ob.dict=none:=λb e=>by cases e;exact⟨o,d.get,d.ex.2.1⟩
theorem zy(ok:cK P w H h)(r:dB ae xs)(hk:∀p∈ae,jU H m p.1 p.2.1):∀x∈xs,kB h m x.1 x.2.1:=by induction r with|nil=>intro x hx;simp at hx|cons q t ih=>
 intro x hx;rcases Wf.mp hx with rfl|hx;.rw[<-q.1];exact(hk _ Wx).key ok q.2.1
 .exact ih (λp hp=>hk p (Wn _ hp)) x hx
end
def rQ(H:Hp)(a:Addr)(y:V)(r:Option V):Prop:=∃m ep ae k,H a=some (.dN ep ae)/\(∀p∈ae,jU H m p.1 p.2.1)/\jU H m k y/\r=valN ae k
section
variable{s:W4}{a:Addr}{y v:V}{r:Value}{o:Option V}
theorem XO{Q}(hu:A.units+6<Q1)(I:Inv X pins M H s)(g:rQ H a y o)(ry:RelV y u)(h:∀w' s',Inv X pins M H s'->gj o w'->Q w' s'):W7 (model X.prog X.w) A (dictGet a u) Q E s:=by obtain⟨m,ep,ae,k,e,hk,ky,rfl⟩:=g;obtain⟨z,hS,xs,ob,es,rx,d⟩:=jt I.aB e;exact XJ hu (ky.key I.aB ry) d.get d.data d.ents (zy I.aB rx hk) d.jV (h _ _ (I.tok _) (rx.val k).1)
theorem GQ(I:Inv X pins M H s)(g:rQ H a y o):s.TypeIs (.ref a) "dict"/\(∀b,Value.ref a=.ref b->∃ob,s.heap.get? b=some ob/\ob.dict=none)/\(a==Qt)=false:=by obtain⟨m,ep,ae,k,e,hk,ky,rfl⟩:=g;obtain⟨z,hS,xs,ob,es,rx,d⟩:=jt I.aB e;exact⟨d.typeIs,d.noDict,hS⟩
theorem XQ(hu:A.units+8<Q1)(I:Inv X pins M H s)(g:rQ H a y (some v))(ry:RelV y u)(h:∀w' s',Inv X pins M H s'->RelV v w'->Q w' s'):W7 (model X.prog X.w) A (JK (.ref a) u) Q E s:=by
 obtain⟨hT,_,_⟩:=GQ I g;unfold JK;try with_reducible refine WI ?_
 refine W0 (JR hT Z' ?_);refine W0 (WE (name:=Str.ofString "__getitem__") hT slot_dict_getitem (WA slot_dict_getitem hT entry_dict_getitem ?_ (args_dict_getitem _ _)));show W7 _ _ (dictGet a u>>=_) _ _ s;refine W0 (XO (show A.units+1+6<Q1 by lia) I g ry λw' s' I' rr=>?_);obtain⟨w2,rfl,r2⟩:=gj.some_of rr;exact W3 ⟨w2,rfl,W3 (h w2 s' I' r2)⟩
def zA(H:Hp)(a:Addr)(y v:V)(R:Hp->Prop):Prop:=∃m ep ae k,H a=some (.dN ep ae)/\(∀p∈ae,jU H m p.1 p.2.1)/\jU H m k y/\ae.length<Wb/\∀gk,R (upd H a (.dN gk (putN ae k y v)))
theorem GU(ae:List NE)(k y v):(putN ae k y v).length<=ae.length+1:=by
 unfold putN;split;.simp
 .simp
theorem XR{R Q}(hu:A.units+6<Q1)(I:Inv X pins M H s)(g:zA H a y v R)(ry:RelV y u)(rv:RelV v r)(h:∀H' s',Inv X pins M H' s'->R H'->Q () s'):W7 (model X.prog X.w) A (dictSet a u r) Q E s:=by
 obtain⟨m,ep,ae,k,e,hk,ky,hz,hR⟩:=g;obtain⟨z,hS,xs,ob,es,rx,d⟩:=jt I.aB e;have hl:xs.length<=Wb:=by rw[<-Paired.length rx];exact z
 refine XM hu (ky.key I.aB ry) d.get d.ex d.data d.ents (zy I.aB rx hk) d.jV hl λh' o' m5 gk q1 q2 q3 q4 hs=>h _ _ ?_ (hR gk);have iW:(putN ae k y v).length<=Wb:=by have:=GU ae k y v;lia
 exact nj I %[e|True.intro] hs ⟨o',q1⟩ (GK iW hS (rx.put ry rv) ⟨q1,q2,q3,q4,Gx d.jV⟩)
theorem XS{R:Hp->Prop}{Q:Unit->W4->Prop}(hu:A.units+8<Q1)(I:Inv X pins M H s)(g:zA H a y v R)(ry:RelV y u)(rv:RelV v r)(h:∀H' s',Inv X pins M H' s'->R H'->Q () s'):W7 (model X.prog X.w) A (setItem (.ref a) u r) Q E s:=by
 have hT:s.TypeIs (.ref a) "dict":=by obtain⟨m,ep,ae,k,e,_⟩:=g;obtain⟨z,hS,xs,ob,es,rx,d⟩:=jt I.aB e;exact d.typeIs
 unfold setItem;try with_reducible refine WI ?_
 refine W0 (JR hT Z' ?_);refine W0 (WE (name:=Str.ofString "__setitem__") hT slot_dict_setitem (WA slot_dict_setitem hT entry_dict_setitem ?_ (args_dict_setitem _ _ _)));show W7 _ _ (Builtin.Dict.notOrdered "__setitem__" ⟨[.ref a,u,r],[]⟩>>=_) _ _ s;refine W0 (QB hT ?_);show W7 _ _ (dictSet a u r>>=_) _ _ s;exact W0 (XR (show A.units+1+6<Q1 by lia) I g ry rv λH' s' I' hR=>W3 ⟨.none,rfl,W3 (h H' s' I' hR)⟩)
end
end
theorem XT(n:Nat)(i:Int):cF n (.int i)=some (.i i):=by cases n<;>rfl
theorem XU(n b):cF n (.bl b)=some (.i (if b then 1 else 0)):=by cases n<;>rfl
theorem XW(n x):cF n (.str x)=some (.s (toS x)):=by cases n<;>rfl
theorem XY(n xs):cF (n+1) (.tup xs)=(gM n xs).map .t:=rfl
theorem vI{x}(h:cF n d=some x):(∃i,d=.int i/\x=.i i)\/(∃b,d=.bl b/\x=.i (if b then 1 else 0))\/(∃s,d=.str s/\x=.s (toS s))\/∃m xs ks,n=m+1/\d=.tup xs/\gM m xs=some ks/\x=.t ks:=by cases d with
 |int i=>rw[XT]at h;exact .inl ⟨i,rfl,(WN h).symm⟩|bl b=>rw[XU]at h;exact .inr (.inl ⟨b,rfl,(WN h).symm⟩)|str s=>rw[XW]at h;exact .inr (.inr (.inl ⟨s,rfl,(WN h).symm⟩))|tup xs=>cases n with|zero=>cases h|succ m=>rw[XY,Q5]at h;obtain⟨ks,hk,e⟩:=h;exact .inr (.inr (.inr ⟨m,xs,ks,rfl,rfl,hk,e.symm⟩))
 |_=>cases n<;>cases h
theorem GV(ih:∀d e x y,cF n d=some x->cF n e=some y->bw d e=decide (x=y)):∀xs ys ks ls,gM n xs=some ks->gM n ys=some ls->cU xs ys=decide (ks=ls)|[],[],ks,ls,h1,h2=>by grind[cU]|[],y::ys,ks,ls,h1,h2=>by simp only[gM,Wd,JI,Q5]at h1 h2;subst h1;obtain⟨k,_,l,_,rfl⟩:=h2;simp[cU]|x::xs,[],ks,ls,h1,h2=>by simp only[gM,Wd,JI,Q5]at h1 h2;subst h2;obtain⟨k,_,l,_,rfl⟩:=h1;simp[cU]|x::xs,y::ys,ks,ls,h1,h2=>by simp only[gM,JI,Q5]at h1 h2;obtain⟨k,hk,k',qO,rfl⟩:=h1;obtain⟨l,hl,l',iW,rfl⟩:=h2;simp only[cU];rw[ih x y k l hk hl,GV ih xs ys k' l' qO iW];grind
theorem GX:∀(n:Nat)d e x y,cF n d=some x->cF n e=some y->bw d e=decide (x=y):=by intro n;induction n with
 |zero=>intro d e x y h1 h2;rcases vI h1 with⟨i,rfl,rfl⟩|⟨b,rfl,rfl⟩|⟨s,rfl,rfl⟩|⟨m,xs,ks,e,_⟩<;>rcases vI h2 with⟨i,rfl,rfl⟩|⟨b,rfl,rfl⟩|⟨s,rfl,rfl⟩|⟨m,xs,ks,e,_⟩<;>first|(cases e;done)|(simp only[bw];first|(rw[decide_eq_false λq=>nomatch q];done)|(rw[mI,<-zt];done)|(rw[mI];done)|(rw[zr,qT];done))
 |succ n ih=>
 intro d e x y h1 h2;rcases vI h1 with⟨i,rfl,rfl⟩|⟨b,rfl,rfl⟩|⟨s,rfl,rfl⟩|⟨m,xs,ks,e1,rfl,hk,rfl⟩<;>rcases vI h2 with⟨i,rfl,rfl⟩|⟨b,rfl,rfl⟩|⟨s,rfl,rfl⟩|⟨m,ys,ls,e2,rfl,hl,rfl⟩<;>first|(simp only[bw];first|(rw[decide_eq_false λq=>nomatch q];done)|(rw[mI,<-zt];done)|(rw[mI];done)|(rw[zr,qT];done))|skip
 cases e1;cases e2;simp only[bw];rw[GV ih xs ys ks ls hk hl];grind
theorem GY:∀{xs:List D}{ks:List NK},gM n xs=some ks->ks.length=xs.length/\∀(i:Nat)d k,xs[i]?=some d->ks[i]?=some k->cF n d=some k|[],ks,h=>by simp[gM]at h;subst h;exact⟨rfl,λi d k e=>by simp at e⟩|x::xs,ks,h=>by simp only[gM,JI,Q5]at h;obtain⟨k,hk,k',qO,rfl⟩:=h;obtain⟨h1,h2⟩:=GY qO;refine⟨#v[h1],λi d kk e1 e2=>?_⟩;cases i with|zero=>simp at e1 e2;subst e1;subst e2;exact hk|succ i=>exact h2 i d kk (~~~e1) (~~~e2)
theorem XZ(r:Rep H O v d):∀{n:Nat}{k:NK},cF n d=some k->ly H n k v:=by
 induction r with|int i=>intro n k h;cases n<;>(simp[cF]at h;subst h;exact .int i)|bl b=>intro n k h;cases n<;>(simp only[cF,Wd]at h;subst h;exact .bl b)|str x=>intro n k h;cases n<;>(simp[cF]at h;subst h;exact .str _)|@tup a vs ds h1 h2 h3 h4 ih=>intro n k h;cases n with|zero=>simp[cF]at h|succ n=>
 simp only[cF,Q5]at h;obtain⟨ks,hk,rfl⟩:=h;obtain⟨l,g⟩:=GY hk;refine .tup h2 Y' λi k v e1 e2=>?_;have hi:i<ds.length:=by have:=(W9.mp e1).1;lia
 exact ih i v ds[i] e2 (W8 hi) (g i ds[i] k (W8 hi) e1)|_=>intro n k h;cases n<;>simp[cF]at h
def hV(m:Bool)(d:D):Bool:=match d with|.tup _=>m|.int _=>!m|.str _=>!m|_=>false
theorem vJ(hm:hV m d=true)(hk:cF 6 d=some k)(r:Rep H O v d):jU H m k v:=by cases m with|true=>have r':=XZ r hk;cases r<;>simp[hV]at hm;exact⟨⟨_,rfl⟩,r'⟩|false=>
 cases r<;>simp[hV]at hm;.simp[cF]at hk;subst hk;exact⟨.inl _,rfl,rfl⟩
 .simp[cF]at hk;subst hk;exact⟨.inr _,rfl,rfl⟩
def gU(m:Bool)(ds:List (D×D))(k:D):Bool:=hV m k&&(cF 6 k).isSome&&ds.all λq=>hV m q.1
def hW(k:D):Bool:=hV true k
def f_(ds:List (D×D))(k:D):Option D:=(ds.find? λq=>bw q.1 k).map (·.2)
def ju(ds:List (D×D))(k d:D):List (D×D):=if(ds.any λq=>bw q.1 k)=true then ds.map λq=>if bw q.1 k=true then(q.1,d)else q else ds++[(k,d)]
section
variable{ws:List NE}{ds:List (D×D)}{p:NE}{q:D×D}
theorem DN.nil:DN H O [] []:=⟨rfl,λi p q e=>by simp at e,λi p q e=>by simp at e,λi p q e=>by simp at e⟩
theorem DN.cons{H O ws ds p q}(h1:Rep H O p.2.1 q.1)(h2:Rep H O p.2.2 q.2)(h3:cF 6 q.1=some p.1)(r:DN H O ws ds):DN H O (p::ws) (q::ds):=by
 refine⟨#v[r.len],λi a b e1 e2=>?_,λi a b e1 e2=>?_,λi a b e1 e2=>?_⟩<;>cases i<;>simp at e1 e2;.subst e1;subst e2;exact h1
 .exact r.key _ a b e1 e2
 .subst e1;subst e2;exact h2
 .exact r.val _ a b e1 e2
 .subst e1;subst e2;exact h3
 .exact r.nA _ a b e1 e2
theorem DN.un(r:DN H O (p::ws) (q::ds)):Rep H O p.2.1 q.1/\Rep H O p.2.2 q.2/\cF 6 q.1=some p.1/\DN H O ws ds:=⟨r.key 0 p q rfl rfl,r.val 0 p q rfl rfl,r.nA 0 p q rfl rfl,~~~r.len,λi a b e1 e2=>r.key (i+1) a b (~~~e1) (~~~e2),λi a b e1 e2=>r.val (i+1) a b (~~~e1) (~~~e2),λi a b e1 e2=>r.nA (i+1) a b (~~~e1) (~~~e2)⟩
theorem DN.get(hk:cF 6 k=some kk):∀{ws:List NE}{ds:List (D×D)},DN H O ws ds->((f_ ds k=none/\valN ws kk=none)\/∃v d,f_ ds k=some d/\valN ws kk=some v/\Rep H O v d)/\(ds.any λq=>bw q.1 k)=ws.any λp=>decide (p.1=kk)
 |[],[],_=>⟨.inl ⟨rfl,rfl⟩,rfl⟩|[],_::_,r=>by have:=r.len;simp at this|_::_,[],r=>by have:=r.len;simp at this|p::ws,q::ds,r=>by
  obtain⟨r1,r2,r3,r4⟩:=r.un;obtain⟨i1,i2⟩:=DN.get hk r4;have e:=GX 6 q.1 k p.1 kk r3 hk;refine⟨?_,by rw[Qj,Qj,i2,e]⟩;unfold f_ valN at i1⊢;rw[Q7,Q7,e];by_cases z:p.1=kk;.rw[decide_eq_true z];exact .inr ⟨_,_,rfl,rfl,r2⟩
  .rw[decide_eq_false z];exact i1
theorem DN.app(hk:cF 6 k=some kk)(ry:Rep H O y k)(rv:Rep H O v d):∀{ws:List NE}{ds:List (D×D)},DN H O ws ds->DN H O (ws++[(kk,y,v)]) (ds++[(k,d)])|[],[],_=>.cons ry rv hk .nil|[],_::_,r=>by have:=r.len;simp at this|_::_,[],r=>by have:=r.len;simp at this|p::ws,q::ds,r=>by obtain⟨r1,r2,r3,r4⟩:=r.un;exact .cons r1 r2 r3 (DN.app hk ry rv r4)
theorem DN.st(hk:cF 6 k=some kk)(rv:Rep H O v d):∀{ws:List NE}{ds:List (D×D)},DN H O ws ds->DN H O (ws.map λp=>if p.1=kk then(p.1,p.2.1,v)else p) (ds.map λq=>if bw q.1 k=true then(q.1,d)else q)
 |[],[],_=>.nil|[],_::_,r=>by have:=r.len;simp at this|_::_,[],r=>by have:=r.len;simp at this|p::ws,q::ds,r=>by
  obtain⟨r1,r2,r3,r4⟩:=r.un;have e:=GX 6 q.1 k p.1 kk r3 hk;rw[Wi,Wi,e];by_cases z:p.1=kk;.rw[decide_eq_true z,if_pos z,if_pos rfl];exact .cons r1 rv r3 (DN.st hk rv r4)
  .rw[decide_eq_false z,if_neg z,if_neg U'];exact .cons r1 r2 r3 (DN.st hk rv r4)
theorem DN.put(hk:cF 6 k=some kk)(ry:Rep H O y k)(rv:Rep H O v d)(r:DN H O ws ds):DN H O (putN ws kk y v) (ju ds k d):=by
 unfold putN ju;rw[(DN.get hk r).2];split;.exact r.st hk rv
 .exact r.app hk ry rv
theorem DN.zC(hm:(ds.all λq=>hV m q.1)=true)(r:DN H O ws ds):∀p∈ws,jU H m p.1 p.2.1:=λp hp=>by
 obtain⟨i,e⟩:=Qb.mp hp;have hi:i<ds.length:=by have:=(W9.mp e).1;have:=r.len;lia
 exact vJ (JB.mp hm ds[i] (WQ hi)) (r.nA i p ds[i] e (W8 hi)) (r.key i p ds[i] e (W8 hi))
end
theorem zD{ds}(r:cT c M U H v (.dic ds)):∃a ep ws,v=.ref a/\H a=some (.dN ep ws)/\DN H (Av c M U) ws ds:=by
 rcases r with r|⟨a,rfl,ep,ws,h1,h2⟩;.cases r with|dic h1 h2 h3 h4 h5 h6=>exact⟨_,_,_,rfl,h2,h3,h4,h5,h6⟩
 .exact⟨a,ep,ws,rfl,h1,h2⟩
theorem X2(h:hV m d=true)(r:cT c M U H v d):Rep H (Av c M U) v d:=by
 rcases r with r|⟨a,rfl,r⟩;.exact r
 .cases d<;>first|exact r.elim|simp[hV]at h
theorem zE{ds}(h:gU m ds k=true):hV m k=true/\(∃kk,cF 6 k=some kk)/\(ds.all λq=>hV m q.1)=true:=by unfold gU at h;simp only[Wy]at h;exact⟨h.1.1,J1.mp h.1.2,h.2⟩
theorem X3{x ds}(rx:cT c M U H x (.dic ds))(ry:cT c M U H y k)(h:gU m ds k=true):∃a o,x=.ref a/\rQ H a y o/\((f_ ds k=none/\o=none)\/∃v d,f_ ds k=some d/\o=some v/\Rep H (Av c M U) v d):=by obtain⟨a,ep,ws,e,ha,dn⟩:=zD rx;obtain⟨h1,⟨kk,hk⟩,h2⟩:=zE h;exact⟨a,valN ws kk,e,⟨m,ep,ws,kk,ha,dn.zC h2,vJ h1 hk (X2 h1 ry),rfl⟩,(dn.get hk).1⟩
noncomputable def qbq(neg:Bool)(x y:D):Option S:=match y with|.dic ds=>if gU (hW x) ds x then some (.pure (.bl (if neg then !(f_ ds x).isSome else(f_ ds x).isSome)))else none|_=>none
def vK:R2:=λx y H Q=>∃a v,x=.ref a/\rQ H a y (some v)/\Q v H
noncomputable def ip(x y:D):Option S:=match x with|.dic ds=>if gU (hW y) ds y then(f_ ds y).map .pure else none|_=>none
theorem G0(hu:X.A.units+64<Q1):g9 X vK:=by intro value slice pins s M H x y v u Q I rx ry h hs;obtain⟨a,w,rfl,g,q⟩:=h;cases rx;exact tail_any (GQ I g).1 F.slot_dict_getitem.lookup (XQ (v:=w) Y' I g ry λw' s' I' cR=>⟨w,H,I',cR,q⟩) hs
theorem G1:cB vK ip:=by
 intro c M U H x y d e s Q k rx ry hp q;cases d<;>first|(simp[ip]at hp;done)|skip
 rename_i ds;simp only[ip]at hp;split at hp
 .rename_i hg;obtain⟨a,o,ea,g,r⟩:=X3 rx ry hg;rcases r with⟨r1,rfl⟩|⟨v,d,r1,rfl,r2⟩;.rw[r1]at hp;cases hp
  .rw[r1]at hp;cases hp;exact⟨a,v,ea,g,q v H (.refl k) r2⟩
 .cases hp
theorem Ok.X4{d'}(k:Ok c M U H)(e:U[i]?=some (some (.own d0)))(ea:M[i]?=some (some (.ref a)))(r:gv (upd H a o) (Av c M U) a d'):aY c M U H M (U.set i (some (.own d'))) (upd H a o):=by
 have hi:i<U.length:=(W9.mp e).1;obtain⟨a',ea',oa,ia,nb⟩:=k.own i _ e;rw[ea]at ea';cases ea';have rA:Own M U a:=⟨i,_,e,ea⟩;have rC:Av c M U a:=.inr rA;have my:∀b,Own M (U.set i (some (.own d'))) b↔Own M U b:=λb=>by
  constructor
  .rintro⟨j,d,e1,e2⟩;by_cases hj:i=j;.subst hj;exact⟨i,_,e,e2⟩
   .rw[Wa hj]at e1;exact⟨j,d,e1,e2⟩
  .rintro⟨j,d,e1,e2⟩;by_cases hj:i=j;.subst hj;exact⟨i,_,by rw[Wr hi],e2⟩
   .exact⟨j,d,%[Wa hj|e1],e2⟩
 have jN:∀b,Av c M (U.set i (some (.own d'))) b->Av c M U b:=λb z=>z.elim .inl λz=>.inr ((my b).mp z);have kp:∀b w,H b=some w->¬Av c M U b->upd H a o b=some w:=λb w h n=>%[aP λz=>n (by rw[z];exact rC)|h];have ig:∀b w,H b=some w->∃o',upd H a o b=some o':=λb w h=>by
  by_cases hb:b=a;.exact⟨_,%[hb|cD]⟩
  .exact⟨w,%[aP hb|h]⟩
 refine⟨⟨λb w h n=>?_,λb z=>?_,λb z=>?_,%[Qg|k.len],λj d h=>?_,λj d h=>?_,λj l b d d2 h1 h2 h3 h4=>?_,k.pinned⟩,λb w h n=>?_,λb z=>.inl ((my b).mp z),ig⟩
 .have hb:b≠a:=λz=>by grind
  rw[aP hb];exact k.keep b w h n
 .obtain⟨w,h⟩:=k.bd b z;exact ig b w h
 .obtain⟨w,h⟩:=k.eJ b z;exact ig b w h
 .have hj:i≠j:=λz=>by subst z;rw[Wr hi]at h;cases h
  rw[Wa hj]at h;obtain⟨v,h1,h2⟩:=k.slot j d h;exact⟨v,h1,(h2.keep kp).aV λb z=>.inl (jN b z)⟩
 .by_cases hj:i=j;.subst hj;rw[Wr hi]at h;cases h;exact⟨a,ea,r.aV λb z=>.inl (jN b z),ia,nb⟩
  .rw[Wa hj]at h;obtain⟨b,h1,h2,h3,h4⟩:=k.own j d h;have hb:b≠a:=λz=>by subst z;exact hj (k.inj i j b _ d e h ea h1)
   exact⟨b,h1,(h2.keep kp λw q=>%[aP hb|q]).aV λb z=>.inl (jN b z),h3,h4⟩
 .have f1:∃d,U[j]?=some (some (.own d)):=by grind
  have f2:∃d,U[l]?=some (some (.own d)):=by grind
  obtain⟨_,f1⟩:=f1;obtain⟨_,f2⟩:=f2;exact k.inj j l b _ _ f1 f2 h3 h4
 grind[aP]
theorem Ok.zF{ds}(k:Ok c M U H)(e:U[i]?=some (some (.own (.dic ds))))(ea:M[i]?=some (some (.ref a)))(r:DN H (Av c M U) ws dW):aY c M U H M (U.set i (some (.own (.dic dW)))) (upd H a (.dN ep ws)):=Ok.X4 k e ea ⟨ep,ws,cD,r.keep λb w h n=>%[aP λz=>n (by rw[z];exact .inr ⟨i,_,e,ea⟩)|h]⟩
def mJ(U:Dl)(i:Nat):Bool:=match U[i]? with|some (some (.own (.dic _)))=>true|_=>false
theorem G2(h:mJ U i=true):∃ds,U[i]?=some (some (.own (.dic ds))):=by
 unfold mJ at h;split at h;.rename_i ds e;exact⟨ds,e⟩
 .cases h
def jv(i:Nat)(fi fe:DE):DS:=λU=>(fe U).bind λr ZW=>if mJ ZW i then(fi ZW).bind λk XV=>match XV[i]? with|some (some (.own (.dic ds)))=>if gU (hW k.d) ds k.d&&decide (ds.length<Wb)then .ok .next (XV.set i (some (.own (.dic (ju ds k.d r.d)))))else .stuck|_=>.stuck else .stuck
def X5(td ty tv:TE):TS:=λD M H=>tv M H λv H1=>td M H1 λx H2=>ty M H2 λy H3=>∃a,x=.ref a/\zA H3 a y v λH4=>D.nx M H4
theorem X6{i}(hu:X.A.units+8<Q1)(ho:PE X o td)(hi:PE X i ty)(hv:PE X value tv)(hs:J9 value (some (.Subscript o i pos')) pos.line X.env=pure false):PS X (.Assign [.Subscript o i pos'] value pos) (X5 td ty tv):=by intro pins s M H D I h;refine wpAny_Assign_Subscript (aMc (hv pins s M H _ I h) λr s1 v H1 I1 rv q1=>aMc (ho pins s1 M H1 _ I1 q1) λu s2 x H2 I2 rx q2=>aM (hi pins s2 M H2 _ I2 q2) λiv s3 hh=>?_) hs;obtain⟨y,H3,I3,ry,a,ex,g⟩:=hh;subst ex;obtain rfl:u=Value.ref a:=rx;exact XS hu I3 g ry rv λH4 s4 I4 q4=>⟨M,H4,I4,q4⟩
theorem X7(hu:X.A.units+64<Q1)(ho:PE X o (dq i))(hi:SE X c ix fi)(he:SE X c e fe)(hs:J9 e (some (.Subscript o ix sp)) pos.line X.env=pure false:=by rfl):SS X c (.Assign [.Subscript o ix sp] e pos) (jv i fi fe):=PS.weak (X6 Y' ho hi he hs) λD M H⟨U,k,q⟩=>by
  unfold jv eB at q;rw[bp]at q;refine⟨U,k,aT q λr ZW q1 v H1 a1 r1=>?_⟩;split at q1;case isFalse=>exact q1.elim
  rename_i hown1;obtain⟨ds1,e1⟩:=G2 hown1;obtain⟨a,ea,_,_⟩:=a1.ok.own i _ e1;refine⟨.ref a,ea,ZW,a1.ok,?_⟩;rw[bp]at q1;refine aT q1 λkx XV q2 u H2 a2 r2=>?_;split at q2
  .rename_i ds e2;split at q2;.rename_i hz;simp only[Wy,decide_eq_true_eq]at hz;obtain⟨hg,hz⟩:=hz;obtain⟨a',ea',oa,_⟩:=a2.ok.own i _ e2;rw[ea]at ea';cases ea';obtain⟨ep,ws,ha,dn⟩:=id oa;obtain⟨h1,⟨kk,hk⟩,h2⟩:=zE hg;have ry:Rep H2 (Av c M XV) u kx.d:=r2.rep;have rv:Rep H2 (Av c M XV) v r.d:=Rep.dH r1.rep a2;refine⟨a,rfl,hW kx.d,ep,ws,kk,ha,dn.zC h2,vJ h1 hk ry,%[dn.len|hz],λgk=>?_⟩;exact q2 M _ (a1.trans (a2.trans (Ok.zF a2.ok e2 ea (dn.put hk ry rv))))
   .exact q2.elim
  .exact q2.elim
section
variable{s:W4}
theorem X8(hd:(d==Qt)=false)(hT:s.TypeIs (.ref d) "dict")(h:Q (.ref s.heap.objs.size) {s with heap:=s.heap.push {cls:=.type "dict_items",data:=.fields #[.ref d]}}):W7 (model prog w) A (call (.builtin "dict.items") [.ref d]) Q E s:=by refine WA F.slot_dict_items hT F.entry_dict_items ?_ (F.args_dict_items_1 _);unfold Builtin.«dict.items» Builtin.Dict.noArgs;refine W0 (W0 (QB hT (show W7 _ _ (pure d) _ _ s from W3 ?_)));show W7 _ _ (QZ d>>=_) _ _ s;unfold QZ;rw[if_neg %[hd|WD]];exact W0 (W3 (W0 (WO (W3 ⟨_,rfl,h⟩))))
theorem X9{es}(hv:s.heap.IsItemsView v d)(ho:s.heap.get? d=some o)(ij:o.data=.dict es ep)(hQ:Q (.ref s.heap.objs.size) {s with heap:=s.heap.push {cls:=.type "dict_itemiterator",data:=.fields #[.none,.bool false,.ref d,.int 0 0,.int es.size 0,.int ep 0,.none,.none]}}):W7 (model prog w) A (pyIter (.ref v)) Q E s:=by
 obtain⟨ov,hov,hcv,hdv⟩:=id hv;refine JT hv.typeIs F.slot_dict_items_iter (WA F.slot_dict_items_iter hv.typeIs F.entry_dict_items_iter ?_ (F.args_dict_items_iter_1 _));unfold Builtin.«dict_items.__iter__»;refine W0 (W3 (W0 ?_));unfold Builtin.Dict_items.dictOf;refine W0 (WM hov hdv (x:=.ref d) rfl (W3 (W0 ?_)));unfold Builtin.Dict_items.newIterator;refine W0 (Qm ho ij (W0 (QX ho ij ?_)));have fz:Qd "dict_itemiterator"=true:=by decide
 simp only[fz,if_true];refine WO (W3 ⟨_,rfl,"dict_itemiterator",_,⟨_,Wh _ rfl,rfl⟩,F.slot_dict_itemiterator_next.lookup,?_⟩) (by simp only[sizeOk,Builtin.Dict_items.ownedTupleFields,Ww,QS,WP,U5,QK];lia);simpa[Q6,Builtin.Dict_items.ownedTupleFields]using hQ
theorem X_{es e Q}(hit:IsItemIter s.heap it d i es.size ep ok ov)(gE:s.heap.get? d=some od)(eO:od.data=.dict es ep)(hx:es[i]?=some e)(hQ:∀h',IsItemIterOut h' it d (i+1) es.size ep e.key e.val s.heap.objs.size->h'.get? s.heap.objs.size=some {cls:=.type "tuple",data:=.seq #[e.key,e.val]}->h'.objs.size=s.heap.objs.size+1->(∀b o,b≠it->s.heap.get? b=some o->h'.get? b=some o)->Q (some (.ref s.heap.objs.size)) {s with heap:=h'}):W7 (model prog w) A (QF (.ref it)) Q E s:=by
 obtain⟨hp,g,dr,tk,os⟩:=s;have hT:Shared.TypeIs ⟨hp,g,dr,tk,os⟩ (.ref it) "dict_itemiterator":=⟨_,hit,rfl⟩;have qbr:i<es.size:=by grind
 unfold QF;refine W0 (Js (WE (name:=Str.ofString "__next__") hT Jb (WA Jb hT F.entry_dict_itemiterator_next ?_ (F.args_dict_itemiterator_next_1 _))));refine W0 (W3 (W0 (W0 ?_)));refine W0 (J4 hT (W3 ?_));refine W0 (JY hit rfl ?_);have fz:Qd "dict_itemiterator"=true:=by decide
 simp only[fz,if_true];show W7 _ _ (if(Value.ref d==Value.none)=true then _ else _) _ _ _;rw[if_neg (show¬(Value.ref d==Value.none)=true from WD)];refine W0 (W3 (W0 (Qm gE eO ?_)));rw[if_neg U'];refine W0 (W3 (W0 (QX gE eO ?_)));rw[if_neg U'];refine W3 ?_;simp only[show¬(i:Int)<0from Y',if_false,Qu,hx];refine W0 ?_;refine W0 (J4 hT (W3 ?_));refine W0 (wpAny_isOneOf_itemiter hT ?_);show W7 _ _ (setField (.ref it) 3 (Q6 ((i:Int)+1))>>=_) _ _ ⟨hp,g,dr,tk,os⟩;refine W0 (Q9 hit U' λh1 e1 s1=>?_);replace s1:Qx it hp h1:=s1;replace e1:IsItemIter h1 it d (i+1) es.size ep ok ov:=by
  have z:((i+1:Nat):Int)=(i:Int)+1:=by lia
  unfold IsItemIter;rw[z];simpa[Q6]using e1
 have zG:Shared.TypeIs ⟨h1,g,dr,tk,os⟩ (.ref it) "dict_itemiterator":=⟨_,e1,rfl⟩;refine W0 (WI (W0 (wpAny_isOneOf_itemiter zG (W0 (wpAny_isOneOf_itemiter zG ?_)))));show W7 _ _ (Builtin.Dict_items.pairFromOwner (.ref it) 6 e.key e.val) _ _ ⟨h1,g,dr,tk,os⟩;unfold Builtin.Dict_items.pairFromOwner;refine W0 (wpAny_newTuple ?_);have e2:IsItemIter (h1.push {cls:=.type "tuple",data:=.seq #[e.key,e.val]}) it d (i+1) es.size ep ok ov:=W6 _ e1;generalize hh2:h1.push {cls:=.type "tuple",data:=.seq #[e.key,e.val]}=h2 at e2;have z1:h1.objs.size=hp.objs.size:=s1.1;have mB:it<hp.objs.size:=Wp hit;have t2:h2.get? hp.objs.size=some {cls:=.type "tuple",data:=.seq #[e.key,e.val]}:=by rw[<-hh2,<-z1];exact Wh _ rfl
 have z2:h2.objs.size=hp.objs.size+1:=by rw[<-hh2,Qw,z1]
 have k2:∀b o,b≠it->hp.get? b=some o->h2.get? b=some o:=λb o hb q=>by rw[<-hh2];exact W6 _ (s1.extBut b o hb q)
 show W7 _ _ (Builtin.Dict_items.ownedTupleIsFree (.ref it)>>=_) _ _ ⟨h2,g,dr,tk,os⟩;rw[z1];clear hh2 e1 s1 zG z1 h1;refine W0 ?_;unfold Builtin.Dict_items.ownedTupleIsFree;refine W0 (WM e2 rfl (x:=.none) rfl (W3 ?_));simp only[if_true];refine W0 (WM e2 rfl (x:=ok) rfl (W0 (WM e2 rfl (x:=ov) rfl ?_)));refine W0 (Q9 e2 U' λh3 e3 s3=>?_);replace s3:Qx it h2 h3:=s3;replace e3:IsItemIter h3 it d (i+1) es.size ep e.key ov:=e3;refine W0 (Q9 e3 U' λh4 e4 s4=>?_);replace s4:Qx it h3 h4:=s4;replace e4:IsItemIter h4 it d (i+1) es.size ep e.key e.val:=e4;refine W0 (Q9 e4 U' λh5 e5 s5=>?_);replace s5:Qx it h4 h5:=s5;replace e5:IsItemIterOut h5 it d (i+1) es.size ep e.key e.val hp.objs.size:=e5;refine W0 (Q9 e5 U' λh6 e6 s6=>?_);replace s6:Qx it h5 h6:=s6;replace e6:IsItemIterOut h6 it d (i+1) es.size ep e.key e.val hp.objs.size:=e6;have up:∀b o,b≠it->h2.get? b=some o->h6.get? b=some o:=λb o hb q=>s6.extBut b o hb (s5.extBut b o hb (s4.extBut b o hb (s3.extBut b o hb q)));refine W0 (wpAny_letGo (W3 (W3 ⟨_,rfl,W3 (hQ h6 e6 (up _ _ (Jj mB) t2) ?_ λb o hb q=>up b o hb (k2 b o hb q))⟩)));show h6.objs.size=hp.objs.size+1;rw[s6.1,s5.1,s4.1,s3.1,z2]
theorem zH{Q:Option Value->W4->Prop}{R:PySem.Fin->W4->Prop}{o:Obj}{fs:Array Value}{v}(hh:A.handled=none)(ho:s.heap.get? it=some o)(hd:o.data=.fields fs)(hj:j<fs.size)(h:∀h',Heap.ExtBut it s.heap h'->Q none {s with heap:=h'}):W7 (model prog w) A.in1 (do
 setField (.ref it) j v
 raiseNew (<-newExc (.type "StopIteration") [])) R (λe s'=>W7 (model prog w) A (do if<-isInstance e (.type "StopIteration")then pure none else throw e) Q E s') s:=by refine W0 (Uj ho hd hj ?_);refine W0 ?_;simp only[newExc,newTuple];refine W0 (WO ?_ (by size_fits));refine W0 (m:=firstArgMember _ _) (wpAny_of_eq (a:=Value.none) (by first|rfl|(simp only[firstArgMember];rfl)) ?_);refine WO ?_ (by size_fits);simp only[raiseNew];refine W0 (wpAny_handled ?_);rw[show A.in1.handled=none from hh];refine W0 (W3 (wpAny_throw ?_));refine W0 (U0 (T:="StopIteration") (b:=true) ⟨_,Wh _ rfl,rfl⟩ isSubtype_stop ?_);exact W3 (h _ (((QN ..).extBut.push _).push _))
theorem Ya{d}{es:Array DictEntry}{ok ov}{Q:Option Value->W4->Prop}(hh:A.handled=none)(hit:IsItemIter s.heap it d i es.size ep ok ov)(gE:s.heap.get? d=some od)(eO:od.data=.dict es ep)(hx:es.size<=i)(hQ:∀h',Heap.ExtBut it s.heap h'->Q none {s with heap:=h'}):W7 (model prog w) A (QF (.ref it)) Q E s:=by
 have hT:s.TypeIs (.ref it) "dict_itemiterator":=⟨_,hit,rfl⟩;unfold QF;refine W0 (Js (WE (name:=Str.ofString "__next__") hT Jb (WA Jb hT F.entry_dict_itemiterator_next ?_ (F.args_dict_itemiterator_next_1 _))));refine W0 (W3 (W0 (W0 ?_)));refine W0 (J4 hT (W3 ?_));refine W0 (JY hit rfl ?_);have fz:Qd "dict_itemiterator"=true:=by decide
 simp only[fz,if_true];show W7 _ _ (if(Value.ref d==Value.none)=true then _ else _) _ _ s;rw[if_neg (show¬(Value.ref d==Value.none)=true from WD)];refine W0 (W3 (W0 (Qm gE eO ?_)));rw[if_neg U'];refine W0 (W3 (W0 (QX gE eO ?_)));rw[if_neg U'];refine W3 ?_;simp only[show¬(i:Int)<0from Y',if_false,Qu,Array.getElem?_eq_none hx];refine W0 ?_;refine W0 (J4 hT (W3 ?_));exact zH (j:=2) hh hit rfl U' hQ
end
def G3(a:Addr)(ep:Nat)(ae:List NE):It:=⟨λi H=>H a=some (.dN ep ae)/\i<ae.length,λi H v H'=>∃p k y x,H p=none/\ae[i]?=some (k,y,x)/\H'=upd H p (.tup [y,x])/\v=.ref p,λi H=>H a=some (.dN ep ae)/\i=ae.length⟩
theorem dB.get(r:dB ae xs):∀{i:Nat}{p:NE},ae[i]?=some p->∃x,xs[i]?=some x/\RelV p.2.1 x.2.1/\RelV p.2.2 x.2.2:=by unfold dB at r;induction r with|nil=>intro i p e;simp at e|cons h t ih=>intro i p e;cases i with|zero=>simp at e;subst e;exact⟨_,rfl,h.2⟩|succ i=>obtain⟨x,e1,e2⟩:=ih (i:=i) (~~~e);exact⟨x,~~~e1,e2⟩
theorem Yb{ctx}(a it)(ae:List NE)(ep):Turn P w K (.Tuple elts ctx pos) (G3 a ep ae) [it] it λi h=>∃ok ov,IsItemIter h it a i ae.length ep ok ov:=by
 have at_:∀{X:Cx}{pins s M H},X.prog=P->X.w=w->Inv X pins M H s->H a=some (.dN ep ae)->∃xs o es,dB ae xs/\kC w s.heap a ep xs o es/\es.size=ae.length:=by intro X pins s M H hP hw I e;subst hP hw;obtain⟨_,_,xs,o,es,r,d⟩:=jt I.aB e;exact⟨xs,o,es,r,d,by rw[<-Q4,d.ents,Ws];exact(Paired.length r).symm⟩
 refine⟨U',?_,?_,?_,?_,?_⟩;.grind
 .rintro i h h'⟨ok,ov,q⟩k;exact⟨ok,ov,k it U' _ q⟩
 .intro X hP hw hK hc i pins s M H E I hf⟨ok,ov,st⟩⟨hg,hi⟩;obtain⟨xs,o,es,r,d,hz⟩:=at_ hP hw I hg;subst hP hw hK;have hx:ae[i]?=some (ae[i].1,ae[i].2.1,ae[i].2.2):=#v[hi];obtain⟨x,hu,ry,rv⟩:=r.get hx;have zI:es[i]?=some (ent X.w x):=by rw[<-QQ,d.ents,Wo,hu];rfl
  have mB:it<s.heap.objs.size:=Wp st;rw[<-hz]at st;refine X_ st d.get d.data zI λh' hit hT hsz kp=>⟨_,rfl,wpAny_letOwnedTupleGo_items hit λh2 Yc sb=>?_⟩;have nz:s.heap.objs.size≠it:=Jj mB;have bc:∀b∈[it],b<s.heap.objs.size:=λb hb=>by have e:b=it:= ~~~hb;subst e;exact mB
  have I2:Inv X pins M (upd H s.heap.objs.size (.tup [ae[i].2.1,ae[i].2.2])) {s with heap:=h2,toks:=s.toks}:=Inv.FP (t':=s.toks) [it] I hf bc ry rv ((sb.2 _ nz).trans hT) λb o hb e=>by have g:b≠it:=λz=>hb #v[z];exact(sb.2 b g).trans (kp b o g e)
  refine⟨.ref s.heap.objs.size,_,I2,rfl,⟨s.heap.objs.size,_,_,_,I.aB.fresh (Wg _),hx,rfl,rfl⟩,⟨_,_,by rw[<-hz];exact Yc⟩,λb hb=>?_⟩;have e:b=it:= ~~~hb;subst e;rw[aP (Ne.symm nz)];exact(hf _ hb).1
 .intro X hP hw hK hc i pins s M H E I hf⟨ok,ov,st⟩⟨hg,hi⟩;obtain⟨xs,o,es,r,d,hz⟩:=at_ hP hw I hg;subst hP hw hK;rw[<-hz]at st;refine Ya (I.ok.hd hc) st d.get d.data Y' λh' eb=>⟨rfl,Inv.nX (t':=s.toks) [it] I (λb o hb e=>eb b o (by grind) e) hf⟩
 .intro A i s Q E⟨ok,ov,st⟩h;exact Xe st h
section
variable{o:Expr}
def Yd(td:TE):TI:=λM H R=>td M H λv H1=>∃a ep ae,v=.ref a/\H1 a=some (.dN ep ae)/\R (G3 a ep ae) H1
theorem Ye(ho:PE X o td)(hb:Ja o "items" X.env (eval o X.env)=eval o X.env:=by rfl)(hl:(apos.endLine==bF.line)=true:=by rfl):PI X (.Tuple elts ctx tp) (.Call (.Attribute o "items" apos) [] [] bF) (Yd td):=by
 intro pins s M H R I h;refine wpAny_Call_method (T:="dict") (id:="dict.items") hb rfl hl F.plainAttrs_dict F.slot_dict_items F.type_dict_items (aM (ho pins s M H _ I h) λu s1 hh=>?_);obtain⟨x,H1,I1,rx,a,ep,ae,ex,ea,q⟩:=hh;subst ex;obtain rfl:u=Value.ref a:=rx;obtain⟨z,hS,xs,ob,es,r,d⟩:=jt I1.aB ea;have hz:es.size=ae.length:=by rw[<-Q4,d.ents,Ws];exact(Paired.length r).symm
 refine⟨d.typeIs,d.noDict,?_⟩;refine Calls.callWith_builtin rfl (PySem.evalArgs_none (X8 hS d.typeIs ?_));have zJ:∀b u,s1.heap.get? b=some u->(s1.heap.push {cls:=.type "dict_items",data:=.fields #[.ref a]}).get? b=some u:=λb u e=>W6 _ e;refine X9 (d:=a) ⟨_,Wh _ rfl,rfl,rfl⟩ (zJ _ _ d.get) d.data ?_;generalize hh1:s1.heap.push {cls:=.type "dict_items",data:=.fields #[.ref a]}=h1;have up1:∀b u,s1.heap.get? b=some u->h1.get? b=some u:=λb u e=>by rw[<-hh1];exact W6 _ e
 have rR:s1.heap.objs.size<=h1.objs.size:=by rw[<-hh1,Qw];exact U3 _
 generalize hh2:h1.push {cls:=.type "dict_itemiterator",data:=.fields #[.none,.bool false,.ref a,.int 0 0,.int es.size 0,.int ep 0,.none,.none]}=h2;have mK:∀b u,s1.heap.get? b=some u->h2.get? b=some u:=λb u e=>by rw[<-hh2];exact W6 _ (up1 b u e)
 have hit:IsItemIter h2 h1.objs.size a 0 ae.length ep .none .none:=by rw[<-hz,<-hh2];exact Wh _ rfl
 have I2:Inv X pins M H1 {s1 with heap:=h2,toks:=s1.toks}:=I1.kept (t':=s1.toks) mK;refine⟨h1.objs.size,[h1.objs.size],_,_,_,rfl,I2,Yb a h1.objs.size ae ep,⟨_,_,hit⟩,λb hb=>?_,q⟩;have e:b=h1.objs.size:= ~~~hb;subst e;exact I1.iY rR (I1.aB.fresh rR)
end
theorem Yf(h:Heap)(hb:Qt<h.objs.size):bX P w H (h.push {cls:=.type "dict",data:=.dict #[]}) h.objs.size (.dN 0 []):=⟨QE _,beq_eq_false_iff_ne.mpr (Ne.symm (WR hb)),_,#[],Wh _ rfl,⟨rfl,rfl,rfl⟩,rfl,.nil,List.nodup_nil⟩
def Yg:TE:=λ_ H Q=>∀p,H p=none->Q (.ref p) (upd H p (.dN 0 []))
theorem Yh:PE X (.Dict [] [] pos) Yg:=by intro pins s M H Q I h;exact wpAny_Dict_empty ⟨.ref s.heap.objs.size,_,I.laid (a:=s.heap.objs.size) (o:=.dN 0 []) (t':=s.toks) (λ_ _ q=>W6 _ q) (Wg _) (Yf s.heap I.big),rfl,h _ (I.aB.fresh (Wg _))⟩
theorem bu.Yi{ds}(k:Ok c M U H)(hp:H p=none)(r:DN H (Av c M U) ws ds):bu c M U H (upd H p (.dN ep ws)) (.ref p) (.own (.dic ds)):=by
 refine⟨p,rfl,⟨ep,ws,cD,?_⟩,λz=>k.jc hp (.inl z),k.nC hp,k.plus hp _,hp⟩;exact(r.aV λb z=>by
 rcases z with(z|z)|z;.exact .inl (.inl z)
 .exact .inr %[z|hp]
 .exact .inl (.inr z)).keep λb w e _=>%[aP (fF e hp)|e]
def jW:DE:=λU=>.ok (.own (.dic [])) U
theorem Yj:SE X c (.Dict [] [] pos) jW:=PE.weak Yh λM H Q⟨U,k,q⟩=>λp hp=>q _ _ (.alloc k hp _) (bu.Yi k hp .nil)
section
variable{k v o f:Expr}{tk:TE}
def G4(H:Hp)(a:Addr):Prop:=∃ep ae,H a=some (.dN ep ae)
theorem Yk(I:Inv X pins M H s)(d:G4 H a):s.TypeIs (.ref a) "dict"/\∀b,Value.ref a=.ref b->∃ob,s.heap.get? b=some ob/\ob.dict=none:=by obtain⟨ep,ae,e⟩:=d;obtain⟨_,_,xs,ob,es,_,d⟩:=jt I.aB e;exact⟨d.typeIs,d.noDict⟩
end
section
variable{s:W4}{a:Addr}{ae:List NE}
theorem Yl(I:Inv X pins M H s)(e:H a=some (.dN ep ae))(h:∀t s',Inv X pins M H s'->Q (.int ae.length t) s'):W7 (model X.prog X.w) A (call (.builtin "len") [.ref a]) Q E s:=by
 obtain⟨z,hS,xs,o,es,r,d⟩:=jt I.aB e;have hz:es.size=ae.length:=by rw[<-Q4,d.ents,Ws];exact(Paired.length r).symm
 refine Calls.call_function_entry kind_len plain_len entry_len (args_len1 _) ?_;unfold Builtin.«len»;refine W0 (m:=oneArg "len" _) (W3 ?_);refine W0 (m:=callSpecial? (.ref a) (Str.ofString "__len__")) (WE (name:=Str.ofString "__len__") d.typeIs F.slot_dict_len (WA F.slot_dict_len d.typeIs F.entry_dict_len ?_ (F.args_dict_len_1 _)));show W7 _ _ (dictSize a>>=_) _ _ s;unfold dictSize;refine W0 (W0 (Qm d.get d.data (W3 ?_)));show W7 _ _ (Builtin.Dict.pendingCount a>>=_) _ _ s;refine W0 (wpAny_pendingCount_other hS ?_);refine wpAny_ret_mkInt ?_;show W7 _ _ _ _ _ {s with toks:=s.toks+1};rw[hz];refine W0 (WI (W3 ?_));refine W0 (wpAny_letGo ?_);rw[QK]at z;show W7 _ _ (if((ae.length:Nat):Int)<0 then _ else _) _ _ _;rw[if_neg Y'];show W7 _ _ (if((ae.length:Nat):Int)≥2^63 then _ else _) _ _ _;rw[if_neg Y'];exact W0 (wpAny_mkInt (W3 ⟨_,rfl,h _ _ (I.tok _)⟩))
theorem Ym:eF X (.builtin "len") λxs H Q=>∃a ep ae,xs=[V.ref a]/\H a=some (.dN ep ae)/\Q (.int ae.length) H:=by intro pins s M H xs us Q I r h;obtain⟨a,ep,ae,rfl,ha,q⟩:=h;obtain⟨u,rfl,ru⟩:=gI r;cases ru;exact Yl I ha λt s' I'=>⟨.int ae.length,H,I',⟨t,rfl⟩,q⟩
end
section
variable{s:W4}{a:Addr}{y v:V}{r:Value}
def G5(H:Hp)(a:Addr)(y v:V)(R:V->Hp->Prop):Prop:=∃m ep ae k,H a=some (.dN ep ae)/\(∀p∈ae,jU H m p.1 p.2.1)/\jU H m k y/\ae.length<Wb/\(∀x,valN ae k=some x->R x H)/\(valN ae k=none->∀gk,R v (upd H a (.dN gk (putN ae k y v))))
theorem Yn{R}(hu:A.units+8<Q1)(I:Inv X pins M H s)(g:G5 H a y v R)(ry:RelV y u)(rv:RelV v r)(h:∀x H' w' s',R x H'->Inv X pins M H' s'->RelV x w'->Q w' s'):W7 (model X.prog X.w) A (call (.builtin "dict.setdefault") [.ref a,u,r]) Q E s:=by
 obtain⟨m,ep,ae,k,e,hk,ky,hz,h1,h2⟩:=g;obtain⟨z,hS,xs,o,es,rx,d⟩:=jt I.aB e;have hl:xs.length<=Wb:=by rw[<-Paired.length rx];exact z
 have hsz:es.size=xs.length:=by rw[<-Q4,d.ents,Ws]
 have rk:=(rx.val k).1;have ui:=ky.key I.aB ry;refine WA PySem.F.slot_dict_setdefault d.typeIs PySem.F.entry_dict_setdefault ?_ (PySem.F.args_dict_setdefault_3 _ _ _);unfold Builtin.«dict.setdefault»;refine W0 ?_;unfold Builtin.Dict.keyAndDefault;refine W0 (QB d.typeIs ?_);show W7 _ _ (pure (a,u,some r)) _ _ s;refine W3 ?_;show W7 _ _ (if(a==Qt)=true then _ else dictSetDefault a u r>>=_) _ _ s;rw[if_neg %[hS|WD]];refine W0 ?_;unfold dictSetDefault;try with_reducible refine WI ?_
 refine W0 (zu (show A.units+1+6<Q1 by lia) ui ?_);refine W0 (zv (s:={s with toks:=s.toks+gQ k}) (show A.units+1+6<Q1 by lia) ui d.get d.data d.ents (zy I.aB rx hk) d.jV ?_ ?_)
 .intro f6;have l:valN ae k=none:=by rw[(vG f6).1]at rk;cases l:valN ae k with|none=>rfl|some x=>rw[l]at rk;exact rk.elim
  refine W0 (QU (W0 (wpAny_updateDictKeys (hz:=by lia) (s:={s with toks:=s.toks+gQ k}) d.get d.data (W3 (W3 ⟨_,rfl,?_⟩)))));have q1:=QP (Obj.mapDictKeys λes=>es.push ⟨fV X.w k,u,r⟩) d.get (Obj.isFreed_of_dict (Obj.data_mapDictKeys d.data _));have iW:(putN ae k y v).length<=Wb:=by have:=GU ae k y v;lia
  refine h v _ _ _ (h2 l (ep+1)) ?_ rv;refine nj (I.tok _) %[e|True.intro] (QN ..) ⟨_,q1⟩ (GK iW hS (rx.put ry rv) ⟨q1,d.ex.mapDictKeys _,Obj.data_mapDictKeys d.data _,?_,Gx d.jV⟩);unfold stN;rw[if_neg (by rw[(vG f6).2];simp)];simp[d.ents,ent]
 .intro j p hj;rw[(vH d.jV hj).1]at rk;cases l:valN ae k with|none=>rw[l]at rk;exact rk.elim|some x=>rw[l]at rk;refine W0 (Qm (s:={s with toks:=s.toks+gQ k}) d.get d.data ?_);rw[<-QQ,d.ents,Wo,hj];exact W0 (QU (W3 (W3 ⟨_,rfl,h x H _ _ (h1 x l) (I.tok _) rk⟩)))
end
section
variable{o f:Expr}
def zK(td ty tx:TE):TE:=λM H Q=>td M H λx H1=>∃a,x=.ref a/\G4 H1 a/\ty M H1 λy H2=>tx M H2 λz H3=>G5 H3 a y z Q
theorem G6(hu:X.A.units+8<Q1)(ho:PE X o td)(he:PE X e ty)(hf:PE X f tx)(m:M2 X o "setdefault" apos e f bF):PE X (.Call (.Attribute o "setdefault" apos) [e,f] [] bF) (zK td ty tx):=by intro pins s M H Q I h;refine wpAny_Call_method m.base m.Pc m.line PySem.F.plainAttrs_dict PySem.F.slot_dict_setdefault PySem.F.type_dict_setdefault (aM (ho pins s M H _ I h) λu s1 hh=>?_);obtain⟨x,H1,I1,rx,a,ex,d,q1⟩:=hh;subst ex;obtain rfl:u=Value.ref a:=rx;obtain⟨t1,t2⟩:=Yk I1 d;refine⟨t1,t2,?_⟩;rw[m.trees];refine Calls.callWith_builtin rfl (Calls.evalArgs_plain (Calls.spliced_cons (aMc (he pins s1 M H1 _ I1 q1) λiv s2 y H2 I2 ry q2=>Calls.spliced_cons (aMc (hf pins s2 M H2 _ I2 q2) λfv s3 z H3 I3 rz g=>Calls.spliced_nil ?_))));exact Yn hu I3 g ry rz λx H4 w' s4 q4 I4 r4=>⟨x,H4,I4,r4,q4⟩
end
section
variable{o f:Expr}{ff:DE}
noncomputable def iq:D->Option S|.dic ds=>some (.pure (.int ds.length))|_=>none
theorem Yo:ki (λv H Q=>∃a ep ae,v=V.ref a/\H a=some (.dN ep ae)/\Q (.int ae.length) H) iq:=by
 intro c M U H x d s Q k rx hp q;cases d<;>first|(simp[iq]at hp;done)|skip
 rename_i ds;cases hp;obtain⟨a,ep,ws,e,ha,dn⟩:=zD rx;exact⟨a,ep,ws,e,ha,%[dn.len|q _ H (.refl k) (.int _)]⟩
theorem Yp(hg:Gl X "len")(hm:X.mg "len"=none)(he:SB X c e fb)(hs:We [e] X.env=(false,eval e X.env)::We [] X.env:=by rfl):SE X c (.Call (.Name "len" pp) [e] [] pos) (az iq fb):=oX Ym (λv H Q h=>by obtain⟨a,ep,ae,e,h⟩:=h;exact⟨a,ep,ae,by rw[e],h⟩) Yo hg hm PySem.boot_len he Z' Z' hs
def n_(i:Nat)(fe ff:DE):DE:=λU=>if mJ U i then(fe U).bind λk ZW=>(ff ZW).bind λz XV=>match XV[i]?,z with|some (some (.own (.dic ds))),.pure zd=>if gU (hW k.d) ds k.d&&decide (ds.length<Wb)then match f_ ds k.d with|some d=>.ok (.pure d) XV|none=>.ok (.pure zd) (XV.set i (some (.own (.dic (ju ds k.d zd)))))else .stuck|_,_=>.stuck else .stuck
theorem Yq(hu:X.A.units+64<Q1)(ho:PE X o (dq i))(he:SE X c e fe)(hx:SE X c f ff)(m:M2 X o "setdefault" apos e f bF):SE X c (.Call (.Attribute o "setdefault" apos) [e,f] [] bF) (n_ i fe ff):=PE.weak (G6 Y' ho he hx m) λM H Q⟨U,k,q⟩=>by
  unfold n_ at q;split at q;case isFalse=>exact q.elim
  rename_i hd;obtain⟨ds0,e0⟩:=G2 hd;obtain⟨a,ea,oa0,_⟩:=k.own i _ e0;obtain⟨ep0,ws0,ha0,_⟩:=id oa0;rw[bp]at q;refine⟨.ref a,ea,a,rfl,⟨_,_,ha0⟩,U,k,aT q λkx ZW q1 y H1 a1 r1=>⟨ZW,a1.ok,?_⟩⟩;rw[bp]at q1;refine aT q1 λzx XV q2 z H2 a2 r2=>?_;split at q2
  .rename_i ds zd e2;split at q2
   .rename_i hz;simp only[Wy,decide_eq_true_eq]at hz;obtain⟨hg,hz⟩:=hz;obtain⟨a',ea',oa,_⟩:=a2.ok.own i _ e2;rw[ea]at ea';cases ea';obtain⟨ep,ws,ha,dn⟩:=id oa;obtain⟨h1,⟨kk,hk⟩,h2⟩:=zE hg;have ry:Rep H2 (Av c M XV) y kx.d:=Rep.dH r1.rep a2;have rz:Rep H2 (Av c M XV) z zd:=r2.rep;refine⟨hW kx.d,ep,ws,kk,ha,dn.zC h2,vJ h1 hk ry,%[dn.len|hz],λx hx=>?_,λhx gk=>?_⟩
    .rcases(dn.get hk).1 with⟨_,z2⟩|⟨v,d,z1,z2,z3⟩;.rw[z2]at hx;cases hx
     .rw[z2]at hx;cases hx;rw[z1]at q2;exact q2 _ H2 (a1.trans a2) z3
    .rcases(dn.get hk).1 with⟨z1,_⟩|⟨v,d,_,z2,_⟩;.rw[z1]at q2;have a3:=Ok.zF (ep:=gk) a2.ok e2 ea (dn.put hk ry rz);exact q2 _ _ (a1.trans (a2.trans a3)) (Rep.dH rz a3)
     .rw[z2]at hx;cases hx
   .exact q2.elim
  .exact q2.elim
end
section
variable{s:W4}
theorem Yr{es}(hd:(d==Qt)=false)(hT:s.TypeIs (.ref d) "dict")(ho:s.heap.get? d=some o)(ij:o.data=.dict es ep)(hQ:Q (.ref s.heap.objs.size) {s with heap:=s.heap.push {cls:=.type "dict_keyiterator",data:=.fields #[.ref d,.int 0 0,.int es.size 0,.int ep 0]}}):W7 (model prog w) A (pyIter (.ref d)) Q E s:=by refine JT hT F.slot_dict_iter (WA F.slot_dict_iter hT F.entry_dict_iter ?_ (F.args_dict_iter_1 _));unfold Builtin.«dict.__iter__»;refine W0 ?_;unfold Builtin.Dict.dictSlotNone;refine W0 (QB hT ?_);show W7 _ _ (pure (Value.ref d)) _ _ s;refine W3 ?_;show W7 _ _ (QZ d>>=_) _ _ s;unfold QZ;rw[if_neg %[hd|WD]];refine W0 (W3 (W0 (Qm ho ij (W0 (QX ho ij ?_)))));refine W0 (WO (W3 ⟨_,rfl,"dict_keyiterator",_,⟨_,Wh _ rfl,rfl⟩,F.slot_dict_keyiterator_next.lookup,?_⟩));simpa[Q6]using hQ
theorem nextK{es e Q}(hit:s.heap.IsKeyIter it d i es.size ep)(gE:s.heap.get? d=some od)(eO:od.data=.dict es ep)(hx:es[i]?=some e)(hQ:∀h',h'.IsKeyIter it d (i+1) es.size ep->Qx it s.heap h'->Q (some e.key) {s with heap:=h'}):W7 (model prog w) A (QF (.ref it)) Q E s:=by
 obtain⟨o,ho,hc,hd⟩:=id hit;unfold QF;refine W0 (Js (WE (name:=Str.ofString "__next__") hit.typeIs Jh (WA Jh hit.typeIs F.entry_dict_keyiterator_next ?_ (F.args_dict_keyiterator_next_1 _))));refine W0 (W3 (W0 (W0 ?_)));refine W0 (Jc hit.typeIs (W3 ?_));refine W0 (JY ho hd ?_);have fz:Qd "dict_keyiterator"=false:=by decide
 simp only[fz,Qf,if_false];show W7 _ _ (if(Value.ref d==Value.none)=true then _ else _) _ _ s;rw[if_neg (show¬(Value.ref d==Value.none)=true from WD)];refine W0 (W3 (W0 (Qm gE eO ?_)));rw[if_neg U'];refine W0 (W3 (W0 (QX gE eO ?_)));rw[if_neg U'];refine W3 ?_;simp only[show¬(i:Int)<0from Y',if_false,Qu,hx];refine W0 ?_;refine W0 (Jc hit.typeIs (W3 ?_));refine W0 (wpAny_isOneOf_keyiter hit.typeIs ?_);show W7 _ _ (setField (.ref it) 1 (Q6 ((i:Int)+1))>>=_) _ _ s;refine W0 (Uj ho hd U' ?_);have ko:(s.heap.update it (Obj.mapFields (·.setIfInBounds 1 (Q6 ((i:Int)+1))))).IsKeyIter it d (i+1) es.size ep:=⟨_,QP _ ho (Obj.isFreed_of_fields (Obj.data_mapFields hd _)),(Obj.cls_mapFields ..).trans hc,by rw[Obj.data_mapFields hd];simp[Q6]⟩;refine W0 (WI ?_);refine W0 (wpAny_isOneOf_keyiter (s:={s with heap:=s.heap.update it (Obj.mapFields (·.setIfInBounds 1 (Q6 ((i:Int)+1))))}) ko.typeIs ?_);show W7 _ _ (pure e.key) _ _ _;exact W3 (W3 ⟨_,rfl,W3 (hQ _ ko (QN ..))⟩)
theorem Ys{es Q}(hh:A.handled=none)(hit:s.heap.IsKeyIter it d i es.size ep)(gE:s.heap.get? d=some od)(eO:od.data=.dict es ep)(hx:es.size<=i)(hQ:∀h',Heap.ExtBut it s.heap h'->Q none {s with heap:=h'}):W7 (model prog w) A (QF (.ref it)) Q E s:=by
 obtain⟨o,ho,hc,hd⟩:=id hit;unfold QF;refine W0 (Js (WE (name:=Str.ofString "__next__") hit.typeIs Jh (WA Jh hit.typeIs F.entry_dict_keyiterator_next ?_ (F.args_dict_keyiterator_next_1 _))));refine W0 (W3 (W0 (W0 ?_)));refine W0 (Jc hit.typeIs (W3 ?_));refine W0 (JY ho hd ?_);have fz:Qd "dict_keyiterator"=false:=by decide
 simp only[fz,Qf,if_false];show W7 _ _ (if(Value.ref d==Value.none)=true then _ else _) _ _ s;rw[if_neg (show¬(Value.ref d==Value.none)=true from WD)];refine W0 (W3 (W0 (Qm gE eO ?_)));rw[if_neg U'];refine W0 (W3 (W0 (QX gE eO ?_)));rw[if_neg U'];refine W3 ?_;simp only[show¬(i:Int)<0from Y',if_false,Qu,Array.getElem?_eq_none hx];refine W0 ?_;refine W0 (Jc hit.typeIs (W3 ?_));exact zH (j:=0) hh ho hd U' hQ
end
theorem Yt{es}(lo:(d==Qt)=false):PySem.W.KdlSrc prog w "dict" d d es.size (λi v=>∃e,es[i]?=some e/\e.key=v) λh=>∃o,kC w h d ep xs o es where
 type:=λ_⟨_,hm⟩=>hm.typeIs
 there:=λ_⟨_,hm⟩=>⟨Wp hm.get,Wp hm.get⟩
 keep:=λ_ _⟨o,hm⟩hk=>⟨o,hk d (.inl rfl) o hm.get,hm.ex,hm.data,hm.ents,hm.jV⟩
 notList:=by decide
 notTuple:=by decide
 hint:=λ_ _ _ _⟨_,hm⟩hq=>PySem.W.kdl_hint_dict hm.typeIs hq
 iter:=λA s hh⟨o,hm⟩=>⟨_,λi h=>h.IsKeyIter s.heap.objs.size d i es.size ep/\∃o,kC w h d ep xs o es,λ_ _ hq=>Yr lo hm.typeIs hm.get hm.data hq,{
 sub:=λb hb=>by simp at hb;simp[hb]
 frame:=λ_ _ _ st hk=>⟨st.1.at λo e=>hk _ U' o e,let⟨o,m⟩:=st.2;⟨o,hk d U' o m.get,m.ex,m.data,m.ents,m.jV⟩⟩
 item:=λi s1 Q E hi st hQ=>by obtain⟨st1,o1,m1⟩:=st;have hx:es[i]?=some es[i]:=#v[hi];have cu:d≠s.heap.objs.size:=WR (Wp hm.get);exact nextK st1 m1.get m1.data hx λh' ko g_=>hQ _ h' s1.toks ⟨_,hx,rfl⟩ ⟨ko,o1,g_.extBut d o1 cu m1.get,m1.ex,m1.data,m1.ents,m1.jV⟩ λb o hb e=>g_.extBut b o (λh=>hb #v[h]) e
 done:=λs1 Q E st hQ=>by obtain⟨st1,o1,m1⟩:=st;exact Ys hh st1 m1.get m1.data (Wg _) λh' uE=>hQ h' s1.toks λb o hb e=>uE b o (λh=>hb #v[h]) e
 self:=λ_ _ _ _ st hQ=>wpAny_pyIter_keyiter st.1 hQ},⟨⟨_,Wh _ rfl,rfl,rfl⟩,o,W6 _ hm.get,hm.ex,hm.data,hm.ents,hm.jV⟩⟩
theorem G7{w:Wv}{ae:List NE}{xs:List (NK×Value×Value)}{us:List Value}(h:dB ae xs)(hl:us.length=xs.length)(hk:∀(j:Nat)v,us[j]?=some v->∃x,xs[j]?=some x/\x.2.1=v):Vals (ae.map (·.2.1)) us:=by induction h generalizing us with|nil=>(cases us with|nil=>exact .nil|cons=>simp at hl)|@cons p q r vs h1 h2 ih=>cases us with|nil=>simp at hl|cons u us=>refine .cons ?_ (ih (~~~hl) λj v e=>by simpa using hk (j+1) v (~~~e));obtain⟨x,e,z⟩:=hk 0 u rfl;simp at e;subst e;rw[<-z];exact h1.2.1
theorem Yu(hc:X.calm=true):eF X (.type "list") (λxs H Q=>∃a ep ae,xs=[V.ref a]/\H a=some (.dN ep ae)/\∀l,H l=none->Q (.ref l) (upd H l (.lst (ae.map (·.2.1))))):=by
 intro pins s M H xs us Q I r h;obtain⟨a,ep,ae,rfl,ha,q⟩:=h;obtain⟨u,rfl,ru⟩:=gI r;cases ru;obtain⟨z,lo,ys,o,es,rx,d⟩:=jt I.aB ha;have hl:ae.length=ys.length:=Paired.length rx;have hz:es.size=ys.length:=by rw[<-Q4,d.ents,Ws]
 refine PySem.W.kdl_call (Yt (prog:=X.prog) (w:=X.w) (d:=a) (ep:=ep) (xs:=ys) (es:=es) lo) (I.ok.hd hc) ⟨o,d⟩ Y' λh' tk acc c' kp e G8=>?_;have hv:Vals (ae.map (·.2.1)) acc.toList:=G7 (w:=X.w) rx (by rw[Q4,G8.1,hz]) λj v ej=>by obtain⟨en,e1,e2⟩:=G8.2 j v (~~~ej);rw[<-QQ,d.ents,Wo]at e1;cases hy:ys[j]? with|none=>rw[hy]at e1;cases e1|some x=>rw[hy]at e1;cases e1;exact⟨x,rfl,e2⟩
 exact⟨.ref s.heap.objs.size,_,I.laid (t':=tk) kp (Wg _) (show bX X.prog X.w _ h' _ (.lst _)from⟨~~~z,acc.toList,c',hv,~~~e⟩),rfl,q _ (I.aB.fresh (Wg _))⟩
noncomputable def rS:D->Option S|.dic ds=>some (.own (.lst (ds.map (·.1))))|_=>none
theorem DN.G9:∀{ws:List NE}{ds:List (D×D)},DN H O ws ds->aH H O (ws.map (·.2.1)) (ds.map (·.1))|[],[],_=>.nil|[],_::_,r=>by have:=r.len;simp at this|_::_,[],r=>by have:=r.len;simp at this|p::ws,q::ds,r=>by obtain⟨r1,_,_,r4⟩:=r.un;exact .cons r1 (DN.G9 r4)
section
variable{p:Pos}
theorem Yv(hc:X.calm=true)(hg:Gl X "list")(hm:X.mg "list"=none)(he:SB X c e fb)(hs:mE e=true:=by rfl):SE X c (.Call (.Name "list" pp) [e] [] pos) (az rS fb):=rh (r:=λv H Q=>∃a ep ae,v=V.ref a/\H a=some (.dN ep ae)/\∀l,H l=none->Q (.ref l) (upd H l (.lst (ae.map (·.2.1))))) (Yu hc) (λv H Q⟨a,ep,ae,e,h⟩=>⟨a,ep,ae,by rw[e],h⟩) (λc M U H x d s Q k rx hp q=>by cases d with|dic ds=>cases hp;obtain⟨a,ep,ws,e,ha,dn⟩:=zD rx;exact⟨a,ep,ws,e,ha,λl hl=>q _ _ (.alloc k hl _) (bu.nD k dn.G9 hl)⟩|_=>simp[rS]at hp) hg hm PyProof.Rows.boot_list he Z' Z' (nU hs)
end
section
variable{s:W4}
theorem Yw(hd:(d==Qt)=false)(hT:s.TypeIs (.ref d) "dict")(h:Q (.ref s.heap.objs.size) {s with heap:=s.heap.push {cls:=.type "dict_values",data:=.fields #[.ref d]}}):W7 (model prog w) A (call (.builtin "dict.values") [.ref d]) Q E s:=by refine WA F.slot_dict_values hT F.entry_dict_values ?_ (F.args_dict_values_1 _);refine W0 ?_;unfold Builtin.Dict.noArgs;refine W0 (QB hT (show W7 _ _ (pure d) _ _ s from W3 ?_));show W7 _ _ (QZ d>>=_) _ _ s;unfold QZ;rw[if_neg %[hd|WD]];exact W0 (W3 (W0 (WO (W3 ⟨_,rfl,h⟩))))
theorem Yx{es}(hv:s.heap.IsValuesView v d)(ho:s.heap.get? d=some o)(ij:o.data=.dict es ep)(hQ:Q (.ref s.heap.objs.size) {s with heap:=s.heap.push {cls:=.type "dict_valueiterator",data:=.fields #[.ref d,.int 0 0,.int es.size 0,.int ep 0]}}):W7 (model prog w) A (pyIter (.ref v)) Q E s:=by
 obtain⟨ov,hov,hcv,hdv⟩:=id hv;refine JT hv.typeIs F.slot_dict_values_iter (WA F.slot_dict_values_iter hv.typeIs F.entry_dict_values_iter ?_ (F.args_dict_values_iter_1 _));unfold Builtin.«dict_values.__iter__»;refine W0 (W3 (W0 ?_));unfold Builtin.Dict_items.dictOf;refine W0 (WM hov hdv (x:=.ref d) rfl (W3 (W0 ?_)));unfold Builtin.Dict_items.newIterator;refine W0 (Qm ho ij (W0 (QX ho ij ?_)));have fz:Qd "dict_valueiterator"=false:=by decide
 simp only[fz,Qf,if_false];refine WO (W3 ⟨_,rfl,"dict_valueiterator",_,⟨_,Wh _ rfl,rfl⟩,F.slot_dict_valueiterator_next.lookup,?_⟩);simpa[Q6]using hQ
theorem Yy{es e Q}(hit:s.heap.IsValIter it d i es.size ep)(gE:s.heap.get? d=some od)(eO:od.data=.dict es ep)(hx:es[i]?=some e)(hQ:∀h',h'.IsValIter it d (i+1) es.size ep->Qx it s.heap h'->Q (some e.val) {s with heap:=h'}):W7 (model prog w) A (QF (.ref it)) Q E s:=by
 obtain⟨o,ho,hc,hd⟩:=id hit;unfold QF;refine W0 (Js (WE (name:=Str.ofString "__next__") hit.typeIs J5 (WA J5 hit.typeIs F.entry_dict_valueiterator_next ?_ (F.args_dict_valueiterator_next_1 _))));refine W0 (W3 (W0 (W0 ?_)));refine W0 (Jd hit.typeIs (W3 ?_));refine W0 (JY ho hd ?_);have fz:Qd "dict_valueiterator"=false:=by decide
 simp only[fz,Qf,if_false];show W7 _ _ (if(Value.ref d==Value.none)=true then _ else _) _ _ s;rw[if_neg (show¬(Value.ref d==Value.none)=true from WD)];refine W0 (W3 (W0 (Qm gE eO ?_)));rw[if_neg U'];refine W0 (W3 (W0 (QX gE eO ?_)));rw[if_neg U'];refine W3 ?_;simp only[show¬(i:Int)<0from Y',if_false,Qu,hx];refine W0 ?_;refine W0 (Jd hit.typeIs (W3 ?_));refine W0 (wpAny_isOneOf_valiter hit.typeIs ?_);show W7 _ _ (setField (.ref it) 1 (Q6 ((i:Int)+1))>>=_) _ _ s;refine W0 (Uj ho hd U' ?_);have ko:(s.heap.update it (Obj.mapFields (·.setIfInBounds 1 (Q6 ((i:Int)+1))))).IsValIter it d (i+1) es.size ep:=⟨_,QP _ ho (Obj.isFreed_of_fields (Obj.data_mapFields hd _)),(Obj.cls_mapFields ..).trans hc,by rw[Obj.data_mapFields hd];simp[Q6]⟩;refine W0 (WI ?_);refine W0 (wpAny_isOneOf_valiter (s:={s with heap:=s.heap.update it (Obj.mapFields (·.setIfInBounds 1 (Q6 ((i:Int)+1))))}) ko.typeIs ?_);refine W0 (wpAny_isOneOf_valiter (s:={s with heap:=s.heap.update it (Obj.mapFields (·.setIfInBounds 1 (Q6 ((i:Int)+1))))}) ko.typeIs ?_);show W7 _ _ (pure e.val) _ _ _;exact W3 (W3 ⟨_,rfl,W3 (hQ _ ko (QN ..))⟩)
theorem Yz{es Q}(hh:A.handled=none)(hit:s.heap.IsValIter it d i es.size ep)(gE:s.heap.get? d=some od)(eO:od.data=.dict es ep)(hx:es.size<=i)(hQ:∀h',Heap.ExtBut it s.heap h'->Q none {s with heap:=h'}):W7 (model prog w) A (QF (.ref it)) Q E s:=by
 obtain⟨o,ho,hc,hd⟩:=id hit;unfold QF;refine W0 (Js (WE (name:=Str.ofString "__next__") hit.typeIs J5 (WA J5 hit.typeIs F.entry_dict_valueiterator_next ?_ (F.args_dict_valueiterator_next_1 _))));refine W0 (W3 (W0 (W0 ?_)));refine W0 (Jd hit.typeIs (W3 ?_));refine W0 (JY ho hd ?_);have fz:Qd "dict_valueiterator"=false:=by decide
 simp only[fz,Qf,if_false];show W7 _ _ (if(Value.ref d==Value.none)=true then _ else _) _ _ s;rw[if_neg (show¬(Value.ref d==Value.none)=true from WD)];refine W0 (W3 (W0 (Qm gE eO ?_)));rw[if_neg U'];refine W0 (W3 (W0 (QX gE eO ?_)));rw[if_neg U'];refine W3 ?_;simp only[show¬(i:Int)<0from Y',if_false,Qu,Array.getElem?_eq_none hx];refine W0 ?_;refine W0 (Jd hit.typeIs (W3 ?_));exact zH (j:=0) hh ho hd U' hQ
end
def zL(a:Addr)(ep:Nat)(ae:List NE):It:=⟨λi H=>H a=some (.dN ep ae)/\i<ae.length,λi H v H'=>H'=H/\∃k y,ae[i]?=some (k,y,v),λi H=>H a=some (.dN ep ae)/\i=ae.length⟩
theorem YA(a it)(ae:List NE)(ep):Turn P w K tg (zL a ep ae) [it] it λi h=>h.IsValIter it a i ae.length ep:=by
 have at_:∀{X:Cx}{pins s M H},X.prog=P->X.w=w->Inv X pins M H s->H a=some (.dN ep ae)->∃xs o es,dB ae xs/\kC w s.heap a ep xs o es/\es.size=ae.length:=by intro X pins s M H hP hw I e;subst hP hw;obtain⟨_,_,xs,o,es,r,d⟩:=jt I.aB e;exact⟨xs,o,es,r,d,by rw[<-Q4,d.ents,Ws];exact(Paired.length r).symm⟩
 refine⟨U',?_,?_,?_,?_,?_⟩;.rintro i h⟨o,e,c,d⟩b hb;have z:b=it:= ~~~hb;subst z;exact⟨o,e,λv z=>by rw[d]at z;cases z⟩
 .rintro i h h' q k;exact q.at λo e=>k it U' o e
 .intro X hP hw hK hc i pins s M H E I hf st⟨hg,hi⟩;obtain⟨xs,o,es,r,d,hz⟩:=at_ hP hw I hg;subst hP hw hK;have hx:ae[i]?=some (ae[i].1,ae[i].2.1,ae[i].2.2):=#v[hi];obtain⟨x,hu,ry,rv⟩:=r.get hx;have zI:es[i]?=some (ent X.w x):=by rw[<-QQ,d.ents,Wo,hu];rfl
  obtain⟨f0,f1,f2,f3,f4,f5⟩:=hf it U';rw[<-hz]at st;refine Yy st d.get d.data zI λh' cq sb=>?_;have I1:Inv X pins M H {s with heap:=h'}:=I.turned (t':=s.toks) (λb o hb e=>(sb.2 b hb).trans e) f0 f1 f3 f4 f5;obtain⟨o',e',c',d'⟩:=id cq;exact⟨_,rfl,qD (s:={s with heap:=h'}) e' c' d' Z' ⟨ae[i].2.2,H,I1,rv,⟨rfl,_,_,hx⟩,by rw[<-hz];exact cq,λb hb=>(hf b hb).1⟩⟩
 .intro X hP hw hK hc i pins s M H E I hf st⟨hg,hi⟩;obtain⟨xs,o,es,r,d,hz⟩:=at_ hP hw I hg;subst hP hw hK;rw[<-hz]at st;exact Yz (I.ok.hd hc) st d.get d.data Y' λh' eb=>⟨rfl,Inv.nX (t':=s.toks) [it] I (λb o hb e=>eb b o (λz=>hb #v[z]) e) hf⟩
 .intro A i s Q E st h;exact wpAny_pyIter_valiter st h
section
variable{o:Expr}
def YB(td:TE):TI:=λM H R=>td M H λv H1=>∃a ep ae,v=.ref a/\H1 a=some (.dN ep ae)/\R (zL a ep ae) H1
theorem YC(ho:PE X o td)(hb:Ja o "values" X.env (eval o X.env)=eval o X.env:=by rfl)(hl:(apos.endLine==bF.line)=true:=by rfl):PI X tg (.Call (.Attribute o "values" apos) [] [] bF) (YB td):=by
 intro pins s M H R I h;refine wpAny_Call_method (T:="dict") (id:="dict.values") hb rfl hl F.plainAttrs_dict F.slot_dict_values F.type_dict_values (aM (ho pins s M H _ I h) λu s1 hh=>?_);obtain⟨x,H1,I1,rx,a,ep,ae,ex,ea,q⟩:=hh;subst ex;obtain rfl:u=Value.ref a:=rx;obtain⟨z,hS,xs,ob,es,r,d⟩:=jt I1.aB ea;have hz:es.size=ae.length:=by rw[<-Q4,d.ents,Ws];exact(Paired.length r).symm
 refine⟨d.typeIs,d.noDict,?_⟩;refine Calls.callWith_builtin rfl (PySem.evalArgs_none (Yw hS d.typeIs ?_));have zJ:∀b u,s1.heap.get? b=some u->(s1.heap.push {cls:=.type "dict_values",data:=.fields #[.ref a]}).get? b=some u:=λb u e=>W6 _ e;refine Yx (d:=a) ⟨_,Wh _ rfl,rfl,rfl⟩ (zJ _ _ d.get) d.data ?_;generalize hh1:s1.heap.push {cls:=.type "dict_values",data:=.fields #[.ref a]}=h1;have up1:∀b u,s1.heap.get? b=some u->h1.get? b=some u:=λb u e=>by rw[<-hh1];exact W6 _ e
 have rR:s1.heap.objs.size<=h1.objs.size:=by rw[<-hh1,Qw];exact U3 _
 generalize hh2:h1.push {cls:=.type "dict_valueiterator",data:=.fields #[.ref a,.int 0 0,.int es.size 0,.int ep 0]}=h2;have mK:∀b u,s1.heap.get? b=some u->h2.get? b=some u:=λb u e=>by rw[<-hh2];exact W6 _ (up1 b u e)
 have hit:h2.IsValIter h1.objs.size a 0 ae.length ep:=by rw[<-hz,<-hh2];exact⟨_,Wh _ rfl,rfl,rfl⟩
 have I2:Inv X pins M H1 {s1 with heap:=h2,toks:=s1.toks}:=I1.kept (t':=s1.toks) mK;refine⟨h1.objs.size,[h1.objs.size],_,_,_,rfl,I2,YA a h1.objs.size ae ep,hit,λb hb=>?_,q⟩;have e:b=h1.objs.size:= ~~~hb;subst e;exact I1.iY rR (I1.aB.fresh rR)
end
def vL(fe:DE):DI:=λU=>(fe U).bind λr ZW=>match r.d with|.dic ds=>.ok (ds.map (·.2)) ZW|_=>.stuck
section
variable{o:Expr}
theorem YD{ds}(h:H a=some (.dN ep ws))(n:¬Own M U a)(r:DN H (Av c M U) ws ds):mz c M U H (zL a ep ws) (ds.map (·.2)):=by intro H2 kp;have h2:=kp a _ h n;refine⟨⟨h2,#v[r.len]⟩,λi d e=>?_⟩;rw[Wo]at e;cases ej:ds[i]? with|none=>rw[ej]at e;cases e|some q=>
 rw[ej]at e;cases e;have hi:i<ws.length:=by rw[r.len];exact(W9.mp ej).1
 exact⟨⟨h2,hi⟩,λx H3⟨e3,kk,y,hkv⟩=>.inl ⟨e3,r.val i _ q hkv ej⟩⟩
theorem YE(ho:SE X c o fe)(hb:Ja o "values" X.env (eval o X.env)=eval o X.env:=by rfl)(hl:(apos.endLine==bF.line)=true:=by rfl):SI X c tg (.Call (.Attribute o "values" apos) [] [] bF) (vL fe):=PI.weak (YC ho hb hl) λM H R⟨U,k,q⟩=>by
 unfold vL at q;rw[bp]at q;refine⟨U,k,aT q λr ZW q1 v H1 a1 r1=>?_⟩;have rp:=r1.rep;generalize r.d=d at q1 rp;cases d<;>first|exact q1.elim|skip
 rename_i ds;cases rp with|dic h1 h2 h3 h4 h5 h6=>exact⟨_,_,_,rfl,h2,q1 _ _ a1 (YD h2 (λz=>h1 (.inr z)) ⟨h3,h4,h5,h6⟩)⟩
end
abbrev pP(h:Heap)(z TI TO a:Addr)(f:Bool):Prop:=h.get? z=some {cls:=.type "zip",dict:=none,data:=.fields #[Q6 a,.bool f,.bool false,.ref TI,.ref TO],slots:=#[]}
section
variable{s:W4}
theorem YF{Q}(ho:s.heap.get? a=some o)(h:Q (some o) s):W7 (model prog w) A (loadIfAlive a) Q E s:=by have h':Q (s.heap.get? a) s:=%[ho|h];exactλ_ _ _=>h'
theorem G_{TI TO Q}(hz:pP s.heap z TI TO a f)(ha:s.heap.get? a=some oa)(h:∀h',pP h' z TI TO a true->Qx z s.heap h'->Q false {s with heap:=h'}):W7 (model prog w) A (WY (.ref z)) Q E s:=by unfold WY;refine W0 (WM hz rfl (x:=Q6 a) rfl ?_);show W7 _ _ (loadIfAlive (a:Int).toNat>>=_) _ _ _;rw[Qu];refine W0 (YF ha ?_);simp only[Option.isNone_some,Qf,if_false];refine W0 (WM hz rfl (x:=.bool f) rfl ?_);cases f with|true=>rw[if_neg (show¬(Value.bool true !=Value.bool true)=true from WD)];exact W3 (h s.heap hz (Heap.SameBut.refl _ _))|false=>rw[if_pos (show(Value.bool false !=Value.bool true)=true from rfl)];exact W0 (Q9 hz U' λh₃ YG YH=>W3 (h h₃ YG YH))
theorem YI{z TI TO a f f2}(D1:Draws prog w A i1 f1 n1 P1 S1)(D2:Draws prog w A i2 f2 n2 P2 S2)(C:ZA z TI TO i1 i2 f1 f2)(hz:pP s.heap z TI TO a f)(ha:s.heap.get? a=some oa)(hI:IsPair s.heap TI (.ref i1) (.ref i2))(g1:S1 i s.heap)(g2:S2 i s.heap)(l1:i<n1)(l2:i<n2)(q:∀x y h' tk,P1 i x->P2 i y->pP h' z TI TO a true->S1 (i+1) h'->S2 (i+1) h'->IsPair h' s.heap.objs.size x y->h'.objs.size=s.heap.objs.size+1->(∀c o,c≠z->c≠i1->c≠i2->s.heap.get? c=some o->h'.get? c=some o)->Q (.ref s.heap.objs.size) {s with heap:=h',toks:=tk}):W7 (model prog w) A (Builtin.«zip.__next__» ⟨[.ref z],[]⟩) (λfin s'=>∃v,fin=.done (.ret v)/\Q v s') E s:=by
 have i1z:i1≠z:=λe=>C.z1 (e▸C.m1);have i2z:i2≠z:=λe=>C.z2 (e▸C.m2);have i12:i1≠i2:=λe=>C.k1 (e▸C.m2);show W7 _ _ (field (.ref z) 2>>=_) _ _ _;refine W0 (WM hz rfl (x:=.bool false) rfl ?_);show W7 _ _ (field (.ref z) 3>>=_) _ _ _;refine W0 (WM hz rfl (x:=.ref TI) rfl (W0 (QL hI rfl ?_)));show W7 _ _ (WY (.ref z)>>=_) _ _ _;refine W0 (G_ hz ha λh1 jX s1=>?_);simp only[Qf,if_false];refine W0 ?_;simp only[List.forIn_toArray,U6,Ui];refine W0 (W0 (WI ?_));show W7 _ _ (WS (.ref i1)>>=_) _ _ _;have e1:S1 i h1:=D1.frame _ _ _ g1 λc hc o e=>s1.extBut _ _ (λx=>C.z1 (x▸hc)) e;refine W0 (D1.item i _ _ _ l1 e1 λx h2 zM p1 e2 s2=>W3 ?_);refine W3 (W0 (W0 (WI ?_)));show W7 _ _ (WS (.ref i2)>>=_) _ _ _;have e3:S2 i h2:=D2.frame _ _ _ g2 λc hc o e=>s2.extBut _ _ (λx=>C.k1 (x▸hc)) (s1.extBut _ _ (λx=>C.z2 (x▸hc)) e);refine W0 (D2.item i _ _ _ l2 e3 λy h4 YJ p2 e4 s4=>W3 ?_);refine W3 (W3 (W0 (wpAny_newTuple ?_ (by show 2<=Wb;decide))));have hsz:h4.objs.size=s.heap.objs.size:=by rw[s4.1,s2.1,s1.1]
 have vM:pP h4 z TI TO a true:=s4.extBut _ _ i2z.symm (s2.extBut _ _ i1z.symm jX);have r1:S1 (i+1) h4:=D1.frame _ _ _ e2 λc hc o e=>s4.extBut _ _ (λx=>C.k2 (x▸hc)) e;refine W3 ⟨_,rfl,?_⟩;show Q (.ref h4.objs.size) _;rw[hsz];refine q x y _ _ p1 p2 (W6 _ vM) (D1.frame _ _ _ r1 λc _ o e=>W6 _ e) (D2.frame _ _ _ e4 λc _ o e=>W6 _ e) ?_ (by rw[Qw,hsz]) λc o c1 c3 c4 e=>W6 _ (s4.extBut _ _ c4 (s2.extBut _ _ c3 (s1.extBut _ _ c1 e)));rw[<-hsz];exact Wh _ rfl
theorem YK{TI TO Q}(D1:Draws prog w A i1 f1 n1 P1 S1)(D2:Draws prog w A i2 f2 n2 P2 S2)(C:ZA z TI TO i1 i2 f1 f2)(hz:pP s.heap z TI TO a f)(ha:s.heap.get? a=some oa)(hI:IsPair s.heap TI (.ref i1) (.ref i2))(g1:S1 i s.heap)(g2:S2 i s.heap)(l:i=n1\/i<n1/\i=n2)(q:∀h' tk e,(∀c o,c≠z->c≠i1->c≠i2->s.heap.get? c=some o->h'.get? c=some o)->(∃o,h'.get? e=some o/\o.cls=.type "StopIteration")->E (.ref e) {s with heap:=h',toks:=tk}):W7 (model prog w) A (Builtin.«zip.__next__» ⟨[.ref z],[]⟩) Q E s:=by
 have i1z:i1≠z:=λe=>C.z1 (e▸C.m1);have i2z:i2≠z:=λe=>C.z2 (e▸C.m2);show W7 _ _ (field (.ref z) 2>>=_) _ _ _;refine W0 (WM hz rfl (x:=.bool false) rfl ?_);show W7 _ _ (field (.ref z) 3>>=_) _ _ _;refine W0 (WM hz rfl (x:=.ref TI) rfl (W0 (QL hI rfl ?_)));show W7 _ _ (WY (.ref z)>>=_) _ _ _;refine W0 (G_ hz ha λh1 jX s1=>?_);simp only[Qf,if_false];refine W0 ?_;simp only[List.forIn_toArray,U6,Ui];refine W0 (W0 (WI ?_));show W7 _ _ (WS (.ref i1)>>=_) _ _ _;have e1:S1 i h1:=D1.frame _ _ _ g1 λc hc o e=>s1.extBut _ _ (λx=>C.z1 (x▸hc)) e;rcases l with l|⟨l,l'⟩;.subst l;refine W0 (D1.done _ _ _ e1 λh2 e s2⟨oe,he,ce⟩=>?_);exact q h2 _ e (λc o c1 c3 _ x=>s2 _ _ c3 (s1.extBut _ _ c1 x)) ⟨oe,he,ce⟩
 .refine W0 (D1.item i _ _ _ l e1 λx h2 zM p1 e2 s2=>W3 ?_);refine W3 (W0 (W0 (WI ?_)));show W7 _ _ (WS (.ref i2)>>=_) _ _ _;have e3:S2 i h2:=D2.frame _ _ _ g2 λc hc o e=>s2.extBut _ _ (λx=>C.k1 (x▸hc)) (s1.extBut _ _ (λx=>C.z2 (x▸hc)) e);subst l';refine W0 (D2.done _ _ _ e3 λh4 e s4⟨oe,he,ce⟩=>?_);exact q h4 _ e (λc o c1 c3 c4 x=>s4 _ _ c4 (s2.extBut _ _ c3 (s1.extBut _ _ c1 x))) ⟨oe,he,ce⟩
end
abbrev gc(h:Heap)(z TI TO:Addr)(v0:Value)(f:Bool):Prop:=h.get? z=some {cls:=.type "zip",dict:=none,data:=.fields #[v0,.bool f,.bool false,.ref TI,.ref TO],slots:=#[]}
section
variable{s:W4}
theorem YL{Q}(ho:s.heap.get? a=none)(h:Q none s):W7 (model prog w) A (loadIfAlive a) Q E s:=by have h':Q (s.heap.get? a) s:=%[ho|h];exactλ_ _ _=>h'
theorem Hb{TI TO Q}(hz:gc s.heap z TI TO v0 f)(hv:v0=.none\/∃p:Addr,v0=Q6 p/\s.heap.get? p=none)(h:Q true s):W7 (model prog w) A (WY (.ref z)) Q E s:=by
 unfold WY;rcases hv with rfl|⟨p,rfl,hp⟩;.exact W0 (WM hz rfl (x:=.none) rfl (W3 h))
 .refine W0 (WM hz rfl (x:=Q6 p) rfl ?_);show W7 _ _ (loadIfAlive (p:Int).toNat>>=_) _ _ _;rw[Qu];exact W0 (YL hp (W3 h))
theorem YM{z TI TO:Addr}{f2:List Addr}{a b:Value}{f:Bool}(D1:Draws prog w A i1 f1 n1 P1 S1)(D2:Draws prog w A i2 f2 n2 P2 S2)(C:ZA z TI TO i1 i2 f1 f2)(hz:gc s.heap z TI TO v0 f)(hv:v0=.none\/∃p:Addr,v0=Q6 p/\s.heap.get? p=none)(hI:IsPair s.heap TI (.ref i1) (.ref i2))(hO:IsPair s.heap TO a b)(g1:S1 i s.heap)(g2:S2 i s.heap)(l1:i<n1)(l2:i<n2)(q:∀x y h' tk,P1 i x->P2 i y->gc h' z TI TO (Q6 s.heap.objs.size) false->IsPair h' TO x y->S1 (i+1) h'->S2 (i+1) h'->IsPair h' s.heap.objs.size x y->(∀c o,c≠z->c≠TO->c≠i1->c≠i2->s.heap.get? c=some o->h'.get? c=some o)->Q (.ref s.heap.objs.size) {s with heap:=h',toks:=tk}):W7 (model prog w) A (Builtin.«zip.__next__» ⟨[.ref z],[]⟩) (λfin s'=>∃v,fin=.done (.ret v)/\Q v s') E s:=by
 have i1z:i1≠z:=λe=>C.z1 (e▸C.m1);have i2z:i2≠z:=λe=>C.z2 (e▸C.m2);have rT:TO≠i1:=λe=>C.t1 (e▸C.m1);have zN:TO≠i2:=λe=>C.t2 (e▸C.m2);have i12:i1≠i2:=λe=>C.k1 (e▸C.m2);show W7 _ _ (field (.ref z) 2>>=_) _ _ _;refine W0 (WM hz rfl (x:=.bool false) rfl ?_);show W7 _ _ (field (.ref z) 3>>=_) _ _ _;refine W0 (WM hz rfl (x:=.ref TI) rfl (W0 (QL hI rfl ?_)));show W7 _ _ (WY (.ref z)>>=_) _ _ _;refine W0 ?_;refine Hb hz hv ?_;simp only[if_true];refine W0 (QU (W0 (WM hz rfl (x:=.ref TO) rfl (W0 (Q9 hz U' λh1 jX s1=>?_)))));replace jX:gc h1 z TI TO .ellipsis f:=jX;refine W0 ?_;simp only[List.zipIdx_cons,List.zipIdx_nil,U6,Ui];refine W0 (W0 (wpAny_onRaise ?_));show W7 _ _ (WS (.ref i1)>>=_) _ _ _;have e1:S1 i h1:=D1.frame _ _ _ g1 λc hc o e=>s1.extBut _ _ (λx=>C.z1 (x▸hc)) e;refine W0 (D1.item i _ _ _ l1 e1 λx h2 zM p1 e2 s2=>W3 ?_);have rV:IsPair h2 TO a b:=s2.extBut _ _ rT (s1.extBut _ _ C.tz hO);refine W0 (QL rV rfl (W0 (wpAny_updateSeq_pair rV λh3 vN s3=>?_)));replace vN:IsPair h3 TO x b:=vN;refine W0 (wpAny_letGo (W3 (W0 (W0 (wpAny_onRaise ?_)))));show W7 _ _ (WS (.ref i2)>>=_) _ _ _;have e3:S2 i h3:=D2.frame _ _ _ g2 λc hc o e=>s3.extBut _ _ (λx=>C.t2 (x▸hc)) (s2.extBut _ _ (λx=>C.k1 (x▸hc)) (s1.extBut _ _ (λx=>C.z2 (x▸hc)) e));refine W0 (D2.item i _ _ _ l2 e3 λy h4 YJ p2 e4 s4=>W3 ?_);have Hc:IsPair h4 TO x b:=s4.extBut _ _ zN vN;refine W0 (QL Hc rfl (W0 (wpAny_updateSeq_pair Hc λh5 vO s5=>?_)));replace vO:IsPair h5 TO x y:=vO;refine W0 (wpAny_letGo (W3 (W3 (W0 (QL vO rfl (W0 (wpAny_newTuple ?_)))))));have hsz:h5.objs.size=s.heap.objs.size:=by rw[s5.1,s4.1,s3.1,s2.1,s1.1]
 have Hd:gc h5 z TI TO .ellipsis f:=s5.extBut _ _ C.tz.symm (s4.extBut _ _ i2z.symm (s3.extBut _ _ C.tz.symm (s2.extBut _ _ i1z.symm jX)));have k5:∀c o,c≠z->c≠TO->c≠i1->c≠i2->s.heap.get? c=some o->h5.get? c=some o:=λc o c1 c2 c3 c4 e=>s5.extBut _ _ c2 (s4.extBut _ _ c4 (s3.extBut _ _ c2 (s2.extBut _ _ c3 (s1.extBut _ _ c1 e))));have r1:S1 (i+1) h5:=D1.frame _ _ _ e2 λc hc o e=>s5.extBut _ _ (λx=>C.t1 (x▸hc)) (s4.extBut _ _ (λx=>C.k2 (x▸hc)) (s3.extBut _ _ (λx=>C.t1 (x▸hc)) e));have r2:S2 (i+1) h5:=D2.frame _ _ _ e4 λc hc o e=>s5.extBut _ _ (λx=>C.t2 (x▸hc)) e;have zl:z<h5.objs.size:=Wp Hd;show W7 _ _ (Builtin.SmallTypes.ownedTupleHandOut (.ref z) (.ref h5.objs.size)>>=_) _ _ _;refine W0 ?_;unfold Builtin.SmallTypes.ownedTupleHandOut;have YN:gc (h5.push {cls:=.type "tuple",data:=.seq #[x,y]}) z TI TO .ellipsis f:=W6 _ Hd;refine W0 (Q9 YN U' λh7 zO s7=>?_);replace zO:gc h7 z TI TO (Q6 h5.objs.size) f:=zO;refine Q9 zO U' λh8 vP s8=>?_;replace vP:gc h8 z TI TO (Q6 h5.objs.size) false:=vP;have up:∀c o,c≠z->h5.get? c=some o->h8.get? c=some o:=λc o c1 e=>s8.extBut _ _ c1 (s7.extBut _ _ c1 (W6 _ e));have hT:IsPair h8 h5.objs.size x y:=s8.extBut _ _ (Jj zl) (s7.extBut _ _ (Jj zl) (Wh _ rfl));rw[hsz]at vP hT;refine W3 ⟨_,rfl,?_⟩;show Q (.ref h5.objs.size) _;rw[hsz];exact q x y h8 _ p1 p2 vP (up _ _ C.tz vO) (D1.frame _ _ _ r1 λc hc o e=>up c o (λx=>C.z1 (x▸hc)) e) (D2.frame _ _ _ r2 λc hc o e=>up c o (λx=>C.z2 (x▸hc)) e) hT λc o c1 c2 c3 c4 e=>up c o c1 (k5 c o c1 c2 c3 c4 e)
theorem YO{TI TO Q}(D1:Draws prog w A i1 f1 n1 P1 S1)(D2:Draws prog w A i2 f2 n2 P2 S2)(C:ZA z TI TO i1 i2 f1 f2)(hz:gc s.heap z TI TO v0 f)(hv:v0=.none\/∃p:Addr,v0=Q6 p/\s.heap.get? p=none)(hI:IsPair s.heap TI (.ref i1) (.ref i2))(hO:IsPair s.heap TO a b)(g1:S1 i s.heap)(g2:S2 i s.heap)(l:i=n1\/i<n1/\i=n2)(q:∀h' tk e,(∀c o,c≠z->c≠TO->c≠i1->c≠i2->s.heap.get? c=some o->h'.get? c=some o)->(∃o,h'.get? e=some o/\o.cls=.type "StopIteration")->E (.ref e) {s with heap:=h',toks:=tk}):W7 (model prog w) A (Builtin.«zip.__next__» ⟨[.ref z],[]⟩) Q E s:=by
 have i1z:i1≠z:=λe=>C.z1 (e▸C.m1);have i2z:i2≠z:=λe=>C.z2 (e▸C.m2);have rT:TO≠i1:=λe=>C.t1 (e▸C.m1);show W7 _ _ (field (.ref z) 2>>=_) _ _ _;refine W0 (WM hz rfl (x:=.bool false) rfl ?_);show W7 _ _ (field (.ref z) 3>>=_) _ _ _;refine W0 (WM hz rfl (x:=.ref TI) rfl (W0 (QL hI rfl ?_)));show W7 _ _ (WY (.ref z)>>=_) _ _ _;refine W0 ?_;refine Hb hz hv ?_;simp only[if_true];refine W0 (QU (W0 (WM hz rfl (x:=.ref TO) rfl (W0 (Q9 hz U' λh1 jX s1=>?_)))));replace jX:gc h1 z TI TO .ellipsis f:=jX;refine W0 ?_;simp only[List.zipIdx_cons,List.zipIdx_nil,U6,Ui];refine W0 (W0 (wpAny_onRaise ?_));show W7 _ _ (WS (.ref i1)>>=_) _ _ _;have e1:S1 i h1:=D1.frame _ _ _ g1 λc hc o e=>s1.extBut _ _ (λx=>C.z1 (x▸hc)) e;rcases l with l|⟨l,l'⟩
 .subst l;refine W0 (D1.done _ _ _ e1 λh2 e s2⟨oe,he,ce⟩=>?_);have og:gc h2 z TI TO .ellipsis f:=s2 _ _ i1z.symm jX;have ez:e≠z:=λx=>by subst x;rw[og]at he;cases he;simp at ce
  exact Q9 og U' λh3 _ s3=>q h3 _ e (λc o c1 _ c3 _ x=>s3.extBut _ _ c1 (s2 _ _ c3 (s1.extBut _ _ c1 x))) ⟨oe,s3.extBut _ _ ez he,ce⟩
 .refine W0 (D1.item i _ _ _ l e1 λx h2 zM p1 e2 s2=>W3 ?_);have rV:IsPair h2 TO a b:=s2.extBut _ _ rT (s1.extBut _ _ C.tz hO);refine W0 (QL rV rfl (W0 (wpAny_updateSeq_pair rV λh3 vN s3=>?_)));refine W0 (wpAny_letGo (W3 (W0 (W0 (wpAny_onRaise ?_)))));show W7 _ _ (WS (.ref i2)>>=_) _ _ _;have e3:S2 i h3:=D2.frame _ _ _ g2 λc hc o e=>s3.extBut _ _ (λx=>C.t2 (x▸hc)) (s2.extBut _ _ (λx=>C.k1 (x▸hc)) (s1.extBut _ _ (λx=>C.z2 (x▸hc)) e));subst l';refine W0 (D2.done _ _ _ e3 λh4 e s4⟨oe,he,ce⟩=>?_);have vM:gc h4 z TI TO .ellipsis f:=s4 _ _ i2z.symm (s3.extBut _ _ C.tz.symm (s2.extBut _ _ i1z.symm jX));have ez:e≠z:=λx=>by subst x;rw[vM]at he;cases he;simp at ce
  exact Q9 vM U' λh5 _ s5=>q h5 _ e (λc o c1 c2 c3 c4 x=>s5.extBut _ _ c1 (s4 _ _ c4 (s3.extBut _ _ c2 (s2.extBut _ _ c3 (s1.extBut _ _ c1 x))))) ⟨oe,s5.extBut _ _ ez he,ce⟩
theorem YQ{z TI TO:Addr}{f2:List Addr}{a b:Value}{f:Bool}{Q:Option Value->W4->Prop}(D1:Draws prog w A.in1 i1 f1 n1 P1 S1)(D2:Draws prog w A.in1 i2 f2 n2 P2 S2)(C:ZA z TI TO i1 i2 f1 f2)(hz:gc s.heap z TI TO v0 f)(hv:v0=.none\/∃p:Addr,v0=Q6 p)(hI:IsPair s.heap TI (.ref i1) (.ref i2))(hO:IsPair s.heap TO a b)(g1:S1 i s.heap)(g2:S2 i s.heap)(l1:i<n1)(l2:i<n2)(q:∀x y h' tk(p':Addr)f',P1 i x->P2 i y->gc h' z TI TO (Q6 p') f'->(∃a b,IsPair h' TO a b)->S1 (i+1) h'->S2 (i+1) h'->IsPair h' s.heap.objs.size x y->(∀c o,c≠z->c≠TO->c≠i1->c≠i2->s.heap.get? c=some o->h'.get? c=some o)->Q (some (.ref s.heap.objs.size)) {s with heap:=h',toks:=tk}):W7 (model prog w) A (QF (.ref z)) Q E s:=by
 have ty:s.TypeIs (.ref z) "zip":=⟨_,hz,rfl⟩;have rT:TO≠i1:=λe=>C.t1 (e▸C.m1);have zN:TO≠i2:=λe=>C.t2 (e▸C.m2);unfold QF;refine W0 (Js (WE (name:=Str.ofString "__next__") ty F.slot_zip_next (WA F.slot_zip_next ty F.entry_zip_next ?_ (F.args_zip_next_1 _))));have cs:(v0=.none\/∃p:Addr,v0=Q6 p/\s.heap.get? p=none)\/∃(p:Addr)(oa:Obj),v0=Q6 p/\s.heap.get? p=some oa:=by
  rcases hv with e|⟨p,e⟩;.exact .inl (.inl e)
  .cases hp:s.heap.get? p with|none=>exact .inl (.inr ⟨p,e,hp⟩)|some oa=>exact .inr ⟨p,oa,e,hp⟩
 rcases cs with hf|⟨p,oa,e,hp⟩;.exact YM D1 D2 C hz hf hI hO g1 g2 l1 l2 λx y h' tk b1 b2 b3 b4 b5 b6 b7 b8=>W3 (q x y h' tk _ _ b1 b2 b3 ⟨_,_,b4⟩ b5 b6 b7 b8)
 .subst e;exact YI D1 D2 C hz hp hI g1 g2 l1 l2 λx y h' tk b1 b2 b3 b5 b6 b7 b8 b9=>W3 (q x y h' tk _ _ b1 b2 b3 ⟨_,_,b9 _ _ C.tz rT zN hO⟩ b5 b6 b7 λc o c1 _ c3 c4 e=>b9 c o c1 c3 c4 e)
theorem YR{TI TO Q}(D1:Draws prog w A.in1 i1 f1 n1 P1 S1)(D2:Draws prog w A.in1 i2 f2 n2 P2 S2)(C:ZA z TI TO i1 i2 f1 f2)(hz:gc s.heap z TI TO v0 f)(hv:v0=.none\/∃p:Addr,v0=Q6 p)(hI:IsPair s.heap TI (.ref i1) (.ref i2))(hO:IsPair s.heap TO a b)(g1:S1 i s.heap)(g2:S2 i s.heap)(l:i=n1\/i<n1/\i=n2)(q:∀h' tk,(∀c o,c≠z->c≠TO->c≠i1->c≠i2->s.heap.get? c=some o->h'.get? c=some o)->Q none {s with heap:=h',toks:=tk}):W7 (model prog w) A (QF (.ref z)) Q E s:=by
 have ty:s.TypeIs (.ref z) "zip":=⟨_,hz,rfl⟩;unfold QF;refine W0 (Js (WE (name:=Str.ofString "__next__") ty F.slot_zip_next (WA F.slot_zip_next ty F.entry_zip_next ?_ (F.args_zip_next_1 _))));have cs:(v0=.none\/∃p:Addr,v0=Q6 p/\s.heap.get? p=none)\/∃(p:Addr)(oa:Obj),v0=Q6 p/\s.heap.get? p=some oa:=by
  rcases hv with e|⟨p,e⟩;.exact .inl (.inl e)
  .cases hp:s.heap.get? p with|none=>exact .inl (.inr ⟨p,e,hp⟩)|some oa=>exact .inr ⟨p,oa,e,hp⟩
 rcases cs with hf|⟨p,oa,e,hp⟩;.refine YO D1 D2 C hz hf hI hO g1 g2 l λh' tk e k⟨o,ho,hc⟩=>?_;exact W0 (U0 (T:="StopIteration") (b:=true) ⟨o,ho,hc⟩ isSubtype_stop (W3 (q _ _ k)))
 .subst e;refine YK D1 D2 C hz hp hI g1 g2 l λh' tk e k⟨o,ho,hc⟩=>?_;exact W0 (U0 (T:="StopIteration") (b:=true) ⟨o,ho,hc⟩ isSubtype_stop (W3 (q _ _ λc o c1 _ c3 c4 x=>k c o c1 c3 c4 x)))
end
abbrev GE:=Int×Addr×List Tx
variable{gs:List GE}
def gf(e:GE):NE:=(.i e.1,.int e.1,.ref e.2.1)
def iP(gs:List GE):List (Int×List Tx):=gs.map λe=>(e.1,e.2.2)
def kE(xs:List Tx):List V:=xs.map λx=>.str (toS x)
def kF(gs:List (Int×List Tx))(x:Tx)(z:Int):List (Int×List Tx):=if(gs.any λe=>decide (e.1=z))=true then gs.map λe=>if e.1=z then(e.1,e.2++[x])else e else gs++[(z,[x])]
structure GI(H1:Hp)(g:Addr)(gs:List GE)(H:Hp):Prop where
 dict:∃ep,H g=some (.dN ep (gs.map gf))lists:∀e∈gs,H e.2.1=some (.lst (kE e.2.2))fresh:∀e∈gs,H1 e.2.1=none
 nd:(gs.map (·.2.1)).Nodup
 kd:(gs.map (·.1)).Nodup
 old:∀a o,H1 a=some o->a≠g->H a=some o
 there:∃o,H1 g=some o
section
variable{g p:Addr}
theorem GI.zP(I:GI H1 g gs H):∀e∈gs,e.2.1≠g:=λe he z=>by obtain⟨o,h⟩:=I.there;have:=I.fresh e he;rw[z,h]at this;cases this
theorem GI.alloc(I:GI H1 g gs H)(hp:H p=none)(o):GI H1 g gs (upd H p o):=by
 have ne:∀{a w},H a=some w->a≠p:=λe z=>by rw[z,hp]at e;cases e
 obtain⟨ep,hd⟩:=I.dict;refine⟨⟨ep,%[aP (ne hd)|hd]⟩,λe he=>%[aP (ne (I.lists e he))|I.lists e he],I.fresh,I.nd,I.kd,λa o e h=>%[aP (ne (I.old a o e h))|I.old a o e h],I.there⟩
theorem GI.hit{e}(I:GI H1 g gs H)(he:e∈gs)(x):GI H1 g (gs.map λq=>if q.1=e.1 then(q.1,q.2.1,q.2.2++[x])else q) (upd H e.2.1 (.lst (kE (e.2.2++[x])))):=by
 obtain⟨ep,hd⟩:=I.dict;have one:∀q∈gs,q.1=e.1->q=e:=λq hq h=>by have kd:=I.kd;obtain⟨i,hi⟩:=Qb.mp hq;obtain⟨j,hj⟩:=Qb.mp he;have:i=j:=(Up (l:=gs.map (·.1)) (by simpa using(W9.mp hi).1) kd).mp (by rw[Wo,Wo,hi,hj];simp[h]);subst this;rw[hi]at hj;cases hj;rfl
 have adr:∀q∈gs,q.2.1=e.2.1->q=e:=λq hq h=>by have kd:=I.nd;obtain⟨i,hi⟩:=Qb.mp hq;obtain⟨j,hj⟩:=Qb.mp he;have:i=j:=(Up (l:=gs.map (·.2.1)) (by simpa using(W9.mp hi).1) kd).mp (by rw[Wo,Wo,hi,hj];simp[h]);subst this;rw[hi]at hj;cases hj;rfl
 have e1:(gs.map λq=>if q.1=e.1 then(q.1,q.2.1,q.2.2++[x])else q).map gf=gs.map gf:=by rw[Wq];refine WK λq _=>?_;simp only[Function.comp];split<;>rfl
 have e2:(gs.map λq=>if q.1=e.1 then(q.1,q.2.1,q.2.2++[x])else q).map (·.2.1)=gs.map (·.2.1):=by rw[Wq];refine WK λq _=>?_;simp only[Function.comp];split<;>rfl
 have e3:(gs.map λq=>if q.1=e.1 then(q.1,q.2.1,q.2.2++[x])else q).map (·.1)=gs.map (·.1):=by rw[Wq];refine WK λq _=>?_;simp only[Function.comp];split<;>rfl
 refine⟨⟨ep,%[aP (I.zP e he).symm,e1|hd]⟩,λq' jw=>?_,λq' jw=>?_,%[e2|I.nd],%[e3|I.kd],λa o h n=>?_,I.there⟩
 .obtain⟨q,hq,rfl⟩:=Wu.mp jw;by_cases h:q.1=e.1;.have:=one q hq h;subst this;rw[if_pos rfl];exact cD
  .rw[if_neg h];rw[aP λz=>h (by rw[adr q hq z])];exact I.lists q hq
 .obtain⟨q,hq,rfl⟩:=Wu.mp jw;split;.exact I.fresh q hq
  .exact I.fresh q hq
 .rw[aP λz=>by rw[z,I.fresh e he]at h;cases h];exact I.old a o h n
theorem GI.new(I:GI H1 g gs H)(hp:H p=none)(hz:z∉gs.map (·.1))(x ep):GI H1 g (gs++[(z,p,[x])]) (upd (upd (upd H p (.lst [])) g (.dN ep ((gs++[(z,p,[x])]).map gf))) p (.lst (kE [x]))):=by
 obtain⟨ep0,hd⟩:=I.dict;have ne:∀{a w},H a=some w->a≠p:=λe z=>by rw[z,hp]at e;cases e
 have gp:g≠p:=ne hd;have YS:H1 p=none:=by cases h:H1 p with|none=>rfl|some o=>have:=I.old p o h gp.symm;rw[hp]at this;cases this
 refine⟨⟨ep,%[aP gp|cD]⟩,λe he=>?_,λe he=>?_,?_,?_,λa o h n=>?_,I.there⟩
 .rcases WZ.mp he with he|he;.rw[aP (ne (I.lists e he)),aP (I.zP e he),aP (ne (I.lists e he))];exact I.lists e he
  .have:e=(z,p,[x]):= ~~~he;subst this;exact cD
 .rcases WZ.mp he with he|he;.exact I.fresh e he
  .have:e=(z,p,[x]):= ~~~he;subst this;exact YS
 .rw[WT];refine JU.mpr ⟨I.nd,U',λa ha b hb e=>?_⟩;obtain⟨q,hq,rfl⟩:=Wu.mp ha;have lz:b=p:= ~~~hb;exact ne (I.lists q hq) (e.trans lz)
 .rw[WT];refine JU.mpr ⟨I.kd,U',λa ha b hb e=>?_⟩;have lz:b=z:= ~~~hb;rw[e,lz]at ha;exact hz ha
 .have h':=I.old a o h n;rw[aP (ne h'),aP n,aP (ne h')];exact h'
end
theorem YT{g}{ia ib:Nat}{x}{z:Int}(I:GI H1 g gs H)(e1:M[i]?=some (some (.ref g)))(e2:M[ia]?=some (some (.str (toS x))))(e3:M[ib]?=some (some (.int z)))(hl:gs.length<Wb)(k6:∀e∈gs,e.2.2.length<Wb)(q:∀vQ H',GI H1 g vQ H'->iP vQ=kF (iP gs) x z->Dn.nx M H'):qB (uo K "list" ur (zK (dq i) (dq ib) (xu oO)) (uj (dq ia) oO)) Dn M H:=by
 obtain⟨ep,hd⟩:=I.dict;refine⟨.ref g,e1,g,rfl,⟨_,_,hd⟩,.int z,e3,U',λp hp=>?_⟩;have gp:g≠p:=λh=>by rw[h,hp]at hd;cases hd
 have I3:=I.alloc hp (.lst []);have YU:upd H p (.lst []) g=some (.dN ep (gs.map gf)):=%[aP gp|hd];have oh:((iP gs).any λe=>decide (e.1=z))=gs.any λe=>decide (e.1=z):=by unfold iP;rw[Ud];rfl
 have hv:valN (gs.map gf) (.i z)=(gs.find? λe=>decide (e.1=z)).map λe=>V.ref e.2.1:=by
  unfold valN;rw[Uk,Option.map_map];have:(λp:NE=>decide (p.1=NK.i z))∘gf=λe:GE=>decide (e.1=z):=by funext e;simp only[Function.comp,gf,NK.i.injEq]
  rw[this];rfl
 refine⟨false,ep,gs.map gf,.i z,YU,λpe YV=>?_,⟨.inl z,rfl,rfl⟩,~~~hl,λv rW=>?_,λzQ gk=>?_⟩;.obtain⟨e,_,rfl⟩:=Wu.mp YV;exact⟨.inl e.1,rfl,rfl⟩
 .rw[hv]at rW;cases hf:gs.find? λe=>decide (e.1=z)with|none=>rw[hf]at rW;cases rW|some e=>
   rw[hf]at rW;cases rW;have hm:=List.mem_of_find?_eq_some hf;have hz:e.1=z:=by simpa using U8 hf
   have He:=I3.lists e hm;refine⟨.inl ⟨rfl,_,.of He⟩,_,e2,e.2.1,kE e.2.2,_,rfl,rfl,He,by simpa[kE]using k6 e hm,?_⟩;have I4:=I3.hit hm x;have et:kE e.2.2++[V.str (toS x)]=kE (e.2.2++[x]):=#v[kE];show Dn.nx M _;rw[et];refine q _ _ I4 ?_;unfold kF;rw[oh,List.any_eq_true.mpr ⟨e,hm,decide_eq_true hz⟩,if_pos rfl];unfold iP;rw[Wq,Wq];refine WK λq _=>?_;simp only[Function.comp,hz];split<;>rfl
 .rw[hv]at zQ;have f6:∀e∈gs,e.1≠z:=λe he h=>by cases hf:gs.find? λe=>decide (e.1=z)with|some e=>rw[hf]at zQ;cases zQ|none=>exact absurd (decide_eq_true h) (Ug.mp hf e he)
  have Hf:(gs.any λe=>decide (e.1=z))=false:=by rw[JQ];intro e he h;exact f6 e he (~~~h)
  have YW:putN (gs.map gf) (.i z) (.int z) (.ref p)=(gs++[(z,p,[x])]).map gf:=by
   unfold putN;have:((gs.map gf).any λp=>decide (p.1=NK.i z))=false:=by rw[Ud,<-Hf];congr 1;funext e;simp only[Function.comp,gf,NK.i.injEq]
   rw[this,if_neg U',WT];rfl
  rw[YW];have I4:=I.new hp (z:=z) (λh=>by obtain⟨e,he,h⟩:=Wu.mp h;exact f6 e he h) x gk;have Hg:upd (upd H p (.lst [])) g (.dN gk ((gs++[(z,p,[x])]).map gf)) p=some (.lst []):=%[aP gp.symm|cD];refine⟨.inl ⟨rfl,_,.of Hg⟩,_,e2,p,[],_,rfl,rfl,Hg,by rw[Ju];decide,?_⟩;refine q _ _ I4 ?_;unfold kF;rw[oh,Hf,if_neg U'];unfold iP;rw[WT];rfl
theorem aY.YX(k:Ok c M U H)(ext:∀a o,H a=some o->H2 a=some o):aY c M U H M U H2:=by
 refine⟨⟨λa o h n=>ext a o (k.keep a o h n),λa z=>(k.bd a z).elim λo h=>⟨o,ext a o h⟩,λa z=>(k.eJ a z).elim λo h=>⟨o,ext a o h⟩,k.len,λj d q=>?_,λj d q=>?_,k.inj,k.pinned⟩,λa o h _=>ext a o h,λa h=>.inl h,λa o h=>⟨o,ext a o h⟩⟩;.obtain⟨v,g1,g2⟩:=k.slot j d q;exact⟨v,g1,g2.keep λb w e _=>ext b w e⟩
 .obtain⟨b,g1,g2,g3,g4⟩:=k.own j d q;exact⟨b,g1,g2.keep (λb w e _=>ext b w e) λw e=>ext b w e,g3,g4⟩
def oi:List (D×D)->Option (List (Tx×Int))|[]=>some []|(.str x,.int z)::r=>(oi r).map ((x,z)::.)|_=>none
theorem Hh:∀{ds:List (D×D)}{ps:List (Tx×Int)},oi ds=some ps->ds=ps.map λp=>(D.str p.1,D.int p.2)
 |[],ps,h=>by cases h;rfl|(a,b)::r,ps,h=>by
  cases a<;>cases b<;>first|(simp[oi]at h;done)|skip
  rename_i x z;simp only[oi,Q5]at h;obtain⟨q,hq,rfl⟩:=h;rw[Hh hq];rfl
def fM(ps:List (Tx×Int)):List (Int×List Tx):=ps.foldl (λgs p=>kF gs p.1 p.2) []
def mL(gs:List (Int×List Tx)):List (D×D):=gs.map λe=>(.int e.1,.lst (e.2.map .str))
def vR(ia ib:Nat)(ps:List (Tx×Int))(U:Dl):Dl:=match ps.getLast? with|none=>U|some p=>(U.set ia (some (.pure (.str p.1)))).set ib (some (.pure (.int p.2)))
def mM(ia ib:Nat)(ps:List (Tx×Int))(M:St):St:=match ps.getLast? with|none=>M|some p=>(M.set ia (some (.str (toS p.1)))).set ib (some (.int p.2))
theorem YY(gs:List (Int×List Tx))(x)(z:Int)(n:Nat)(h:gs.length<=n/\∀e∈gs,e.2.length<=n):(kF gs x z).length<=n+1/\∀e∈kF gs x z,e.2.length<=n+1:=by
 unfold kF;split
 .refine⟨by rw[Ws];lia,λe he=>?_⟩;obtain⟨q,hq,rfl⟩:=Wu.mp he;have:=h.2 q hq;split;.simp;lia
  .lia
 .refine⟨by simp;lia,λe he=>?_⟩;rcases WZ.mp he with he|he;.have:=h.2 e he;lia
  .have:e=(z,[x]):= ~~~he;subst this;simp
theorem zU(ps:List (Tx×Int)):∀k,k<=ps.length->(fM (ps.take k)).length<=k/\∀e∈fM (ps.take k),e.2.length<=k
 |0,_=>#v[fM]|k+1,h=>by
  have ih:=zU ps k Y';have e:ps.take (k+1)=ps.take k++[ps[k]]:=by rw[JV];simp[show k<ps.length by lia]
  rw[e];unfold fM at ih⊢;rw[List.foldl_append];exact YY _ _ _ k ih
def rX(np:List Nat)(i ia ib:Nat)(fe:DE):DS:=λU=>(fe U).bind λr ZW=>match r.d,ZW[i]? with
 |.dic ds,some (some (.own (.dic [])))=>match oi ds with|some ps=>if i≠ia/\i≠ib/\ia≠ib/\ia<ZW.length/\ib<ZW.length/\np.contains ia=false/\np.contains ib=false/\ps.length<Wb then .ok .next (vR ia ib ps (ZW.set i (some (.own (.dic (mL (fM ps)))))))else .stuck|none=>.stuck
 |_,_=>.stuck
section
variable{o:Expr}
theorem YZ{ps}(dm:Np c np)(k:Ok c M U H1)(e:U[i]?=some (some (.own (.dic []))))(eg:M[i]?=some (some (.ref g)))(I:GI H1 g gs H')(eG:iP gs=fM ps)(na:np.contains ia=false)(nb:np.contains ib=false):aY c M U H1 (mM ia ib ps M) (vR ia ib ps (U.set i (some (.own (.dic (mL (fM ps))))))) H':=by
 obtain⟨epg,hd⟩:=I.dict;let H2:Hp:=λa=>if a=g then H1 g else H' a;have Y0:H2 g=H1 g:=by show(if g=g then _ else _)=_;rw[if_pos rfl]
 have zV:∀a,a≠g->H2 a=H' a:=λa h=>by show(if a=g then _ else _)=_;rw[if_neg h]
 have A1:aY c M U H1 M U H2:=aY.YX k λa w h=>by
  by_cases z:a=g;.subst z;rw[Y0];exact h
  .rw[zV a z];exact I.old a w h z
 have dn:DN H2 (Av c M U) (gs.map gf) (mL (fM ps)):=by
  rw[<-eG];unfold mL iP;rw[Wq];have gt:∀{j:Nat}{p:NE}{q:D×D},(gs.map gf)[j]?=some p->(gs.map ((λe:Int×List Tx=>(D.int e.1,D.lst (e.2.map D.str)))∘λe:GE=>(e.1,e.2.2)))[j]?=some q->∃e∈gs,p=gf e/\q=(D.int e.1,D.lst (e.2.2.map D.str)):=λ{j p q}h1 h2=>by rw[Wo,Q5]at h1 h2;obtain⟨e1,h1,rfl⟩:=h1;obtain⟨e2,h2,rfl⟩:=h2;rw[h1]at h2;cases h2;exact⟨e1,Wj h1,rfl,rfl⟩
  refine⟨U',λj p q h1 h2=>?_,λj p q h1 h2=>?_,λj p q h1 h2=>?_⟩;.obtain⟨e,he,rfl,rfl⟩:=gt h1 h2;exact .int _
  .obtain⟨e,he,rfl,rfl⟩:=gt h1 h2;refine .lst (k.jc (I.fresh e he)) (.inl %[zV _ (I.zP e he)|I.lists e he]) #v[kE] λm v d h3 h4=>?_;unfold kE at h3;rw[Wo,Q5]at h3 h4;obtain⟨x1,h3,rfl⟩:=h3;obtain⟨x2,h4,rfl⟩:=h4;rw[h3]at h4;cases h4;exact .str _
  .obtain⟨e,he,rfl,rfl⟩:=gt h1 h2;rfl
 have A2:=Ok.zF (ep:=epg) A1.ok e eg dn;have hH:upd H2 g (.dN epg (gs.map gf))=H':=by
  funext a;by_cases z:a=g;.subst z;rw[cD];exact hd.symm
  .rw[aP z,zV a z]
 rw[hH]at A2;have A3:=A1.trans A2;unfold mM vR;cases ps.getLast? with|none=>exact A3|some p=>
 have ji:∀m,np.contains m=false->∀q∈c.pin,q.1≠m:=λm hm q hq z=>by have:=dm q hq;rw[z,hm]at this;cases this
 have A4:=Ok.set (v:=.str (toS p.1)) (r:=.pure (.str p.1)) A3 (.str _) (ji ia na);exact Ok.set (v:=.int p.2) (r:=.pure (.int p.2)) A4 (.int _) (ji ib nb)
theorem Y1(dm:Np c np)(hp:PassesOwn (model X.prog X.w) X.A X.env X.xe)(hc:X.calm=true)(ho:SE X c o fe)(hg:PG X (.Tuple elts ctx tp) (Ci X.K 2 (xi (oK ia) (xi (oK ib) Cg))))(dR:dM X body (qB (uo X.K "list" ur (zK (dq i) (dq ib) (xu oO)) (uj (dq ia) oO))))(hb:Ja o "items" X.env (eval o X.env)=eval o X.env:=by rfl)(hl:(apos.endLine==bF.line)=true:=by rfl)(hs:∀x,J7 (.Call (.Attribute o "items" apos) [] [] bF) X.env x=pure x:=by intro _;rfl):SS X c (.For (.Tuple elts ctx tp) (.Call (.Attribute o "items" apos) [] [] bF) body [] pos) (rX np i ia ib fe):=PS.weak (Co hp hc (Ye ho hb hl) hg dR hs) λDn M H⟨U,k,q⟩=>by
  unfold rX eB at q;rw[bp]at q;refine⟨U,k,aT q λr ZW q1 v H1 a1 r1=>?_⟩;have rp:=r1.rep;generalize r.d=d at q1 rp;split at q1;case h_2=>exact q1.elim
  rename_i ds es;split at q1;case h_2=>exact q1.elim
  rename_i ps hps;split at q1;case isFalse=>exact q1.elim
  rename_i hcond;obtain⟨nia,nib,nab,la,lb,na,nb,hz⟩:=hcond;have ja:=Hh hps;subst ja;cases rp with|@dic e ep ws _ h1 h2 h3 h4 h5 h6=>
   have hlen:ws.length=ps.length:= ~~~h3;have k1:=a1.ok;obtain⟨g,eg,oa,_⟩:=k1.own i _ es;obtain⟨epg,wg,hgg,dng⟩:=id oa;have Y2:wg=[]:=List.length_eq_zero_iff.mp (by rw[dng.len];rfl);subst Y2;have neg:e≠g:=λz=>h1 (.inr ⟨i,_,es,%[z|eg]⟩);have hla:ia<M.length:=by rw[<-k1.len];exact la
   have Y3:ib<M.length:=by rw[<-k1.len];exact lb
   have Y4:∀(j:Nat)(p:Tx×Int)kk y x,ps[j]?=some p->ws[j]?=some (kk,y,x)->y=.str (toS p.1)/\x=.int p.2:=λj p kk y x e1 e2=>by
    have ej:(ps.map λp:Tx×Int=>(D.str p.1,D.int p.2))[j]?=some (D.str p.1,D.int p.2):=by rw[Wo,e1];rfl
    have r1:=h4 j _ _ e2 ej;have r2:=h5 j _ _ e2 ej;constructor;.cases r1;rfl
    .cases r2;rfl
   refine⟨e,ep,ws,rfl,h2,λj m T' H2=>m=ws.length-j/\j<=ws.length/\T'=mM ia ib (ps.take j) M/\∃gs,GI H1 g gs H2/\iP gs=fM (ps.take j),⟨_,rfl,QE _,#v[mM],[],⟨⟨_,hgg⟩,U',U',U',U',λa o h _=>h,⟨_,hgg⟩⟩,#v[iP,fM]⟩,?_⟩;rintro j m T' H2⟨rfl,hj,hσ,gs,I,eG⟩;have Hi:H2 e=some (.dN ep ws):=I.old e _ h2 neg;by_cases bc:j<ws.length
   .right;have Hj:j<ps.length:=by lia
    have e1:ps[j]?=some ps[j]:=#v[Hj];have tk:ps.take (j+1)=ps.take j++[ps[j]]:=by rw[JV];simp[Hj]
    refine⟨⟨Hi,bc⟩,λTW H3=>TW=mM ia ib (ps.take (j+1)) M/\∃gs,GI H1 g gs H3/\iP gs=fM (ps.take (j+1)),λTW H3⟨z1,z2⟩=>⟨ws.length-(j+1),Y',rfl,bc,z1,z2⟩,λx H3 hh=>?_⟩;obtain⟨p,kk,y,xv,hp,hkv,e3,ex⟩:=hh;obtain⟨rfl,rfl⟩:=Y4 j ps[j] kk y xv e1 hkv;subst ex e3;refine⟨p,_,rfl,.of cD,rfl,_,_,rfl,_,_,rfl,rfl,?_⟩;have Y5:(T'.set ia (some (.str (toS ps[j].1)))).set ib (some (.int ps[j].2))=mM ia ib (ps.take (j+1)) M:=by rw[hσ,tk];unfold mM;rw[List.getLast?_append];simp only[List.getLast?_singleton,Option.some_or];cases(ps.take j).getLast? with|none=>rfl|some q=>simp only;rw[List.set_comm _ _ nab.symm,Uv,Uv]
    have gD:(T'.set ia (some (.str (toS ps[j].1)))).length=M.length/\T'[i]?=M[i]?:=by rw[hσ,Qg];unfold mM;cases(ps.take j).getLast? with|none=>exact⟨rfl,rfl⟩|some q=>simp only;refine⟨U',?_⟩;rw[Wa (Ne.symm nib),Wa (Ne.symm nia)]
    have bl:=zU ps j Y';have Y6:(iP gs).length=gs.length:=#v[iP];refine YT (i:=i) (ia:=ia) (ib:=ib) (x:=ps[j].1) (z:=ps[j].2) (I.alloc hp _) ?_ ?_ ?_ (by rw[<-Y6,eG];lia) (λq hq=>?_) λvQ H' I' Y7=>?_;.rw[Wa (Ne.symm nib),Wa (Ne.symm nia),gD.2];exact eg
    .rw[Wa (Ne.symm nab)];exact Wr (by have:=gD.1;rw[Qg]at this;lia)
    .exact Wr %[gD.1|Y3]
    .have:=bl.2 (q.1,q.2.2) (by rw[<-eG];exact Wu.mpr ⟨q,hq,rfl⟩);have:q.2.2.length<=j:=this;lia
    .refine⟨Y5,vQ,I',?_⟩;rw[Y7,eG,tk];unfold fM;rw[List.foldl_append];rfl
   .left;have Y8:j=ps.length:=by lia
    subst Y8;refine⟨⟨Hi,hlen.symm⟩,?_⟩;rw[JE]at hσ eG;rw[hσ];exact q1 _ _ (a1.trans (YZ dm k1 es eg I eG na nb))
end
theorem Y9{u}(h:u+64<Q1):u+8<Q1:=by lia
noncomputable def jx(x y:D):Option S:=match x with|.dic ds=>ip (.dic ds) y|x=>aN x y
theorem Y_(hu:X.A.units+64<Q1):g9 X λx y H Q=>vK x y H Q\/rK x y H Q\/oP X.K x y H Q:=(G0 hu).or (FJ hu)
theorem Za:cB (λx y H Q=>vK x y H Q\/rK x y H Q\/oP K x y H Q) jx:=by intro c M U H x y d e s Q k rx ry hp q;cases d with|dic ds=>exact .inl (G1 c M U H x y (.dic ds) e s Q k rx ry hp q)|_=>exact .inr (FA c M U H x y _ e s Q k rx ry hp q)
def df:=eK (λi j=>i==j) λx y=>x==y
def eT:=eK (λi j=>!i==j) λx y=>!x==y
theorem Hk(i j:Str):(i==j)=(i.cps.toList==j.cps.toList):=by rw[Qp];cases i;cases j;simp
theorem vU:bD X (WF .Eq) (mq (λi j=>i==j) λx y=>x==y):=(oM (g:=λi j=>i==j) λ_ _ _ _ _ _ _ q=>PyProof.Rows.eq_int q).or (q_ λi j t u Q s q=>PyProof.Rows.eq_str %[Hk|q])
theorem Hl:bD X (WF .NotEq) (mq (λi j=>!i==j) λx y=>!x==y):=(oM (g:=λi j=>!i==j) λ_ _ _ _ _ _ _ q=>PyProof.Rows.ne_int q).or (q_ (g:=λx y=>!x==y) λi j t u Q s q=>PyProof.Rows.ne_str %[bne,Hk|q])
def kG(H:Hp)(fa:Addr)(nm qual:Str)(params:Arguments)(body:List Stmt)(scope:Scope)(cl:List (Str×Addr)):Prop:=∃doc pm c' eU oc,H fa=some (.frz (Ul nm qual params body scope cl doc pm c' eU) (.ext λ_=>True))/\H c'=some (.frz oc (.ext λ_=>True))/\∃vs tq,oc.data=.fields vs/\vs[1]?=some (.str qual tq)
section
variable{fs:List Addr}{nm:Str}{fr:List Str}
theorem kG.keep(C:kG H fa nm qual params body scope cl)(k:∀b o u,H b=some (.frz o u)->H' b=some (.frz o u)):kG H' fa nm qual params body scope cl:=by obtain⟨doc,pm,c',eU,oc,h1,h2,h3⟩:=C;exact⟨doc,pm,c',eU,oc,k _ _ _ h1,k _ _ _ h2,h3⟩
structure oj(H:Hp)(fs:List Addr)(h:Heap)(cl:List (Str×Addr))(fr:List Str)(fv:List V):Prop where
 cell:∀x c,cl.lookup x=some c->(∃v,h.IsCell c v)/\H c=none/\c∉fs
 inj:∀x y c,cl.lookup x=some c->cl.lookup y=some c->x=y
 val:∀(i:Nat)x v,fr[i]?=some x->fv[i]?=some v->∃c u,cl.lookup x=some c/\h.IsCell c (some u)/\RelV v u
 rY:fv.length=fr.length
theorem oj.keep(C:oj H fs h cl fr fv)(k:∀b o,h.get? b=some o->H b=none->b∉fs->h'.get? b=some o/\H' b=none):oj H' fs h' cl fr fv:=by
 have kc:∀x c v,cl.lookup x=some c->h.IsCell c v->h'.IsCell c v:=λx c v e⟨o,ho,hd⟩=>⟨o,(k c o ho (C.cell x c e).2.1 (C.cell x c e).2.2).1,hd⟩;refine⟨λx c e=>?_,C.inj,λi x v e1 e2=>?_,C.rY⟩;.obtain⟨⟨v,o,ho,hd⟩,q1,q2⟩:=C.cell x c e;exact⟨⟨v,o,(k c o ho q1 q2).1,hd⟩,(k c o ho q1 q2).2,q2⟩
 .obtain⟨c,u,q1,q2,q3⟩:=C.val i x v e1 e2;exact⟨c,u,q1,kc x c _ q1 q2,q3⟩
end
section
variable{s:W4}{nm:Str}{fr:List Str}{p:Str}{v:V}{k:Nat}{t:TS}{Q:VK}
theorem Zb(I:Inv X pins M H s)(C:kG H fa nm qual params body scope cl)(CC:oj H X.fs s.heap cl fr fv)(L:vD p fr scope)(hr:cP (k+1) X.A)(rv:RelV v u)(hb:∀doc pm aW eU u,bindArgs (PySem.W.fnX nm qual params body scope cl .none .none doc pm none aW eU) ⟨[u],[]⟩=pure [(p,u)])(dR:∀cd,cP k (X.A.deeper (JC qual scope s.heap.objs.size fa cd cl))->dM (pN X.prog X.w X.K X.mg X.base (p::(fr++ls)) qual scope fa cd cl X.A X.stack s H) body t)(q:t {nx:=λ_ H'=>Q .aJ H',rt:=Q} (some v::(fv.map some++ls.map λ_=>none)) H):W7 (model X.prog X.w) X.A (call (.ref fa) [u]) (EP X pins M Q) X.xe s:=by
 obtain⟨doc,pm,c',eU,oc,h1',h4',vs,tq,h5,h6⟩:=C;have h1:=(I.aB fa _ h1').1;have h4:s.heap.get? c'=some oc:=(I.aB c' _ h4').1;have e0:=I.xw;have lim:s.heap.NoLimit:=e0.mod.nolimit.keeps λb o e=>(e0.bs b o e).1;refine wpAny_call (codeAny_mono (R:=CR dS X.stack X.prog X.w H s Q E0) ?_ λr s' hq=>?_)
 .refine codeAny_call_function hr.depth h1 rfl L.co L.gen rfl ⟨c',oc,vs,tq,rfl,h4,h5,h6⟩ ?_;rw[hb];refine W3 ?_;refine wpAny_newFunctionEnv L.Gj (λy hy=>by have:y=(p,u):= ~~~hy;subst this;exact L.loc) (λh' rP x_=>?_) L.kind;have hk:∀b o,s.heap.get? b=some o->h'.get? b=some o:=λb o e=>x_.extBut b o (WR (Wp e)) (W6 _ e);refine⟨lim.keeps hk,?_⟩;show Jy _ _ (.func body (JC qual scope s.heap.objs.size fa (.ref c') cl)) _ _;refine codeAny_func ?_;have J:Inv (pN X.prog X.w X.K X.mg X.base (p::(fr++ls)) qual scope fa (.ref c') cl X.A X.stack s H) [] (some v::(fv.map some++ls.map λ_=>none)) H {s with heap:=h',toks:=s.toks+[(p,u)].length}:=by
   have kR:∀b:Addr,b∉(pN X.prog X.w X.K X.mg X.base (p::(fr++ls)) qual scope fa (.ref c') cl X.A X.stack s H).ex:=λb z=>absurd (show b∈([]:List Addr)from z) U';refine⟨⟨e0.mod,L.kind,rfl,rfl,Wg _,CC.inj,λy hy=>?_,λy c z _=>by(have z':false=true:=z;cases z'),λ_=>hr.hd,Around.frames_deeper e0.frames,.inr ⟨rfl,rfl⟩,λb z=>absurd z (kR b),e0.bs,e0.kM,λb _ _=>kR b,λb z=>absurd z (kR b),e0.iC,e0.m4⟩,rfl,e0.bare,Un.kept hk,⟨_,rP,λi y w e1 e2 e3=>?_⟩,λy c e=>?_,e0.aB.fresh (Wg _),λy c e=>(CC.cell y c e).2.1,λz hz=>absurd (show z∈([]:List (Addr×Obj))from hz) U',e0.aB.kept hk,?_⟩
   .have hy:scope.names.lookup y=some .cell\/scope.names.lookup y=some .free:=hy;rcases hy with hy|hy;.exact absurd rfl (L.Gj _ (WC hy))
    .obtain⟨i,hi,rfl⟩:=List.getElem_of_mem (L.free y hy);have Zc:i<fv.length:=%[CC.rY|hi];obtain⟨c,u',q1,_⟩:=CC.val i fr[i] fv[i] #v[hi] #v[Zc];exact⟨c,q1⟩
   .cases i with|zero=>simp at e2;have e1:some p=some y:=e1;cases e1;subst e2;refine⟨u,rv,.inl ⟨L.loc,?_⟩⟩;simp|succ i=>
     have e1:(fr++ls)[i]?=some y:=e1;have e2:(fv.map some++ls.map λ_=>(none:Option V))[i]?=some (some w):=e2;have hi:i<fr.length:=by
      rcases Nat.lt_or_ge i fr.length with z|z;.exact z
      .rw[Jo (by simpa[CC.rY]using z),Wo]at e2;cases z:ls[i-(fv.map some).length]? with|none=>rw[z]at e2;cases e2|some _=>rw[z]at e2;cases e2
     rw[Qn hi]at e1;rw[Qn (by simpa[CC.rY]using hi),Wo]at e2;have e2:fv[i]?=some w:=by cases z:fv[i]? with|none=>rw[z]at e2;cases e2|some a=>rw[z]at e2;cases e2;rfl
     obtain⟨c,u',q1,⟨o,ho,hd⟩,q3⟩:=CC.val i y w e1 e2;exact⟨u',q3,.inr ⟨.inr (L.Xj y (Wj e1)),c,q1,o,hk c o ho,hd⟩⟩
   .obtain⟨⟨w,o,ho,hd⟩,_⟩:=CC.cell y c e;exact⟨w,o,hk c o ho,hd⟩
   .show(some v::(fv.map some++ls.map λ_=>none)).length=(p::(fr++ls)).length;simp[CC.rY]
  refine Qy (dR (.ref c') (hr.deeper _) [] _ _ H _ J q) (λfl s' hs=>?_) λe s' z=>z.elim;cases fl with|ret u'=>obtain⟨v',M',H',J',r',q'⟩:=hs;exact⟨v',H',J'.os,J'.bare,J'.base,J'.aB,r',q'⟩|next=>obtain⟨M',H',J',q'⟩:=hs;exact⟨.aJ,H',J'.os,J'.bare,J'.base,J'.aB,rfl,q'⟩|brk=>obtain⟨_,_,_,q'⟩:=hs;exact False.elim q'|cont=>obtain⟨_,_,_,q'⟩:=hs;exact False.elim q'
 .cases r with|error e=>exact hq.elim|ok fl=>cases fl with|ret u=>exact I.after hq|next=>exact False.elim hq|brk=>exact False.elim hq|cont=>exact False.elim hq
end
section
variable{s:W4}{nm q:Str}{c P:Addr}{Q:Flow->W4->Prop}
theorem Zd(I:Inv X pins M H s)(hP:H P=some (.ctab pos q))(hq:Um X.env nm nm=q)(pQ:params.defaults=[])(zX:params.kw_defaults=[])(zY:annTrees params none X.env=[])(mN:closureFor scope X.env=pure cl)(vV:X.env.code=.ref c)(CH:JD X.K c P=true)(zZ:Wz≠P)(hB:X.base.BuiltinsAt X.mg P)(hN:X.N.Nodup)(hj:X.N[j]?=some nm)(hl:X.env.scope.names.lookup nm=some .local)(h:∀fa H' s',Inv X pins (M.set j (some (.ref fa))) H' s'->(∀a o,H a=some o->H' a=some o)->kG H' fa nm q params body scope cl->Q .next s'):W7 (model X.prog X.w) X.A (exec (.FunctionDef nm params body [] none [] scope none nm pos) X.env) Q E s:=by
 subst hq;obtain⟨ps,hp,ht,hr⟩:=I.aB P _ hP;have Hm:=PySem.W.codeHd_of_K I.fm CH;have hg:s.heap.Ns Wz X.mg:=I.mod.glob.keeps I.bk;have hb:=hB.keeps I.bk;have fin:∀(H1:Hp)(h':Heap)(tk:Tok)(doc pm eU:Value)(c':Addr)(oc:Obj),Inv X pins M H1 {s with heap:=h',toks:=tk}->(∀a o,H a=some o->H1 a=some o)->H1 c'=some (.frz oc (.ext λ_=>True))->(∃vs tq,oc.data=.fields vs/\vs[1]?=some (.str (Um X.env nm nm) tq))->W7 (model X.prog X.w) X.A (storeName X.env nm (.ref h'.objs.size)) (λ_ m8=>Q .next m8) E {s with heap:=h'.push (Ul nm (Um X.env nm nm) params body scope cl doc pm c' eU),toks:=tk}:=by intro H1 h' tk doc pm eU c' oc J up iX hoc;have hn:H1 h'.objs.size=none:=J.aB.fresh (Wg _);have mK:∀a o,H1 a=some o->upd H1 h'.objs.size (.frz (Ul nm (Um X.env nm nm) params body scope cl doc pm c' eU) (.ext λ_=>True)) a=some o:=λa o e=>%[aP (fF e hn)|e];have J2:=J.laid (a:=h'.objs.size) (t':=tk) (o:=.frz (Ul nm (Um X.env nm nm) params body scope cl doc pm c' eU) (.ext λ_=>True)) (h':=h'.push (Ul nm (Um X.env nm nm) params body scope cl doc pm c' eU)) (λb o e=>W6 _ e) (Wg _) ⟨Wh _ rfl,trivial,⟨_,Wh _ rfl⟩,by grind⟩;refine w_ J2 hN hj (.inl hl) (v:=.ref h'.objs.size) rfl (λs' I'=>h _ _ s' I' (λa o e=>mK a o (up a o e)) ⟨doc,pm,c',eU,oc,cD,mK _ _ iX,hoc⟩) (.inr hl)
 refine PySem.W.nestDef_K pQ zX zY ?_;cases e:codeAmong pos ps.toList with|some cv=>obtain⟨c',oc,rfl,q1,q2⟩:=hr cv e;refine PySem.W.makeFunction_hit mN I.ok.glob hg vV Hm hp ht e hb λeU doc h' tk hk hsz=>?_;exact fin H h' tk doc _ eU c' oc (I.un (Un.kept hk) (I.aB.kept hk)) (λ_ _ z=>z) q1 q2|none=>
  refine PySem.W.makeFunction_K mN I.ok.glob hg vV Hm hp ht e zZ hb λc' eU doc h' tk hx Ho bc Ze Hq=>?_;obtain⟨c2,oc,vs,tq,ec,hoc,hd,hv⟩:=Ze;cases ec;have hn:H c'=none:=I.aB.fresh Ho;have up:∀a o,H a=some o->upd H c' (.frz oc (.ext λ_=>True)) a=some o:=λa o z=>%[aP (fF z hn)|z];have nP:∀b,H b=none->b≠P:=λb n z=>by grind
  refine fin (upd H c' (.frz oc (.ext λ_=>True))) h' tk doc _ eU c' oc (I.un ⟨λb o e n _ _=>hx b o (nP b n) e,λb o e n _ _=>⟨o.slots,hx b o (nP b n) e⟩,λb o e n _=>%[aP (WR (WJ (Wp e) Ho))|n],λb o e _=>?_,λb xs e=>up _ _ e,λb o u e=>up _ _ e,λb ps e=>⟨#[],by rw[up _ _ e];simp⟩⟩ ?_) up cD ⟨vs,tq,hd,hv⟩
  .by_cases z:b=P;.exact⟨_,%[z|Hq]⟩
   .exact⟨o,hx b o z e⟩
  .intro a o ea;by_cases h1:a=c';.subst h1;rw[cD]at ea;cases ea;exact⟨hoc,trivial,⟨_,hoc⟩,by grind⟩
   .rw[aP h1]at ea;by_cases h2:a=P
    .subst h2;rw[hP]at ea;cases ea;refine⟨_,Hq,?_,λcv z=>?_⟩;.rw[Array.toList_append];exact Gk (a:=.none) ht
     .rw[Array.toList_append]at z;have:=Gm ht e z;subst this;exact⟨c',oc,rfl,cD,vs,tq,hd,hv⟩
    .refine(I.aB a o ea).gH (λb u hb q=>hx b u (λz=>?_) q) (λb q=>up _ _ q) (λb xs q=>up _ _ q) λb o u q=>up _ _ q;grind
end
noncomputable def jY(m:Nat)(fb:DS)(dv:List D):D->Option D:=λd=>match fb (some (.pure d)::(dv.map (λx=>some (.pure x))++WG m none))with|.ok (.ret r) _=>some r.d|_=>none
theorem Zf{l:List D}{m:Nat}(i:Nat)(x:D):((l.map λx=>some (S.pure x))++WG m none:Dl)[i]?≠some (some (.own x)):=λe=>by have:=Wj e;simp[List.mem_replicate]at this
section
variable{nm:Str}{fr:List Str}{p:Str}{k:Nat}{fb:DS}
theorem Zg(hex:X.ex=[])(hH:c.H₀=X.H₀)(hp:c.pin=[])(C:kG X.H₀ fa nm qual params body scope cl)(CC:oj X.H₀ X.fs X.s₀.heap cl fr fv)(L:vD p fr scope)(hr:cP (k+1) X.A)(hb:∀doc pm aW eU u,bindArgs (PySem.W.fnX nm qual params body scope cl .none .none doc pm none aW eU) ⟨[u],[]⟩=pure [(p,u)])(rv:aH X.H₀ c.B fv dv)(dR:∀(c':Fc)cd (s:W4)H,cP k (X.A.deeper (JC qual scope s.heap.objs.size fa cd cl))->c'.pin=[]->eR (pN X.prog X.w X.K X.mg X.base (p::(fr++ls)) qual scope fa cd cl X.A X.stack s H) c' body fb):vE X c fa (jY ls.length fb dv):=by
 have lA:∀a,¬c.I a:=λa⟨i,z⟩=>by rw[hp]at z;simp at z
 have C1:∀pins M H s,Inv X pins M H s->kG H fa nm qual params body scope cl:=λpins M H s I=>C.keep I.base.j6;have C2:∀pins M H s,Inv X pins M H s->oj H X.fs s.heap cl fr fv:=λpins M H s I=>CC.keep λb o e n hb=>⟨I.base.keep b o e n hb (by rw[hex];simp),I.base.free b o e n (by rw[hex];simp)⟩;refine⟨λpins M H s I=>?_,λpins s M U H v u d d' Q I ok rd ru hF q=>?_⟩;.obtain⟨doc,pm,c',eU,oc,h1,_⟩:=C1 pins M H s I;exact⟨_,(I.aB fa _ h1).1⟩
 .have key:∀(i:Nat)w x,fv[i]?=some w->dv[i]?=some x->Rep H (Av c M U) w x:=λi w x e1 e2=>by
   have r0:=rv.2 i w x e1 e2;have r1:Rep X.H₀ (Av c M U) w x:=r0.aV λa z=>by
    rcases z with z|⟨j,d,z1,z2⟩;.exact .inl z
    .obtain⟨b,z3,_,z4,_⟩:=ok.own j d z1;rw[z2]at z3;cases z3;rcases z4 with z4|z4;.exact absurd z4 (lA _)
     .exact .inr (by rw[<-hH];exact z4)
   exact r1.keep λa o e _=>ok.keep a o %[hH|e] (lA a)
  refine Zb (ls:=ls) (t:=nM ⟨H,Av c M U,[],λ_ _=>False⟩ fb) I (C1 pins M H s I) (C2 pins M H s I) L hr ru hb (λcd rZ=>dR _ cd s H rZ rfl) ?_;have fG:∀(i:Nat)x,(some (S.pure d)::(dv.map (λx=>some (S.pure x))++WG ls.length none))[i]?=some (some (.own x))->False:=λi x e=>Zf (l:=d::dv) i x e;have vW:∀b,Av ⟨H,Av c M U,[],λ_ _=>False⟩ (some v::(fv.map some++ls.map λ_=>none)) (some (S.pure d)::(dv.map (λx=>some (S.pure x))++WG ls.length none)) b->Av c M U b:=λb z=>by
   rcases z with z|⟨i,x,z1,_⟩;.exact z
   .exact(fG i x z1).elim
  refine⟨_,⟨λa o e _=>e,λa z=>ok.uI z,λa⟨i,z⟩=>by simp at z,?_,λi x e=>?_,λi x e=>(fG i x e).elim,λi j a x x' e=>(fG i x e).elim,λz hz=>by simp at hz⟩,?_⟩;.simp[rv.1]
  .cases i with|zero=>simp at e;subst e;exact⟨v,rfl,rd.aV λb z=>.inl (vW b z)⟩|succ i=>
    rw[JJ]at e;have hi:i<dv.length:=by
     rcases Nat.lt_or_ge i dv.length with z|z;.exact z
     .rw[Jo (~~~z)]at e;have:=Wj e;simp[List.mem_replicate]at this
    rw[Qn (~~~hi),Wo]at e;cases z:dv[i]? with|none=>rw[z]at e;cases e|some y=>rw[z]at e;cases e;have gL:i<fv.length:=%[rv.1|hi];refine⟨fv[i],?_,(key i fv[i] x #v[gL] z).aV λb z=>.inl (vW b z)⟩;rw[JJ,Qn (~~~gL),Wo];simp[gL]
  .unfold jY at hF;cases e:fb (some (.pure d)::(dv.map (λx=>some (.pure x))++WG ls.length none))with
 |exc x S'=>rw[e]at hF;cases hF|stuck=>rw[e]at hF;cases hF
 |ok fl ZB=>rw[e]at hF;cases fl with|ret r=>
 cases hF;intro M' H' a v' rs;have up:∀b o,H b=some o->H' b=some o:=λb o eb=>a.ok.keep b o eb λ⟨i,z⟩=>by simp at z
 exact q v' H' (.mono ok up) (rs.rep.aV λb z=>.inl (.inl z))|next=>cases hF|brk=>cases hF|cont=>cases hF
end
def z8(P:Wm)(w:Wv)(K:W5)(mg:Str->Option Value)(base:Heap)(n:Nat)(N:List Str)(qual:Str)(scope:Scope)(f:Addr)(k:Nat)(il:Addr->(D->Option D)->DS):List Env->W4->Sp:=λouter s vs H Q _=>∃(l:List D)(fa:Addr)(F:D->Option D)(B:Addr->Prop),vs.length=n/\Ok ⟨H,B,[],λ_ _=>False⟩ (cy vs) (cA (l.map .pure)) H/\(∀aW A E,cP k (A.deeper (Jt qual scope s.heap.objs.size f aW))->A.frames=some outer->vE (fZ dS P w K mg base N qual scope f aW A outer s H E).fW ⟨H,B,[],λ_ _=>False⟩ fa F)/\∃r a_,fB (il fa F) N.length (l.map .pure)=some (r,a_)/\∀v' H',aY ⟨H,B,[],λ_ _=>False⟩ (cy vs) (cA (l.map .pure)) H (cy vs) (cA a_) H'->bu ⟨H,B,[],λ_ _=>False⟩ (cy vs) (cA a_) H H' v' r->Q v' H'
theorem Hr:∀(l:List D)i vs,cW i (l.map .pure) vs=[]|[],_,[]=>rfl|[],_,_::_=>rfl|_::_,_,[]=>rfl|d::l,i,v::vs=>#v[cW,Hr l]
theorem Ht{st f k}(F:dU K x qual st f fd)(S0:fY N ps (bK st))(dR:∀c aW (A:Wt)outer (s:W4)H E fa Fn,cP k (A.deeper (Jt qual (bK st) s.heap.objs.size f aW))->Np c []->vE (fZ dS P w K mg base N qual (bK st) f aW A outer s H E).fW c fa Fn->eR (fZ dS P w K mg base N qual (bK st) f aW A outer s H E).fW c (d_ st) (il fa Fn)):zm P w K mg base (k+1) f fd ps (z8 P w K mg base ps.length N qual (bK st) f k il):=by
 refine F.Xi S0 (λouter s vs H Q E h=>?_) λaW A outer s H vs Q E hr ke h=>?_;.obtain⟨l,fa,Fn,B,h,_⟩:=h;exact h
 .obtain⟨l,fa,Fn,B,hl,ok,z9,r,a_,hrun,q⟩:=h;refine⟨nM ⟨H,B,[],λ_ _=>False⟩ (il fa Fn),dR ⟨H,B,[],λ_ _=>False⟩ aW A outer s H E fa Fn hr (λp hp=>by simp at hp) (z9 aW A E hr ke),?_⟩;have jO:(l.map S.pure).length=vs.length:=by have:=ok.len;simpa using this
  have bV:gn N vs=cy vs++WG (N.length-(l.map S.pure).length) none:=by rw[jO];rfl
  refine⟨bY N.length (l.map .pure),%[bV|ok.ext _],?_⟩;unfold fB at hrun;unfold eB;have ji:cW 0 (l.map .pure) vs=[]:=Hr l 0 vs;cases e:il fa Fn (bY N.length (l.map .pure))with|exc x S'=>rw[e]at hrun;cases hrun|stuck=>rw[e]at hrun;cases hrun|ok fl ZB=>rw[e]at hrun;show∀M' H',aY _ (gn N vs) (bY N.length (l.map .pure)) H M' ZB H'->fin _ _ M' ZB H' fl;intro M' H' a;rw[bV]at a;simp only at hrun;cases fl with
 |brk=>cases hrun|cont=>cases hrun|next=>simp only[e_,Q3]at hrun;cases eo:da 0 (l.map .pure) ZB with|none=>rw[eo]at hrun;cases hrun|some os=>rw[eo]at hrun;cases hrun;obtain⟨l1,l2⟩:=pw (vs:=vs) (by rw[ji]) ok a eo;exact q .aJ H' l1 .aJ
 |ret r'=>simp only[e_,Q3]at hrun;cases eo:da 0 (l.map .pure) ZB with|none=>rw[eo]at hrun;cases hrun|some os=>rw[eo]at hrun;cases hrun;obtain⟨l1,l2⟩:=pw (vs:=vs) (by rw[ji]) ok a eo;exactλv' rv=>q v' H' l1 (l2 v' _ rv)
def om:List (Option D)->Option (List D)|[]=>some []|some d::r=>(om r).map (d::.)|none::_=>none
def mO:List Nat->Dl->Option (List D)|[],_=>some []|j::js,U=>match U[j]? with|some (some (.pure d))=>(mO js U).map (d::.)|_=>none
def lD(m:Nat)(W:(D->Option D)->List D->Option D)(js:List Nat)(fb:DS)(as:List Ak):DE:=λU=>(cV as U).bind λds ZW=>match om ds,mO js ZW with
 |some l,some dv=>match W (jY m fb dv) l with|some d'=>.ok (.pure d') ZW|none=>.stuck
 |_,_=>.stuck
noncomputable def iu(b:Addr->(D->Option D)->DS)(m:Nat)(fa:Addr)(F:D->Option D)(l:List D):Option D:=(fB (b fa F) m (l.map .pure)).map λp=>p.1.d
def r9(P:Wm)(w:Wv)(K:W5)(mg:Str->Option Value)(base:Heap)(k:Nat)(x:Str)(n m:Nat)(il:Addr->(D->Option D)->DS):Prop:=∃(f:Addr)(fd:Qi)(ps:List Str)(qual:Str)(scope:Scope)(N:List Str),N.length=m/\mg x=some (.ref f)/\Jz K (.ref f)=true/\Binds K fd ps []/\ps.length=n/\zm P w K mg base (k+1) f fd ps (z8 P w K mg base n N qual scope f k il)
theorem Zh{ds}(h:km c M U H vs as ds):∀{l:List D},om ds=some l->aH H (Av c M U) vs l/\vs.length=as.length:=by induction h with
 |nil=>intro l e;cases e;exact⟨.nil,rfl⟩|@val v d f vs as ds r _ ih=>intro l e;simp only[om]at e;cases z:om ds with|none=>rw[z]at e;cases e|some l'=>rw[z]at e;cases e;exact⟨.cons r (ih z).1,#v[(ih z).2]⟩
 |io _ _ _=>intro l e;cases e
theorem Hu(k:Ok c M U H):∀{js:List Nat}{dv:List D},mO js U=some dv->∃fv:List V,fv.length=js.length/\(∀(i:Nat)j,js[i]?=some j->∃v,fv[i]?=some v/\M[j]?=some (some v))/\aH H (Av c M U) fv dv
 |[],dv,h=>by cases h;exact⟨[],rfl,λi j e=>by simp at e,.nil⟩|j::js,dv,h=>by
  simp only[mO]at h;split at h;.rename_i d e;obtain⟨v,e1,r⟩:=k.slot j d e;cases z:mO js U with|none=>rw[z]at h;cases h|some l=>rw[z]at h;cases h;obtain⟨fv,h1,h2,h3⟩:=Hu k z;refine⟨v::fv,#v[h1],λi j' ej=>?_,.cons r h3⟩;cases i with|zero=>simp at ej;subst ej;exact⟨v,rfl,e1⟩|succ i=>obtain⟨v',q1,q2⟩:=h2 i j' (~~~ej);exact⟨v',~~~q1,q2⟩
  .cases h
section
variable{fb:DS}{nm q:Str}{fr:List Str}{p:Str}{kl kw m:Nat}
theorem Zi(F:r9 X.prog X.w X.K X.mg X.base kw x n m il)(C:kG c.H₀ fa nm q params body scope cl)(ji:Np c [])(hr:cP (kw+1) X.A)(Zj:kl+1<=kw)(hg:Gl X x)(ha:SX X c (e::es) as)(hn:as.length=n)(gA:∀i,Ak.io i∈as->False)(kO:∀x,X.fn x=true)(jR:∀x a,cl.lookup x=some a->X.env.cells.lookup x=some a)(L:vD p fr scope)(Hv:js.length=fr.length)(hN:∀(i:Nat)x j,fr[i]?=some x->js[i]?=some j->X.N[j]?=some x/\X.env.scope.names.lookup x=some .cell/\∃a,cl.lookup x=some a)(hb:∀doc pm aW eU u,bindArgs (PySem.W.fnX nm q params body scope cl .none .none doc pm none aW eU) ⟨[u],[]⟩=pure [(p,u)])(dR:∀(c':Fc)cd (A:Wt)outer (s:W4)H,cP kl (A.deeper (JC q scope s.heap.objs.size fa cd cl))->c'.pin=[]->eR (pN X.prog X.w X.K X.mg X.base (p::(fr++ls)) q scope fa cd cl A outer s H) c' body fb)(gZ:(x==("__debug__":Str))=false:=by decide)(he:We (e::es) X.env=(false,eval e X.env)::We es X.env:=by rfl)(cQ:(Qz pos (We es X.env)).any (·.1)=false:=by rfl):SE X c (.Call (.Name x pp) (e::es) [] pos) (lD ls.length (iu il m fa) js fb as):=by
 obtain⟨f,fd,ps,qual,sc,N,hNm,nt,hk,hbi,h2,ok⟩:=F;have r_:c.pin=[]:=by cases z:c.pin with|nil=>rfl|cons a l=>have:=ji a %[z|.head _];simp at this
 have lA:∀a,¬c.I a:=λa⟨i,z⟩=>by rw[r_]at z;simp at z
 intro pins s M H Q I⟨U,k,qq⟩;refine JN (xa I hg nt ?_ gZ);refine PySem.W.callWith_K (h₀:=X.base) I.ok.mod.qw hk ?_ he cQ;unfold lD at qq;rw[bp]at qq;refine aM (ha pos pins s M H (λvs H1=>∃l ZW dv d',vs.length=n/\aY c M U H M ZW H1/\aH H1 (Av c M ZW) vs l/\mO js ZW=some dv/\iu il m fa (jY ls.length fb dv) l=some d'/\∀v' H3,aY c M U H M ZW H3->Rep H3 (Av c M ZW) v' d'->Q v' H3) I ⟨U,k,λi hi=>(gA i hi).elim,aT qq λds ZW q1 vs H1 a1 r1=>?_⟩) λus s2 hh=>?_
 .split at q1
  .rename_i l dv e1 e2;split at q1;.rename_i d' ew;obtain⟨z1,z2⟩:=Zh r1 e1;exact⟨l,ZW,dv,d',z2.trans hn,a1,z1,e2,ew,λv' H3 a3 r3=>q1 v' H3 a3 r3⟩
   .exact q1.elim
  .exact q1.elim
 .obtain⟨vs,H2,I2,rr,l,ZW,dv,d',hvl,a1,rl,ec,ew,hq⟩:=hh;refine⟨I2.fm,?_⟩;have k2:=a1.ok;have C2:kG H2 fa nm q params body scope cl:=C.keep λb o u z=>k2.keep b _ z (lA b);obtain⟨fv,l1,l2,rf⟩:=Hu k2 ec;have CC:oj H2 (gX X.stack) s2.heap cl fr fv:=by
   refine⟨λx a e=>⟨I2.cell x a (jR x a e),I2.iU x a (jR x a e),I2.Xn kO (jR x a e)⟩,λx y a e1 e2=>I2.ok.inj x y a (jR x a e1) (jR y a e2),λi x v e1 e2=>?_,by rw[l1,Hv]⟩;have hi:i<js.length:=by rw[Hv];exact(W9.mp e1).1
   obtain⟨w',q1,q2⟩:=l2 i js[i] #v[hi];rw[e2]at q1;cases q1;obtain⟨z1,z2,a,z3⟩:=hN i x js[i] e1 #v[hi];obtain⟨m',_,hl⟩:=I2.loc;obtain⟨u,r1,r2⟩:=hl js[i] x v z1 q2 (.inr (.inl z2));rcases r2 with⟨z,_⟩|⟨_,a',y1,y2⟩;.have z':X.env.scope.names.lookup x=some .local:=z;rw[z2]at z';cases z'
   .rw[jR x a z3]at y1;cases y1;exact⟨a,u,z3,y2,r1⟩
  have sp:z8 X.prog X.w X.K X.mg X.base n N qual sc f kw il X.stack s2 vs H2 Q E0:=by
   obtain⟨⟨rs,a_⟩,hrun,rfl⟩:=Option.map_eq_some_iff.mp ew;have fG:∀(i:Nat)z,(cA (l.map S.pure):Dl)[i]?=some (some (.own z))->False:=λi z e=>by have:=Wj e;simp[cA]at this
   have vW:∀b,Av ⟨H2,Av c M ZW,[],λ_ _=>False⟩ (cy vs) (cA (l.map S.pure)) b->Av c M ZW b:=λb z=>by
    rcases z with z|⟨i,y,z1,_⟩;.exact z
    .exact(fG i y z1).elim
   refine⟨l,fa,_,Av c M ZW,hvl,⟨λa o e _=>e,λa z=>k2.uI z,λa⟨i,z⟩=>by simp at z,#v[cA,cy,rl.1],λi z e=>?_,λi z e=>(fG i z e).elim,λi j a z z' e=>(fG i z e).elim,λz hz=>by simp at hz⟩,λaW A E rZ ke=>?_,rs,a_,%[hNm|hrun],λv' H' a r'=>?_⟩;.rw[fA,Wo]at e;cases y:l[i]? with|none=>rw[y]at e;cases e|some d=>
     rw[y]at e;cases e;have hi:i<vs.length:=by rw[rl.1];exact(W9.mp y).1
     exact⟨vs[i],fL.mpr #v[hi],(rl.2 i vs[i] z #v[hi] y).aV λb z=>.inl (vW b z)⟩
   .exact Zg (X:=(fZ dS X.prog X.w X.K X.mg X.base N qual sc f aW A X.stack s2 H2 E).fW) (k:=kl) rfl rfl rfl C2 CC L (rZ.mono Zj) hb rf λc' cd s' H' Zk hp=>dR c' cd _ _ s' H' Zk hp
   .have mK:∀b o,H2 b=some o->H' b=some o:=λb o eb=>a.ok.keep b o eb λ⟨i,z⟩=>by simp at z
    exact hq v' H' (a1.trans (.mono k2 mK)) (Rep.aV r'.rep λb z=>.inl (.inl z))
  have Hw:=hbi s2 us I2.fm (by rw[Qc,h2,<-hvl];exact rr.length.symm);rw[Qc]at Hw;refine wpAny_call (codeAny_mono (ok.run X.A X.stack s2 H2 ⟨us,[]⟩ us vs Q E0 hr I2.xw Hw rr sp) λr s' jw=>?_);cases r with|error e=>exact jw.elim|ok fl=>cases fl with|ret u=>exact I2.after jw|next=>exact False.elim jw|brk=>exact False.elim jw|cont=>exact False.elim jw
end
theorem Zl{i}(hg:Gl X x)(hm:∃t,X.mg x=some (.str (toS i) t))(hd:(x==("__debug__":Str))=false:=by decide):SE X c (.Name x pos) (eD (.str i)):=by obtain⟨t,h⟩:=hm;exact PE.weak (Ca (v:=.str (toS i)) hg h ⟨t,rfl⟩ hd) λM H Q⟨U,k,p⟩=>p _ H (.refl k) (.str i)
def jy(U:Dl):Dl:=U.map λ|some (.own d)=>some (.pure d)|x=>x
open Classical in noncomputable def dDefR(j:Nat)(g:Addr->DS):DS:=λU=>match g 0 ((jy U).set j (some (.pure (.fn 0))))with|.ok (.ret (.pure r)) ZB=>if∀fa,g fa ((jy U).set j (some (.pure (.fn fa))))=.ok (.ret (.pure r)) (ZB.set j (some (.pure (.fn fa))))then .ok (.ret (.pure r)) (ZB.set j none)else .stuck|_=>.stuck
theorem Zm{g:Addr->DS}{r}(h:∀fa,g fa ((jy U).set j (some (.pure (.fn fa))))=.ok (.ret (.pure r)) (ZB.set j (some (.pure (.fn fa))))):dDefR j g U=.ok (.ret (.pure r)) (ZB.set j none):=by unfold dDefR;rw[h 0];simp only[Uv];exact if_pos λfa=>by rw[h fa,Uv]
theorem Zn{d}:(jy U)[i]?≠some (some (.own d)):=λe=>by
 have:=Wj e;simp only[jy,List.mem_map]at this;obtain⟨x,_,h⟩:=this;split at h;.cases h
 .grind
theorem Zo{d}(e:(jy U)[i]?=some (some (.pure d))):U[i]?=some (some (.pure d))\/U[i]?=some (some (.own d)):=by rw[jy,Wo]at e;cases z:U[i]? with|none=>rw[z]at e;cases e|some x=>
 rw[z]at e;simp only[WX,Wd]at e;split at e;.cases e;exact .inr rfl
 .rw[e];exact .inl rfl
section
variable{nm q:Str}{rest:List Stmt}{P:Addr}{g:Addr->DS}
theorem Zp(ft:FT ts c)(mP:(P,pos,q)∈ts)(ji:Np c [])(hq:Um X.env nm nm=q)(pQ:params.defaults=[])(zX:params.kw_defaults=[])(zY:annTrees params none X.env=[])(mN:closureFor scope X.env=pure cl)(vV:X.env.code=.ref code)(CH:JD X.K code P=true)(zZ:Wz≠P)(hB:X.base.BuiltinsAt X.mg P)(hN:X.N.Nodup)(hj:X.N[j]?=some nm)(hl:X.env.scope.names.lookup nm=some .local)(Zq:∀c' fa,FT ts c'->Np c' []->kG c'.H₀ fa nm q params body scope cl->eR X c' rest (g fa)):eR X c (.FunctionDef nm params body [] none [] scope none nm pos::rest) (dDefR j g):=by
 have r_:c.pin=[]:=by cases z:c.pin with|nil=>rfl|cons a l=>have:=ji a %[z|.head _];simp at this
 have lA:∀a,¬c.I a:=λa⟨i,z⟩=>by rw[r_]at z;simp at z
 intro pins s M H D I⟨U,k,qq⟩;unfold dDefR at qq;split at qq
 .rename_i r ZB e0;split at qq
  .rename_i qN;refine wpAny_execs_cons (Zd I (ft.now k _ mP) hq pQ zX zY mN vV CH zZ hB hN hj hl λfa H' s' I' up dO=>?_);have Hx:j<U.length:=by rw[k.len,I.len];exact(W9.mp hj).1
   have fG:∀(i:Nat)z,((jy U).set j (some (S.pure (.fn fa))))[i]?=some (some (.own z))->False:=λi z e=>by
    rw[Q8]at e;split at e;.split at e<;>cases e
    .exact Zn e
   have Zr:Ok {c with H₀:=H'} (M.set j (some (.ref fa))) ((jy U).set j (some (.pure (.fn fa)))) H':=by
    have sub:∀b,Av {c with H₀:=H'} (M.set j (some (.ref fa))) ((jy U).set j (some (.pure (.fn fa)))) b->c.B b:=λb z=>z.elim id λ⟨i,d,z1,_⟩=>(fG i d z1).elim;refine⟨λa o e _=>e,λa z=>(k.bd a z).elim λo e=>⟨o,up _ _ e⟩,λa z=>absurd z (lA a),#v[jy,k.len],λi d e=>?_,λi d e=>(fG i d e).elim,λi j a d d' e=>(fG i d e).elim,λp hp=>by rw[show({c with H₀:=H'}:Fc).pin=[]from r_]at hp;simp at hp⟩;by_cases hi:j=i;.subst hi;rw[Wr (by simpa[jy]using Hx)]at e;cases e;exact⟨.ref fa,Wr (by rw[<-k.len];exact Hx),.fn fa⟩
    .rw[Wa hi]at e;rw[Wa hi];rcases Zo e with e|e;.obtain⟨v,h1,h2⟩:=k.slot i d e;exact⟨v,h1,(h2.aV λb z=>.inl (.inl (sub b z))).keep λa o z _=>up a o z⟩
     .obtain⟨a,h1,h2,_,h4⟩:=k.own i d e;exact⟨.ref a,h1,((h2.aV λb z=>.inl (.inl (sub b z))).rep λz=>h4 (sub a z)).keep λa o z _=>up a o z⟩
   refine Zq {c with H₀:=H'} fa ⟨λt ht=>up _ _ (ft.now k t ht),ft.n⟩ ji dO pins s' _ H' D I' ⟨_,Zr,?_⟩;unfold eB;rw[qN fa];intro M' H2 a v rv;have rv:Rep H2 (Av {c with H₀:=H'} M' (ZB.set j (some (.pure (.fn fa))))) v r:=rv;have rG:∀b,Own M' (ZB.set j none) b->Own M' (ZB.set j (some (.pure (.fn fa)))) b:=λb⟨i,d,z1,z2⟩=>by
    refine⟨i,d,?_,z2⟩;rw[Q8]at z1⊢;split at z1;.split at z1<;>cases z1
    .rename_i hh;rw[if_neg hh];exact z1
   have z_:∀b,Av c M' (ZB.set j none) b->Av {c with H₀:=H'} M' (ZB.set j (some (.pure (.fn fa)))) b:=λb z=>z.elim .inl λz=>.inr (rG b z);have gt:∀(i:Nat)y,(ZB.set j none:Dl)[i]?=some (some y)->(ZB.set j (some (.pure (.fn fa))))[i]?=some (some y):=λi y e=>by
    rw[Q8]at e⊢;split at e;.split at e<;>cases e
    .rename_i hh;rw[if_neg hh];exact e
   refine qq M' H2 ⟨⟨λb o e n=>a.keep b o (up _ _ (k.keep b o e n)) λ⟨i,d,z,_⟩=>fG i d z,λb z=>a.ok.bd b z,λb z=>absurd z (lA b),by have:=a.ok.len;simpa using this,λi d e=>?_,λi d e=>?_,λi l b d d' e1 e2=>a.ok.inj i l b d d' (gt i _ e1) (gt l _ e2),λp hp=>by rw[r_]at hp;simp at hp⟩,λb o e _=>a.keep b o (up _ _ e) λ⟨i,d,z,_⟩=>fG i d z,λb z=>(a.own b (rG b z)).elim (λ⟨i,d,z,_⟩=>(fG i d z).elim) λn=>.inr ?_,λb o e=>a.there b o (up _ _ e)⟩ v (rv.aV λb z=>.inl (z_ b z));.obtain⟨v,h1,h2⟩:=a.ok.slot i d (gt i _ e);exact⟨v,h1,h2.aV λb z=>.inl (z_ b z)⟩
   .obtain⟨b,h1,h2,h3,h4⟩:=a.ok.own i d (gt i _ e);refine⟨b,h1,h2.aV λb z=>.inl (z_ b z),.inr ?_,h4⟩;have h3:H' b=none:=h3.elim (λz=>absurd z (lA b)) id;cases z:c.H₀ b with|none=>rfl|some o=>have:=up _ _ (k.keep b o z (lA b));rw[h3]at this;cases this
   .cases z:H b with|none=>rfl|some o=>have:=up _ _ z;rw[n]at this;cases this
  .exact qq.elim
 .exact qq.elim
end
inductive Sd where|sq(b:Bool)(a:Addr)|tx(x:Str)(t:Tok)
def Sd.val:Sd->Value|.sq _ a=>.ref a|.tx x t=>.str x t
def Sd.obj:Sd->Obj|.sq b a=>FN b a|.tx x t=>{cls:=.type (Jx x),data:=.fields #[.str x t,.int 0 0]}
def Sd.there(h:Heap):Sd->Prop|.sq b a=>∃ak,lj b h a ak|.tx _ _=>True
def Sd.at(h:Heap)(it:Addr)(i:Nat):Sd->Prop|.sq b a=>FL b h it a i|.tx x t=>h.IsStrIter it (Jx x) x t i
def Sd.fp:Sd->List Addr|.sq _ a=>[a]|.tx _ _=>[]
theorem Sd.live{S:Sd}(q:S.at h it i):∃o,h.get? it=some o/\∀v,o.data≠.cell v:=by
 cases S with|sq b a=>
 cases b;.obtain⟨o,e,c,d⟩:=(q:h.IsTupleIter it a i);exact⟨o,e,λv z=>by rw[d]at z;cases z⟩
 .obtain⟨o,e,c,d⟩:=(q:h.IsListIter it a i);exact⟨o,e,λv z=>by rw[d]at z;cases z⟩|tx x t=>obtain⟨o,e,c,d⟩:=(q:h.IsStrIter it _ x t i);exact⟨o,e,λv z=>by rw[d]at z;cases z⟩
theorem Sd.gH{S:Sd}(q:S.at h it i)(k:∀o,h.get? it=some o->h'.get? it=some o):S.at h' it i:=by
 cases S with|sq b a=>
 cases b;.obtain⟨o,e,r⟩:=(q:h.IsTupleIter it a i);exact⟨o,k o e,r⟩
 .obtain⟨o,e,r⟩:=(q:h.IsListIter it a i);exact⟨o,k o e,r⟩|tx x t=>obtain⟨o,e,r⟩:=(q:h.IsStrIter it _ x t i);exact⟨o,k o e,r⟩
theorem Sd.iter{prog w A}{E:Value->W4->Prop}{s:W4}{S:Sd}(h:S.there s.heap)(q:Q (.ref s.heap.objs.size) {s with heap:=s.heap.push S.obj}):W7 (model prog w) A (pyIter S.val) Q E s:=by cases S with|sq b a=>obtain⟨ak,h⟩:=h;exact Vt h q|tx x t=>exact wpAny_pyIter_strU q
theorem Sd.push{S:Sd}(q:S.there h)(o):S.there (h.push o):=by cases S with|sq b a=>obtain⟨ak,q⟩:=q;exact⟨ak,q.push o⟩|tx x t=>trivial
abbrev vX(h:Heap)(a:Obj):Heap:=h.push a
abbrev vY(h:Heap)(a b:Obj):Heap:=(vX h a).push b
abbrev vZ(h:Heap)(a b:Obj):Heap:=(vY h a b).push {cls:=.type "tuple",data:=.seq #[.ref h.objs.size,.ref (vX h a).objs.size]}
abbrev v3(h:Heap)(a b:Obj):Heap:=(vZ h a b).push {cls:=.type "tuple",data:=.seq #[.none,.none]}
abbrev pR(h:Heap)(a b:Obj):Heap:=(v3 h a b).push {cls:=.type "zip",data:=.fields #[.none,.bool false,.bool false,.ref (vY h a b).objs.size,.ref (vZ h a b).objs.size]}
theorem Zs(S T:Sd):Meets (Builtin.«zip.__new__» ⟨[.type "zip",S.val,T.val],[]⟩) λ_ R s=>S.there s.heap/\T.there s.heap/\R (.ok (.ret (.ref (v3 s.heap S.obj T.obj).objs.size))) {s with heap:=pR s.heap S.obj T.obj}:=.of_wp λprog w A R s h=>by obtain⟨hp,g,d,tk,os⟩:=s;obtain⟨h1,h2,h⟩:=h;have jR:=sub_zip;have p1:∀{A:Wt}{E:Value->W4->Prop}{s:W4}{Q:Value->W4->Prop},S.there s.heap->Q (.ref s.heap.objs.size) {s with heap:=s.heap.push S.obj}->W7 (model prog w) A (pyIter S.val) Q E s:=λq h=>Sd.iter q h;have p2:∀{A:Wt}{E:Value->W4->Prop}{s:W4}{Q:Value->W4->Prop},T.there s.heap->Q (.ref s.heap.objs.size) {s with heap:=s.heap.push T.obj}->W7 (model prog w) A (pyIter T.val) Q E s:=λq h=>Sd.iter q h;have h1:S.there (Shared.heap ⟨hp,g,d,tk,os⟩):=h1;have h2:T.there (Shared.heap ⟨hp.push S.obj,g,d,tk,os⟩):=Sd.push h2 _;generalize S.val=u1 at*;generalize T.val=u2 at*;generalize S.obj=o1 at*;generalize T.obj=o2 at*;wp_walk using p1 h1,p2 h2;exact⟨_,rfl,h⟩
def pT(S T:Sd)(n i:Nat)(h:Heap):Prop:=(∃v0 f,gc h (n+4) (n+2) (n+3) v0 f/\(v0=.none\/∃p:Addr,v0=Q6 p))/\IsPair h (n+2) (.ref n) (.ref (n+1))/\(∃a b,IsPair h (n+3) a b)/\S.at h n i/\T.at h (n+1) i
abbrev fN(n:Nat):List Addr:=[n+4,n+2,n+3,n,n+1]
theorem Hy{S}(h1:S.there s.heap)(h2:T.there s.heap)(h:∀h',pT S T s.heap.objs.size 0 h'->IsZip h' (s.heap.objs.size+4) (s.heap.objs.size+2) (s.heap.objs.size+3) .none->(∀c o,s.heap.get? c=some o->h'.get? c=some o)->Q (.ref (s.heap.objs.size+4)) {s with heap:=h'}):W7 (model prog w) A (call (.type "zip") [S.val,T.val]) Q E s:=by
 refine callType_new F.called_zip Z' (F.typeCall_zip_2 _ _) (F.newCall_zip_2 _ _) (λobj=>F.args_object_init_3 obj _ _) F.entry_zip_new (Zs S T) ⟨h1,h2,?_⟩;have z1:(vX s.heap S.obj).objs.size=s.heap.objs.size+1:=Qw ..;have z2:(vY s.heap S.obj T.obj).objs.size=s.heap.objs.size+2:=by rw[Qw,z1]
 have z3:(vZ s.heap S.obj T.obj).objs.size=s.heap.objs.size+3:=by rw[Qw,z2]
 have z4:(v3 s.heap S.obj T.obj).objs.size=s.heap.objs.size+4:=by rw[Qw,z3]
 have up:∀{h:Heap}{o:Obj}{c:Addr}{o':Obj},h.get? c=some o'->(h.push o).get? c=some o':=λe=>W6 _ e;have g5:(pR s.heap S.obj T.obj).get? (v3 s.heap S.obj T.obj).objs.size=some _:=Wh _ rfl;have g4:(pR s.heap S.obj T.obj).get? (vZ s.heap S.obj T.obj).objs.size=some _:=up (Wh _ rfl);have g3:(pR s.heap S.obj T.obj).get? (vY s.heap S.obj T.obj).objs.size=some _:=up (up (Wh _ rfl));have g2:(pR s.heap S.obj T.obj).get? (vX s.heap S.obj).objs.size=some T.obj:=up (up (up (Wh _ (by cases T with|sq b a=>cases b<;>rfl|tx x t=>rfl))));have g1:(pR s.heap S.obj T.obj).get? s.heap.objs.size=some S.obj:=up (up (up (up (Wh _ (by cases S with|sq b a=>cases b<;>rfl|tx x t=>rfl)))));have mk:∀{zk:Sd}{h:Heap}{it:Addr},h.get? it=some zk.obj->zk.at h it 0:=λ{zk h it}e=>by cases zk with|sq b a=>cases b<;>exact⟨_,e,rfl,rfl⟩|tx x t=>exact⟨_,e,rfl,rfl⟩
 show _/\_;rw[z2,z3,z4]at g5;rw[z1,z2]at g3;rw[z3]at g4;rw[z1]at g2;rw[z4];exact⟨⟨_,g5,rfl⟩,h _ ⟨⟨_,_,g5,.inl rfl⟩,g3,⟨_,_,g4⟩,mk g1,mk g2⟩ g5 λc o x=>up (up (up (up (up x))))⟩
theorem Zt{TI TO Q}(hz:gc s.heap z TI TO v0 f)(hv:v0=.none\/∃p:Addr,v0=Q6 p)(hQ:∀h' v7,gc h' z TI TO v7 f->(v7=.none\/∃p:Addr,v7=Q6 p)->Qx z s.heap h'->Q () {s with heap:=h'}):W7 (model prog w) A (JM tg (.ref z) (.ref T)) Q E s:=by
 have no:Q () s:=hQ s.heap v0 hz hv ⟨rfl,λ_ _=>rfl⟩;have yes:W7 (model prog w) A (do let o<-load z match o.cls,o.data with|.type n,.fields vs=>if["enumerate","zip","dict_itemiterator","dict_reverseitemiterator","odict_iterator","itertools.zip_longest","itertools.pairwise"].contains n&&vs[0]?==some (Q6 T)then rule "for.unpacks-the-owned-tuple"updateField z 0 .none|_,_=>pure ()) Q E s:=by
  refine W0 (wpAny_load hz ?_);dsimp only;split;.refine W0 (QU ?_);show W7 _ _ (setField (.ref z) 0 .none) Q E s;exact Q9 hz U' λh' oo g_=>hQ h' _ oo (.inl rfl) g_
  .exact W3 no
 unfold JM;cases tg<;>first|exact yes|exact W3 no
def mQ(K:W5)(H:Hp)(xs:List V):Sd->Prop|.sq b a=>nY b K H a xs|.tx x _=>xs=x.cps.toList.map λc=>.str ⟨#[c]⟩
section
variable{s:W4}{S T:Sd}{xs:List V}
theorem Inv.side(I:Inv X pins M H s)(hA:A.handled=none)(hv:mQ X.K H xs S)(cu:it∉S.fp):∃St:Nat->Heap->Prop,Draws X.prog X.w A.in1 it (it::S.fp) xs.length (λi v=>∃x,xs[i]?=some x/\RelV x v) St/\(∀i h,St i h->S.at h it i)/\∀i,S.at s.heap it i->St i s.heap:=by cases S with|sq b a=>obtain⟨is,rv,p⟩:=I.FQ hv;have D:=Vu (prog:=X.prog) (w:=X.w) (A:=A.in1) b (show A.in1.handled=none from hA) it a (λz=>cu #v[Sd.fp,z]) is.toArray;have hl:is.toArray.size=xs.length:= ~~~rv.length.symm;rw[hl]at D;refine⟨_,⟨D.live,D.frame,λi s Q E hi st hQ=>D.item i s Q E hi st λx h' tk e=>hQ x h' tk ?_,D.done⟩,λi h q=>q.1,λi q=>⟨q,p⟩⟩;obtain⟨u,hu,ru⟩:=rv.get (x:=xs[i]) (show xs[i]?=some xs[i]by simp[hi]);have e:is[i]?=some x:= ~~~e;rw[hu]at e;cases e;exact⟨xs[i],#v[hi],ru⟩|tx x t=>
  obtain rfl:xs=_:=hv;have hT:Jx x="str_ascii_iterator"\/Jx x="str_iterator":=by
   unfold Jx;split;.exact .inl rfl
   .exact .inr rfl
  have D:Draws X.prog X.w A.in1 it [it] x.cps.size (λi v=>∃c u,x.cps[i]?=some c/\v=.str ⟨#[c]⟩ u) λi h=>h.IsStrIter it (Jx x) x t i:=by
   rcases hT with e|e;.rw[e];exact Draws.strAscii (show A.in1.handled=none from hA) it x t
   .rw[e];exact Draws.strWide (show A.in1.handled=none from hA) it x t
  rw[show x.cps.size=(x.cps.toList.map λc=>V.str ⟨#[c]⟩).length by simp]at D;refine⟨_,⟨D.live,D.frame,λi s Q E hi st hQ=>D.item i s Q E hi st λy h' tk⟨c,u,e1,e2⟩=>hQ y h' tk ⟨.str ⟨#[c]⟩,#v[e1],u,e2⟩,D.done⟩,λi h q=>q,λi q=>q⟩
theorem v8(h:b∈fN n):b=n+4\/b=n+2\/b=n+3\/b=n\/b=n+1:= ~~~h
theorem iw(n)(h:i≠j):(n+i:Addr)≠n+j:=λe=>h (Nat.add_left_cancel e)
theorem Hz(h1:∀a∈S.fp,a<n)(h2:∀a∈T.fp,a<n):ZA (n+4) (n+2) (n+3) n (n+1) (n::S.fp) ((n+1)::T.fp):=by
 have k:∀{l:List Addr}{j i:Nat},(∀a∈l,a<n)->j≠i->(n+j:Addr)∉(n+i)::l:=λ{l j i}h e z=>by
  rcases Wf.mp z with z|z;.exact iw n e z
  .exact absurd (h _ z) (Nat.not_lt.mpr (U1 n j))
 exact⟨Wx,Wx,k (i:=0) h1 Z',k h2 Z',k (i:=0) h1 Z',k h2 Z',k (j:=0) h2 Z',k (i:=0) h1 Z',iw n Z',iw n Z',iw n Z',iw n (j:=0) Z',iw n Z'⟩
theorem HA{x Q}(I:Inv X pins M H s)(hA:A.handled=none)(h1:∀a∈S.fp,a<n)(h2:∀a∈T.fp,a<n)(v1:mQ X.K H xs S)(v2:mQ X.K H ys T)(st:pT S T n i s.heap)(hx:xs[i]?=some x)(hy:ys[i]?=some y)(q:∀u v h' tk,RelV x u->RelV y v->pT S T n (i+1) h'->IsPair h' s.heap.objs.size u v->(∀c o,c∉fN n->s.heap.get? c=some o->h'.get? c=some o)->Q (some (.ref s.heap.objs.size)) {s with heap:=h',toks:=tk}):W7 (model X.prog X.w) A (QF (.ref (n+4))) Q E s:=by obtain⟨⟨v0,f,hz,hv⟩,hI,⟨a,b,hO⟩,q1,q2⟩:=st;obtain⟨St1,D1,a1,b1⟩:=I.side (it:=n) hA v1 λz=>absurd (h1 _ z) (Qh _);obtain⟨St2,D2,a2,b2⟩:=I.side (it:=n+1) hA v2 λz=>absurd (h2 _ z) (Nat.not_lt.mpr (U1 n 1));have l1:=(W9.mp hx).1;have l2:=(W9.mp hy).1;refine YQ D1 D2 (Hz h1 h2) hz hv hI hO (b1 i q1) (b2 i q2) l1 l2 λu v h' tk p' f' e1 e2 oo Zu s1 s2 hT k=>?_;obtain⟨x',g1,r1⟩:=e1;obtain⟨y',g2,r2⟩:=e2;rw[hx]at g1;cases g1;rw[hy]at g2;cases g2;have k2:∀c o,c∉fN n->s.heap.get? c=some o->h'.get? c=some o:=λc o hc e=>k c o (λz=>hc #v[z]) (λz=>hc #v[z]) (λz=>hc #v[z]) (λz=>hc #v[z]) e;exact q u v h' tk r1 r2 ⟨⟨_,_,oo,.inr ⟨p',rfl⟩⟩,k _ _ (iw n Z') (iw n Z') (iw n (j:=0) Z') (iw n Z') hI,Zu,a1 _ _ s1,a2 _ _ s2⟩ hT k2
theorem HB{Q}(I:Inv X pins M H s)(hA:A.handled=none)(h1:∀a∈S.fp,a<n)(h2:∀a∈T.fp,a<n)(v1:mQ X.K H xs S)(v2:mQ X.K H ys T)(st:pT S T n i s.heap)(hl:i=xs.length\/i<xs.length/\i=ys.length)(q:∀h' tk,(∀c o,c∉fN n->s.heap.get? c=some o->h'.get? c=some o)->Q none {s with heap:=h',toks:=tk}):W7 (model X.prog X.w) A (QF (.ref (n+4))) Q E s:=by obtain⟨⟨v0,f,hz,hv⟩,hI,⟨a,b,hO⟩,q1,q2⟩:=st;obtain⟨St1,D1,a1,b1⟩:=I.side (it:=n) hA v1 λz=>absurd (h1 _ z) (Qh _);obtain⟨St2,D2,a2,b2⟩:=I.side (it:=n+1) hA v2 λz=>absurd (h2 _ z) (Nat.not_lt.mpr (U1 n 1));exact YR D1 D2 (Hz h1 h2) hz hv hI hO (b1 i q1) (b2 i q2) hl λh' tk k=>q h' tk λc o hc e=>k c o (λz=>hc #v[z]) (λz=>hc #v[z]) (λz=>hc #v[z]) (λz=>hc #v[z]) e
end
def fO(K:W5)(H:Hp)(xs:List V)(b:Bool):V->Prop|.ref a=>nY b K H a xs|.str x=>xs=x.cps.toList.map λc=>.str ⟨#[c]⟩|_=>False
def jz(b:Bool):V->Tok->Sd|.ref a,_=>.sq b a|.str x,t=>.tx x t|_,t=>.tx ⟨#[]⟩ t
section
variable{s:W4}{b:Bool}{v:V}{xs:List V}{t:Tok}
theorem fO.sd(h:fO K H xs b v):mQ K H xs (jz b v t):=by cases v<;>first|exact h|exact h.elim
theorem Inv.v9(I:Inv X pins M H s)(h:fO X.K H xs b v)(r:RelV v u):∃t,(jz b v t).val=u/\(jz b v t).there s.heap/\∀a∈(jz b v t).fp,a<s.heap.objs.size:=by
 cases v with|ref a=>obtain⟨ak,_,p⟩:=I.FQ h;cases r;exact⟨0,rfl,⟨_,p⟩,λc hc=>by
 have:c=a:=by simpa[jz,Sd.fp]using hc
 subst this;exact p.lt⟩|str x=>obtain⟨t,rfl⟩:=r;exact⟨t,rfl,trivial,λc hc=>by simp[jz,Sd.fp]at hc⟩|_=>exact h.elim
theorem Inv.HC(I:Inv X pins M H s)(h:fO X.K H xs b v)(h':fO X.K H ys b v):xs=ys:=by cases v with|ref a=>exact I.Vv h h'|str x=>exact h.trans h'.symm|_=>exact h.elim
end
def HE(K:W5)(b1 b2:Bool)(v w:V):It:=⟨λi H=>∃xs ys x y,fO K H xs b1 v/\fO K H ys b2 w/\xs[i]?=some x/\ys[i]?=some y,λi H z H'=>∃p x y,H p=none/\(∀xs,fO K H xs b1 v->xs[i]?=some x)/\(∀ys,fO K H ys b2 w->ys[i]?=some y)/\H'=upd H p (.tup [x,y])/\z=.ref p,λi H=>∃xs ys,fO K H xs b1 v/\fO K H ys b2 w/\(i=xs.length\/i<xs.length/\i=ys.length)⟩
theorem Zv(b1 b2 x y t u n)(h1:∀a∈(jz b1 x t).fp,a<n)(h2:∀a∈(jz b2 y u).fp,a<n):Turn P w K tg (HE K b1 b2 x y) (fN n) (n+4) (pT (jz b1 x t) (jz b2 y u) n):=by
 refine⟨U',?_,?_,?_,?_,?_⟩
 .rintro i h⟨⟨v0,f,hz,_⟩,hI,⟨a,b,hO⟩,q1,q2⟩c hc;rcases v8 hc with e|e|e|e|e<;>subst e;.exact⟨_,hz,λv z=>by have z':Data.fields _=Data.cell v:=z;cases z'⟩
  .exact⟨_,hI,λv z=>by have z':Data.seq _ _=Data.cell v:=z;cases z'⟩
  .exact⟨_,hO,λv z=>by have z':Data.seq _ _=Data.cell v:=z;cases z'⟩
  .exact Sd.live q1
  .exact Sd.live q2
 .rintro i h h'⟨⟨v0,f,hz,hv⟩,hI,⟨a,b,hO⟩,q1,q2⟩k;exact⟨⟨v0,f,k _ U' _ hz,hv⟩,k _ U' _ hI,⟨a,b,k _ U' _ hO⟩,Sd.gH q1 λo e=>k _ U' o e,Sd.gH q2 λo e=>k _ U' o e⟩
 .intro X hP hw hK hc i pins s M H E I hf st hg;subst hP hw hK;obtain⟨xs,ys,x',y',c1,c2,hx,hy⟩:=hg;have bc:∀c∈fN n,c<s.heap.objs.size:=λc hc=>by
   obtain⟨⟨v0,f,hz,hv⟩,_⟩:=st;have z:=Wp hz;have le:∀k:Nat,k<=4->n+k<s.heap.objs.size:=λk hk=>Ub (Nat.add_le_add_left hk n) z;rcases v8 hc with e|e|e|e|e<;>subst e;.exact z
   .exact le 2 Z'
   .exact le 3 Z'
   .exact le 0 Z'
   .exact le 1 Z'
  refine HA I (I.ok.hd hc) h1 h2 c1.sd c2.sd st hx hy λu v h' tk ru rv hh hT k=>?_;obtain⟨⟨v0,f,hz,hv⟩,hI,⟨a,b,hO⟩,q1,q2⟩:=hh;refine⟨_,rfl,Zt hz hv λh2 v7 og Zw sb=>?_⟩;have nz:s.heap.objs.size≠n+4:=Jj (bc (n+4) U');have k2:∀c o,c∉fN n->s.heap.get? c=some o->h2.get? c=some o:=λc o hc e=>(sb.2 c λz=>hc #v[z]).trans (k c o hc e);have I2:Inv X pins M (upd H s.heap.objs.size (.tup [x',y'])) {s with heap:=h2,toks:=tk}:=Inv.FP (t':=tk) _ I hf bc ru rv ((sb.2 _ nz).trans hT) k2;refine⟨.ref s.heap.objs.size,_,I2,rfl,⟨s.heap.objs.size,x',y',I.aB.fresh (Wg _),λzs Aa=>%[I.HC Aa c1|hx],λzs Aa=>%[I.HC Aa c2|hy],rfl,rfl⟩,⟨⟨_,_,og,Zw⟩,(sb.2 _ (iw n Z')).trans hI,⟨_,_,(sb.2 _ (iw n Z')).trans hO⟩,Sd.gH q1 λo e=>(sb.2 _ (iw n (i:=0) Z')).trans e,Sd.gH q2 λo e=>(sb.2 _ (iw n Z')).trans e⟩,λc hc=>?_⟩;rw[aP (WR (bc c hc))];exact(hf c hc).1
 .intro X hP hw hK hc i pins s M H E I hf st hg;subst hP hw hK;obtain⟨xs,ys,c1,c2,hl⟩:=hg;exact HB I (I.ok.hd hc) h1 h2 c1.sd c2.sd st hl λh' tk k=>⟨rfl,Inv.nX (t':=tk) (fN n) I k hf⟩
 .intro A i s Q E st h;obtain⟨v0,f,hz,_⟩:=st.1;have hT:s.TypeIs (.ref (n+4)) "zip":=⟨_,hz,rfl⟩;refine JT hT F.slot_zip_iter (WA F.slot_zip_iter hT F.entry_zip_iter ?_ (F.args_zip_iter_1 _));show W7 _ _ (ret (.ref (n+4))) _ _ s;exact W3 ⟨_,rfl,"zip",_,hT,F.slot_zip_next.lookup,h⟩
theorem Ab{s:W4}(I:Inv X pins M H s)(b)(hb:b∈fN s.heap.objs.size):s.heap.objs.size<=b:=by rcases v8 hb with z|z|z|z|z<;>subst z<;>first|exact Wg _|exact U1 _ _
section
variable{a b:Expr}{f g:DE}
def Zx(K:W5)(ta:TA):TI:=λM H R=>ta M H λvs H1=>∃(b1 b2:Bool)(v w:V),vs=[v,w]/\(∃xs,fO K H1 xs b1 v)/\(∃ys,fO K H1 ys b2 w)/\R (HE K b1 b2 v w) H1
theorem Zy{ta}(hg:Gl X "zip")(hm:X.mg "zip"=none)(ha:PA X [a,b] ta)(hs:We [a,b] X.env=(false,eval a X.env)::We [b] X.env:=by rfl)(cQ:(Qz pos (We [b] X.env)).any (·.1)=false:=by rfl):PI X tg (.Call (.Name "zip" pp) [a,b] [] pos) (Zx X.K ta):=by intro pins s M H R I h;refine Call_ (l9 I hg hm boot_zip (QG (aM (ha pos pins s M H _ I h) λus s1 hh=>?_) hs cQ));obtain⟨vs,H1,I1,r1,q1⟩:=hh;obtain⟨b1,b2,v,w,rfl,⟨xs,hx⟩,⟨ys,hy⟩,q⟩:=q1;cases r1 with|cons r rr=>cases rr with|cons r' rr=>cases rr;obtain⟨t,rfl,p1,l1⟩:=I1.v9 hx r;obtain⟨u,rfl,p2,l2⟩:=I1.v9 hy r';refine Hy p1 p2 λh' st hz kp=>wpAny_pyIter_zip hz ?_;exact⟨s1.heap.objs.size+4,_,_,_,H1,rfl,I1.kept (t':=s1.toks) kp,Zv b1 b2 v w t u s1.heap.objs.size l1 l2,st,λb hb=>I1.iY (Ab I1 b hb) (I1.aB.fresh (Ab I1 b hb)),q⟩
noncomputable def lE:D->Option (List D)|.lst ds=>some ds|.tup ds=>some ds|.str x=>some (x.map λn=>.str [n])|_=>none
def jZ(f g:DE):DI:=λU=>(f U).bind λx ZW=>(g ZW).bind λy XV=>match lE x.d,lE y.d with|some xs,some ys=>.ok (kq xs ys) XV|_,_=>.stuck
theorem Rep.sd{v d}(r:Rep H O v d)(e:lE d=some ds):∃b vs,fO K H vs b v/\aH H O vs ds/\∀H2,(∀p o,H p=some o->¬O p->H2 p=some o)->fO K H2 vs b v:=by
 have sq:∀{ds},rN d=some ds->∃(b:Bool)(vs:List V),fO K H vs b v/\aH H O vs ds/\∀H2,(∀p o,H p=some o->¬O p->H2 p=some o)->fO K H2 vs b v:=λe=>by obtain⟨b,a,vs,rfl,h1,h2,h3⟩:=r.sq (K:=K) e;exact⟨b,vs,h1,h2,h3⟩
 cases d<;>first|(simp[lE]at e;done)|exact sq e|skip
 rename_i x;cases r;cases e;refine⟨true,_,rfl,⟨#v[toS],λi v d e1 e2=>?_⟩,λ_ _=>rfl⟩;rw[Wo]at e1 e2;cases z:x[i]? with|none=>rw[z]at e2;cases e2|some n=>rw[z]at e2;cases e2;simp only[toS,z,WX]at e1;cases e1;exact .str [n]
theorem Zz(hg:Gl X "zip")(hm:X.mg "zip"=none)(ha:SE X c a f)(hb:SE X c b g)(hs:We [a,b] X.env=(false,eval a X.env)::We [b] X.env:=by rfl)(rj:We [b] X.env=(false,eval b X.env)::We [] X.env:=by rfl)(cQ:(Qz pos (We [b] X.env)).any (·.1)=false:=by rfl):SI X c tg (.Call (.Name "zip" pp) [a,b] [] pos) (jZ f g):=PI.weak (Zy hg hm (fq ha (fq hb gJ rj) hs) hs cQ) λM H R⟨U,k,q⟩=>by
  unfold jZ at q;rw[bp]at q;refine⟨U,k,aT q λx ZW q1 v H1 a1 r1=>⟨ZW,a1.ok,?_⟩⟩;rw[bp]at q1;refine aT q1 λy XV q2 u H2 a2 r2=>?_;have hx:Rep H2 (Av c M XV) v x.d:=Rep.dH r1.rep a2;have hy:Rep H2 (Av c M XV) u y.d:=r2.rep;split at q2
  .rename_i xs ys e1 e2;obtain⟨b1,vs,s1,w1,k1⟩:=hx.sd (K:=X.K) e1;obtain⟨b2,us,s2,w2,k2⟩:=hy.sd (K:=X.K) e2;refine⟨b1,b2,v,u,rfl,⟨vs,s1⟩,⟨us,s2⟩,q2 _ H2 (a1.trans a2) λH3 kp=>?_⟩;have t1:=k1 H3 λp o e n=>kp p o e λz=>n (.inr z);have t2:=k2 H3 λp o e n=>kp p o e λz=>n (.inr z);refine⟨⟨vs,us,t1,t2,?_⟩,λi d e=>?_⟩;.rw[w1.1,w2.1];simp only[kq,List.length_zipWith];lia
   .obtain⟨x,y,ex,ey,rfl⟩:=Vx e;obtain⟨v,ev,rv⟩:=w1.get ex;obtain⟨u,eu,ru⟩:=w2.get ey;refine⟨⟨vs,us,v,u,t1,t2,ev,eu⟩,λz H4 hh=>?_⟩;obtain⟨p,v',u',hp,hv,hu,e3,ez⟩:=hh;refine .inr ⟨p,_,_,hp,e3,ez,rfl,?_⟩;have h1:=hv vs t1;have h2:=hu us t2;rw[ev]at h1;rw[eu]at h2;cases h1;cases h2;exact aH.two rv ru
  .exact q2.elim
end
theorem ZC:typeLookup (.type "zip") "__getattr__"=pure none:=by rw[typeLookup_type,JX];kernel_rfl
theorem ZD:typeLookup (.type "zip") "keys"=pure none:=by rw[typeLookup_type,JX];kernel_rfl
theorem ZE:entryFor table "zip.__getattribute__"=some Builtin.«object.__getattribute__»:=entryFor_alias (id':="object.__getattribute__") (by kernel_rfl) Re Re (by kernel_rfl)
theorem ZF(a vs u):Meets (Builtin.«object.__getattribute__» ⟨[.ref a,.str "keys" u],[]⟩) λA R s=>s.heap.get? a=some {cls:=.type "zip",dict:=none,data:=.fields vs,slots:=#[]}/\raisesAttr (.ref a) "keys" A R s:=Meets.of_wp λprog w A R s hs=>by
 obtain⟨hp,g,d,tk,os⟩:=s;obtain⟨hx,hs⟩:=hs;have hT:(⟨hp,g,d,tk,os⟩:W4).TypeIs (.ref a) "zip":=⟨_,hx,rfl⟩;have vm:=ZD;have ZG:(["__module__","__name__","__qualname__","__doc__","__annotations__"]:List Str).contains "keys"=false:=by decide+kernel
 unfold Builtin.«object.__getattribute__»;repeat(any_goals(first|assumption|wp_step))
 try simp only[ZG,Qf,if_false]
 repeat(any_goals(first|assumption|wp_step))
 exact wpAny_raiseAttrError hs.1 hs.2 (attrMsg_fits Re (by size_fits))
set_option maxRecDepth 8000 in theorem ZH{prog:Wm}{w:Wv}{A:Wt}{E:Value->W4->Prop}{s:W4}{a:Addr}{vs:Array Value}{Q:Option Value->W4->Prop}(hx:s.heap.get? a=some {cls:=.type "zip",dict:=none,data:=.fields vs,slots:=#[]})(hA:A.handled=none)(h:∀h' tk,(∀b ob,s.heap.get? b=some ob->h'.get? b=some ob)->Q none {s with heap:=h',toks:=tk}):W7 (model prog w) A (getAttr? (.ref a) "keys") Q E s:=by
 obtain⟨hp,g,d,tk,os⟩:=s;have hT:∀jQ,(⟨hp,g,d,jQ,os⟩:W4).TypeIs (.ref a) "zip":=λ_=>⟨_,hx,rfl⟩;have f1:=sub_AttributeError;have f3:=F.slot_zip_getattribute.lookup;have f4:=F.slot_zip_getattribute.bind (.ref a);have f5:=ZC;unfold getAttr? getAttrBy? getAttrBy;repeat(any_goals(first|assumption|exact hT _|((with_reducible show W7 _ _ (call (Value.builtin "zip.__getattribute__") _ _) _ _ _);refine Uh F.slot_zip_getattribute (hT _) ZE (F.args_zip_getattribute_2 _ _) (ZF a vs _) ⟨hx,hA,λh' jQ e mG=>?_⟩)|wp_step))
 obtain⟨t',u',he⟩:=mG.there;show W7 _ _ (Jm _ _ _ _ _ _ _) _ _ _;unfold Jm;repeat(any_goals(first|assumption|wp_step))
 exact h _ _ mG.keeps
section
variable{S T:Sd}{xs:List V}
theorem ZI(hA:A.handled=none)(h1:∀a∈S.fp,a<n)(h2:∀a∈T.fp,a<n)(gO:H dl=none)(ZJ:dl∉fN n)(hz:kps.length<=Wb)(v1:∀H',(∀b o,H b=some o->H' b=some o)->mQ X.K H' xs S)(v2:∀H',(∀b o,H b=some o->H' b=some o)->mQ X.K H' ys T)(hk:∀(i:Nat)kv,kps[i]?=some kv->xs[i]?=some (kV kv.1)/\ys[i]?=some kv.2)(hl:kps.length=xs.length\/kps.length<xs.length/\kps.length=ys.length)(fp:∀b∈fN n,∀H',H' b=none->fX X pins H' b)(fn:∀b∈fN n,H b=none)(hR:∀s',Inv X pins M (upd H dl (.dK (eE kps []))) s'->R (.ok (.ret .none)) s'):∀(k i:Nat)(s:W4)(j:Int)t0,kps.length-i=k->i<=kps.length->Inv X pins M (upd H dl (.dK (eE (kps.take i) []))) s->pT S T n i s.heap->Jy (model X.prog X.w) A (.builtin "dict.update.loop" ⟨[.ref dl,.ref (n+4),.int j t0,.none],[]⟩) R s:=by
 have up:∀(acc:List (Key×V))b o,H b=some o->upd H dl (.dK acc) b=some o:=λacc b o e=>%[aP (fF e gO)|e];have ne:∀b∈fN n,b≠dl:=λb hb z=>ZJ (by rw[<-z];exact hb)
 have fo:∀(acc:List (Key×V)),∀b∈fN n,fX X pins (upd H dl (.dK acc)) b:=λacc b hb=>fp b hb _ %[aP (ne b hb)|fn b hb];intro k;induction k with|zero=>
 intro i s j t0 hkk hi I st;have e:i=kps.length:=by lia
 subst e;rw[Ji (Wg _)]at I;exact Fp (HB (A:=A.in1) I hA h1 h2 (v1 _ (up _)) (v2 _ (up _)) st hl λh' tk k=>⟨rfl,hR _ (Inv.nX (t':=tk) (fN n) I k (fo _))⟩)|succ k ih=>
 intro i s j t0 hkk hi I st;have ik:i<kps.length:=by lia
 obtain⟨hx,hy⟩:=hk i kps[i] #v[ik];refine Fo (HA (A:=A.in1) I hA h1 h2 (v1 _ (up _)) (v2 _ (up _)) st hx hy λu v h' tk r1 r2 cq hT k=>?_);have I':=Inv.nX (t':=tk) (fN n) I k (fo _);refine⟨s.heap.objs.size,u,v,0,rfl,hT,?_⟩;obtain⟨z,hd,vs,rel,dd⟩:=oR I'.aB cD;have jO:vs.length<=Wb:=by rw[<-rel.length];exact z
 have hl:(putK (eE (kps.take i) []) kps[i].1 kps[i].2).length<=Wb:=by have h1:=oQ (eE (kps.take i) []) kps[i].1 kps[i].2;have h2:=yP (kps.take i) [];simp at h2;lia
 refine wpAny_dictSet_pairs (hsz:=jO) (kX r1) dd λh2 iF hs=>?_;have he:∃q,h2.get? dl=some q:=let⟨q,_,_,hq,_⟩:=iF;⟨q,hq⟩;have I2:=nj (t':=tk+1) I' %[cD|True.intro] hs he (ux hl hd (rel.put kps[i].1 r2) iF);rw[BZ]at I2;have et:kps.take (i+1)=kps.take i++[kps[i]]:=by simp_all
 rw[show putK (eE (kps.take i) []) kps[i].1 kps[i].2=eE (kps.take (i+1)) []by rw[et,Fq]]at I2;refine ih (i+1) _ (j+1) _ Y' ik I2 ?_;obtain⟨⟨v0,f,oo,hv⟩,hI,⟨a,b,hO⟩,q1,q2⟩:=cq;have kk:∀b∈fN n,∀o,h'.get? b=some o->h2.get? b=some o:=λb hb o eo=>(hs.2 b (ne b hb)).trans eo;exact⟨⟨v0,f,kk _ U' _ oo,hv⟩,kk _ U' _ hI,⟨a,b,kk _ U' _ hO⟩,Sd.gH q1 λo e=>kk _ U' o e,Sd.gH q2 λo e=>kk _ U' o e⟩
end
section
variable{a b:Expr}
theorem ZK{ta}(hc:X.calm=true)(Ac:Gl X "dict")(Ad:X.mg "dict"=none)(hg:Gl X "zip")(hm:X.mg "zip"=none)(ha:PA X [a,b] ta)(hs:We [a,b] X.env=(false,eval a X.env)::We [b] X.env:=by rfl)(cQ:(Qz kH (We [b] X.env)).any (·.1)=false:=by rfl)(v_:We [.Call (.Name "zip" oq) [a,b] [] kH] X.env=(false,eval (.Call (.Name "zip" oq) [a,b] [] kH) X.env)::We [] X.env:=by rfl):PE X (.Call (.Name "dict" pp) [.Call (.Name "zip" oq) [a,b] [] kH] [] pos) λM H Q=>ta M H λvs H1=>∃(b1 b2:Bool)(v w:V)(xs ys:List V)(kps:List (Key×V)),vs=[v,w]/\(∀H',(∀b o,H1 b=some o->H' b=some o)->fO X.K H' xs b1 v)/\(∀H',(∀b o,H1 b=some o->H' b=some o)->fO X.K H' ys b2 w)/\kps.length<=Wb/\(∀(i:Nat)kv,kps[i]?=some kv->xs[i]?=some (kV kv.1)/\ys[i]?=some kv.2)/\(kps.length=xs.length\/kps.length<xs.length/\kps.length=ys.length)/\∀l,H1 l=none->Q (.ref l) (upd H1 l (.dK (eE kps []))):=by intro pins s0 M H0 Q I0 h;refine Call_ (l9 I0 Ac Ad boot_dict (QG ?_ v_ rfl));rw[v_];refine Calls.spliced_cons (Call_ (l9 I0 hg hm boot_zip (QG (aM (ha kH pins s0 M H0 _ I0 h) λus s1 hh=>?_) hs cQ)));obtain⟨vs,H,I1,r1,q1⟩:=hh;obtain⟨b1,b2,v,w,xs,ys,kps,rfl,hx,hy,hz,hk,hl,q⟩:=q1;cases r1 with|cons r rr=>cases rr with|cons r' rr=>
   cases rr;obtain⟨t,rfl,p1,l1⟩:=I1.v9 (hx H λ_ _ e=>e) r;obtain⟨u,rfl,p2,l2⟩:=I1.v9 (hy H λ_ _ e=>e) r';refine Hy p1 p2 λh' st Ae kp=>Calls.spliced_nil ?_;have I:Inv X pins M H {s1 with heap:=h'}:=I1.kept (t':=s1.toks) kp;generalize hn:s1.heap.objs.size=n at*;have ot:n+4<h'.objs.size:=Wp Ae;have hA:X.A.handled=none:=I.ok.hd hc;refine callType_codes (Q₁:=λobj s₁=>obj=.ref h'.objs.size/\s₁={s1 with heap:=h'.push {cls:=.type "dict",data:=.dict #[]}}) F.kt_called_dict (F.kt_typeCall_dict_1 _) F.entry_dict_init (kt_code_dict_new _ ⟨rfl,rfl⟩) ?_;rintro obj s₁⟨rfl,rfl⟩;have gO:H h'.objs.size=none:=I.aB.fresh (Wg _);have I2:Inv X pins M (upd H h'.objs.size (.dK [])) {s1 with heap:=h'.push {cls:=.type "dict",data:=.dict #[]}}:=I.laid (t':=s1.toks) (λ_ _ q=>W6 _ q) (Wg _) (uy h' I.big);have rJ:({s1 with heap:=h'.push {cls:=.type "dict",data:=.dict #[]}}:W4).TypeIs (.ref h'.objs.size) "dict":=⟨_,Wh _ rfl,rfl⟩;refine⟨rJ,F.args_dict_init_2 _ _,?_⟩;unfold Builtin.«dict.__init__»;refine W0 ?_;unfold Builtin.Dict.selfAndRest;refine W0 (QB rJ ?_);show W7 _ _ (pure (h'.objs.size,[Value.ref (n+4)])) _ _ _;refine W3 ?_;show W7 _ _ (JH "dict.__init__" h'.objs.size (.ref (n+4)) [] .none) _ _ _;unfold JH;have e:=W6 {cls:=.type "dict",data:=.dict #[]} Ae;refine W0 (JA ⟨_,e,rfl⟩ ?_);rw[if_pos Z'];refine W0 (ZH e hA λh3 tk uD=>?_);rw[if_pos (show(none:Option Value).isNone=true from rfl)];refine W0 (QU ?_);have I3:Inv X pins M (upd H h'.objs.size (.dK [])) {s1 with heap:=h3,toks:=tk}:=I2.kept uD;have kk:∀b o,h'.get? b=some o->h3.get? b=some o:=λb o z=>uD b o (W6 _ z);refine W0 (wpAny_pyIter_zip (s:={s1 with heap:=h3,toks:=tk}) (kk _ _ Ae) ?_);refine W3 ⟨plainId_quiet pB _,?_⟩;have lt:∀b∈fN n,b<h'.objs.size:=λb hb=>by
    have le:∀k:Nat,k<=4->n+k<h'.objs.size:=λk hk=>Ub (Nat.add_le_add_left hk n) ot;rcases v8 hb with e|e|e|e|e<;>subst e;.exact ot
    .exact le 2 Z'
    .exact le 3 Z'
    .exact le 0 Z'
    .exact le 1 Z'
   have ge:∀b∈fN n,s1.heap.objs.size<=b:=λb hb=>by subst hn;exact Ab I1 b hb
   refine ZI (A:=X.A.in1) (R:=wants (λr s₂=>r=Value.none/\EP X pins M Q (Value.ref h'.objs.size) s₂) X.xe) (X:=X) (pins:=pins) (M:=M) (H:=H) (S:=jz b1 v t) (T:=jz b2 w u) (n:=n) (xs:=xs) (ys:=ys) (kps:=kps) hA l1 l2 gO (λz=>Qh _ (lt _ z)) hz (λH' up=>(hx H' up).sd) (λH' up=>(hy H' up).sd) hk hl (λb hb H' e=>I1.iY (ge b hb) e) (λb hb=>I1.aB.fresh (ge b hb)) (λs' I'=>⟨rfl,.ref _,_,I',rfl,q _ gO⟩) kps.length 0 _ 0 _ (Nat.sub_zero _) (QE _) I3 ?_;obtain⟨⟨v0,f,oo,hv⟩,hI,⟨a,b,hO⟩,q1,q2⟩:=st;exact⟨⟨v0,f,kk _ _ oo,hv⟩,kk _ _ hI,⟨a,b,kk _ _ hO⟩,Sd.gH q1 (kk _),Sd.gH q2 (kk _)⟩
end
noncomputable def pz:List D->List D->Option (List (aZ×D))
 |x::xs,y::ys=>match cb x,pz xs ys with|some k,some r=>some ((k,y)::r)|_,_=>none
 |_,_=>some []
def se(f g:DE):DE:=λU=>(f U).bind λx ZW=>(g ZW).bind λy XV=>match lE x.d,lE y.d with
 |some xs,some ys=>match pz xs ys with|some ps=>if ps.length<=Wb then .ok (.own (.au (jk ps []))) XV else .stuck|none=>.stuck
 |_,_=>.stuck
theorem HF:∀{xs ys:List D}{vs us:List V}{ps:List (aZ×D)},pz xs ys=some ps->aH H O vs xs->aH H O us ys->∃kps,DR H O kps ps/\kps.length=ps.length/\(∀(i:Nat)kv,kps[i]?=some kv->vs[i]?=some (kV kv.1)/\us[i]?=some kv.2)/\(kps.length=vs.length\/kps.length<vs.length/\kps.length=us.length)
 |[],ys,vs,us,ps,h,r,_=>by simp only[pz]at h;cases h;have:=r.1;exact⟨[],trivial,rfl,λi kv e=>by simp at e,.inl (~~~this.symm)⟩|_::_,[],vs,us,ps,h,r,r'=>by simp only[pz]at h;cases h;have h1:=r.1;have h2:=r'.1;exact⟨[],trivial,rfl,λi kv e=>by simp at e,.inr ⟨by rw[h1];simp,by rw[h2];simp⟩⟩|x::xs,y::ys,[],us,ps,h,r,r'=>by have:=r.1;simp at this|x::xs,y::ys,v::vs,[],ps,h,r,r'=>by have:=r'.1;simp at this|x::xs,y::ys,v::vs,u::us,ps,h,r,r'=>by
  simp only[pz]at h;split at h;.rename_i k r'' hk hr;cases h;obtain⟨kps,h1,h2,h3,h4⟩:=HF hr r.tail r'.tail;have ek:=yR hk r.head;subst ek;refine⟨(di k,u)::kps,⟨rfl,r'.head,h1⟩,#v[h2],λi kv e=>?_,by simp;lia⟩;cases i with|zero=>simp at e;subst e;exact⟨rfl,rfl⟩|succ i=>exact h3 i kv (~~~e)
  .cases h
section
variable{a b:Expr}{f g:DE}
theorem ZL(hc:X.calm=true)(Ac:Gl X "dict")(Ad:X.mg "dict"=none)(hg:Gl X "zip")(hm:X.mg "zip"=none)(ha:SE X c a f)(hb:SE X c b g)(hs:We [a,b] X.env=(false,eval a X.env)::We [b] X.env:=by rfl)(rj:We [b] X.env=(false,eval b X.env)::We [] X.env:=by rfl)(cQ:(Qz kH (We [b] X.env)).any (·.1)=false:=by rfl)(v_:We [.Call (.Name "zip" oq) [a,b] [] kH] X.env=(false,eval (.Call (.Name "zip" oq) [a,b] [] kH) X.env)::We [] X.env:=by rfl):SE X c (.Call (.Name "dict" pp) [.Call (.Name "zip" oq) [a,b] [] kH] [] pos) (se f g):=PE.weak (ZK hc Ac Ad hg hm (fq ha (fq hb gJ rj) hs) hs cQ v_) λM H Q⟨U,k,q⟩=>by
  unfold se at q;rw[bp]at q;refine⟨U,k,aT q λx ZW q1 v H1 a1 r1=>⟨ZW,a1.ok,?_⟩⟩;rw[bp]at q1;refine aT q1 λy XV q2 u H2 a2 r2=>?_;have hx:Rep H2 (Av c M XV) v x.d:=Rep.dH r1.rep a2;have hy:Rep H2 (Av c M XV) u y.d:=r2.rep;split at q2
  .rename_i xs ys e1 e2;obtain⟨b1,vs,s1,w1,k1⟩:=hx.sd (K:=X.K) e1;obtain⟨b2,us,s2,w2,k2⟩:=hy.sd (K:=X.K) e2;split at q2
   .rename_i ps ep;split at q2;.rename_i hz;obtain⟨kps,h1,h2,h3,h4⟩:=HF ep w1 w2;refine⟨b1,b2,v,u,vs,us,kps,rfl,λH' up=>k1 H' λp o e _=>up p o e,λH' up=>k2 H' λp o e _=>up p o e,%[h2|hz],h3,h4,λl hl=>?_⟩;have kk:=(a1.trans a2).ok;obtain⟨z1,z2,z3,z4,z5,z6,z7⟩:=bu.yT kk hl (DR.vo h1 (ws:=[]) (ds:=[]) trivial);cases z2;refine q2 (.ref l) _ ((a1.trans a2).trans (.alloc kk hl _)) ⟨l,rfl,z3,z4,z5,z6,?_⟩;cases z:H l with|none=>rfl|some o=>obtain⟨o',e⟩:=(a1.trans a2).there l o z;rw[hl]at e;cases e
    .exact q2.elim
   .exact q2.elim
  .exact q2.elim
end
theorem gR(e:b (bY n ss)=.ok (.ret v) ZW)(h1:eC np 0 ss=true)(h2:da 0 ss ZW=some a_):bI np n b ss=some (v,a_):=by unfold bI fB;rw[if_pos h1,e];simp[e_,h2]
theorem aR{x}(h:b ZW=x)(e:a U=.ok .next ZW):ar a b U=x:=by unfold ar;rw[e];exact h
theorem HG{x}(h:ar a r ZW=x)(e:t U=.ok true ZW):ar (bG t a b) r U=x:=by rw[<-h];unfold ar bG;rw[e];rfl
theorem ZM{x}(h:ar b r ZW=x)(e:t U=.ok false ZW):ar (bG t a b) r U=x:=by rw[<-h];unfold ar bG;rw[e];rfl
theorem ZN{x}(h:r U=x):ar bL r U=x:=h
theorem HH{x}(h:ar a (ar b r) U=x):ar (ar a b) r U=x:=by rw[<-h];unfold ar;rcases a U with⟨v,ZW⟩|_|_<;>first|rfl|(cases v<;>rfl)
theorem dZ(e:a U=.ok (.ret v) ZW):ar a b U=.ok (.ret v) ZW:=by unfold ar;rw[e];rfl
theorem ai(i j:Int):aU (.int i) (.int j)=some (.pure (.int (i+j))):=rfl
theorem ZO(i j:Int):qY (.int i) (.int j)=some (.pure (.int (i-j))):=rfl
theorem Af(xs):cm (.lst xs)=some (.pure (.tup xs)):=rfl
theorem wa(a b):aw (.tup [a,b]) (.int 0)=some (.pure a)/\aw (.tup [a,b]) (.int 1)=some (.pure b):=⟨rfl,rfl⟩
theorem ZP(a b c):aw (.tup [a,b,c]) (.int 0)=some (.pure a)/\aw (.tup [a,b,c]) (.int 1)=some (.pure b)/\aw (.tup [a,b,c]) (.int 2)=some (.pure c):=⟨rfl,rfl,rfl⟩
theorem ZQ(f U):aK f U=(f U).bind λr ZW=>match r.d with|.lst ds=>.ok ds ZW|.tup ds=>.ok ds ZW|.str x=>.ok (x.map λn=>.str [n]) ZW|_=>.stuck:=id rfl
theorem cN{p:Prop}(h:p:=by exists "zzj bY aC ax aA aj bB mw gz dw aa ah cj a7 cw S.d aF bW dC dP cV cH bH az b_ qW dj ai ZO Af cL dE jl cb eQ jg putL nN bx eM nV ZQ iI wa ZP",_,_,_<;>first|rfl|(refine⟨?_,?_⟩<;>rfl)|(refine⟨⟨?_,?_⟩,?_⟩<;>rfl)):p:=h
theorem Run{p:Prop}(h:p:=by repeat' first|((with_reducible show bI _ _ _ _=_);apply gR)|((with_reducible show da _ _ _=_);rfl)|((with_reducible show eC _ _ _=_);rfl)|((with_reducible refine HH ?_))|((with_reducible refine ZN ?_))|((with_reducible show ar (bG _ _ _) _ _=_);first|refine HG ?_ cN|refine ZM ?_ cN)|refine aR ?_ cN|exact dZ cN|exact cN):p:=h
theorem nm{b:DS}{TD:Dl}{y:Rs Fl}(h:b TD=y):∃U,TD=U/\b U=y:=⟨_,rfl,h⟩
theorem cM{A:Type}(f F:A->D){as:List A}{it g t ZW}(e:it U=.ok (as.map f) ZW)(hl:as.length<=1000)(hs:∀a∈as,∃U1' XV x XL,g (.pure (f a)) (bx cs ZW)=some U1'/\t U1'=.ok true XV/\el XV=.ok x XL/\bx cs XL=bx cs ZW/\x.d=F a)(no:cs.any (dP ZW)=false:=by rfl):bJ cs it g t el U=.ok (.own (.lst (as.map F))) (eM cs ZW (bx cs ZW)):=by have c:=zi (cs:=cs) (g:=g) (t:=t) (el:=el) f F (bx cs ZW) as [] (by have:PySem.sizeLine=16777216:=rfl;simp;lia) hs;unfold bJ;rw[e];show(if _ then _ else _)=_;rw[if_neg (by rw[no];decide),c];rfl
end Lake
namespace Lake.K67
open _root_.PySem.W(nsIn keepIn codeIn findIn mroIn kitOne mg_of)
open _root_.PySem _root_.PySem.Spec PyProof.Rows
abbrev gF:Tx:=[97,98,99,100,101,102,103,104,105,106,107,108,109,110,111,112,113,114,115,116,117,118,119,120,121,122]
variable{DP mx pa pd ru:D}{K:W5}{L cs np ts:List Nat}{al:Nat->Prop}{base:Heap}{c hd mY sg tw:Nat->Nat}{cd:Value}{cl:List (Str×Addr)}{el:DE}{fa fg:Addr}{fl:List Tx}{it:DI}{mg:Str->Option Value}{n place x0:Nat}{o5 o6 o7 o8:Option S}{p:Nat×Nat}{ps:List (Nat×Nat)}{pt' tx:Nat->List Nat}{U ZW:Dl}
theorem wb{a b:Prop}(h:a\/b:=by first|exact Or.inl rfl|exact Or.inr rfl):a\/b:=h
def top(i:Nat):Stmt:=PySem.Challenge.pw_tilegrow_k67_least_by_anybody.main.body.getD i (.Pass ⟨0,0,0,0⟩)
abbrev HI:Stmt:=top 36
abbrev HJ:Stmt:=top 38
abbrev HK:Stmt:=top 37
abbrev HL:Stmt:=top 39
abbrev HM:Stmt:=top 42
abbrev HN:Stmt:=top 41
abbrev HP:Stmt:=top 43
abbrev HQ:Stmt:=top 44
abbrev HR:Stmt:=top 45
abbrev HS:Stmt:=top 46
abbrev HU:Stmt:=top 47
abbrev HV:Stmt:=top 48
abbrev HW:Stmt:=top 50
abbrev HX:Stmt:=top 5
abbrev HY:Stmt:=top 6
abbrev HZ:Stmt:=top 14
abbrev H_:Stmt:=top 7
abbrev Ia:Stmt:=top 11
abbrev Ib:Stmt:=top 8
abbrev Ic:Stmt:=top 15
abbrev Ie:Stmt:=top 16
abbrev Ig:Stmt:=top 17
abbrev Ih:Stmt:=top 23
abbrev Ii:Stmt:=top 18
abbrev Ij:Stmt:=top 19
abbrev Ik:Stmt:=top 20
abbrev Il:Stmt:=top 21
abbrev Im:Stmt:=top 22
abbrev Io:Stmt:=top 27
abbrev Ip:Stmt:=top 30
abbrev Iq:Stmt:=top 31
abbrev Ag:Stmt:=top 25
abbrev Ah:Stmt:=top 32
abbrev kI:Stmt:=top 33
abbrev Ai:Stmt:=top 34
abbrev Ir:Stmt:=top 40
abbrev Aj:Stmt:=top 49
abbrev Al:Stmt:=top 51
abbrev lH:Stmt:=top 52
abbrev wc:Stmt:=(d_ kI).getD 4 (.Pass ⟨0,0,0,0⟩)
def j0:Pos:=match wc with|.FunctionDef _ _ _ _ _ _ _ _ _ p=>p|_=>⟨0,0,0,0⟩
def iQ:Str:=("least_floor":Str)++".<locals>."++"parts_of"
structure Txt(K:W5)(mg:Str->Option Value):Prop where
 sf:mg "all"=none
 sh:mg "any"=none
 si:mg "bool"=none
 sj:mg "dict"=none
 sk:mg "enumerate"=none
 su:mg "int"=none
 sv:mg "isinstance"=none
 sy:mg "len"=none
 sA:mg "list"=none
 sC:mg "max"=none
 sE:mg "range"=none
 sG:mg "sorted"=none
 sI:mg "str"=none
 sJ:mg "tuple"=none
 sM:mg "zip"=none
 ty_bool:jL K "bool"ty_int:jL K "int"ty_str:jL K "str"ty_tuple:jL K "tuple"sQ:∃t,mg "MOST_SIZE"=some (.int 4 t)sS:∃t,mg "MOST_TILES"=some (.int 64 t)sU:∃t,mg "NAMES"=some (.str (toS gF) t)
abbrev Iu:DS:=ar (bG (aC (aj gN 1 (aq (az aX (ah 0))))) (bh (aj aw 0 (ah 1))) bL) (bh (eD (.int 0)))
def pU:DF:=bI [] 2 Iu
abbrev Iv:DS:=ar (ax (u9 (aa 0) (aA qY (eD (.int 0)) (ah 0))) (ag [] 1)) (bh (bQ (ao (aa 1) (ao (az oY (aq (aj yt 1 (aq (aA uX (eD (.int 10)) (aq (eD (.int 18)))))))) (ao (aj f7 1 (aq (eD (.int 1000003)))) aD)))))
def ou:DF:=bI [] 2 Iv
abbrev Iw:DS:=ar (ax (aA f7 (aj aU 0 (aq (eD (.int 7919)))) (aq (eD (.int 2147483647)))) (ag [] 0)) (bh (aA f7 (aA aU (aA aU (aj e8 0 (ah 0)) (aq (aA e8 (eD (.int 48271)) (ah 0)))) (aq (eD (.int 12345)))) (aq (eD (.int 2147483629)))))
def pV:DF:=bI [] 1 Iw
abbrev Iy:DS:=ar (bG (aC (aA df (aj aw 0 (aq (eD (.int 1)))) (aq (eD (.int 1))))) (ar (ax (aA f7 (aj aw 0 (aq (eD (.int 0)))) (ah 1)) (ag [0] 2)) (ar (nN 0 (eD (.int 0)) (aA oW (aj aw 0 (aq (eD (.int 0)))) (ah 1))) (bh (aa 2)))) bL) (ar (nN 0 (eD (.int 2)) (aF pV [.val (aA aU (aF pV [.val (aj aw 0 (aq (eD (.int 2))))]) (aq (eD (.int 7))))])) (bh (aA f7 (aA oW (aj aw 0 (aq (eD (.int 2)))) (aq (eD (.int 64)))) (ah 1))))
def bZ:DF:=bI [0] 3 Iy
abbrev Iz:DS:=ar (ax (aA aU (eD (.int 1)) (aq (aF bZ [.io 0,.val (eD (.int 3))]))) (ag [0] 1)) (ar (ax (aA aU (eD (.int 1)) (aq (aF bZ [.io 0,.val (eD (.int 3))]))) (ag [0] 2)) (ar (bG (aC (aA df (aF bZ [.io 0,.val (eD (.int 8))]) (aq (eD (.int 0))))) (ax (aA aw (yM [.tup [.int 4,.int 1],.tup [.int 1,.int 4],.tup [.int 4,.int 4],.tup [.int 4,.int 3],.tup [.int 1,.int 2],.tup [.int 2,.int 1]]) (aq (aF bZ [.io 0,.val (eD (.int 6))]))) (cj 2 (a7 (ag [0] 1) (a7 (ag [0] 2) cw)))) bL) (ar (bG (aC (aA df (aj aU 1 (ah 2)) (aq (eD (.int 2))))) (ax (eD (.int 2)) (ag [0] 2)) bL) (bh (aQ (ao (aa 1) (ao (aa 2) aD)))))))
def sV:DF:=bI [0] 3 Iz
abbrev IA:DS:=ar (bG (aC (aj df 3 (aq (eD (.int 1))))) (bh (aj aw 1 (aq (aF bZ [.io 0,.val (aj aU 2 (aq (eD (.int 1))))])))) bL) (ar (bG (aC (aj df 3 (aq (eD (.int 2))))) (bh (aj aw 1 (aq (aA f7 (aj aU 2 (aq (eD (.int 1)))) (aq (az aX (ah 1))))))) bL) (ar (bG (qW (aC (aj df 3 (aq (eD (.int 3))))) (aC (aA hJ (aF bZ [.io 0,.val (eD (.int 4))]) (aq (eD (.int 0)))))) (bh (aj aw 1 (ah 2))) bL) (bh (aj aw 1 (aq (aF bZ [.io 0,.val (az aX (ah 1))]))))))
def ow:DF:=bI [0] 4 IA
abbrev IB:DS:=ar (ax (aF sV [.io 0]) (cj 2 (a7 (ag [0] 2) (a7 (ag [0] 3) cw)))) (ar (ax (aA aU (eD (.int 1)) (aq (aF bZ [.io 0,.val (aa 1)]))) (ag [0] 4)) (ar (ax (aF bZ [.io 0,.val (eD (.int 26))]) (ag [0] 5)) (ar (ax (eD (.str gF)) (ag [0] 6)) (ar (ax (az o_ (aq (bJ [13] (cG (aa 4)) (ag [0] 13) bP (aj aw 6 (aq (aA f7 (aj aU 5 (aq (aA e8 (eD (.int 5)) (ah 13)))) (aq (eD (.int 26))))))))) (ag [0] 7)) (ar (ax (aF bZ [.io 0,.val (eD (.int 5))]) (ag [0] 8)) (ar (ax (bQ aD) (ag [0] 9)) (ar (bE (cG (aa 4)) (ag [0] 10) (ar (ax (bQ aD) (ag [0] 11)) (ar (bE (cG (aa 2)) (ag [0] 12) (cL 11 (az (cO []) (aq (bJ [14] (cG (aa 3)) (ag [0] 14) bP (aF ow [.io 0,.val (aa 7),.val (aa 10),.val (aa 8)])))))) (cL 9 (aQ (ao (aj aw 7 (ah 10)) (ao (az cm (ah 11)) aD))))))) (bh (aQ (ao (aa 2) (ao (aa 3) (ao (az cm (ah 9)) aD))))))))))))
def sX:DF:=bI [0] 15 IB
abbrev IC:DS:=ar (ax (aa 0) (cj 3 (a7 (ag [] 2) (a7 (ag [] 3) (a7 (ag [] 4) cw))))) (ar (ax (aj aw 4 (ah 1)) (cj 2 (a7 (ag [] 5) (a7 (ag [] 6) cw)))) (ar (ax (aA aU (aQ (ao (aj aU 5 (aq (mw (aj aw 6 (aq (eD (.int 0)))) (dw (eD (.int 1))) gz))) aD)) (aq (eQ 6 (dw (eD (.int 1))) gz))) (ag [] 7)) (bh (aQ (ao (aa 2) (ao (aa 3) (ao (aA aU (aA aU (eQ 4 gz (dw (aa 1))) (aq (aQ (ao (aQ (ao (aa 5) (ao (aa 7) aD))) aD)))) (aq (eQ 4 (dw (aj aU 1 (aq (eD (.int 1))))) gz))) aD)))))))
def ox:DF:=bI [] 8 IC
abbrev ID:DS:=ar (ax (eD (.str gF)) (ag [1] 2)) (ar (ax (bJ [13] (aK (aj aw 0 (aq (eD (.int 2))))) (ag [1] 13) bP (aj aw 13 (aq (eD (.int 0))))) (ag [1] 3)) (ar (ax (bJ [14] (aK (aa 2)) (ag [1] 14) (aC (aA (dQ true) (aa 14) (ah 3))) (aa 14)) (ag [1] 4)) (ar (ax nV (ag [1] 5)) (ar (bE (cG (az aX (ah 3))) (ag [1] 6) (dE 5 (aj aw 3 (ah 6)) (aj aw 4 (ah 6)))) (ar (ax (bQ aD) (ag [1] 7)) (ar (bE (aK (aj aw 0 (aq (eD (.int 2))))) (cj 2 (a7 (ag [1] 8) (a7 (ag [1] 9) cw))) (bE (aK (bQ (ao (aa 8) (ao (aj aN 5 (ah 8)) aD)))) (ag [1] 10) (ar (ax (bQ aD) (ag [1] 11)) (ar (bE (aK (aa 9)) (ag [1] 12) (cL 11 (az (cO []) (aq (bJ [14] (aK (aa 12)) (ag [1] 14) bP (aA aw (bQ (ao (aa 14) (ao (aj aN 5 (ah 14)) aD))) (aq (aF bZ [.io 1,.val (eD (.int 2))])))))))) (cL 7 (aQ (ao (aa 10) (ao (az cm (ah 11)) aD)))))))) (bh (aQ (ao (aQ (ao (aj aw 0 (aq (eD (.int 0)))) (ao (aj aw 0 (aq (eD (.int 1)))) (ao (az cm (aq (az n5 (ah 7)))) aD)))) (ao (aa 5) aD))))))))))
def pW:DF:=bI [1] 15 ID
abbrev IE:DS:=ar (ax (aF sX [.io 0,.val (aa 1)]) (ag [0] 2)) (ar (ax (bJ [10] (aK (aj aw 2 (aq (eD (.int 2))))) (ag [0] 10) bP (aj aw 10 (aq (eD (.int 0))))) (ag [0] 3)) (ar (ax nV (ag [0] 4)) (ar (ax (aA aU (eD (.int 1)) (aq (aF bZ [.io 0,.val (eD (.int 3))]))) (ag [0] 5)) (ar (bE (aK (aa 3)) (ag [0] 6) (dE 4 (aa 6) (aA aw (eD (.str [120,121,122])) (aq (aF bZ [.io 0,.val (aa 5)]))))) (ar (ax (aF bZ [.io 0,.val (az aX (ah 3))]) (ag [0] 7)) (ar (ax (aF ox [.val (aa 2),.val (aa 7)]) (ag [0] 2)) (ar (ax (aj aw 3 (ah 7)) (ag [0] 8)) (ar (bG (aC (aA df (aF bZ [.io 0,.val (eD (.int 2))]) (aq (eD (.int 0))))) (ar (ax (aF pW [.val (aa 2),.io 0]) (cj 2 (a7 (ag [0] 2) (a7 (ag [0] 9) cw)))) (ar (bE (aK (aa 3)) (ag [0] 6) (dE 4 (aj aN 9 (ah 6)) (aj aN 4 (ah 6)))) (ar (ax (aA aw (bQ (ao (aa 8) (ao (aj aN 9 (ah 8)) aD))) (aq (aF bZ [.io 0,.val (eD (.int 2))]))) (ag [0] 8)) (ax (aF ox [.val (aa 2),.val (rO (bJ [10] (aK (aj aw 2 (aq (eD (.int 2))))) (ag [0] 10) bP (aj aw 10 (aq (eD (.int 0))))) (aa 8))]) (ag [0] 2))))) bL) (bh (aQ (ao (aa 2) (ao (aa 8) (ao (az cm (aq (bJ [10] (aK (aj aw 2 (aq (eD (.int 2))))) (ag [0] 10) bP (aQ (ao (aj aw 10 (aq (eD (.int 0)))) (ao (aj aN 4 (aq (aj aw 10 (aq (eD (.int 0)))))) aD)))))) aD)))))))))))))
def mR:DF:=bI [0] 11 IE
abbrev IF:DS:=ar (ax (az dD (ah 1)) (ag [] 2)) (ar (ax (az dD (aq (bJ [10,11] (aK (aj aw 0 (aq (eD (.int 2))))) (cj 2 (a7 (ag [] 10) (a7 (ag [] 11) cw))) bP (aQ (ao (aa 10) (ao (az (cO []) (ah 11)) aD)))))) (ag [] 3)) (ar (ax (bJ [9] (aK (aj aw 0 (aq (eD (.int 2))))) (ag [] 9) bP (aj aw 9 (aq (eD (.int 0))))) (ag [] 4)) (ar (ax jW (ag [] 5)) (ar (bE (aK (aa 4)) (ag [] 6) (bE (aK (aa 4)) (ag [] 7) (jv 5 (aQ (ao (aa 6) (ao (aa 7) aD))) (aA eT (aj aN 2 (ah 6)) (aq (aj aN 2 (ah 7))))))) (ar (ax (eD (.bl true)) (ag [] 8)) (ar (dY (aC (aa 8)) (ar (ax (eD (.bl false)) (ag [] 8)) (bE (aK (az rS (ah 5))) (cj 2 (a7 (ag [] 6) (a7 (ag [] 7) cw))) (bG (b_ (aC (aj ip 5 (aq (aQ (ao (aa 6) (ao (aa 7) aD))))))) (bG (aC (az nL (aq (bJ [9] (jZ (aj aN 3 (ah 6)) (aj aN 3 (ah 7))) (ag [] 9) bP (aj ip 5 (ah 9)))))) (ar (jv 5 (aQ (ao (aa 6) (ao (aa 7) aD))) (eD (.bl true))) (ax (eD (.bl true)) (ag [] 8))) bL) bL))) 1000000) (lh [] 5)))))))
def sY:DF:=bI [] 12 IF
abbrev IG:DS:=ar (ax (aa 0) (cj 3 (a7 (ag [] 1) (a7 (ag [] 2) (a7 (ag [] 3) cw))))) (ar (ax (aF sY [.val (aa 1),.val (aa 3)]) (ag [] 4)) (ar (ax (bJ [17] (aK (aj aw 1 (aq (eD (.int 2))))) (ag [] 17) bP (aj aw 17 (aq (eD (.int 0))))) (ag [] 5)) (ar (ax nV (ag [] 6)) (ar (bE (aK (aa 5)) (ag [] 7) (dE 6 (aa 7) (aA aw (bJ [18] (aK (aa 5)) (ag [] 18) (b_ (aC (aj ip 4 (aq (aQ (ao (aa 7) (ao (aa 18) aD))))))) (aa 18)) (aq (eD (.int 0)))))) (ar (ax (az dD (aq (aj aw 1 (aq (eD (.int 2)))))) (ag [] 8)) (ar (ax (bQ (ao (aj aN 6 (ah 2)) aD)) (ag [] 9)) (ar (ax (nZ (aj aN 6 (ah 2)) (eD (.str [97]))) (ag [] 10)) (ar (ax (bQ aD) (ag [] 11)) (ar (dY (aC (aA gN (az aX (ah 11)) (aq (az aX (ah 9))))) (ar (ax (bQ aD) (ag [] 12)) (ar (bE (aK (aj aN 8 (aq (aj aw 9 (aq (az aX (ah 11))))))) (ag [] 13) (ar (ax (eD (.str [])) (ag [] 14)) (ar (bE (aK (aa 13)) (ag [] 15) (ar (bG (aC (aA (dQ true) (aj aN 6 (ah 15)) (ah 10))) (ar (dE 10 (aj aN 6 (ah 15)) (aA aw (eD (.str gF)) (aq (az aX (ah 9))))) (cL 9 (aj aN 6 (ah 15)))) bL) (ax (aj aU 14 (aq (aj aN 10 (aq (aj aN 6 (ah 15)))))) (ag [] 14)))) (cL 12 (aa 14))))) (cL 11 (aQ (ao (aj aN 10 (aq (aj aw 9 (aq (az aX (ah 11)))))) (ao (az cm (ah 12)) aD)))))) 1000000) (ar (ax (az dD (ah 3)) (ag [] 16)) (bh (aQ (ao (aQ (ao (aj aw 1 (aq (eD (.int 0)))) (ao (aj aw 1 (aq (eD (.int 1)))) (ao (az cm (ah 11)) aD)))) (ao (eD (.str [97])) (ao (az cm (aq (bJ [19] (aK (aa 9)) (ag [] 19) bP (aQ (ao (aj aN 10 (ah 19)) (ao (aj aN 16 (ah 19)) aD)))))) aD)))))))))))))))
def mS:DF:=bI [] 20 IG
abbrev IH:DS:=ar (ax (aa 0) (cj 3 (a7 (ag [1] 2) (a7 (ag [1] 3) (a7 (ag [1] 4) cw))))) (ar (ax (aa 2) (cj 3 (a7 (ag [1] 5) (a7 (ag [1] 6) (a7 (ag [1] 7) cw))))) (ar (ax (aF bZ [.io 1,.val (az aX (ah 7))]) (ag [1] 8)) (ar (ax (aj aw 7 (ah 8)) (cj 2 (a7 (ag [1] 9) (a7 (ag [1] 10) cw)))) (ar (ax (aA aU (mw (aj aw 10 (aq (eD (.int 0)))) gz (dw (az pD (aq (eD (.int 1)))))) (aq (aA aw (eD (.str [97,98,122])) (aq (aF bZ [.io 1,.val (eD (.int 3))]))))) (ag [1] 11)) (ar (ax (bQ (ao (aQ (ao (aa 9) (ao (aA aU (aQ (ao (aa 11) aD)) (aq (eQ 10 (dw (eD (.int 1))) gz))) aD))) (ao (aQ (ao (eD (.str [98])) (ao (aa 10) aD))) (ao (bQ (ao (aa 9) (ao (aa 10) aD))) aD)))) (ag [1] 12)) (ar (ax (aA aw (aj aU 12 (aq (bQ (ao (aQ (ao (aa 9) (ao (az lq (ah 10)) aD))) (ao (aQ (ao (aa 9) aD)) aD))))) (aq (aF bZ [.io 1,.val (eD (.int 5))]))) (ag [1] 12)) (ar (ax (aA aw (bQ (ao (aQ (ao (aa 9) (ao (aA aw (eD (.str [120,121,122])) (aq (aF bZ [.io 1,.val (eD (.int 3))]))) aD))) (ao (eD (.tup [.str [122],.str [120]])) (ao (aQ (ao (aa 9) (ao (eD .aJ) aD))) (ao (bQ (ao (aa 9) (ao (eD (.str [120])) aD))) aD))))) (aq (aF bZ [.io 1,.val (eD (.int 4))]))) (ag [1] 13)) (ar (ax (aA aU (aA aU (eQ 7 gz (dw (aa 8))) (aq (aQ (ao (aa 12) aD)))) (aq (eQ 7 (dw (aj aU 8 (aq (eD (.int 1))))) gz))) (ag [1] 14)) (ar (ax (bQ (ao (aQ (ao (aa 5) (ao (aa 6) (ao (aa 14) aD)))) (ao (aQ (ao (aa 6) (ao (aa 5) (ao (aa 7) aD)))) (ao (aQ (ao (aa 5) (ao (aa 6) (ao (az pG (ah 7)) aD)))) aD)))) (ag [1] 15)) (ar (ax (aj aU 15 (aq (bQ (ao (aQ (ao (aa 5) (ao (aa 6) (ao (az lq (ah 7)) aD)))) (ao (aQ (ao (aa 5) (ao (aa 6) (ao (aj aU 7 (aq (aQ (ao (aQ (ao (aa 9) (ao (aa 10) aD))) aD)))) aD)))) (ao (aQ (ao (eD (.bl true)) (ao (aa 6) (ao (aa 7) aD)))) aD)))))) (ag [1] 15)) (ar (ax (aj aU 15 (aq (bQ (ao (az lq (ah 2)) (ao (eD .aJ) (ao (aQ (ao (aa 5) (ao (aa 6) aD))) (ao (aQ (ao (aa 5) (ao (aa 6) (ao (eQ 7 gz (dw (az pD (aq (eD (.int 1)))))) aD)))) aD))))))) (ag [1] 15)) (ar (ax (bQ (ao (aA aU (aA aU (eQ 4 gz (dw (aa 8))) (aq (aQ (ao (aa 13) aD)))) (aq (eQ 4 (dw (aj aU 8 (aq (eD (.int 1))))) gz))) (ao (az pG (ah 4)) (ao (eQ 4 (dw (eD (.int 1))) gz) aD)))) (ag [1] 16)) (ar (ax (aj aU 16 (aq (bQ (ao (az lq (ah 4)) (ao (az dD (ah 4)) (ao (eD .aJ) aD)))))) (ag [1] 16)) (ar (ax (bQ (ao (aQ (ao (aj aw 15 (aq (aF bZ [.io 1,.val (eD (.int 10))]))) (ao (aa 3) (ao (aa 4) aD)))) (ao (aQ (ao (aa 2) (ao (aa 3) (ao (aj aw 16 (aq (aF bZ [.io 1,.val (eD (.int 6))]))) aD)))) (ao (aQ (ao (aa 2) (ao (eD (.str [98])) (ao (aa 4) aD)))) aD)))) (ag [1] 17)) (ar (ax (aj aU 17 (aq (bQ (ao (aQ (ao (aa 2) (ao (eD .aJ) (ao (aa 4) aD)))) (ao (aQ (ao (aa 2) (ao (aa 3) aD))) (ao (bQ (ao (aa 2) (ao (aa 3) (ao (aa 4) aD)))) (ao (aa 2) (ao (eD .aJ) (ao (aj aU 0 (aq (eD (.tup [.int 1])))) aD))))))))) (ag [1] 17)) (bh (aj aw 17 (aq (aF bZ [.io 1,.val (eD (.int 9))])))))))))))))))))))
def mT:DF:=bI [1] 18 IH
abbrev ZR:DS:=bh (iI (du "int" (ah 0)) (iI (qX (du "bool" (ah 0))) (aj fw 1 (ah 0))))
def sZ:DF:=bI [] 2 ZR
abbrev II:DS:=bh (iI (aF sZ [.val (aa 0),.val (aa 1)]) (aj fw 0 (ah 2)))
def oy:DF:=bI [] 3 II
abbrev IJ:DS:=ar (bG (dj (b_ (aC (aF oy [.val (aa 0),.val (eD (.int 1)),.val (eD (.int 4))]))) (b_ (aC (aF oy [.val (aa 1),.val (eD (.int 1)),.val (eD (.int 4))])))) (bh (eD (.bl false))) bL) (bh (uV (aj hJ 0 (aq (eD (.int 1)))) (aj hJ 1 (aq (eD (.int 1))))))
def pX:DF:=bI [] 2 IJ
abbrev IK:DS:=ar (bG (dj (b_ (aC (du "str" (ah 0)))) (b_ (aC (je fw fw (eD (.int 1)) (az aX (ah 0)) (ah 1))))) (bh (eD (.bl false))) bL) (bh (az mr (aq (bJ [2] (aK (aa 0)) (ag [] 2) bP (je fw fw (eD (.str [97])) (aa 2) (aq (eD (.str [122]))))))))
def lJ:DF:=bI [] 3 IK
abbrev IL:DS:=ar (bG (dj (b_ (aC (du "tuple" (ah 0)))) (b_ (aC (je fw fw (eD (.int 1)) (az aX (ah 0)) (aq (eD (.int 64))))))) (bh (eD (.bl false))) bL) (ar (bE (aK (aa 0)) (ag [] 1) (bG (dj (b_ (aC (aF lJ [.val (aa 1),.val (eD (.int 64))]))) (aC (aA eT (az aX (ah 1)) (aq (az aX (aq (aj aw 0 (aq (eD (.int 0)))))))))) (bh (eD (.bl false))) bL)) (bh (eD (.bl true))))
def pY:DF:=bI [] 2 IL
abbrev IM:DS:=bh (aF lJ [.val (aa 0),.val (eD (.int 1))])
def pZ:DF:=bI [] 1 IM
abbrev IP:DS:=ar (bG (dj (b_ (aC (du "tuple" (ah 2)))) (aC (aA eT (az aX (ah 2)) (aq (eD (.int 2)))))) (bh (eD (.bl false))) bL) (ar (ax (aa 2) (cj 2 (a7 (ag [] 3) (a7 (ag [] 4) cw)))) (ar (bG (dj (b_ (aC (aF pZ [.val (aa 3)]))) (b_ (aC (aF pY [.val (aa 4)])))) (bh (eD (.bl false))) bL) (bh (iI (aA df (az aX (ah 4)) (ah 0)) (aA df (az aX (aq (aj aw 4 (aq (eD (.int 0)))))) (ah 1))))))
def oz:DF:=bI [] 5 IP
abbrev IQ:DS:=ar (ax (az dD (ah 0)) (ag [] 1)) (ar (bE (vw (aa 0)) (cj 2 (a7 (ag [] 2) (a7 (ag [] 3) cw))) (bE (aK (az (cO []) (aq (aj aw 3 (aq (eD (.int 1))))))) (ag [] 4) (bG (aC (aA (dQ true) (aa 4) (ah 1))) (bh (aa 2)) bL))) (bh (eD .aJ)))
def p_:DF:=bI [] 5 IQ
abbrev IS:DS:=ar (bG (dj (b_ (aC (du "tuple" (ah 0)))) (aC (aA eT (az aX (ah 0)) (aq (eD (.int 3)))))) (bh (eD (.bl false))) bL) (ar (ax (aa 0) (cj 3 (a7 (ag [] 1) (a7 (ag [] 2) (a7 (ag [] 3) cw))))) (ar (bG (dj (b_ (aC (aF pX [.val (aa 1),.val (aa 2)]))) (dj (b_ (aC (du "tuple" (ah 3)))) (aC (aA df (az aX (ah 3)) (aq (eD (.int 0))))))) (bh (eD (.bl false))) bL) (ar (ax (eD (.str [])) (ag [] 4)) (ar (bE (aK (aa 3)) (ag [] 5) (ar (bG (dj (b_ (aC (aF oz [.val (aa 1),.val (aa 2),.val (aa 5)]))) (aC (aA fw (aj aw 5 (aq (eD (.int 0)))) (ah 4)))) (bh (eD (.bl false))) bL) (ax (aj aw 5 (aq (eD (.int 0)))) (ag [] 4)))) (bh (aA (pE false) (aF p_ [.val (aa 3)]) (aq (eD .aJ))))))))
def lK:DF:=bI [] 6 IS
abbrev IT:DS:=bh (bJ [1,2] (aK (aj aw 0 (aq (eD (.int 2))))) (cj 2 (a7 (ag [] 1) (a7 (ag [] 2) cw))) bP (aa 1))
def qc:DF:=bI [] 3 IT
abbrev IU:DS:=bE (aK (az (cO []) (ah 1))) (ag [] 2) (bG (aC (aA (dQ true) (aa 2) (ah 0))) pj bL)
def qd:DF:=bI [] 3 IU
abbrev IV:DS:=ar (bG (aC (aj hJ 0 (ah 2))) pj bL) (bG (aC (aj hJ 1 (ah 2))) pj bL)
def qe:DF:=bI [] 3 IV
abbrev IW:DS:=ar (bE (cG (aa 2)) (ag [] 3) (ax (aj e8 0 (ah 1)) (ag [] 0))) (bh (aa 0))
def oA:DF:=bI [] 4 IW
abbrev IX:DS:=ar (ax (bQ aD) (ag [] 3)) (ar (bE (aK (aa 2)) (ag [] 4) (bE (cG (aa 1)) (ag [] 5) (cL 3 (az (cO []) (aq (bJ [6] (aK (aa 4)) (ag [] 6) bP (aA aw (aj aN 0 (ah 6)) (ah 5)))))))) (bh (az cm (ah 3))))
def qf:DF:=bI [] 7 IX
abbrev IY:DS:=ar (ax (aa 0) (cj 3 (a7 (ag [] 3) (a7 (ag [] 4) (a7 (ag [] 5) cw))))) (ar (ax (az dD (ah 5)) (ag [] 6)) (ar (ph (aF qd [.val (aa 6),.val (aa 1)])) (ar (ph (aF qe [.val (aF oA [.val (az aX (ah 1)),.val (aa 3),.val (aa 2)]),.val (aF oA [.val (az aX (aq (aj aw 1 (aq (eD (.int 0)))))),.val (aa 4),.val (aa 2)]),.val (eD (.int 64))])) (ar (ax (aa 1) (ag [] 7)) (ar (bE (cG (aa 2)) (ag [] 8) (ax (aF qf [.val (aa 6),.val (aa 3),.val (aa 7)]) (ag [] 7))) (bh (aa 7)))))))
def qg:DF:=bI [] 9 IY
abbrev IZ:DS:=bh (az dD (aq (bJ [2] (aK (aF qc [.val (aa 0)])) (ag [] 2) bP (aQ (ao (aa 2) (ao (az (cO []) (aq (aF qg [.val (aa 0),.val (aQ (ao (aa 2) aD)),.val (aa 1)]))) aD))))))
def s_:DF:=bI [] 3 IZ
abbrev I_:DS:=ar (ax (az dD (ah 1)) (ag [] 2)) (ar (ax (eD (.int 0)) (ag [] 3)) (dY (aC (eD (.bl true))) (ar (ax jW (ag [] 4)) (ar (ax jW (ag [] 5)) (ar (bE (aK (aj aw 0 (aq (eD (.int 2))))) (cj 2 (a7 (ag [] 6) (a7 (ag [] 7) cw))) (ar (ax (aQ (ao (aj jx 2 (ah 6)) (ao (az cm (aq (bJ [9] (aK (az (cO []) (ah 7))) (ag [] 9) bP (aj jx 2 (ah 9))))) aD))) (ag [] 8)) (jv 5 (aa 6) (n_ 4 (aa 8) (az iq (ah 4)))))) (ar (bG (aC (aA df (az iq (ah 4)) (ah 3))) (lh [] 5) bL) (ar (ax (az iq (ah 4)) (ag [] 3)) (pM [] 2 5)))))) 1000000))
def qh:DF:=bI [] 10 I_
abbrev J_:DS:=ar (ax jW (ag [] 2)) (ar (rX [] 2 3 4 (aF qh [.val (aa 0),.val (aa 1)])) (bh (bJ [5] (vL (aa 2)) (ag [] 5) bP (az cm (ah 5)))))
def tf:DF:=bI [] 6 J_
abbrev lL(fa:Addr)(Fn:D->Option D):DS:=ar (ax (bQ (ao (aa 0) aD)) (ag [] 2)) (ar (ax (nZ (aa 0) (eD (.bl true))) (ag [] 3)) (ar (ax (eD (.int 0)) (ag [] 4)) (ar (dY (aC (aj gN 4 (aq (az aX (ah 2))))) (ar (ax (aj aw 2 (ah 4)) (ag [] 5)) (ar (bE (aK (jq fa Fn 1 (aa 5))) (ag [] 6) (bG (aC (aA (dQ true) (aa 6) (ah 3))) (ar (dE 3 (aa 6) (eD (.bl true))) (cL 2 (aa 6))) bL)) (ax (aj aU 4 (aq (eD (.int 1)))) (ag [] 4)))) 1000000) (lh [] 2))))
theorem Ka:fY ["first","step","found","seen","number","here","part"] ["first","step"] (bK Ag):=scc
abbrev lM(fa:Addr)(Fn:D->Option D):DS:=ar (ax (aa 0) (cj 3 (a7 (ag [] 3) (a7 (ag [] 4) (a7 (ag [] 5) cw))))) (ar (ax (se (aa 1) (eD (.str gF))) (ag [] 6)) (ar (ax (bQ aD) (ag [] 7)) (ar (bE (aK (aa 1)) (ag [] 8) (ar (ax (az (cO []) (aq (bJ [10] (aK (jq fa Fn 2 (aa 8))) (ag [] 10) bP (aj aN 6 (ah 10))))) (ag [] 9)) (cL 7 (aQ (ao (aj aN 6 (ah 8)) (ao (az cm (aq (bJ [11] (cG (aa 3)) (ag [] 11) bP (eQ 9 (dw (aj e8 4 (ah 11))) (dw (aA aU (aj e8 4 (ah 11)) (ah 4))))))) aD)))))) (bh (aQ (ao (aa 3) (ao (aa 4) (ao (az cm (ah 7)) aD))))))))
theorem Kb:fY ["rule","things","parts_of","high","wide","blocks","name_of","named","thing","text","part","row"] ["rule","things","parts_of"] (bK Ah):=scc
abbrev jA:DS:=bh (bJ [3] (aK (aj aN 2 (ah 0))) (ag [] 3) bP (aj aN 1 (ah 3)))
theorem ZS:(["own","least_of","text_of","part"]:List Str).Nodup:=by decide+kernel
abbrev b_least_floor:DS:=ar (ax (aa 0) (cj 3 (a7 (ag [] 1) (a7 (ag [] 2) (a7 (ag [] 3) cw))))) (ar (ax (aF s_ [.val (aa 1),.val (eD (.int 1))]) (ag [] 4)) (ar (ax nV (ag [] 5)) (ar (bE (aK (aF tf [.val (aa 1),.val (aa 3)])) (ag [] 6) (bE (aK (aa 6)) (ag [] 7) (dE 5 (aa 7) (aj aw 6 (aq (eD (.int 0))))))) (dDefR 8 λfa=>ar (ax (lD 1 (iu lL 7 fa) [5,4] jA [.val (aj aN 5 (ah 2)),.val (aa 8)]) (ag [] 9)) (ar (ax (az dD (ah 3)) (ag [] 10)) (ar (ax (az cm (aq (bJ [12,7] (jZ (eD (.str gF)) (aa 9)) (cj 2 (a7 (ag [] 12) (a7 (ag [] 7) cw))) bP (aQ (ao (aa 12) (ao (aj aN 10 (ah 7)) aD)))))) (ag [] 11)) (bh (aQ (ao (lD 1 (iu lM 12 fa) [5,4] jA [.val (aa 1),.val (aa 9),.val (aa 8)]) (ao (aA aw (eD (.str gF)) (aq (eD (.int 0)))) (ao (aa 11) aD)))))))))))
noncomputable def G_least_floor:DF:=bI [] 13 b_least_floor
theorem Kc:fY ["painted","rule","tile","paint","text_of","least_of","group","own","parts_of","things","sign_of","signs","name"] ["painted"] (bK kI):=scc
abbrev b_least_holds:DS:=ar (bG (dj (b_ (aC (du "tuple" (ah 1)))) (dj (aC (aA eT (az aX (ah 1)) (aq (eD (.int 3))))) (b_ (aC (aF lK [.val (aj aw 1 (aq (eD (.int 0))))]))))) (bh (eD (.bl false))) bL) (bh (aj pF 1 (aq (aF G_least_floor [.val (aa 0)]))))
noncomputable def G_least_holds:DF:=bI [] 2 b_least_holds
theorem Kd:fY ["painted","thing"] ["painted","thing"] (bK Ai):=scc
abbrev ZT:DS:=bh (iI (du "int" (ah 0)) (qX (du "bool" (ah 0))))
def tj:DF:=bI [] 1 ZT
abbrev qi(Gs:DF):DS:=ar (bG (aC (du "tuple" (ah 1))) (ar (bG (dj (b_ (aC (du "tuple" (ah 0)))) (aC (aA eT (az aX (ah 0)) (aq (az aX (ah 1)))))) (bh (eD (.bl false))) bL) (bh (az mr (aq (bJ [2] (cG (az aX (ah 1))) (ag [] 2) bP (aF Gs [.val (aj aw 0 (ah 2)),.val (aj aw 1 (ah 2))])))))) bL) (ar (bG (aC (du "str" (ah 1))) (bh (iI (du "str" (ah 0)) (aj df 0 (ah 1)))) bL) (bh (iI (aF tj [.val (aa 0)]) (aj df 0 (ah 1)))))
def iy:Nat->DF|0=>λ_=>none|n+1=>bI [] 3 (qi (iy n))
theorem Ke:∀n,pA (iy n)|0=>λ_ _ _ h=>nomatch h|n+1=>E9
theorem Am:fY ["found","due","k"] ["found","due"] (bK Aj):=scc
abbrev b__law_right:DS:=ar (ax (aF G_least_holds [.val (aa 0),.val (aa 2)]) (ag [] 3)) (bh (iI (du "bool" (ah 3)) (aj (jS false) 3 (aq (aF (iy 7) [.val (aa 2),.val (aa 1)])))))
noncomputable def G__law_right:DF:=bI [] 4 b__law_right
theorem Kf:fY ["painted","due","thing","found"] ["painted","due","thing"] (bK Al):=scc
abbrev b_law:DS:=ar (bE (aK (aA aU (bQ (ao (aF pU [.val (aa 0),.val (eD (.int 0))]) aD)) (aq (eQ 0 (dw (eD (.int 1))) (dw (eD (.int 4))))))) (ag [] 1) (ar (ax (aF ou [.val (aa 1)]) (ag [] 2)) (ar (ax (aF mR [.io 2,.val (eD (.int 5))]) (ag [] 3)) (ar (ax (aF mR [.io 2,.val (eD (.int 3))]) (ag [] 4)) (ar (ax (aF mS [.val (aa 3)]) (ag [] 5)) (ar (bE (aK (aA aU (bQ (ao (aa 5) (ao (aa 3) (ao (aF mS [.val (aa 4)]) (ao (aa 4) aD))))) (aq (bJ [7] (cG (eD (.int 6))) (ag [] 7) bP (aF mT [.val (aa 5),.io 2]))))) (ag [] 6) (bG (b_ (aC (aF G__law_right [.val (aa 3),.val (aa 5),.val (aa 6)]))) (bh (eD (.bl false))) bL)) (bG (aC (aA (jS true) (aF G_least_holds [.val (aa 5),.val (aa 5)]) (aq (eD (.bl true))))) (bh (eD (.bl false))) bL))))))) (bh (eD (.bl true)))
noncomputable def G_law:DF:=bI [] 8 b_law
theorem Kg:fY ["script","cell","pen","painted","other","due","thing","turn"] ["script"] (bK lH):=scc
section
variable{P:Wm}{w:Wv}{h:Heap}{x:Str}{st:Stmt}{N:List Str}{k:Nat}{fb:DS}{G:DF}
theorem cY(Y:K.In h)(Z:h.Ns Wz mg)(d:bq K x st)(hG:G=bI np N.length fb:=by rfl)(hn:(N.take n).length=n:=by rfl)(S:fY N (N.take n) (bK st):=by exact⟨rfl,rfl,rfl,Re,rfl,Re,Re⟩)(hb:∀{f fd},dU K x x st f fd->Binds K fd (N.take n) []:=by intro f fd F;first|exact FW F λ_ _ _ _ _ _ _=>rfl|exact vx F λ_ _ _ _ _ _ _ _=>rfl|exact y3 F λ_ _ _ _ _ _ _ _ _=>rfl|exact VP F λ_ _ _ _ _ _ _ _ _ _=>rfl|exact bd5 F λ_ _ _ _ _ _ _ _ _ _ _=>rfl|exact bd6 F λ_ _ _ _ _ _ _ _ _ _ _ _=>rfl)(dR:∀(f:Addr)(c:Fc)(aW:Value)(A:Wt)(outer:List Env)(s:W4)(H:Hp)(E:XK),cP k (A.deeper (Jt x (bK st) s.heap.objs.size f aW))->Np c np->N.Nodup->eR (fZ dS P w K mg base N x (bK st) f aW A outer s H E).fW c (d_ st) fb:=by intro f c aW A outer s H E hr dm hZ;have hq:=k_ hr;infer_instance):bj P w K mg base (k+1) x n G:=by obtain⟨f,fd,F,m⟩:=pH Y Z d;subst hG;have:=yG F m (hb F) S (λc aW A outer s H E hr dm=>dR f c aW A outer s H E hr dm S.nd) λss y h=>nT h;rwa[hn]at this
end
section
theorem cv{p:Prop}(x:p):p:=x
local macro_rules|`(tactic|exists$e:ident)=>`(tactic|with_reducible refine'@$e ..)
local macro_rules|`(tactic|exists$p,$e:ident,$a,$b,$_)=>`(tactic|(with_reducible show SE _ _ _ $p;refine'@$e ..);rotate_left;exact$a;exact$b)
local macro_rules|`(tactic|exists$p,$e:ident,$a,$b,$_,$_)=>`(tactic|(with_reducible show ST _ _ _ $p;refine'@$e ..);rotate_left;exact$a;exact$b)
local macro_rules|`(tactic|exists$s:str)=>do let ts<-(s.getString.splitOn " ").toArray.mapM λh=>`(tacticSeq|with_reducible refine'@$(Lean.mkIdent h.toName) ..);`(tactic|first$[|$ts]*)
local macro_rules|`(tactic|exists$s:str,$_)=>do let ts<-(s.getString.splitOn " ").toArray.mapM λh=>`(tacticSeq|exact$(Lean.mkIdent h.toName));`(tactic|first$[|$ts]*)
local macro_rules|`(tactic|exists$s:str,$_,$_)=>do let i(x:String):=Lean.mkIdent x.toName;let ts<-(s.getString.splitOn ";").toArray.mapM λl=>match l.splitOn " " with|[x,o,r,a,b]=>`(tacticSeq|exists $(i x) $(i o) _ _,$(i r):ident,$(i a),$(i b),_)|[_,x,o,r,a,b]=>`(tacticSeq|exists aC ($(i x) $(i o) _ _),$(i r):ident,$(i a),$(i b),_,_)|_=>`(tacticSeq|fail);`(tactic|first$[|$ts]*)
set_option hygiene false in 
local macro_rules|`(tactic|infer_instance)=>`(tactic|(repeat' first|((with_reducible show eR _ _ _ _);first|((with_reducible show eR _ _ _ (dDefR _ _));refine Zp (P:=fg) (j:=8) (ts:=[(fg,j0,iQ)]) ft Wx dm rfl rfl rfl rfl rfl (Xz ik ZU) dT gT tT hZ rfl rfl λc fa ft dm ZV=>?_)|exists "EE EF EG"|exact EE|refine EF ?_ ?_|refine EG ?_)|((with_reducible show SE _ _ _ _);first|((with_reducible show SE _ _ _ (lD _ _ _ _ _));refine Zi (kl:=0) (kw:=1) (fr:=["least_of","text_of"]) (ls:=["part"]) (js:=[5,4]) (p:="own") (by assumption) ZV dm (hr.mono Z') Z' rfl ?_ rfl (λ_ h=>by simp at h) (λ_=>rfl) (Xp (VR rfl rfl)) Xq rfl (λi x j e1 e2=>by rcases i with _|i;(cases e1;cases e2;exact⟨rfl,rfl,_,rfl⟩);rcases i with _|i;(cases e1;cases e2;exact⟨rfl,rfl,_,rfl⟩);cases e1) (λ_ _ _ _ _=>rfl) λc cd A outer s H hr hp=>ZX T (k_ hr) hp)|((with_reducible show SE _ _ _ (aF _ _));first|(exists T4;rotate_left 2;assumption)|(exists Xo;rotate_left 3;assumption))|exists aj pF _ _,nH,VH hq,VI,_|exists aj (jS false) _ _,nH,VJ,FK false,_|((with_reducible show SE _ _ _ (az pG _));refine VL ?_ (@Rj _ _ _ _))|((with_reducible show SE _ _ _ (eD (.str _)));exists "DU Zl")|((with_reducible show SE _ _ _ (eD (.int _)));exists "DM UD")|exists aA (dQ true) _ _,nG,@Fw _ hq,@Fz _ true,_|exists aA (pE false) _ _,nG,N9,Vm,_|exists aj ip _ _,uT,G0 hq,G1,_|exists aj jx _ _,uT,Y_ hq,Za,_|((with_reducible show SE _ _ _ (n_ _ _ _));refine Yq hq (pv _) ?_ ?_ ⟨rfl,rfl,rfl,rfl⟩)|((with_reducible show SE _ _ _ (nZ _ _));refine Vz (λc=>?_) λc=>?_)|exists aj aN _ _,uT,FJ hq,FA,_|((with_reducible show SE _ _ _ (je _ _ _ _ _));refine RL nK nK fK fK ?_ ?_ ?_)|((with_reducible show SE _ _ _ (bJ _ _ _ _ _));refine TJ rfl (@Ff _ _ _ rfl rfl) ?_ (λl s0 H0 ex=>?_) (λl s0 H0 ex=>?_) (λl s0 H0 ex=>?_) (E_ dm rfl))|exists "aj e8 yo Fg Eo;aA e8 oV Fg Eo;aA eT nG Hl fK;aj df nH vU fK;aA df nG vU fK;aj fw nH nK fK;aA fw nG nK fK;aA aw Ry xI yr;aj aw uT xI yr;aA aU oV Em En;aj aU yo Em En;aA qY oV NZ RP;aA f7 oV Cu Ep;aj f7 yo Cu Ep;aA oW oV N1 RQ;aA uX oV N2 RT;aj yt nH RU fK;aA gN nG uY uZ;aj gN nH uY uZ;aA hJ nG u6 fK;aj hJ nH u6 fK",_,_|exists "ZL Xl VM Sm Si V7 Yv Yp Sh VX RJ RK Vl Yj P7 DO DQ UB UC Ex Ey UN R1 Sa Sg UW Sb SJ Sj Sx SD RI RH")|((with_reducible show SS _ _ _ _);first|((with_reducible show SS _ _ _ (rX _ _ _ _ _));refine Y1 (np:=[]) (i:=2) (ia:=3) (ib:=4) dm PassesOwn.never rfl ?_ (xk rfl (t_ (t8 (i:=3) hZ rfl wb wb) (t_ (t8 (i:=4) hZ rfl wb wb) xj))) (Cb (xh (uq PySem.F.plainAttrs_list PySem.F.slot_list_append PySem.F.type_list_append xO (G6 (Y9 hq) (pv 2) (pv 4) (CF gJ) ⟨rfl,rfl,rfl,rfl⟩) (fq (pv 3) gJ)))))|((with_reducible show SS _ _ _ (ax (bJ _ _ _ _ _) (ag _ _)));refine TK dm rfl (@Ff _ _ _ rfl rfl) hZ rfl rfl ?_ (λl s0 H0 ex=>?_) (λl s0 H0 ex=>?_) (λl s0 H0 ex=>?_) (E_ dm rfl))|((with_reducible show SS _ _ _ (dY _ _ _));refine Tg 1000000 (λh1 h2=>NM PassesOwn.never h1 h2) ?_ ?_)|exists "X7 Vr Vo Xh SN SQ S7 S6 Te UG S_ SK UE")|((with_reducible show ST _ _ _ _);first|exists aC (aA (jS true) _ _),nJ,Vs,FK true,_,_|exists aC (aA (dQ true) _ _),nJ,@Fw _ hq,@Fz _ true,_,_|((with_reducible show ST _ _ _ (aC (je _ _ _ _ _)));refine RM nK nK fK fK ?_ ?_ ?_)|exists "T aA eT nJ Hl fK;T aj df yp vU fK;T aA df nJ vU fK;T aA gN nJ uY uZ;T aj gN yp uY uZ;T aA hJ nJ u6 fK;T aj hJ yp u6 fK;T aA fw nJ nK fK",_,_|exists "Rz RF RE")|exists "VO YE Zz UM Td P6 P5 Es T_ TN Uy Ux Sv Sw SV S5 S3 S4 Tq Tu Ts Tt RD RC RB RA To Tp"|(refine cv ?_;first|assumption|rfl|exactλ_ _=>rfl|exactλ_=>rfl|decide|decide+kernel|exact hr.mono Z'|exact hr.mono (U1 _ _)|exact(hr.h.mono Z').mark _|exact Or.inl rfl|exact Or.inr rfl|exists "E9 T.sj T.sM T.sA T.sU T.sQ T.sS T.ty_int T.sv T.su boot_int T.sG T.sy T.sh T.sJ T.sf T.sC T.ty_bool T.si boot_bool T.ty_str T.sI boot_str T.ty_tuple boot_tuple PassesOwn.never T.sk T.sE",_|exact pv _|exact nomark _|exact Ke _)))
section
variable{P:Wm}{w:Wv}{h:Heap}(T:Txt K mg)(Y:K.In h)(Z:h.Ns Wz mg)
include T Y Z
theorem ZY(d:bq K "_law_cell_at" HI):bj P w K mg base 1 "_law_cell_at" 2 pU:=cY (N:=["script","k"]) Y Z d
theorem ZZ(d:bq K "_law_pen_of" HJ):bj P w K mg base 1 "_law_pen_of" 1 ou:=cY (N:=["cell","left"]) Y Z d
theorem Z0(d:bq K "_law_next" HK):bj P w K mg base 1 "_law_next" 1 pV:=cY (N:=["seed"]) Y Z d
theorem Z1(d:bq K "_law_draw" HL)(Kh:bj P w K mg base 1 "_law_next" 1 pV):bj P w K mg base 2 "_law_draw" 2 bZ:=cY (N:=["pen","many","found"]) Y Z d
theorem Z2(d:bq K "_law_sizes_by" HM)(jB:bj P w K mg base 2 "_law_draw" 2 bZ):bj P w K mg base 3 "_law_sizes_by" 1 sV:=cY (N:=["pen","high","wide"]) Y Z d
theorem Z3(d:bq K "_law_pick" HN)(jB:bj P w K mg base 2 "_law_draw" 2 bZ):bj P w K mg base 3 "_law_pick" 4 ow:=cY (N:=["pen","tiles","place","way"]) Y Z d
theorem Z4(d:bq K "_law_rule_by" HP)(jB:bj P w K mg base 2 "_law_draw" 2 bZ)(Ki:bj P w K mg base 3 "_law_sizes_by" 1 sV)(Kj:bj P w K mg base 3 "_law_pick" 4 ow):bj P w K mg base 4 "_law_rule_by" 2 sX:=cY (N:=["pen","most","high","wide","size","first","letters","tiles","way","blocks","place","block","row","k","column"]) Y Z d
theorem Z5(d:bq K "_law_stilled" HQ):bj P w K mg base 1 "_law_stilled" 2 ox:=cY (N:=["rule","spot","high","wide","blocks","tile","block","first"]) Y Z d
theorem Z6(d:bq K "_law_doubled" HR)(jB:bj P w K mg base 2 "_law_draw" 2 bZ):bj P w K mg base 3 "_law_doubled" 2 pW:=cY (N:=["rule","pen","letters","tiles","left","twin","place","blocks","tile","block","other","rows","row","pair","sign"]) Y Z d
theorem Z7(d:bq K "_law_painted_by" HS)(jB:bj P w K mg base 2 "_law_draw" 2 bZ)(Kk:bj P w K mg base 4 "_law_rule_by" 2 sX)(Kl:bj P w K mg base 1 "_law_stilled" 2 ox)(Km:bj P w K mg base 3 "_law_doubled" 2 pW):bj P w K mg base 5 "_law_painted_by" 2 mR:=cY (N:=["pen","most","rule","tiles","signs","kinds","tile","spot","start","twin","pair"]) Y Z d
theorem Z8(d:bq K "_law_apart" HU):bj P w K mg base 1 "_law_apart" 2 sY:=cY (N:=["rule","paint","signs","blocks","tiles","apart","one","other","more","pair","tile","block"]) Y Z d
theorem Z9(d:bq K "_law_least_of" HV)(Kn:bj P w K mg base 1 "_law_apart" 2 sY):bj P w K mg base 2 "_law_least_of" 1 mS:=cY (N:=["painted","rule","start","paint","apart","tiles","head","tile","blocks","heads","names","found","rows","row","line","sign","signs","pair","other","one"]) Y Z d
theorem Z_(d:bq K "_law_bent" HW)(jB:bj P w K mg base 2 "_law_draw" 2 bZ):bj P w K mg base 3 "_law_bent" 2 mT:=cY (N:=["least","pen","rule","start","paint","high","wide","blocks","spot","tile","block","row","other","sign","changed","rules","paints","some"]) Y Z d
theorem z6c(d:bq K "whole_from" HX):bj P w K mg base 1 "whole_from" 2 sZ:=cY (N:=["thing","least"]) Y Z d
theorem z4H(d:bq K "whole_within" HY)(Ko:bj P w K mg base 1 "whole_from" 2 sZ):bj P w K mg base 2 "whole_within" 3 oy:=cY (N:=["thing","least","most"]) Y Z d
theorem z6d(d:bq K "sizes_good" HZ)(Kp:bj P w K mg base 2 "whole_within" 3 oy):bj P w K mg base 3 "sizes_good" 2 pX:=cY (N:=["high","wide"]) Y Z d
theorem z4I(d:bq K "letters_good" H_):bj P w K mg base 1 "letters_good" 2 lJ:=cY (N:=["thing","most","sign"]) Y Z d
theorem z6i(d:bq K "floor_good" Ia)(wd:bj P w K mg base 1 "letters_good" 2 lJ):bj P w K mg base 2 "floor_good" 1 pY:=cY (N:=["thing","row"]) Y Z d
theorem z7d(d:bq K "tile_good" Ib)(wd:bj P w K mg base 1 "letters_good" 2 lJ):bj P w K mg base 2 "tile_good" 1 pZ:=cY (N:=["thing"]) Y Z d
theorem z7f(d:bq K "pair_good" Ic)(Kq:bj P w K mg base 2 "floor_good" 1 pY)(Kr:bj P w K mg base 2 "tile_good" 1 pZ):bj P w K mg base 3 "pair_good" 3 oz:=cY (N:=["high","wide","thing","tile","block"]) Y Z d
theorem z39(d:bq K "first_unblocked" Ie):bj P w K mg base 1 "first_unblocked" 1 p_:=cY (N:=["pairs","block_of","place","pair","tile"]) Y Z d
theorem z7e(d:bq K "rule_good" Ig)(Ks:bj P w K mg base 3 "sizes_good" 2 pX)(Kt:bj P w K mg base 3 "pair_good" 3 oz)(Ku:bj P w K mg base 1 "first_unblocked" 1 p_):bj P w K mg base 4 "rule_good" 1 lK:=cY (N:=["thing","high","wide","blocks","ahead","pair"]) Y Z d
theorem z6e(d:bq K "rule_tiles" Ih):bj P w K mg base 1 "rule_tiles" 1 qc:=cY (N:=["rule","tile","block"]) Y Z d
theorem z3x(d:bq K "refuse_strange" Ii):bj P w K mg base 1 "refuse_strange" 2 qd:=cY (N:=["block_of","floor","tile"]) Y Z d
theorem z43(d:bq K "refuse_beyond" Ij):bj P w K mg base 1 "refuse_beyond" 3 qe:=cY (N:=["rows","columns","most"]) Y Z d
theorem z6h(d:bq K "grown_size" Ik):bj P w K mg base 1 "grown_size" 3 oA:=cY (N:=["size","factor","often","growing"]) Y Z d
theorem z6g(d:bq K "laid_floor" Il):bj P w K mg base 1 "laid_floor" 3 qf:=cY (N:=["block_of","high","floor","rows","row","line","tile"]) Y Z d
theorem z5n(d:bq K "grown_often" Im)(Kv:bj P w K mg base 1 "refuse_strange" 2 qd)(Kw:bj P w K mg base 1 "refuse_beyond" 3 qe)(Kx:bj P w K mg base 1 "grown_size" 3 oA)(Ky:bj P w K mg base 1 "laid_floor" 3 qf):bj P w K mg base 2 "grown_often" 3 qg:=cY (N:=["rule","floor","often","high","wide","blocks","block_of","grown","growing"]) Y Z d
theorem z5o(d:bq K "floor_texts" Io)(Kz:bj P w K mg base 1 "rule_tiles" 1 qc)(KA:bj P w K mg base 2 "grown_often" 3 qg):bj P w K mg base 3 "floor_texts" 2 s_:=cY (N:=["rule","often","tile"]) Y Z d
theorem z44(d:bq K "group_numbers" Ip):bj P w K mg base 1 "group_numbers" 2 qh:=cY (N:=["rule","paint","number_of","many","looks","finer","tile","block","look","part"]) Y Z d
theorem z5p(d:bq K "alike_tiles" Iq)(KC:bj P w K mg base 1 "group_numbers" 2 qh):bj P w K mg base 2 "alike_tiles" 2 tf:=cY (N:=["rule","paint","groups","tile","number","group"]) Y Z d
end
theorem ZX{P:Wm}{w:Wv}{A:Wt}{outer:List Env}{s:W4}{H:Hp}{c:Fc}(T:Txt K mg)(hq:(A.deeper (JC iQ (bK wc) s.heap.objs.size fa cd cl)).units+64<Q1)(hp:c.pin=[]):eR (pN P w K mg base ["own","least_of","text_of","part"] iQ (bK wc) fa cd cl A outer s H) c (d_ wc) jA:=by
 have dm:Np c []:=λp h=>by rw[hp]at h;cases h
 have hZ:=ZS;infer_instance
theorem z9B(F:dU K "reached" "reached" Ag f fd)(hm:mg "reached"=some (.ref f))(hb:Binds K fd ["first","step"] [])(T:Txt K mg):r9 P w K mg base 1 "reached" 2 7 lL:=⟨f,fd,_,_,_,["first","step","found","seen","number","here","part"],rfl,hm,F.kp,hb,rfl,Ht F Ka λc aW A outer s H E fa Fn hr dm z9=>by have hq:=k_ hr;have hZ:=Ka.nd;infer_instance⟩
theorem z6f(F:dU K "named_rule" "named_rule" Ah f fd)(hm:mg "named_rule"=some (.ref f))(hb:Binds K fd ["rule","things","parts_of"] [])(T:Txt K mg):r9 P w K mg base 1 "named_rule" 3 12 lM:=⟨f,fd,_,_,_,["rule","things","parts_of","high","wide","blocks","name_of","named","thing","text","part","row"],rfl,hm,F.kp,hb,rfl,Ht F Kb λc aW A outer s H E fa Fn hr dm z9=>by have hq:=k_ hr;have hZ:=Kb.nd;infer_instance⟩
theorem z5m{tm:Addr}(F:dU K "least_floor" "least_floor" kI f fd)(hm:mg "least_floor"=some (.ref f))(hb:Binds K fd ["painted"] [])(T:Txt K mg)(ZU:∃oc od kV doc pm an ct eZ,K.lookup f=some ⟨oc,od,.func (Qq "least_floor" "least_floor" (h_ kI) (d_ kI) (bK kI) .none kV doc pm an (.ref tm) ct),eZ⟩)(dT:JD K tm fg=true)(gT:Wz≠fg)(tT:base.BuiltinsAt mg fg)(KD:bj P w K mg base 3 "floor_texts" 2 s_)(KG:bj P w K mg base 2 "alike_tiles" 2 tf)(KH:r9 P w K mg base 1 "reached" 2 7 lL)(KI:r9 P w K mg base 1 "named_rule" 3 12 lM):lu P w K mg base [(fg,j0,iQ)] 4 "least_floor" 1 G_least_floor:=zq (np:=[]) (fb:=b_least_floor) F hm hb Kc λc aW A outer s H E hr dm ft ik=>by have hq:=k_ hr;have hZ:=Kc.nd;infer_instance λss y h=>nT h
theorem z5l(F:dU K "least_holds" "least_holds" Ai f fd)(hm:mg "least_holds"=some (.ref f))(hb:Binds K fd ["painted","thing"] [])(T:Txt K mg)(KJ:bj P w K mg base 4 "rule_good" 1 lK)(KL:lu P w K mg base [(fg,j0,iQ)] 4 "least_floor" 1 G_least_floor):lu P w K mg base [(fg,j0,iQ)] 5 "least_holds" 2 G_least_holds:=zq (np:=[]) (fb:=b_least_holds) F hm hb Kd λc aW A outer s H E hr dm ft ik=>by have hq:=k_ hr;have hZ:=Kd.nd;infer_instance λss y h=>nT h
section
variable{P:Wm}{w:Wv}{h:Heap}(T:Txt K mg)(Y:K.In h)(Z:h.Ns Wz mg)
include T Y Z
theorem z6j(d:bq K "_law_whole" Ir):bj P w K mg base 1 "_law_whole" 1 tj:=cY (N:=["found"]) Y Z d
end
theorem KN{K:W5}(F:dU K "_law_same" "_law_same" Aj f fd)(hm:mg "_law_same"=some (.ref f))(hb:Binds K fd ["found","due"] [])(T:Txt K mg)(Ao:bj P w K mg base 1 "_law_whole" 1 tj):∀n,bj P w K mg base (1+n) "_law_same" 2 (iy n)|0=>yG (np:=[]) (fb:=pj) F hm hb Am (λc aW A outer s H E hr dm=>SM) λss y h=>nomatch h|n+1=>yG (np:=[]) (fb:=qi (iy n)) F hm hb Am λc aW A outer s H E hr dm=>by have hq:=k_ hr;have ks:=KN F hm hb T Ao n;have kps:=Ke n;have hZ:=Am.nd;infer_instance λss y h=>nT h
theorem z6k(F:dU K "_law_right" "_law_right" Al f fd)(hm:mg "_law_right"=some (.ref f))(hb:Binds K fd ["painted","due","thing"] [])(T:Txt K mg)(we:lu P w K mg base [(fg,j0,iQ)] 5 "least_holds" 2 G_least_holds)(KO:bj P w K mg base 8 "_law_same" 2 (iy 7)):lu P w K mg base [(fg,j0,iQ)] 9 "_law_right" 3 G__law_right:=zq (np:=[]) (fb:=b__law_right) F hm hb Kf λc aW A outer s H E hr dm ft ik=>by have hq:=k_ hr;have hZ:=Kf.nd;infer_instance λss y h=>nT h
theorem zih(F:dU K "law" "law" lH f fd)(T:Txt K mg)(KP:bj P w K mg base 1 "_law_cell_at" 2 pU)(KQ:bj P w K mg base 1 "_law_pen_of" 1 ou)(KR:bj P w K mg base 5 "_law_painted_by" 2 mR)(KS:bj P w K mg base 2 "_law_least_of" 1 mS)(KU:bj P w K mg base 3 "_law_bent" 2 mT)(we:lu P w K mg base [(fg,j0,iQ)] 5 "least_holds" 2 G_least_holds)(KW:lu P w K mg base [(fg,j0,iQ)] 9 "_law_right" 3 G__law_right):i_ P w K mg base dS 10 f fd ["script"] (n9 [(fg,j0,iQ)] 1 G_law):=Gn (np:=[]) (fb:=b_law) F Kg λc aW A outer s H E hr dm ft ik=>by have hq:=k_ hr;have hZ:=Kg.nd;infer_instance λss y h=>nT h
end
theorem all_mk{l:PySem.W.OpenLaw}{w:Wv}{h:Heap}(X:K.In h)(G:h.Ns Wz mg)(hfa:mg "law"=some (.ref fa))(d0:bq K "_law_cell_at" HI)(d1:bq K "_law_pen_of" HJ)(d2:bq K "_law_next" HK)(d3:bq K "_law_draw" HL)(d4:bq K "_law_sizes_by" HM)(d5:bq K "_law_pick" HN)(d6:bq K "_law_rule_by" HP)(d7:bq K "_law_stilled" HQ)(d8:bq K "_law_doubled" HR)(d9:bq K "_law_painted_by" HS)(Ap:bq K "_law_apart" HU)(Aq:bq K "_law_least_of" HV)(Ar:bq K "_law_bent" HW)(As:bq K "whole_from" HX)(Au:bq K "whole_within" HY)(Aw:bq K "sizes_good" HZ)(Ax:bq K "letters_good" H_)(Ay:bq K "floor_good" Ia)(Az:bq K "tile_good" Ib)(AB:bq K "pair_good" Ic)(AD:bq K "first_unblocked" Ie)(AE:bq K "rule_good" Ig)(AF:bq K "rule_tiles" Ih)(AG:bq K "refuse_strange" Ii)(AH:bq K "refuse_beyond" Ij)(AI:bq K "grown_size" Ik)(AJ:bq K "laid_floor" Il)(AK:bq K "grown_often" Im)(AL:bq K "floor_texts" Io)(AM:bq K "group_numbers" Ip)(AN:bq K "alike_tiles" Iq)(AO:bq K "reached" Ag)(AQ:bq K "named_rule" Ah)(AR:nsIn K Wz "least_floor"=some (some (.ref f33)))(wj:K.lookup f33=some ⟨oc33,od33,.func (Qq "least_floor" "least_floor" (h_ kI) (d_ kI) (bK kI) .none kV33 dc33 pm33 an33 (.ref tm) ct33),sl33⟩)(AS:codeIn K (.ref tm) "least_floor"=true)(AU:keepIn K (.ref f33)=true)(dT:JD K tm fg=true)(gT:(Wz==fg)=false)(AV:bq K "least_holds" Ai)(AW:bq K "_law_whole" Ir)(AX:bq K "_law_same" Aj)(AY:bq K "_law_right" Al)(AZ:nsIn K Wz "law"=some (some (.ref f38)))(A0:K.lookup f38=some ⟨oc38,od38,.func (Qq "law" "law" (h_ lH) (d_ lH) (bK lH) .none kV38 dc38 pm38 an38 cd38 ct38),sl38⟩)(A5:codeIn K cd38 "law"=true)(A6:keepIn K (.ref f38)=true)(sf:nsIn K Wz "all"=some none)(sh:nsIn K Wz "any"=some none)(si:nsIn K Wz "bool"=some none)(sj:nsIn K Wz "dict"=some none)(sk:nsIn K Wz "enumerate"=some none)(su:nsIn K Wz "int"=some none)(sv:nsIn K Wz "isinstance"=some none)(sy:nsIn K Wz "len"=some none)(sA:nsIn K Wz "list"=some none)(sC:nsIn K Wz "max"=some none)(sE:nsIn K Wz "range"=some none)(sG:nsIn K Wz "sorted"=some none)(sI:nsIn K Wz "str"=some none)(sJ:nsIn K Wz "tuple"=some none)(sM:nsIn K Wz "zip"=some none)(sQ:nsIn K Wz "MOST_SIZE"=some (some (.int 4 t_MOST_SIZE)))(sS:nsIn K Wz "MOST_TILES"=some (some (.int 64 t_MOST_TILES)))(sU:nsIn K Wz "NAMES"=some (some (.str (toS gF) t_NAMES))):(∃c,JD K c fg=true)/\∃fd:Qi,(∀(s:W4)(v:Value),BindsTo s fd ⟨[v],[]⟩ [("script",v)])/\∀base:Heap,K.In base->base.Ns Wz mg->base.BuiltinsAt mg fg->i_ l.prog w K mg base dS 10 fa fd ["script"] (n9 [(fg,j0,iQ)] 1 G_law):=by have e:=hfa.symm.trans (mg_of X G AZ);cases e;have T:Txt K mg:=⟨Q0 X G sf,Q0 X G sh,Q0 X G si,Q0 X G sj,Q0 X G sk,Q0 X G su,Q0 X G sv,Q0 X G sy,Q0 X G sA,Q0 X G sC,Q0 X G sE,Q0 X G sG,Q0 X G sI,Q0 X G sJ,Q0 X G sM,T7,T6,T8,T9,⟨_,mg_of X G sQ⟩,⟨_,mg_of X G sS⟩,⟨_,mg_of X G sU⟩⟩;obtain⟨f31,fd31,F31,m31⟩:=pH X G AO;obtain⟨f32,fd32,F32,m32⟩:=pH X G AQ;have KY:=xU (st:=kI) wj AS AU;have m33:=mg_of X G AR;obtain⟨f34,fd34,F34,m34⟩:=pH X G AV;obtain⟨f36,fd36,F36,m36⟩:=pH X G AX;obtain⟨f37,fd37,F37,m37⟩:=pH X G AY;have F38:=xU (st:=lH) A0 A5 A6;refine⟨⟨_,dT⟩,Qq "law" "law" (h_ lH) (d_ lH) (bK lH) .none kV38 dc38 pm38 an38 cd38 ct38,λs v=>.of_eq rfl,λbase _ _ tT=>?_⟩;have KP:=ZY (P:=l.prog) (w:=w) (base:=base) T X G d0;have KQ:=ZZ (P:=l.prog) (w:=w) (base:=base) T X G d1;have Kh:=Z0 (P:=l.prog) (w:=w) (base:=base) T X G d2;have jB:=Z1 T X G d3 Kh;have Ki:=Z2 T X G d4 jB;have Kj:=Z3 T X G d5 jB;have Kk:=Z4 T X G d6 jB Ki Kj;have Kl:=Z5 (P:=l.prog) (w:=w) (base:=base) T X G d7;have Km:=Z6 T X G d8 jB;have KR:=Z7 T X G d9 jB Kk Kl Km;have Kn:=Z8 (P:=l.prog) (w:=w) (base:=base) T X G Ap;have KS:=Z9 T X G Aq Kn;have KU:=Z_ T X G Ar jB;have Ko:=z6c (P:=l.prog) (w:=w) (base:=base) T X G As;have Kp:=z4H T X G Au Ko;have Ks:=z6d T X G Aw Kp;have wd:=z4I (P:=l.prog) (w:=w) (base:=base) T X G Ax;have Kq:=z6i T X G Ay wd;have Kr:=z7d T X G Az wd;have Kt:=z7f T X G AB Kq Kr;have Ku:=z39 (P:=l.prog) (w:=w) (base:=base) T X G AD;have KJ:=z7e T X G AE Ks Kt Ku;have Kz:=z6e (P:=l.prog) (w:=w) (base:=base) T X G AF;have Kv:=z3x (P:=l.prog) (w:=w) (base:=base) T X G AG;have Kw:=z43 (P:=l.prog) (w:=w) (base:=base) T X G AH;have Kx:=z6h (P:=l.prog) (w:=w) (base:=base) T X G AI;have Ky:=z6g (P:=l.prog) (w:=w) (base:=base) T X G AJ;have KA:=z5n T X G AK Kv Kw Kx Ky;have KD:=z5o T X G AL Kz KA;have KC:=z44 (P:=l.prog) (w:=w) (base:=base) T X G AM;have KG:=z5p T X G AN KC;have KH:=z9B (P:=l.prog) (w:=w) (base:=base) F31 m31 (vx F31 λ_ _ _ _ _ _ _ _=>rfl) T;have KI:=z6f (P:=l.prog) (w:=w) (base:=base) F32 m32 (y3 F32 λ_ _ _ _ _ _ _ _ _=>rfl) T;have KL:=z5m KY m33 (FW KY λ_ _ _ _ _ _ _=>rfl) T ⟨_,_,_,_,_,_,_,_,wj⟩ dT (λz=>by rw[z]at gT;simp at gT) tT KD KG KH KI;have we:=z5l F34 m34 (vx F34 λ_ _ _ _ _ _ _ _=>rfl) T KJ KL;have Ao:=z6j (P:=l.prog) (w:=w) (base:=base) T X G AW;have KO:=KN F36 m36 (vx F36 λ_ _ _ _ _ _ _ _=>rfl) T Ao 7;have KW:=z6k F37 m37 (y3 F37 λ_ _ _ _ _ _ _ _ _=>rfl) T we KO;exact zih F38 T KP KQ KR KS KU we KW
section
variable{α:Type}[DecidableEq α]
def bo:List α->List α->List α|L,[]=>L|L,k::r=>bo (if k∈L then L else L++[k]) r
theorem qj:∀(l L:List α),∃s,bo L l=L++s
 |[],L=>⟨[],#v[bo]⟩|k::r,L=>by
  unfold bo;by_cases h:k∈L;.rw[if_pos h];exact qj r L
  .rw[if_neg h];obtain⟨s,e⟩:=qj r (L++[k]);exact⟨k::s,by rw[e];simp⟩
theorem oB:∀(l L:List α),x∈bo L l↔x∈L\/x∈l
 |[],L=>#v[bo]|k::r,L=>by
  unfold bo;rw[oB r];by_cases h:k∈L
  .rw[if_pos h];simp only[Wf];constructor
   .rintro(a|a);.exact .inl a
    .exact .inr (.inr a)
   .rintro(a|a|a);.exact .inl a
    .subst a;exact .inl h
    .exact .inr a
  .rw[if_neg h];simp only[WZ,Wf,WH,or_false];constructor
   .rintro((a|a)|a);.exact .inl a
    .exact .inr (.inl a)
    .exact .inr (.inr a)
   .rintro(a|a|a);.exact .inl (.inl a)
    .exact .inl (.inr a)
    .exact .inr a
theorem KZ:∀(l L:List α),L.Nodup->(bo L l).Nodup
 |[],L,h=>h|k::r,L,h=>by
  unfold bo;refine KZ r _ ?_;split;.exact h
  .rename_i q;exact JU.mpr ⟨h,U',λa ha b hb e=>q (by rw[<-show b=k by simpa using hb,<-e];exact ha)⟩
theorem A7:∀(l L:List α),(bo L l).length<=L.length+l.length|[],L=>#v[bo]|k::r,L=>by unfold bo;have:=A7 r (if k∈L then L else L++[k]);refine Qe this ?_;split<;>simp<;>lia
theorem tu:∀{l ts:List α},l.Nodup->(∀x∈l,x∈ts)->l.length<=ts.length
 |[],_,_,_=>QE _|a::r,ts,nd,h=>by
  obtain⟨n1,n2⟩:=WW.mp nd;have ha:=h a Wx;have:=tu (l:=r) (ts:=ts.erase a) n2 λx hx=>by have:x≠a:=λe=>n1 (by rw[<-e];exact hx);exact(List.mem_erase_of_ne this).mpr (h x (Wn _ hx))
  rw[List.length_erase_of_mem ha]at this;have:=List.length_pos_of_mem ha;simp;lia
theorem zev:∀{S l:List α},S.Nodup->(∀x∈S,x∈l)->l.length<=S.length->l.Nodup
 |[],l,_,_,h=>by have:l=[]:=List.length_eq_zero_iff.mp (~~~h);subst this;exact List.nodup_nil|a::S,l,nd,hs,hl=>by
  obtain⟨n1,n2⟩:=WW.mp nd;have ha:=hs a Wx;have hle:(l.erase a).length<=S.length:=by rw[List.length_erase_of_mem ha];simp at hl;lia
  have jR:∀x∈S,x∈l.erase a:=λx hx=>(List.mem_erase_of_ne λe=>n1 (by rw[<-e];exact hx)).mpr (hs x (Wn _ hx));have ih:=zev n2 jR hle;have hna:a∉l.erase a:=λh=>by
   have:=tu (l:=a::S) (ts:=l.erase a) nd λx hx=>by
    rcases Wf.mp hx with e|hx;.rw[e];exact h
    .exact jR x hx
   simp at this;lia
  exact((List.perm_cons_erase ha).nodup_iff).mpr (WW.mpr ⟨hna,ih⟩)
end
section
variable{β:Type}[BEq β][LawfulBEq β]
theorem zgn{L s:List β}{k:β}(h:k∈L):(L++s).idxOf k=L.idxOf k:=by rw[List.idxOf_append,if_pos h]
theorem zgo{L:List β}{a b:β}(ha:a∈L)(hb:b∈L)(e:L.idxOf a=L.idxOf b):a=b:=by have h1:=QT (WU ha);have h2:=QT (WU hb);rw[<-h1,<-h2];congr 1
end
section
def lk(tx:Nat->List Nat)(v:Nat->Nat)(t:Nat):Nat×List Nat:=(v t,(tx t).map v)
structure Res(ts:List Nat)(tx:Nat->List Nat)(sg c:Nat->Nat):Prop where
 same:∀t∈ts,∀u∈ts,c t=c u->sg t=sg u
 wk:∀t∈ts,∀u∈ts,c t=c u->(tx t).map c=(tx u).map c
 max:∀N:Nat->Nat->Prop,(∀t∈ts,∀u∈ts,N t u->sg t=sg u/\(tx t).length=(tx u).length/\∀(k:Nat)p q,(tx t)[k]?=some p->(tx u)[k]?=some q->N p q)->∀t∈ts,∀u∈ts,N t u->c t=c u
theorem K0{v:Nat->Nat}{a b:List Nat}(hl:a.length=b.length)(h:∀(k:Nat)p q,a[k]?=some p->b[k]?=some q->v p=v q):a.map v=b.map v:=by
 refine List.ext_getElem? λk=>?_;rw[Wo,Wo];by_cases hk:k<a.length;.rw[W8 hk,W8 Y'];simp only[WX,Wd];exact h k _ _ (W8 hk) (W8 Y')
 .rw[QA Y',QA Y']
def Vw(ts:List Nat)(tx:Nat->List Nat)(sg v:Nat->Nat):Prop:=(∀t∈ts,∀u∈ts,v t=v u->sg t=sg u)/\∀N:Nat->Nat->Prop,(∀t∈ts,∀u∈ts,N t u->sg t=sg u/\(tx t).length=(tx u).length/\∀(k:Nat)p q,(tx t)[k]?=some p->(tx u)[k]?=some q->N p q)->∀t∈ts,∀u∈ts,N t u->v t=v u
def Lk(ts:List Nat)(tx:Nat->List Nat)(v:Nat->Nat)(L:List (Nat×List Nat)):Prop:=L.Nodup/\∀k,k∈L↔∃t∈ts,lk tx v t=k
variable{v:Nat->Nat}{L:List (Nat×List Nat)}
theorem Lk.snoc(h:Lk ts tx v L)(t:Nat):Lk (ts++[t]) tx v (if lk tx v t∈L then L else L++[lk tx v t]):=by
 have z:∀k,(∃u∈ts++[t],lk tx v u=k)↔(∃u∈ts,lk tx v u=k)\/lk tx v t=k:=λk=>by simp only[WZ,List.mem_singleton,or_and_right,exists_or,exists_eq_left]
 split;.rename_i hm;exact⟨h.1,λk=>by rw[z,h.2];exact⟨.inl,λy=>y.elim id λe=>e▸(h.2 _).mp hm⟩⟩
 .rename_i hm;exact⟨JU.mpr ⟨h.1,U',λa ha c hc e=>hm (by simp at hc;rw[<-hc,<-e];exact ha)⟩,λk=>%[z,WZ,h.2,List.mem_singleton|or_congr Iff.rfl eq_comm]⟩
variable(fQ:∀t∈ts,∀p∈tx t,p∈ts)(hv:Vw ts tx sg v)(hL:Lk ts tx v L)
include hL
theorem Lk.eq{t u:Nat}(ht:t∈ts)(hu:u∈ts)(e:L.idxOf (lk tx v t)=L.idxOf (lk tx v u)):lk tx v t=lk tx v u:=zgo ((hL.2 _).mpr ⟨t,ht,rfl⟩) ((hL.2 _).mpr ⟨u,hu,rfl⟩) e
theorem Lk.wm:∀j<L.length,∃t∈ts,L.idxOf (lk tx v t)=j:=λj hj=>by obtain⟨t,ht,e⟩:=(hL.2 _).mp (WQ hj);exact⟨t,ht,%[e|hL.1.idxOf_getElem j hj]⟩
theorem Lk.sub(hm:∀j<m,∃t∈ts,v t=j):∀j∈WB m,j∈L.map (·.1):=λj hj=>by obtain⟨t,ht,rfl⟩:=hm j (List.mem_range.mp hj);exact Wu.mpr ⟨_,(hL.2 _).mpr ⟨t,ht,rfl⟩,rfl⟩
include fQ hv
theorem Vw.next:Vw ts tx sg λt=>L.idxOf (lk tx v t):=by refine⟨λt ht u hu e=>hv.1 t ht u hu (congrArg Prod.fst (hL.eq ht hu e)),λN hN t ht u hu h=>?_⟩;show L.idxOf (v t,(tx t).map v)=L.idxOf (v u,(tx u).map v);rw[hv.2 N hN t ht u hu h,K0 (hN t ht u hu h).2.1 λj p q h1 h2=>hv.2 N hN p (fQ t ht p (Wj h1)) q (fQ u hu q (Wj h2)) ((hN t ht u hu h).2.2 j p q h1 h2)]
theorem zhG{m:Nat}(hm:∀j<m,∃t∈ts,v t=j)(e:L.length=m):Res ts tx sg λt=>L.idxOf (lk tx v t):=by
 have nd:(L.map (·.1)).Nodup:=zev List.nodup_range (hL.sub hm) #v[e];have st:∀t∈ts,∀u∈ts,v t=v u->lk tx v t=lk tx v u:=λt ht u hu h=>by obtain⟨i,hi⟩:=Qb.mp ((hL.2 _).mpr ⟨t,ht,rfl⟩);obtain⟨j,hj⟩:=Qb.mp ((hL.2 _).mpr ⟨u,hu,rfl⟩);have:i=j:=(Up (by simpa using(W9.mp hi).1) nd).mp (by rw[Wo,Wo,hi,hj];exact congrArg some h);subst this;exact WN (hi.symm.trans hj)
 have nx:=Vw.next fQ hv hL;refine⟨nx.1,λt ht u hu h=>?_,nx.2⟩;have e2:(tx t).map v=(tx u).map v:=congrArg Prod.snd (hL.eq ht hu h);refine K0 (by simpa using congrArg WV e2) λj p q h1 h2=>congrArg L.idxOf (st p (fQ t ht p (Wj h1)) q (fQ u hu q (Wj h2)) ?_);have:=congrArg (.[j]?) e2;simpa[h1,h2]using this
end
abbrev RR:=Nat×Nat->Bool
section
variable(tx:Nat->List Nat)
def jC(R:RR)(p:Nat×Nat):Bool:=((tx p.1).zip (tx p.2)).any R
def jD(R:RR)(p:Nat×Nat):RR:=λq=>if q=p then true else R q
variable{tx}
theorem zcy(h:R q=true):jD R p q=true:=by
 unfold jD;split;.rfl
 .exact h
def nf(P:List (Nat×Nat))(R:RR):Nat:=(P.filter λp=>!R p).length
theorem zit(hp:p∈P)(h:R p=false):nf P (jD R p)<nf P R:=by
 have e:(P.filter λq=>!jD R p q)=(P.filter λq=>!R q).filter λq=>!decide (q=p):=by rw[List.filter_filter];congr 1;funext q;unfold jD;by_cases h:q=p<;>simp[h]
 unfold nf;rw[e];exact List.length_filter_lt_length_iff_exists.mpr ⟨p,List.mem_filter.mpr ⟨hp,#v[h]⟩,U'⟩
def oC(ts:List Nat)(tx:Nat->List Nat)(sg:Nat->Nat)(R:RR):Prop:=∀N:Nat->Nat->Prop,(∀t∈ts,∀u∈ts,N t u->sg t=sg u/\(tx t).length=(tx u).length/\∀(k:Nat)p q,(tx t)[k]?=some p->(tx u)[k]?=some q->N p q)->∀t∈ts,∀u∈ts,N t u->R (t,u)=false
theorem K1{a b:List Nat}(h:p∈a.zip b):∃k:Nat,a[k]?=some p.1/\b[k]?=some p.2:=by obtain⟨k,hk⟩:=Qb.mp h;rw[List.getElem?_zip_eq_some]at hk;exact⟨k,hk.1,hk.2⟩
theorem zat(fQ:∀t∈ts,∀p∈tx t,p∈ts){R:RR}(h:oC ts tx sg R)(hz:jC tx R p=true):oC ts tx sg (jD R p):=λN hN t ht u hu hn=>by
 unfold jD;split;.rename_i e;subst e;obtain⟨q,hq,hr⟩:=List.any_eq_true.mp hz;obtain⟨k,k1,k2⟩:=K1 hq;exact hr.symm.trans (h N hN q.1 (fQ t ht _ (Wj k1)) q.2 (fQ u hu _ (Wj k2)) ((hN t ht u hu hn).2.2 k _ _ k1 k2))
 .exact h N hN t ht u hu hn
def PI(ts:List Nat)(tx:Nat->List Nat)(sg:Nat->Nat)(P:List (Nat×Nat))(R:RR)(Q:List (Nat×Nat))(R':RR)(m:Bool):Prop:=oC ts tx sg R'/\(∀q,R q=true->R' q=true)/\(m=true->nf P R'<nf P R)/\(m=false->R'=R/\∀p∈P,p∈Q\/(R p=false->jC tx R p=false))
theorem PI.same(h:PI ts tx sg P R (p::Q) R' m)(hz:R' p=true\/jC tx R' p=false):PI ts tx sg P R Q R' m:=by
 refine⟨h.1,h.2.1,h.2.2.1,λe=>?_⟩;obtain⟨rfl,h4⟩:=h.2.2.2 e;refine⟨rfl,λq hq=>?_⟩;rcases h4 q hq with h5|h5
 .rcases Wf.mp h5 with rfl|h5;.exact .inr λz=>hz.resolve_left #v[z]
  .exact .inl h5
 .exact .inr h5
theorem PI.more(fQ:∀t∈ts,∀p∈tx t,p∈ts)(h:PI ts tx sg P R (p::Q) R' m)(hp:p∈P)(h1:R' p=false)(h2:jC tx R' p=true):PI ts tx sg P R Q (jD R' p) true:=by refine⟨zat fQ h.1 h2,λq hq=>zcy (h.2.1 q hq),λ_=>?_,nofun⟩;have:=zit hp h1;cases m with|true=>exact Nat.lt_trans this (h.2.2.1 rfl)|false=>exact(h.2.2.2 rfl).1▸this
theorem zdO(fQ:∀t∈ts,∀p∈tx t,p∈ts)(hlen:∀t∈ts,∀u∈ts,(tx t).length=(tx u).length)(rs:Res ts tx sg c)(base:∀t∈ts,∀u∈ts,sg t≠sg u->R (t,u)=true)(closed:∀t∈ts,∀u∈ts,R (t,u)=false->jC tx R (t,u)=false)(snd:oC ts tx sg R):∀t∈ts,∀u∈ts,R (t,u)=!decide (c t=c u):=λt ht u hu=>by
 by_cases h:c t=c u;.rw[decide_eq_true h];refine snd (λa b=>a∈ts/\b∈ts/\c a=c b) (λa ha b hb⟨_,_,e⟩=>⟨rs.same a ha b hb e,hlen a ha b hb,λk p q h1 h2=>⟨fQ a ha p (Wj h1),fQ b hb q (Wj h2),?_⟩⟩) t ht u hu ⟨ht,hu,h⟩;have:=congrArg (.[k]?) (rs.wk a ha b hb e);simpa[Wo,h1,h2]using this
 .rw[decide_eq_false h];cases e:R (t,u)with|true=>rfl|false=>
 exfalso;refine h (rs.max (λa b=>a∈ts/\b∈ts/\R (a,b)=false) (λa ha b hb⟨_,_,e⟩=>⟨?_,hlen a ha b hb,λk p q h1 h2=>⟨fQ a ha p (Wj h1),fQ b hb q (Wj h2),?_⟩⟩) t ht u hu ⟨ht,hu,e⟩);.apply Classical.byContradiction;intro z;rw[base a ha b hb z]at e;cases e
 .have hz:=closed a ha b hb e;unfold jC at hz;rw[JQ]at hz;have:=hz (p,q) (List.mem_iff_getElem?.mpr ⟨k,by rw[List.getElem?_zip_eq_some];exact⟨h1,h2⟩⟩);simpa using this
end
theorem K2[DecidableEq α](k:α):∀(l L:List α),bo L (l++[k])=if k∈bo L l then bo L l else bo L l++[k]|[],L=>rfl|a::l,L=>by show bo _ (l++[k])=_;rw[K2 k l];rfl
theorem wo[DecidableEq α][DecidableEq β](F:α->β):∀(l L:List α),(∀a,a∈L\/a∈l->∀b,b∈L\/b∈l->F a=F b->a=b)->bo (L.map F) (l.map F)=(bo L l).map F
 |[],_,_=>rfl|k::r,L,h=>by
  have e:F k∈L.map F↔k∈L:=⟨λz=>by obtain⟨a,ha,e⟩:=Wu.mp z;have:=h a (.inl ha) k (.inr Wx) e;rw[<-this];exact ha,λz=>WL z⟩;rw[Wi];unfold bo;by_cases hk:k∈L;.rw[if_pos hk,if_pos (e.mpr hk)];refine wo F r L λa ha b hb=>h a (ha.imp id (Wn _)) b (hb.imp id (Wn _))
  .rw[if_neg hk,if_neg λz=>hk (e.mp z)];have:=wo F r (L++[k]) λa ha b hb=>h a (by
    rcases ha with ha|ha
    .rcases WZ.mp ha with ha|ha;.exact .inl ha
     .exact .inr %[show a=k by simpa using ha|Wx]
    .exact .inr (Wn _ ha)) b (by
    rcases hb with hb|hb
    .rcases WZ.mp hb with hb|hb;.exact .inl hb
     .exact .inr %[show b=k by simpa using hb|Wx]
    .exact .inr (Wn _ hb));rw[<-this];simp
def fit(c:Nat->Nat)(l:List Nat)(z:Nat):List Nat:=l.filter λu=>decide (c u=z)
def kJ(c:Nat->Nat)(l:List Nat):List (Int×List Tx):=(bo [] (l.map c)).map λz:Nat=>(((z:Nat):Int),(fit c l z).map λt=>[t])
theorem zdw(c:Nat->Nat)(l:List Nat)(t:Nat):kF (kJ c l) [t] (c t:Nat)=kJ c (l++[t]):=by
 have oh:((kJ c l).any λe=>decide (e.1=((c t:Nat):Int)))=decide (c t∈bo [] (l.map c)):=by
  rw[Qp];simp only[List.any_eq_true,decide_eq_true_eq,kJ,List.mem_map];constructor
  .rintro⟨e,⟨z,hz,rfl⟩,h⟩;have h':((z:Nat):Int)=((c t:Nat):Int):=h;have:z=c t:=by lia
   rw[<-this];exact hz
  .intro h;exact⟨_,⟨c t,h,rfl⟩,rfl⟩
 have hf:∀z,fit c (l++[t]) z=fit c l z++if c t=z then[t]else[]:=λz=>by unfold fit;rw[List.filter_append];congr 1;by_cases h:c t=z<;>simp[h]
 unfold kF;rw[oh];unfold kJ;rw[WT,Wi,Jk,K2];by_cases h:c t∈bo [] (l.map c)
 .rw[decide_eq_true h,if_pos rfl,if_pos h,Wq];refine WK λz _=>?_;simp only[Function.comp,hf];by_cases e:z=c t;.subst e;simp
  .have e2:¬((z:Nat):Int)=((c t:Nat):Int):=λq=>e Y';rw[if_neg e2,if_neg (Ne.symm e)];simp
 .rw[decide_eq_false h,if_neg U',if_neg h,WT];congr 1;.refine WK λz hz=>?_;have e:c t≠z:=λe=>h %[e|hz];rw[hf,if_neg e,Qc]
  .have hn:fit c l (c t)=[]:=by unfold fit;rw[List.filter_eq_nil_iff];intro u hu z;have:c u=c t:= ~~~z;exact h ((oB _ _).mpr (.inr (by rw[<-this];exact WL hu)))
   rw[Wi,Jk,hf,hn,if_pos rfl];rfl
theorem K3(c:Nat->Nat):∀(r l:List Nat),(r.map λt=>(([t]:Tx),((c t:Nat):Int))).foldl (λgs p=>kF gs p.1 p.2) (kJ c l)=kJ c (l++r)|[],l=>by simp|t::r,l=>by rw[Wi,U7,zdw,K3 c r];simp
theorem z9K(c:Nat->Nat)(ts:List Nat):(fM (ts.map λt=>(([t]:Tx),((c t:Nat):Int)))).map (·.2)=(bo [] (ts.map λt=>fit c ts (c t))).map λg=>g.map λt=>[t]:=by
 have e:fM (ts.map λt=>(([t]:Tx),((c t:Nat):Int)))=kJ c ts:=by have:=K3 c ts [];simpa[fM,kJ,bo]using this
 rw[e];have em:(ts.map λt=>fit c ts (c t))=(ts.map c).map (fit c ts):=by rw[Wq];rfl
 have:=wo (fit c ts) (ts.map c) [] λa ha b hb h=>by have ha:a∈ts.map c:= ~~~ha;obtain⟨t,ht,rfl⟩:=Wu.mp ha;have m:t∈fit c ts (c t):=List.mem_filter.mpr ⟨ht,U'⟩;rw[h]at m;have:=(U4.mp m).2;simpa using this
 rw[em,show([]:List (List Nat))=([]:List Nat).map (fit c ts)from rfl,this];unfold kJ;rw[Wq,Wq];rfl
section
variable(pt:Nat->List Nat)(x0:Nat)
def bf:Nat->List Nat|0=>[x0]|k+1=>bo (bf k) (pt ((bf k).getD k 0))
variable{pt:Nat->List Nat}{x0:Nat}
theorem mU(k j:Nat):∃s,bf pt x0 (k+j)=bf pt x0 k++s:=by induction j with|zero=>exact⟨[],U'⟩|succ j ih=>obtain⟨s,e⟩:=ih;obtain⟨s',e'⟩:=qj (pt ((bf pt x0 (k+j)).getD (k+j) 0)) (bf pt x0 (k+j));exact⟨s++s',(show bf pt x0 (k+(j+1))=_ from e').trans (by rw[e,JW])⟩
theorem tE:∀k,(bf pt x0 k).Nodup|0=>#v[bf]|k+1=>KZ _ _ (tE k)
theorem oD(h0:x0∈ts)(hp:∀t∈ts,∀p∈pt t,p∈ts):∀k,(∀j<k,j<(bf pt x0 j).length)->∀x∈bf pt x0 k,x∈ts
 |0,_,x,hx=>by
  have:x=x0:=by simpa[bf]using hx
  exact this▸h0|k+1,hk,x,hx=>by
  rcases(oB _ _).mp hx with h|h;.exact oD h0 hp k (λj hj=>hk j Y') x h
  .refine hp _ (oD h0 hp k (λj hj=>hk j Y') _ ?_) x h;have:=hk k Y';rw[Qk,W8 this];exact WQ _
theorem zj7(h0:x0∈ts)(hp:∀t∈ts,∀p∈pt t,p∈ts):∃n,(bf pt x0 n).length=n/\n<=ts.length/\∀j<n,j<(bf pt x0 j).length:=by
 have go:∀m k,m+k=ts.length+1->(∀j<k,j<(bf pt x0 j).length)->∃n,(bf pt x0 n).length=n/\n<=ts.length/\∀j<n,j<(bf pt x0 j).length:=by intro m;induction m with|zero=>intro k e hk;have h1:=hk ts.length Y';have h2:=tu (tE (pt:=pt) (x0:=x0) ts.length) (oD h0 hp _ λj hj=>hk j Y');lia|succ m ih=>
   intro k e hk;by_cases h:k<(bf pt x0 k).length
   .exact ih (k+1) Y' λj hj=>by
     rcases Nat.lt_or_ge j k with z|z;.exact hk j z
     .rw[show j=k by lia];exact h
   .refine⟨k,?_,Y',hk⟩;cases k with|zero=>simp[bf]at h|succ k=>obtain⟨s,es⟩:=mU (pt:=pt) (x0:=x0) k 1;have:=hk k Y';rw[es]at h⊢;simp at h⊢;lia
 exact go (ts.length+1) 0 Y' λj hj=>by lia
end
noncomputable abbrev pS(d:D):Option S:=some (.pure d)
noncomputable abbrev pO(d:D):Option S:=some (.own d)
abbrev sD(t:Nat):D:=.str [t]
theorem fj(h:a U=.ok .next ZW):ar a b U=b ZW:=by unfold ar;rw[h];rfl
theorem wq(h:a U=.ok (.ret v) ZW):ar a b U=.ok (.ret v) ZW:=by unfold ar;rw[h];rfl
theorem c7(h:it U=.ok ds ZW):bE it g b U=forL g b ds ZW:=by unfold bE;rw[h];rfl
theorem K4(p p':D->D->Option S)(fa fb:DE)(fc:BE)(U:Dl):je p p' fa fb fc U=(fa U).bind λx ZW=>(fb ZW).bind λy XV=>(p2 p x.d y.d XV).bind λz XL=>match z with|.pure (.bl true)=>(fc XL).bind λw UV=>p2 p' y.d w UV|.pure (.bl false)=>.ok (.pure (.bl false)) XL|_=>.stuck:=id rfl
theorem A8{cs el}(f F:A->D)(p:A->Bool)(U:Dl):∀(as:List A)(acc:List D),acc.length+as.length<=Wb->(∀a∈as,∃ZW XV x XL,g (.pure (f a)) U=some ZW/\t ZW=.ok (p a) XV/\bx cs XV=U/\el XV=.ok x XL/\bx cs XL=U/\x.d=F a)->eS cs g t el (as.map f) U acc=.ok (acc++(as.filter p).map F) U
 |[],acc,_,_=>#v[eS]|a::r,acc,hl,hs=>by
  obtain⟨ZW,XV,x,XL,e1,e2,e2',e3,e4,e5⟩:=hs a Wx;have iW:acc.length<Wb:=by simp at hl;lia
  rw[Wi];unfold eS;rw[e1];cases hp:p a with|true=>have ih:=A8 (cs:=cs) (g:=g) (t:=t) (el:=el) f F p U r (acc++[x.d]) P' λa ha=>hs a (Wn _ ha);rw[e5]at ih;rw[hp]at e2;simp only[e2,jn,if_true,e3,if_pos iW,e4,e5,ih,List.filter_cons,hp];simp|false=>have ih:=A8 (cs:=cs) (g:=g) (t:=t) (el:=el) f F p U r acc P' λa ha=>hs a (Wn _ ha);rw[hp]at e2;simp only[e2,jn,e2',ih,List.filter_cons,hp];simp
theorem lN(h1:g (.pure d) U=some ZW)(h2:b ZW=.ok .next XV):forL g b (d::r) U=forL g b r XV:=by
 conv=>lhs;unfold forL
 rw[h1];simp only[h2,jn]
theorem forA(f:A->D)(I:List A->Dl->Prop)(hs:∀a as U,I (a::as) U->∃ZW,g (.pure (f a)) U=some ZW/\∀y,b ZW=y->∃XV,y=.ok .next XV/\I as XV):∀as U,I as U->∃ZB,forL g b (as.map f) U=.ok .next ZB/\I [] ZB|[],U,h=>⟨U,rfl,h⟩|a::as,U,h=>by obtain⟨ZW,e1,h1⟩:=hs a as U h;obtain⟨XV,e2,h2⟩:=h1 _ rfl;obtain⟨ZB,e,h'⟩:=forA f I hs as XV h2;exact⟨ZB,(lN e1 e2).trans e,h'⟩
theorem cI(e:it U=.ok ds ZW)(hl:ds.length<=1000)(I:Dl->Prop)(R:D->Prop)(h0:I (bx cs ZW))(hs:∀d∈ds,∀U,I U->∃ZW XV x XL,g (.pure d) U=some ZW/\t ZW=.ok true XV/\el XV=.ok x XL/\I (bx cs XL)/\R x.d)(no:cs.any (dP ZW)=false:=by rfl):∃xs ZB,bJ cs it g t el U=.ok (.own (.lst xs)) (eM cs ZW ZB)/\I ZB/\xs.length=ds.length/\∀x∈xs,R x:=by obtain⟨xs,ZB,c,h1,h2,h3⟩:=F9 (cs:=cs) (g:=g) (t:=t) (el:=el) I (λ_ x=>R x) ds (bx cs ZW) [] h0 (by have:PySem.sizeLine=16777216:=rfl;simp;lia) hs;refine⟨xs,ZB,?_,h1,h2,Xb h2 h3 λ_ _ _ h=>h⟩;unfold bJ;rw[e];show(if _ then _ else _)=_;rw[if_neg (by rw[no];decide),c];rfl
theorem cS{A:Type}(f F:A->D){as:List A}{j:Nat}{np:List Nat}{TD:Dl}(e:it TD=.ok (as.map f) U)(hl:as.length<=1000)(hs:∀a∈as,el (U.set j (pS (f a)))=.ok (.pure (F a)) (U.set j (pS (f a))))(hj:U[j]?=some none:=by rfl)(hn:np.contains j=false:=by rfl):bJ [j] it (ag np j) bP el TD=.ok (.own (.lst (as.map F))) U:=by
 obtain⟨h,lr⟩:=W9.mp hj;have c:bx [j] U=U:=by show U.set j none=U;rw[<-lr];exact List.set_getElem_self h
 have:=cM (cs:=[j]) (g:=ag np j) (t:=bP) (el:=el) f F e hl (λa ha=>⟨_,_,_,_,by rw[c];unfold ag;rw[if_neg (by rw[hn];nofun)],rfl,hs a ha,by rw[c];show(U.set j (pS (f a))).set j none=U;rw[Uv];exact c,rfl⟩) #v[dP,hj];rw[this,c];show Rs.ok _ (match U[j]? with|some o=>U.set j o|none=>U)=_;rw[hj];exact congrArg _ c
theorem lO{p}(e:f U=.ok v ZW)(h:p v.d=some r):az p (aq f) U=.ok r ZW:=#v[az,e,h]
theorem tF(e:f U=.ok v ZW)(h:jg U i=true)(h1:ZW[i]?=some (pO (.lst xs)))(hz:xs.length<=1000):cL i f U=.ok .next (ZW.set i (pO (.lst (xs++[v.d])))):=by
 have:xs.length<Wb:=by rw[de];lia
 simp[cL,h,e,putL,h1,this]
theorem K5{A:Type}(f F:A->D)(q:A->Bool){as:List A}{g:DG}{t:DT}(e:it U=.ok (as.map f) ZW)(hl:as.length<=1000)(hs:∀a∈as,∃U1' XV x XL,g (.pure (f a)) (bx cs ZW)=some U1'/\t U1'=.ok (q a) XV/\bx cs XV=bx cs ZW/\el XV=.ok x XL/\bx cs XL=bx cs ZW/\x.d=F a)(no:cs.any (dP ZW)=false:=by rfl):bJ cs it g t el U=.ok (.own (.lst ((as.filter q).map F))) (eM cs ZW (bx cs ZW)):=by have c:=A8 (cs:=cs) (g:=g) (t:=t) (el:=el) f F q (bx cs ZW) as [] (by have:PySem.sizeLine=16777216:=rfl;simp;lia) hs;unfold bJ;rw[e];show(if _ then _ else _)=_;rw[if_neg (by rw[no];decide),c];rfl
theorem oE(e:f U=.ok v ZW)(h:g v ZW=some XV):ax f g U=.ok .next XV:=#v[ax,e,h]
def Hid(p:Prop):Prop:=p
theorem wt(i j:Int):∃b,fw (.int i) (.int j)=pS (.bl b)/\Hid (b=true↔i<=j):=⟨_,rfl,decide_eq_true_iff⟩
theorem iV(i j:Int):∃b,eT (.int i) (.int j)=pS (.bl b)/\Hid (b=false↔i=j):=⟨!decide (i=j),rfl,by show _↔_;simp⟩
theorem mV(i j:Int):∃b,df (.int i) (.int j)=pS (.bl b)/\Hid (b=true↔i=j):=⟨_,rfl,decide_eq_true_iff⟩
def nx(s:Int):Int:=(((s+7919)%2147483647)*((s+7919)%2147483647)+48271*((s+7919)%2147483647)+12345)%2147483629
theorem zhJ(s:Int):pV [.pure (.int s)]=some (.pure (.int (nx s)),[.pure (.int s)]):=by
 unfold pV bI Iw fB;have h1:=Int.emod_nonneg (s+7919) (b:=2147483647) Z';have h2:=Int.emod_lt_of_pos (s+7919) (b:=2147483647) Z';have c1:jK ((s+7919)%2147483647) ((s+7919)%2147483647)=true:=by unfold jK;simp;lia
 have c2:jK 48271 ((s+7919)%2147483647)=true:=by unfold jK;simp
 simp[eC,bY,ax,aj,bB,ah,aU,f7,fJ,e8,c1,c2,e_,da];rfl
def bS(d:D):Prop:=∃l f s:Int,d=.lst [.int l,.int f,.int s]/\0<=l
theorem wu(hp:bS d)(m:Nat)(h0:0<m)(h1:m<1073741824):∃(r:Nat)(d':D),bZ [.own d,.pure (.int m)]=some (.pure (.int r),[.own d',.pure (.int m)])/\r<m/\bS d':=by
 obtain⟨l,f,s,rfl,hl⟩:=hp;have hm:(0:Int)<(m:Int):=by lia
 have hd:qZ l m=true:=by unfold qZ;simp;lia
 unfold bZ bI Iy fB;by_cases hf:f=1;.subst hf;have e1:=Int.emod_nonneg l (b:=(m:Int)) Y';have e2:=Int.emod_lt_of_pos l hm;refine⟨(l%(m:Int)).toNat,.lst [.int (l/m),.int 1,.int s],?_,Y',⟨_,_,_,rfl,Int.ediv_nonneg hl Y'⟩⟩;simp[eC,bY,ax,aj,bB,ah,aa,aw,df,eK,ku,za,y_,aC,f7,oW,fJ,h0,hd,nN,jg,putL,e_,da,jb];lia
 .have e1:=Int.emod_nonneg (nx (nx s+7)/64) (b:=(m:Int)) Y';have e2:=Int.emod_lt_of_pos (nx (nx s+7)/64) hm;refine⟨(nx (nx s+7)/64%(m:Int)).toNat,.lst [.int l,.int f,.int (nx (nx s+7))],?_,Y',⟨_,_,_,rfl,hl⟩⟩;simp[eC,bY,ax,aj,bB,ah,aa,aw,df,eK,ku,za,y_,aC,f7,oW,fJ,h0,hd,nN,jg,putL,e_,da,jb,hf,aF,bW,dP,dC,cV,cH,zhJ,aU,bH,qZ];lia
theorem qaa(c:Int):∃d,ou [.pure (.int c)]=some (.own d,[.pure (.int c)])/\bS d:=by unfold ou bI Iv fB;refine⟨.lst [.int (if 0-c>c then 0-c else c),.int (if decide (1000000000000000000<=if 0-c>c then 0-c else c)then 1 else 0),.int ((if 0-c>c then 0-c else c)%1000003)],?_,⟨_,_,_,rfl,by split<;>lia⟩⟩;simp[eC,bY,ax,aj,bB,ah,aa,yw,qY,fJ,oY,yt,eK,uX,yq,f7,e_,da]
theorem z87(ns:List Int):∃c:Int,pU [.pure (.lst (ns.map .int)),.pure (.int 0)]=some (.pure (.int c),[.pure (.lst (ns.map .int)),.pure (.int 0)]):=by unfold pU bI Iu fB;cases ns with|nil=>exact⟨0,#v[eC,bY,aj,bB,ah,gN,eK,aC,aX,e_,da]⟩|cons n r=>exact⟨n,by
 have:(0:Int)<(r.length:Int)+1:=by lia
 simp[eC,bY,aj,bB,ah,gN,eK,aC,aX,e_,da,aw,ku,this]⟩
theorem eV(hp:bS d)(m:Nat)(i:Int)(hi:i=m)(h0:0<m)(h1:m<1073741824):∃(r:Nat)(d':D),bZ [.own d,.pure (.int i)]=some (.pure (.int r),[.own d',.pure (.int i)])/\r<m/\bS d':=by subst hi;exact wu hp m h0 h1
def eW:Tx:=gF
theorem zfG(hp:bS d):∃(h w:Nat)(d':D),sV [.own d]=some (.pure (.tup [.int h,.int w]),[.own d'])/\(0<h/\h<=4/\0<w/\w<=4/\2<h+w)/\bS d':=by
 obtain⟨r1,d1,e1,l1,p1⟩:=eV hp 3 3 rfl Z' Z';obtain⟨r2,d2,e2,l2,p2⟩:=eV p1 3 3 rfl Z' Z';obtain⟨r3,d3,e3,l3,p3⟩:=eV p2 8 8 rfl Z' Z';obtain⟨r4,d4,e4,l4,p4⟩:=eV p3 6 6 rfl Z' Z';unfold sV Iz;obtain⟨b3,c3,h3⟩:=mV r3 0
 cases b3 with|true=>
  obtain⟨h,w,x,hb⟩:∃h w:Nat,aw (.lst [.tup [.int 4,.int 1],.tup [.int 1,.int 4],.tup [.int 4,.int 4],.tup [.int 4,.int 3],.tup [.int 1,.int 2],.tup [.int 2,.int 1]]) (.int r4)=pS (.tup [.int h,.int w])/\0<h/\h<=4/\0<w/\w<=4/\2<h+w:=by
   rcases show r4=0\/r4=1\/r4=2\/r4=3\/r4=4\/r4=5 by lia with rfl|rfl|rfl|rfl|rfl|rfl;.exact⟨4,1,rfl,Z'⟩
   .exact⟨1,4,rfl,Z'⟩
   .exact⟨4,4,rfl,Z'⟩
   .exact⟨4,3,rfl,Z'⟩
   .exact⟨1,2,rfl,Z'⟩
   .exact⟨2,1,rfl,Z'⟩
  have q:df (.int ((h:Int)+w)) (.int 2)=pS (.bl false):=by simp[df,eK];lia
  exact⟨h,w,d4,Run,hb,p4⟩|false=>
 obtain⟨b,c,hc⟩:=mV (1+(r1:Int)+(1+r2)) 2
 cases b with|true=>
 have:=hc.1 rfl;obtain⟨rfl,rfl⟩:r1=0/\r2=0:=by lia
 exact⟨1,2,d3,Run,Z',p3⟩|false=>exact⟨1+r1,1+r2,d3,Run,⟨Y',Y',Y',Y',Nat.lt_of_le_of_ne Y' λe=>nomatch hc.2 Y'⟩,p3⟩
theorem A9(ts:List Nat)(r:Nat)(h:r<ts.length):aw (.lst (ts.map λn=>.str [n])) (.int r)=pS (.str [ts.getD r 0]):=by simp[aw,iM,h]
def tD(ts:List Nat):D:=.lst (ts.map λn=>.str [n])
theorem zhI{d:D}(hp:bS d)(way:Nat)(h1:place<ts.length)(h2:ts.length<=64):∃(n:Nat)(d':D),ow [.own d,.pure (tD ts),.pure (.int place),.pure (.int way)]=some (.pure (sD n),[.own d',.pure (tD ts),.pure (.int place),.pure (.int way)])/\n∈ts/\bS d':=by have mem:∀r:Nat,r<ts.length->∃n,aw (tD ts) (.int r)=pS (sD n)/\n∈ts:=λr h=>⟨ts.getD r 0,A9 ts r h,#v[h]⟩;have ln:aX (tD ts)=pS (.int ts.length):=#v[tD,aX];obtain⟨b1,c1,-⟩:=mV way 1;obtain⟨b2,c2,-⟩:=mV way 2;obtain⟨b3,c3,-⟩:=mV way 3;obtain⟨r,d1,e,l,p⟩:=eV hp 4 4 rfl Z' Z';obtain⟨b4,c4⟩:∃b,hJ (.int r) (.int 0)=pS (.bl b):=⟨_,rfl⟩;unfold ow IA;generalize tD ts=A at*;cases b1 with
 |true=>obtain⟨r,d1,e,l,p⟩:=eV hp (place+1) ((place:Int)+1) rfl Y' Y';obtain⟨n,x,hn⟩:=mem r Y';exact⟨n,d1,Run,hn,p⟩
 |false=>cases b2 with|true=>
 obtain⟨n,x,hn⟩:=mem ((place+1)%ts.length) (Nat.mod_lt _ Y');have hm:f7 (.int ((place:Int)+1)) (.int ts.length)=pS (.int (((place+1)%ts.length:Nat):Int)):=by simp only[f7,fJ];rw[if_pos V'];simp
 generalize(((place+1)%ts.length:Nat):Int)=Z at*;exact⟨n,d,Run,hn,hp⟩|false=>cases b3 with
 |true=>cases b4 with|true=>obtain⟨n,x,hn⟩:=mem place h1;exact⟨n,d1,Run,hn,p⟩|false=>obtain⟨r',d2,e2,l2,p2⟩:=wu p ts.length Y' Y';obtain⟨n,x,hn⟩:=mem r' l2;exact⟨n,d2,Run,hn,p2⟩
 |false=>obtain⟨r',d2,e2,l2,p2⟩:=wu hp ts.length Y' Y';obtain⟨n,x,hn⟩:=mem r' l2;exact⟨n,d2,Run,hn,p2⟩
theorem z9H:∀k,k<26->eW.getD k 0=97+k:=by decide
theorem z9N(xs:List Nat)(h:xs.length<64):o_ (.lst (xs.map λn=>.str [n]))=pO (.lst ((iN xs).map λn=>.str [n])):=by
 have e:(xs.map λn=>D.str [n])=(xs.map λn=>[n]).map D.str:=by simp
 unfold o_;simp only[e,pL];rw[if_pos (~~~h),Ge];simp
def j3(f n:Nat):List Nat:=(WB n).map λk=>97+(f+5*k)%26
theorem zaI(f n:Nat)(hn:n<=26):(j3 f n).Nodup:=by unfold j3;rw[Q2,QM];refine List.pairwise_lt_range (n:=n).imp_of_mem ?_;intro a b ha hb gw e;simp at ha hb;lia
def sT(ts:List Nat)(s:S):Prop:=s=.own (tD ts)\/s=.pure (tD ts)
theorem K6(n:Nat):e9 0 n=(WB n).map λi:Nat=>D.int i:=#v[e9]
theorem tG{f:DE}{w:Nat}{z:Int}(e:f U=.ok (.pure (.int z)) ZW)(hz:z=w)(hw:w<=1000):cG f U=.ok ((WB w).map λi:Nat=>D.int i) ZW:=by subst hz;rw[zc,e,<-K6,jn];exact vB w Y' ZW
abbrev rb(zj N F Y:D)(h w:Nat)(s7:S)(pd:D)(bl:List D)(a b c:Option S):Dl:=[pO pd,pS zj,pS (.int h),pS (.int w),pS N,pS F,pS (.str eW),some s7,pS Y,pO (.lst bl),a,b,c,none,none]
abbrev wx:DE:=az (cO []) (aq (bJ [14] (cG (aa 3)) (ag [0] 14) bP (aF ow [.io 0,.val (aa 7),.val (aa 10),.val (aa 8)])))
section
variable{zj N F:D}{h w y:Nat}{s7:S}{bl:List D}{b c:Option S}(cg:ts.length<=64)(hw:w<=4)(cQ:place<ts.length)
include cg hw cQ
theorem z9w(hp:bS pd)(h7:sT ts s7):∃(x:Tx)(bt:D)(q7:S),wx (rb zj N F (.int y) h w s7 pd bl (pS (.int place)) b c)=.ok (.pure (.str x)) (rb zj N F (.int y) h w q7 bt bl (pS (.int place)) b c)/\(x.length=w/\∀n∈x,n∈ts)/\bS bt/\sT ts q7:=by
 obtain⟨xs,ZB,e,⟨bt,q7,dI,h7',rfl⟩,hn,hx⟩:=cI (cs:=[14]) (it:=cG (aa 3)) (g:=ag [0] 14) (t:=bP) (el:=aF ow [.io 0,.val (aa 7),.val (aa 10),.val (aa 8)]) (U:=rb zj N F (.int y) h w s7 pd bl (pS (.int place)) b c) (tG rfl rfl Y') V' (λU=>∃pd s7,bS pd/\sT ts s7/\U=rb zj N F (.int y) h w s7 pd bl (pS (.int place)) b c) (λx=>∃n,n∈ts/\x=sD n) ⟨pd,s7,hp,h7,rfl⟩ λd _ U hh=>by obtain⟨pd,s7,hp,h7,e⟩:=hh;subst e;obtain⟨k,d',e,hk,p⟩:=zhI hp y cQ cg;refine⟨_,_,.pure (sD k),(rb zj N F (.int y) h w (.pure (tD ts)) d' bl (pS (.int place)) b c).set 14 (pS d),rfl,rfl,?_,⟨d',_,p,.inr rfl,rfl⟩,k,hk,rfl⟩;rcases h7 with rfl|rfl<;>simp[aF,bW,dC,dP,cV,aa,cH,e,bH,bx]
 obtain⟨x,rfl,ha⟩:=zg hx;simp at hn;exact⟨x,bt,q7,lO e (zb x Y'),⟨hn,ha⟩,dI,h7'⟩
theorem z6Z(hh:h<=4)(hp:bS pd)(h7:sT ts s7)(hl:bl.length<=1000):∃(fl:List Tx)(bt:D)(q7:S)(b' c':Option S),(ar (ax (bQ aD) (ag [0] 11)) (ar (bE (cG (aa 2)) (ag [0] 12) (cL 11 wx)) (cL 9 (aQ (ao (aj aw 7 (ah 10)) (ao (az cm (ah 11)) aD)))))) (rb zj N F (.int y) h w s7 pd bl (pS (.int place)) b c)=.ok .next (rb zj N F (.int y) h w q7 bt (bl++[aL (ts.getD place 0,fl)]) (pS (.int place)) b' c')/\(fl.length=h/\∀r∈fl,r.length=w/\∀n∈r,n∈ts)/\bS bt/\sT ts q7:=by
 obtain⟨ZB,e,bt,q7,fl,c',dI,h7',h1,h2,rfl⟩:=forA (λi:Nat=>D.int i) (g:=ag [0] 12) (b:=cL 11 wx) (λas U=>∃(pd:D)(s7:S)(fl:List Tx)(c:Option S),bS pd/\sT ts s7/\fl.length+as.length=h/\(∀r∈fl,r.length=w/\∀n∈r,n∈ts)/\U=rb zj N F (.int y) h w s7 pd bl (pS (.int place)) (pO (.lst (fl.map .str))) c) (λi as U hh=>by
 obtain⟨pd,s7,fl,c,hp,h7,h1,h2,e⟩:=hh
 subst e;obtain⟨x,bt,q7,e,hx,dI,h7'⟩:=z9w (zj:=zj) (N:=N) (F:=F) (h:=h) (y:=y) (bl:=bl) (b:=pO (.lst (fl.map .str))) (c:=pS (.int i)) cg hw cQ hp h7;simp at h1;refine⟨_,rfl,λz hz=>⟨_,hz.symm.trans (tF e rfl rfl V'),bt,q7,fl++[x],_,dI,h7',by simp;lia,λr hr=>?_,by rw[WT];rfl⟩⟩;rcases WZ.mp hr with hr|hr;.exact h2 r hr
 .simp at hr;exact hr▸hx) (WB h) (rb zj N F (.int y) h w s7 pd bl (pS (.int place)) (pO (.lst [])) c) ⟨pd,s7,[],c,hp,h7,U',nofun,rfl⟩;refine⟨fl,bt,q7,_,c',aR (ZW:=rb zj N F (.int y) h w s7 pd bl (pS (.int place)) (pO (.lst [])) c) ((fj ((c7 (it:=cG (aa 2)) (tG rfl rfl Y')).trans e)).trans (tF (ZW:=rb zj N F (.int y) h w q7 bt bl (pS (.int place)) (pO (.lst (fl.map .str))) c') (v:=.pure (aL (ts.getD place 0,fl))) ?_ rfl rfl hl)) rfl,⟨~~~h1,h2⟩,dI,h7'⟩;have hx:=A9 ts place cQ;rcases h7' with rfl|rfl<;>simp[aj,bB,ah,tD,hx,cm,aL]
end
theorem zaM{d:D}(hp:bS d)(m:Nat)(hm0:0<m)(FY:m<=26):∃(h w:Nat)(bs:List (Nat×List Tx))(d':D),sX [.own d,.pure (.int m)]=some (.pure (aG h w bs),[.own d',.pure (.int m)])/\iO h w bs/\bs.length<=m/\bS d':=by
 obtain⟨h,w,d1,e1,⟨h0,h1,w0,w1,hw⟩,p1⟩:=zfG hp;obtain⟨r,d2,e2,l2,p2⟩:=wu p1 m hm0 Y';obtain⟨f,d3,e3,l3,p3⟩:=eV p2 26 26 rfl Z' Z';obtain⟨wy,d4,e4,l4,p4⟩:=eV p3 5 5 rfl Z' Z';have ec:=cS (j:=13) (np:=[0]) (it:=cG (aa 4)) (el:=aj aw 6 (aq (aA f7 (aj aU 5 (aq (aA e8 (eD (.int 5)) (ah 13)))) (aq (eD (.int 26)))))) (λi:Nat=>D.int i) (λi=>sD (97+(f+5*i)%26)) (as:=WB (1+r)) (TD:=[pO d3,pS (.int m),pS (.int h),pS (.int w),pS (.int (1+(r:Int))),pS (.int f),pS (.str eW),none,none,none,none,none,none,none,none]) (tG rfl Y' Y') V' λi hi=>by
  have hk:(f+5*i)%26<26:=Nat.mod_lt _ Z';have hx:=V_ eW ((f+5*i)%26) hk Z';rw[z9H _ hk]at hx;have hmul:e8 (.int 5) (.int i)=pS (.int (5*(i:Int))):=#v[e8,fJ,jK];have qab:f7 (.int ((f:Int)+5*(i:Int))) (.int 26)=pS (.int (((f+5*i)%26:Nat):Int)):=by rw[show(((f+5*i)%26:Nat):Int)=((f:Int)+5*(i:Int))%26 by lia];rfl
  generalize D.str eW=lt,(((f+5*i)%26:Nat):Int)=z at*;simp[aj,bB,ah,bx,hmul,ai,qab,hx,S.d]
 rw[show((WB (1+r)).map λi=>sD (97+(f+5*i)%26))=(j3 f (1+r)).map sD by simp[j3]]at ec;have K7:(j3 f (1+r)).length=1+r:=#v[j3];have es:=lO ec (z9N (j3 f (1+r)) (by rw[K7];lia));have cg:(iN (j3 f (1+r))).length=1+r:=by rw[Gg,K7]
 have bc:=Gi (zaI f (1+r) Y');have hle:∀t∈iN (j3 f (1+r)),97<=t/\t<=122:=λt ht=>by rw[zf]at ht;simp[j3]at ht;obtain⟨k,_,rfl⟩:=ht;lia
 generalize iN (j3 f (1+r))=ts at es cg bc hle;obtain⟨ZB,e5,pd,s7,bs,a,b,c,hpd,h7,h3,h4,-,rfl⟩:=forA (λi:Nat=>D.int i) (g:=ag [0] 10) (b:=ar (ax (bQ aD) (ag [0] 11)) (ar (bE (cG (aa 2)) (ag [0] 12) (cL 11 wx)) (cL 9 (aQ (ao (aj aw 7 (ah 10)) (ao (az cm (ah 11)) aD)))))) (λas U=>∃(pd:D)(s7:S)(bs:List (Nat×List Tx))(a b c:Option S),bS pd/\sT ts s7/\bs.map (·.1)++as.map (ts.getD . 0)=ts/\(∀b∈bs,b.2.length=h/\∀r∈b.2,r.length=w/\∀n∈r,n∈ts)/\(∀i∈as,i<ts.length)/\U=rb (.int m) (.int (1+(r:Int))) (.int f) (.int wy) h w s7 pd (bs.map aL) a b c) (λi as U hh=>by
 obtain⟨pd,s7,bs,a,b,c,hpd,h7,h3,h4,h5,e⟩:=hh
 subst e;have hl:=congrArg WV h3;simp at hl;obtain⟨fl,bt,q7,b',c',e,x6,dI,h7'⟩:=z6Z (zj:=.int m) (N:=.int (1+(r:Int))) (F:=.int f) (y:=wy) (place:=i) (bl:=bs.map aL) (b:=b) (c:=c) Y' w1 (h5 i (.head _)) h1 hpd h7 V';refine⟨_,rfl,λz hz=>⟨_,hz.symm.trans e,bt,q7,bs++[(ts.getD i 0,fl)],_,_,_,dI,h7',~~~h3,λb hb=>?_,λj hj=>h5 j (.tail _ hj),by rw[WT];rfl⟩⟩;rcases WZ.mp hb with hb|hb;.exact h4 b hb
 .simp at hb;exact hb▸x6) (WB (1+r)) (rb (.int m) (.int (1+(r:Int))) (.int f) (.int wy) h w (.own (tD ts)) d4 [] none none none) ⟨d4,_,[],none,none,none,p4,.inl rfl,by refine Jg #v[cg] λi h1 h2=>?_;simp[h2],nofun,#v[cg],rfl⟩;rw[Jk,Qc]at h3;have A_:bs.length=1+r:=by rw[<-cg,<-h3];simp
 subst h3;refine⟨h,w,bs,pd,?_,⟨h0,h1,w0,w1,hw,Y',Y',bc,λb hb=>hle _ (WL hb),h4⟩,Y',hpd⟩;unfold sX IB;refine gR (ZW:=rb (.int m) (.int (1+(r:Int))) (.int f) (.int wy) h w s7 pd (bs.map aL) a b c) ?_ rfl rfl;refine aR ?_ cN;refine aR ?_ cN;refine aR (aR ?_ rfl) cN;refine aR ?_ (oE es rfl);refine aR (aR ?_ rfl) cN;exact aR rfl ((c7 (it:=cG (aa 4)) (tG rfl Y' Y')).trans e5)
theorem le_int(i j:Int):fw (.int i) (.int j)=pS (.bl (decide (i<=j))):=rfl
theorem gt_int(i j:Int):hJ (.int i) (.int j)=pS (.bl (decide (j<i))):=rfl
theorem eq_int(i j:Int):df (.int i) (.int j)=pS (.bl (i==j)):=rfl
theorem ne_int(i j:Int):eT (.int i) (.int j)=pS (.bl !i==j):=rfl
theorem oF(np:List Nat)(n:Nat)(b:DS)(ss:List S):bI np n b ss=if eC np 0 ss then match b (bY n ss)with|.ok fl U=>(e_ fl).bind λr=>(da 0 ss U).map λa_=>(r,a_)|_=>none else none:=rfl
theorem wz(h w:Nat)(bs:List (Nat×List Tx)):aw (aG h w bs) (.int 0)=pS (.int h)/\aw (aG h w bs) (.int 1)=pS (.int w)/\aw (aG h w bs) (.int 2)=pS (.tup (bs.map aL)):=by
 refine⟨?_,?_,?_⟩;.simp[aw,ku]
 .simp[aw,za]
 .simp[aw,y_]
theorem tH:∀(kps acc:List (aZ×D)),((acc++kps).map (·.1)).Nodup->jk kps acc=acc++kps
 |[],acc,_=>#v[jk]|p::r,acc,h=>by
  have hn:(acc.any λkv=>decide (kv.1=p.1))=false:=by rw[JQ];intro kv hkv;simp only[decide_eq_true_eq];intro e;rw[WT,List.nodup_append]at h;exact h.2.2 kv.1 (WL hkv) p.1 (WL Wx) e
  have hp:putD acc p.1 p.2=acc++[p]:=by unfold putD;rw[hn];simp
  show jk r (putD acc p.1 p.2)=_;rw[hp,tH r (acc++[p]) (~~~h)];simp
theorem zfq(x:Tx)(h:x.length<=1000):dA (some 1) none (.str x)=pS (.str x.tail):=by
 unfold dA;have hz:Wb=16777216:=rfl;simp only;rw[if_pos Y'];have:bC x (some 1) none=x.tail:=by unfold bC Lake.ba;simp;cases x with|nil=>simp|cons a r=>simp
 rw[this]
theorem zfp(ds:List D):dA (some 1) none (.tup ds)=pS (.tup ds.tail):=by
 have:bC ds (some 1) none=ds.tail:=by unfold bC Lake.ba;simp;cases ds with|nil=>simp|cons a r=>simp
 show some (S.pure (.tup (bC ds (some 1) none)))=_;rw[this]
theorem add_str(x y:Tx)(h:x.length+y.length<=1000):aU (.str x) (.str y)=pS (.str (x++y)):=by have hz:Wb=16777216:=rfl;simp only[aU];rw[if_pos Y']
theorem Ba(x y:List D)(h:x.length+y.length<=1000):aU (.tup x) (.tup y)=pS (.tup (x++y)):=by have hz:Wb=16777216:=rfl;simp only[aU];rw[if_pos Y']
@[simp]theorem zgu{α β:Type}(x:Xc)(U:Dl)(f:α->Dl->Rs β):(Rs.exc x U:Rs α).bind f=.exc x U:=id rfl
theorem zj1(xs:List α)(k:Nat)(h:k<=xs.length):bC xs none (some (k:Int))=xs.take k:=by
 have:¬(k:Int)<0:=by lia
 unfold bC Lake.ba;simp[this]
theorem zj2(xs:List α)(k:Nat)(h:k<=xs.length):bC xs (some (k:Int)) none=xs.drop k:=by
 have:¬(k:Int)<0:=by lia
 unfold bC Lake.ba;simp[this,Uw h];exact Ji U'
theorem uk(ds:List D)(lo hi:Option Int):dA lo hi (.tup ds)=pS (.tup (bC ds lo hi)):=rfl
theorem uO(x:Tx)(h:x.length<=1000)(lo hi:Option Int):dA lo hi (.str x)=pS (.str (bC x lo hi)):=by unfold dA;simp only;rw[if_pos (by rw[de];lia)]
theorem K8(ts:List Nat):aX (tD ts)=pS (.int ts.length):=#v[tD,aX]
theorem Bb(ts:List Nat)(r:Nat)(h:r<ts.length):aw (tD ts) (.int r)=pS (.str [ts.getD r 0]):=A9 ts r h
theorem qac(ts:List Nat)(n:Nat):dQ true (.str [n]) (.lst (ts.map λn=>.str [n]))=pS (.bl !ts.contains n):=by
 have e:(ts.map λn=>D.str [n])=(ts.map λn=>[n]).map D.str:=by simp
 have c:(ts.map λn=>([n]:Tx)).contains [n]=ts.contains n:=by induction ts with|nil=>rfl|cons a r ih=>simp only[Wi,List.contains_cons,ih U'];congr 1;simp
 unfold dQ;simp only[e,pL,c];rfl
structure ck(h w:Nat)(bs:List (Nat×List Tx)):Prop where
 h0:0<h
 h1:h<=4w0:0<w
 w1:w<=4hw:2<h+w
 n0:0<bs.length
 n1:bs.length<=26nd:(bs.map (·.1)).Nodup
 bR:∀b∈bs,b.2.length=h/\∀r∈b.2,r.length=w/\∀n∈r,n∈bs.map (·.1)
theorem lP(R:iO h w bs):ck h w bs:=⟨R.h0,R.h1,R.w0,R.w1,R.hw,R.n0,by have:=R.n1;lia,R.up.imp λh=>WR h,R.bR⟩
def mW(b:Nat×List Tx):Nat×List Tx:=(b.1,(b.1::(b.2.headD []).tail)::b.2.tail)
def jE(bs:List (Nat×List Tx))(k:Nat):List (Nat×List Tx):=match bs[k]? with|some b=>bs.take k++mW b::bs.drop (k+1)|none=>bs
theorem Bc(bs:List (Nat×List Tx))(k:Nat):(jE bs k).map (·.1)=bs.map (·.1):=by unfold jE;cases e:bs[k]? with|none=>rfl|some b=>
 obtain⟨hk,eb⟩:=W9.mp e;have:bs=bs.take k++b::bs.drop (k+1):=by rw[<-eb,<-J0 hk,List.take_append_drop]
 conv=>rhs;rw[this]
 simp[mW]
theorem zfc(h:b∈jE bs k):b∈bs\/∃c∈bs,b=mW c:=by unfold jE at h;cases e:bs[k]? with|none=>rw[e]at h;exact .inl h|some c=>
  rw[e]at h;rcases WZ.mp h with h|h;.exact .inl (List.mem_of_mem_take h)
  .rcases Wf.mp h with h|h;.exact .inr ⟨c,Wj e,h⟩
   .exact .inl (List.mem_of_mem_drop h)
theorem K9(R:ck h w bs)(k:Nat):ck h w (jE bs k):=by
 have e:=Bc bs k;have el:(jE bs k).length=bs.length:=by have:=congrArg WV e;simpa using this
 refine⟨R.h0,R.h1,R.w0,R.w1,R.hw,%[el|R.n0],%[el|R.n1],%[e|R.nd],λb hb=>?_⟩;rw[e];rcases zfc hb with hb|⟨c,hc,rfl⟩;.exact R.bR b hb
 .obtain⟨h1,h2⟩:=R.bR c hc;have FI:c.1∈bs.map (·.1):=WL hc;have w0:=R.w0;have h0:=R.h0;cases hq:c.2 with|nil=>rw[hq]at h1;simp at h1;lia|cons r q=>
   rw[hq]at h1 h2;have hr:=h2 r Wx;unfold mW;rw[hq];refine⟨~~~h1,λx hx=>?_⟩;rcases Wf.mp hx with rfl|hx
   .refine⟨by simp[List.headD];lia,λn hn=>?_⟩;rcases Wf.mp hn with rfl|hn;.exact FI
    .exact hr.2 n (List.mem_of_mem_tail (by simpa[List.headD]using hn))
   .exact h2 x (Wn _ (~~~hx))
theorem K_(R:ck h w bs)(hk:k<bs.length):ox [.pure (aG h w bs),.pure (.int k)]=some (.pure (aG h w (jE bs k)),[.pure (aG h w bs),.pure (.int k)]):=by
 have hb:bs[k]?=some bs[k]:=#v[hk];obtain⟨b1,b2⟩:=R.bR bs[k] (WQ hk);have es:jE bs k=bs.take k++mW bs[k]::bs.drop (k+1):=by unfold jE;rw[hb]
 rw[es];have n1:=R.n1;have h0:=R.h0;have w0:=R.w0;have w1:=R.w1;have h1:=R.h1;generalize bs[k]=b at*;obtain⟨tl,bl⟩:=b;simp only at b1 b2;cases bl with|nil=>simp at b1;lia|cons r q=>
 have hr:=b2 r Wx;have x1:aw (.tup (bs.map aL)) (.int (k:Int))=pS (.tup [.str [tl],bN (r::q)]):=by simp[aw,iM,hb]
 have x2:aw (bN (r::q)) (.int 0)=pS (.str r):=#v[aw,ku];have s1:=zfq r Y';have a1:aU (.str [tl]) (.str r.tail)=pS (.str (tl::r.tail)):=by rw[add_str _ _ V'];rfl
 have s2:dA (some 1) none (bN (r::q))=pS (bN q):=by rw[zfp];rfl
 have a2:aU (.tup [.str (tl::r.tail)]) (bN q)=pS (bN ((tl::r.tail)::q)):=by rw[Ba _ _ (by simp at b1⊢;lia)];rfl
 have s3:dA none (some (k:Int)) (.tup (bs.map aL))=pS (.tup ((bs.take k).map aL)):=by rw[uk,zj1 _ _ V',<-List.map_take]
 have s4:dA (some ((k:Int)+1)) none (.tup (bs.map aL))=pS (.tup ((bs.drop (k+1)).map aL)):=by rw[uk,show(k:Int)+1=((k+1:Nat):Int)by lia,zj2 _ _ V',<-List.map_drop]
 have a3:aU (.tup ((bs.take k).map aL)) (.tup [.tup [.str [tl],bN ((tl::r.tail)::q)]])=pS (.tup ((bs.take k).map aL++[.tup [.str [tl],bN ((tl::r.tail)::q)]])):=Ba _ _ V';have a4:aU (.tup ((bs.take k).map aL++[.tup [.str [tl],bN ((tl::r.tail)::q)]])) (.tup ((bs.drop (k+1)).map aL))=pS (.tup ((bs.take k++mW (tl,r::q)::bs.drop (k+1)).map aL)):=by rw[Ba _ _ V'];simp[mW]
 unfold ox IC aG;generalize D.tup (bs.map aL)=bl,D.tup ((bs.take k++mW (tl,r::q)::bs.drop (k+1)).map aL)=nb,D.tup ((bs.take k).map aL++[.tup [.str [tl],bN ((tl::r.tail)::q)]])=nc at*;generalize D.tup ((bs.take k).map aL)=nd,D.tup ((bs.drop (k+1)).map aL)=ne,bN ((tl::r.tail)::q)=f1,bN (r::q)=f0,bN q=f2,D.str (tl::r.tail)=y1 at*;exact Run
abbrev dg(ps:List (Nat×Nat)):D:=.tup (ps.map λp=>.tup [.str [p.1],.str [p.2]])
def Fd(d:List (aZ×D))(l:List Nat)(f:Nat->D):Prop:=(∀x,cX d (.inr [x])=if x∈l then some (f x)else none)/\d.length<=l.length
theorem La(d:List (aZ×D))(k:aZ)(v:D)(k':aZ):cX (putD d k v) k'=if k'=k then some v else cX d k':=by
 unfold putD cX;split
 .rename_i h;rw[Uk];have:((λkv:aZ×D=>decide (kv.1=k'))∘λkv=>if kv.1=k then(kv.1,v)else kv)=λkv=>decide (kv.1=k'):=by funext kv;simp only[Function.comp];split<;>rfl
  rw[this];split;.rename_i e;subst e;rw[List.any_eq_true]at h;obtain⟨kv,h1,h2⟩:=h;cases e:d.find? λkv=>decide (kv.1=k')with|none=>exact absurd h2 (Ug.mp e kv h1)|some y=>have:=U8 e;simp at this;simp[this]
  .rename_i ne;cases e:d.find? λkv=>decide (kv.1=k')with|none=>rfl|some y=>have:=U8 e;simp at this;simp[this,ne]
 .rename_i h;rw[List.find?_append];split
  .rename_i e;subst e;have:d.find? (λkv=>decide (kv.1=k'))=none:=by rw[List.find?_eq_none];intro x hx hk;exact h (List.any_eq_true.mpr ⟨x,hx,hk⟩)
   simp[this]
  .rename_i ne;have ne':¬k=k':=λe=>ne e.symm;cases e:d.find? λkv=>decide (kv.1=k')with|none=>simp[ne']|some y=>simp
theorem Lb(d:List (aZ×D))(k:aZ)(v:D):(putD d k v).length<=d.length+1:=by unfold putD;split<;>simp
section
variable{d:List (aZ×D)}{l:List Nat}{f:Nat->D}{x:Nat}
theorem Fd.nil:Fd [] [] f:=⟨λx=>#v[cX],U'⟩
theorem Fd.put(h:Fd d l f)(t:Nat):Fd (putD d (.inr [t]) (f t)) (l++[t]) f:=by
 refine⟨λx=>?_,by have:=Lb d (.inr [t]) (f t);have:=h.2;simp;lia⟩;rw[La];by_cases e:x=t;.subst e;simp
 .have:¬(Sum.inr [x]:aZ)=.inr [t]:= ~~~e;simp[this,h.1,e]
theorem Fd.ix(h:Fd d l f)(hx:x∈l):aN (.au d) (sD x)=pS (f x):=by show((cb (.str [x])).bind λk=>(cX d k).map S.pure)=_;simp[cb,h.1,hx]
theorem Fd.wB(h:Fd d l f):dQ true (sD x) (.au d)=pS (.bl !decide (x∈l)):=by show((cb (.str [x])).map λk=>S.pure (.bl (if true then !(cX d k).isSome else _)))=_;by_cases e:x∈l<;>simp[cb,h.1,e]
def Cv(d:List (aZ×D))(l:List Nat):Prop:=(∀x∈l,∃n,cX d (.inr [x])=some (sD n))/\d.length<=l.length
theorem Cv.put(h:Cv d l)(t n:Nat):Cv (putD d (.inr [t]) (sD n)) (l++[t]):=by
 refine⟨λx hx=>?_,by have:=Lb d (.inr [t]) (sD n);have:=h.2;simp;lia⟩;rw[La];split;.exact⟨_,rfl⟩
 .exact h.1 x (by simp at hx;grind)
def qk(d:List (aZ×D))(x:Nat):Nat:=match cX d (.inr [x])with|some (.str (n::_))=>n|_=>0
theorem Cv.ix(h:Cv d l)(hx:x∈l):aN (.au d) (sD x)=pS (sD (qk d x)):=by obtain⟨n,e⟩:=h.1 x hx;show((cb (.str [x])).bind λk=>(cX d k).map S.pure)=_;simp[cb,e,qk]
end
abbrev sd(ru pd A B T:D)(o6:Option S)(bl:List D)(o8 o9 jF o11 o12:Option S):Dl:=[pS ru,pO pd,pS (.str eW),pO A,pO B,pO T,o6,pO (.lst bl),o8,o9,jF,o11,o12,none,none]
abbrev Be:DE:=az (cO []) (aq (bJ [14] (aK (aa 12)) (ag [1] 14) bP (aA aw (bQ (ao (aa 14) (ao (aj aN 5 (ah 14)) aD))) (aq (aF bZ [.io 1,.val (eD (.int 2))])))))
abbrev Bf:DS:=ar (ax (bQ aD) (ag [1] 11)) (ar (bE (aK (aa 9)) (ag [1] 12) (cL 11 Be)) (cL 7 (aQ (ao (aa 10) (ao (az cm (ah 11)) aD)))))
section
variable{A B T:D}{o9 jF o11 o12:Option S}{bl:List D}{w:Nat}(ht:∀n∈ts,aN T (sD n)=pS (sD (tw n))/\al n/\al (tw n))
include ht
theorem zhE(hp:bS pd)(hr:∀n∈row,n∈ts)(hl:row.length<=64):∃(x:Tx)(bt:D),Be (sd ru pd A B T o6 bl o8 o9 jF o11 (pS (.str row)))=.ok (.pure (.str x)) (sd ru bt A B T o6 bl o8 o9 jF o11 (pS (.str row)))/\(x.length=row.length/\∀n∈x,al n)/\bS bt:=by
 obtain⟨xs,ZB,e,⟨bt,dI,rfl⟩,hn,hx⟩:=cI (cs:=[14]) (it:=aK (aa 12)) (g:=ag [1] 14) (t:=bP) (el:=aA aw (bQ (ao (aa 14) (ao (aj aN 5 (ah 14)) aD))) (aq (aF bZ [.io 1,.val (eD (.int 2))]))) (U:=sd ru pd A B T o6 bl o8 o9 jF o11 (pS (.str row))) (ds:=row.map sD) rfl V' (λU=>∃pd,bS pd/\U=sd ru pd A B T o6 bl o8 o9 jF o11 (pS (.str row))) (λx=>∃n,al n/\x=sD n) ⟨pd,hp,rfl⟩ λd hd U⟨pd,hp,e⟩=>by
  subst e;obtain⟨n,hn,rfl⟩:=Wu.mp hd;obtain⟨x5,a1,a2⟩:=ht n (hr n hn);obtain⟨r,d',e,l,p⟩:=eV hp 2 2 rfl Z' Z';obtain⟨m,i,hm⟩:∃m,aw (.lst [sD n,sD (tw n)]) (.int r)=pS (sD m)/\al m:=by
   rcases show r=0\/r=1 by lia with rfl|rfl;.exact⟨_,rfl,a1⟩
   .exact⟨_,rfl,a2⟩
  exact⟨_,_,.pure (sD m),(sd ru d' A B T o6 bl o8 o9 jF o11 (pS (.str row))).set 14 (pS (sD n)),rfl,rfl,cN,⟨d',p,rfl⟩,m,hm,rfl⟩
 obtain⟨x,rfl,ha⟩:=zg hx;simp at hn;exact⟨x,bt,lO e (zb x Y'),⟨hn,ha⟩,dI⟩
theorem Lc(hp:bS pd)(hw:w<=64)(hl:fl.length<=64)(hf:∀r∈fl,r.length=w/\∀n∈r,n∈ts)(t:Nat)(hz:bl.length<=1000):∃(gl:List Tx)(bt:D)(jG cC:Option S),Bf (sd ru pd A B T o6 bl o8 (pS (bN fl)) (pS (sD t)) o11 o12)=.ok .next (sd ru bt A B T o6 (bl++[aL (t,gl)]) o8 (pS (bN fl)) (pS (sD t)) jG cC)/\(gl.length=fl.length/\∀r∈gl,r.length=w/\∀n∈r,al n)/\bS bt:=by
 obtain⟨ZB,e,gl,bt,cC,h1,h2,h3,-,rfl⟩:=forA .str (g:=ag [1] 12) (b:=cL 11 Be) (λrs U=>∃(gl:List Tx)(pd:D)(cC:Option S),gl.length+rs.length=fl.length/\(∀r∈gl,r.length=w/\∀n∈r,al n)/\bS pd/\(∀r∈rs,r.length=w/\∀n∈r,n∈ts)/\U=sd ru pd A B T o6 bl o8 (pS (bN fl)) (pS (sD t)) (pO (.lst (gl.map .str))) cC) (λr rs U hh=>by
 obtain⟨gl,pd,cC,h1,h2,h3,h4,e⟩:=hh
 subst e;obtain⟨hr,hn⟩:=h4 r (.head _);obtain⟨x,bt,e,hx,dI⟩:=zhE ht h3 hn Y';refine⟨_,rfl,λy hy=>⟨_,hy.symm.trans (tF e rfl rfl (by simp at h1⊢;lia)),gl++[x],bt,_,by simp at h1⊢;lia,λy hy=>?_,dI,λy hy=>h4 y (.tail _ hy),by rw[WT];rfl⟩⟩;rcases WZ.mp hy with hy|hy;.exact h2 y hy
 .simp at hy;exact hy▸⟨hx.1.trans hr,hx.2⟩) fl (sd ru pd A B T o6 bl o8 (pS (bN fl)) (pS (sD t)) (pO (.lst [])) o12) ⟨[],pd,o12,U',nofun,hp,hf,rfl⟩;exact⟨gl,bt,_,cC,aR (ZW:=sd ru pd A B T o6 bl o8 (pS (bN fl)) (pS (sD t)) (pO (.lst [])) o12) ((fj ((c7 (it:=aK (aa 9)) rfl).trans e)).trans (tF (v:=.pure (aL (t,gl))) rfl rfl rfl hz)) rfl,⟨~~~h1,h2⟩,h3⟩
theorem zc0(hp:bS pd)(hw:w<=64){h:Nat}(hh:h<=64){bs:List (Nat×List Tx)}(hn:bs.length<=100)(hb:∀b∈bs,b.1∈ts/\b.2.length=h/\∀r∈b.2,r.length=w/\∀n∈r,n∈ts):∃(cs:List (Nat×List Tx))(bt:D)(p8 p9 lQ jG cC:Option S),forL (cj 2 (a7 (ag [1] 8) (a7 (ag [1] 9) cw))) (bE (aK (bQ (ao (aa 8) (ao (aj aN 5 (ah 8)) aD)))) (ag [1] 10) Bf) (bs.map aL) (sd ru pd A B T o6 [] none none none none none)=.ok .next (sd ru bt A B T o6 (cs.map aL) p8 p9 lQ jG cC)/\cs.map (·.1)=(bs.map (·.1)).flatMap (λt=>[t,tw t])/\(∀b∈cs,b.2.length=h/\∀r∈b.2,r.length=w/\∀n∈r,al n)/\bS bt:=by
 obtain⟨ZB,e,cs,bt,p8,p9,lQ,jG,cC,h1,h2,h3,-,-,rfl⟩:=forA aL (g:=cj 2 (a7 (ag [1] 8) (a7 (ag [1] 9) cw))) (b:=bE (aK (bQ (ao (aa 8) (ao (aj aN 5 (ah 8)) aD)))) (ag [1] 10) Bf) (λrs U=>∃(cs:List (Nat×List Tx))(pd:D)(p8 p9 lQ jG cC:Option S),cs.map (·.1)++(rs.map (·.1)).flatMap (λt=>[t,tw t])=(bs.map (·.1)).flatMap (λt=>[t,tw t])/\(∀b∈cs,b.2.length=h/\∀r∈b.2,r.length=w/\∀n∈r,al n)/\bS pd/\rs ⊆ bs/\cs.length+2*rs.length=2*bs.length/\U=sd ru pd A B T o6 (cs.map aL) p8 p9 lQ jG cC) (λb rs U hh=>by
 obtain⟨cs,pd,p8,p9,lQ,jG,cC,h1,h2,h3,h4,h5,e⟩:=hh
 subst e;obtain⟨b1,b2,b3⟩:=hb b (h4 (.head _));simp at h5;obtain⟨g1,d1,q11,q12,e1,a1,hp1⟩:=Lc (ru:=ru) (A:=A) (B:=B) (o6:=o6) (o8:=pS (sD b.1)) (bl:=cs.map aL) (o11:=jG) (o12:=cC) ht h3 hw Y' b3 b.1 V';obtain⟨g2,d2,r11,r12,e2,a2,hp2⟩:=Lc (ru:=ru) (A:=A) (B:=B) (o6:=o6) (o8:=pS (sD b.1)) (bl:=cs.map aL++[aL (b.1,g1)]) (o11:=q11) (o12:=q12) ht hp1 hw Y' b3 (tw b.1) V';have hx:=(ht b.1 b1).1;have it:aK (bQ (ao (aa 8) (ao (aj aN 5 (ah 8)) aD))) (sd ru pd A B T o6 (cs.map aL) (pS (sD b.1)) (pS (bN b.2)) lQ jG cC)=.ok [sD b.1,sD (tw b.1)] (sd ru pd A B T o6 (cs.map aL) (pS (sD b.1)) (pS (bN b.2)) lQ jG cC):=#v[ZQ,aa,aj,bB,ah,hx,S.d];refine⟨_,rfl,λy hy=>⟨_,hy.symm.trans ((c7 it).trans ((lN rfl e1).trans ((lN rfl e2).trans rfl))),cs++[(b.1,g1)]++[(tw b.1,g2)],d2,_,_,_,_,_,by rw[<-h1];simp,λc hc=>?_,hp2,λ_ h=>h4 (.tail _ h),by simp;lia,by simp only[WT];rfl⟩⟩;simp at hc;rcases hc with hc|rfl|rfl;.exact h2 c hc
 .exact⟨a1.1.trans b2,a1.2⟩
 .exact⟨a2.1.trans b2,a2.2⟩) bs (sd ru pd A B T o6 [] none none none none none) ⟨[],pd,_,_,_,_,_,U',nofun,hp,λ_ h=>h,U',rfl⟩;exact⟨cs,bt,_,_,_,_,_,e,~~~h1,h2,h3⟩
end
theorem Ld:∀bl:List (Nat×List Tx),mH (bl.map aL)=some (bl.map λb=>[b.1])|[]=>rfl|b::r=>#v[mH,Ld r]
theorem Lf:∀{ks:List Tx},ks.Nodup->pK ks=true|[],_=>rfl|x::r,h=>by rw[WW]at h;simp[pK,h.1,Lf h.2]
theorem zfk(bl:List (Nat×List Tx))(nd:(bl.map (·.1)).Nodup)(h2:2<=bl.length)(pJ:bl.length<64):∃bl':List (Nat×List Tx),bl'.Perm bl/\n5 (.lst (bl.map aL))=pO (.lst (bl'.map aL)):=by
 have nk:(bl.map λb=>([b.1]:Tx)).Nodup:=by
  have e:(bl.map λb=>([b.1]:Tx))=(bl.map (·.1)).map λn=>[n]:=by simp
  rw[e];exact List.Pairwise.map _ (λa b h z=>h (~~~z)) nd
 have hp:=vz (ks:=bl.map λb=>([b.1]:Tx)) (~~~h2);rw[Ws]at hp;refine⟨(f9 (bl.map λb=>([b.1]:Tx))).map λi=>bl.getD i (0,[]),?_,?_⟩
 .refine(hp.map _).trans (List.Perm.of_eq ?_);apply Jg;.simp
  .intro i h1 h2;simp at h1;simp[h1]
 .unfold n5;simp only[Ld];rw[if_pos ⟨~~~h2,~~~pJ,Lf nk⟩];congr 3;rw[Wq];refine WK λi hi=>?_;have:=hp.mem_iff.mp hi;simp at this;simp[this]
def fT(ts:List Nat):List Nat:=eW.filter λn=>!ts.contains n
theorem Bg:∀(ts:List Nat)(l:List Nat),l.Nodup->l.length<=(l.filter λn=>!ts.contains n).length+ts.length
 |[],l,_=>by rw[List.filter_eq_self.mpr λa _=>by simp];simp|t::r,l,h=>by
  have ih:=Bg r l h;have e:(l.filter λn=>!(t::r).contains n)=(l.filter λn=>!r.contains n).filter λn=>n !=t:=by rw[List.filter_filter];congr 1;funext n;rw[List.contains_cons];cases h1:n==t<;>cases h2:r.contains n<;>simp_all
  have nd:(l.filter λn=>!r.contains n).Nodup:=h.filter _;rw[e,<-nd.erase_eq_filter,List.length_erase,WP];split<;>lia
def iR(ts:List Nat)(t:Nat):Nat:=(fT ts).getD (ts.idxOf t) 0
theorem Bh(hn:ts.length<=13)(ht:t∈ts):∃h:ts.idxOf t<(fT ts).length,iR ts t=(fT ts)[ts.idxOf t]:=by
 have:=Bg ts eW Z';have e:eW.length=26:=by decide
 have:=WU ht;exact⟨by unfold fT;lia,by unfold iR;simp[show ts.idxOf t<(fT ts).length by unfold fT;lia]⟩
theorem Bi(hn:ts.length<=13)(ht:t∈ts):iR ts t∉ts:=by obtain⟨h,e⟩:=Bh hn ht;have:iR ts t∈fT ts:=e▸WQ h;simpa using(U4.mp this).2
theorem zgY(hn:ts.length<=13)(ht:t∈ts)(hu:u∈ts)(e:iR ts t=iR ts u):t=u:=by obtain⟨h1,e1⟩:=Bh hn ht;obtain⟨h2,e2⟩:=Bh hn hu;have nd:(fT ts).Nodup:=List.Pairwise.filter _ (by decide:eW.Nodup);have z:=(List.getElem_inj nd).mp (e1.symm.trans (e.trans e2));have a:=QT (WU ht);have b:=QT (WU hu);simp only[z]at a;exact a.symm.trans b
theorem zaP(R:ck h w bs)(hn:bs.length<=5)(hp:bS pd):∃(bO:List (Nat×List Tx))(d:List (aZ×D))(bt:D)(tw:Nat->Nat),pW [.pure (aG h w bs),.own pd]=some (.pure (.tup [aG h w bO,.au d]),[.pure (aG h w bs),.own bt])/\ck h w bO/\bS bt/\(∀t∈bs.map (·.1),aN (.au d) (sD t)=pS (sD (tw t))/\t∈bO.map (·.1)/\tw t∈bO.map (·.1))/\∀t∈bO.map (·.1),t∈bs.map (·.1)\/∃u∈bs.map (·.1),t=tw u:=by
 have h1:=R.h1;have w1:=R.w1;have n0:=R.n0;obtain⟨ts,cg⟩:∃ts,bs.map (·.1)=ts:=⟨_,rfl⟩;have htl:ts.length=bs.length:=by rw[<-cg];simp
 have nd:ts.Nodup:=cg▸R.nd;have wC:ts.length<=13:=by lia
 have l4:=Bg ts eW Z';rw[show eW.length=26 by decide]at l4;obtain⟨ZB,e5,d,o6,hd,rfl⟩:=n8 (g:=ag [1] 6) (b:=dE 5 (aj aw 3 (ah 6)) (aj aw 4 (ah 6))) (λk U=>∃(d:List (aZ×D))(o6:Option S),Fd d (ts.take k) (λt=>sD (iR ts t))/\U=[pS (aG h w bs),pO pd,pS (.str eW),pO (tD ts),pO (tD (fT ts)),pO (.au d),o6,none,none,none,none,none,none,none,none]) (e9 0 ts.length) 0 _ ⟨[],none,Fd.nil,rfl⟩ λi x U hx⟨d,o6,hd,e⟩=>by
  subst e;obtain⟨hi,rfl⟩:=Ga hx;rw[Qs]at hd⊢;have x3:=Bb ts i hi;have x4:=Bb (fT ts) i (by unfold fT;lia);have e:ts.getD i 0=ts[i]:=#v[hi];have et:iR ts (ts.getD i 0)=(fT ts).getD i 0:=by rw[iR,e,nd.idxOf_getElem]
  have:=hd.put (ts.getD i 0);rw[et,e,List.take_append_getElem]at this;have hz:d.length<Wb:=by have:=hd.2;rw[de];simp at this;lia
  refine⟨_,_,rfl,?_,_,pS (.int i),this,rfl⟩;rw[<-e];generalize aG h w bs=ru,tD ts=A,tD (fT ts)=B at*;simp[dE,jl,aj,bB,ah,x3,x4,cb,hz]
 rw[Qs,Gb,JE]at hd;obtain⟨cs,bt,p8,p9,lQ,jG,cC,e7,q1,q2,q3⟩:=zc0 (ru:=aG h w bs) (A:=tD ts) (B:=tD (fT ts)) (T:=.au d) (o6:=o6) (ts:=ts) (tw:=iR ts) (al:=λn=>n∈ts\/∃u∈ts,n=iR ts u) (λn hn=>⟨hd.ix hn,.inl hn,.inr ⟨n,hn,rfl⟩⟩) hp (w:=w) Y' (h:=h) Y' Y' λb hb=>⟨cg▸WL hb,cg▸R.bR b hb⟩;rw[cg]at q1;have mN:cs.length=2*ts.length:=by have:=congrArg WV q1;simpa[List.length_flatMap,Nat.mul_comm,List.map_const',List.sum_replicate_nat]using this
 have hZ:(cs.map (·.1)).Nodup:=by
  rw[q1];refine List.pairwise_flatMap.mpr ⟨λt ht=>?_,nd.imp_of_mem λ{t u}ht hu cu x hx y hy=>?_⟩;.have:=Bi wC ht;simp;exactλe=>this (e▸ht)
  .simp at hx hy;rcases hx with rfl|rfl<;>rcases hy with rfl|rfl;.exact cu
   .exactλz=>Bi wC hu (z▸ht)
   .exactλz=>Bi wC ht (z▸hu)
   .exactλz=>cu (zgY wC ht hu z)
 obtain⟨bO,hperm,es⟩:=zfk cs hZ Y' Y';have mP:∀n,n∈bO.map (·.1)↔n∈ts\/∃u∈ts,n=iR ts u:=λn=>by rw[(hperm.map (·.1)).mem_iff,q1];simp only[List.mem_flatMap,Wf,WH,or_false];grind
 have A_:=hperm.length_eq;rw[cg];refine⟨bO,d,bt,iR ts,?_,⟨R.h0,R.h1,R.w0,R.w1,R.hw,Y',Y',(hperm.map (·.1)).nodup_iff.mpr hZ,λb hb=>?_⟩,q3,λt ht=>⟨hd.ix ht,(mP t).mpr (.inl ht),(mP _).mpr (.inr ⟨t,ht,rfl⟩)⟩,λt ht=>(mP t).mp ht⟩
 .have Lg:=cS (j:=13) (np:=[1]) (it:=aK (aj aw 0 (aq (eD (.int 2))))) (el:=aj aw 13 (aq (eD (.int 0)))) aL (λb=>sD b.1) (TD:=[pS (aG h w bs),pO pd,pS (.str eW),none,none,none,none,none,none,none,none,none,none,none,none]) (as:=bs) rfl Y' λ_ _=>rfl;rw[show(bs.map λb=>sD b.1)=ts.map sD by rw[<-cg,Wq];rfl]at Lg;have t14:=K5 (cs:=[14]) (it:=aK (aa 2)) (g:=ag [1] 14) (t:=aC (aA (dQ true) (aa 14) (ah 3))) (el:=aa 14) sD sD (λn=>!ts.contains n) (U:=[pS (aG h w bs),pO pd,pS (.str eW),pO (tD ts),none,none,none,none,none,none,none,none,none,none,none]) (as:=eW) rfl Z' λn _=>⟨_,[pS (aG h w bs),pO pd,pS (.str eW),pO (tD ts),none,none,none,none,none,none,none,none,none,none,pS (sD n)],.pure (sD n),_,rfl,by have:dQ true (sD n) (tD ts)=pS (.bl !ts.contains n):=qac ts n;generalize aG h w bs=ru,D.str eW=lt,tD ts=A at*;simp[aC,aa,ah,bx,this],rfl,rfl,rfl,rfl⟩;have ir:cG (az aX (ah 3)) [pS (aG h w bs),pO pd,pS (.str eW),pO (tD ts),pO (tD (fT ts)),pO (.au []),none,none,none,none,none,none,none,none,none]=.ok (e9 0 ts.length) [pS (aG h w bs),pO pd,pS (.str eW),pO (tD ts),pO (tD (fT ts)),pO (.au []),none,none,none,none,none,none,none,none,none]:=by have:=K8 ts;generalize aG h w bs=ru,D.str eW=lt,tD ts=A,tD (fT ts)=B at*;simp[ah,this,vB ts.length (by lia:ts.length<=1000000)]
  unfold pW ID;refine gR (ZW:=(sd (aG h w bs) bt (tD ts) (tD (fT ts)) (.au d) o6 (cs.map aL) p8 p9 lQ jG cC).set 5 (pS (.au d))) (aR (aR (aR (aR (aR (aR (aR ?_ ((c7 (it:=aK (aj aw 0 (aq (eD (.int 2))))) rfl).trans e7)) rfl) ((c7 ir).trans e5)) rfl) (oE t14 rfl)) (oE Lg rfl)) rfl) rfl rfl;obtain⟨x0,x1,_⟩:=wz h w bs;generalize cs.map aL=CS,hB:bO.map aL=BS,aG h w bs=ru,tD ts=A,tD (fT ts)=B,D.str eW=L at*;simp[aj,bB,ah,aa,x0,x1,es,cm,S.d,hB]
 .have:=q2 b (hperm.mem_iff.mp hb);exact⟨this.1,λr hr=>⟨(this.2 r hr).1,λn hn=>(mP n).mpr ((this.2 r hr).2 n hn)⟩⟩
abbrev sp(pd mx ru:D)(o3 o4 o5 o6 o7 o8 o9:Option S):Dl:=[pO pd,pS mx,pS ru,o3,o4,o5,o6,o7,o8,o9,none]
abbrev Bj:DE:=bJ [10] (aK (aj aw 2 (aq (eD (.int 2))))) (ag [0] 10) bP (aj aw 10 (aq (eD (.int 0))))
theorem Lh(hn:bs.length<=52)(pd mx:D)(o3 o4 o5 o6 o7 o8 o9:Option S):Bj (sp pd mx (aG h w bs) o3 o4 o5 o6 o7 o8 o9)=.ok (.own (tD (bs.map (·.1)))) (sp pd mx (aG h w bs) o3 o4 o5 o6 o7 o8 o9):=by have t:=cS (j:=10) (np:=[0]) (it:=aK (aj aw 2 (aq (eD (.int 2))))) (el:=aj aw 10 (aq (eD (.int 0)))) aL (λb=>sD b.1) (TD:=sp pd mx (aG h w bs) o3 o4 o5 o6 o7 o8 o9) (as:=bs) rfl Y' λ_ _=>rfl;rwa[show(bs.map λb=>sD b.1)=(bs.map (·.1)).map sD by rw[Wq];rfl]at t
theorem ziN(ts:List Nat)(n:Nat)(h:n∈ts)(hl:ts.length<=1000):n4 (tD ts) (.str [n])=pS (.int ((ts.map λn=>([n]:Tx)).idxOf [n]:Nat)):=by
 have e:(ts.map λn=>D.str [n])=(ts.map λn=>[n]).map D.str:=by simp
 unfold n4 tD;simp only[e,pL];rw[if_pos ⟨WL (f:=λn=>([n]:Tx)) h,~~~hl⟩]
theorem signs(hn:ts.length<=100){k:Nat}(hk:k<3)(hp:bS pd):∃(d:List (aZ×D))(bt:D)(o6:Option S),forL (ag [0] 6) (dE 4 (aa 6) (aA aw (eD (.str [120,121,122])) (aq (aF bZ [.io 0,.val (aa 5)])))) (ts.map sD) (sp pd mx ru (pS (tD ts)) (pO (.au [])) (pS (.int (1+(k:Int)))) none none none none)=.ok .next (sp bt mx ru (pS (tD ts)) (pO (.au d)) (pS (.int (1+(k:Int)))) o6 none none none)/\Cv d ts/\bS bt:=by
 obtain⟨ZB,e,d,l,bt,o6,h1,h2,h3,rfl⟩:=forA sD (g:=ag [0] 6) (b:=dE 4 (aa 6) (aA aw (eD (.str [120,121,122])) (aq (aF bZ [.io 0,.val (aa 5)])))) (λrs U=>∃(d:List (aZ×D))(l:List Nat)(pd:D)(o6:Option S),l++rs=ts/\Cv d l/\bS pd/\U=sp pd mx ru (pS (tD ts)) (pO (.au d)) (pS (.int (1+(k:Int)))) o6 none none none) λt rs U hh=>by
  obtain⟨d,l,pd,o6,h1,h2,h3,e⟩:=hh
  subst e;obtain⟨r,d',e,lt,p⟩:=eV h3 (1+k) (1+(k:Int)) Y' Y' Y';obtain⟨v,hv⟩:∃v,aw (.str [120,121,122]) (.int r)=pS (sD v):=by rcases show r=0\/r=1\/r=2 by lia with rfl|rfl|rfl<;>exact⟨_,rfl⟩
  have hz:d.length<Wb:=by have:=h2.2;have:=congrArg WV h1;rw[de];simp at this;lia
  refine⟨_,rfl,λy hy=>⟨sp d' mx ru (pS (tD ts)) (pO (.au (putD d (.inr [t]) (sD v)))) (pS (.int (1+(k:Int)))) (pS (sD t)) none none none,hy.symm.trans ?_,_,l++[t],d',_,~~~h1,h2.put t v,p,rfl⟩⟩;generalize tD ts=A,D.int (1+(k:Int))=K at*;simp[dE,jl,aa,aF,bW,dC,dP,cV,cH,e,bH,hv,cb,hz,S.d] ts (sp pd mx ru (pS (tD ts)) (pO (.au [])) (pS (.int (1+(k:Int)))) none none none none) ⟨[],[],pd,none,rfl,⟨nofun,U'⟩,hp,rfl⟩;rw[Qc]at h1;exact⟨d,bt,o6,e,h1▸h2,h3⟩
theorem zhl(hn:ts.length<=100){T:D}(ht:∀t∈ts,aN T (sD t)=pS (sD (tw t))){d:List (aZ×D)}(hd:Cv d ts):∃(c:List (aZ×D))(p6:Option S)(l:List Nat),forL (ag [0] 6) (dE 4 (aj aN 9 (ah 6)) (aj aN 4 (ah 6))) (ts.map sD) (sp pd mx ru (pS (tD ts)) (pO (.au d)) o5 o6 o7 o8 (pS T))=.ok .next (sp pd mx ru (pS (tD ts)) (pO (.au c)) o5 p6 o7 o8 (pS T))/\Cv c l/\ts ⊆ l/\∀t∈ts,tw t∈l:=by
 obtain⟨ZB,e,c,l,p6,h1,h2,h3,-,-,rfl⟩:=forA sD (g:=ag [0] 6) (b:=dE 4 (aj aN 9 (ah 6)) (aj aN 4 (ah 6))) (λrs U=>∃(c:List (aZ×D))(l:List Nat)(p6:Option S),Cv c l/\ts ⊆ l/\(∀t∈ts,tw t∈l\/t∈rs)/\rs ⊆ ts/\l.length+rs.length<=200/\U=sp pd mx ru (pS (tD ts)) (pO (.au c)) o5 p6 o7 o8 (pS T)) λt rs U hh=>by
  obtain⟨c,l,p6,h1,h2,h3,h4,h5,e⟩:=hh
  subst e;have hx:=ht t (h4 (.head _));have hv:=h1.ix (h2 (h4 (.head _)));generalize qk c t=n at*;have hz:c.length<Wb:=by have:=h1.2;rw[de];lia
  refine⟨_,rfl,λy hy=>⟨sp pd mx ru (pS (tD ts)) (pO (.au (putD c (.inr [tw t]) (sD n)))) o5 (pS (sD t)) o7 o8 (pS T),hy.symm.trans ?_,_,l++[tw t],_,h1.put (tw t) n,λ_ h=>Jv _ (h2 h),λu hu=>?_,λ_ h=>h4 (.tail _ h),by simp at h5⊢;lia,rfl⟩⟩;.generalize tD ts=A at*;simp[dE,jl,aj,bB,ah,hx,hv,cb,hz,S.d]
  .have:=h3 u hu;simp at this⊢;grind ts (sp pd mx ru (pS (tD ts)) (pO (.au d)) o5 o6 o7 o8 (pS T)) ⟨d,ts,o6,hd,λ_ h=>h,λt ht=>.inr ht,λ_ h=>h,Y',rfl⟩;exact⟨c,p6,l,e,h1,h2,λt ht=>(h3 t ht).resolve_right nofun⟩
abbrev Bk:DS:=bG (aC (aA df (aF bZ [.io 0,.val (eD (.int 2))]) (aq (eD (.int 0))))) (ar (ax (aF pW [.val (aa 2),.io 0]) (cj 2 (a7 (ag [0] 2) (a7 (ag [0] 9) cw)))) (ar (bE (aK (aa 3)) (ag [0] 6) (dE 4 (aj aN 9 (ah 6)) (aj aN 4 (ah 6)))) (ar (ax (aA aw (bQ (ao (aa 8) (ao (aj aN 9 (ah 8)) aD))) (aq (aF bZ [.io 0,.val (eD (.int 2))]))) (ag [0] 8)) (ax (aF ox [.val (aa 2),.val (rO Bj (aa 8))]) (ag [0] 2))))) bL
theorem mid{h w:Nat}{bs:List (Nat×List Tx)}(R:ck h w bs)(hn:bs.length<=5)(hp:bS pd){d:List (aZ×D)}(cg:bs.map (·.1)=ts)(hd:Cv d ts){st:Nat}(bV:st∈ts):∃(bO:List (Nat×List Tx))(c:List (aZ×D))(l:List Nat)(bt:D)(cq:Nat)(p6 p9:Option S),Bk (sp pd mx (aG h w bs) (pS (tD ts)) (pO (.au d)) o5 o6 o7 (pS (sD st)) none)=.ok .next (sp bt mx (aG h w bO) (pS (tD ts)) (pO (.au c)) o5 p6 o7 (pS (sD cq)) p9)/\ck h w bO/\Cv c l/\bO.map (·.1)⊆ l/\bS bt/\cq∈bO.map (·.1):=by
 obtain⟨r,d1,e1,l1,p1⟩:=eV hp 2 2 rfl Z' Z';rcases show r=1\/r=0 by lia with rfl|rfl;.refine⟨bs,d,ts,d1,st,o6,none,?_,R,hd,λ_ h=>cg▸h,p1,cg▸bV⟩;have q:df (.int 1) (.int 0)=pS (.bl false):=rfl;generalize aG h w bs=ru,tD ts=A,D.au d=T at*;simp[aC,aF,bW,dC,dP,cV,cH,e1,bH,q,S.d]
 .obtain⟨bO,t,d2,tw,e2,R',p2,h1,h2⟩:=zaP R hn p1;rw[cg]at h1 h2;obtain⟨c,p6,l,e3,c1,c2,c3⟩:=zhl (ru:=aG h w bO) (mx:=mx) (pd:=d2) (o5:=o5) (o6:=o6) (o7:=o7) (o8:=pS (sD st)) (by have:=congrArg WV cg;simp at this;lia) (λt ht=>(h1 t ht).1) hd;obtain⟨r,d3,e4,l4,p3⟩:=eV p2 2 2 rfl Z' Z';obtain⟨g1,s1,s2⟩:=h1 st bV;obtain⟨cq,x4,hs⟩:∃m,aw (.lst [sD st,sD (tw st)]) (.int r)=pS (sD m)/\m∈bO.map (·.1):=by
   rcases show r=0\/r=1 by lia with rfl|rfl;.exact⟨_,rfl,s1⟩
   .exact⟨_,rfl,s2⟩
  have n1:=R'.n1;have ei:=ziN (bO.map (·.1)) cq hs V';have hi:=WU (WL (f:=λn=>([n]:Tx)) hs);simp only[Ws]at hi;have e5:=K_ R' hi;have f2:=Bc bO (((bO.map (·.1)).map λn=>([n]:Tx)).idxOf [cq]);have R2:=K9 R' (((bO.map (·.1)).map λn=>([n]:Tx)).idxOf [cq]);have wD:=Lh (h:=h) (w:=w) (bs:=bO) Y' d3 mx (pS (tD ts)) (pO (.au c)) o5 p6 o7 (pS (sD cq)) (pS (.au t));have q:df (.int 0) (.int 0)=pS (.bl true):=rfl;have it:aK (aa 3) (sp d2 mx (aG h w bO) (pS (tD ts)) (pO (.au d)) o5 o6 o7 (pS (sD st)) (pS (.au t)))=.ok (ts.map sD) (sp d2 mx (aG h w bO) (pS (tD ts)) (pO (.au d)) o5 o6 o7 (pS (sD st)) (pS (.au t))):=rfl;have hL:FZ (tD (bO.map (·.1)))=true:=rfl;generalize((bO.map (·.1)).map λn=>([n]:Tx)).idxOf [cq]=ix at*;refine⟨jE bO ix,c,l,d3,cq,p6,pS (.au t),?_,R2,c1,λu hu=>?_,p3,f2▸hs⟩
  .unfold Bk;generalize aG h w (jE bO ix)=rn,aG h w bO=ru',aG h w bs=ru,tD (bO.map (·.1))=B,tD ts=A,D.au d=X,D.au t=T,D.au c=C,Bj=Y,D.int (ix:Nat)=I at*;have e6:aC (aA df (aF bZ [.io 0,.val (eD (.int 2))]) (aq (eD (.int 0)))) (sp pd mx ru (pS A) (pO X) o5 o6 o7 (pS (sD st)) none)=.ok true (sp d1 mx ru (pS A) (pO X) o5 o6 o7 (pS (sD st)) none):=by simp[aC,aF,bW,dC,dP,cV,cH,e1,bH,q,S.d]
   rw[F8,e6];simp only[jn,if_true];refine aR ?_ cN;refine aR ?_ ((c7 it).trans e3);refine aR ?_ cN;simp[ax,aF,bW,dC,dP,cV,aa,cH,bH,rO,wD,hL,ei,e5,S.d]
  .rcases h2 u (f2▸hu)with h|⟨v,hv,rfl⟩;.exact c2 h
   .exact c3 v hv
theorem Li(hp:bS pd)(m:Nat)(m0:0<m)(m1:m<=5):∃(h w:Nat)(bs:List (Nat×List Tx))(st:Nat)(ps:List (Nat×Nat))(bt:D),mR [.own pd,.pure (.int m)]=some (.pure (.tup [aG h w bs,.str [st],dg ps]),[.own bt,.pure (.int m)])/\ck h w bs/\ps.map (·.1)=bs.map (·.1)/\bS bt/\st∈bs.map (·.1):=by
 obtain⟨h,w,bs,d1,e1,R0,hn,p1⟩:=zaM hp m m0 Y';have R:=lP R0;have n0:=R.n0;obtain⟨k,d2,e2,l2,p2⟩:=eV p1 3 3 rfl Z' Z';obtain⟨ts,cg⟩:∃ts,bs.map (·.1)=ts:=⟨_,rfl⟩;have htl:ts.length=bs.length:=by rw[<-cg];simp
 obtain⟨d,d3,o6,e3,hd,p3⟩:=signs (ru:=aG h w bs) (mx:=.int m) (ts:=ts) Y' l2 p2;obtain⟨s,d4,e4,l4,p4⟩:=eV p3 ts.length ts.length rfl Y' Y';have e5:=K_ R (k:=s) Y';have f2:=Bc bs s;have x3:=Bb ts s l4;have len:=K8 ts;have wD:=Lh (h:=h) (w:=w) (bs:=bs) Y' d1 (.int m) none none none none none none none;rw[cg]at wD f2;obtain⟨bO,c,l,d5,st,p6,p9,e6,R',c1,c2,p5,bV⟩:=mid (K9 R s) (by have:=congrArg WV f2;simp at this;lia) p4 f2 hd (st:=ts.getD s 0) #v[l4] (mx:=.int m) (o5:=pS (.int (1+(k:Int)))) (o6:=o6) (o7:=pS (.int s));refine⟨h,w,bO,st,bO.map λb=>(b.1,qk c b.1),d5,?_,R',U',p5,bV⟩;have er:=cS (j:=10) (np:=[0]) (it:=aK (aj aw 2 (aq (eD (.int 2))))) (el:=aQ (ao (aj aw 10 (aq (eD (.int 0)))) (ao (aj aN 4 (aq (aj aw 10 (aq (eD (.int 0)))))) aD))) aL (λb=>.tup [sD b.1,sD (qk c b.1)]) (TD:=sp d5 (.int m) (aG h w bO) (pS (tD ts)) (pO (.au c)) (pS (.int (1+(k:Int)))) p6 (pS (.int s)) (pS (sD st)) p9) (as:=bO) rfl (by have:=R'.n1;lia) λb hb=>by have:=c1.ix (c2 (WL hb));have x0:aw (aL b) (.int 0)=pS (sD b.1):=rfl;generalize aG h w bO=ru,aL b=bb,tD ts=A at*;simp[aj,bB,ah,bx,x0,this,S.d]
 have it:aK (aa 3) (sp d2 (.int m) (aG h w bs) (pO (tD ts)) (pO (.au [])) (pS (.int (1+(k:Int)))) none none none none)=.ok (ts.map sD) (sp d2 (.int m) (aG h w bs) (pS (tD ts)) (pO (.au [])) (pS (.int (1+(k:Int)))) none none none none):=rfl;unfold mR IE;have e7:(bh (aQ (ao (aa 2) (ao (aa 8) (ao (az cm (aq (bJ [10] (aK (aj aw 2 (aq (eD (.int 2))))) (ag [0] 10) bP (aQ (ao (aj aw 10 (aq (eD (.int 0)))) (ao (aj aN 4 (aq (aj aw 10 (aq (eD (.int 0)))))) aD)))))) aD))))) (sp d5 (.int m) (aG h w bO) (pS (tD ts)) (pO (.au c)) (pS (.int (1+(k:Int)))) p6 (pS (.int s)) (pS (sD st)) p9)=.ok (.ret (.pure (.tup [aG h w bO,.str [st],dg (bO.map λb=>(b.1,qk c b.1))]))) (sp d5 (.int m) (aG h w bO) (pS (tD ts)) (pO (.au c)) (pS (.int (1+(k:Int)))) p6 (pS (.int s)) (pS (sD st)) p9):=by rw[dg,Wq];have:=lO er (Af _);revert this;generalize az cm _=E;intro this;generalize aG h w bO=ru,tD ts=A at*;simp[aa,this,S.d]
 unfold Bk at e6;generalize aG h w bs=ru,aG h w (jE bs s)=rn,tD ts=A,ts.map sD=TS,(ts.length:Int)=N,ts.getD s 0=s0 at*;clear er;refine gR (ZW:=sp d5 (.int m) (aG h w bO) (pS A) (pO (.au c)) (pS (.int (1+(k:Int)))) p6 (pS (.int s)) (pS (sD st)) p9) ?_ rfl rfl;refine aR ?_ cN;refine aR (aR ?_ rfl) (oE wD rfl);refine aR ?_ cN;refine aR ?_ ((c7 it).trans e3);refine aR ?_ cN;refine aR ?_ cN;refine aR ?_ cN;exact aR e7 e6
def bR(bs:List (Nat×List Tx))(n:Nat):List Tx:=((bs.find? λb=>decide (b.1=n)).map (·.2)).getD []
theorem lR(h:n∈bs.map (·.1)):∃b∈bs,b.1=n/\(bs.find? λb=>decide (b.1=n))=some b/\bR bs n=b.2:=by cases e:bs.find? λb=>decide (b.1=n)with|none=>obtain⟨b,hb,rfl⟩:=Wu.mp h;have:=Ug.mp e b hb;simp at this|some b=>have h1:=List.mem_of_find?_eq_some e;have h2:=U8 e;refine⟨b,h1,~~~h2,rfl,?_⟩;unfold bR;rw[e];rfl
theorem Lj(xs:List Tx)(m:Nat)(h:∀x∈xs,x.length<=m):ie xs<=xs.length*m:=by induction xs with|nil=>simp[ie]|cons x r ih=>have h1:=h x Wx;have h2:=ih λy hy=>h y (Wn _ hy);have e:ie (x::r)=x.length+ie r:=#v[ie];rw[e,WP,Nat.succ_mul];lia
theorem gi(e:b (bY n [.pure x])=.ok (.ret v) ZW):bI [] n b [.pure x]=some (v,[.pure x]):=by rw[oF,e];rfl
theorem j4(e:b (bY n [.pure x,.pure y])=.ok (.ret v) ZW):bI [] n b [.pure x,.pure y]=some (v,[.pure x,.pure y]):=by rw[oF,e];rfl
theorem Bl(xs:List Tx)(h:ie xs<=16777216):cO [] (bN xs)=pS (.str xs.flatten):=by unfold cO;simp only[pL,vA];rw[if_pos (~~~h)]
theorem Bm(h1:t U=.ok true ZW)(h2:b ZW=.ok .next XV):dY t b (n+1) U=dY t b n XV:=by simp only[dY,h1,jn,if_true,h2]
theorem Ll(h1:t U=.ok false ZW):dY t b (n+1) U=.ok .next ZW:=by simp[dY,h1]
def fS(s:Nat):D:=.str [s]
def fI(k:Nat):D:=.int (k:Nat)
abbrev LK:=Nat×List Nat
def fU(f:Nat->D)(k:LK):D:=.tup [f k.1,.tup (k.2.map f)]
def c8(f:Nat->D):Nat->List LK->List (D×D)|_,[]=>[]|n,k::r=>(fU f k,.int (n:Nat))::c8 f (n+1) r
section
variable{f:Nat->D}
theorem Lm(hf:f=fS\/f=fI)(a b:Nat):bw (f a) (f b)=decide (a=b):=by
 rcases hf with rfl|rfl;.unfold fS;simp only[bw];by_cases h:a=b<;>simp[h]
 .unfold fI;simp only[bw];by_cases h:a=b;.simp[h]
  .have:¬(a:Int)=(b:Int):=by lia
   simp[h,this]
theorem Ln(hf:f=fS\/f=fI):∀a b:List Nat,cU (a.map f) (b.map f)=decide (a=b)|[],[]=>rfl|[],_::_=>rfl|_::_,[]=>rfl|x::a,y::b=>by rw[Wi,Wi];simp only[cU,Lm hf x y,Ln hf a b];all_goals grind
theorem Lo(hf:f=fS\/f=fI)(a b:LK):bw (fU f a) (fU f b)=decide (a=b):=by obtain⟨a1,a2⟩:=a;obtain⟨b1,b2⟩:=b;unfold fU;simp only[bw,cU,Lm hf,Ln hf];all_goals grind
theorem Lp(hf:f=fS\/f=fI)(n:Nat)(a:Nat):(cF (n+1) (f a)).isSome=true:=by rcases hf with rfl|rfl<;>rfl
theorem Lq(hf:f=fS\/f=fI)(n:Nat):∀l:List Nat,(gM (n+1) (l.map f)).isSome=true|[]=>rfl|a::l=>by have h1:=Lp hf n a;have h2:=Lq hf n l;grind[Option.isSome_iff_exists,gM]
theorem zdn(hf:f=fS\/f=fI)(k:LK):(cF 6 (fU f k)).isSome=true:=by obtain⟨x,hx⟩:=J1.mp (Lp hf 4 k.1);obtain⟨y,hy⟩:=J1.mp (Lq hf 3 k.2);unfold fU;simp[cF,gM,hx,hy]
theorem zbk(k:LK):hV true (fU f k)=true:=rfl
theorem Lr:∀(L:List LK)(n:Nat),((c8 f n L).all λq=>hV true q.1)=true|[],_=>rfl|k::r,n=>by unfold c8;rw[JL,Lr r];rfl
theorem zbl(hf:f=fS\/f=fI)(k:LK)(L:List LK)(n:Nat):gU (hW (fU f k)) (c8 f n L) (fU f k)=true:=by have h1:hW (fU f k)=true:=rfl;unfold gU;rw[h1,zbk k,zdn hf k,Lr L n];rfl
theorem Ls(hf:f=fS\/f=fI)(k:LK):∀(L:List LK)(n:Nat),f_ (c8 f n L) (fU f k)=if k∈L then some (.int ((n+L.idxOf k:Nat):Int))else none
 |[],_=>rfl|a::r,n=>by
  have ih:=Ls hf k r (n+1);unfold f_ at ih⊢;unfold c8;rw[Q7];simp only[Lo hf];by_cases h:a=k;.subst h;simp
  .rw[decide_eq_false h];rw[ih,List.idxOf_cons];have hb:(a==k)=false:= ~~~h;rw[hb];by_cases h2:k∈r;.rw[if_pos h2,if_pos (Wn _ h2)];simp;lia
   .rw[if_neg h2,if_neg λz=>(Wf.mp z).elim (λe=>h e.symm) h2]
theorem Bn:∀(L:List LK)(n:Nat),(c8 f n L).length=L.length|[],_=>rfl|_::r,n=>by unfold c8;rw[WP,Bn r,WP]
theorem Lu(k:LK):∀(L:List LK)(n:Nat),c8 f n (L++[k])=c8 f n L++[(fU f k,.int ((n+L.length:Nat):Int))]|[],n=>#v[c8]|a::r,n=>by rw[Jf];unfold c8;rw[Lu k r (n+1),Jf,WP,show n+1+r.length=n+(r.length+1)by lia]
theorem Lv(hf:f=fS\/f=fI)(k:LK):∀(L:List LK)(n:Nat),((c8 f n L).any λq=>bw q.1 (fU f k))=decide (k∈L)|[],_=>rfl|a::r,n=>by unfold c8;rw[Qj,Lv hf k r];simp only[Lo hf];grind
theorem zdm(hf:f=fS\/f=fI)(k:LK)(L:List LK)(h:k∉L):ju (c8 f 0 L) (fU f k) (.int (L.length:Nat))=c8 f 0 (L++[k]):=by unfold ju;rw[Lv hf k L 0,decide_eq_false h,if_neg U',Lu];simp
end
def FD(n:Nat->Nat)(l:List Nat):List (D×D):=l.map λt=>(.str [t],.int ((n t:Nat):Int))
theorem Lw(n:Nat->Nat)(l:List Nat)(t:Nat):gU (hW (.str [t])) (FD n l) (.str [t])=true:=by unfold gU hW FD;simp[hV,cF]
theorem Lx(n:Nat->Nat)(t:Nat):∀l:List Nat,f_ (FD n l) (.str [t])=if t∈l then some (.int ((n t:Nat):Int))else none
 |[]=>rfl|a::r=>by
  have ih:=Lx n t r;unfold f_ FD at ih⊢;rw[Wi,Q7];have e:bw (D.str [a]) (D.str [t])=decide (a=t):=by simp only[bw];by_cases h:a=t<;>simp[h]
  grind
theorem Ly(n:Nat->Nat)(l:List Nat)(t:Nat)(h:t∉l):ju (FD n l) (.str [t]) (.int ((n t:Nat):Int))=FD n (l++[t]):=by
 unfold ju;have:((FD n l).any λq=>bw q.1 (D.str [t]))=false:=by rw[JQ];intro q hq;unfold FD at hq;obtain⟨a,ha,rfl⟩:=Wu.mp hq;simp only[bw];have:a≠t:=λe=>h (by rw[<-e];exact ha);simp[this]
 rw[this,if_neg U'];unfold FD;simp
abbrev gW(ru pa nd mn:D)(lo fi:List (D×D))(o6 o7 o8:Option S):Dl:=[pS ru,pS pa,pO nd,pS mn,pO (.dic lo),pO (.dic fi),o6,o7,o8,none]
abbrev gC:DE:=bJ [9] (aK (az (cO []) (ah 7))) (ag [] 9) bP (aj jx 2 (ah 9))
abbrev gK:DE:=aQ (ao (aj jx 2 (ah 6)) (ao (az cm (aq gC)) aD))
abbrev gS:DS:=jv 5 (aa 6) (n_ 4 (aa 8) (az iq (ah 4)))
theorem zgZ(ru pa nd mn B:D)(x:List Nat)(t:Nat)(f:Nat->D)(hf:f=fS\/f=fI)(v n:Nat->Nat)(L:List LK)(l:List Nat)(o8:Option S)(hj:cO [] B=pS (.str x))(hx:x.length<=1000)(hL:L.length<=1000)(hl:l.length<=1000)(hn:∀p∈x,jx nd (.str [p])=pS (f (v p)))(ht:jx nd (.str [t])=pS (f (v t)))(ot:t∉l)(tJ:n t=(if(v t,x.map v)∈L then L else L++[(v t,x.map v)]).idxOf (v t,x.map v)):(ar (ax gK (ag [] 8)) gS) (gW ru pa nd mn (c8 f 0 L) (FD n l) (pS (.str [t])) (pS B) o8)=.ok .next (gW ru pa nd mn (c8 f 0 (if(v t,x.map v)∈L then L else L++[(v t,x.map v)])) (FD n (l++[t])) (pS (.str [t])) (pS B) (pS (fU f (v t,x.map v)))):=by
 have c:=cS (j:=9) (np:=[]) (it:=aK (az (cO []) (ah 7))) (el:=aj jx 2 (ah 9)) sD (λp=>f (v p)) (TD:=gW ru pa nd mn (c8 f 0 L) (FD n l) (pS (sD t)) (pS B) o8) (U:=gW ru pa nd mn (c8 f 0 L) (FD n l) (pS (sD t)) (pS B) o8) (as:=x) #v[ZQ,ah,hj,S.d] hx λp hp=>by have q:=hn p hp;simp[aj,bB,ah,bx,q,S.d]
 rw[show(x.map λp=>f (v p))=(x.map v).map f by rw[Wq];rfl]at c;have c:=lO c (Af _);have k1:ax gK (ag [] 8) (gW ru pa nd mn (c8 f 0 L) (FD n l) (pS (sD t)) (pS B) o8)=.ok .next (gW ru pa nd mn (c8 f 0 L) (FD n l) (pS (sD t)) (pS B) (pS (fU f (v t,x.map v)))):=by rw[show fU f (v t,x.map v)=.tup [f (v t),.tup ((x.map v).map f)]from rfl];unfold gK gC;revert c;generalize az cm _=E,(x.map v).map f=Y,c8 f 0 L=LL,FD n l=FF,f (v t)=ft at*;intro c;simp[ax,aj,bB,ah,ht,S.d,c]
 rw[fj k1];have g1:=zbl hf (v t,x.map v) L 0;have v1:=Ls hf (v t,x.map v) L 0;have Bo:(c8 f 0 L).length=L.length:=Bn L 0;have g2:=Lw n l t;have z1:(c8 f 0 L).length<Wb:=by rw[Bo,de];lia
 have z2:(FD n l).length<Wb:=by unfold FD;rw[Ws,de];lia
 by_cases h:(v t,x.map v)∈L;.rw[if_pos h]at v1 tJ⊢;rw[Qs,<-tJ]at v1;have p2:=Ly n l t ot;rw[<-p2];generalize fU f (v t,x.map v)=key,c8 f 0 L=LL,FD n l=FF at*;simp[gS,jv,n_,mJ,aa,ah,iq,S.d,g1,z1,v1,g2,z2]
 .rw[if_neg h]at v1 tJ⊢;have jT:n t=L.length:=by rw[tJ,List.idxOf_append,if_neg h];simp
  have p1:=zdm hf (v t,x.map v) L h;have p2:=Ly n l t ot;have qad:iq (.dic (c8 f 0 L))=pS (.int (L.length:Nat)):=by show some (S.pure (.int ((c8 f 0 L).length:Nat)))=_;rw[Bo]
  rw[<-p2,<-p1,jT];clear p1 p2 jT tJ Bo hn ht c;generalize fU f (v t,x.map v)=key,c8 f 0 L=LL,FD n l=FF,D.int (L.length:Nat)=LN at*;simp[gS,jv,n_,mJ,aa,ah,qad,S.d,g1,z1,v1,g2,z2]
def aE(bs:List (Nat×List Tx))(t:Nat):List Nat:=(bR bs t).flatten
theorem Bp(nd:(bs.map (·.1)).Nodup)(hb:b∈bs):bR bs b.1=b.2:=by obtain⟨b',lz,e1,_,e2⟩:=lR (WL (f:=(·.1)) hb);obtain⟨i,hi⟩:=Qb.mp hb;obtain⟨j,hj⟩:=Qb.mp lz;have:i=j:=(Up (l:=bs.map (·.1)) (by simpa using(W9.mp hi).1) nd).mp (by grind);grind
theorem Lz(C:Nat):∀l:List Tx,(∀r∈l,r.length=C)->l.flatten.length=l.length*C|[],_=>by simp|r::l,h=>by rw[List.flatten_cons,QS,Lz C l λx hx=>h x (Wn _ hx),h r Wx,WP,Nat.succ_mul];lia
theorem jH(R:ck h w bs)(ht:t∈bs.map (·.1)):(aE bs t).length=h*w/\h*w<=16/\∀p∈aE bs t,p∈bs.map (·.1):=by obtain⟨b,hb,rfl⟩:=Wu.mp ht;unfold aE;rw[Bp R.nd hb];have hB:=R.bR b hb;refine⟨by rw[Lz w b.2 λr hr=>(hB.2 r hr).1,hB.1],Nat.mul_le_mul R.h1 R.w1,λp hp=>?_⟩;obtain⟨r,hr,hpr⟩:=List.mem_flatten.mp hp;exact(hB.2 r hr).2 p hpr
theorem Bq(R:ck h w bs)(hb:b∈bs):cO [] (bN b.2)=pS (.str (aE bs b.1)):=by have hB:=R.bR b hb;unfold aE;rw[Bp R.nd hb];refine Bl _ ?_;have:=Lj b.2 w λx hx=>Nat.le_of_eq (hB.2 x hx).1;rw[hB.1]at this;have h2:h*w<=4*4:=Nat.mul_le_mul R.h1 R.w1;lia
abbrev gB:DS:=ar (ax gK (ag [] 8)) gS
abbrev gT:DG:=cj 2 (a7 (ag [] 6) (a7 (ag [] 7) cw))
theorem zgN{n}(h:∀t∈l,n t=n' t):FD n l=FD n' l:=WK λt ht=>by rw[h t ht]
theorem qae{h w:Nat}{bs:List (Nat×List Tx)}(R:ck h w bs){nd mn:D}{f:Nat->D}(hf:f=fS\/f=fI){v:Nat->Nat}(hn:∀p∈bs.map (·.1),jx nd (.str [p])=pS (f (v p))):∃L p6 p7 p8,Lk (bs.map (·.1)) (aE bs) v L/\L.length<=bs.length/\forL gT gB (bs.map aL) (gW ru pa nd mn [] [] o6 o7 o8)=.ok .next (gW ru pa nd mn (c8 f 0 L) (FD (λt=>L.idxOf (lk (aE bs) v t)) (bs.map (·.1))) p6 p7 p8):=by
 obtain⟨ZB,e,L,bl,p6,p7,p8,h1,h2,h3,rfl⟩:=forA aL (g:=gT) (b:=gB) (λbr U=>∃(L:List LK)(bl:List (Nat×List Tx))(p6 p7 p8:Option S),bl++br=bs/\Lk (bl.map (·.1)) (aE bs) v L/\L.length<=bl.length/\U=gW ru pa nd mn (c8 f 0 L) (FD (λt=>L.idxOf (lk (aE bs) v t)) (bl.map (·.1))) p6 p7 p8) (λb br U hh=>by
 obtain⟨L,bl,p6,p7,p8,h1,h2,h3,e⟩:=hh
 subst e;have hb:b∈bs:=by rw[<-h1];simp
 have ht:b.1∈bs.map (·.1):=WL hb;obtain⟨l1,l2,l3⟩:=jH R ht;have n1:=R.n1;have A_:=congrArg WV h1;simp at A_;have ot:b.1∉bl.map (·.1):=λz=>by have nd:=R.nd;rw[<-h1,WT,Wi]at nd;exact(List.nodup_append.mp nd).2.2 b.1 z b.1 (.head _) rfl
 obtain⟨K,hK⟩:∃K,K=if lk (aE bs) v b.1∈L then L else L++[lk (aE bs) v b.1]:=⟨_,rfl⟩;have st:=zgZ ru pa nd mn (bN b.2) (aE bs b.1) b.1 f hf v (λt=>K.idxOf (lk (aE bs) v t)) L (bl.map (·.1)) p8 (Bq R hb) Y' Y' V' (λp hp=>hn p (l3 p hp)) (hn b.1 ht) ot (by rw[hK];rfl);rw[show(if(v b.1,(aE bs b.1).map v)∈L then L else L++[(v b.1,(aE bs b.1).map v)])=K from hK.symm,zgN (n':=λt=>L.idxOf (lk (aE bs) v t)) λt ht=>by
 have hm:=(h2.2 _).mpr ⟨t,ht,rfl⟩;rw[hK];split;.rfl
 .exact zgn hm]at st;refine⟨_,rfl,λy hy=>⟨_,hy.symm.trans st,K,bl++[b],_,_,_,~~~h1,?_,?_,by rw[WT];rfl⟩⟩;.rw[hK,WT];exact h2.snoc b.1
 .rw[hK];split<;>simp<;>lia) bs (gW ru pa nd mn [] [] o6 o7 o8) ⟨[],[],o6,o7,o8,rfl,⟨List.nodup_nil,U'⟩,U',rfl⟩;rw[Qc]at h1;subst h1;exact⟨L,p6,p7,p8,h2,h3,e⟩
abbrev kZ(ru pa:D)(s2 s3 o4 o5 o6 o7 o8:Option S):Dl:=[pS ru,pS pa,s2,s3,o4,o5,o6,o7,o8,none]
abbrev wG:DS:=ar (ax jW (ag [] 4)) (ar (ax jW (ag [] 5)) (ar (bE (aK (aj aw 0 (aq (eD (.int 2))))) gT gB) (ar (bG (aC (aA df (az iq (ah 4)) (ah 3))) (lh [] 5) bL) (ar (ax (az iq (ah 4)) (ag [] 3)) (pM [] 2 5)))))
theorem za9(h1:t U=.ok true ZW)(h2:b ZW=.ok (.ret v) XV):dY t b (n+1) U=.ok (.ret v) XV:=by simp only[dY,h1,jn,if_true,h2]
theorem zj5(ru pa nd:D)(mn ln:Nat)(B:List D)(LL FF:List (D×D))(gb:DS)(o4 o5 o6 o7 o8 p6 p7 p8:Option S)(x2:aw ru (.int 2)=pS (.tup B))(hl:LL.length=ln)(e:forL gT gb B (gW ru pa nd (.int (mn:Nat)) [] [] o6 o7 o8)=.ok .next (gW ru pa nd (.int (mn:Nat)) LL FF p6 p7 p8)):(ar (ax jW (ag [] 4)) (ar (ax jW (ag [] 5)) (ar (bE (aK (aj aw 0 (aq (eD (.int 2))))) gT gb) (ar (bG (aC (aA df (az iq (ah 4)) (ah 3))) (lh [] 5) bL) (ar (ax (az iq (ah 4)) (ag [] 3)) (pM [] 2 5)))))) (kZ ru pa (pO nd) (pS (.int (mn:Nat))) o4 o5 o6 o7 o8)=if ln=mn then .ok (.ret (.own (.dic FF))) (kZ ru pa (pO nd) (pS (.int (mn:Nat))) (pO (.dic LL)) none p6 p7 p8)else .ok .next (kZ ru pa (pO (.dic FF)) (pS (.int (ln:Nat))) (pO (.dic LL)) none p6 p7 p8):=by
 rw[fj (ZW:=kZ ru pa (pO nd) (pS (.int (mn:Nat))) (pO (.dic [])) o5 o6 o7 o8) #v[ax,jW]];rw[fj (ZW:=gW ru pa nd (.int (mn:Nat)) [] [] o6 o7 o8) #v[ax,jW]];have i:aK (aj aw 0 (aq (eD (.int 2)))) (gW ru pa nd (.int (mn:Nat)) [] [] o6 o7 o8)=.ok B (gW ru pa nd (.int (mn:Nat)) [] [] o6 o7 o8):=by simp[ZQ,aj,bB,ah,x2]
 rw[fj ((c7 i).trans e)];have l2:iq (.dic LL)=pS (.int (ln:Nat)):=by show some (S.pure (.int (LL.length:Nat)))=_;rw[hl]
 have eq:df (.int (ln:Nat)) (.int (mn:Nat))=pS (.bl (decide (ln=mn))):=by
  show some (S.pure (.bl ((ln:Int)==(mn:Int))))=_;have:((ln:Int)==(mn:Int))=decide (ln=mn):=by rw[Qp];simp only[beq_iff_eq,decide_eq_true_eq];lia
  rw[this]
 generalize hA:D.int (ln:Nat)=A,hM:D.int (mn:Nat)=zj at*;by_cases h:ln=mn;.rw[decide_eq_true h]at eq;rw[if_pos h,wq (ZW:=kZ ru pa (pO nd) (pS zj) (pO (.dic LL)) none p6 p7 p8) (v:=.own (.dic FF)) #v[aC,ah,l2,eq,S.d,lh]]
 .rw[decide_eq_false h]at eq;rw[if_neg h,fj (ZW:=gW ru pa nd zj LL FF p6 p7 p8) #v[aC,ah,l2,eq,S.d]];simp[ax,ah,l2,S.d,pM]
theorem LA(R:ck h w bs)(pa:D)(sg:Nat->Nat):∀(fu m:Nat)(v:Nat->Nat)(nd:D)(f:Nat->D)(o4 o5 o6 o7 o8:Option S),f=fS\/f=fI->(∀p∈bs.map (·.1),jx nd (.str [p])=pS (f (v p)))->Vw (bs.map (·.1)) (aE bs) sg v->(∀j<m,∃t∈bs.map (·.1),v t=j)->bs.length+1<=m+fu->m<=bs.length->∃c ZB,Res (bs.map (·.1)) (aE bs) sg c/\dY (aC (eD (.bl true))) wG (fu+999000) (kZ (aG h w bs) pa (pO nd) (pS (.int (m:Nat))) o4 o5 o6 o7 o8)=.ok (.ret (.own (.dic (FD c (bs.map (·.1)))))) ([pS (aG h w bs),pS pa]++ZB)
 |0,m,v,nd,f,o4,o5,o6,o7,o8,hf,hn,hv,hc,hm,y6=>by lia|fu+1,m,v,nd,f,o4,o5,o6,o7,o8,hf,hn,hv,hc,hm,y6=>by
  obtain⟨L,p6,p7,p8,hL,hl,e⟩:=qae R (ru:=aG h w bs) (pa:=pa) (mn:=.int (m:Nat)) hf hn (o6:=o6) (o7:=o7) (o8:=o8);have st:=zj5 (aG h w bs) pa nd m L.length (bs.map aL) _ _ gB o4 o5 o6 o7 o8 p6 p7 p8 (wz h w bs).2.2 (Bn _ 0) e;have fQ:∀t∈bs.map (·.1),∀p∈aE bs t,p∈bs.map (·.1):=λt ht=>(jH R ht).2.2;rw[show fu+1+999000=fu+999000+1 by lia];by_cases hq:L.length=m;.rw[if_pos hq]at st;exact⟨_,_,zhG fQ hv hL hc hq,za9 (t:=aC (eD (.bl true))) rfl st⟩
  .rw[if_neg hq]at st;have:=tu List.nodup_range (hL.sub hc);rw[Uo,Ws]at this;obtain⟨c,ZB,rs,ih⟩:=LA R pa sg fu L.length _ (.dic (FD (λt=>L.idxOf (lk (aE bs) v t)) (bs.map (·.1)))) fI (pO (.dic (c8 f 0 L))) none p6 p7 p8 (.inr rfl) λp hp=>by have ea:∀X Y,jx (.dic X) Y=if gU (hW Y) X Y then(f_ X Y).map S.pure else none:=λX Y=>rfl;rw[ea,Lw,if_pos rfl,Lx,if_pos hp];rfl (Vw.next fQ hv hL) hL.wm Y' hl;exact⟨c,ZB,rs,(Bm (t:=aC (eD (.bl true))) rfl st).trans ih⟩
def dh(ps:List (Nat×Nat))(t:Nat):Nat:=((ps.find? λp=>decide (p.1=t)).map (·.2)).getD 0
def mX(ps:List (Nat×Nat)):D:=.au (ps.map λp=>((Sum.inr [p.1]:aZ),D.str [p.2]))
theorem LC:∀ps:List (Nat×Nat),gP (ps.map λp=>D.tup [.str [p.1],.str [p.2]])=some (ps.map λp=>((Sum.inr [p.1]:aZ),D.str [p.2]))|[]=>rfl|p::r=>by have:=LC r;simp only[Wi];simp[gP,cb,this]
theorem wF(nd:(ps.map (·.1)).Nodup)(hl:ps.length<=1000):dD (dg ps)=pO (mX ps):=by
 unfold dD;simp only[LC,Q3,Ws];rw[if_pos (by rw[de];lia),tH];.rfl
 .simp only[J3,Wq];rw[Q2,QM];rw[Q2,QM]at nd;exact nd.imp λ{a b}gw=>~~~gw
theorem wH(h:t∈ps.map (·.1)):aN (mX ps) (.str [t])=pS (.str [dh ps t]):=by
 have hv:cX (ps.map λp=>((Sum.inr [p.1]:aZ),D.str [p.2])) (.inr [t])=(ps.find? λp=>decide (p.1=t)).map λp=>D.str [p.2]:=by unfold cX;rw[Uk];simp[Function.comp_def]
 show((cb (.str [t])).bind λk=>(cX (ps.map λp=>((Sum.inr [p.1]:aZ),D.str [p.2])) k).map S.pure)=_;simp only[cb,Q3,hv];unfold dh;cases e:ps.find? λp=>decide (p.1=t)<;>grind
theorem ziT(e:b (bY n [.pure x,.pure y])=.ok (.ret v) ([pS x,pS y]++ZB)):bI [] n b [.pure x,.pure y]=some (v,[.pure x,.pure y]):=by rw[oF,e];rfl
theorem zfJ(R:ck h w bs)(hp:ps.map (·.1)=bs.map (·.1)):∃c,Res (bs.map (·.1)) (aE bs) (dh ps) c/\qh [.pure (aG h w bs),.pure (dg ps)]=some (.own (.dic (FD c (bs.map (·.1)))),[.pure (aG h w bs),.pure (dg ps)]):=by
 have n1:=R.n1;have hl:ps.length=bs.length:=by simpa using congrArg WV hp
 obtain⟨c,ZB,rs,e⟩:=LA R (dg ps) (dh ps) 1000 0 (dh ps) (mX ps) fS none none none none none (.inl rfl) (λp ym=>wH %[hp|ym]) ⟨λ_ _ _ _ h=>h,λN hN t ht u hu h=>(hN t ht u hu h).1⟩ nofun Y' Y';refine⟨c,rs,?_⟩;have hd:=wF (ps:=ps) %[hp|R.nd] Y';unfold qh I_;generalize dg ps=pa,mX ps=DP,aG h w bs=ru at*;exact ziT (aR (ZW:=kZ ru pa (pO DP) none none none none none none) (aR e rfl) #v[bY,ax,ah,hd,S.d])
theorem LD(c:Nat->Nat):∀ts:List Nat,oi (FD c ts)=some (ts.map λt=>(([t]:Tx),((c t:Nat):Int)))|[]=>rfl|t::r=>by have:=LD c r;unfold FD at this⊢;rw[Wi];simp[oi,this]
def wI(gs:List (List Nat)):List D:=gs.map λg=>D.tup (g.map λt=>.str [t])
theorem zfM(R:ck h w bs)(hp:ps.map (·.1)=bs.map (·.1)):∃c,Res (bs.map (·.1)) (aE bs) (dh ps) c/\tf [.pure (aG h w bs),.pure (dg ps)]=some (.own (.lst (wI (bo [] ((bs.map (·.1)).map λt=>fit c (bs.map (·.1)) (c t))))),[.pure (aG h w bs),.pure (dg ps)]):=by
 have n1:=R.n1;have n0:=R.n0;obtain⟨c,rs,e⟩:=zfJ R hp;refine⟨c,rs,?_⟩;have pf:=LD c (bs.map (·.1));have gd:=z9K c (bs.map (·.1));have gl:=(zU ((bs.map (·.1)).map λt=>(([t]:Tx),((c t:Nat):Int))) _ (Wg _)).1;obtain⟨KV,hK⟩:∃KV,(bs.map (·.1)).map (λt=>(([t]:Tx),((c t:Nat):Int)))=KV:=⟨_,rfl⟩;have kl:KV.length=bs.length:=by rw[<-hK];simp
 rw[hK]at pf gd gl;rw[JE]at gl;obtain⟨p,hlast⟩:∃p,KV.getLast?=some p:=by rw[List.getLast?_eq_getElem?];exact⟨_,W8 Y'⟩
 have hE:(mL (fM KV)).map (·.2)=(bo [] ((bs.map (·.1)).map λt=>fit c (bs.map (·.1)) (c t))).map λg=>D.lst (g.map sD):=by rw[show(mL (fM KV)).map (·.2)=((fM KV).map (·.2)).map λxs=>D.lst (xs.map .str)by unfold mL;rw[Wq,Wq];rfl,gd,Wq];exact WK λg _=>by simp
 have hl:=congrArg WV gd;rw[Ws,Ws]at hl;unfold wI;generalize bo [] ((bs.map (·.1)).map λt=>fit c (bs.map (·.1)) (c t))=DG at*;have hz:KV.length<Wb:=by rw[de];lia
 generalize aG h w bs=ru,dg ps=pa,hG:mL (fM KV)=GG at*;have ec:=cS (j:=5) (np:=[]) (it:=vL (aa 2)) (el:=az cm (ah 5)) (λg:List Nat=>D.lst (g.map sD)) (λg=>.tup (g.map sD)) (TD:=[pS ru,pS pa,pO (.dic GG),pS (.str p.1),pS (.int p.2),none]) (U:=[pS ru,pS pa,pS (.dic GG),pS (.str p.1),pS (.int p.2),none]) (as:=DG) (by rw[<-hE];rfl) Y' λg _=>rfl;unfold tf J_;generalize qh=GN at*;exact gR (aR (ZW:=[pS ru,pS pa,pO (.dic []),none,none,none]) (aR (ZW:=[pS ru,pS pa,pO (.dic GG),pS (.str p.1),pS (.int p.2),none]) (by unfold bh;rw[ec];rfl) #v[rX,aF,bW,dC,cV,aa,cH,e,bH,S.d,pf,hz,hG,vR,hlast]) rfl) rfl rfl
abbrev Br:DE:=aQ (ao (aa 6) (ao (aa 7) aD))
abbrev qaf:DS:=ar (jv 5 Br (eD (.bl true))) (ax (eD (.bl true)) (ag [] 8))
abbrev PP:=List (Nat×Nat)
def kD(p:Nat×Nat):D:=.tup [.str [p.1],.str [p.2]]
def bA(P:PP)(R:RR):List (D×D):=P.map λp=>(kD p,.bl (R p))
theorem Bs(a b:Nat×Nat):bw (kD a) (kD b)=decide (a=b):=by obtain⟨a1,a2⟩:=a;obtain⟨b1,b2⟩:=b;unfold kD;simp only[bw,cU];by_cases h1:a1=b1<;>by_cases h2:a2=b2<;>simp[h1,h2]
theorem wJ(P:PP)(R:RR)(p:Nat×Nat):gU (hW (kD p)) (bA P R) (kD p)=true:=by unfold gU hW bA kD;simp[hV,cF,gM]
theorem Bt(R:RR)(p:Nat×Nat):∀P:PP,f_ (bA P R) (kD p)=if p∈P then some (.bl (R p))else none|[]=>rfl|a::r=>by have ih:=Bt R p r;unfold f_ bA at ih⊢;rw[Wi,Q7];simp only[Bs];grind
theorem LF(R:RR)(p:Nat×Nat)(P:PP):((bA P R).any λq=>bw q.1 (kD p))=decide (p∈P):=by
 unfold bA;rw[Ud,Qp];simp only[List.any_eq_true,Function.comp,Bs,decide_eq_true_eq];constructor;.rintro⟨x,hx,rfl⟩;exact hx
 .intro h;exact⟨p,h,rfl⟩
theorem zjd(R:RR)(p:Nat×Nat)(P:PP)(h:p∉P):ju (bA P R) (kD p) (.bl (R p))=bA (P++[p]) R:=by unfold ju;rw[LF,decide_eq_false h,if_neg U'];unfold bA;simp
theorem zjc(R:RR)(p:Nat×Nat)(P:PP)(h:p∈P):ju (bA P R) (kD p) (.bl true)=bA P (jD R p):=by unfold ju;rw[LF,decide_eq_true h,if_pos rfl];unfold bA;rw[Wq];refine WK λq _=>?_;simp only[Function.comp,Bs];unfold jD;grind
theorem ne_str(a b:Nat):eT (.str [a]) (.str [b])=pS (.bl !decide (a=b)):=by
 show some (S.pure (.bl !bw (.str [a]) (.str [b])))=_;have:bw (.str [a]) (.str [b])=decide (a=b):=by simp only[bw];by_cases h:a=b<;>simp[h]
 rw[this]
theorem LG(h:p∈P):ip (.dic (bA P R)) (kD p)=pS (.bl (R p)):=by show(if gU (hW (kD p)) (bA P R) (kD p)then(f_ (bA P R) (kD p)).map S.pure else none)=_;rw[wJ,if_pos rfl,Bt,if_pos h];rfl
theorem LH(hz:P.length<=10000)(R:RR):(bA P R).length<Wb:=by unfold bA;rw[Ws,de];lia
abbrev cC(ru pa DP DX:D)(s4:S)(ap:List (D×D))(o6 o7 o8:Option S):Dl:=[pS ru,pS pa,pO DP,pO DX,some s4,pO (.dic ap),o6,o7,o8,none,none,none]
abbrev aI:DS:=jv 5 Br (aA eT (aj aN 2 (ah 6)) (aq (aj aN 2 (ah 7))))
abbrev aO:DS:=bE (aK (aa 4)) (ag [] 7) aI
def iA(sg:Nat->Nat):RR:=λp=>!decide (sg p.1=sg p.2)
def c9(ts:List Nat):PP:=ts.flatMap λt=>ts.map λu=>(t,u)
theorem outer{DX:D}(hx:∀t∈ts,aN DP (sD t)=pS (sD (sg t)))(nd:(c9 ts).Nodup)(hz:(c9 ts).length<=10000):∃o6 o7,forL (ag [] 6) aO (ts.map sD) (cC ru pa DP DX (.pure (.lst (ts.map sD))) [] none none none)=.ok .next (cC ru pa DP DX (.pure (.lst (ts.map sD))) (bA (c9 ts) (iA sg)) o6 o7 none):=by obtain⟨ZB,e,P,o6,o7,h1,-,rfl⟩:=forA sD (g:=ag [] 6) (b:=aO) (λrs U=>∃(P:PP)(o6 o7:Option S),(P++rs.flatMap λt=>ts.map λu=>(t,u))=c9 ts/\rs ⊆ ts/\U=cC ru pa DP DX (.pure (.lst (ts.map sD))) (bA P (iA sg)) o6 o7 none) (λt rs U hh=>by obtain⟨P,o6,o7,h1,h2,e⟩:=hh;subst e;have ht:=hx t (h2 (.head _));obtain⟨ZB,e,Q,o7',h3,-,rfl⟩:=forA sD (g:=ag [] 7) (b:=aI) (λus U=>∃(Q:PP)(o7:Option S),(Q++us.map λu=>(t,u))=P++ts.map (λu=>(t,u))/\us ⊆ ts/\U=cC ru pa DP DX (.pure (.lst (ts.map sD))) (bA Q (iA sg)) (pS (sD t)) o7 none) λu us U hh=>by obtain⟨Q,o7,h3,h4,e⟩:=hh;subst e;have hu:=hx u (h4 (.head _));have ne:=ne_str (sg t) (sg u);rw[List.flatMap_cons,<-JW,<-h3,Wi]at h1;rw[<-h1]at nd hz;have hn:(t,u)∉Q:=λz=>(List.nodup_append.mp (List.nodup_append.mp nd).1).2.2 (t,u) z (t,u) (.head _) rfl;have g:=wJ Q (iA sg) (t,u);have pu:=zjd (iA sg) (t,u) Q hn;have z:=LH (P:=Q) (by simp at hz;lia) (iA sg);refine⟨_,rfl,λy hy=>⟨cC ru pa DP DX (.pure (.lst (ts.map sD))) (bA (Q++[(t,u)]) (iA sg)) (pS (sD t)) (pS (sD u)) none,hy.symm.trans ?_,Q++[(t,u)],_,~~~h3,λ_ h=>h4 (.tail _ h),rfl⟩⟩;rw[<-pu];rw[show iA sg (t,u)=!decide (sg t=sg u)from rfl];have ek:kD (t,u)=.tup [sD t,sD u]:=rfl;rw[ek]at g⊢;generalize bA Q (iA sg)=AA,(!decide (sg t=sg u))=bb,ts.map sD=TS at*;simp[aI,jv,mJ,aQ,ao,aD,aa,aj,bB,ah,ht,hu,ne,S.d,g,z] ts (cC ru pa DP DX (.pure (.lst (ts.map sD))) (bA P (iA sg)) (pS (sD t)) o7 none) ⟨P,o7,rfl,λ_ h=>h,rfl⟩;rw[Jk,Qc]at h3;subst h3;exact⟨_,rfl,λy hy=>⟨_,hy.symm.trans ((c7 (it:=aK (aa 4)) rfl).trans e),_,_,_,~~~h1,λ_ h=>h2 (.tail _ h),rfl⟩⟩) ts (cC ru pa DP DX (.pure (.lst (ts.map sD))) [] none none none) ⟨[],none,none,rfl,λ_ h=>h,rfl⟩;rw[List.flatMap_nil,Qc]at h1;subst h1;exact⟨o6,o7,e⟩
def dG(bs:List (Nat×List Tx)):D:=.au (bs.map λb=>((Sum.inr [b.1]:aZ),D.str (aE bs b.1)))
theorem Bu(h:t∈bs.map (·.1)):aN (dG bs) (.str [t])=pS (.str (aE bs t)):=by
 have hv:cX (bs.map λb=>((Sum.inr [b.1]:aZ),D.str (aE bs b.1))) (.inr [t])=(bs.find? λp=>decide (p.1=t)).map λp=>D.str (aE bs p.1):=by unfold cX;rw[Uk];simp[Function.comp_def]
 show((cb (.str [t])).bind λk=>(cX (bs.map λb=>((Sum.inr [b.1]:aZ),D.str (aE bs b.1))) k).map S.pure)=_;simp only[cb,Q3,hv];obtain⟨b,hb,rfl,e,_⟩:=lR h;rw[e];rfl
abbrev cZ:DE:=bJ [9] (jZ (aj aN 3 (ah 6)) (aj aN 3 (ah 7))) (ag [] 9) bP (aj ip 5 (ah 9))
abbrev zB:DS:=bG (b_ (aC (aj ip 5 (aq Br)))) (bG (aC (az nL (aq cZ))) qaf bL) bL
theorem qag(Ru:ck h w bs)(hP:∀t∈bs.map (·.1),∀u∈bs.map (·.1),(t,u)∈P)(hz:P.length<=10000)(R:RR)(ht:t∈bs.map (·.1))(hu:u∈bs.map (·.1))(m:Bool):∃R2 m2,zB (cC ru pa DP (dG bs) s4 (bA P R) (pS (sD t)) (pS (sD u)) (pS (.bl m)))=.ok .next (cC ru pa DP (dG bs) s4 (bA P R2) (pS (sD t)) (pS (sD u)) (pS (.bl m2)))/\((R (t,u)=true\/jC (aE bs) R (t,u)=false)/\R2=R/\m2=m\/R (t,u)=false/\jC (aE bs) R (t,u)=true/\R2=jD R (t,u)/\m2=true):=by
 obtain⟨l1,l2,l3⟩:=jH Ru ht;obtain⟨_,_,l4⟩:=jH Ru hu;have x1:=Bu ht;have x2:=Bu hu;have cz:=cS (j:=9) (np:=[]) (it:=jZ (aj aN 3 (ah 6)) (aj aN 3 (ah 7))) (el:=aj ip 5 (ah 9)) kD (λp=>.bl (R p)) (TD:=cC ru pa DP (dG bs) s4 (bA P R) (pS (sD t)) (pS (sD u)) (pS (.bl m))) (U:=cC ru pa DP (dG bs) s4 (bA P R) (pS (sD t)) (pS (sD u)) (pS (.bl m))) (as:=(aE bs t).zip (aE bs u)) (by rw[show((aE bs t).zip (aE bs u)).map kD=kq ((aE bs t).map sD) ((aE bs u).map sD)by unfold kq;rw[List.zip_eq_zipWith,List.map_zipWith,List.zipWith_map];rfl];generalize bA P R=AA,dG bs=DX at*;simp[jZ,aj,bB,ah,x1,x2,S.d,lE]) V' λp hp=>by obtain⟨k,h1,h2⟩:=K1 hp;have q:=LG (R:=R) (hP p.1 (l3 _ (Wj h1)) p.2 (l4 _ (Wj h2)));rw[show(p.1,p.2)=p from rfl]at q;generalize bA P R=AA,kD p=kk at*;simp[aj,bB,ah,bx,q,S.d]
 have oh:nL (.lst (((aE bs t).zip (aE bs u)).map λp=>.bl (R p)))=pS (.bl (jC (aE bs) R (t,u))):=by rw[show((aE bs t).zip (aE bs u)).map (λp=>D.bl (R p))=(((aE bs t).zip (aE bs u)).map R).map .bl by rw[Wq];rfl];show(iJ _).map _=_;rw[F_];show some (S.pure (.bl ((((aE bs t).zip (aE bs u)).map R).any id)))=_;unfold jC;rw[Ud];rfl
 have c:=lO cz oh;have q:=LG (R:=R) (hP t ht u hu);have g:=wJ P R (t,u);have pu:=zjc R (t,u) P (hP t ht u hu);have z:=LH hz R;have ek:kD (t,u)=.tup [sD t,sD u]:=rfl;rw[ek]at q g pu;clear cz oh x1 x2;unfold zB;revert c;generalize az nL _=E;intro c;cases h1:R (t,u)with|true=>rw[h1]at q;refine⟨R,m,?_,.inl ⟨.inl rfl,rfl,rfl⟩⟩;generalize bA P R=AA,dG bs=DX at*;simp[aC,aj,bB,ah,aQ,ao,aD,aa,q,S.d]|false=>rw[h1]at q;cases h2:jC (aE bs) R (t,u)with|false=>rw[h2]at c;refine⟨R,m,?_,.inl ⟨.inr rfl,rfl,rfl⟩⟩;generalize bA P R=AA,dG bs=DX at*;simp[aC,aj,bB,ah,aQ,ao,aD,aa,q,c,S.d]|true=>rw[h2]at c;refine⟨jD R (t,u),true,?_,.inr ⟨rfl,rfl,rfl,rfl⟩⟩;rw[<-pu];generalize bA P R=AA,dG bs=DX at*;simp[aC,aj,bB,ah,aQ,ao,aD,aa,q,c,S.d,jv,mJ,g,z,ax]
abbrev LI:DG:=cj 2 (a7 (ag [] 6) (a7 (ag [] 7) cw))
abbrev wA:DS:=ar (ax (eD (.bl false)) (ag [] 8)) (bE (aK (az rS (ah 5))) LI zB)
section
variable{h w:Nat}{bs:List (Nat×List Tx)}(Ru:ck h w bs){s4:S}{P:PP}(hP:∀t∈bs.map (·.1),∀u∈bs.map (·.1),(t,u)∈P)(hQ:∀p∈P,p.1∈bs.map (·.1)/\p.2∈bs.map (·.1))(hz:P.length<=10000)
include Ru hP hQ hz
theorem zb4(snd:oC (bs.map (·.1)) (aE bs) sg R):∃R' m o6' o7',wA (cC ru pa DP (dG bs) s4 (bA P R) o6 o7 (pS (.bl true)))=.ok .next (cC ru pa DP (dG bs) s4 (bA P R') o6' o7' (pS (.bl m)))/\PI (bs.map (·.1)) (aE bs) sg P R [] R' m:=by
 obtain⟨ZB,e,R',m,o6',o7',h1,-,rfl⟩:=forA kD (g:=LI) (b:=zB) (λQ U=>∃(R':RR)(m:Bool)(o6 o7:Option S),PI (bs.map (·.1)) (aE bs) sg P R Q R' m/\Q ⊆ P/\U=cC ru pa DP (dG bs) s4 (bA P R') o6 o7 (pS (.bl m))) (λp Q U hh=>by
 obtain⟨R',m,o6,o7,h1,h2,e⟩:=hh
 subst e;have hp:=h2 (.head _);obtain⟨R2,m2,e,hc⟩:=qag (ru:=ru) (pa:=pa) (DP:=DP) (s4:=s4) Ru hP hz R' (hQ p hp).1 (hQ p hp).2 m;refine⟨_,rfl,λy hy=>⟨_,hy.symm.trans e,R2,m2,_,_,?_,λ_ h=>h2 (.tail _ h),rfl⟩⟩;rcases hc with⟨hc,rfl,rfl⟩|⟨c1,c2,rfl,rfl⟩;.exact h1.same hc
 .exact h1.more (λt ht=>(jH Ru ht).2.2) hp c1 c2) P (cC ru pa DP (dG bs) s4 (bA P R) o6 o7 (pS (.bl false))) ⟨R,false,o6,o7,⟨snd,λ_ h=>h,nofun,λ_=>⟨rfl,λ_ h=>.inl h⟩⟩,λ_ h=>h,rfl⟩;refine⟨R',m,o6',o7',aR (ZW:=cC ru pa DP (dG bs) s4 (bA P R) o6 o7 (pS (.bl false))) ((c7 (ds:=P.map kD) ?_).trans e) rfl,h1⟩;have hl:rS (.dic (bA P R))=pO (.lst (P.map kD)):=by show some (S.own (.lst ((bA P R).map (·.1))))=_;unfold bA;rw[Wq];rfl
 generalize P.map kD=KK,bA P R=AA,dG bs=DX at*;simp[ZQ,ah,hl,S.d]
theorem LJ:∀(fu:Nat)(R:RR)(o6 o7:Option S),nf P R<fu->oC (bs.map (·.1)) (aE bs) sg R->∃R' o6' o7',oC (bs.map (·.1)) (aE bs) sg R'/\(∀q,R q=true->R' q=true)/\(∀p∈P,R' p=false->jC (aE bs) R' p=false)/\dY (aC (aa 8)) wA (fu+980000) (cC ru pa DP (dG bs) s4 (bA P R) o6 o7 (pS (.bl true)))=.ok .next (cC ru pa DP (dG bs) s4 (bA P R') o6' o7' (pS (.bl false)))|0,R,o6,o7,hn,_=>by lia|fu+1,R,o6,o7,hn,snd=>by obtain⟨R',m,p6,p7,e,i1,i2,i3,i4⟩:=zb4 (ru:=ru) (pa:=pa) (DP:=DP) (s4:=s4) Ru hP hQ hz snd (o6:=o6) (o7:=o7);rw[show fu+1+980000=fu+980000+1 by lia,Bm (t:=aC (aa 8)) rfl e];cases m with|true=>obtain⟨R2,o6',o7',a,b,c,ih⟩:=LJ fu R' p6 p7 (by have:=i3 rfl;lia) i1;exact⟨R2,o6',o7',a,λq h=>b q (i2 q h),c,ih⟩|false=>obtain⟨rfl,h⟩:=i4 rfl;exact⟨R',p6,p7,snd,λ_ h=>h,λp hp=>(h p hp).resolve_left nofun,Ll rfl⟩
end
theorem wK:p∈c9 ts↔p.1∈ts/\p.2∈ts:=by
 unfold c9;rw[List.mem_flatMap];constructor;.rintro⟨t,ht,h⟩;obtain⟨u,hu,rfl⟩:=Wu.mp h;exact⟨ht,hu⟩
 .rintro⟨h1,h2⟩;exact⟨p.1,h1,Wu.mpr ⟨p.2,h2,rfl⟩⟩
theorem LM(us:List Nat)(hu:us.Nodup):∀ts:List Nat,ts.Nodup->(ts.flatMap λt=>us.map λu=>(t,u)).Nodup
 |[],_=>List.nodup_nil|t::r,h=>by
  obtain⟨n1,n2⟩:=WW.mp h;rw[List.flatMap_cons];refine JU.mpr ⟨?_,LM us hu r n2,λa ha b hb e=>?_⟩;.rw[Q2,QM];rw[Q2]at hu;exact hu.imp λ{a b}gw z=>gw (congrArg Prod.snd z)
  .obtain⟨u,_,rfl⟩:=Wu.mp ha;obtain⟨t',ny,h'⟩:=List.mem_flatMap.mp hb;obtain⟨u',_,rfl⟩:=Wu.mp h';have:t=t':=congrArg Prod.fst e;exact n1 %[this|ny]
theorem LO(us:List Nat):∀ts:List Nat,(ts.flatMap λt=>us.map λu=>(t,u)).length=ts.length*us.length|[]=>by simp|t::r=>by rw[List.flatMap_cons,QS,LO us r,Ws,WP,Nat.succ_mul];lia
theorem LQ(F:Nat->Tx):∀bs:List (Nat×List Tx),gP (bs.map λb=>D.tup [.str [b.1],.str (F b.1)])=some (bs.map λb=>((Sum.inr [b.1]:aZ),D.str (F b.1)))|[]=>rfl|b::r=>by have:=LQ F r;simp only[Wi];simp[gP,cb,this]
theorem LS(R:ck h w bs):dD (.lst (bs.map λb=>D.tup [.str [b.1],.str (aE bs b.1)]))=pO (dG bs):=by
 have n1:=R.n1;unfold dD;simp only[LQ (aE bs),Q3,Ws];rw[if_pos (by rw[de];lia),tH];.rfl
 .simp only[J3,Wq];have nd:=R.nd;rw[Q2,QM]at nd⊢;exact nd.imp λ{a b}gw=>~~~gw
abbrev wL(ru pa:D)(s2 s3 s4:Option S):Dl:=[pS ru,pS pa,s2,s3,s4,none,none,none,none,none,none,none]
theorem zfL(R:ck h w bs)(hp:ps.map (·.1)=bs.map (·.1)):∃A,(∀c,Res (bs.map (·.1)) (aE bs) (dh ps) c->∀t∈bs.map (·.1),∀u∈bs.map (·.1),A (t,u)=!decide (c t=c u))/\sY [.pure (aG h w bs),.pure (dg ps)]=some (.own (.dic (bA (c9 (bs.map (·.1))) A)),[.pure (aG h w bs),.pure (dg ps)]):=by
 have n1:=R.n1;have hl:ps.length=bs.length:=by simpa using congrArg WV hp
 have hsq:bs.length*bs.length<=26*26:=Nat.mul_le_mul n1 n1;have hlen:(c9 (bs.map (·.1))).length<=676:=by unfold c9;rw[LO,Ws];lia
 have hd:=wF (ps:=ps) %[hp|R.nd] Y';have hx:∀t∈bs.map (·.1),aN (mX ps) (sD t)=pS (sD (dh ps t)):=λt ht=>wH (hp▸ht);generalize mX ps=DP,dg ps=pa at*;obtain⟨o6,o7,e1⟩:=outer (ru:=aG h w bs) (pa:=pa) (DX:=dG bs) hx (LM _ R.nd _ R.nd) Y';have hnf:nf (c9 (bs.map (·.1))) (iA (dh ps))<20000:=Ub (List.length_filter_le _ _) Y';obtain⟨A,p6,p7,snd,base,closed,e2⟩:=LJ R (ru:=aG h w bs) (pa:=pa) (DP:=DP) (s4:=.pure (.lst ((bs.map (·.1)).map sD))) (sg:=dh ps) (λt ht u hu=>wK.mpr ⟨ht,hu⟩) (λp hp=>wK.mp hp) Y' 20000 (iA (dh ps)) o6 o7 hnf λN hN t ht u hu hn=>#v[iA,(hN t ht u hu hn).1];refine⟨A,λc rs t ht u hu=>zdO (λt ht=>(jH R ht).2.2) λt ht u hu=>by rw[(jH R ht).1,(jH R hu).1] rs (λt _ u _ ne=>base _ #v[iA,ne]) (λt ht u hu=>closed _ (wK.mpr ⟨ht,hu⟩)) snd t ht u hu,?_⟩;have cx:=cM (cs:=[10,11]) (it:=aK (aj aw 0 (aq (eD (.int 2))))) (g:=cj 2 (a7 (ag [] 10) (a7 (ag [] 11) cw))) (t:=bP) (el:=aQ (ao (aa 10) (ao (az (cO []) (ah 11)) aD))) aL (λb=>.tup [sD b.1,.str (aE bs b.1)]) (U:=wL (aG h w bs) pa (pO DP) none none) (as:=bs) rfl Y' λb hb=>⟨_,_,.pure (.tup [sD b.1,.str (aE bs b.1)]),((wL (aG h w bs) pa (pO DP) none none).set 10 (pS (sD b.1))).set 11 (pS (bN b.2)),rfl,rfl,by have j:=Bq R hb;generalize bN b.2=FB,aG h w bs=ru at*;simp[bx,aa,ah,j,S.d],rfl,rfl⟩;have ct:=cS (j:=9) (np:=[]) (it:=aK (aj aw 0 (aq (eD (.int 2))))) (el:=aj aw 9 (aq (eD (.int 0)))) aL (λb=>sD b.1) (TD:=wL (aG h w bs) pa (pO DP) (pO (dG bs)) none) (as:=bs) rfl Y' λ_ _=>rfl;rw[show(bs.map λb=>sD b.1)=(bs.map (·.1)).map sD by rw[Wq];rfl]at ct;unfold sY IF;exact gR (ZW:=(cC (aG h w bs) pa DP (dG bs) (.pure (.lst ((bs.map (·.1)).map sD))) [] p6 p7 (pS (.bl false))).set 5 none) (aR (ZW:=wL (aG h w bs) pa (pO DP) none none) (aR (aR (aR (aR (aR (aR rfl e2) rfl) ((c7 (it:=aK (aa 4)) rfl).trans e1)) rfl) (oE ct rfl)) (oE (lO cx (LS R)) rfl)) (by generalize aG h w bs=ru at*;simp[bY,ax,ah,hd,S.d])) rfl rfl
abbrev LU:DE:=aA aw (aj aN 0 (ah 6)) (ah 5)
theorem zgi(xs:List Tx)(i:Nat)(h:i<xs.length):aw (bN xs) (.int i)=pS (.str xs[i]):=by show(eN (xs.map D.str) (i:Int)).map S.pure=_;rw[iM];simp[h]
theorem zdq(xs:List Tx)(h:ie xs<=16777216):cO [] (.lst (xs.map .str))=pS (.str xs.flatten):=by unfold cO;simp only[pL,vA];rw[if_pos (~~~h)]
def eX(bs:List (Nat×List Tx)):D:=.au (bs.map λb=>((Sum.inr [b.1]:aZ),bN b.2))
theorem Bv:∀bs:List (Nat×List Tx),gP (bs.map aL)=some (bs.map λb=>((Sum.inr [b.1]:aZ),bN b.2))|[]=>rfl|b::r=>by have:=Bv r;simp only[Wi];simp[aL,gP,cb,this]
theorem Bw(R:ck h w bs):dD (.tup (bs.map aL))=pO (eX bs):=by
 have n1:=R.n1;unfold dD;simp only[Bv,Q3,Ws];rw[if_pos (by rw[de];lia),tH];.rfl
 .simp only[J3,Wq];have nd:=R.nd;rw[Q2,QM]at nd⊢;exact nd.imp λ{a b}gw=>~~~gw
theorem LV(h:t∈bs.map (·.1)):cX (bs.map λb=>((Sum.inr [b.1]:aZ),bN b.2)) (.inr [t])=some (bN (bR bs t)):=by unfold cX;rw[Uk];obtain⟨b,hb,rfl,e,e2⟩:=lR h;simp[Function.comp_def,e,e2]
theorem LW(h:t∈bs.map (·.1)):aN (eX bs) (.str [t])=pS (bN (bR bs t)):=by show((cb (.str [t])).bind λk=>(cX (bs.map λb=>((Sum.inr [b.1]:aZ),bN b.2)) k).map S.pure)=_;simp[cb,LV h]
theorem LX(h:t∈bs.map (·.1)):dQ true (.str [t]) (eX bs)=pS (.bl false):=by show((cb (.str [t])).map λk=>S.pure (.bl (if true then !(cX (bs.map λb=>((Sum.inr [b.1]:aZ),bN b.2)) k).isSome else _)))=_;simp[cb,LV h]
theorem zcR(R:ck h w bs):qc [.pure (aG h w bs)]=some (.own (.lst ((bs.map (·.1)).map λt=>D.str [t])),[.pure (aG h w bs)]):=by have x2:=(wz h w bs).2.2;have hn:=R.n1;generalize aG h w bs=ru at*;have e:=zi (cs:=[1,2]) (g:=cj 2 (a7 (ag [] 1) (a7 (ag [] 2) cw))) (t:=bP) (el:=aa 1) aL (λb:Nat×List Tx=>D.str [b.1]) [pS ru,none,none] bs [] (by rw[de];simp;lia) λb hb=>⟨_,_,.pure (D.str [b.1]),[pS ru,pS (.str [b.1]),pS (bN b.2)],rfl,rfl,rfl,rfl,rfl⟩;rw[qc,oF,IT];simp[eC,bY,aj,bB,ah,x2,ZQ,dP,bx];rw[e];simp[eM,e_,da,Function.comp_def]
theorem LY(U:Dl)(e:DE)(h:e U=.ok (.pure (.int 1)) U):cG e U=.ok [.int 0] U:=by unfold cG;rw[h];rfl
theorem Bx(h1:g (.pure d) U=some ZW)(h2:b ZW=.ok .next XV):forL g b [d] U=.ok .next XV:=by rw[lN h1 h2];rfl
theorem LZ(f:Nat)(hf:f<=100):oA [.pure (.int 1),.pure (.int f),.pure (.int 1)]=some (.pure (.int f),[.pure (.int 1),.pure (.int f),.pure (.int 1)]):=by
 have m:e8 (.int 1) (.int f)=pS (.int f):=by have c:jK 1 f=true:=#v[jK];simp[e8,fJ,c]
 rw[oA,IW];generalize(f:Int)=z at*;refine gR (ZW:=[pS (.int z),pS (.int z),pS (.int 1),pS (.int 0)]) (aR (ZW:=[pS (.int z),pS (.int z),pS (.int 1),pS (.int 0)]) rfl ?_) rfl rfl;rw[c7 (LY _ (aa 2) rfl)];refine Bx rfl ?_;simp[bY,ax,aj,bB,ah,m]
theorem zcU(a b:Nat)(ha:a<=64)(hb:b<=64):qe [.pure (.int a),.pure (.int b),.pure (.int 64)]=some (.pure .aJ,[.pure (.int a),.pure (.int b),.pure (.int 64)]):=by
 have h1:hJ (.int a) (.int 64)=pS (.bl false):=by simp[hJ,eK];lia
 have h2:hJ (.int b) (.int 64)=pS (.bl false):=by simp[hJ,eK];lia
 rw[qe,oF,IV];simp[eC,bY,aC,aj,bB,ah,h1,h2,e_,da]
theorem zaK(h:t∈bs.map (·.1)):qd [.pure (eX bs),.pure (.tup [.str [t]])]=some (.pure .aJ,[.pure (eX bs),.pure (.tup [.str [t]])]):=by have j:cO [] (.tup [.str [t]])=pS (.str [t]):=Bl [[t]] #v[ie];have q:=LX h;rw[qd,oF,IU];generalize eX bs=DB,D.tup [.str [t]]=F at*;simp[eC,bY,bE,ZQ,ah,j,forL,aC,aa,q,e_,da]
abbrev lB:DS:=cL 3 (az (cO []) (aq (bJ [6] (aK (aa 4)) (ag [] 6) bP LU)))
abbrev sB(DB:D)(h t:Nat)(rs:List Tx)(o5:Option S):Dl:=[pS DB,pS (.int h),pS (.tup [.str [t]]),pO (.lst (rs.map .str)),pS (.str [t]),o5,none]
theorem zfI(R:ck h w bs)(ht:t∈bs.map (·.1)):qf [.pure (eX bs),.pure (.int h),.pure (.tup [.str [t]])]=some (.pure (bN (bR bs t)),[.pure (eX bs),.pure (.int h),.pure (.tup [.str [t]])]):=by
 have q:=LW ht;obtain⟨b,hb,rfl,_,eb⟩:=lR ht;obtain⟨b1,b2⟩:=R.bR b hb;have h1:=R.h1;have w1:=R.w1;rw[eb]at q⊢;generalize eX bs=DB at*;obtain⟨ZB,e,o5,rfl⟩:=n8 (g:=ag [] 5) (b:=lB) (λi U=>∃o5,U=sB DB h b.1 (b.2.take i) o5) (e9 0 h) 0 (sB DB h b.1 [] none) ⟨none,rfl⟩ λi d U hd⟨o5,e⟩=>by
  subst e;obtain⟨hi,rfl⟩:=Ga hd;rw[Qs];have nO:i<b.2.length:=by lia
  have hx:=zgi b.2 i nO;have hw:=(b2 _ (WQ nO)).1;have ec:=cS (j:=6) (np:=[]) (it:=aK (aa 4)) (el:=LU) sD (λ_=>.str b.2[i]) (TD:=sB DB h b.1 (b.2.take i) (pS (.int i))) (as:=[b.1]) rfl U' λa ha=>by obtain rfl:a=b.1:= ~~~ha;generalize bN b.2=FB,D.str b.2[i]=Y at*;simp[aA,aj,bB,ah,q,hx,S.d]
  have hj:cO [] (.lst [.str b.2[i]])=pS (.str b.2[i]):=by simpa using zdq [b.2[i]] (by simp[ie];lia)
  refine⟨_,_,rfl,tF (lO ec hj) rfl rfl V',pS (.int i),?_⟩;rw[<-List.take_append_getElem nO];simp only[sB,WT];rfl
 rw[Qs,Gb,Ji Y']at e;have er:cG (aa 1) (sB DB h b.1 [] none)=.ok (e9 0 h) (sB DB h b.1 [] none):=by rw[K6];exact tG rfl rfl Y'
 have k1:bE (aK (aa 2)) (ag [] 4) (bE (cG (aa 1)) (ag [] 5) lB) [pS DB,pS (.int h),pS (.tup [.str [b.1]]),pO (.lst []),none,none,none]=.ok .next (sB DB h b.1 b.2 o5):=(c7 (ds:=[.str [b.1]]) rfl).trans (Bx (ZW:=sB DB h b.1 [] none) rfl ((c7 er).trans e));unfold qf IX;exact gR (ZW:=sB DB h b.1 b.2 o5) (aR (aR rfl k1) rfl) rfl rfl
abbrev sO(H W B F:D)(o6 o7 o8:Option S):Dl:=[pS (.tup [H,W,B]),pS F,pS (.int 1),pS H,pS W,pS B,o6,o7,o8]
theorem qah(GL:DF)(H W B F DB FB:D)(l1:GL [.pure DB,.pure H,.pure F]=some (.pure FB,[.pure DB,.pure H,.pure F])):bE (cG (aa 2)) (ag [] 8) (ax (aF GL [.val (aa 6),.val (aa 3),.val (aa 7)]) (ag [] 7)) (sO H W B F (pS DB) (pS F) none)=.ok .next (sO H W B F (pS DB) (pS FB) (pS (.int 0))):=by rw[c7 (LY (sO H W B F (pS DB) (pS F) none) (aa 2) rfl)];refine Bx (ZW:=sO H W B F (pS DB) (pS F) (pS (.int 0))) rfl ?_;simp[ax,aF,bW,dC,cV,aa,cH,l1,bH,S.d]
theorem zcS(R:ck h w bs)(ht:t∈bs.map (·.1)):qg [.pure (aG h w bs),.pure (.tup [.str [t]]),.pure (.int 1)]=some (.pure (bN (bR bs t)),[.pure (aG h w bs),.pure (.tup [.str [t]]),.pure (.int 1)]):=by
 have h1:=R.h1;have w1:=R.w1;have s1:=zaK ht;have g1:=LZ h Y';have g2:=LZ w Y';have b1:=zcU h w Y' Y';have l1:=zfI R ht;have d1:=Bw R;have t0:aw (.tup [.str [t]]) (.int 0)=pS (.str [t]):=rfl;have n0:aX (.tup [.str [t]])=pS (.int 1):=#v[aX,de];have n1:aX (.str [t])=pS (.int 1):=#v[aX,de];unfold qg IY aG;generalize D.tup [.str [t]]=F at*;generalize D.tup (bs.map aL)=B,D.int (h:Int)=H,D.int (w:Int)=W,D.str [t]=z,eX bs=DB,bN (bR bs t)=FB,qd=GS,oA=GG,qe=GB,qf=GL at*;apply gR
 .iterate 5 refine aR ?_ cN
  exact aR rfl (qah GL H W B F DB FB l1)
 .rfl
 .rfl
theorem qai{fl}(g:GO [.pure ru,.pure (.tup [z]),.pure (.int 1)]=some (.pure fl,[.pure ru,.pure (.tup [z]),.pure (.int 1)]))(j:cO [] fl=pS (.str x)):(aQ (ao (aa 2) (ao (az (cO []) (aq (aF GO [.val (aa 0),.val (aQ (ao (aa 2) aD)),.val (aa 1)]))) aD))) [pS ru,pS (.int 1),pS z]=.ok (.pure (.tup [z,.str x])) [pS ru,pS (.int 1),pS z]:=by simp[aF,bW,dC,cV,aa,ah,cH,g,bH,S.d,j]
theorem zcT(R:ck h w bs):s_ [.pure (aG h w bs),.pure (.int 1)]=some (.own (dG bs),[.pure (aG h w bs),.pure (.int 1)]):=by have hn1:=R.n1;have gt:=zcR R;rw[Wq]at gt;have c:=cS (j:=2) (np:=[]) (it:=aK (aF qc [.val (aa 0)])) (el:=aQ (ao (aa 2) (ao (az (cO []) (aq (aF qg [.val (aa 0),.val (aQ (ao (aa 2) aD)),.val (aa 1)]))) aD))) (λb:Nat×List Tx=>sD b.1) (λb=>.tup [sD b.1,.str (aE bs b.1)]) (TD:=[pS (aG h w bs),pS (.int 1),none]) (U:=[pS (aG h w bs),pS (.int 1),none]) (as:=bs) (by generalize aG h w bs=ru at*;simp[ZQ,aF,bW,dC,cV,aa,cH,gt,bH,S.d]) Y' (λb hb=>by have e:=zcS R (WL (f:=(·.1)) hb);rw[Bp R.nd hb]at e;exact qai e (Bq R hb));unfold s_ IZ;exact gR (ZW:=[pS (aG h w bs),pS (.int 1),none]) (by unfold bh;rw[lO (U:=bY 3 [.pure (aG h w bs),.pure (.int 1)]) c (LS R)];rfl) rfl rfl
def ay(c:Nat->Nat)(ts:List Nat)(t:Nat):Nat:=(fit c ts (c t)).headD 0
theorem lS(ht:t∈ts):∃r,fit c ts (c t)=ay c ts t::r/\ay c ts t∈ts/\c (ay c ts t)=c t:=by have hm:t∈fit c ts (c t):=#v[fit,ht];unfold ay;cases e:fit c ts (c t)with|nil=>rw[e]at hm;cases hm|cons a r=>have:a∈fit c ts (c t):=%[e|.head _];simp only[fit,List.mem_filter,decide_eq_true_eq]at this;exact⟨r,rfl,this.1,this.2⟩
abbrev sP(pa ru st pt tx ds g o:Option S):Dl:=[pa,ru,st,pt,tx,ds,g,o,none,none,none,none,none]
abbrev lI:DS:=dE 5 (aa 7) (aj aw 6 (aq (eD (.int 0))))
theorem qaj(pa ru st pt tx:Option S)(d:List (aZ×D))(g0:Nat)(r:List D)(t:Nat)(hz:d.length<Wb):lI (sP pa ru st pt tx (pO (.au d)) (pS (.tup (sD g0::r))) (pS (sD t)))=.ok .next (sP pa ru st pt tx (pO (.au (putD d (.inr [t]) (sD g0)))) (pS (.tup (sD g0::r))) (pS (sD t))):=by have x0:aw (.tup (sD g0::r)) (.int 0)=pS (sD g0):=#v[aw,ku];have kt:cb (sD t)=some (.inr [t]):=rfl;generalize D.tup (sD g0::r)=G,sD t=z,sD g0=y at*;simp[lI,dE,jl,aa,ah,aj,bB,x0,kt,hz,S.d]
theorem qak(pa ru st pt tx:Option S)(f:Nat->D)(g0:Nat)(r:List D)(us:List Nat)(hf:∀u∈us,f u=sD g0)(d:List (aZ×D))(l:List Nat)(h:Fd d l f)(hl:l.length+us.length<=10000)(o:Option S):∃d' o',Fd d' (l++us) f/\forL (ag [] 7) lI (us.map sD) (sP pa ru st pt tx (pO (.au d)) (pS (.tup (sD g0::r))) o)=.ok .next (sP pa ru st pt tx (pO (.au d')) (pS (.tup (sD g0::r))) o'):=by
 obtain⟨ZB,e,d',o',e2,h2⟩:=n8 (g:=ag [] 7) (b:=lI) (λi U=>∃d' o',U=sP pa ru st pt tx (pO (.au d')) (pS (.tup (sD g0::r))) o'/\Fd d' (l++us.take i) f) (us.map sD) 0 _ ⟨d,o,rfl,~~~h⟩ λi x U hx⟨d',o',e,h'⟩=>by subst e;rw[Wo]at hx;cases hu:us[i]? with|none=>rw[hu]at hx;cases hx|some u=>
   rw[hu]at hx;cases hx;have hi:=(W9.mp hu).1;rw[Qs]at h'⊢;have hz:d'.length<Wb:=by have:=h'.2;simp at this;rw[de];lia
   refine⟨sP pa ru st pt tx (pO (.au d')) (pS (.tup (sD g0::r))) (pS (sD u)),_,rfl,qaj pa ru st pt tx d' g0 r u hz,_,_,rfl,?_⟩;have:=h'.put u;rw[hf u (Wj hu)]at this;rw[JV,hu];simpa[JW]using this
 subst e2;rw[Qs,Ws,JE]at h2;exact⟨d',o',h2,e⟩
abbrev lF:DS:=bE (aK (aa 6)) (ag [] 7) lI
theorem L0(pa ru st pt tx:Option S)(cg:ts.length<=26):∀(gs:List (List Nat)),(∀g∈gs,∃t∈ts,g=fit c ts (c t))->∀(d:List (aZ×D))(l:List Nat)(o6 o7:Option S),Fd d l (λt=>sD (ay c ts t))->l.length+gs.length*26<=10000->∃d' l' o6' o7',Fd d' l' (λt=>sD (ay c ts t))/\(∀g∈gs,∀t∈g,t∈l')/\(∀t∈l,t∈l')/\forL (ag [] 6) lF (wI gs) (sP pa ru st pt tx (pO (.au d)) o6 o7)=.ok .next (sP pa ru st pt tx (pO (.au d')) o6' o7')
 |[],_,d,l,o6,o7,h,_=>⟨d,l,o6,o7,h,(λ_ hg=>nomatch hg),λ_ ht=>ht,rfl⟩|g::gs,hg,d,l,o6,o7,h,hl=>by
  obtain⟨t,ht,rfl⟩:=hg g (.head _);obtain⟨r,e1,e2,e3⟩:=lS (c:=c) ht;have lf:(fit c ts (c t)).length<=26:=Qe (List.length_filter_le ..) cg;have hu:∀u∈fit c ts (c t),sD (ay c ts u)=sD (ay c ts t):=λu hu=>by simp only[fit,List.mem_filter,decide_eq_true_eq]at hu;unfold ay;rw[hu.2]
  obtain⟨d1,o1,h1,k1⟩:=qak pa ru st pt tx _ (ay c ts t) (r.map sD) (fit c ts (c t)) hu d l h (by simp at hl;lia) o7;have eg:D.tup ((fit c ts (c t)).map sD)=.tup (sD (ay c ts t)::r.map sD):=by rw[e1];rfl
  obtain⟨d2,l2,o6',o7',h2,h3,h4,k2⟩:=L0 pa ru st pt tx cg gs (λg kf=>hg g (.tail _ kf)) d1 (l++fit c ts (c t)) (pS (.tup (sD (ay c ts t)::r.map sD))) o1 h1 P';refine⟨d2,l2,o6',o7',h2,λg' kf u kg=>?_,λu kg=>h4 u (Jv _ kg),?_⟩
  .rcases Wf.mp kf with rfl|kf;.exact h4 u (Qa _ kg)
   .exact h3 g' kf u kg
  .show forL _ _ (D.tup ((fit c ts (c t)).map sD)::wI gs) _=_;rw[eg];rw[lN (ZW:=sP pa ru st pt tx (pO (.au d)) (pS (.tup (sD (ay c ts t)::r.map sD))) o7) rfl ?_];.exact k2
   .rw[lF,c7 (ds:=(fit c ts (c t)).map sD) (ZW:=sP pa ru st pt tx (pO (.au d)) (pS (.tup (sD (ay c ts t)::r.map sD))) o7) ?_];.exact k1
    .rw[e1];simp only[Wi];generalize sD (ay c ts t)::r.map sD=G;simp[ZQ,aa,S.d]
theorem zj3{bs:List (Nat×List Tx)}{d:List (aZ×D)}{l:List Nat}{f:Nat->Nat}(h:Fd d l λt=>sD (f t)){t:Nat}(ht:t∈bs.map (·.1))(hp:∀p∈aE bs t,p∈l)(hl:(aE bs t).length<=1000):jY 1 jA [.au d,dG bs] (sD t)=some (.lst ((aE bs t).map λp=>sD (f p))):=by
 have x:aN (dG bs) (sD t)=pS (.str (aE bs t)):=Bu ht;generalize dG bs=DX at*;have ei:aK (aj aN 2 (ah 0)) [pS (sD t),pS (.au d),pS DX,none]=.ok ((aE bs t).map sD) [pS (sD t),pS (.au d),pS DX,none]:=by generalize aE bs t=X,sD t=z,D.au d=DD at*;simp[ZQ,aj,bB,ah,x,S.d]
 have ec:=cS (j:=3) (np:=[]) (it:=aK (aj aN 2 (ah 0))) (el:=aj aN 1 (ah 3)) sD (λp=>sD (f p)) ei hl λp dI=>by have q:=h.ix (hp p dI);generalize D.au d=DD,sD p=z,sD (f p)=y at*;simp[aj,bB,ah,q]
 unfold jY jA;show(match bh _ [pS (sD t),pS (.au d),pS DX,none]with|.ok (.ret r) _=>some r.d|_=>none)=_;unfold bh;rw[ec];rfl
abbrev sR(x0 fn:D)(L sn:D)(k:Int)(o5 o6:Option S):Dl:=[pS x0,pS fn,pO L,pO sn,pS (.int k),o5,o6]
abbrev rB:DS:=bG (aC (aA (dQ true) (aa 6) (ah 3))) (ar (dE 3 (aa 6) (eD (.bl true))) (cL 2 (aa 6))) bL
theorem qal(x0 fn:D)(k:Int)(L:List Nat)(d:List (aZ×D))(h:Fd d L λ_=>.bl true)(hl:L.length<=1000)(p:Nat)(o5:Option S):∃d',Fd d' (bo L [p]) (λ_=>.bl true)/\rB (sR x0 fn (.lst (L.map sD)) (.au d) k o5 (pS (sD p)))=.ok .next (sR x0 fn (.lst ((bo L [p]).map sD)) (.au d') k o5 (pS (sD p))):=by
 have q:=h.wB (x:=p);have hz:d.length<Wb:=by have:=h.2;rw[de];lia
 have og:(L.map sD).length<Wb:=by rw[de];simp;lia
 have kt:cb (sD p)=some (.inr [p]):=rfl;by_cases hp:p∈L;.have ed:bo L [p]=L:=#v[bo,hp];rw[ed];refine⟨d,h,?_⟩;simp only[hp,decide_true,Bool.not_true]at q;generalize D.au d=DD,L.map sD=LL,sD p=z at*;simp[aC,aa,ah,q,S.d]
 .have ed:bo L [p]=L++[p]:=#v[bo,hp];rw[ed];refine⟨_,h.put p,?_⟩;simp only[hp,decide_false,Bool.not_false]at q;rw[WT];generalize L.map sD=LL at*;have e1:aC (aA (dQ true) (aa 6) (ah 3)) (sR x0 fn (.lst LL) (.au d) k o5 (pS (sD p)))=.ok true (sR x0 fn (.lst LL) (.au d) k o5 (pS (sD p))):=by generalize D.au d=DD,sD p=z at*;simp[aC,aa,ah,q,S.d]
  rw[rB,F8,e1];show(ar (dE 3 (aa 6) (eD (.bl true))) (cL 2 (aa 6))) (sR x0 fn (.lst LL) (.au d) k o5 (pS (sD p)))=_;show _=Rs.ok Fl.next (sR x0 fn (.lst (LL++[sD p])) _ k o5 _);generalize sD p=z at*;simp[dE,jl,aa,kt,hz,cL,jg,putL,og,S.d]
theorem tK(L:List Nat)(p:Nat)(r:List Nat):bo L (p::r)=bo (bo L [p]) r:=by simp only[bo]
theorem L3(x0 fn:D)(k:Int)(o5:Option S):∀(ps L:List Nat)(d:List (aZ×D))(o6:Option S),Fd d L (λ_=>.bl true)->L.length+ps.length<=1000->∃d' o6',Fd d' (bo L ps) (λ_=>.bl true)/\forL (ag [] 6) rB (ps.map sD) (sR x0 fn (.lst (L.map sD)) (.au d) k o5 o6)=.ok .next (sR x0 fn (.lst ((bo L ps).map sD)) (.au d') k o5 o6')|[],L,d,o6,h,_=>⟨d,o6,h,rfl⟩|p::ps,L,d,o6,h,hl=>by obtain⟨d1,h1,e1⟩:=qal x0 fn k L d h (by simp at hl;lia) p o5;obtain⟨d2,o6',h2,e2⟩:=L3 x0 fn k o5 ps (bo L [p]) d1 (pS (sD p)) h1 (by have:=A7 [p] L;simp at this hl⊢;lia);rw[tK];refine⟨d2,o6',h2,?_⟩;show forL _ _ (sD p::ps.map sD) _=_;rw[lN (ZW:=sR x0 fn (.lst (L.map sD)) (.au d) k o5 (pS (sD p))) rfl e1];exact e2
theorem By(I:Nat->Dl->Prop)(hs:∀k<n,∀U,I k U->∃XV,t U=.ok true U/\b U=.ok .next XV/\I (k+1) XV)(he:∀U,I n U->t U=.ok false U):∀(m k:Nat)(U:Dl)(fu:Nat),k+m=n->m<fu->I k U->∃ZB,I n ZB/\dY t b fu U=.ok .next ZB
 |0,k,U,fu,e,hf,h=>by
  obtain rfl:k=n:=by lia
  obtain⟨fu,rfl⟩:∃x,fu=x+1:=⟨fu-1,Y'⟩;exact⟨U,h,Ll (he U h)⟩|m+1,k,U,fu,e,hf,h=>by obtain⟨fu,rfl⟩:∃x,fu=x+1:=⟨fu-1,Y'⟩;obtain⟨XV,e1,e2,h2⟩:=hs k Y' U h;obtain⟨ZB,h3,e3⟩:=By I hs he m (k+1) XV fu Y' Y' h2;exact⟨ZB,h3,%[Bm e1 e2|e3]⟩
theorem wM(a b:Nat):gN (.int a) (.int b)=pS (.bl (decide (a<b))):=by
 by_cases h:a<b;.simp[gN,eK,h]
 .simp[gN,eK,h]
theorem Bz(L:List Nat)(k:Nat)(h:k<L.length):aw (.lst (L.map sD)) (.int k)=pS (sD (L.getD k 0)):=by show(eN (L.map sD) (k:Int)).map S.pure=_;rw[iM];simp[h]
section
variable{pt:Nat->List Nat}
theorem zfF(fa:Jw)(F:D->Option D)(cg:ts.length<=26)(h0:x0∈ts)(hp:∀t∈ts,∀p∈pt t,p∈ts)(hlen:∀t∈ts,(pt t).length<=16)(hF:∀t∈ts,F (sD t)=some (.lst ((pt t).map sD)))(hn:(bf pt x0 n).length=n)(jT:n<=ts.length)(hj:∀j<n,j<(bf pt x0 j).length)(d0:List (aZ×D))(hd:Fd d0 [x0] λ_=>.bl true):∃d' o5 o6,dY (aC (aj gN 4 (aq (az aX (ah 2))))) (ar (ax (aj aw 2 (ah 4)) (ag [] 5)) (ar (bE (aK (jq fa F 1 (aa 5))) (ag [] 6) rB) (ax (aj aU 4 (aq (eD (.int 1)))) (ag [] 4)))) 1000000 (sR (sD x0) (.fn fa) (.lst ([x0].map sD)) (.au d0) 0 none none)=.ok .next (sR (sD x0) (.fn fa) (.lst ((bf pt x0 n).map sD)) (.au d') n o5 o6):=by
 obtain⟨ZB,⟨d',o5,o6,e,_⟩,h⟩:=By (t:=aC (aj gN 4 (aq (az aX (ah 2))))) (b:=ar (ax (aj aw 2 (ah 4)) (ag [] 5)) (ar (bE (aK (jq fa F 1 (aa 5))) (ag [] 6) rB) (ax (aj aU 4 (aq (eD (.int 1)))) (ag [] 4)))) (n:=n) (λk U=>∃d o5 o6,U=sR (sD x0) (.fn fa) (.lst ((bf pt x0 k).map sD)) (.au d) k o5 o6/\Fd d (bf pt x0 k) λ_=>.bl true) λk hk U hh=>by
  obtain⟨d,o5,o6,e,h⟩:=hh
  subst e;have kl:=hj k hk;have gD:∀x∈bf pt x0 k,x∈ts:=oD h0 hp k λj h=>hj j Y';have ll:=tu (tE (pt:=pt) (x0:=x0) k) gD;have hx:=Bz (bf pt x0 k) k kl;have ht:(bf pt x0 k).getD k 0∈ts:=gD _ %[Qk,W8 kl|WQ _];have hf:=hF _ ht;have hl:=hlen _ ht;obtain⟨d2,o6',h2,e2⟩:=L3 (sD x0) (.fn fa) k (pS (sD ((bf pt x0 k).getD k 0))) (pt ((bf pt x0 k).getD k 0)) (bf pt x0 k) d o6 h Y';have bc:=wM k (bf pt x0 k).length;rw[decide_eq_true kl]at bc;have BC:aX (.lst ((bf pt x0 k).map sD))=pS (.int (bf pt x0 k).length):=#v[aX];have had:aU (.int k) (.int 1)=pS (.int ((k+1:Nat):Int)):=#v[aU];have eb:bf pt x0 (k+1)=bo (bf pt x0 k) (pt ((bf pt x0 k).getD k 0)):=rfl;refine⟨sR (sD x0) (.fn fa) (.lst ((bf pt x0 (k+1)).map sD)) (.au d2) ((k+1:Nat):Int) (pS (sD ((bf pt x0 k).getD k 0))) o6',?_,?_,d2,_,o6',rfl,%[eb|h2]⟩;.generalize D.au d=DD,D.lst ((bf pt x0 k).map sD)=LL,((bf pt x0 k).length:Int)=zl at*;simp[aC,aj,bB,ah,BC,bc,S.d]
  .rw[eb];generalize hP:(pt ((bf pt x0 k).getD k 0)).map sD=PP,(bo (bf pt x0 k) (pt ((bf pt x0 k).getD k 0))).map sD=L2,hz:sD ((bf pt x0 k).getD k 0)=z,(bf pt x0 k).map sD=L1 at*;have ei:aK (jq fa F 1 (aa 5)) (sR (sD x0) (.fn fa) (.lst L1) (.au d) k (pS z) o6)=.ok PP (sR (sD x0) (.fn fa) (.lst L1) (.au d) k (pS z) o6):=by generalize D.au d=DD,sD x0=y at*;simp[ZQ,jq,aa,hf,S.d]
   refine(fj (ZW:=sR (sD x0) (.fn fa) (.lst L1) (.au d) k (pS z) o6) ?_).trans ((fj (ZW:=sR (sD x0) (.fn fa) (.lst L2) (.au d2) k (pS z) o6') ((c7 ei).trans e2)).trans ?_);.generalize D.au d=DD,sD x0=y at*;simp[ax,aj,bB,ah,hx,S.d]
   .generalize D.au d2=DD,sD x0=y,((k+1:Nat):Int)=k1 at*;simp[ax,aj,bB,ah,had,S.d] λU hh=>by obtain⟨d,o5,o6,e,h⟩:=hh;subst e;have bc:=wM n (bf pt x0 n).length;rw[hn,decide_eq_false (Qh n)]at bc;have BC:aX (.lst ((bf pt x0 n).map sD))=pS (.int n):=#v[aX,hn];generalize D.au d=DD,D.lst ((bf pt x0 n).map sD)=LL at*;simp[aC,aj,bB,ah,BC,bc,S.d] n 0 (sR (sD x0) (.fn fa) (.lst ([x0].map sD)) (.au d0) 0 none none) 1000000 Y' Y' ⟨d0,none,none,rfl,hd⟩;subst e;exact⟨d',o5,o6,h⟩
theorem zcP(fa:Jw)(F:D->Option D)(cg:ts.length<=26)(h0:x0∈ts)(hp:∀t∈ts,∀p∈pt t,p∈ts)(hlen:∀t∈ts,(pt t).length<=16)(hF:∀t∈ts,F (sD t)=some (.lst ((pt t).map sD)))(hn:(bf pt x0 n).length=n)(jT:n<=ts.length)(hj:∀j<n,j<(bf pt x0 j).length):iu lL 7 fa F [sD x0,.fn fa]=some (.lst ((bf pt x0 n).map sD)):=by
 have hd:Fd (putD [] (.inr [x0]) (.bl true)) [x0] λ_=>.bl true:=Fd.put (f:=λ_=>D.bl true) Fd.nil x0;obtain⟨d',o5,o6,e⟩:=zfF fa F cg h0 hp hlen hF hn jT hj _ hd;have kt:cb (sD x0)=some (.inr [x0]):=rfl;unfold iu;refine Option.map_eq_some_iff.mpr ⟨(.own (.lst ((bf pt x0 n).map sD)),[.pure (sD x0),.pure (.fn fa)]),?_,rfl⟩;have run:lL fa F (bY 7 [.pure (sD x0),.pure (.fn fa)])=.ok (.ret (.own (.lst ((bf pt x0 n).map sD)))) [pS (sD x0),pS (.fn fa),none,pO (.au d'),pS (.int n),o5,o6]:=by unfold lL;refine aR ?_ cN;refine aR ?_ (by simp[ax,nZ,aa,kt,S.d];rfl);refine aR ?_ cN;refine aR ?_ e;generalize(bf pt x0 n).map sD=LL;simp[lh]
 unfold fB;rw[show[sD x0,D.fn fa].map S.pure=[.pure (sD x0),.pure (.fn fa)]from rfl,run];simp[e_,da]
end
theorem L4:∀k,k<26->gF.drop k=(97+k)::gF.drop (k+1):=by decide
def nd:Nat->List Nat->List (aZ×D)|_,[]=>[]|k,x::r=>(.inr [x],sD (97+k))::nd (k+1) r
theorem L5:∀(L:List Nat)(k:Nat),k+L.length<=26->pz (L.map sD) ((gF.drop k).map λn=>D.str [n])=some (nd k L)|[],k,_=>#v[pz,nd]|x::r,k,h=>by rw[L4 k (by simp at h;lia)];have:=L5 r (k+1) (by simp at h⊢;lia);simp only[Wi,pz,this,cb,nd]
theorem BD:∀(L:List Nat)(k:Nat),(nd k L).map (·.1)=L.map λx=>(Sum.inr [x]:aZ)|[],_=>rfl|x::r,k=>#v[nd,BD r]
theorem L6(x:Nat):∀(L:List Nat)(k:Nat),cX (nd k L) (.inr [x])=if x∈L then some (sD (97+(k+L.idxOf x)))else none
 |[],_=>rfl|y::r,k=>by
  have ih:=L6 x r (k+1);unfold cX at ih⊢;simp only[nd,Q7];by_cases h:y=x;.subst h;simp
  .have h':¬x=y:=λe=>h e.symm;have e:decide ((Sum.inr [y]:aZ)=.inr [x])=false:=#v[h];have hb:(y==x)=false:=#v[h];simp only[e,ih,List.idxOf_cons,hb,Wf,h',false_or,cond_false];split;.congr 2;lia
   .rfl
theorem L7(L:List Nat):Fd (nd 0 L) L λx=>sD (97+L.idxOf x):=⟨λx=>by rw[L6,Qs],by have:=congrArg WV (BD L 0);simp at this;lia⟩
theorem zgz(L:List Nat)(hU:L.Nodup)(hl:L.length<=26)(U:Dl)(e1:aa 1 U=.ok (.pure (.lst (L.map sD))) U):se (aa 1) (eD (.str gF)) U=.ok (.own (.au (nd 0 L))) U:=by
 have p:=L5 L 0 Y';have hz:(nd 0 L).length<=Wb:=by have:=(L7 L).2;rw[de];lia
 have hp:jk (nd 0 L) []=nd 0 L:=by
  rw[tH];.rfl
  .rw[J3,BD,Q2,QM];rw[Q2]at hU;exact hU.imp λ{a b}gw=>~~~gw
 unfold se;rw[e1];rw[List.drop_zero]at p;simp only[jn,eD,S.d,lE,p,if_pos hz,hp]
theorem L8:∀(rs:List Tx),(∀r∈rs,r.length=w)->∀(i:Nat)(h:i<rs.length),(rs.flatten.drop (w*i)).take w=rs[i]|r::rs,hr,0,_=>by have:=hr r (.head _);simp[<-this]|r::rs,hr,i+1,h=>by have e:=hr r (.head _);have:=L8 rs (λr' h'=>hr r' (.tail _ h')) i (~~~h);rw[List.flatten_cons,Nat.mul_succ,Nat.add_comm,<-List.drop_drop];rw[show(r++rs.flatten).drop w=rs.flatten by rw[<-e];simp];simpa using this
theorem zgC(xs:List α)(a b:Nat)(h:b<=xs.length)(gw:a<=b):bC xs (some (a:Int)) (some (b:Int))=(xs.drop a).take (b-a):=by
 have h1:¬(a:Int)<0:=by lia
 have h2:¬(b:Int)<0:=by lia
 unfold bC Lake.ba;simp[h1,h2,Uw h,Uw (Qe gw h)]
theorem zgD(hl:X.length<=1000)(h:w*i+w<=X.length):dA (some ((w*i:Nat):Int)) (some ((w*i+w:Nat):Int)) (.str X)=pS (.str ((X.drop (w*i)).take w)):=by rw[uO X hl,zgC X _ _ h Y',Nat.add_sub_cancel_left]
abbrev sN(ru th fn H W B:D)(nm:D)(nl:D)(o8 o9:Option S):Dl:=[pS ru,pS th,pS fn,pS H,pS W,pS B,pO nm,pO nl,o8,o9,none,none]
noncomputable abbrev wN(fa:Jw)(F:D->Option D):DE:=bJ [10] (aK (jq fa F 2 (aa 8))) (ag [] 10) bP (aj aN 6 (ah 10))
abbrev BF:DE:=bJ [11] (cG (aa 3)) (ag [] 11) bP (eQ 9 (dw (aj e8 4 (ah 11))) (dw (aA aU (aj e8 4 (ah 11)) (ah 4))))
abbrev nB(fa:Jw)(F:D->Option D):DS:=ar (ax (az (cO []) (aq (wN fa F))) (ag [] 9)) (cL 7 (aQ (ao (aj aN 6 (ah 8)) (ao (az cm (aq BF)) aD))))
theorem ziw(fa:Jw)(F:D->Option D)(ru th H W B nl:D){ps:List Nat}{d:List (aZ×D)}{f:Nat->Nat}(h:Fd d L λx=>sD (f x)){t:Nat}(hF:F (sD t)=some (.lst (ps.map sD)))(hp:∀p∈ps,p∈L)(hl:ps.length<=16)(o9:Option S):wN fa F (sN ru th (.fn fa) H W B (.au d) nl (pS (sD t)) o9)=.ok (.own (.lst ((ps.map f).map sD))) (sN ru th (.fn fa) H W B (.au d) nl (pS (sD t)) o9):=by
 have ei:aK (jq fa F 2 (aa 8)) (sN ru th (.fn fa) H W B (.au d) nl (pS (sD t)) o9)=.ok (ps.map sD) (sN ru th (.fn fa) H W B (.au d) nl (pS (sD t)) o9):=by generalize ps.map sD=PP,D.au d=DD,sD t=z at*;simp[ZQ,jq,aa,hF,S.d]
 have ec:=cS (j:=10) (np:=[]) (it:=aK (jq fa F 2 (aa 8))) (el:=aj aN 6 (ah 10)) sD (λp=>sD (f p)) ei Y' λp dI=>by have q:=h.ix (hp p dI);generalize D.au d=DD,sD p=z,sD (f p)=y at*;simp[aj,bB,ah,q,S.d]
 rw[wN,ec,Wq];rfl
theorem ziv(fa:D)(ru th B nm nl z:D)(hh:h<=4)(hw:w<=4)(X:Tx)(hX:X.length=h*w):BF (sN ru th fa (.int h) (.int w) B nm nl (pS z) (pS (.str X)))=.ok (.own (.lst ((WB h).map λi=>D.str ((X.drop (w*i)).take w)))) (sN ru th fa (.int h) (.int w) B nm nl (pS z) (pS (.str X))):=by
 have hm:h*w<=16:=Nat.mul_le_mul hh hw;have ei:cG (aa 3) (sN ru th fa (.int h) (.int w) B nm nl (pS z) (pS (.str X)))=.ok ((WB h).map λi:Nat=>D.int (i:Nat)) (sN ru th fa (.int h) (.int w) B nm nl (pS z) (pS (.str X))):=by rw[zc];simp only[aa,JJ,JG,jn];rw[vB h Y'];simp[e9]
 have ec:=cS (j:=11) (np:=[]) (it:=cG (aa 3)) (el:=eQ 9 (dw (aj e8 4 (ah 11))) (dw (aA aU (aj e8 4 (ah 11)) (ah 4)))) (λi:Nat=>D.int (i:Nat)) (λi=>D.str ((X.drop (w*i)).take w)) ei V' λi hi=>by
  have hi:i<h:= ~~~hi;have EN:w*i+w<=h*w:=by have:=Nat.mul_le_mul_right w hi;rw[Nat.succ_mul]at this;rw[Nat.mul_comm w i];exact this
  have cr:=zgD (X:=X) (w:=w) (i:=i) Y' Y';have m1:e8 (.int w) (.int i)=pS (.int ((w*i:Nat):Int)):=by
   have c:jK w i=true:=by simp[jK];lia
   simp[e8,fJ,c]
  have a1:aU (.int ((w*i:Nat):Int)) (.int w)=pS (.int ((w*i+w:Nat):Int)):=#v[aU];generalize D.str ((X.drop (w*i)).take w)=y,D.str X=xx,((w*i+w:Nat):Int)=j2,((w*i:Nat):Int)=j1,D.int (w:Int)=ww,D.int (i:Int)=ii at*;simp[eQ,dw,aA,aj,bB,ah,m1,a1,cr,S.d]
 exact ec
def gG(bs:List (Nat×List Tx))(g:Nat->Nat)(f:Nat->Nat)(t:Nat):D:=.tup [sD (f t),.tup ((bR bs t).map λr=>.str (r.map g))]
theorem zdG(R:ck h w bs)(ht:t∈bs.map (·.1))(g:Nat->Nat):((WB h).map λi=>D.str ((((aE bs t).map g).drop (w*i)).take w))=(bR bs t).map λr=>D.str (r.map g):=by obtain⟨b,hb,rfl,_,eb⟩:=lR ht;obtain⟨b1,b2⟩:=R.bR b hb;unfold aE;rw[eb];refine Jg #v[b1] λi h1 h2=>?_;simp only[List.getElem_map,List.getElem_range];rw[<-List.map_drop,<-List.map_take,L8 b.2 (λr hr=>(b2 r hr).1) i (~~~h2)]
section
variable{h w:Nat}{bs:List (Nat×List Tx)}
section
variable(R:ck h w bs)(fa:Jw)(F:D->Option D)(ru th B:D){d:List (aZ×D)}{f:Nat->Nat}(hf:Fd d L λx=>sD (f x))(hL:∀t∈L,t∈bs.map (·.1))(hc:∀t∈L,∀p∈aE bs t,hd p∈L)(hF:∀t∈L,F (sD t)=some (.lst ((aE bs t).map λp=>sD (hd p))))
include R hf hL hc hF
theorem qam(ht:t∈L)(nl:List D)(hn:nl.length<=1000)(o9:Option S):∃o9',nB fa F (sN ru th (.fn fa) (.int h) (.int w) B (.au d) (.lst nl) (pS (sD t)) o9)=.ok .next (sN ru th (.fn fa) (.int h) (.int w) B (.au d) (.lst (nl++[gG bs (λp=>f (hd p)) f t])) (pS (sD t)) o9'):=by
 obtain⟨l1,l2,l3⟩:=jH R (hL t ht);have hF':F (sD t)=some (.lst (((aE bs t).map hd).map sD)):=by rw[hF t ht,Wq];rfl
 have c1:=ziw fa F ru th (.int h) (.int w) B (.lst nl) hf hF' (λp hp=>by obtain⟨q,hq,rfl⟩:=Wu.mp hp;exact hc t ht q hq) V' o9;rw[Wq (g:=f)]at c1;have jj:=zb ((aE bs t).map (f∘hd)) V';have c2:=ziv (.fn fa) ru th B (.au d) (.lst nl) (sD t) R.h1 R.w1 ((aE bs t).map (f∘hd)) #v[l1];rw[zdG R (hL t ht)]at c2;have q:=hf.ix ht;have hz:nl.length<Wb:=by rw[de];lia
 refine⟨pS (.str ((aE bs t).map (f∘hd))),?_⟩;show _=Rs.ok Fl.next (sN ru th (.fn fa) (.int h) (.int w) B (.au d) (.lst (nl++[.tup [sD (f t),.tup ((bR bs t).map λr=>.str (r.map (f∘hd)))]])) (pS (sD t)) _);generalize((bR bs t).map λr=>D.str (r.map (f∘hd)))=BB at*;unfold nB;generalize wN fa F=E1,BF=E2,D.str ((aE bs t).map (f∘hd))=X,((aE bs t).map (f∘hd)).map sD=XX,D.int (h:Int)=H,D.int (w:Int)=W,sD (f t)=y,sD t=z,D.au d=DD at*;refine(fj (ZW:=sN ru th (.fn fa) H W B DD (.lst nl) (pS z) (pS X)) ?_).trans ?_;.simp[ax,c1,jj,S.d]
 .simp[cL,aQ,ao,aD,aj,bB,ah,q,c2,cm,jg,putL,hz,S.d]
theorem qan(hl:L.length<=1000):∃o8 o9,forL (ag [] 8) (nB fa F) (L.map sD) (sN ru th (.fn fa) (.int h) (.int w) B (.au d) (.lst []) none none)=.ok .next (sN ru th (.fn fa) (.int h) (.int w) B (.au d) (.lst (L.map (gG bs (λp=>f (hd p)) f))) o8 o9):=by obtain⟨ZB,e,nl,p8,p9,h1,-,rfl⟩:=forA sD (g:=ag [] 8) (b:=nB fa F) (λr U=>∃(nl:List D)(o8 o9:Option S),nl++r.map (gG bs (λp=>f (hd p)) f)=L.map (gG bs (λp=>f (hd p)) f)/\r ⊆ L/\U=sN ru th (.fn fa) (.int h) (.int w) B (.au d) (.lst nl) o8 o9) (λt r U hh=>by obtain⟨nl,o8,o9,h1,h2,e⟩:=hh;subst e;have:=congrArg WV h1;simp at this;obtain⟨p9,e1⟩:=qam R fa F ru th B hf hL hc hF (h2 (.head _)) nl Y' o9;exact⟨_,rfl,λy hy=>⟨_,hy.symm.trans e1,_,_,_,~~~h1,λ_ h=>h2 (.tail _ h),rfl⟩⟩) L (sN ru th (.fn fa) (.int h) (.int w) B (.au d) (.lst []) none none) ⟨[],none,none,rfl,λ_ h=>h,rfl⟩;rw[Jk,Qc]at h1;subst h1;exact⟨p8,p9,e⟩
end
theorem zdj(R:ck h w bs)(fa:Jw)(F:D->Option D)(hU:L.Nodup)(hl:L.length<=26)(hL:∀t∈L,t∈bs.map (·.1))(hc:∀t∈L,∀p∈aE bs t,hd p∈L)(hF:∀t∈L,F (sD t)=some (.lst ((aE bs t).map λp=>sD (hd p)))):iu lM 12 fa F [aG h w bs,.lst (L.map sD),.fn fa]=some (.tup [.int h,.int w,.tup (L.map (gG bs (λp=>97+L.idxOf (hd p)) λx=>97+L.idxOf x))]):=by
 obtain⟨o8,o9,e⟩:=qan R fa F (aG h w bs) (.lst (L.map sD)) (.tup (bs.map aL)) (L7 L) hL hc hF Y';unfold iu;refine Option.map_eq_some_iff.mpr ⟨(.pure (.tup [.int h,.int w,.tup (L.map (gG bs (λp=>97+L.idxOf (hd p)) λx=>97+L.idxOf x))]),[.pure (aG h w bs),.pure (.lst (L.map sD)),.pure (.fn fa)]),?_,rfl⟩;have dz:=zgz L hU hl [pS (aG h w bs),pS (.lst (L.map sD)),pS (.fn fa),pS (.int h),pS (.int w),pS (.tup (bs.map aL)),none,none,none,none,none,none] rfl;have ei:aK (aa 1) (sN (aG h w bs) (.lst (L.map sD)) (.fn fa) (.int h) (.int w) (.tup (bs.map aL)) (.au (nd 0 L)) (.lst []) none none)=.ok (L.map sD) (sN (aG h w bs) (.lst (L.map sD)) (.fn fa) (.int h) (.int w) (.tup (bs.map aL)) (.au (nd 0 L)) (.lst []) none none):=by generalize L.map sD=LL;generalize aG h w bs=ru;generalize D.tup (bs.map aL)=B;generalize D.au (nd 0 L)=ND;simp[ZQ,aa,S.d]
 generalize L.map (gG bs (λp=>97+L.idxOf (hd p)) λx=>97+L.idxOf x)=RR at*;have run:lM fa F (bY 12 [.pure (aG h w bs),.pure (.lst (L.map sD)),.pure (.fn fa)])=.ok (.ret (.pure (.tup [.int h,.int w,.tup RR]))) (sN (aG h w bs) (.lst (L.map sD)) (.fn fa) (.int h) (.int w) (.tup (bs.map aL)) (.au (nd 0 L)) (.lst RR) o8 o9):=by
  unfold lM;refine(fj (ZW:=[pS (aG h w bs),pS (.lst (L.map sD)),pS (.fn fa),pS (.int h),pS (.int w),pS (.tup (bs.map aL)),none,none,none,none,none,none]) ?_).trans ((fj (ZW:=[pS (aG h w bs),pS (.lst (L.map sD)),pS (.fn fa),pS (.int h),pS (.int w),pS (.tup (bs.map aL)),pO (.au (nd 0 L)),none,none,none,none,none]) ?_).trans ((fj (ZW:=sN (aG h w bs) (.lst (L.map sD)) (.fn fa) (.int h) (.int w) (.tup (bs.map aL)) (.au (nd 0 L)) (.lst []) none none) ?_).trans ((fj ((c7 ei).trans e)).trans ?_)));.unfold aG;generalize L.map sD=LL;generalize D.tup (bs.map aL)=B;generalize D.int (h:Int)=H;generalize D.int (w:Int)=W;simp[bY,ax,aa,cj,a7,cw,S.d]
  .unfold ax;rw[dz];rfl
  .generalize L.map sD=LL;generalize aG h w bs=ru;generalize D.tup (bs.map aL)=B;generalize D.au (nd 0 L)=ND;simp[ax]
  .generalize L.map sD=LL;generalize aG h w bs=ru;generalize D.tup (bs.map aL)=B;generalize D.au (nd 0 L)=ND;simp[aQ,ao,aD,aa,ah,cm,S.d]
 unfold fB;rw[show[aG h w bs,.lst (L.map sD),D.fn fa].map S.pure=[.pure (aG h w bs),.pure (.lst (L.map sD)),.pure (.fn fa)]from rfl,run];simp[e_,da]
end
def zz:Nat->List Nat->List (Nat×Nat)|_,[]=>[]|k,x::r=>(97+k,x)::zz (k+1) r
theorem L9:∀(L:List Nat)(k:Nat),k+L.length<=26->kq ((gF.drop k).map λn=>D.str [n]) (L.map sD)=(zz k L).map λp=>D.tup [sD p.1,sD p.2]|[],k,_=>#v[kq,zz]|x::r,k,h=>by rw[L4 k (by simp at h;lia)];have:=L9 r (k+1) (by simp at h⊢;lia);unfold kq at this⊢;simp only[Wi,List.zipWith_cons_cons,this,zz]
theorem L_(f:Nat->Nat):∀(r:List Nat)(k:Nat),(∀(i:Nat)x,r[i]?=some x->f x=k+i)->zz k r=r.map λx=>(97+f x,x)|[],_,_=>rfl|x::r,k,h=>by have h0:=h 0 x rfl;rw[zz,L_ f r (k+1) λi y e=>by have:=h (i+1) y (~~~e);lia,Wi,h0];rfl
theorem Ma:∀(L:List Nat),L.Nodup->∀(i:Nat)x,L[i]?=some x->L.idxOf x=i|y::r,hn,0,x,e=>by simp at e;subst e;simp|y::r,hn,i+1,x,e=>by have hn:=WW.mp hn;have hx:r[i]?=some x:= ~~~e;have ne:y≠x:=λz=>hn.1 (z▸Wj hx);have hb:(y==x)=false:=#v[ne];rw[List.idxOf_cons,hb,Ma r hn.2 i x hx];rfl
theorem zgS(L:List Nat)(hU:L.Nodup):zz 0 L=L.map λx=>(97+L.idxOf x,x):=L_ _ L 0 λi x e=>by rw[Ma L hU i x e];lia
noncomputable def iS:Option S->Option S|some (.own d)=>pS d|x=>x
theorem zgs(o:Option S)(U:Dl)(h:U[7]?=some (iS o)):dP U 7=false:=by unfold dP;rw[h];unfold iS;cases o with|none=>rfl|some s=>cases s<;>rfl
abbrev sL(pd ru st pt tx dl:D)(z6 z7:Option S)(fn:D)(o9 jF o11:Option S):Dl:=[pS pd,pS ru,pS st,pS pt,pS tx,pS dl,z6,z7,pS fn,o9,jF,o11,none]
abbrev lC:DE:=bJ [12,7] (jZ (eD (.str gF)) (aa 9)) (cj 2 (a7 (ag [] 12) (a7 (ag [] 7) cw))) bP (aQ (ao (aa 12) (ao (aj aN 10 (ah 7)) aD)))
theorem qao(pd ru st pt tx dl:D)(o6 o7:Option S)(fn:D)(SG:D)(sg:Nat->Nat)(hU:L.Nodup)(hl:L.length<=26)(hs:∀x∈L,aN SG (sD x)=pS (sD (sg x))):lC (sL pd ru st pt tx dl o6 (iS o7) fn (pS (.lst (L.map sD))) (pO SG) none)=.ok (.own (.lst (L.map λx=>D.tup [sD (97+L.idxOf x),sD (sg x)]))) (sL pd ru st pt tx dl o6 (iS o7) fn (pS (.lst (L.map sD))) (pO SG) none):=by
 have z:=L9 L 0 Y';rw[List.drop_zero,zgS L hU,Wq]at z;have ei:jZ (eD (.str gF)) (aa 9) (sL pd ru st pt tx dl o6 (iS o7) fn (pS (.lst (L.map sD))) (pO SG) none)=.ok (L.map λx=>D.tup [sD (97+L.idxOf x),sD x]) (sL pd ru st pt tx dl o6 (iS o7) fn (pS (.lst (L.map sD))) (pO SG) none):=by have z':kq (gF.map λn=>D.str [n]) (L.map sD)=L.map λx=>D.tup [sD (97+L.idxOf x),sD x]:=z;unfold jZ;simp only[eD,jn,aa,JJ,JG,S.d,lE,z']
 have ec:=cM (cs:=[12,7]) (it:=jZ (eD (.str gF)) (aa 9)) (g:=cj 2 (a7 (ag [] 12) (a7 (ag [] 7) cw))) (t:=bP) (el:=aQ (ao (aa 12) (ao (aj aN 10 (ah 7)) aD))) (λx:Nat=>D.tup [sD (97+L.idxOf x),sD x]) (λx=>D.tup [sD (97+L.idxOf x),sD (sg x)]) ei Y' λx hx=>by have q:=hs x hx;refine⟨[pS pd,pS ru,pS st,pS pt,pS tx,pS dl,o6,pS (sD x),pS fn,pS (.lst (L.map sD)),pO SG,none,pS (sD (97+L.idxOf x))],_,.pure (.tup [sD (97+L.idxOf x),sD (sg x)]),[pS pd,pS ru,pS st,pS pt,pS tx,pS dl,o6,pS (sD x),pS fn,pS (.lst (L.map sD)),pO SG,none,pS (sD (97+L.idxOf x))],rfl,rfl,?_,rfl,rfl⟩;generalize sD (97+L.idxOf x)=a,sD (sg x)=b,sD x=y,L.map sD=LL at*;simp[aQ,ao,aD,aa,aj,bB,ah,q,S.d] (by have:=zgs o7 (sL pd ru st pt tx dl o6 (iS o7) fn (pS (.lst (L.map sD))) (pO SG) none) rfl;simp only[Qj,List.any_nil,this];rfl);rw[lC,ec];rfl
abbrev lG(fa:Jw):DS:=ar (ax (lD 1 (iu lL 7 fa) [5,4] jA [.val (aj aN 5 (ah 2)),.val (aa 8)]) (ag [] 9)) (ar (ax (az dD (ah 3)) (ag [] 10)) (ar (ax (az cm (aq lC)) (ag [] 11)) (bh (aQ (ao (lD 1 (iu lM 12 fa) [5,4] jA [.val (aa 1),.val (aa 9),.val (aa 8)]) (ao (aA aw (eD (.str gF)) (aq (eD (.int 0)))) (ao (aa 11) aD)))))))
theorem qap(fa:Jw)(pd ru st pt TX DL X0 LL SG NR:D)(SS:List D)(z6 z7:Option S)(x1:aN DL st=pS X0)(r1:iu lL 7 fa (jY 1 jA [DL,TX]) [X0,.fn fa]=some LL)(d1:dD pt=pO SG)(c1:lC (sL pd ru st pt TX DL z6 z7 (.fn fa) (pS LL) (pO SG) none)=.ok (.own (.lst SS)) (sL pd ru st pt TX DL z6 z7 (.fn fa) (pS LL) (pO SG) none))(r2:iu lM 12 fa (jY 1 jA [DL,TX]) [ru,LL,.fn fa]=some NR):lG fa (sL pd ru st pt TX DL z6 z7 (.fn fa) none none none)=.ok (.ret (.pure (.tup [NR,sD 97,.tup SS]))) (sL pd ru st pt TX DL z6 z7 (.fn fa) (pS LL) (pO SG) (pS (.tup SS))):=by have i0:aw (.str gF) (.int 0)=pS (sD 97):=#v[aw,ku,de];unfold lG;generalize lC=C,D.str gF=NN,iu lL 7 fa=W1,iu lM 12 fa=W2,hc:jY 1 jA [DL,TX]=K,D.fn fa=fn at*;refine aR ?_ (by simp[ax,lD,cV,aa,ah,aj,bB,x1,om,mO,hc,r1,S.d];rfl);refine aR ?_ cN;refine aR ?_ cN;simp[aQ,ao,aD,lD,cV,aa,om,mO,hc,r2,i0,S.d]
theorem qaq(GT GA:DF)(lg:Jw->DS)(ru st pt TX:D)(GS:List D)(d:List (aZ×D))(o6 o7:Option S)(r:D)(o9 jF o11:Option S)(gt:GT [.pure ru,.pure (.int 1)]=some (.own TX,[.pure ru,.pure (.int 1)]))(ga:GA [.pure ru,.pure pt]=some (.own (.lst GS),[.pure ru,.pure pt]))(lp:forL (ag [] 6) lF GS (sP (pS (.tup [ru,st,pt])) (pS ru) (pS st) (pS pt) (pO TX) (pO (.au [])) none none)=.ok .next (sP (pS (.tup [ru,st,pt])) (pS ru) (pS st) (pS pt) (pO TX) (pO (.au d)) o6 o7))(hg:∀fa,lg fa (sL (.tup [ru,st,pt]) ru st pt TX (.au d) (iS o6) (iS o7) (.fn fa) none none none)=.ok (.ret (.pure r)) (sL (.tup [ru,st,pt]) ru st pt TX (.au d) (iS o6) (iS o7) (.fn fa) o9 jF o11)):bI [] 13 (ar (ax (aa 0) (cj 3 (a7 (ag [] 1) (a7 (ag [] 2) (a7 (ag [] 3) cw))))) (ar (ax (aF GT [.val (aa 1),.val (eD (.int 1))]) (ag [] 4)) (ar (ax nV (ag [] 5)) (ar (bE (aK (aF GA [.val (aa 1),.val (aa 3)])) (ag [] 6) lF) (dDefR 8 lg))))) [.pure (.tup [ru,st,pt])]=some (.pure r,[.pure (.tup [ru,st,pt])]):=by
 have hd:=Zm (j:=8) (g:=lg) (U:=sP (pS (.tup [ru,st,pt])) (pS ru) (pS st) (pS pt) (pO TX) (pO (.au d)) o6 o7) (ZB:=[pS (.tup [ru,st,pt]),pS ru,pS st,pS pt,pS TX,pS (.au d),iS o6,iS o7,none,o9,jF,o11,none]) (r:=r) λfa=>hg fa;apply gi;iterate 3 refine aR ?_ cN
 refine aR ?_ ((c7 cN).trans lp);exact hd
def j5(h w:Nat)(bs:List (Nat×List Tx))(L:List Nat)(hd sg:Nat->Nat):D:=.tup [.tup [.int h,.int w,.tup (L.map (gG bs (λp=>97+L.idxOf (hd p)) λx=>97+L.idxOf x))],sD 97,.tup (L.map λx=>D.tup [sD (97+L.idxOf x),sD (sg x)])]
structure Wk(bs:List (Nat×List Tx))(hd:Nat->Nat)(st n:Nat):Prop where
 len:(bf (λt=>(aE bs t).map hd) (hd st) n).length=n
 le:n<=bs.length
 lt:∀j<n,j<(bf (λt=>(aE bs t).map hd) (hd st) j).length
abbrev aS(bs:List (Nat×List Tx))(hd:Nat->Nat)(st n:Nat):List Nat:=bf (λt=>(aE bs t).map hd) (hd st) n
section
variable{h w:Nat}{bs:List (Nat×List Tx)}{st:Nat}
theorem Mb(R:ck h w bs):(∀t∈bs.map (·.1),∀p∈(aE bs t).map (ay c (bs.map (·.1))),p∈bs.map (·.1))/\∀t∈bs.map (·.1),((aE bs t).map (ay c (bs.map (·.1)))).length<=16:=by
 refine⟨λt ht p hp=>?_,λt ht=>?_⟩;.obtain⟨q,hq,rfl⟩:=Wu.mp hp;exact(lS ((jH R ht).2.2 q hq)).choose_spec.2.1
 .obtain⟨l1,l2,_⟩:=jH R ht;simp;lia
theorem wO(R:ck h w bs)(bV:st∈bs.map (·.1))(W:Wk bs (ay c (bs.map (·.1))) st n):(∀t∈aS bs (ay c (bs.map (·.1))) st n,t∈bs.map (·.1))/\∀t∈aS bs (ay c (bs.map (·.1))) st n,∀p∈aE bs t,ay c (bs.map (·.1)) p∈aS bs (ay c (bs.map (·.1))) st n:=by
 have h0:=(lS (c:=c) bV).choose_spec.2.1;refine⟨oD h0 (Mb R).1 n W.lt,λt ht p hp=>?_⟩;obtain⟨k,hk,e⟩:=List.getElem_of_mem ht;have hkn:k<n:=by rw[<-W.len];exact hk
 obtain⟨s1,e1⟩:=mU (pt:=λt=>(aE bs t).map (ay c (bs.map (·.1)))) (x0:=ay c (bs.map (·.1)) st) k (n-k);obtain⟨s2,e2⟩:=mU (pt:=λt=>(aE bs t).map (ay c (bs.map (·.1)))) (x0:=ay c (bs.map (·.1)) st) (k+1) (n-(k+1));rw[show k+(n-k)=n by lia]at e1;rw[show k+1+(n-(k+1))=n by lia]at e2;have bc:=W.lt k hkn;have et:(aS bs (ay c (bs.map (·.1))) st k).getD k 0=t:=by
  rw[Qk,W8 bc];have:(aS bs (ay c (bs.map (·.1))) st n)[k]?=some t:=by rw[W8 hk,e]
  rw[aS,e1,Qn bc,W8 bc]at this;simpa using this
 show _∈bf _ _ n;rw[e2];refine Jv _ ((oB _ _).mpr (.inr ?_));show _∈(λt=>(aE bs t).map (ay c (bs.map (·.1)))) ((aS bs (ay c (bs.map (·.1))) st k).getD k 0);rw[et];exact WL hp
end
theorem BG{h w:Nat}{bs:List (Nat×List Tx)}{st:Nat}(R:ck h w bs)(hp:ps.map (·.1)=bs.map (·.1))(bV:st∈bs.map (·.1)):∃c n,Res (bs.map (·.1)) (aE bs) (dh ps) c/\Wk bs (ay c (bs.map (·.1))) st n/\G_least_floor [.pure (.tup [aG h w bs,sD st,dg ps])]=some (.pure (j5 h w bs (aS bs (ay c (bs.map (·.1))) st n) (ay c (bs.map (·.1))) (dh ps)),[.pure (.tup [aG h w bs,sD st,dg ps])]):=by
 obtain⟨c,rs,ga⟩:=zfM R hp;have gt:=zcT R;have n1:=R.n1;have h0:=(lS (c:=c) bV).choose_spec.2.1;obtain⟨p1,p2⟩:=Mb (c:=c) R;obtain⟨n,hn,jT,hj⟩:=zj7 h0 p1;have W:Wk bs (ay c (bs.map (·.1))) st n:=⟨hn,~~~jT,hj⟩;refine⟨c,n,rs,W,?_⟩;obtain⟨w1,w2⟩:=wO R bV W;generalize cg:bs.map (·.1)=ts at*;have tl:ts.length<=26:=by rw[<-cg];simpa using n1
 obtain⟨d,l,o6,o7,hF,hcov,_,lp⟩:=L0 (pS (.tup [aG h w bs,sD st,dg ps])) (pS (aG h w bs)) (pS (sD st)) (pS (dg ps)) (pO (dG bs)) (c:=c) tl (bo [] (ts.map λt=>fit c ts (c t))) (λg hg=>by
 rcases(oB _ _).mp hg with z|z;.cases z
 .obtain⟨t,ht,rfl⟩:=Wu.mp z;exact⟨t,ht,rfl⟩) [] [] none none Fd.nil (by have:=A7 (ts.map λt=>fit c ts (c t)) [];simp at this⊢;lia);have wm:∀t∈ts,t∈l:=λt ht=>hcov (fit c ts (c t)) ((oB _ _).mpr (.inr (WL (f:=λt=>fit c ts (c t)) ht))) t #v[fit,ht];have mN:∀t∈ts,jY 1 jA [.au d,dG bs] (sD t)=some (.lst ((aE bs t).map λp=>sD (ay c ts p))):=λt ht=>by have ny:t∈bs.map (·.1):=%[cg|ht];obtain⟨l1,l2,l3⟩:=jH R ny;exact zj3 hF ny (λp hp=>wm p (by rw[<-cg];exact l3 p hp)) Y'
 have qar:∀t∈ts,jY 1 jA [.au d,dG bs] (sD t)=some (.lst (((aE bs t).map (ay c ts)).map sD)):=λt ht=>by rw[mN t ht,Wq];rfl
 have nl:=tE (pt:=λt=>(aE bs t).map (ay c ts)) (x0:=ay c ts st) n;have BH:(ps.map (·.1)).Nodup:=by rw[hp,<-cg];exact R.nd
 have pl:ps.length<=26:=by have:=congrArg WV hp;simp at this;lia
 rw[G_least_floor,b_least_floor];refine qaq _ _ lG _ _ _ _ _ d o6 o7 _ _ _ _ gt ga lp λfa=>qap fa _ _ _ _ _ _ _ _ _ _ _ _ _ (hF.ix (wm st bV)) (zcP fa _ tl h0 p1 p2 qar hn jT hj) (wF BH Y') (qao _ _ _ _ _ _ _ _ _ _ (dh ps) nl (by rw[hn];lia) λx hx=>wH %[hp|w1 x hx]) (zdj (hd:=ay c ts) R fa _ nl (by rw[hn];lia) (λt ht=>%[cg|w1 t ht]) w2 λt ht=>mN t (w1 t ht))
theorem Mc(a b:List Nat):∀(H:List Nat),bo H (a++b)=bo (bo H a) b:=by induction a with|nil=>intro H;rfl|cons x r ih=>intro H;rw[Jf,tK,ih,tK H x r]
theorem ziH(k:Nat)(h:k<26):aw (.str gF) (.int k)=pS (sD (97+k)):=by
 have:∀k<26,gF[k]?=some (97+k):=by decide
 simp[aw,iM,this k h,de]
theorem zjb(a:Tx)(n:Nat)(h:a.length<=100):aU (.str a) (sD n)=pS (.str (a++[n])):=by simp[aU,de];lia
abbrev sW(u0 u1 u2 u3 u4 u5 u7:Option S)(HD BL H nm fo:D)(o12 cf cJ bT:Option S):Dl:=[u0,u1,u2,u3,u4,u5,pO HD,u7,pO BL,pO H,pO nm,pO fo,o12,cf,cJ,bT,none,none,none,none]
abbrev zS:DS:=ar (bG (aC (aA (dQ true) (aj aN 6 (ah 15)) (ah 10))) (ar (dE 10 (aj aN 6 (ah 15)) (aA aw (eD (.str gF)) (aq (az aX (ah 9))))) (cL 9 (aj aN 6 (ah 15)))) bL) (ax (aj aU 14 (aq (aj aN 10 (aq (aj aN 6 (ah 15)))))) (ag [] 14))
section
variable(u0 u1 u2 u3 u4 u5 u7:Option S)(HD BL fo:D)(o12 cf:Option S)
theorem qas(hd:Nat->Nat)(p:Nat)(hx:aN HD (sD p)=pS (sD (hd p)))(H:List Nat)(d:List (aZ×D))(hf:Fd d H λx=>sD (97+L.idxOf x))(hL:∃s,L=bo H [hd p]++s)(hl:L.length<=26)(a:Tx)(ha:a.length<=100):∃d',Fd d' (bo H [hd p]) (λx=>sD (97+L.idxOf x))/\zS (sW u0 u1 u2 u3 u4 u5 u7 HD BL (.lst (H.map sD)) (.au d) fo o12 cf (pS (.str a)) (pS (sD p)))=.ok .next (sW u0 u1 u2 u3 u4 u5 u7 HD BL (.lst ((bo H [hd p]).map sD)) (.au d') fo o12 cf (pS (.str (a++[97+L.idxOf (hd p)]))) (pS (sD p))):=by
 obtain⟨s,eL⟩:=hL;have q:=hf.wB (x:=hd p);have hz:d.length<Wb:=by have:=hf.2;have e:=congrArg WV eL;obtain⟨s',es⟩:=qj [hd p] H;rw[es]at e;simp at e;rw[de];lia
 have ad:=zjb a (97+L.idxOf (hd p)) ha;have kt:cb (sD (hd p))=some (.inr [hd p]):=rfl;by_cases hp:hd p∈H;.have ed:bo H [hd p]=H:=#v[bo,hp];rw[ed];refine⟨d,hf,?_⟩;have x2:=hf.ix hp;simp only[hp,decide_true,Bool.not_true]at q;generalize D.str (a++[97+L.idxOf (hd p)])=y1,D.str a=y0,sD (97+L.idxOf (hd p))=y2,D.au d=DD,H.map sD=LL,sD (hd p)=z2,sD p=z,D.str gF=NN at*;exact Run
 .have ed:bo H [hd p]=H++[hd p]:=#v[bo,hp];rw[ed]at eL⊢;have ix:L.idxOf (hd p)=H.length:=by rw[eL,JW,List.idxOf_append,if_neg hp];simp
  have hH:H.length<26:=by have e:=congrArg WV eL;simp at e;lia
  have i1:=ziH H.length hH;rw[<-ix]at i1;have ln:aX (.lst (H.map sD))=pS (.int (L.idxOf (hd p):Nat)):=#v[aX,ix];have og:(H.map sD).length<Wb:=by rw[de];simp;lia
  have Md:=hf.put (hd p);have x2:=Md.ix (x:=hd p) U';refine⟨_,Md,?_⟩;simp only[hp,decide_false,Bool.not_false]at q;rw[WT];show _=Rs.ok Fl.next (sW u0 u1 u2 u3 u4 u5 u7 HD BL (.lst (H.map sD++[sD (hd p)])) _ fo o12 cf _ _);unfold zS;generalize D.str (a++[97+L.idxOf (hd p)])=y1,D.str a=y0,hy2:sD (97+L.idxOf (hd p))=y2,D.int ((L.idxOf (hd p):Nat):Int)=ii at*;generalize hP:putD d (.inr [hd p]) y2=d2,hLL:H.map sD=LL,sD (hd p)=z2,sD p=z,D.str gF=NN at*;refine HG ?_ cN;refine HH (aR ?_ (by simp[dE,jl,aj,bB,ah,hx,kt,ln,i1,hz,hP,S.d];rfl));clear eL hy2 hLL;exact Run
end
abbrev zR:DS:=ar (ax (eD (.str [])) (ag [] 14)) (ar (bE (aK (aa 13)) (ag [] 15) zS) (cL 12 (aa 14)))
section
variable(u0 u1 u2 u3 u4 u5 u7:Option S)(HD BL fo:D)(hl:L.length<=26)(hd:Nat->Nat)
include hl
theorem Me(o12 cf:Option S):∀(r Q H:List Nat)(d:List (aZ×D))(a:Tx)(bT:Option S),(∀p∈r,aN HD (sD p)=pS (sD (hd p)))->Fd d H (λx=>sD (97+L.idxOf x))->(∃s,L=bo H (r.map hd++Q)++s)->a.length+r.length<=100->∃d' o15',Fd d' (bo H (r.map hd)) (λx=>sD (97+L.idxOf x))/\forL (ag [] 15) zS (r.map sD) (sW u0 u1 u2 u3 u4 u5 u7 HD BL (.lst (H.map sD)) (.au d) fo o12 cf (pS (.str a)) bT)=.ok .next (sW u0 u1 u2 u3 u4 u5 u7 HD BL (.lst ((bo H (r.map hd)).map sD)) (.au d') fo o12 cf (pS (.str (a++r.map λp=>97+L.idxOf (hd p)))) o15')|[],Q,H,d,a,bT,_,hf,_,_=>⟨d,bT,hf,#v[forL,bo]⟩|p::r,Q,H,d,a,bT,hx,hf,⟨s,e⟩,ha=>by rw[Wi,Jf,tK]at e;obtain⟨s1,e1⟩:=qj (r.map hd++Q) (bo H [hd p]);obtain⟨d1,h1,k1⟩:=qas u0 u1 u2 u3 u4 u5 u7 HD BL fo o12 cf hd p (hx p (.head _)) H d hf ⟨s1++s,by rw[e,e1,JW]⟩ hl a (by simp at ha;lia);obtain⟨d2,o2,h2,k2⟩:=Me o12 cf r Q (bo H [hd p]) d1 (a++[97+L.idxOf (hd p)]) (pS (sD p)) (λq hq=>hx q (.tail _ hq)) h1 ⟨s,e⟩ (by simp at ha⊢;lia);rw[Wi,tK];refine⟨d2,o2,h2,?_⟩;show forL _ _ (sD p::r.map sD) _=_;rw[lN (ZW:=sW u0 u1 u2 u3 u4 u5 u7 HD BL (.lst (H.map sD)) (.au d) fo o12 cf (pS (.str a)) (pS (sD p))) rfl k1,k2];simp
theorem qat(r Q H:List Nat)(d:List (aZ×D))(rl:List D)(hr:rl.length<=100)(cJ bT:Option S)(hx:∀p∈r,aN HD (sD p)=pS (sD (hd p)))(hf:Fd d H λx=>sD (97+L.idxOf x))(hs:∃s,L=bo H (r.map hd++Q)++s)(ha:r.length<=100):∃d' o14' o15',Fd d' (bo H (r.map hd)) (λx=>sD (97+L.idxOf x))/\zR (sW u0 u1 u2 u3 u4 u5 u7 HD BL (.lst (H.map sD)) (.au d) fo (pO (.lst rl)) (pS (.str r)) cJ bT)=.ok .next (sW u0 u1 u2 u3 u4 u5 u7 HD BL (.lst ((bo H (r.map hd)).map sD)) (.au d') fo (pO (.lst (rl++[.str (r.map λp=>97+L.idxOf (hd p))]))) (pS (.str r)) o14' o15'):=by
 obtain⟨d1,o1,h1,k1⟩:=Me u0 u1 u2 u3 u4 u5 u7 HD BL fo hl hd (pO (.lst rl)) (pS (.str r)) r Q H d [] bT hx hf hs (~~~ha);refine⟨d1,pS (.str (r.map λp=>97+L.idxOf (hd p))),o1,h1,?_⟩;have hz:rl.length<Wb:=by rw[de];lia
 rw[J3]at k1;generalize(bo H (r.map hd)).map sD=L2,H.map sD=L1,D.au d1=D1,D.au d=D0,hRS:r.map sD=RS,D.str (r.map λp=>97+L.idxOf (hd p))=Y at*;have ei:aK (aa 13) (sW u0 u1 u2 u3 u4 u5 u7 HD BL (.lst L1) D0 fo (pO (.lst rl)) (pS (.str r)) (pS (.str [])) bT)=.ok RS (sW u0 u1 u2 u3 u4 u5 u7 HD BL (.lst L1) D0 fo (pO (.lst rl)) (pS (.str r)) (pS (.str [])) bT):=by rw[<-hRS];simp[ZQ,aa,S.d]
 generalize D.str r=R at*;unfold zR;generalize D.str []=E,zS=Z at*;refine(fj (ZW:=sW u0 u1 u2 u3 u4 u5 u7 HD BL (.lst L1) D0 fo (pO (.lst rl)) (pS R) (pS E) bT) ?_).trans ((fj ((c7 ei).trans k1)).trans ?_);.simp[ax]
 .simp[cL,jg,putL,aa,hz,S.d]
theorem Mf:∀(rs:List Tx)(Q H:List Nat)(d:List (aZ×D))(rl:List D)(cf cJ bT:Option S),(∀r∈rs,r.length<=100/\∀p∈r,aN HD (sD p)=pS (sD (hd p)))->Fd d H (λx=>sD (97+L.idxOf x))->(∃s,L=bo H (rs.flatten.map hd++Q)++s)->rl.length+rs.length<=100->∃d' o13' o14' o15',Fd d' (bo H (rs.flatten.map hd)) (λx=>sD (97+L.idxOf x))/\forL (ag [] 13) zR (rs.map .str) (sW u0 u1 u2 u3 u4 u5 u7 HD BL (.lst (H.map sD)) (.au d) fo (pO (.lst rl)) cf cJ bT)=.ok .next (sW u0 u1 u2 u3 u4 u5 u7 HD BL (.lst ((bo H (rs.flatten.map hd)).map sD)) (.au d') fo (pO (.lst (rl++rs.map λr=>D.str (r.map λp=>97+L.idxOf (hd p))))) o13' o14' o15')
 |[],Q,H,d,rl,cf,cJ,bT,_,hf,_,_=>⟨d,cf,cJ,bT,hf,#v[forL,bo]⟩|r::rs,Q,H,d,rl,cf,cJ,bT,hx,hf,hs,hn=>by
  have ef:(r::rs).flatten.map hd++Q=r.map hd++(rs.flatten.map hd++Q):=by simp
  rw[ef]at hs;obtain⟨d1,p14,p15,h1,k1⟩:=qat u0 u1 u2 u3 u4 u5 u7 HD BL fo hl hd r (rs.flatten.map hd++Q) H d rl (by simp at hn;lia) cJ bT (hx r (.head _)).2 hf hs (hx r (.head _)).1;obtain⟨s,e⟩:=hs;rw[Mc]at e;obtain⟨d2,q13,q14,q15,h2,k2⟩:=Mf rs Q (bo H (r.map hd)) d1 (rl++[.str (r.map λp=>97+L.idxOf (hd p))]) (pS (.str r)) p14 p15 (λr' h'=>hx r' (.tail _ h')) h1 ⟨s,e⟩ (by simp at hn⊢;lia);have ef2:bo H ((r::rs).flatten.map hd)=bo (bo H (r.map hd)) (rs.flatten.map hd):=by rw[<-Mc];simp
  rw[ef2];refine⟨d2,q13,q14,q15,h2,?_⟩;show forL _ _ (.str r::rs.map .str) _=_;rw[lN (ZW:=sW u0 u1 u2 u3 u4 u5 u7 HD BL (.lst (H.map sD)) (.au d) fo (pO (.lst rl)) (pS (.str r)) cJ bT) rfl k1,k2];simp
end
abbrev BJ:DE:=aj aw 9 (aq (az aX (ah 11)))
abbrev zW:DS:=ar (ax (bQ aD) (ag [] 12)) (ar (bE (aK (aj aN 8 (aq BJ))) (ag [] 13) zR) (cL 11 (aQ (ao (aj aN 10 (aq BJ)) (ao (az cm (ah 12)) aD)))))
abbrev zT:DT:=aC (aA gN (az aX (ah 11)) (aq (az aX (ah 9))))
theorem Mg{A s:List Nat}{k:Nat}(e:L=A++s)(h:k<A.length)(h2:k<L.length):A.getD k 0=L[k]:=by subst e;simp[List.getElem_append,h]
section
variable{h w:Nat}{bs:List (Nat×List Tx)}{st:Nat}
theorem qau(R:ck h w bs)(u0 u1 u2 u3 u4 u5 u7:Option S)(HD:D)(hx:∀p∈bs.map (·.1),aN HD (sD p)=pS (sD (hd p)))(W:Wk bs hd st n)(gD:∀t∈aS bs hd st n,t∈bs.map (·.1))(d0:List (aZ×D))(hf0:Fd d0 [hd st] λx=>sD (97+(aS bs hd st n).idxOf x)):∃d' o12 cf cJ bT,Fd d' (aS bs hd st n) (λx=>sD (97+(aS bs hd st n).idxOf x))/\dY zT zW 1000000 (sW u0 u1 u2 u3 u4 u5 u7 HD (eX bs) (.lst ([hd st].map sD)) (.au d0) (.lst []) none none none none)=.ok .next (sW u0 u1 u2 u3 u4 u5 u7 HD (eX bs) (.lst ((aS bs hd st n).map sD)) (.au d') (.lst ((aS bs hd st n).map (gG bs (λp=>97+(aS bs hd st n).idxOf (hd p)) λx=>97+(aS bs hd st n).idxOf x))) o12 cf cJ bT):=by
 have n1:=R.n1;have Wl:=W.len;have Wle:=W.le;have pre:∀k,k<=n->∃s,aS bs hd st n=bf (λt=>(aE bs t).map hd) (hd st) k++s:=λk hk=>by obtain⟨s,e⟩:=mU (pt:=λt=>(aE bs t).map hd) (x0:=hd st) k (n-k);rw[show k+(n-k)=n by lia]at e;exact⟨s,e⟩
 have bk:∀k,bf (λt=>(aE bs t).map hd) (hd st) (k+1)=bo (bf (λt=>(aE bs t).map hd) (hd st) k) ((aE bs ((bf (λt=>(aE bs t).map hd) (hd st) k).getD k 0)).map hd):=λk=>rfl;have bc:=W.lt;have b0:bf (λt=>(aE bs t).map hd) (hd st) 0=[hd st]:=rfl;generalize hB:bf (λt=>(aE bs t).map hd) (hd st)=B,hL:aS bs hd st n=L at*;obtain⟨BN,hN⟩:∃BN,gG bs (λp=>97+L.idxOf (hd p)) (λx=>97+L.idxOf x)=BN:=⟨_,rfl⟩;rw[hN];have eL:B n=L:=by rw[<-hL,aS,hB]
 have ll:L.length<=26:=by rw[<-eL,Wl];lia
 obtain⟨ZB,⟨d',o12,cf,cJ,bT,e,hf⟩,hw⟩:=By (t:=zT) (b:=zW) (n:=n) (λk U=>∃d o12 cf cJ bT,U=sW u0 u1 u2 u3 u4 u5 u7 HD (eX bs) (.lst ((B k).map sD)) (.au d) (.lst ((L.take k).map BN)) o12 cf cJ bT/\Fd d (B k) λx=>sD (97+L.idxOf x)) (λk hk U hh=>by
  obtain⟨d,o12,cf,cJ,bT,e,hf⟩:=hh
  subst e;have kl:=bc k hk;obtain⟨s,es⟩:=pre k Y';obtain⟨s2,es2⟩:=pre (k+1) Y';have wQ:k<L.length:=by rw[<-eL,Wl];exact hk
  have et:(B k).getD k 0=L[k]:=Mg es kl wQ;have ht:L[k]∈bs.map (·.1):=gD _ (WQ _);have mP:L[k]∈B k:=by rw[<-et,Qk,W8 kl];exact WQ _
  obtain⟨b,hb,eb1,_,eb⟩:=lR ht;obtain⟨b1,b2⟩:=R.bR b hb;rw[<-eb]at b1 b2;have h1:=R.h1;have w1:=R.w1;have wR:B (k+1)=bo (B k) ((bR bs L[k]).flatten.map hd):=by rw[bk,et];rfl
  obtain⟨d1,q13,q14,q15,hf1,k1⟩:=Mf u0 u1 u2 u3 u4 u5 u7 HD (eX bs) (.lst ((L.take k).map BN)) ll hd (bR bs L[k]) [] (B k) d [] cf cJ bT (λr hr=>⟨by rw[(b2 r hr).1];lia,λp hp=>hx p ((b2 r hr).2 p hp)⟩) hf ⟨s2,by rw[Qc,<-wR];exact es2⟩ V';rw[<-wR]at hf1 k1;have Mh:=Bz (B k) k kl;rw[et]at Mh;have Mi:k<(B (k+1)).length:=by obtain⟨s3,e3⟩:=qj ((bR bs L[k]).flatten.map hd) (B k);rw[wR,e3];simp;lia
  have et2:(B (k+1)).getD k 0=L[k]:=Mg es2 Mi wQ;have wa:=Bz (B (k+1)) k Mi;rw[et2]at wa;have xb:aN (eX bs) (sD L[k])=pS (bN (bR bs L[k])):=LW ht;have xn:=hf1.ix (x:=L[k]) (by rw[wR];exact(oB _ _).mpr (.inl mP));have tL:aX (.lst ((L.take k).map BN))=pS (.int k):=by simp[aX,Uw (U9 wQ)]
  have BK:aX (.lst ((B k).map sD))=pS (.int (B k).length):=#v[aX];have kz:=wM k (B k).length;rw[decide_eq_true kl]at kz;have hz:((L.take k).map BN).length<Wb:=by rw[de];simp;lia
  have tk:(L.take (k+1)).map BN=(L.take k).map BN++[.tup [sD (97+L.idxOf L[k]),.tup ((bR bs L[k]).map λr=>.str (r.map λp=>97+L.idxOf (hd p)))]]:=by rw[JV,WT];simp[wQ,<-hN,gG]
  rw[J3]at k1;refine⟨sW u0 u1 u2 u3 u4 u5 u7 HD (eX bs) (.lst ((B (k+1)).map sD)) (.au d1) (.lst ((L.take (k+1)).map BN)) (pO (.lst ((bR bs L[k]).map λr=>D.str (r.map λp=>97+L.idxOf (hd p))))) q13 q14 q15,?_,?_,d1,_,_,_,_,rfl,hf1⟩;.generalize D.au d=DD,D.lst ((B k).map sD)=LL,D.lst ((L.take k).map BN)=FF,eX bs=DB,((B k).length:Int)=zl at*;simp[zT,aC,aA,ah,tL,BK,kz,S.d]
  .rw[tk];generalize((bR bs L[k]).map λr=>D.str (r.map λp=>97+L.idxOf (hd p)))=RR,(L.take k).map BN=FF,(B (k+1)).map sD=LL2,(B k).map sD=LL,eX bs=DB,D.au d1=DD1,D.au d=DD,sD (97+L.idxOf L[k])=y,sD L[k]=z at*;have ei:aK (aj aN 8 (aq BJ)) (sW u0 u1 u2 u3 u4 u5 u7 HD DB (.lst LL) DD (.lst FF) (pO (.lst [])) cf cJ bT)=.ok ((bR bs L[k]).map .str) (sW u0 u1 u2 u3 u4 u5 u7 HD DB (.lst LL) DD (.lst FF) (pO (.lst [])) cf cJ bT):=by unfold bN at xb;generalize(bR bs L[k]).map D.str=BB at*;simp[ZQ,aj,bB,ah,tL,Mh,xb,S.d]
   unfold zW;generalize zR=Z at*;refine(fj (ZW:=sW u0 u1 u2 u3 u4 u5 u7 HD DB (.lst LL) DD (.lst FF) (pO (.lst [])) cf cJ bT) ?_).trans ((fj ((c7 ei).trans k1)).trans ?_);.simp[ax]
   .simp[cL,jg,putL,aQ,ao,aD,aj,bB,ah,tL,wa,xn,cm,hz,S.d]) λU hh=>by
  obtain⟨d,o12,cf,cJ,bT,e,hf⟩:=hh
  subst e;have kz:=wM n n;rw[decide_eq_false (Qh n)]at kz;have tL:aX (.lst ((L.take n).map BN))=pS (.int n):=by
   have:L.length=n:=by rw[<-eL];exact Wl
   simp[aX,this]
  have BK:aX (.lst ((B n).map sD))=pS (.int n):=#v[aX,Wl];generalize D.au d=DD,D.lst ((B n).map sD)=LL,D.lst ((L.take n).map BN)=FF,eX bs=DB at*;simp[zT,aC,aA,ah,tL,BK,kz,S.d] n 0 (sW u0 u1 u2 u3 u4 u5 u7 HD (eX bs) (.lst ([hd st].map sD)) (.au d0) (.lst []) none none none none) 1000000 Y' Y' ⟨d0,none,none,none,none,by rw[b0];rfl,%[b0|hf0]⟩;subst e;rw[eL,Ji (by rw[<-eL,Wl];lia)]at hw;exact⟨d',o12,cf,cJ,bT,by rw[<-eL];rw[eL]at hf⊢;exact hf,hw⟩
end
abbrev Mj:DT:=aC (aj ip 4 (aq (aQ (ao (aa 7) (ao (aa 18) aD)))))
abbrev sH(pd ru st pt:D)(AA:List (D×D))(TL:D)(dd:D)(o7:Option S):Dl:=[pS pd,pS ru,pS st,pS pt,pO (.dic AA),pS TL,pO dd,o7,none,none,none,none,none,none,none,none,none,none,none,none]
abbrev hC:DE:=bJ [18] (aK (aa 5)) (ag [] 18) (b_ Mj) (aa 18)
abbrev hB:DS:=dE 6 (aa 7) (aA aw hC (aq (eD (.int 0))))
theorem qav(pd ru st pt dd:D)(cg:ts.length<=26)(A:RR)(ht:t∈ts):hC (sH pd ru st pt (bA (c9 ts) A) (.lst (ts.map sD)) dd (pS (sD t)))=.ok (.own (.lst ((ts.filter λu=>!A (t,u)).map sD))) (sH pd ru st pt (bA (c9 ts) A) (.lst (ts.map sD)) dd (pS (sD t))):=by
 have ei:aK (aa 5) (sH pd ru st pt (bA (c9 ts) A) (.lst (ts.map sD)) dd (pS (sD t)))=.ok (ts.map sD) (sH pd ru st pt (bA (c9 ts) A) (.lst (ts.map sD)) dd (pS (sD t))):=by generalize ts.map sD=LL;generalize bA (c9 ts) A=AA;generalize sD t=z;simp[ZQ,aa,S.d]
 have ec:=K5 (cs:=[18]) (it:=aK (aa 5)) (g:=ag [] 18) (t:=b_ Mj) (el:=aa 18) sD sD (λu=>!A (t,u)) ei Y' λu hu=>by
  have g:=wJ (c9 ts) A (t,u);have v:=Bt A (t,u) (c9 ts);rw[if_pos (wK.mpr ⟨ht,hu⟩)]at v;have q:ip (.dic (bA (c9 ts) A)) (.tup [sD t,sD u])=pS (.bl (A (t,u))):=by show(if gU (hW (kD (t,u))) (bA (c9 ts) A) (kD (t,u))then(f_ (bA (c9 ts) A) (kD (t,u))).map S.pure else none)=_;rw[g,if_pos rfl,v];rfl
  generalize ts.map sD=LL,bA (c9 ts) A=AA,A (t,u)=bb,sD t=z,sD u=y at*;refine⟨[pS pd,pS ru,pS st,pS pt,pO (.dic AA),pS (.lst LL),pO dd,pS z,none,none,none,none,none,none,none,none,none,none,pS y,none],[pS pd,pS ru,pS st,pS pt,pO (.dic AA),pS (.lst LL),pO dd,pS z,none,none,none,none,none,none,none,none,none,none,pS y,none],.pure y,[pS pd,pS ru,pS st,pS pt,pO (.dic AA),pS (.lst LL),pO dd,pS z,none,none,none,none,none,none,none,none,none,none,pS y,none],rfl,?_,rfl,?_,rfl,rfl⟩;.simp[aC,aj,bB,ah,aQ,ao,aD,aa,q,S.d]
  .simp[aa]
 rw[hC,ec];rfl
theorem qaw(pd ru st pt:D)(cg:ts.length<=26)(hA:∀t∈ts,∀u∈ts,A (t,u)=!decide (c t=c u))(ht:t∈ts)(d:List (aZ×D))(hz:d.length<Wb):hB (sH pd ru st pt (bA (c9 ts) A) (.lst (ts.map sD)) (.au d) (pS (sD t)))=.ok .next (sH pd ru st pt (bA (c9 ts) A) (.lst (ts.map sD)) (.au (putD d (.inr [t]) (sD (ay c ts t)))) (pS (sD t))):=by
 have e:=qav pd ru st pt (.au d) cg A ht;have ef:(ts.filter λu=>!A (t,u))=fit c ts (c t):=by unfold fit;refine List.filter_congr λu hu=>?_;rw[hA t ht u hu];simp[eq_comm]
 obtain⟨r,e1,_⟩:=lS (c:=c) ht;rw[ef,e1]at e;have x0:aw (.lst ((ay c ts t::r).map sD)) (.int 0)=pS (sD (ay c ts t)):=#v[aw,ku];have kt:cb (sD t)=some (.inr [t]):=rfl;unfold hB;generalize hC=C,D.lst ((ay c ts t::r).map sD)=GG,sD (ay c ts t)=y,sD t=z,ts.map sD=LL,bA (c9 ts) A=AA at*;simp[dE,jl,aa,aA,aq,e,x0,kt,hz,S.d]
theorem qax(pd ru st pt:D)(cg:ts.length<=26)(hA:∀t∈ts,∀u∈ts,A (t,u)=!decide (c t=c u)):∃d o7,Fd d ts (λt=>sD (ay c ts t))/\forL (ag [] 7) hB (ts.map sD) (sH pd ru st pt (bA (c9 ts) A) (.lst (ts.map sD)) (.au []) none)=.ok .next (sH pd ru st pt (bA (c9 ts) A) (.lst (ts.map sD)) (.au d) o7):=by
 obtain⟨ZB,e,d,o,e2,h2⟩:=n8 (g:=ag [] 7) (b:=hB) (λi U=>∃d o,U=sH pd ru st pt (bA (c9 ts) A) (.lst (ts.map sD)) (.au d) o/\Fd d (ts.take i) λt=>sD (ay c ts t)) (ts.map sD) 0 _ ⟨[],none,rfl,~~~Fd.nil⟩ λi x U hx⟨d,o,e,h'⟩=>by subst e;rw[Wo]at hx;cases hu:ts[i]? with|none=>rw[hu]at hx;cases hx|some u=>
   rw[hu]at hx;cases hx;have hi:=(W9.mp hu).1;rw[Qs]at h'⊢;have hz:d.length<Wb:=by have:=h'.2;simp at this;rw[de];lia
   refine⟨sH pd ru st pt (bA (c9 ts) A) (.lst (ts.map sD)) (.au d) (pS (sD u)),_,rfl,qaw pd ru st pt cg hA (Wj hu) d hz,_,_,rfl,?_⟩;rw[JV,hu];exact h'.put u
 subst e2;rw[Qs,Ws,JE]at h2;exact⟨d,o,h2,e⟩
abbrev sF(ru:D)(u0 u2 u3 u4 u5 u7:Option S)(HD BL:D)(s9:S)(nm fo SG:D)(o12 cf cJ bT:Option S):Dl:=[u0,pS ru,u2,u3,u4,u5,pO HD,u7,pO BL,some s9,pO nm,pO fo,o12,cf,cJ,bT,pO SG,none,none,none]
abbrev fC:DE:=bJ [19] (aK (aa 9)) (ag [] 19) bP (aQ (ao (aj aN 10 (ah 19)) (ao (aj aN 16 (ah 19)) aD)))
theorem qay(ru:D)(u0 u2 u3 u4 u5 u7:Option S)(HD BL nm fo SG:D)(o12 cf cJ bT:Option S)(hl:L.length<=26)(f sg:Nat->Nat)(h1:∀x∈L,aN nm (sD x)=pS (sD (f x)))(h2:∀x∈L,aN SG (sD x)=pS (sD (sg x))):fC (sF ru u0 u2 u3 u4 u5 u7 HD BL (.own (.lst (L.map sD))) nm fo SG o12 cf cJ bT)=.ok (.own (.lst (L.map λx=>D.tup [sD (f x),sD (sg x)]))) (sF ru u0 u2 u3 u4 u5 u7 HD BL (.pure (.lst (L.map sD))) nm fo SG o12 cf cJ bT):=by
 have ei:aK (aa 9) (sF ru u0 u2 u3 u4 u5 u7 HD BL (.own (.lst (L.map sD))) nm fo SG o12 cf cJ bT)=.ok (L.map sD) (sF ru u0 u2 u3 u4 u5 u7 HD BL (.pure (.lst (L.map sD))) nm fo SG o12 cf cJ bT):=by generalize L.map sD=LL;simp[ZQ,aa,S.d]
 have ec:=cS (j:=19) (np:=[]) (it:=aK (aa 9)) (el:=aQ (ao (aj aN 10 (ah 19)) (ao (aj aN 16 (ah 19)) aD))) sD (λx=>D.tup [sD (f x),sD (sg x)]) ei Y' λx hx=>by have q1:=h1 x hx;have q2:=h2 x hx;generalize sD (f x)=a,sD (sg x)=b,sD x=y,L.map sD=LL at*;simp[aQ,ao,aD,aj,bB,ah,q1,q2,S.d]
 exact ec
abbrev fR:DS:=bh (aQ (ao (aQ (ao (aj aw 1 (aq (eD (.int 0)))) (ao (aj aw 1 (aq (eD (.int 1)))) (ao (az cm (ah 11)) aD)))) (ao (eD (.str [97])) (ao (az cm (aq fC)) aD))))
theorem qaz(ru H W:D)(u0 u2 u3 u4 u5 u7:Option S)(HD BL nm SG:D)(fo SS:List D)(o12 cf cJ bT:Option S)(s9 t9:S)(i0:aw ru (.int 0)=pS H)(i1:aw ru (.int 1)=pS W)(c:fC (sF ru u0 u2 u3 u4 u5 u7 HD BL s9 nm (.lst fo) SG o12 cf cJ bT)=.ok (.own (.lst SS)) (sF ru u0 u2 u3 u4 u5 u7 HD BL t9 nm (.lst fo) SG o12 cf cJ bT)):fR (sF ru u0 u2 u3 u4 u5 u7 HD BL s9 nm (.lst fo) SG o12 cf cJ bT)=.ok (.ret (.pure (.tup [.tup [H,W,.tup fo],sD 97,.tup SS]))) (sF ru u0 u2 u3 u4 u5 u7 HD BL t9 nm (.lst fo) SG o12 cf cJ bT):=by unfold fR;generalize fC=C at*;simp[aQ,ao,aD,aj,bB,ah,i0,i1,cm,c,S.d]
theorem qaA{bs:List (Nat×List Tx)}(hn:bs.length<=26)(pd ru st pt:D)(AA:List (D×D))(x2:aw ru (.int 2)=pS (.tup (bs.map aL))):bJ [17] (aK (aj aw 1 (aq (eD (.int 2))))) (ag [] 17) bP (aj aw 17 (aq (eD (.int 0)))) [pS pd,pS ru,pS st,pS pt,pO (.dic AA),none,none,none,none,none,none,none,none,none,none,none,none,none,none,none]=.ok (.own (.lst ((bs.map (·.1)).map sD))) [pS pd,pS ru,pS st,pS pt,pO (.dic AA),none,none,none,none,none,none,none,none,none,none,none,none,none,none,none]:=by
 have ei:aK (aj aw 1 (aq (eD (.int 2)))) [pS pd,pS ru,pS st,pS pt,pO (.dic AA),none,none,none,none,none,none,none,none,none,none,none,none,none,none,none]=.ok (bs.map aL) [pS pd,pS ru,pS st,pS pt,pO (.dic AA),none,none,none,none,none,none,none,none,none,none,none,none,none,none,none]:=by generalize bs.map aL=BB at*;simp[ZQ,aj,bB,ah,x2,S.d]
 have ec:=cS (j:=17) (np:=[]) (it:=aK (aj aw 1 (aq (eD (.int 2))))) (el:=aj aw 17 (aq (eD (.int 0)))) aL (λb=>sD b.1) ei Y' λb hb=>by have q:aw (aL b) (.int 0)=pS (sD b.1):=#v[aw,eN,jb];generalize aL b=B at*;simp[aj,bB,ah,q]
 rw[ec,Wq];rfl
theorem Mk{h w:Nat}{bs:List (Nat×List Tx)}{st:Nat}(R:ck h w bs)(hp:ps.map (·.1)=bs.map (·.1))(bV:st∈bs.map (·.1))(rs:Res (bs.map (·.1)) (aE bs) (dh ps) c)(W:Wk bs (ay c (bs.map (·.1))) st n):mS [.pure (.tup [aG h w bs,sD st,dg ps])]=some (.pure (j5 h w bs (aS bs (ay c (bs.map (·.1))) st n) (ay c (bs.map (·.1))) (dh ps)),[.pure (.tup [aG h w bs,sD st,dg ps])]):=by
 obtain⟨A,hA,gx⟩:=zfL R hp;replace hA:=hA c rs;have n1:=R.n1;obtain⟨i0,i1,x2⟩:=wz h w bs;obtain⟨w1,w2⟩:=wO R bV W;have ct:=qaA (bs:=bs) n1 (.tup [aG h w bs,sD st,dg ps]) (aG h w bs) (sD st) (dg ps) (bA (c9 (bs.map (·.1))) A) x2;have db:=Bw R;have BH:(ps.map (·.1)).Nodup:=%[hp|R.nd];have pl:ps.length<=26:=by have:=congrArg WV hp;simp at this;lia
 obtain⟨d,o7,hF,hl⟩:=qax (.tup [aG h w bs,sD st,dg ps]) (aG h w bs) (sD st) (dg ps) (ts:=bs.map (·.1)) (~~~n1) hA;have wl:(aS bs (ay c (bs.map (·.1))) st n).length<=26:=by rw[aS,W.len];have:=W.le;lia
 have i00:(aS bs (ay c (bs.map (·.1))) st n).idxOf (ay c (bs.map (·.1)) st)=0:=by obtain⟨s,e⟩:=mU (pt:=λt=>(aE bs t).map (ay c (bs.map (·.1)))) (x0:=ay c (bs.map (·.1)) st) 0 n;rw[Qs]at e;rw[aS,e];simp[bf]
 have pQ:Fd (putD [] (.inr [ay c (bs.map (·.1)) st]) (sD (97+(aS bs (ay c (bs.map (·.1))) st n).idxOf (ay c (bs.map (·.1)) st)))) [ay c (bs.map (·.1)) st] (λx=>sD (97+(aS bs (ay c (bs.map (·.1))) st n).idxOf x)):=Fd.put (f:=λx=>sD (97+(aS bs (ay c (bs.map (·.1))) st n).idxOf x)) Fd.nil _;rw[i00]at pQ;obtain⟨d',o12,cf,cJ,bT,hf',hw⟩:=qau R (pS (.tup [aG h w bs,sD st,dg ps])) (pS (aG h w bs)) (pS (sD st)) (pS (dg ps)) (pO (.dic (bA (c9 (bs.map (·.1))) A))) (pS (.lst ((bs.map (·.1)).map sD))) o7 (.au d) (λp hp=>hF.ix hp) W w1 _ pQ;have cc:=qay (aG h w bs) (pS (.tup [aG h w bs,sD st,dg ps])) (pS (sD st)) (pS (dg ps)) (pO (.dic (bA (c9 (bs.map (·.1))) A))) (pS (.lst ((bs.map (·.1)).map sD))) o7 (.au d) (eX bs) (.au d') (.lst ((aS bs (ay c (bs.map (·.1))) st n).map (gG bs (λp=>97+(aS bs (ay c (bs.map (·.1))) st n).idxOf (ay c (bs.map (·.1)) p)) λx=>97+(aS bs (ay c (bs.map (·.1))) st n).idxOf x))) (mX ps) o12 cf cJ bT wl (λx=>97+(aS bs (ay c (bs.map (·.1))) st n).idxOf x) (dh ps) (λx hx=>hf'.ix hx) λx hx=>wH %[hp|w1 x hx];have hx:=hF.ix bV;have ds:=wF BH Y';have kx:cb (sD (ay c (bs.map (·.1)) st))=some (.inr [ay c (bs.map (·.1)) st]):=rfl;unfold mS IG j5;generalize(aS bs (ay c (bs.map (·.1))) st n).map (gG bs (λp=>97+(aS bs (ay c (bs.map (·.1))) st n).idxOf (ay c (bs.map (·.1)) p)) λx=>97+(aS bs (ay c (bs.map (·.1))) st n).idxOf x)=FO,(aS bs (ay c (bs.map (·.1))) st n).map (λx=>D.tup [sD (97+(aS bs (ay c (bs.map (·.1))) st n).idxOf x),sD (dh ps x)])=SS,aG h w bs=ru,dg ps=pt,mX ps=SG,eX bs=BL,D.au d'=nm,bA (c9 (bs.map (·.1))) A=AA,(bs.map (·.1)).map sD=TL,sD st=s0 at*;generalize D.au d=HD at*;apply gi;refine aR ?_ cN;refine aR ?_ cN;refine aR ?_ (oE ct rfl);refine aR ?_ cN;refine aR ?_ ((c7 cN).trans hl);iterate 2 refine aR ?_ cN
 refine aR ?_ (by simp[ax,nZ,aj,bB,ah,hx,kx,S.d];rfl);refine aR ?_ cN;refine aR ?_ hw;refine aR ?_ cN;exact qaz ru _ _ _ _ _ _ _ _ _ _ _ _ _ _ _ _ _ _ _ _ i0 i1 cc
def fE:Nat->D->Prop|n+1,.tup ds=>ds.length<=1000/\∀x∈ds,fE n x|_+1,.str _=>True|_+1,.int _=>True|_,_=>False
abbrev mC(Gs:DF):DE:=bJ [2] (cG (az aX (ah 1))) (ag [] 2) bP (aF Gs [.val (aj aw 0 (ah 2)),.val (aj aw 1 (ah 2))])
def kn:D->Prop|.exc _ _=>False|.xd _=>False|.fn _=>False|.dic _=>False|_=>True
def fn:Nat->D->Prop|n+1,.tup ds=>ds.length<=1000/\∀x∈ds,fn n x|n+1,.lst ds=>∀x∈ds,fn n x|_,.str x=>x.length<=1000|_,.int _=>True|_,.bl _=>True|_,.aJ=>True|_,_=>False
theorem fn.k(h:fn n d):kn d:=by cases n<;>cases d<;>first|trivial|exact h
theorem fn.s(h:fn n (.str x)):x.length<=1000:=by cases n<;>exact h
theorem qm(h:kn d):kj "tuple" d=some true/\(∃xs,d=.tup xs)\/kj "tuple" d=some false/\∀xs,d≠.tup xs:=by cases d<;>first|exact h.elim|exact .inl ⟨rfl,_,rfl⟩|exact .inr ⟨rfl,λ_=>nofun⟩
theorem zhd(h:kn d):kj "str" d=some true/\(∃x,d=.str x)\/kj "str" d=some false/\∀x,d≠.str x:=by cases d<;>first|exact h.elim|exact .inl ⟨rfl,_,rfl⟩|exact .inr ⟨rfl,λ_=>nofun⟩
theorem Ml(xs:List Nat)(p:Nat->Bool):mr (.lst (xs.map λn=>.bl (p n)))=some (.pure (.bl (xs.all p))):=by
 have e:(xs.map λn=>D.bl (p n))=(xs.map p).map D.bl:=by simp
 unfold mr;simp only[e,F_,WX];simp[List.all_map,Function.comp_def]
theorem wU(h:x.length<=1000):aX (.str x)=pS (.int x.length):=by
 have:x.length<=Wb:=by rw[de];lia
 simp[aX,this]
theorem tM(ds:List D):aX (.tup ds)=pS (.int ds.length):=rfl
theorem BM(a:D)(r:List D):aw (.tup (a::r)) (.int 0)=some (.pure a):=#v[aw,ku]
theorem Mm(ds:List D)(h:ds.length=3):∃a b c,ds=[a,b,c]:=by rcases ds with _|⟨a,_|⟨b,_|⟨c,_|_⟩⟩⟩<;>cases h;exact⟨a,b,c,rfl⟩
theorem oG(e:b (bY n [.pure x,.pure y,.pure z])=.ok (.ret v) ZW):bI [] n b [.pure x,.pure y,.pure z]=some (v,[.pure x,.pure y,.pure z]):=by rw[oF,e];rfl
abbrev An(G:DF)(as:List S)(P Q:Prop):Prop:=∃b,G as=some (.pure (.bl b),as)/\(P->b=true)/\(b=true->Q)
theorem tN(P:Prop)(RR:D->Prop)(I:List D->Dl->Prop)(Q:D->Prop)(hs:∀d rs U,I (d::rs) U->∃ZW,g (.pure d) U=some ZW/\((¬P/\∃r XV,b ZW=.ok (.ret (.pure r)) XV/\RR r)\/∃XV,b ZW=.ok .next XV/\I rs XV/\Q d)):∀ds U,I ds U->(¬P/\∃r ZB,forL g b ds U=.ok (.ret (.pure r)) ZB/\RR r)\/∃ZB,forL g b ds U=.ok .next ZB/\I [] ZB/\∀d∈ds,Q d
 |[],U,h=>.inr ⟨U,rfl,h,nofun⟩|d::rs,U,h=>by
  obtain⟨ZW,e1,⟨np,r,XV,e2,h2⟩|⟨XV,e2,h2,q⟩⟩:=hs d rs U h;.exact .inl ⟨np,r,XV,by unfold forL;rw[e1];simp only[e2,jn],h2⟩
  .rw[lN e1 e2];rcases tN P RR I Q hs rs XV h2 with h|⟨ZB,e,h,hq⟩;.exact .inl h
   .exact .inr ⟨ZB,e,h,λx hx=>(Wf.mp hx).elim (.▸q) (hq x)⟩
theorem bU{p:Prop}(h:p:=by simp[*,-jn,zzj,bY,aC,ax,aA,aj,bB,aa,ah,du,K4,cj,a7,cw,S.d,aF,bW,dC,cV,cH,bH,az,b_,dj,iI,uV,qX,le_int,gt_int,BM]<;>rfl):p:=h
theorem Mn(x y:Tx):fw (.str x) (.str y)=pS (.bl !decide (y<x)):=rfl
theorem An.no(h:G as=some (.pure (.bl false),as))(n:P->False):An G as P Q:=⟨false,h,λp=>(n p).elim,nofun⟩
def qo(n:Nat):Bool:=!decide (([n]:Tx)<[97])&&!decide (([122]:Tx)<[n])
theorem Mo{d:D}{m:Int}(hd:fn n d):An lJ [.pure d,.pure (.int m)] (∃x,d=.str x/\1<=(x.length:Int)/\(x.length:Int)<=m/\∀c∈x,97<=c/\c<=122) (∃x,d=.str x/\1<=(x.length:Int)/\(x.length:Int)<=m):=by
 unfold lJ IK;rcases zhd hd.k with⟨t,x,rfl⟩|⟨t,ne⟩
 .have ln:=wU hd.s;obtain⟨b1,c1,h1⟩:=wt 1 x.length;obtain⟨b2,c2,h2⟩:=wt x.length m;have el:∀n,je fw fw (eD (.str [97])) (aa 2) (aq (eD (.str [122]))) [pS (.str x),pS (.int m),pS (.str [n])]=.ok (.pure (.bl (qo n))) [pS (.str x),pS (.int m),pS (.str [n])]:=λn=>by cases h:decide (([n]:Tx)<[97])<;>simp[K4,aa,Mn,h,qo]
  have ec:=cS (j:=2) (np:=[]) (it:=aK (aa 0)) (el:=je fw fw (eD (.str [97])) (aa 2) (aq (eD (.str [122])))) (λn:Nat=>D.str [n]) (λn=>.bl (qo n)) (TD:=[pS (.str x),pS (.int m),none]) (as:=x) rfl hd.s λn _=>el n;have a:=Ml x qo;cases b1 with|false=>exact An.no (j4 (dZ bU)) λ⟨y,e,h,_⟩=>by cases e;exact nomatch h1.2 h|true=>cases b2 with|false=>exact An.no (j4 (dZ bU)) λhh=>by obtain⟨y,e,_,h,_⟩:=hh;cases e;exact nomatch h2.2 h|true=>
    refine⟨x.all qo,j4 (aR (ZW:=[pS (.str x),pS (.int m),none]) (x:=.ok _ [pS (.str x),pS (.int m),none]) ?_ bU),λ⟨y,e,_,_,h⟩=>?_,λ_=>⟨x,rfl,h1.1 rfl,h2.1 rfl⟩⟩;.revert ec;generalize bJ _ _ _ _ _=C;intro ec;simp[ec,a,S.d]
    .cases e;simpa[qo,kz]using h
 .exact An.no (j4 (dZ bU)) λ⟨y,e,_⟩=>ne y e
def fP(h w:Nat)(fl:List Tx):Prop:=fl.length=h/\0<h/\h<=4/\0<w/\w<=4/\∀x∈fl,x.length=w/\∀c∈x,97<=c/\c<=122
theorem Mp:∀{ds:List D},(∀d∈ds,∃x:Tx,d=.str x/\x.length<=64)->∃fl:List Tx,ds=fl.map .str/\∀x∈fl,x.length<=64|[],_=>⟨[],rfl,nofun⟩|d::ds,h=>by obtain⟨fl,rfl,hf⟩:=Mp λd hd=>h d (.tail _ hd);obtain⟨x,rfl,hx⟩:=h d (.head _);exact⟨x::fl,rfl,λy hy=>(Wf.mp hy).elim (.▸hx) (hf y)⟩
theorem z73{d:D}(hd:fn (n+1) d):An pY [.pure d] (∃h w fl,fP h w fl/\d=bN fl) (∃x fl,d=bN (x::fl)/\(x::fl).length<=64/\∀r∈x::fl,r.length<=64):=by
 unfold pY IL;rcases qm hd.k with⟨t,ds,rfl⟩|⟨t,ne⟩;.have ln:=tM ds;obtain⟨b1,c1,h1⟩:=wt 1 ds.length;obtain⟨b2,c2,h2⟩:=wt ds.length 64;cases b1 with|false=>refine An.no (gi (dZ bU)) λ⟨h,w,fl,f,e⟩=>nomatch h1.2 ?_;have:=f.1;have:=f.2.1;cases e;simp;lia|true=>cases b2 with|false=>refine An.no (gi (dZ bU)) λ⟨h,w,fl,f,e⟩=>nomatch h2.2 ?_;have:=f.1;have:=f.2.2.1;cases e;simp;lia|true=>
    have l1:=h1.1 rfl;obtain⟨d0,h0⟩:∃d0,ds[0]?=some d0:=⟨ds[0]' Y',U'⟩;have i0:aw (.tup ds) (.int 0)=pS d0:=#v[aw,ku,h0];have row:(∃h w fl,fP h w fl/\D.tup ds=bN fl)->∃w,∀d∈ds,∃x:Tx,d=.str x/\x.length=w/\0<w/\w<=4/\∀c∈x,97<=c/\c<=122:=λ⟨h,w,fl,f,e⟩=>⟨w,λd hd=>by rw[D.tup.inj e]at hd;obtain⟨x,hx,rfl⟩:=Wu.mp hd;exact⟨x,rfl,(f.2.2.2.2.2 x hx).1,f.2.2.2.1,f.2.2.2.2.1,(f.2.2.2.2.2 x hx).2⟩⟩;have st:=tN (g:=ag [] 1) (b:=bG (dj (b_ (aC (aF lJ [.val (aa 1),.val (eD (.int 64))]))) (aC (aA eT (az aX (ah 1)) (aq (az aX (aq (aj aw 0 (aq (eD (.int 0)))))))))) (bh (eD (.bl false))) bL) (∃h w fl,fP h w fl/\D.tup ds=bN fl) (.=.bl false) (λrs U=>(∃o,U=[pS (.tup ds),o])/\(rs=ds\/∃x,d0=.str x/\x.length<=1000)/\rs ⊆ ds) (λd=>∃x:Tx,d=.str x/\x.length<=64) (λd rs U⟨⟨o,e⟩,hx,hm⟩=>by subst e;have pI:=hm (.head _);obtain⟨b,el,pl,ql⟩:=Mo (m:=64) (hd.2 d pI);refine⟨[pS (.tup ds),pS d],rfl,?_⟩;cases b with|false=>refine .inl ⟨λp=>?_,_,_,bU,rfl⟩;obtain⟨w,hw⟩:=row p;obtain⟨x,rfl,h1,h2,h3,h4⟩:=hw d pI;exact nomatch pl ⟨x,rfl,Y',Y',h4⟩|true=>obtain⟨x,rfl,x0,x1⟩:=ql rfl;obtain⟨y,e0,hy⟩:∃y,d0=.str y/\y.length<=1000:=hx.elim (λe=>by rw[<-e]at h0;cases h0;exact⟨x,rfl,Y'⟩) id;have lx:aX (.str x)=pS (.int x.length):=wU Y';have l0:aX d0=pS (.int y.length):=e0▸wU hy;obtain⟨b,c,hb⟩:=iV x.length y.length;replace e0:Hid (d0=.str y):=e0;cases b with|false=>exact .inr ⟨[pS (.tup ds),pS (.str x)],bU,⟨⟨_,rfl⟩,.inr ⟨y,e0,hy⟩,λ_ h=>hm (.tail _ h)⟩,x,rfl,Y'⟩|true=>refine .inl ⟨λp=>?_,_,_,bU,rfl⟩;obtain⟨w,hw⟩:=row p;obtain⟨x',e1,h1,_⟩:=hw _ pI;obtain⟨y',e2,h2,_⟩:=hw _ (Wj h0);cases e1;cases(e0:d0=.str y).symm.trans e2;exact nomatch hb.2 Y') ds [pS (.tup ds),none] ⟨⟨_,rfl⟩,.inl rfl,λ_ h=>h⟩;rcases st with⟨np,v,ZB,e,rfl⟩|⟨ZB,e,⟨⟨o,rfl⟩,_⟩,hq⟩;.exact An.no (gi (aR (ZW:=[pS (.tup ds),none]) (dZ ((c7 rfl).trans e)) bU)) np
    .refine⟨true,gi (aR (ZW:=[pS (.tup ds),none]) (aR rfl ((c7 rfl).trans e)) bU),λ_=>rfl,λ_=>?_⟩;have l2:=h2.1 rfl;obtain⟨fl,rfl,hf⟩:=Mp hq;cases fl with|nil=>simp at l1|cons x fl=>exact⟨x,fl,rfl,by simp at l2⊢;lia,hf⟩
 .exact An.no (gi (dZ bU)) λ⟨h,w,fl,f,e⟩=>ne _ e
theorem Mq{d:D}(hd:kn d):An oy [.pure d,.pure (.int 1),.pure (.int 4)] (∃i,d=.int i/\1<=i/\i<=4) (∃i,d=.int i):=by cases d with|int i=>have e:sZ [.pure (.int i),.pure (.int 1)]=some (.pure (.bl (decide (1<=i))),[.pure (.int i),.pure (.int 1)]):=rfl;refine⟨decide (1<=i)&&decide (i<=4),?_,λ⟨j,e,h1,h2⟩=>by cases e;simp[h1,h2],λ_=>⟨i,rfl⟩⟩;unfold oy II;refine oG (ZW:=[pS (.int i),pS (.int 1),pS (.int 4)]) ?_;cases h:decide (1<=i)<;>rw[h]at e<;>generalize sZ=GW at*<;>exact bU|_=>first|exact hd.elim|exact An.no rfl λ⟨j,e,_⟩=>nomatch e
theorem z6Y{a b:D}(ka:kn a)(kb:kn b):An pX [.pure a,.pure b] (∃h w:Nat,a=.int h/\b=.int w/\0<h/\h<=4/\0<w/\w<=4/\2<h+w) (∃i j,a=.int i/\b=.int j):=by obtain⟨x,ea,pa,qa⟩:=Mq ka;obtain⟨y,eb,pb,qb⟩:=Mq kb;unfold pX IJ;generalize oy=GW at*;cases x with|false=>exact An.no (j4 (dZ bU)) λ⟨h,w,e,_,h1,h2,_⟩=>nomatch pa ⟨h,e,Y',Y'⟩|true=>cases y with|false=>exact An.no (j4 (dZ bU)) λ⟨h,w,_,e,_,_,h1,h2,_⟩=>nomatch pb ⟨w,e,Y',Y'⟩|true=>
 obtain⟨i,rfl⟩:=qa rfl;obtain⟨j,rfl⟩:=qb rfl;refine⟨decide (1<i)||decide (1<j),j4 (aR (ZW:=[pS (.int i),pS (.int j)]) (x:=.ok _ [pS (.int i),pS (.int j)]) ?_ bU),λ⟨h,w,e1,e2,h'⟩=>?_,λ_=>⟨i,j,rfl,rfl⟩⟩;.by_cases h:1<i<;>exact bU
 .cases e1;cases e2;simp;lia
theorem wV{c}(h:aL b=aL c):b=c:=by simp only[D.tup.injEq,List.cons.injEq,D.str.injEq,and_true]at h;exact Prod.ext h.1 ((List.map_inj_right λ_ _=>D.str.inj).mp h.2)
theorem z85{h w:Int}{d:D}(hd:fn (n+2) d):An oz [.pure (.int h),.pure (.int w),.pure d] (∃(h' w' t:Nat)(fl:List Tx),fP h' w' fl/\d=aL (t,fl)/\97<=t/\t<=122/\h=h'/\w=w') (∃t fl,d=aL (t,fl)/\fl.length<=64/\∀r∈fl,r.length<=64):=by
 unfold oz IP;rcases qm hd.k with⟨t,ds,rfl⟩|⟨t,ne⟩;.have ln:=tM ds;obtain⟨b0,n2,h0⟩:=iV ds.length 2;cases b0 with|true=>exact An.no (oG (dZ bU)) λhh=>by obtain⟨_,_,_,_,_,e,_⟩:=hh;cases e;exact nomatch h0.2 rfl|false=>
   obtain⟨a,b,rfl⟩:∃a b,ds=[a,b]:=by have h:=Int.ofNat.inj (h0.1 rfl);clear ln n2 h0 hd;rcases ds with _|⟨a,_|⟨b,_|_⟩⟩<;>cases h;exact⟨a,b,rfl⟩
   obtain⟨x,e0,pa,qa⟩:=Mo (m:=1) (hd.2 a (.head _));have ea:pZ [.pure a]=some (.pure (.bl x),[.pure a]):=by unfold pZ IM;generalize lJ=GL at*;exact gi (ZW:=[pS a]) bU
   obtain⟨y,eb,pb,qb⟩:=z73 (hd.2 b (.tail _ (.head _)));generalize pZ=GT,pY=GF at*;cases x with|false=>exact An.no (oG (aR (ZW:=[pS (.int h),pS (.int w),pS (.tup [a,b]),none,none]) (aR (ZW:=[pS (.int h),pS (.int w),pS (.tup [a,b]),pS a,pS b]) (dZ bU) bU) bU)) λhh=>by obtain⟨_,_,n,_,_,e,h1,h2,_⟩:=hh;cases e;exact nomatch pa ⟨[n],rfl,U',U',by simpa using⟨h1,h2⟩⟩|true=>cases y with|false=>exact An.no (oG (aR (ZW:=[pS (.int h),pS (.int w),pS (.tup [a,b]),none,none]) (aR (ZW:=[pS (.int h),pS (.int w),pS (.tup [a,b]),pS a,pS b]) (dZ bU) bU) bU)) λhh=>by obtain⟨_,_,_,_,f,e,_⟩:=hh;cases e;exact nomatch pb ⟨_,_,_,f,rfl⟩|true=>
     obtain⟨z,rfl,z0,z1⟩:=qa rfl;obtain⟨c,fl,rfl,f1,f2⟩:=qb rfl;obtain⟨n,rfl⟩:∃n,z=[n]:=by rcases z with _|⟨n,_|_⟩;simp at z0;exact⟨n,rfl⟩;simp at z1;lia
     have i0:aw (bN (c::fl)) (.int 0)=pS (.str c):=BM _ _;have lc:aX (.str c)=pS (.int c.length):=wU (by have:=f2 c (.head _);lia);have lf:aX (bN (c::fl))=pS (.int (c::fl).length):=by rw[tM,Ws]
     obtain⟨b1,q1,h1⟩:=mV (c::fl).length h;obtain⟨b2,q2,h2⟩:=mV c.length w;refine⟨b1&&b2,?_,λhh=>?_,λ_=>⟨n,c::fl,rfl,f1,f2⟩⟩;.generalize bN (c::fl)=F,D.int ((c::fl).length:Nat)=N,D.int (c.length:Nat)=zj,D.str [n]=T,D.str c=C,D.int h=H,D.int w=W at*;refine oG (aR (ZW:=[pS H,pS W,pS (.tup [T,F]),none,none]) (aR (ZW:=[pS H,pS W,pS (.tup [T,F]),pS T,pS F]) (aR (ZW:=[pS H,pS W,pS (.tup [T,F]),pS T,pS F]) (x:=.ok _ [pS H,pS W,pS (.tup [T,F]),pS T,pS F]) ?_ bU) bU) bU);cases b1<;>exact bU
     .obtain⟨h',w',t,fl',f,e,_,_,e1,e2⟩:=hh;cases wV (b:=(n,c::fl)) e;rw[h1.2 (e1▸congrArg _ f.1),h2.2 (e2▸congrArg _ (f.2.2.2.2.2 c (.head _)).1)];rfl
 .exact An.no (oG (dZ bU)) λhh=>by obtain⟨_,_,_,_,_,e,_⟩:=hh;exact ne _ e
theorem zfK{bs:List (Nat×List Tx)}(hn:bs.length<=1000)(hg:∀b∈bs,b.2.length<=64/\∀r∈b.2,r.length<=64):∃r b,p_ [.pure (.tup (bs.map aL))]=some (.pure r,[.pure (.tup (bs.map aL))])/\pE false r .aJ=pS (.bl b)/\((∃h w,iO h w bs)->b=true):=by
 obtain⟨kv,ed,hk⟩:∃kv,dD (.tup (bs.map aL))=pO (.au kv)/\((∃h w,iO h w bs)->∀t∈bs.map (·.1),dQ true (.str [t]) (.au kv)=pS (.bl false)):=by
  have e:dD (.tup (bs.map aL))=pO (.au (jk (bs.map λb=>((Sum.inr [b.1]:aZ),bN b.2)) [])):=by unfold dD;simp only[Bv,Q3,Ws];rw[if_pos (by rw[de];lia)]
  refine⟨_,e,λ⟨h,w,R⟩t ht=>?_⟩;have:=Bw (lP R);rw[e]at this;rw[S.own.inj (WN this)];exact LX ht
 have wB:∀n,∃b,dQ true (.str [n]) (.au kv)=pS (.bl b):=λn=>⟨_,rfl⟩;generalize D.au kv=K at*;have st:=tN (g:=cj 2 (a7 (ag [] 2) (a7 (ag [] 3) cw))) (b:=bE (aK (az (cO []) (aq (aj aw 3 (aq (eD (.int 1))))))) (ag [] 4) (bG (aC (aA (dQ true) (aa 4) (ah 1))) (bh (aa 2)) bL)) (∃h w,iO h w bs) (λr=>∃i:Int,r=.int i) (λrs U=>(∃a b c,U=[pS (.tup (bs.map aL)),pO K,a,b,c])/\rs ⊆ pC (bs.map aL)) (λ_=>True) (λd rs U hh=>by
 obtain⟨⟨a,b,c,e⟩,hm⟩:=hh
 subst e;obtain⟨i,hi⟩:=List.getElem?_of_mem (hm (.head _));obtain⟨d',e',rfl⟩:=FG hi;obtain⟨bb,hb,rfl⟩:=Wu.mp (Wj e');refine⟨[pS (.tup (bs.map aL)),pO K,pS (.int i),pS (aL bb),c],rfl,?_⟩;have ej:=Bl bb.2 (by have:=Lj bb.2 64 (hg bb hb).2;have:=(hg bb hb).1;lia);have e1:aw (aL bb) (.int 1)=pS (bN bb.2):=rfl;have hI:∃j,D.int (i:Int)=.int j:=⟨_,rfl⟩;generalize D.tup (bs.map aL)=T,D.int (i:Int)=I,aL bb=B at*;have er:aK (az (cO []) (aq (aj aw 3 (aq (eD (.int 1)))))) [pS T,pO K,pS I,pS B,c]=.ok (bb.2.flatten.map λn=>D.str [n]) [pS T,pO K,pS I,pS B,c]:=by generalize bN bb.2=F at*;simp[ZQ,aj,bB,ah,e1,ej,S.d]
 rw[c7 er];rcases tN (g:=ag [] 4) (b:=bG (aC (aA (dQ true) (aa 4) (ah 1))) (bh (aa 2)) bL) (∃h w,iO h w bs) (.=I) (λrs U=>(∃c,U=[pS T,pO K,pS I,pS B,c])/\rs ⊆ bb.2.flatten.map λn=>D.str [n]) (λ_=>True) (λd rs U⟨⟨c,e⟩,hm⟩=>by subst e;obtain⟨n,hn,rfl⟩:=Wu.mp (hm (.head _));obtain⟨b,eb⟩:=wB n;refine⟨[pS T,pO K,pS I,pS B,pS (.str [n])],rfl,?_⟩;cases b with|true=>refine .inl ⟨λ⟨h,w,R⟩=>?_,_,_,bU,rfl⟩;obtain⟨r,hr,hn⟩:=List.mem_flatten.mp hn;cases eb.symm.trans (hk ⟨h,w,R⟩ n (((R.bR bb hb).2 r hr).2 n hn))|false=>exact .inr ⟨[pS T,pO K,pS I,pS B,pS (.str [n])],bU,⟨⟨_,rfl⟩,λ_ h=>hm (.tail _ h)⟩,trivial⟩) _ _ ⟨⟨c,rfl⟩,λ_ h=>h⟩with⟨np,r,ZB,e,rfl⟩|⟨ZB,e,⟨⟨c,rfl⟩,_⟩,_⟩;.exact .inl ⟨np,_,_,e,hI⟩
 .exact .inr ⟨_,e,⟨⟨_,_,_,rfl⟩,λ_ h=>hm (.tail _ h)⟩,trivial⟩) _ _ ⟨⟨none,none,none,rfl⟩,λ_ h=>h⟩;unfold p_ IQ;have en:vw (aa 0) [pS (.tup (bs.map aL)),pO K,none,none,none]=.ok (pC (bs.map aL)) [pS (.tup (bs.map aL)),pO K,none,none,none]:=rfl;generalize D.tup (bs.map aL)=T at*;rcases st with⟨np,r,ZB,e,i,rfl⟩|⟨ZB,e,⟨⟨a,b,c,rfl⟩,_⟩,_⟩;.exact⟨.int i,false,gi (aR (ZW:=[pS T,pO K,none,none,none]) (dZ ((c7 en).trans e)) bU),rfl,λp=>absurd p np⟩
 .exact⟨.aJ,true,gi (aR (ZW:=[pS T,pO K,none,none,none]) (aR rfl ((c7 en).trans e)) bU),rfl,λ_=>rfl⟩
theorem Mr:∀{ps:List D},(∀d∈ps,∃t fl,d=aL (t,fl)/\fl.length<=64/\∀r∈fl,r.length<=64)->∃bs:List (Nat×List Tx),ps=bs.map aL/\∀b∈bs,b.2.length<=64/\∀r∈b.2,r.length<=64|[],_=>⟨[],rfl,nofun⟩|d::ps,h=>by obtain⟨bs,rfl,hf⟩:=Mr λd hd=>h d (.tail _ hd);obtain⟨t,fl,rfl,hx⟩:=h d (.head _);exact⟨(t,fl)::bs,rfl,λy hy=>(Wf.mp hy).elim (.▸hx) (hf y)⟩
abbrev sr(i j:Int)(B:D)(a b:Option S):Dl:=[pS (.tup [.int i,.int j,B]),pS (.int i),pS (.int j),pS B,a,b]
theorem z84{d:D}(hd:fn (n+4) d):An lK [.pure d] (∃h w bs,iO h w bs/\d=aG h w bs) (fE 6 d):=by
 unfold lK IS;rcases qm hd.k with⟨t,ds,rfl⟩|⟨t,ne⟩;.have ln:=tM ds;obtain⟨b0,n3,h0⟩:=iV ds.length 3;cases b0 with|true=>exact An.no (gi (dZ bU)) λhh=>by obtain⟨_,_,_,_,e⟩:=hh;cases e;exact nomatch h0.2 rfl|false=>obtain⟨a,b,c,rfl⟩:=Mm ds (Int.ofNat.inj (h0.1 rfl));obtain⟨x,es,pz,qz⟩:=z6Y (hd.2 a (.head _)).k (hd.2 b (.tail _ (.head _))).k;generalize pX=GZ at*;have s1{X:DS}{v:Rs Fl}(h:X [pS (.tup [a,b,c]),pS a,pS b,pS c,none,none]=v):=aR (U:=[pS (.tup [a,b,c]),none,none,none,none,none]) (aR (ZW:=[pS (.tup [a,b,c]),pS a,pS b,pS c,none,none]) (a:=ax (aa 0) (cj 3 (a7 (ag [] 1) (a7 (ag [] 2) (a7 (ag [] 3) cw))))) h rfl) (a:=bG (dj (b_ (aC (du "tuple" (ah 0)))) (aC (aA eT (az aX (ah 0)) (aq (eD (.int 3)))))) (bh (eD (.bl false))) bL) rfl;cases x with|false=>exact An.no (gi (s1 (dZ bU))) λhh=>by obtain⟨h,w,bs,R,e⟩:=hh;cases e;exact nomatch pz ⟨h,w,rfl,rfl,R.h0,R.h1,R.w0,R.w1,R.hw⟩|true=>
    obtain⟨i,j,rfl,rfl⟩:=qz rfl;rcases qm (hd.2 c (.tail _ (.tail _ (.head _)))).k with⟨t3,ps,rfl⟩|⟨t3,ne⟩;.obtain⟨hn,hp⟩:=hd.2 _ (.tail _ (.tail _ (.head _)));have l3:=tM ps;obtain⟨bz,q0,hz⟩:=mV ps.length 0;cases bz with|true=>exact An.no (gi (s1 (dZ bU))) λhh=>by obtain⟨h,w,bs,R,e⟩:=hh;cases e;exact absurd (hz.1 rfl) (by have:=R.n0;simp;intro h;subst h;cases this)|false=>
      have st:=tN (g:=ag [] 5) (b:=ar (bG (dj (b_ (aC (aF oz [.val (aa 1),.val (aa 2),.val (aa 5)]))) (aC (aA fw (aj aw 5 (aq (eD (.int 0)))) (ah 4)))) (bh (eD (.bl false))) bL) (ax (aj aw 5 (aq (eD (.int 0)))) (ag [] 4))) (∃h w bs,iO h w bs/\D.tup [.int i,.int j,.tup ps]=aG h w bs) (.=.bl false) (λrs U=>(∃a x5,U=sr i j (.tup ps) (pS (.str a)) x5/\((∃h w bs,iO h w bs/\D.tup [.int i,.int j,.tup ps]=aG h w bs)->∃(h w:Nat)(cs:List (Nat×List Tx)),i=h/\j=w/\rs=cs.map aL/\(∀c∈cs,fP h w c.2/\97<=c.1/\c.1<=122/\a<[c.1])/\(cs.map (·.1)).Pairwise (.<.)))/\rs ⊆ ps) (λd=>∃t fl,d=aL (t,fl)/\fl.length<=64/\∀r∈fl,r.length<=64) (λd rs U hh=>by obtain⟨⟨a,x5,e,hP⟩,hm⟩:=hh;subst e;obtain⟨b,ep,pp,qp⟩:=z85 (h:=i) (w:=j) (hp d (hm (.head _)));refine⟨sr i j (.tup ps) (pS (.str a)) (pS d),rfl,?_⟩;generalize oz=GP at*;cases b with
 |false=>refine .inl ⟨λp=>?_,_,_,dZ bU,rfl⟩;obtain⟨h,w,cs,rfl,rfl,e,hc,_⟩:=hP p;cases cs with|nil=>cases e|cons c cs=>cases e;obtain⟨f,c1,c2,_⟩:=hc c (.head _);exact nomatch pp ⟨_,_,_,_,f,rfl,c1,c2,rfl,rfl⟩
 |true=>obtain⟨k,fl,rfl,hf⟩:=qp rfl;have e0:aw (aL (k,fl)) (.int 0)=pS (.str [k]):=rfl;have le:=Mn [k] a;generalize D.tup ps=B at*;cases hc:decide (a<[k])with
 |false=>rw[hc]at le;refine .inl ⟨λp=>?_,_,_,dZ bU,rfl⟩;obtain⟨h,w,cs,rfl,rfl,e,hd,_⟩:=hP p;cases cs with|nil=>cases e|cons c cs=>cases wV (Ur e).1;exact of_decide_eq_false hc (hd _ (.head _)).2.2.2
 |true=>
          rw[hc]at le;refine .inr ⟨sr i j B (pS (.str [k])) (pS (aL (k,fl))),?_,⟨⟨[k],_,rfl,λp=>?_⟩,λ_ h=>hm (.tail _ h)⟩,k,fl,rfl,hf⟩;.generalize aL (k,fl)=L at*;exact aR (ZW:=sr i j B (pS (.str a)) (pS L)) bU bU
          .obtain⟨h,w,cs,rfl,rfl,e,hd,up⟩:=hP p;cases cs with|nil=>cases e|cons c cs=>obtain⟨e1,rfl⟩:=Ur e;cases wV e1;have up:=List.pairwise_cons.mp up;exact⟨h,w,cs,rfl,rfl,rfl,λc hc=>⟨(hd c (.tail _ hc)).1,(hd c (.tail _ hc)).2.1,(hd c (.tail _ hc)).2.2.1,(kz _ _).mpr (up.1 _ (WL hc))⟩,up.2⟩) ps (sr i j (.tup ps) (pS (.str [])) none) ⟨⟨[],none,rfl,λhh=>by obtain⟨h,w,bs,R,e⟩:=hh;cases e;exact⟨h,w,bs,rfl,rfl,rfl,λc hc=>⟨⟨(R.bR c hc).1,R.h0,R.h1,R.w0,R.w1,λx hx=>⟨((R.bR c hc).2 x hx).1,λn hn=>by obtain⟨b,hb,rfl⟩:=Wu.mp (((R.bR c hc).2 x hx).2 n hn);exact R.zh b hb⟩⟩,(R.zh c hc).1,(R.zh c hc).2,U'⟩,R.up⟩⟩,λ_ h=>h⟩;have s2{X:DS}{v:Rs Fl}(h:X (sr i j (.tup ps) (pS (.str [])) none)=v):=s1 (aR (ZW:=sr i j (.tup ps) none none) (aR (a:=ax (eD (.str [])) (ag [] 4)) h rfl) (a:=bG (dj (b_ (aC (aF GZ [.val (aa 1),.val (aa 2)]))) (dj (b_ (aC (du "tuple" (ah 3)))) (aC (aA df (az aX (ah 3)) (aq (eD (.int 0))))))) (bh (eD (.bl false))) bL) bU);rcases st with⟨np,r,ZB,e,rfl⟩|⟨ZB,e,⟨⟨a,x5,rfl,_⟩,_⟩,hq⟩;.exact An.no (gi (s2 (dZ ((c7 rfl).trans e)))) λp=>absurd p np
      .obtain⟨bs,rfl,hg⟩:=Mr hq;obtain⟨r,b,ef,er,hb⟩:=zfK (~~~hn) hg;refine⟨b,gi (s2 (aR (x:=.ok _ [pS (.tup [.int i,.int j,D.tup (bs.map aL)]),pS (.int i),pS (.int j),pS (.tup (bs.map aL)),pS (.str a),x5]) ?_ ((c7 rfl).trans e))),λ⟨h,w,bO,R,e⟩=>hb ⟨h,w,?_⟩,λ_=>⟨U',λy hy=>?_⟩⟩;.generalize D.tup (bs.map aL)=B,p_=GF at*;exact bU
       .rwa[(List.map_inj_right λ_ _=>wV).mp (D.tup.inj (Ur (Ur (Ur (D.tup.inj e)).2).2).1)]
       .simp only[Wf,WH,or_false]at hy;rcases hy with rfl|rfl|rfl;.trivial
        .trivial
        .refine⟨hn,λy hy=>?_⟩;obtain⟨b,hb,rfl⟩:=Wu.mp hy;refine⟨U',λy hy=>?_⟩;simp only[Wf,WH,or_false]at hy;rcases hy with rfl|rfl;.trivial
         .have:=(hg b hb).1;refine⟨by simp;lia,λy hy=>?_⟩;obtain⟨r,_,rfl⟩:=Wu.mp hy;trivial
    .exact An.no (gi (s1 (dZ bU))) λhh=>by obtain⟨h,w,bs,R,e⟩:=hh;cases e;exact ne _ rfl
 .exact An.no (gi (dZ bU)) λ⟨_,_,_,_,e⟩=>absurd e (ne _)
open Classical
theorem zix(Gs:DF)(xs ds:List D)(f:Nat->Bool)(hl:ds.length<=1000)(he:xs.length=ds.length)(hg:∀i(h:i<ds.length),Gs [.pure (xs[i]' Y'),.pure ds[i]]=some (.pure (.bl (f i)),[.pure (xs[i]' Y'),.pure ds[i]])):mC Gs [pS (.tup xs),pS (.tup ds),none]=.ok (.own (.lst ((WB ds.length).map λi=>D.bl (f i)))) [pS (.tup xs),pS (.tup ds),none]:=by
 have ei:cG (az aX (ah 1)) [pS (.tup xs),pS (.tup ds),none]=.ok ((WB ds.length).map λi:Nat=>D.int (i:Nat)) [pS (.tup xs),pS (.tup ds),none]:=by have ln:aX (.tup ds)=pS (.int ds.length):=rfl;have r:=vB ds.length Y' [pS (.tup xs),pS (.tup ds),none];rw[zc];generalize D.tup ds=T,D.tup xs=zk at*;simp[ah,ln,r,e9,S.d]
 have ec:=cS (j:=2) (np:=[]) (it:=cG (az aX (ah 1))) (el:=aF Gs [.val (aj aw 0 (ah 2)),.val (aj aw 1 (ah 2))]) (λi:Nat=>D.int (i:Nat)) (λi=>D.bl (f i)) ei (~~~hl) λi hi=>by
  have hi:i<ds.length:= ~~~hi;have hx:i<xs.length:=by lia
  have q:aw (.tup ds) (.int (i:Nat))=pS ds[i]:=#v[aw,iM,hi];have q2:aw (.tup xs) (.int (i:Nat))=pS xs[i]:=#v[aw,iM,hx];have g:=hg i hi;generalize ds[i]=x,xs[i]=y,D.tup ds=T,D.tup xs=zk,D.int (i:Int)=I,D.bl (f i)=B at*;simp[aF,bW,dC,cV,aj,bB,ah,q,q2,cH,g,bH,S.d]
 exact ec
def tO:Nat->D->Prop|n+1,.tup ds=>∀x∈ds,tO n x|_,d=>kn d
theorem Ms:∀{n:Nat}{d:D},tO n d->kn d|_+1,.tup _,_=>trivial|0,d,h=>h|_+1,.aJ,_=>trivial|_+1,.bl _,_=>trivial|_+1,.int _,_=>trivial|_+1,.str _,_=>trivial|_+1,.lst _,_=>trivial|_+1,.au _,_=>trivial|_+1,.exc _ _,h=>h|_+1,.xd _,h=>h|_+1,.fn _,h=>h|_+1,.dic _,h=>h
theorem qbs(h:kn d):(∃i,d=.int i)/\tj [.pure d]=some (.pure (.bl true),[.pure d])\/(∀i,d≠.int i)/\tj [.pure d]=some (.pure (.bl false),[.pure d]):=by cases d<;>first|exact h.elim|exact .inl ⟨⟨_,rfl⟩,rfl⟩|exact .inr ⟨λ_=>nofun,rfl⟩
theorem zgw{xs ds:List D}(he:xs.length=ds.length):((WB ds.length).all λi=>decide (xs.getD i .aJ=ds.getD i .aJ))=decide (xs=ds):=by rw[Qp];simp only[List.all_eq_true,List.mem_range,decide_eq_true_eq];refine⟨λh=>Jg he λi h1 h2=>?_,λh i _=>by rw[h]⟩;simpa[h1,h2]using h i h2
theorem Mt:∀(n:Nat)(x d:D),fE n d->tO n x->iy n [.pure x,.pure d]=some (.pure (.bl (decide (x=d))),[.pure x,.pure d])
 |n+1,x,.tup ds,h,hk=>by
  obtain⟨hl,hs⟩:=h;have t1:kj "tuple" (.tup ds)=some true:=rfl;have ln:aX (.tup ds)=pS (.int ds.length):=rfl;rcases qm (Ms hk)with⟨t2,xs,rfl⟩|⟨t2,ne⟩
  .have ln2:aX (.tup xs)=pS (.int xs.length):=rfl;by_cases he:xs.length=ds.length
   .have c:=zix (iy n) xs ds (λi=>decide (xs.getD i .aJ=ds.getD i .aJ)) hl he λi hi=>by
     have hx:i<xs.length:=by lia
     have z:=Mt n xs[i] ds[i] (hs _ (WQ _)) (hk _ (WQ _));simpa[hi,hx]using z
    have a:=Ml (WB ds.length) λi=>decide (xs.getD i .aJ=ds.getD i .aJ);rw[zgw he]at a;have ne:eT (.int xs.length) (.int ds.length)=pS (.bl false):=#v[eT,eK,he];have e:decide (D.tup xs=D.tup ds)=decide (xs=ds):=by simp
    rw[e];show bI [] 3 (qi (iy n)) _=_;unfold qi;generalize iy n=Gs at*;show bI [] 3 (ar (bG (aC (du "tuple" (ah 1))) (ar (bG (dj (b_ (aC (du "tuple" (ah 0)))) (aC (aA eT (az aX (ah 0)) (aq (az aX (ah 1)))))) (bh (eD (.bl false))) bL) (bh (az mr (aq (mC Gs))))) bL) _) _=_;generalize mC Gs=C,(WB ds.length).map (λi=>D.bl (decide (xs.getD i .aJ=ds.getD i .aJ)))=BB,D.int (ds.length:Int)=N,D.int (xs.length:Int)=zj,D.tup ds=T,D.tup xs=zk,D.bl (decide (xs=ds))=R at*;refine gR (dZ (ZW:=[pS zk,pS T,none]) ?_) rfl rfl;simp[bY,aC,du,ah,t1,t2,dj,b_,aA,ln,ln2,ne,c,a,S.d]
   .have ne:eT (.int xs.length) (.int ds.length)=pS (.bl true):=by
     have:¬(xs.length:Int)=ds.length:=by lia
     simp[eT,eK,this]
    have e:decide (D.tup xs=D.tup ds)=false:=decide_eq_false λz=>he (by cases z;rfl);rw[e];show bI [] 3 (qi (iy n)) _=_;unfold qi;generalize iy n=Gs,D.int (ds.length:Int)=N,D.int (xs.length:Int)=zj,D.tup ds=T,D.tup xs=zk at*;refine gR (dZ (ZW:=[pS zk,pS T,none]) ?_) rfl rfl;simp[bY,aC,du,ah,t1,t2,dj,b_,aA,ln,ln2,ne,S.d]
  .rw[decide_eq_false (ne ds)];cases x<;>first|exact hk.elim|exact absurd rfl (ne _)|rfl
 |n+1,x,.str y,_,hk=>by
  cases x<;>first|exact hk.elim|(rw[decide_eq_false nofun];rfl)|skip
  rename_i z;rw[show decide (D.str z=D.str y)=(z==y)by rw[Qp];simp];rfl|n+1,x,.int j,_,hk=>by
  cases x<;>first|exact hk.elim|(rw[decide_eq_false nofun];rfl)|skip
  rename_i i;rw[show decide (D.int i=D.int j)=(i==j)by rw[Qp];simp];rfl
def kK:Nat->D->Prop|n+1,.tup ds=>∀x∈ds,kK n x|_+1,.str _=>True|_,_=>False
theorem BO{Q:D->Prop}:∀(xs ds:List D),(∀d∈ds,∀x∈xs,bw x d=decide (x=d))->cU xs ds=decide (xs=ds)|[],[],_=>#v[cU]|[],_::_,_=>#v[cU]|_::_,[],_=>#v[cU]|x::xs,d::ds,h=>by rw[cU,h d U' x U',BO (Q:=Q) xs ds λe he y hy=>h e #v[he] y #v[hy]];rw[Qp];simp
theorem BP:∀(n:Nat)(d x:D),kK n d->bw x d=decide (x=d)
 |n+1,.tup ds,x,h=>by cases x with|tup xs=>rw[bw,BO (Q:=λ_=>True) xs ds λd hd x _=>BP n d x (h d hd)];simp|_=>simp[bw]
 |n+1,.str y,x,_=>by cases x with|str z=>rw[bw,Qp];simp|_=>simp[bw]
theorem Mu:∀(n:Nat)(d x:D),fE n d->fE n x->bw x d=decide (x=d)
 |n+1,.tup ds,x,h,k=>by cases x with|tup xs=>rw[bw,BO (Q:=λ_=>True) xs ds λd hd x hx=>Mu n d x (h.2 d hd) (k.2 x hx)];simp|_=>simp[bw]
 |n+1,.str y,x,_,_=>by cases x with|str z=>rw[bw,Qp];simp|_=>simp[bw]
 |n+1,.int j,x,_,k=>by cases x with|int i=>rw[bw,Qp];simp|bl b=>exact k.elim|_=>simp[bw]
theorem wW:∀{ds:List D},(∀x∈ds,flat n x=true)->jJ n ds=true|[],_=>rfl|x::xs,h=>by rw[jJ,h x U',wW λy hy=>h y #v[hy]];rfl
theorem tP:∀(n m:Nat)(d:D),n<=m->fE n d->flat m d=true|n+1,m+1,.tup ds,l,h=>%[flat|wW λx hx=>tP n m x Y' (h.2 x hx)]|_+1,_+1,.str _,_,_=>rfl|_+1,_+1,.int _,_,_=>rfl
theorem qaB{x0}(o0:fE 6 d0)(o1:fE 6 d1)(o2:fE 6 d2)(s1:kK 6 d1)(s2:kK 6 d2)(t2:∃l,d2=.tup l)(k0:fE 6 x0)(f1:flat 49 x1=true)(f2:flat 49 x2=true\/∃kv,x2=.au kv):pF (.tup [x0,x1,x2]) (.tup [d0,d1,d2])=pS (.bl (decide (D.tup [x0,x1,x2]=D.tup [d0,d1,d2]))):=by
 have e:cU [x0,x1,x2] [d0,d1,d2]=decide (D.tup [x0,x1,x2]=D.tup [d0,d1,d2]):=by rw[cU,cU,cU,cU,Mu 6 d0 x0 o0 k0,BP 6 d1 x1 s1,BP 6 d2 x2 s2,Qp];simp[and_assoc]
 have e':bw (.tup [x0,x1,x2]) (.tup [d0,d1,d2])=decide (D.tup [x0,x1,x2]=D.tup [d0,d1,d2]):=by rw[bw,e]
 unfold pF;split;.rw[e']
 .have a0:jm x0 d0=true:=by unfold jm;rw[tP 6 49 x0 Z' k0,tP 6 49 d0 Z' o0];rfl
  have a1:jm x1 d1=true:=by unfold jm;rw[f1,tP 6 49 d1 Z' o1];rfl
  have a2:jm x2 d2=true:=by
   rcases f2 with f|⟨kv,rfl⟩;.unfold jm;rw[f,tP 6 49 d2 Z' o2];rfl
   .obtain⟨l,rfl⟩:=t2;simp[jm]
  simp only[List.zip_cons_cons,List.zip_nil_right,JL,List.all_nil,a0,a1,a2,Bool.and_self,if_true,e]
def Th(x:D):Prop:=fn 7 x\/∃a b kv,x=.tup [a,b,.au kv]/\fn 6 a/\fn 6 b
theorem wX:∀{n:Nat}{d:D},fn n d->tO n d|0,d,h=>h.k|n+1,d,h=>by cases d<;>first|exactλx hx=>wX (h.2 x hx)|trivial|exact h.elim
theorem tQ:∀{n m:Nat}{d:D},fn n d->n<m->flat m d=true
 |n,m+1,d,h,hm=>by
  cases n<;>cases d<;>first|rfl|exact h.elim|skip
  .exact wW λx hx=>tQ (h.2 x hx) Y'
  .exact wW λx hx=>tQ (h x hx) Y'
theorem Th.k(h:Th x):tO 7 x:=by
 rcases h with h|⟨a,b,kv,rfl,ha,hb⟩;.exact wX h
 .intro y hy;simp only[Wf,WH,or_false]at hy;rcases hy with rfl|rfl|rfl;.exact wX ha
  .exact wX hb
  .trivial
theorem Mv(gl:G_least_floor [.pure P]=some (.pure (.tup [d0,d1,d2]),[.pure P]))(o0:fE 6 d0)(o1:fE 6 d1)(o2:fE 6 d2)(s1:kK 6 d1)(s2:kK 6 d2)(t2:∃l,d2=.tup l)(ru:∃h w bs,iO h w bs/\d0=aG h w bs)(hx:Th x):G_least_holds [.pure P,.pure x]=some (.pure (.bl (decide (x=.tup [d0,d1,d2]))),[.pure P,.pure x]):=by
 have hk:=Ms hx.k;unfold G_least_holds b_least_holds;rcases qm hk with⟨t1,xs,rfl⟩|⟨t1,ne⟩
 .have ln:aX (.tup xs)=pS (.int xs.length):=rfl;by_cases hl:xs.length=3
  .obtain⟨x0,x1,x2,rfl⟩:=Mm xs hl;obtain⟨m0,f1,f2⟩:fn 6 x0/\flat 49 x1=true/\(flat 49 x2=true\/∃kv,x2=.au kv):=by
    rcases hx with h|⟨a,b,kv,e,ha,hb⟩;.exact⟨h.2 _ (.head _),tQ (n:=6) (h.2 _ (.tail _ (.head _))) Z',.inl (tQ (n:=6) (h.2 _ (.tail _ (.tail _ (.head _)))) Z')⟩
    .cases e;exact⟨ha,tQ hb Z',.inr ⟨_,rfl⟩⟩
   obtain⟨b,gr,pr,qr⟩:=z84 m0;have i0:aw (.tup [x0,x1,x2]) (.int 0)=pS x0:=rfl;have n3:eT (.int ([x0,x1,x2].length:Nat)) (.int 3)=pS (.bl false):=rfl;cases b with|false=>
 have e:decide (D.tup [x0,x1,x2]=D.tup [d0,d1,d2])=false:=decide_eq_false λz=>by cases z;exact nomatch pr ru
 rw[e];generalize lK=GR,G_least_floor=GL,D.int (([x0,x1,x2].length:Nat):Int)=N,D.tup [x0,x1,x2]=X at*;refine j4 (wq (ZW:=[pS P,pS X]) ?_);simp[bY,aC,du,ah,t1,dj,b_,aA,ln,n3,aF,bW,dC,cV,aj,bB,i0,cH,gr,bH,S.d]|true=>have q:=qaB o0 o1 o2 s1 s2 t2 (qr rfl) f1 f2;generalize D.bl (decide (D.tup [x0,x1,x2]=D.tup [d0,d1,d2]))=R,lK=GR,G_least_floor=GL,D.int (([x0,x1,x2].length:Nat):Int)=N,D.tup [x0,x1,x2]=X,D.tup [d0,d1,d2]=Y at*;refine j4 (ZW:=[pS P,pS X]) (by
     rw[fj (ZW:=[pS P,pS X])];.simp[bY,aj,bB,ah,aF,bW,dC,cV,aa,cH,gl,bH,q,S.d]
     .simp[bY,aC,du,ah,t1,dj,b_,aA,ln,n3,aF,bW,dC,cV,aj,bB,i0,cH,gr,bH,S.d])
  .have e:decide (D.tup xs=D.tup [d0,d1,d2])=false:=decide_eq_false λz=>by cases z;simp at hl
   have n3:eT (.int (xs.length:Nat)) (.int 3)=pS (.bl true):=by
    have:¬(xs.length:Int)=3:=by lia
    simp[eT,eK,this]
   rw[e];generalize lK=GR,G_least_floor=GL,D.int ((xs.length:Nat):Int)=N,D.tup xs=X at*;refine j4 (wq (ZW:=[pS P,pS X]) ?_);simp[bY,aC,du,ah,t1,dj,b_,aA,ln,n3,S.d]
 .rw[decide_eq_false (ne _)];generalize lK=GR,G_least_floor=GL at*;refine j4 (wq (ZW:=[pS P,pS x]) ?_);simp[bY,aC,du,ah,t1,dj,b_,S.d]
theorem zfH(gl:G_least_floor [.pure P]=some (.pure (.tup [d0,d1,d2]),[.pure P]))(o0:fE 6 d0)(o1:fE 6 d1)(o2:fE 6 d2)(s1:kK 6 d1)(s2:kK 6 d2)(t2:∃l,d2=.tup l)(ru:∃h w bs,iO h w bs/\d0=aG h w bs)(hx:Th x):G__law_right [.pure P,.pure (.tup [d0,d1,d2]),.pure x]=some (.pure (.bl true),[.pure P,.pure (.tup [d0,d1,d2]),.pure x]):=by have h1:=Mv gl o0 o1 o2 s1 s2 t2 ru hx;have ok:fE 7 (.tup [d0,d1,d2]):=⟨U',λy hy=>by simp only[Wf,WH,or_false]at hy;rcases hy with rfl|rfl|rfl<;>assumption⟩;have h2:=Mt 7 x _ ok hx.k;obtain⟨b,h1,h2⟩:∃b,G_least_holds [.pure P,.pure x]=some (.pure (.bl b),[.pure P,.pure x])/\iy 7 [.pure x,.pure (.tup [d0,d1,d2])]=some (.pure (.bl b),[.pure x,.pure (.tup [d0,d1,d2])]):=⟨_,h1,h2⟩;have ty:kj "bool" (.bl b)=some true:=rfl;have eq:jS false (.bl b) (.bl b)=pS (.bl true):=#v[jS];unfold G__law_right b__law_right;generalize G_least_holds=GH,iy 7=GS,D.bl b=B,D.tup [d0,d1,d2]=Y at*;refine oG (ZW:=[pS P,pS Y,pS x,pS B]) (by
 rw[fj (ZW:=[pS P,pS Y,pS x,pS B])];.simp[iI,du,ah,ty,aj,bB,aF,bW,dC,cV,aa,cH,h2,bH,eq,S.d]
 .simp[bY,ax,aF,bW,dC,cV,aa,cH,h1,bH,S.d])
theorem pick{L:List D}{r:Nat}(h:r<L.length):∃y∈L,aw (.lst L) (.int r)=pS y:=⟨L[r],WQ _,#v[aw,iM,h]⟩
theorem zj8(GD:DF)(hG:bZ=GD)(k:Int)(pd p1 p2 p3 p4 p5 p6 p7 p8 st pt H W BL N T B X0 X1 R2 C RW B1 NB LB O R3 Mw R4 R5 SG BA BI LR CH RV LL B2 B3 PA PB PC PD PR PF LP DP R6 RR R7 PP R8 Y:D)(lnB:aX BL=pS N)(g1:GD [.own pd,.pure N]=some (.pure (.int k),[.own p1,.pure N]))(ib:aw BL (.int k)=pS (.tup [T,B]))(b0:aw B (.int 0)=pS X0)(sl1:dA none (some (-1)) X0=pS X1)(g2:GD [.own p1,.pure (.int 3)]=some (.pure R2,[.own p2,.pure (.int 3)]))(ia:aw (.str [97,98,122]) R2=pS C)(a1:aU X1 C=pS RW)(slB:dA (some 1) none B=pS B1)(a2:aU (.tup [RW]) B1=pS NB)(cn:lq B=pO LB)(g3:GD [.own p2,.pure (.int 5)]=some (.pure R3,[.own p3,.pure (.int 5)]))(i3:aw (.lst [.tup [T,NB],.tup [.str [98],B],.lst [T,B],.tup [T,LB],.tup [T]]) R3=pS O)(g4:GD [.own p3,.pure (.int 3)]=some (.pure R4,[.own p4,.pure (.int 3)]))(i4:aw (.str [120,121,122]) R4=pS Mw)(g5:GD [.own p4,.pure (.int 4)]=some (.pure R5,[.own p5,.pure (.int 4)]))(i5:aw (.lst [.tup [T,Mw],.tup [.str [122],.str [120]],.tup [T,.aJ],.lst [T,.str [120]]]) R5=pS SG)(s1:dA none (some k) BL=pS BA)(s2:aU BA (.tup [O])=pS BI)(s3:dA (some (k+1)) none BL=pS LR)(s4:aU BI LR=pS CH)(rv:pG BL=pS RV)(lb:lq BL=pO LL)(ab:aU BL (.tup [.tup [T,B]])=pS B2)(sm:dA none (some (-1)) BL=pS B3)(q1:dA none (some k) pt=pS PA)(q2:aU PA (.tup [SG])=pS PB)(q3:dA (some (k+1)) none pt=pS PC)(q4:aU PB PC=pS PD)(rp:pG pt=pS PR)(q5:dA (some 1) none pt=pS PF)(lp:lq pt=pO LP)(dp:dD pt=pO DP)(g6:GD [.own p5,.pure (.int 10)]=some (.pure R6,[.own p6,.pure (.int 10)]))(i6:aw (.lst [.tup [H,W,CH],.tup [W,H,BL],.tup [H,W,RV],.tup [H,W,LL],.tup [H,W,B2],.tup [.bl true,W,BL],.lst [H,W,BL],.aJ,.tup [H,W],.tup [H,W,B3]]) R6=pS RR)(g7:GD [.own p6,.pure (.int 6)]=some (.pure R7,[.own p7,.pure (.int 6)]))(i7:aw (.lst [PD,PR,PF,LP,DP,.aJ]) R7=pS PP)(g8:GD [.own p7,.pure (.int 9)]=some (.pure R8,[.own p8,.pure (.int 9)]))(i8:aw (.lst [.tup [RR,st,pt],.tup [.tup [H,W,BL],st,PP],.tup [.tup [H,W,BL],.str [98],pt],.tup [.tup [H,W,BL],.aJ,pt],.tup [.tup [H,W,BL],st],.lst [.tup [H,W,BL],st,pt],.tup [H,W,BL],.aJ,.tup [.tup [H,W,BL],st,pt,.int 1]]) R8=pS Y):mT [.pure (.tup [.tup [H,W,BL],st,pt]),.own pd]=some (.pure Y,[.pure (.tup [.tup [H,W,BL],st,pt]),.own p8]):=by
 unfold mT IH;rw[hG];have ng:pD (.int 1)=pS (.int (-1)):=rfl;have l1:∀a b:List D,a.length+b.length<=1000->aU (.lst a) (.lst b)=pO (.lst (a++b)):=λa b h=>by
  have:a.length+b.length<=Wb:=by rw[Ju];lia
  simp[aU,this]
 have l2:aU (.tup [.tup [H,W,BL],st,pt]) (.tup [.int 1])=pS (.tup [.tup [H,W,BL],st,pt,.int 1]):=rfl;have l3:lq (.tup [H,W,BL])=pO (.lst [H,W,BL]):=rfl;refine' gR (v:=.pure Y) _ rfl _;rotate_left 1;iterate 4 refine aR ?_ cN
 iterate 12 refine aR ?_ (by exists "zzj ax bQ ao aD aQ aa ah aA aj bB mw eQ gz dw az aF bW dC dP cV cH bH ai S.d",_,_,_;rfl)
 exists "zzj ax bQ ao aD aQ aa ah aA aj bB mw eQ gz dw az aF bW dC dP cV cH bH ai S.d",_,_,_;rfl;rfl
theorem oH{α:Type}{xs:List α}{lo hi:Option Int}{y:α}(h:y∈bC xs lo hi):y∈xs:=by unfold bC at h;exact List.mem_of_mem_drop (List.mem_of_mem_take h)
theorem qt(h:xs.length+ys.length<=1000):aU (.tup xs) (.tup ys)=pS (.tup (xs++ys)):=by
 have:xs.length+ys.length<=Wb:=by rw[Ju];lia
 simp[aU,this]
def kL(b:D):Prop:=∃(t:Nat)(x:Tx)(rs:List Tx),b=.tup [.str [t],.tup (.str x::rs.map .str)]/\x.length<=64/\rs.length<=64/\∀r∈rs,r.length<=64
def oI(p:D):Prop:=∃t s:Nat,p=.tup [.str [t],.str [s]]
theorem kL.f(h:kL b)(n:Nat):fn (n+2) b:=by
 obtain⟨t,x,rs,rfl,hx,hn,hr⟩:=h;refine⟨U',λd hd=>?_⟩;simp only[Wf,WH,or_false]at hd;rcases hd with rfl|rfl;.simp[fn]
 .refine⟨by simp;lia,λd hd=>?_⟩;rcases Wf.mp hd with rfl|hd;.cases n<;>exact Qe hx Z'
  .obtain⟨r,rZ,rfl⟩:=Wu.mp hd;cases n<;>exact Qe (hr r rZ) Z'
theorem oI.f{p}(h:oI p)(n:Nat):fn (n+1) p:=by obtain⟨t,s,rfl⟩:=h;cases n<;>simp[fn]
theorem Mx:∀{ps:List D},(∀p∈ps,oI p)->∃kv,gP ps=some kv/\kv.length=ps.length|[],_=>⟨[],rfl,rfl⟩|p::ps,h=>by obtain⟨t,s,rfl⟩:=h p U';obtain⟨kv,e,l⟩:=Mx λq hq=>h q (Wn _ hq);exact⟨(Sum.inr [t],.str [s])::kv,#v[gP,cb,e],#v[l]⟩
theorem f2(ha:fn n a)(hb:fn n b):∀x∈[a,b],fn n x:=#v[ha,hb]
theorem f3{c}(ha:fn n a)(hb:fn n b)(hc:fn n c):∀x∈[a,b,c],fn n x:=#v[ha,hb,hc]
theorem fs(n t:Nat):fn n (.str [t]):=by cases n<;>simp[fn]
theorem fi(n:Nat)(i:Int):fn n (.int i):=by cases n<;>trivial
theorem zhK(hp:bS pd){h w:Nat}{bs ps:List D}{st:Nat}(hb:∀b∈bs,kL b)(hq:∀p∈ps,oI p)(n0:0<bs.length)(n1:bs.length<=26)(n2:ps.length<=26):∃Y bt,mT [.pure (.tup [.tup [.int h,.int w,.tup bs],.str [st],.tup ps]),.own pd]=some (.pure Y,[.pure (.tup [.tup [.int h,.int w,.tup bs],.str [st],.tup ps]),.own bt])/\bS bt/\Th Y:=by
 obtain⟨r1,p1,g1,l1,hp⟩:=eV hp bs.length bs.length rfl n0 Y';obtain⟨r2,p2,g2,l2,hp⟩:=eV hp 3 3 rfl Z' Z';obtain⟨r3,p3,g3,l3,hp⟩:=eV hp 5 5 rfl Z' Z';obtain⟨r4,p4,g4,l4,hp⟩:=eV hp 3 3 rfl Z' Z';obtain⟨r5,p5,g5,l5,hp⟩:=eV hp 4 4 rfl Z' Z';obtain⟨r6,p6,g6,l6,hp⟩:=eV hp 10 10 rfl Z' Z';obtain⟨r7,p7,g7,l7,hp⟩:=eV hp 6 6 rfl Z' Z';obtain⟨r8,p8,g8,l8,hp⟩:=eV hp 9 9 rfl Z' Z';obtain⟨t,x,rs,eb,hx,hn,hr⟩:=hb bs[r1] (WQ l1);have ib:aw (.tup bs) (.int (r1:Int))=pS (.tup [.str [t],.tup (.str x::rs.map .str)]):=#v[aw,iM,l1,eb];obtain⟨c,ia⟩:∃c,aw (.str [97,98,122]) (.int (r2:Int))=pS (.str [c]):=by rcases show r2=0\/r2=1\/r2=2 by lia with rfl|rfl|rfl<;>exact⟨_,rfl⟩
 obtain⟨s,i4⟩:∃c,aw (.str [120,121,122]) (.int (r4:Int))=pS (.str [c]):=by rcases show r4=0\/r4=1\/r4=2 by lia with rfl|rfl|rfl<;>exact⟨_,rfl⟩
 have a1:aU (.str (bC x none (some (-1)))) (.str [c])=pS (.str (bC x none (some (-1))++[c])):=by
  have:=kh x none (some (-1));have:(bC x none (some (-1))).length+1<=Wb:=by rw[Ju];lia
  simp[aU,this]
 have qaC:(bC x none (some (-1))++[c]).length<=65:=by have:=kh x none (some (-1));simp;lia
 generalize bC x none (some (-1))++[c]=row at*;have c1:=kh (D.str x::rs.map D.str) (some 1) none;simp only[WP,Ws]at c1;have a2:=qt (xs:=[.str row]) (ys:=bC (D.str x::rs.map D.str) (some 1) none) V';obtain⟨O,hO,i3⟩:=pick (L:=[.tup [.str [t],.tup ([.str row]++bC (D.str x::rs.map D.str) (some 1) none)],.tup [.str [98],.tup (.str x::rs.map .str)],.lst [.str [t],.tup (.str x::rs.map .str)],.tup [.str [t],.lst (.str x::rs.map .str)],.tup [.str [t]]]) (r:=r3) (~~~l3);obtain⟨G,hG,i5⟩:=pick (L:=[.tup [.str [t],.str [s]],.tup [.str [122],.str [120]],.tup [.str [t],.aJ],.lst [.str [t],.str [120]]]) (r:=r5) (~~~l5);have b1:=kh bs none (some (r1:Int));have b2:=kh bs (some ((r1:Int)+1)) none;have b3:=kh bs none (some (-1));have e1:=kh ps none (some (r1:Int));have e2:=kh ps (some ((r1:Int)+1)) none;have e3:=kh ps (some 1) none;have s2:=qt (xs:=bC bs none (some (r1:Int))) (ys:=[O]) V';have s4:=qt (xs:=bC bs none (some (r1:Int))++[O]) (ys:=bC bs (some ((r1:Int)+1)) none) V';have ab:=qt (xs:=bs) (ys:=[.tup [.str [t],.tup (.str x::rs.map .str)]]) V';have q2:=qt (xs:=bC ps none (some (r1:Int))) (ys:=[G]) V';have q4:=qt (xs:=bC ps none (some (r1:Int))++[G]) (ys:=bC ps (some ((r1:Int)+1)) none) V';obtain⟨kv,ek,lk⟩:=Mx hq;have dp:dD (.tup ps)=pO (.au (jk kv [])):=by
  have:kv.length<=Wb:=by rw[Ju];lia
  simp[dD,ek,this]
 obtain⟨RR,hR,i6⟩:=pick (L:=[.tup [.int h,.int w,.tup (bC bs none (some (r1:Int))++[O]++bC bs (some ((r1:Int)+1)) none)],.tup [.int w,.int h,.tup bs],.tup [.int h,.int w,.tup bs.reverse],.tup [.int h,.int w,.lst bs],.tup [.int h,.int w,.tup (bs++[.tup [.str [t],.tup (.str x::rs.map .str)]])],.tup [.bl true,.int w,.tup bs],.lst [.int h,.int w,.tup bs],.aJ,.tup [.int h,.int w],.tup [.int h,.int w,.tup (bC bs none (some (-1)))]]) (r:=r6) (~~~l6);obtain⟨PP,hP,i7⟩:=pick (L:=[.tup (bC ps none (some (r1:Int))++[G]++bC ps (some ((r1:Int)+1)) none),.tup ps.reverse,.tup (bC ps (some 1) none),.lst ps,.au (jk kv []),.aJ]) (r:=r7) (~~~l7);obtain⟨Y,hY,i8⟩:=pick (L:=[.tup [RR,.str [st],.tup ps],.tup [.tup [.int h,.int w,.tup bs],.str [st],PP],.tup [.tup [.int h,.int w,.tup bs],.str [98],.tup ps],.tup [.tup [.int h,.int w,.tup bs],.aJ,.tup ps],.tup [.tup [.int h,.int w,.tup bs],.str [st]],.lst [.tup [.int h,.int w,.tup bs],.str [st],.tup ps],.tup [.int h,.int w,.tup bs],.aJ,.tup [.tup [.int h,.int w,.tup bs],.str [st],.tup ps,.int 1]]) (r:=r8) (~~~l8);refine⟨Y,p8,zj8 bZ rfl (r1:Int) pd p1 p2 p3 p4 p5 p6 p7 p8 (.str [st]) (.tup ps) (.int h) (.int w) (.tup bs) (.int bs.length) (.str [t]) (.tup (.str x::rs.map .str)) (.str x) _ _ _ _ _ _ _ _ _ _ _ _ _ _ _ _ _ _ _ _ _ _ _ _ _ _ _ _ _ _ _ _ _ _ _ rfl g1 ib (BM _ _) (uO x Y' _ _) g2 ia a1 rfl a2 rfl g3 i3 g4 i4 g5 i5 rfl s2 rfl s4 rfl rfl ab rfl rfl q2 rfl q4 rfl rfl rfl dp g6 i6 g7 i7 g8 i8,hp,?_⟩;have fb:∀n,fn (n+3) (.tup bs):=λn=>⟨Y',λb h=>(hb b h).f n⟩;have fp:∀n,fn (n+2) (.tup ps):=λn=>⟨Y',λp h=>(hq p h).f n⟩;have fk:∀n,fn (n+1) (.tup (.str x::rs.map .str)):=λn=>(kL.f ⟨t,x,rs,rfl,hx,hn,hr⟩ n).2 _ (.tail _ (.head _));have hO:∀n,fn (n+2) O:=λn=>by
  simp only[Wf,WH,or_false]at hO;rcases hO with rfl|rfl|rfl|rfl|rfl
  .refine⟨U',f2 (fs _ _) ⟨by simp;lia,λd hd=>?_⟩⟩;rcases WZ.mp hd with hd|hd;.simp only[Wf,WH,or_false]at hd;subst hd;cases n<;>exact Qe qaC Z'
   .exact(fk n).2 _ (oH hd)
  .exact kL.f ⟨98,x,rs,rfl,hx,hn,hr⟩ n
  .exact f2 (fs _ _) (fk n)
  .exact⟨U',f2 (fs _ _) (fk n).2⟩
  .exact⟨U',#v[fs]⟩
 have fr:∀{l:List D}(n:Nat),l.length<=1000->(∀b∈l,b∈bs\/b=O\/kL b)->fn (n+4) (.tup [.int h,.int w,.tup l]):=λn hl hm=>⟨U',f3 (fi _ _) (fi _ _) ⟨hl,λb h=>by
  rcases hm b h with h|rfl|h;.exact(hb b h).f n
  .exact hO n
  .exact h.f n⟩⟩;have hR:∀n,fn (n+4) RR:=λn=>by
  simp only[Wf,WH,or_false]at hR;rcases hR with rfl|rfl|rfl|rfl|rfl|rfl|rfl|rfl|rfl|rfl
  .refine fr n V' λb h=>?_;simp only[WZ,Wf,WH,or_false]at h;rcases h with(h|h)|h;.exact .inl (oH h)
   .exact .inr (.inl h)
   .exact .inl (oH h)
  .exact⟨U',f3 (fi _ _) (fi _ _) (fb n)⟩
  .exact fr n V' λb h=>.inl (~~~h)
  .exact⟨U',f3 (fi _ _) (fi _ _) λb h=>(hb b h).f n⟩
  .refine fr n V' λb h=>?_;simp only[WZ,Wf,WH,or_false]at h;exact h.imp id λe=>.inr ⟨t,x,rs,e,hx,hn,hr⟩
  .exact⟨U',f3 trivial (fi _ _) (fb n)⟩
  .exact f3 (fi _ _) (fi _ _) (fb n)
  .trivial
  .exact⟨U',f2 (fi _ _) (fi _ _)⟩
  .exact fr n Y' λb h=>.inl (oH h)
 have hG:∀n,fn (n+1) G:=λn=>by
  simp only[Wf,WH,or_false]at hG;rcases hG with rfl|rfl|rfl|rfl;.exact⟨U',f2 (fs _ _) (fs _ _)⟩
  .exact⟨U',f2 (fs _ _) (fs _ _)⟩
  .exact⟨U',f2 (fs _ _) (by cases n<;>trivial)⟩
  .exact f2 (fs _ _) (fs _ _)
 have hP:(∀n,fn (n+2) PP)\/∃kv,PP=.au kv:=by
  simp only[Wf,WH,or_false]at hP;rcases hP with rfl|rfl|rfl|rfl|rfl|rfl
  .refine .inl λn=>⟨by simp;lia,λp h=>?_⟩;simp only[WZ,Wf,WH,or_false]at h;rcases h with(h|rfl)|h;.exact(hq p (oH h)).f n
   .exact hG n
   .exact(hq p (oH h)).f n
  .exact .inl λn=>⟨by simp;lia,λp h=>(hq p (~~~h)).f n⟩
  .exact .inl λn=>⟨Y',λp h=>(hq p (oH h)).f n⟩
  .exact .inl λn p h=>(hq p h).f n
  .exact .inr ⟨_,rfl⟩
  .exact .inl λn=>trivial
 have fu:fn 6 (.tup [.int h,.int w,.tup bs]):=fr 2 Y' λb h=>.inl h;simp only[Wf,WH,or_false]at hY;rcases hY with rfl|rfl|rfl|rfl|rfl|rfl|rfl|rfl|rfl;.exact .inl ⟨U',f3 (hR 2) (fs _ _) (fp 4)⟩
 .rcases hP with h|⟨kv,rfl⟩;.exact .inl ⟨U',f3 fu (fs _ _) (h 4)⟩
  .exact .inr ⟨_,_,kv,rfl,fu,fs _ _⟩
 .exact .inl ⟨U',f3 fu (fs _ _) (fp 4)⟩
 .exact .inl ⟨U',f3 fu trivial (fp 4)⟩
 .exact .inl ⟨U',f2 fu (fs _ _)⟩
 .exact .inl (f3 fu (fs _ _) (fp 4))
 .exact .inl (fr 3 Y' λb h=>.inl h)
 .exact .inl trivial
 .refine .inl ⟨U',λy hy=>?_⟩;simp only[Wf,WH,or_false]at hy;rcases hy with rfl|rfl|rfl|rfl;.exact fu
  .exact fs _ _
  .exact fp 4
  .exact fi _ _
theorem ziS{t:Nat}(h0:0<fl.length)(h1:fl.length<=64)(hr:∀r∈fl,r.length<=64):kL (.tup [.str [t],.tup (fl.map .str)]):=by cases fl with|nil=>simp at h0|cons x rs=>simp only[WP]at h1;exact⟨t,x,rs,rfl,hr x U',Y',λr h=>hr r #v[h]⟩
theorem My{h w:Nat}{bs:List (Nat×List Tx)}(R:ck h w bs):∀b∈bs.map aL,kL b:=λb hb=>by obtain⟨b',lz,rfl⟩:=Wu.mp hb;have:=R.bR b' lz;have h0:=R.h0;have h1:=R.h1;have w1:=R.w1;exact ziS Y' Y' λr hr=>by have:=(this.2 r hr).1;lia
theorem BQ(ps:List (Nat×Nat)):∀p∈ps.map λp=>D.tup [.str [p.1],.str [p.2]],oI p:=λp hp=>by obtain⟨p',_,rfl⟩:=Wu.mp hp;exact⟨_,_,rfl⟩
theorem qaD{h w:Nat}{bs ps:List D}{st:Nat}(hb:∀b∈bs,kL b)(hq:∀p∈ps,oI p)(hn:bs.length<=1000)(hm:ps.length<=1000):Th (.tup [.tup [.int h,.int w,.tup bs],.str [st],.tup ps]):=.inl ⟨U',f3 ⟨U',f3 (fi _ _) (fi _ _) ⟨hn,λb h=>(hb b h).f 2⟩⟩ (fs _ _) ⟨hm,λp h=>(hq p h).f 4⟩⟩
theorem zdc{h w:Nat}{bs ps:List D}{st:Nat}(hb:∀b∈bs,kL b)(hq:∀p∈ps,oI p)(hn:bs.length<=1000)(hm:ps.length<=1000):fE 6 (.tup [.int h,.int w,.tup bs])/\fE 6 (.str [st])/\fE 6 (.tup ps)/\kK 6 (.str [st])/\kK 6 (.tup ps):=by
 refine⟨⟨U',λy hy=>?_⟩,trivial,⟨hm,λp hp=>?_⟩,trivial,λp hp=>?_⟩
 .simp only[Wf,WH,or_false]at hy;rcases hy with rfl|rfl|rfl;.trivial
  .trivial
  .refine⟨hn,λb h=>?_⟩;obtain⟨t,x,rs,rfl,_,hr,_⟩:=hb b h;refine⟨U',λy hy=>?_⟩;simp only[Wf,WH,or_false]at hy;rcases hy with rfl|rfl;.trivial
   .refine⟨by simp;lia,λy hy=>?_⟩;rcases Wf.mp hy with rfl|hy;.trivial
    .obtain⟨r,_,rfl⟩:=Wu.mp hy;trivial
 .obtain⟨t,s,rfl⟩:=hq p hp;refine⟨U',λy hy=>?_⟩;simp only[Wf,WH,or_false]at hy;rcases hy with rfl|rfl<;>trivial
 .obtain⟨t,s,rfl⟩:=hq p hp;intro y hy;simp only[Wf,WH,or_false]at hy;rcases hy with rfl|rfl<;>trivial
def cn(bs:List (Nat×List Tx))(L:List Nat)(hd:Nat->Nat):List (Nat×List Tx):=L.map λx=>(97+L.idxOf x,(bR bs x).map λr=>r.map λp=>97+L.idxOf (hd p))
theorem Mz(bs:List (Nat×List Tx))(L:List Nat)(hd:Nat->Nat):L.map (gG bs (λp=>97+L.idxOf (hd p)) λx=>97+L.idxOf x)=(cn bs L hd).map aL:=by unfold cn gG;simp
theorem MA(nd:L.Nodup):L.map (λx=>97+L.idxOf x)=(WB L.length).map (97+.):=by refine Jg U' λi h1 h2=>?_;simp at h1;simp[nd.idxOf_getElem i h1]
theorem zgd{bs:List (Nat×List Tx)}(nd:L.Nodup):(cn bs L hd).map (·.1)=(WB L.length).map (97+.):=by rw[<-MA nd];unfold cn;simp
theorem zbq(R:ck h w bs)(nd:L.Nodup)(l0:0<L.length)(l1:L.length<=26)(hL:∀t∈L,t∈bs.map (·.1))(hc:∀t∈L,∀r∈bR bs t,∀p∈r,hd p∈L):iO h w (cn bs L hd):=by
 have ef:=zgd (bs:=bs) (hd:=hd) nd;have ln:(cn bs L hd).length=L.length:=by unfold cn;simp
 refine⟨R.h0,R.h1,R.w0,R.w1,R.hw,Y',Y',?_,λb hb=>?_,λb hb=>?_⟩;.rw[ef,QM];exact List.pairwise_lt_range.imp λh=>by lia
 .obtain⟨x,hx,rfl⟩:=Wu.mp hb;have:=WU hx;exact⟨Y',Y'⟩
 .obtain⟨x,hx,rfl⟩:=Wu.mp hb;obtain⟨b,lz,_,_,eb⟩:=lR (hL x hx);have B:=R.bR b lz;refine⟨#v[eb,B.1],λr hr=>?_⟩;obtain⟨q,hq,rfl⟩:=Wu.mp hr;have jw:=hq;rw[eb]at jw;refine⟨#v[(B.2 q jw).1],λn hn=>?_⟩;obtain⟨p,hp,rfl⟩:=Wu.mp hn;rw[ef];refine Wu.mpr ⟨L.idxOf (hd p),?_,rfl⟩;exact List.mem_range.mpr (WU (hc x hx q hq p hp))
theorem MB(h:c t=c u):ay c ts t=ay c ts u:=by unfold ay;rw[h]
theorem qaE(ht:t∈ts):ay c ts (ay c ts t)=ay c ts t:=MB (lS ht).choose_spec.2.2
theorem qaF{p}(R:ck h w bs)(ht:t∈bs.map (·.1))(hp:p∈aE bs t):p∈bs.map (·.1):=by obtain⟨b,hb,_,_,eb⟩:=lR ht;unfold aE at hp;rw[eb]at hp;obtain⟨r,hr,hp⟩:=List.mem_flatten.mp hp;exact((R.bR b hb).2 r hr).2 p hp
theorem zch{h w:Nat}{bs:List (Nat×List Tx)}(R:ck h w bs){st:Nat}(bV:st∈bs.map (·.1))(W:Wk bs (ay c (bs.map (·.1))) st n):∀x∈aS bs (ay c (bs.map (·.1))) st n,ay c (bs.map (·.1)) x=x:=λx hx=>by
 have mem:∀t∈bs.map (·.1),ay c (bs.map (·.1)) t∈(bs.map (·.1)).filter λx=>ay c (bs.map (·.1)) x==x:=λt ht=>by simp only[List.mem_filter,beq_iff_eq];exact⟨(lS ht).choose_spec.2.1,qaE ht⟩
 have:=oD (ts:=(bs.map (·.1)).filter λx=>ay c (bs.map (·.1)) x==x) (mem st bV) (λt ht p hp=>by obtain⟨q,hq,rfl⟩:=Wu.mp hp;exact mem q (qaF R (U4.mp ht).1 hq)) n W.lt x hx;simpa using(U4.mp this).2
theorem BR{x y:Nat}(hx:x∈L)(hy:y∈L)(h:L.idxOf x=L.idxOf y):x=y:=by have a:=QT (WU hx);have b:=QT (WU hy);rw[<-a,<-b];congr 1
theorem lT(hx:x∈L):97+L.idxOf x∈(cn bs L hd).map (·.1):=by unfold cn;rw[Wq];exact Wu.mpr ⟨x,hx,rfl⟩
theorem MC{bs:List (Nat×List Tx)}{x:Nat}(hx:x∈L):bR (cn bs L hd) (97+L.idxOf x)=(bR bs x).map λr=>r.map λp=>97+L.idxOf (hd p):=by obtain⟨b,hb,e1,_,e2⟩:=lR (lT (bs:=bs) (hd:=hd) hx);obtain⟨y,hy,rfl⟩:=Wu.mp hb;have:y=x:=BR hy hx (~~~e1);subst this;exact e2
theorem BU(hx:x∈L):aE (cn bs L hd) (97+L.idxOf x)=(aE bs x).map λp=>97+L.idxOf (hd p):=by unfold aE;rw[MC hx];simp[List.map_flatten]
theorem zdl(R:ck h w bs)(rs:Res (bs.map (·.1)) (aE bs) sg c)(hL:∀t∈L,t∈bs.map (·.1))(hh:∀x∈L,ay c (bs.map (·.1)) x=x)(hc:∀t∈L,∀p∈aE bs t,ay c (bs.map (·.1)) p∈L)(hs:∀x∈L,mY (97+L.idxOf x)=sg x)(lU:Res ((cn bs L (ay c (bs.map (·.1)))).map (·.1)) (aE (cn bs L (ay c (bs.map (·.1))))) mY c'):∀x∈L,∀y∈L,c' (97+L.idxOf x)=c' (97+L.idxOf y)->x=y:=by
 generalize hhd:ay c (bs.map (·.1))=hd at*;have mZ:∀t∈bs.map (·.1),hd t∈bs.map (·.1)/\c (hd t)=c t:=λt ht=>by have:=(lS (c:=c) ht).choose_spec.2;rw[hhd]at this;exact this
 have BV:∀t u,c t=c u->hd t=hd u:=λt u e=>by rw[<-hhd];exact MB e
 have key:=rs.max (λt u=>hd t∈L/\hd u∈L/\c' (97+L.idxOf (hd t))=c' (97+L.idxOf (hd u))) (λt ht u hu⟨a,b,e⟩=>by
 have q1:=lU.same _ (lT a) _ (lT b) e;rw[hs _ a,hs _ b]at q1;have s1:=rs.same _ (mZ t ht).1 t ht (mZ t ht).2;have s2:=rs.same _ (mZ u hu).1 u hu (mZ u hu).2;have k1:=rs.wk _ (mZ t ht).1 t ht (mZ t ht).2;have k2:=rs.wk _ (mZ u hu).1 u hu (mZ u hu).2;have k3:=lU.wk _ (lT a) _ (lT b) e;rw[BU a,BU b,Wq,Wq]at k3;have l1:(aE bs (hd t)).length=(aE bs t).length:=by have:=congrArg WV k1;simpa using this
 have l2:(aE bs (hd u)).length=(aE bs u).length:=by have:=congrArg WV k2;simpa using this
 have l3:(aE bs (hd t)).length=(aE bs (hd u)).length:=by have:=congrArg WV k3;simpa using this
 refine⟨by rw[<-s1,<-s2,q1],Y',λk p q hp hq=>?_⟩;have hk:k<(aE bs t).length:=(W9.mp hp).1;have g1:(aE bs (hd t))[k]?=some ((aE bs (hd t))[k]' Y'):=W8 _;have g2:(aE bs (hd u))[k]?=some ((aE bs (hd u))[k]' Y'):=W8 _;have z1:=congrArg (.[k]?) k1;have z2:=congrArg (.[k]?) k2;have z3:=congrArg (.[k]?) k3;simp only[Wo,g1,g2,hp,hq,WX,Wd,Function.comp]at z1 z2 z3;have m1:=hc _ a _ (WQ (l:=aE bs (hd t)) (n:=k) Y');have m2:=hc _ b _ (WQ (l:=aE bs (hd u)) (n:=k) Y');rw[<-BV _ _ z1,<-BV _ _ z2];exact⟨m1,m2,z3⟩);intro x hx y hy e;have:=key x (hL x hx) y (hL y hy) ⟨%[hh x hx|hx],%[hh y hy|hy],%[hh x hx,hh y hy|e]⟩;rw[<-hh x hx,<-hh y hy];exact BV _ _ this
theorem qaG(inj:∀t∈ts,∀u∈ts,c' t=c' u->t=u)(ht:t∈ts):ay c' ts t=t:=by have:=(lS (c:=c') ht).choose_spec.2;exact inj _ this.1 _ ht this.2
theorem MD{pt:Nat->List Nat}{i:Nat->Nat}(inj:∀x∈L,∀y∈L,i x=i y->x=y)(h0:x0∈L)(gD:∀t∈L,∀p∈pt t,p∈L)(ME:∀t∈L,pt' (i t)=(pt t).map i):∀k,(∀j<k,j<(bf pt x0 j).length)->bf pt' (i x0) k=(bf pt x0 k).map i|0,_=>#v[bf]|k+1,h=>by have ih:=MD inj h0 gD ME k λj hj=>h j Y';have hk:=h k Y';have hl:=oD h0 gD k λj hj=>h j Y';have hm:=hl _ (WQ hk);have e1:(bf pt x0 k).getD k 0=(bf pt x0 k)[k]:=#v[hk];have e2:((bf pt x0 k).map i).getD k 0=i (bf pt x0 k)[k]:=#v[hk];rw[bf,bf,ih,e2,ME _ hm,e1];exact wo i _ _ λa ha b hb e=>inj a (ha.elim (hl a) (gD _ hm a)) b (hb.elim (hl b) (gD _ hm b)) e
theorem zci{h w:Nat}{bs:List (Nat×List Tx)}(R:ck h w bs){c':Nat->Nat}{st n':Nat}(bV:st∈bs.map (·.1))(rs:Res (bs.map (·.1)) (aE bs) sg c)(W:Wk bs (ay c (bs.map (·.1))) st n)(hs:∀x∈aS bs (ay c (bs.map (·.1))) st n,mY (97+(aS bs (ay c (bs.map (·.1))) st n).idxOf x)=sg x)(lU:Res ((cn bs (aS bs (ay c (bs.map (·.1))) st n) (ay c (bs.map (·.1)))).map (·.1)) (aE (cn bs (aS bs (ay c (bs.map (·.1))) st n) (ay c (bs.map (·.1))))) mY c')(W':Wk (cn bs (aS bs (ay c (bs.map (·.1))) st n) (ay c (bs.map (·.1)))) (ay c' ((cn bs (aS bs (ay c (bs.map (·.1))) st n) (ay c (bs.map (·.1)))).map (·.1))) 97 n'):(∀t∈(cn bs (aS bs (ay c (bs.map (·.1))) st n) (ay c (bs.map (·.1)))).map (·.1),ay c' ((cn bs (aS bs (ay c (bs.map (·.1))) st n) (ay c (bs.map (·.1)))).map (·.1)) t=t)/\aS (cn bs (aS bs (ay c (bs.map (·.1))) st n) (ay c (bs.map (·.1)))) (ay c' ((cn bs (aS bs (ay c (bs.map (·.1))) st n) (ay c (bs.map (·.1)))).map (·.1))) 97 n'=(aS bs (ay c (bs.map (·.1))) st n).map λx=>97+(aS bs (ay c (bs.map (·.1))) st n).idxOf x:=by
 have hh:=zch R bV W;obtain⟨hL,hc⟩:=wO R bV W;have ap:=zdl R rs hL hh hc hs lU;have x0:ay c (bs.map (·.1)) st∈aS bs (ay c (bs.map (·.1))) st n:=by obtain⟨s,e⟩:=mU (pt:=λt=>(aE bs t).map (ay c (bs.map (·.1)))) (x0:=ay c (bs.map (·.1)) st) 0 n;simp only[Qs]at e;rw[aS,e];simp[bf]
 have i0:(aS bs (ay c (bs.map (·.1))) st n).idxOf (ay c (bs.map (·.1)) st)=0:=by obtain⟨s,e⟩:=mU (pt:=λt=>(aE bs t).map (ay c (bs.map (·.1)))) (x0:=ay c (bs.map (·.1)) st) 0 n;simp only[Qs]at e;rw[aS,e];simp[bf]
 have wl:=W.lt;have wn:=W.len;have MF:=W'.lt;have MG:=W'.len;generalize hhd:ay c (bs.map (·.1))=hd at*;have inj:∀x∈aS bs hd st n,∀y∈aS bs hd st n,97+(aS bs hd st n).idxOf x=97+(aS bs hd st n).idxOf y->x=y:=λx hx y hy e=>BR hx hy Y';have mem:∀t∈(cn bs (aS bs hd st n) hd).map (·.1),∃x∈aS bs hd st n,t=97+(aS bs hd st n).idxOf x:=λt ht=>by obtain⟨b,hb,rfl⟩:=Wu.mp ht;obtain⟨x,hx,rfl⟩:=Wu.mp hb;exact⟨x,hx,rfl⟩
 have id':∀t∈(cn bs (aS bs hd st n) hd).map (·.1),ay c' ((cn bs (aS bs hd st n) hd).map (·.1)) t=t:=λt ht=>qaG λt ht u hu e=>by obtain⟨x,hx,rfl⟩:=mem t ht;obtain⟨y,hy,rfl⟩:=mem u hu;rw[ap x hx y hy e] ht;refine⟨id',?_⟩;generalize hhd':ay c' ((cn bs (aS bs hd st n) hd).map (·.1))=lY at*;have b:=MD (pt:=λt=>(aE bs t).map hd) (pt':=λt=>(aE (cn bs (aS bs hd st n) hd) t).map lY) inj x0 (λt ht p hp=>by obtain⟨q,hq,rfl⟩:=Wu.mp hp;exact hc t ht q hq) λt ht=>by show(aE (cn bs (aS bs hd st n) hd) (97+(aS bs hd st n).idxOf t)).map lY=((aE bs t).map hd).map _;rw[BU ht,Wq,Wq];refine WK λp hp=>?_;exact id' _ (lT (hc t ht p hp))
 rw[i0,Nat.add_zero]at b;have MH:lY 97=97:=id' 97 (by have:=lT (bs:=bs) (hd:=hd) x0;rwa[i0]at this);rw[MH]at MF MG;rw[aS,MH];have en:n'=n:=by
  rcases Nat.lt_trichotomy n' n with h|h|h;.have q:=b n' λj hj=>wl j Y';have z:=wl n' h;rw[q,Ws]at MG;lia
  .exact h
  .have q:=b n wl;have z:=MF n h;rw[q,Ws,wn]at z;lia
 subst en;exact b n' wl
theorem BW(h w:Nat)(bs:List (Nat×List Tx))(L:List Nat)(hd sg:Nat->Nat):j5 h w bs L hd sg=.tup [aG h w (cn bs L hd),sD 97,dg (L.map λx=>(97+L.idxOf x,sg x))]:=by unfold j5;rw[Mz];simp
theorem BX(nd:L.Nodup){x:Nat}(hx:x∈L):(L.map λx=>97+L.idxOf x).idxOf (97+L.idxOf x)=L.idxOf x:=by
 have hi:=WU hx;have hU:(L.map λx=>97+L.idxOf x).Nodup:=by rw[MA nd,Q2,QM];exact List.pairwise_lt_range.imp λh=>by lia
 have:=hU.idxOf_getElem (L.idxOf x) (~~~hi);simpa[QT hi]using this
theorem zaG{h w:Nat}{bs:List (Nat×List Tx)}(nd:L.Nodup){lY:Nat->Nat}(hc:∀t∈L,∀p∈aE bs t,hd p∈L)(id':∀t∈(cn bs L hd).map (·.1),lY t=t)(hs:∀x∈L,mY (97+L.idxOf x)=sg x):j5 h w (cn bs L hd) (L.map λx=>97+L.idxOf x) lY mY=j5 h w bs L hd sg:=by
 rw[BW h w bs];unfold j5;have e1:(L.map λx=>97+L.idxOf x).map (gG (cn bs L hd) (λp=>97+(L.map λx=>97+L.idxOf x).idxOf (lY p)) λx=>97+(L.map λx=>97+L.idxOf x).idxOf x)=(cn bs L hd).map aL:=by rw[<-Mz,Wq];refine WK λx hx=>?_;unfold gG;simp only[Function.comp];rw[BX nd hx,MC hx,Wq];congr 4;refine WK λr hr=>?_;simp only[Function.comp,Wq];congr 1;refine WK λp hp=>?_;have hm:=hc x hx p (List.mem_flatten.mpr ⟨r,hr,hp⟩);simp only[Function.comp];rw[id' _ (lT hm),BX nd hm]
 have e2:(L.map λx=>97+L.idxOf x).map (λx=>D.tup [sD (97+(L.map λx=>97+L.idxOf x).idxOf x),sD (mY x)])=(L.map λx=>(97+L.idxOf x,sg x)).map λp=>D.tup [.str [p.1],.str [p.2]]:=by rw[Wq,Wq];refine WK λx hx=>?_;simp only[Function.comp];rw[BX nd hx,hs x hx]
 rw[e1,e2]
theorem zcx{x:Nat}(hx:x∈L):dh (L.map λx=>(97+L.idxOf x,sg x)) (97+L.idxOf x)=sg x:=by unfold dh;cases e:(L.map λx=>(97+L.idxOf x,sg x)).find? λp=>decide (p.1=97+L.idxOf x)with|none=>exact absurd (Ug.mp e _ (Wu.mpr ⟨x,hx,rfl⟩)) U'|some b=>have h1:=U8 e;obtain⟨y,hy,rfl⟩:=Wu.mp (List.mem_of_find?_eq_some e);have:y=x:=BR hy hx (~~~h1);subst this;rfl
theorem MI{h w:Nat}{bs:List (Nat×List Tx)}{st:Nat}(R:ck h w bs)(bV:st∈bs.map (·.1))(rs:Res (bs.map (·.1)) (aE bs) (dh ps) c)(W:Wk bs (ay c (bs.map (·.1))) st n):iO h w (cn bs (aS bs (ay c (bs.map (·.1))) st n) (ay c (bs.map (·.1))))/\G_least_floor [.pure (j5 h w bs (aS bs (ay c (bs.map (·.1))) st n) (ay c (bs.map (·.1))) (dh ps))]=some (.pure (j5 h w bs (aS bs (ay c (bs.map (·.1))) st n) (ay c (bs.map (·.1))) (dh ps)),[.pure (j5 h w bs (aS bs (ay c (bs.map (·.1))) st n) (ay c (bs.map (·.1))) (dh ps))]):=by
 obtain⟨hL,hc⟩:=wO R bV W;have nd:(aS bs (ay c (bs.map (·.1))) st n).Nodup:=tE n;have ln:(aS bs (ay c (bs.map (·.1))) st n).length=n:=W.len;have x0:ay c (bs.map (·.1)) st∈aS bs (ay c (bs.map (·.1))) st n/\(aS bs (ay c (bs.map (·.1))) st n).idxOf (ay c (bs.map (·.1)) st)=0:=by obtain⟨s,e⟩:=mU (pt:=λt=>(aE bs t).map (ay c (bs.map (·.1)))) (x0:=ay c (bs.map (·.1)) st) 0 n;simp only[Qs]at e;rw[aS,e];simp[bf]
 have Ru:=zbq (hd:=ay c (bs.map (·.1))) R nd (List.length_pos_of_mem x0.1) (by have:=W.le;have:=R.n1;lia) hL λt ht r hr p hp=>hc t ht p (List.mem_flatten.mpr ⟨r,hr,hp⟩);have hs:∀x∈aS bs (ay c (bs.map (·.1))) st n,dh ((aS bs (ay c (bs.map (·.1))) st n).map λx=>(97+(aS bs (ay c (bs.map (·.1))) st n).idxOf x,dh ps x)) (97+(aS bs (ay c (bs.map (·.1))) st n).idxOf x)=dh ps x:=λx hx=>zcx hx;have h97:97∈(cn bs (aS bs (ay c (bs.map (·.1))) st n) (ay c (bs.map (·.1)))).map (·.1):=by have:=lT (bs:=bs) (hd:=ay c (bs.map (·.1))) x0.1;rwa[x0.2]at this
 obtain⟨c',n',lU,W',e⟩:=BG (ps:=(aS bs (ay c (bs.map (·.1))) st n).map λx=>(97+(aS bs (ay c (bs.map (·.1))) st n).idxOf x,dh ps x)) (lP Ru) (by unfold cn;simp) h97;obtain⟨id',ew⟩:=zci R bV rs W hs lU W';refine⟨Ru,?_⟩;rw[<-BW]at e;rw[e,ew,zaG nd hc id' hs]
abbrev vS(GR:DF):DS:=bG (b_ (aC (aF GR [.val (aa 3),.val (aa 5),.val (aa 6)]))) (bh (eD (.bl false))) bL
abbrev vC(GB:DF):DE:=bJ [7] (cG (eD (.int 6))) (ag [] 7) bP (aF GB [.val (aa 5),.io 2])
abbrev vT(GP GA GL GB GR GH:DF):DS:=ar (ax (aF GP [.val (aa 1)]) (ag [] 2)) (ar (ax (aF GA [.io 2,.val (eD (.int 5))]) (ag [] 3)) (ar (ax (aF GA [.io 2,.val (eD (.int 3))]) (ag [] 4)) (ar (ax (aF GL [.val (aa 3)]) (ag [] 5)) (ar (bE (aK (aA aU (bQ (ao (aa 5) (ao (aa 3) (ao (aF GL [.val (aa 4)]) (ao (aa 4) aD))))) (aq (vC GB)))) (ag [] 6) (vS GR)) (bG (aC (aA (jS true) (aF GH [.val (aa 5),.val (aa 5)]) (aq (eD (.bl true))))) (bh (eD (.bl false))) bL)))))
theorem qaH(GB:DF)(Good:D->Prop)(c_ c P O d pd:D)(o6:Option S)(hp:bS pd)(gb:∀pd,bS pd->∃Y bt,GB [.pure d,.own pd]=some (.pure Y,[.pure d,.own bt])/\bS bt/\Good Y):∃xs bt,vC GB [pS c_,pS c,some (.own pd),pS P,pS O,pS d,o6,none]=.ok (.own (.lst xs)) [pS c_,pS c,some (.own bt),pS P,pS O,pS d,o6,none]/\xs.length=6/\∀x∈xs,Good x:=by
 obtain⟨xs,ZB,c1,⟨bt,_,rfl⟩,h2,h3⟩:=cI (cs:=[7]) (it:=cG (eD (.int 6))) (g:=ag [] 7) (t:=bP) (el:=aF GB [.val (aa 5),.io 2]) (U:=[pS c_,pS c,some (.own pd),pS P,pS O,pS d,o6,none]) (ds:=[.int 0,.int 1,.int 2,.int 3,.int 4,.int 5]) rfl U' (λU=>∃pd,bS pd/\U=[pS c_,pS c,some (.own pd),pS P,pS O,pS d,o6,none]) Good ⟨pd,hp,rfl⟩ λe _ U⟨pd,hp,h⟩=>by obtain⟨Y,bt,g,dI,hY⟩:=gb pd hp;subst h;exact⟨_,_,.pure Y,[pS c_,pS c,some (.own bt),pS P,pS O,pS d,o6,pS e],rfl,rfl,cN,⟨bt,dI,rfl⟩,hY⟩
 exact⟨xs,bt,c1,h2,h3⟩
theorem qaI(GP GA GL GB GR GH:DF)(Good:D->Prop)(c_ c P O d lo MJ MK BY:D)(gp:GP [.pure c]=some (.own MJ,[.pure c]))(ga:GA [.own MJ,.pure (.int 5)]=some (.pure P,[.own MK,.pure (.int 5)]))(go:GA [.own MK,.pure (.int 3)]=some (.pure O,[.own BY,.pure (.int 3)]))(gl:GL [.pure P]=some (.pure d,[.pure P]))(gm:GL [.pure O]=some (.pure lo,[.pure O]))(hp:bS BY)(gb:∀pd,bS pd->∃Y bt,GB [.pure d,.own pd]=some (.pure Y,[.pure d,.own bt])/\bS bt/\Good Y)(gr:∀x,Good x->GR [.pure P,.pure d,.pure x]=some (.pure (.bl true),[.pure P,.pure d,.pure x]))(g1:Good d)(g2:Good P)(g3:Good lo)(g4:Good O)(gh:GH [.pure d,.pure d]=some (.pure (.bl true),[.pure d,.pure d]))(o2 o3 o4 o5 o6:Option S):∃q2 q3 q4 q5 q6,vT GP GA GL GB GR GH [pS c_,pS c,o2,o3,o4,o5,o6,none]=.ok .next [pS c_,pS c,q2,q3,q4,q5,q6,none]:=by
 obtain⟨xs,bt,ec,hl,hx⟩:=qaH GB Good c_ c P O d BY o6 hp gb;have ha:aU (.lst [d,P,lo,O]) (.lst xs)=pO (.lst ([d,P,lo,O]++xs)):=by simp only[aU];rw[if_pos (by rw[Ju];simp;lia)]
 obtain⟨ZB,ef,q6,rfl⟩:=n8 (g:=ag [] 6) (b:=vS GR) (λ_ U=>∃q6,U=[pS c_,pS c,some (.own bt),pS P,pS O,pS d,q6,none]) ([d,P,lo,O]++xs) 0 [pS c_,pS c,some (.own bt),pS P,pS O,pS d,o6,none] ⟨_,rfl⟩ λi x U hd⟨q6,e⟩=>by
  subst e;have hm:=Wj hd;have hg:Good x:=by
   simp only[Jf,J3,Wf]at hm;rcases hm with rfl|rfl|rfl|rfl|hm;.exact g1
   .exact g2
   .exact g3
   .exact g4
   .exact hx x hm
  have g:=gr x hg;refine⟨[pS c_,pS c,some (.own bt),pS P,pS O,pS d,pS x,none],_,rfl,?_,pS x,rfl⟩;simp[vS,aC,b_,aF,bW,dC,cV,aa,cH,g,bH,S.d]
 generalize[d,P,lo,O]++xs=ds at*;have ei:jS true (.bl true) (.bl true)=pS (.bl false):=rfl;unfold vT;generalize vC GB=VC at*;refine⟨some (.own bt),pS P,pS O,pS d,q6,?_⟩;iterate 4 refine aR ?_ cN
 refine aR ?_ ((c7 (ZW:=[pS c_,pS c,some (.own bt),pS P,pS O,pS d,o6,none]) (ds:=ds) ?_).trans ef);.simp[aC,aA,aF,bW,dC,cV,aa,cH,gh,bH,ei,S.d]
 .simp[ZQ,aA,aF,bW,dC,cV,aa,cH,gm,bH,ec,ha,S.d]
theorem wY{h w:Nat}{bs:List (Nat×List Tx)}{st:Nat}(R:ck h w bs)(hm:ps.length<=26):Th (.tup [aG h w bs,sD st,dg ps]):=qaD (My R) (BQ ps) (by have:=R.n1;simp;lia) V'
theorem zh2(c_:D)(k:Int)(o2 o3 o4 o5 o6:Option S):∃q2 q3 q4 q5 q6,vT ou mR mS mT G__law_right G_least_holds [pS c_,pS (.int k),o2,o3,o4,o5,o6,none]=.ok .next [pS c_,pS (.int k),q2,q3,q4,q5,q6,none]:=by
 obtain⟨pd,e1,p1⟩:=qaa k;obtain⟨h,w,bs,st,ps,bt,e2,R,hp,p2,bV⟩:=Li p1 5 Z' Z';obtain⟨h',w',bO,cq,ps',pd'',e2',R',dI,F7,hst'⟩:=Li p2 3 Z' Z';obtain⟨c,n,rs,W,e3⟩:=BG R hp bV;obtain⟨c',n',lU,W',-⟩:=BG R' dI hst';have e4:=Mk R hp bV rs W;have ML:=Mk R' dI hst' lU W';obtain⟨Ru,e5⟩:=MI R bV rs W;have MM:=(MI R' hst' lU W').1;rw[BW]at e3 e4 ML e5;have hb:=My (lP Ru);have n1:=(lP Ru).n1;have n0:=(lP Ru).n0;have ln:((aS bs (ay c (bs.map (·.1))) st n).map λx=>(97+(aS bs (ay c (bs.map (·.1))) st n).idxOf x,dh ps x)).length<=26:=by simpa[cn]using n1
 have lp:ps.length<=26:=by have:=congrArg WV hp;have:=R.n1;simp at*;lia
 have lp':ps'.length<=26:=by have:=congrArg WV dI;have:=R'.n1;simp at*;lia
 have hB:=wY (st:=st) R lp;have hO:=wY (st:=cq) R' lp';have hL:=wY (st:=97) (ps:=(aS bO (ay c' (bO.map (·.1))) cq n').map λx=>(97+(aS bO (ay c' (bO.map (·.1))) cq n').idxOf x,dh ps' x)) (lP MM) (by simpa[cn]using(lP MM).n1);generalize(aS bs (ay c (bs.map (·.1))) st n).map (λx=>(97+(aS bs (ay c (bs.map (·.1))) st n).idxOf x,dh ps x))=qs at*;generalize cn bs (aS bs (ay c (bs.map (·.1))) st n) (ay c (bs.map (·.1)))=ls at*;have hD:=wY (st:=97) (lP Ru) ln;obtain⟨a0,a1,a2,a3,a4⟩:=zdc (h:=h) (w:=w) (st:=97) hb (BQ qs) V' V';exact qaI _ _ _ _ _ _ Th c_ _ _ _ _ _ _ _ _ e1 e2 e2' e4 ML F7 (λpd hp=>zhK hp hb (BQ qs) (~~~n0) (~~~n1) (~~~ln)) (λx hx=>zfH e3 a0 a1 a2 a3 a4 ⟨_,rfl⟩ ⟨_,_,_,Ru,rfl⟩ hx) hD hB hL hO (by have:=Mv e5 a0 a1 a2 a3 a4 ⟨_,rfl⟩ ⟨_,_,_,Ru,rfl⟩ hD;simpa using this) _ _ _ _ _
theorem qaJ(GC:DF)(B:DS)(c_:D)(cs:List D)(cl c0:D)(e0:GC [.pure c_,.pure (.int 0)]=some (.pure c0,[.pure c_,.pure (.int 0)]))(hs:dA (some 1) (some 4) c_=pO cl)(ha:aU (.lst [c0]) cl=pO (.lst cs))(o1 o2 o3 o4 o5 o6:Option S)(e:forL (ag [] 1) B cs [pS c_,none,none,none,none,none,none,none]=.ok .next [pS c_,o1,o2,o3,o4,o5,o6,none]):(ar (bE (aK (aA aU (bQ (ao (aF GC [.val (aa 0),.val (eD (.int 0))]) aD)) (aq (eQ 0 (dw (eD (.int 1))) (dw (eD (.int 4))))))) (ag [] 1) B) (bh (eD (.bl true)))) [pS c_,none,none,none,none,none,none,none]=.ok (.ret (.pure (.bl true))) [pS c_,o1,o2,o3,o4,o5,o6,none]:=by
 refine(fj ((c7 (ZW:=[pS c_,none,none,none,none,none,none,none]) (ds:=cs) ?_).trans e)).trans ?_;.simp[ZQ,aA,aF,bW,dC,cV,aa,ah,cH,e0,bH,eQ,dw,hs,ha,S.d]
 .rfl
theorem qaK(ns:List Int)(hn:ns.length<=63):∃a_,G_law [.pure (.lst (ns.map .int))]=some (.pure (.bl true),a_):=by
 obtain⟨c0,e0⟩:=z87 ns;have qaL:∀(ns:List Int)(lo hi:Option Int),bC (ns.map D.int) lo hi=(bC ns lo hi).map D.int:=λns lo hi=>by unfold bC;simp[List.map_take,List.map_drop]
 have ha:aU (.lst [.int c0]) (.lst (bC (ns.map .int) (some 1) (some 4)))=pO (.lst ((c0::bC ns (some 1) (some 4)).map .int)):=by
  rw[qaL];have hl:(bC ns (some 1) (some 4)).length<=63:=by unfold bC;simp;lia
  simp only[aU];rw[if_pos (by rw[de];simp;lia)];simp
 have hs:dA (some 1) (some 4) (.lst (ns.map .int))=pO (.lst (bC (ns.map .int) (some 1) (some 4))):=rfl;generalize D.lst (ns.map .int)=c_ at*;obtain⟨ZB,e,o1,o2,o3,o4,o5,o6,rfl⟩:=n8 (g:=ag [] 1) (b:=vT ou mR mS mT G__law_right G_least_holds) (λ_ U=>∃o1 o2 o3 o4 o5 o6,U=[pS c_,o1,o2,o3,o4,o5,o6,none]) ((c0::bC ns (some 1) (some 4)).map .int) 0 [pS c_,none,none,none,none,none,none,none] ⟨_,_,_,_,_,_,rfl⟩ λi d U hd hh=>by obtain⟨o1,o2,o3,o4,o5,o6,e⟩:=hh;subst e;simp only[Wo,Q5]at hd;obtain⟨k,_,rfl⟩:=hd;obtain⟨q2,q3,q4,q5,q6,e⟩:=zh2 c_ k o2 o3 o4 o5 o6;exact⟨_,_,rfl,e,_,_,_,_,_,_,rfl⟩
 refine⟨[.pure c_],?_⟩;rw[G_law,b_law];exact gi (qaJ pU _ c_ _ _ _ e0 hs ha o1 o2 o3 o4 o5 o6 e)
end Lake.K67
open PySem PySem.W PyProof.Rows
namespace PySem.W.Fast
def tw7682366579859826869:=0
def tw15951595017443132490:=0
def tw14265592381133687059:=0
def tw14044024189535221934:=0
def tw8869826524865880525:=0
def tw89181027905945856:=0
def tw4145896644176927340:=0
def tw12886127324535015218:=0
def tw11454960863802622344:=0
def tw15094950173388699254:=0
def tw2303720155686429882:=0
def tw14750317385090246099:=0
def tw16094862972616393561:=0
def tw292272681899948408:=0
def tw1776621756696112158:=0
def tw4247923387035019968:=0
def tw11156875942174009670:=0
def tw17647902946752985283:=0
def tw18180301877133817224:=0
def tw1024018251274082783:=0
def tw1008596354473296867:=0
def tw9844332019137000278:=0
def tw12431440029623212452:=0
def tw4921776827197443021:=0
def tw11781578485981181060:=0
def tw16601027048064094906:=0
def tw11047689249273763876:=0
def tw8534567657730221848:=0
def tw9331714011752920223:=0
def tw18172313730181651887:=0
def tw324638529157257725:=0
def tw11054900022338708176:=0
def tw16620164084770837572:=0
def tw18324019862081736048:=0
def tw3760815229424776533:=0
def tw13139872133340611526:=0
def tw11030259024939624949:=0
def tw6200495046630033902:=0
def tw11716735997385417474:=0
def tw6886746882756022958:=0
def tw15456459231786750557:=0
def tw12399341460950394948:=0
def tw9256494710915490899:=0
def tw2043029110445417351:=0
def tw17585605723192719683:=0
def tw623688204711529936:=0
def tw18391783701435482122:=0
def tw17291916849865416220:=0
def tw8908086139938334777:=0
def tw14545443033467840640:=0
def tw11195047219386651513:=0
def tw6614235580868120378:=0
def tw1540011481884188329:=0
def tw12252973501033743103:=0
def tw3550969875293387383:=0
def tw6111922638829805246:=0
def tw4782781879645043668:=0
def tw4853666589926684307:=0
def tw7663244655544107743:=0
def tw5937190145516805655:=0
def tw9138364577122674286:=0
def tw8774440276337553959:=0
def tw9949444607831897513:=0
def tw9463701972744190197:=0
def tw1062690568222914292:=0
def tw15047400849299907782:=0
def tw8361130094871567049:=0
def tw18033173111824125522:=0
def tw16474698509802557015:=0
def tw15210261244203380329:=0
def tw1956653811753104416:=0
def tw6894614001869427091:=0
def tw1304854873886866895:=0
def tw13251142390427951885:=0
def tw9709716992272832533:=0
def tw2298103204157668610:=0
def tw6113977785140151126:=0
def tw11115319121082980126:=0
def tw1469271756557003007:=0
def tw18296982026194737869:=0
def tw1096493989492967862:=0
def tw1505076336184869268:=0
def tw17917812555529179422:=0
def tw2906264792516969923:=0
def tw16551337172126234861:=0
def tw10812693289208135119:=0
def tw11520816778360064989:=0
def tw3771917014722162009:=0
def tw8182315652080231987:=0
def tw14198135533752976994:=0
def tw2041537083324946668:=0
def tw7656561475616547224:=0
def tw9945536812744066906:=0
def tw5380595928391068892:=0
def tw6669517495765715282:=0
def tw14195931771244289604:=0
def tw5181431210481605714:=0
def tw17549269057135213570:=0
def tw2525823902787125098:=0
def tw7708410272761146779:=0
def tw7054329418285584650:=0
def tw17676784186300068227:=0
def tw2983049617174755279:=0
def tw13006879562743414117:=0
def tw7762713799207780423:=0
def tw15843049998116387524:=0
def tw7978405765915629157:=0
def tw948760892882165910:=0
def tw10406354066137972187:=0
def tw11961220364064467396:=0
def tw13491195972875445129:=0
def tw6423582034617326880:=0
def tw5219997715144225293:=0
def tw209426113879504835:=0
def tw4484005901452064675:=0
def tw11833731384196419620:=0
def tw5912187297119691991:=0
def tw12269544135877584083:=0
def tw12859779315785731191:=0
def tw10572062336797692469:=0
def tw16724517700631081252:=0
def tw14888845036400008670:=0
def tw3784952565718047868:=0
def tw12992316321390679836:=0
def tw16829978896329367597:=0
def tw14961667569630906491:=0
def tw16287840482671550996:=0
def tw11261165650017141354:=0
def tw11472042036232408027:=0
def tw12857467928733446147:=0
def tw2770812716505108894:=0
def tw123705877737794737:=0
def tw14372488252937355131:=0
def tw5109467840336954471:=0
def tw416329257607762035:=0
def tw10714043566916225394:=0
def tw6290037280979195410:=0
def tw17864290375856551002:=0
def tw16108782066574307141:=0
def tw14374814879771002622:=0
def tw2968531507307360655:=0
def tw1581299882398361767:=0
def tw17433124066416909544:=0
def tw3277168940101788345:=0
def tw12360334070160985348:=0
def tw3922602694543759346:=0
def tw451859503856574849:=0
def tw8631232821049630427:=0
def tw8604068895875575546:=0
def tw6602644841151248671:=0
def tw10350138411599898573:=0
def tw2722304904593801876:=0
def tw1510243375067553649:=0
def tw13122565925946881226:=0
def tw10380098643636816884:=0
def tw16903654528799777954:=0
def tw10207417375607087722:=0
def tw3191839818357150423:=0
def tw14543647938051208789:=0
def tw5416125403542094760:=0
def tw18185952747822269854:=0
def tw9064143441388925759:=0
def tw12173149725665614679:=0
def tw13485932386440578044:=0
def tw8006748834022514190:=0
def tw9412423641931226483:=0
def tw9315174927441375006:=0
def tw15779311942974323145:=0
def tw4145717448259127377:=0
def tw6694729142653895697:=0
def tw1844590071039824382:=0
def tw4249226834603861790:=0
def tw9334204072394486558:=0
def tw7125707107638486249:=0
def tw1205294594013489457:=0
end PySem.W.Fast
set_option maxRecDepth 100000 in
set_option maxHeartbeats 0 in
theorem PySem.Challenge.cw_tilegrow_k67_least_by_anybody_holds : PySem.Challenge.rw_tilegrow_k67_least_by_anybody.Holds := by
 w_on; o_law; k_head; (case hw=>w_witness2)
 k_fill
 refine Lake.Xy (l:=PySem.Challenge.rw_tilegrow_k67_least_by_anybody) (k:=10) (G:=Lake.K67.G_law) (tpos:=Lake.K67.j0) (tq:=Lake.K67.iQ) rfl rfl ⟨rfl,Z',Z'⟩ (λw h Y=>⟨PySem.W.km_in_of Y,PySem.W.km_tabs_of Y _ Wx⟩) ?L ?KT Lake.K67.qaK ?F
 case L=>intro p; exact Eq.refl true
 case KT=>intro p; exact Eq.refl none
 case F =>
  intro w mg fa h KX G nt;refine' Lake.K67.all_mk KX G nt ?d0 ?d1 ?d2 ?d3 ?d4 ?d5 ?d6 ?d7 ?d8 ?d9 ?Ap ?Aq ?Ar ?As ?Au ?Aw ?Ax ?Ay ?Az ?AB ?AD ?AE ?AF ?AG ?AH ?AI ?AJ ?AK ?AL ?AM ?AN ?AO ?AQ ?AR ?wj ?AS ?AU ?dT ?gT ?AV ?AW ?AX ?AY ?AZ ?A0 ?A5 ?A6 ?sf ?sh ?si ?sj ?sk ?su ?sv ?sy ?sA ?sC ?sE ?sG ?sI ?sJ ?sM ?sQ ?sS ?sU
  (case d0|d1|d2|d3|d4|d5|d6|d7|d8|d9|Ap|Aq|Ar|As|Au|Aw|Ax|Ay|Az|AB|AD|AE|AF|AG|AH|AI|AJ|AK|AL|AM|AN|AO|AQ|AV|AW|AX|AY=>exact⟨_,_,_,_,_,_,_,_,_,_,by k_is,by k_is,by k_is,by k_is⟩)
  (case AR|wj|AS|AU|AZ|A0|A5|A6|sf|sh|si|sj|sk|su|sv|sy|sA|sC|sE|sG|sI|sJ|sM|sQ|sS|sU=>k_is)
  (case dT|gT=>kernel_rfl)
