import PyProof.Rows.All
import Wide.All
import OpenK.AllK
import Wide.FinOn
import Lean
import PyProof.EqAt
import PyProof.EqKinds
import PyProof.TupleCall
import PyProof.NeKinds
import PyProof.StrWalks
import PyProof.ListStr
import PyProof.StrOps2
import PyProof.StrLawsIn
import KE.KDictOf
import PyProof.AttrMissHeap
import PyProof.Draws
import PyProof.EnumMake
import PyProof.Rows.EnumRows
import PyProof.LongRange
import PyProof.NoPylong
import PyProof.SeqI3
import PyProof.Rows.SeqCalls
import PyProof.StrLawsChain
import PyProof.StrCalls2
import KE.KIntText
import PyProof.Rows.CallKwBuiltin
import OpenK.KOwn
import OpenK.KRaise
import PyProof.ExcBaseAll.ValueError
import PyProof.Rows.CatchOwn
import KE.KIsAll
import PyProof.ExcArgsOwn
import PyProof.ExcAttrAll.ValueError
import PyProof.Rows.SeqMore2
import PyProof.ListMulAny
import PyProof.ListMulRoad
import PySem.Challenge.RW_tilegrow_k13_lines_by_anybody
set_option Elab.async false
set_option linter.all false
set_option maxRecDepth 100000
namespace L2
open PySem PySem.Spec PyProof.Rows
abbrev Key:=Sum Int Str
def keyIs:Key→Value→Bool
 | .inl k,v=>Value.isInt k v
 | .inr x,v=>Value.isStrOf x v
def keyH (w:World):Key→Int
 | .inl k=>hashInt k
 | .inr x=>hashStr w x
theorem keyIs_shape:∀ {k:Key} {v:Value},keyIs k v=true→(∃ i t,k=Sum.inl i∧v=Value.int i t)∨(∃ x t,k=Sum.inr x∧v=Value.str x t)
 | .inl i,v,h=>by
  obtain ⟨t,e⟩:=Value.isInt_shape (k:=i) (v:=v) h
  exact .inl ⟨i,t,rfl,e⟩
 | .inr x,v,h=>by
  obtain ⟨t,e⟩:=Value.isStrOf_shape (x:=x) (v:=v) h
  exact .inr ⟨x,t,rfl,e⟩
theorem keyIs_int (i:Int) (t:Tok):keyIs (.inl i) (.int i t)=true:=by simp [keyIs,Value.isInt]
theorem keyIs_str (x:Str) (t:Tok):keyIs (.inr x) (.str x t)=true:=by simp [keyIs,Value.isStrOf]
theorem key_ll (a b:Int):decide ((Sum.inl a:Key)=Sum.inl b)=(a == b):=by
 by_cases e:a=b
 ·subst e; simp
 ·have h:¬ (Sum.inl a:Key)=Sum.inl b:=fun q=>e (Sum.inl.inj q)
  rw [decide_eq_false h]
  exact (beq_eq_false_iff_ne.mpr e).symm
theorem key_rr (a b:Str):decide ((Sum.inr a:Key)=Sum.inr b)=decide (a=b):=by
 by_cases e:a=b
 ·subst e; simp
 ·have h:¬ (Sum.inr a:Key)=Sum.inr b:=fun q=>e (Sum.inr.inj q)
  rw [decide_eq_false h,decide_eq_false e]
theorem key_lr (a:Int) (b:Str):decide ((Sum.inl a:Key)=Sum.inr b)=false:=decide_eq_false (fun q=>nomatch q)
theorem key_rl (a:Str) (b:Int):decide ((Sum.inr a:Key)=Sum.inl b)=false:=decide_eq_false (fun q=>nomatch q)
def mixKind (prog:Program) (w:World):PySem.KeyKind prog w Key where
 is:=keyIs
 hash:=keyH w
 inj:=fun v a b ha hb=>by
  rcases keyIs_shape ha with ⟨i,t,rfl,rfl⟩ | ⟨x,t,rfl,rfl⟩
  ·rcases keyIs_shape hb with ⟨j,u,rfl,e⟩ | ⟨y,u,rfl,e⟩
   ·injection e with e1 _; rw [e1]
   ·exact nomatch e
  ·rcases keyIs_shape hb with ⟨j,u,rfl,e⟩ | ⟨y,u,rfl,e⟩
   ·exact nomatch e
   ·injection e with e1 _; rw [e1]
 byValue:=fun k v h=>by
  rcases keyIs_shape h with ⟨i,t,rfl,rfl⟩ | ⟨x,t,rfl,rfl⟩ <;> rfl
 pyHash:=fun hv h=>by
  rcases keyIs_shape hv with ⟨i,t,rfl,rfl⟩ | ⟨x,t,rfl,rfl⟩
  ·exact wpAny_pyHash_int h
  ·exact wpAny_pyHash_str h
 eqBool:=fun hu hv h=>by
  rcases keyIs_shape hu with ⟨i,t,rfl,rfl⟩ | ⟨x,t,rfl,rfl⟩
  ·rcases keyIs_shape hv with ⟨j,u,rfl,rfl⟩ | ⟨y,u,rfl,rfl⟩
   ·rw [key_ll] at h; exact wpAny_eqBool_int h
   ·rw [key_lr] at h; exact SeqAt.EqAt.int_str i t y u _ _ _ _ h
  ·rcases keyIs_shape hv with ⟨j,u,rfl,rfl⟩ | ⟨y,u,rfl,rfl⟩
   ·rw [key_rl] at h; exact SeqAt.EqAt.str_int x t j u _ _ _ _ h
   ·rw [key_rr] at h; exact wpAny_eqBool_str h
 «strs»:=fun k x t v h=>by
  rcases keyIs_shape h with ⟨i,u,rfl,e⟩ | ⟨y,u,rfl,e⟩
  ·exact nomatch e
  ·injection e with e1 _
   subst e1
   cases v <;> rfl
theorem mixKind_int (prog:Program) (w:World) (i:Int) (t:Tok):(mixKind prog w).is (.inl i) (.int i t)=true:=keyIs_int i t
theorem mixKind_str (prog:Program) (w:World) (x:Str) (t:Tok):(mixKind prog w).is (.inr x) (.str x t)=true:=keyIs_str x t
open PySem PySem.Spec PyProof.Rows
inductive V where
 | non | bl (b:Bool) | int (i:Int) | str (x:Str) | byt (b:Array UInt8) | flt (b:UInt64) | ref (a:Addr) | ty (n:String)
 deriving DecidableEq
def RelV:V→Value→Prop
 | .non,u=>u=Value.none
 | .bl b,u=>u=Value.bool b
 | .int i,u=>∃ t,u=Value.int i t
 | .str x,u=>∃ t,u=Value.str x t
 | .byt b,u=>∃ t,u=Value.bytes b t
 | .flt b,u=>∃ t,u=Value.float b t
 | .ref a,u=>u=Value.ref a
 | .ty n,u=>u=Value.type n
abbrev Vals:List V→List Value→Prop:=Paired RelV
theorem Vals.length {xs:List V} {us:List Value} (r:Vals xs us):xs.length=us.length:=Paired.length r
theorem Vals.get:∀ {xs:List V} {us:List Value} {i:Nat} {x:V},Vals xs us→xs[i]? = some x→∃ u,us[i]? = some u∧RelV x u
 | _,_,_,_,.nil,e=>by simp at e
 | _,_,0,_,.cons r _,e=>by simp at e; subst e; exact ⟨_,rfl,r⟩
 | _,_,i + 1,x,.cons _ t,e=>by
  obtain ⟨u,h1,h2⟩:=Vals.get (i:=i) (x:=x) t (by simpa using e)
  exact ⟨u,by simpa using h1,h2⟩
theorem Vals.set {x:V} {u:Value} (r:RelV x u):∀ {xs:List V} {us:List Value} (i:Nat),Vals xs us→Vals (xs.set i x) (us.set i u)
 | _,_,_,.nil=>.nil
 | _,_,0,.cons _ t=>.cons r t
 | _,_,i + 1,.cons q t=>.cons q (Vals.set r i t)
theorem Vals.append:∀ {xs ys:List V} {us ws:List Value},Vals xs us→Vals ys ws→Vals (xs ++ ys) (us ++ ws)
 | _,_,_,_,.nil,s=>s
 | _,_,_,_,.cons r t,s=>.cons r (Vals.append t s)
theorem Vals.take:∀ {xs:List V} {us:List Value} (n:Nat),Vals xs us→Vals (xs.take n) (us.take n)
 | _,_,0,_=>.nil
 | _,_,_ + 1,.nil=>.nil
 | _,_,n + 1,.cons r t=>.cons r (Vals.take n t)
theorem Vals.drop:∀ {xs:List V} {us:List Value} (n:Nat),Vals xs us→Vals (xs.drop n) (us.drop n)
 | _,_,0,r=>r
 | _,_,_ + 1,.nil=>.nil
 | _,_,n + 1,.cons _ t=>Vals.drop n t
def RelO:Option V→Option Value→Prop
 | some v,some u=>RelV v u
 | none,none=>True
 | _,_=>False
def KV {κ:Type}:List (κ×V)→List (κ×Value)→Prop:=Paired fun (p:κ×V) (q:κ×Value)=>p.1=q.1∧RelV p.2 q.2
def kV:Key→V
 | .inl i=>.int i
 | .inr x=>.str x
inductive HO where
  /-- a list -/
 | lst (xs:List V)
  /-- a tuple (never changes) -/
 | tup (xs:List V)
  /-- a dict whose keys are ints and texts; one whose keys are tuples of ints and texts (the empty one is both) -/
 | dK (kvs:List (Key×V)) | dT (kvs:List (List Key×V))
  /-- a set of ints: its members, its size -/
 | set (S:Int→Bool) (n:Nat)
  /-- an instance of the class at C, its dict at dx, its attributes -/
 | ins (C dx:Addr) (fs:List (Str×V))
  /-- the dict of the instance at x -/
 | own (x:Addr)
  /-- the dict of an exception -/
 | xd (fs:List (Str×V))
  /-- a bound method, f of x -/
 | met (f x:Addr)
  /-- a range object lo, lo + 1, .. below hi -/
 | rng (lo hi:Int)
  /-- a thing that is known to the object (the script; a dict while a loop walks it): read, never written while it is so -/
 | frz (o:Obj) (u:HO)
  /-- a code object's table -/
 | tbl (ps:Array Value)
  /-- any other thing, by what is true of its one object (a def of one's own: SetO a S n := HO.ext fun h => ..) -/
 | ext (φ:Heap→Prop)
abbrev Hp:=Addr→Option HO
def upd (H:Hp) (a:Addr) (o:HO):Hp:=fun b=>if b=a then some o else H b
theorem upd_same {H:Hp} {a:Addr} {o:HO}:upd H a o a=some o:=by unfold upd; rw [if_pos rfl]
theorem upd_ne {H:Hp} {a b:Addr} {o:HO} (h:b≠a):upd H a o b=H b:=by unfold upd; rw [if_neg h]
theorem upd_upd {H:Hp} {a:Addr} {o u:HO}:upd (upd H a o) a u=upd H a u:=by
 funext b; unfold upd; split <;> rfl
theorem ne_of_none {H:Hp} {a b:Addr} {o:HO} (h:H a=some o) (h':H b=none):a≠b:=by
 intro e; subst e; rw [h] at h'; cases h'
def IsTupN (h:Heap) (a:Addr) (its:Array Value):Prop:=∃ n,h.get? a=some { cls:=.type "tuple",dict:=none,data:=.seq its n,slots:=#[] }
theorem IsTupN.tup {h:Heap} {a:Addr} {its:Array Value} (x:IsTupN h a its):IsTup h a its:=let ⟨n,e⟩:=x; ⟨_,e,rfl,n,rfl⟩
theorem IsTupN.new (h:Heap) (its:Array Value):IsTupN (h.push { cls:=.type "tuple",data:=.seq its }) h.objs.size its:=⟨_,Heap.get?_push_size _ rfl⟩
theorem IsTupN.lt {h:Heap} {a:Addr} {its:Array Value} (x:IsTupN h a its):a < h.objs.size:=let ⟨_,e⟩:=x; Heap.lt_size e
section
variable (P:Program) (w:World)
def ObjOk (H:Hp) (h:Heap) (a:Addr):HO→Prop
 | .lst xs=>xs.length≤sizeLine∧∃ (its:List Value) (n:Nat),Vals xs its∧h.get? a=some { cls:=.type "list",data:=.seq its.toArray n }
 | .tup xs=>xs.length≤sizeLine∧∃ its:List Value,Vals xs its∧IsTupN h a its.toArray
 | .dK kvs=>kvs.length≤sizeLine∧(a == sysModules)=false∧∃ vs,KV kvs vs∧h.DictOf (mixKind P w) a vs
 | .dT kvs=>kvs.length≤sizeLine∧(a == sysModules)=false∧∃ xs:List (List Key×Addr×Value),
   Paired (fun (p:List Key×V) (q:List Key×Addr×Value)=>p.1=q.1∧H q.2.1=some (.tup (p.1.map kV))∧RelV p.2 q.2.2) kvs xs ∧
   ∃ o es ep,h.get? a=some o∧o.ExactDict∧o.data = .dict es ep∧es.toList=xs.map (entryOfKey (tupleKind (mixKind P w)))∧(xs.map (·.1)).Nodup
 | .set S n=>h.SetOf (intKind P w) a S n
 | .ins C dx fs=>H dx=some (.own a)∧fs.length≤1000∧dx≠a∧h.get? a=some (PySem.W.instObj C dx) ∧
   ∃ mA,h.Ns1 dx mA∧(∀ f,RelO (fs.lookup f) (mA f))∧PySem.Within mA (fs.map (·.1))
 | .own _=>∃ o,h.get? a=some o
 | .xd fs=>∃ mA,h.Ns1 a mA∧∀ f,RelO (fs.lookup f) (mA f)
 | .rng lo hi=>∃ t u v,h.get? a=some { cls:=.type "range",data:=.fields #[.int lo t,.int hi u,.int 1 v] }
 | .frz o u=>h.get? a=some o∧ObjOk H h a u
 | .tbl ps=>h.get? a=some { cls:=.none,data:=.fields ps }
 | .met f x=>h.get? a=some (PySem.W.methodObj (.ref f) (.ref x))
 | .ext φ=>φ h∧(∃ o,h.get? a=some o)∧∀ h1 h2:Heap,φ h1→(∀ o,h1.get? a=some o→h2.get? a=some o)→φ h2
def HOk (H:Hp) (h:Heap):Prop:=∀ a o,H a=some o→ObjOk P w H h a o
end
section
variable {P:Program} {w:World} {H H':Hp} {h h':Heap} {a:Addr} {o:HO}
theorem ObjOk.lt (x:ObjOk P w H h a o):a < h.objs.size:=by
 cases o with
 | lst xs=>obtain ⟨_,_,_,_,e⟩:=x; exact Heap.lt_size e
 | tup xs=>obtain ⟨_,_,_,p⟩:=x; exact p.lt
 | dK kvs=>obtain ⟨_,_,_,_,o,_,_,e,_⟩:=x; exact Heap.lt_size e
 | dT kvs=>obtain ⟨_,_,_,_,o,_,_,e,_⟩:=x; exact Heap.lt_size e
 | set S n=>obtain ⟨o,_,_,_,e,_⟩:=x; exact Heap.lt_size e
 | ins C dx fs=>obtain ⟨_,_,_,e,_⟩:=x; exact Heap.lt_size e
 | own y=>obtain ⟨_,e⟩:=x; exact Heap.lt_size e
 | xd fs=>obtain ⟨_,⟨_,_,_,e,_⟩,_⟩:=x; exact Heap.lt_size e
 | rng lo hi=>obtain ⟨_,_,_,e⟩:=x; exact Heap.lt_size e
 | frz ob u=>obtain ⟨e,_⟩:=x; exact Heap.lt_size e
 | tbl ps=>exact Heap.lt_size (show h.get? a=some _ from x)
 | met f y=>exact Heap.lt_size (show h.get? a=some _ from x)
 | ext φ=>obtain ⟨_,⟨_,e⟩,_⟩:=x; exact Heap.lt_size e
theorem Paired.mapP {α β:Type} {F G:α→β→Prop}:∀ {l₁:List α} {l₂:List β},Paired F l₁ l₂→(∀ a b,F a b→G a b)→Paired G l₁ l₂
 | _,_,.nil,_=>.nil
 | _,_,.cons r t,f=>.cons (f _ _ r) (Paired.mapP t f)
theorem ObjOk.stay (x:ObjOk P w H h a o) (k:∀ b u,(b=a∨H b=some (.own a))→h.get? b=some u→h'.get? b=some u)
  (ho:∀ b,H b=some (.own a)→H' b=some (.own a)) (ht:∀ b xs,H b=some (.tup xs)→H' b=some (.tup xs)):ObjOk P w H' h' a o:=by
 induction o with
 | lst xs=>obtain ⟨z,its,n,r,e⟩:=x; exact ⟨z,its,n,r,k _ _ (.inl rfl) e⟩
 | tup xs=>obtain ⟨z,its,r,n,e⟩:=x; exact ⟨z,its,r,n,k _ _ (.inl rfl) e⟩
 | dK kvs=>obtain ⟨z,y,vs,r,ob,es,ep,e,c⟩:=x; exact ⟨z,y,vs,r,ob,es,ep,k _ _ (.inl rfl) e,c⟩
 | dT kvs =>
  obtain ⟨z,y,xs,r,ob,es,ep,e,c⟩:=x
  exact ⟨z,y,xs,Paired.mapP r fun p q z=>⟨z.1,ht _ _ z.2.1,z.2.2⟩,ob,es,ep,k _ _ (.inl rfl) e,c⟩
 | set S n=>obtain ⟨ob,es,ep,t,e,c⟩:=x; exact ⟨ob,es,ep,t,k _ _ (.inl rfl) e,c⟩
 | ins C dx fs =>
  obtain ⟨d,z,ne,e,mA,⟨od,es,ep,e2,c⟩,r⟩:=x
  exact ⟨ho _ d,z,ne,k _ _ (.inl rfl) e,mA,⟨od,es,ep,k _ _ (.inr d) e2,c⟩,r⟩
 | own y=>obtain ⟨ob,e⟩:=x; exact ⟨ob,k _ _ (.inl rfl) e⟩
 | xd fs=>obtain ⟨mA,⟨od,es,ep,e,c⟩,r⟩:=x; exact ⟨mA,⟨od,es,ep,k _ _ (.inl rfl) e,c⟩,r⟩
 | rng lo hi=>obtain ⟨t,u,v,e⟩:=x; exact ⟨t,u,v,k _ _ (.inl rfl) e⟩
 | frz ob u ih=>obtain ⟨e,q⟩:=x; exact ⟨k _ _ (.inl rfl) e,ih q⟩
 | tbl ps =>
  have e:h.get? a=some { cls:=.none,data:=.fields ps }:=x
  show h'.get? a=some { cls:=.none,data:=.fields ps }
  exact k a _ (.inl rfl) e
 | met f y =>
  have e:h.get? a=some (PySem.W.methodObj (.ref f) (.ref y)):=x
  show h'.get? a=some (PySem.W.methodObj (.ref f) (.ref y))
  exact k a _ (.inl rfl) e
 | ext φ=>obtain ⟨p,⟨o,e⟩,st⟩:=x; exact ⟨st _ _ p fun o q=>k _ _ (.inl rfl) q,⟨o,k _ _ (.inl rfl) e⟩,st⟩
theorem HOk.lt (x:HOk P w H h) (e:H a=some o):a < h.objs.size:=(x a o e).lt
theorem HOk.fresh (x:HOk P w H h) (e:h.objs.size≤a):H a=none:=by
 cases q:H a with
 | none=>rfl
 | some u=>exact absurd (Nat.lt_of_lt_of_le (x.lt q) e) (Nat.lt_irrefl _)
theorem HOk.kept (x:HOk P w H h) (k:∀ b u,h.get? b=some u→h'.get? b=some u):HOk P w H h':=fun a o e =>
 (x a o e).stay (fun b u _ q=>k b u q) (fun _ q=>q) fun _ _ q=>q
theorem HOk.laid (x:HOk P w H h) (k:∀ b u,h.get? b=some u→h'.get? b=some u) (hp:h.objs.size≤a) (new:ObjOk P w (upd H a o) h' a o):HOk P w (upd H a o) h':=fun b u e=>by
 have hn:=x.fresh hp
 by_cases hb:b=a
 ·subst hb; rw [upd_same] at e; cases e; exact new
 ·rw [upd_ne hb] at e
  exact (x b u e).stay (fun c v _ q=>k c v q) (fun c q=>by rw [upd_ne (ne_of_none q hn)]; exact q) fun c xs q=>by rw [upd_ne (ne_of_none q hn)]; exact q
end
def Rd (H:Hp) (a:Addr) (u:HO):Prop:=H a=some u∨∃ o,H a=some (.frz o u)
theorem Rd.of {H:Hp} {a:Addr} {u:HO} (h:H a=some u):Rd H a u:=.inl h
theorem Rd.ok {P:Program} {w:World} {H:Hp} {h:Heap} {a:Addr} {u:HO} (r:Rd H a u) (x:HOk P w H h):ObjOk P w H h a u:=by
 rcases r with r | ⟨o,r⟩
 ·exact x a u r
 ·obtain ⟨_,q⟩:=x a _ r
  exact q
def Mut:Option HO→Prop
 | some (.lst _)=>True
 | some (.dK _)=>True
 | some (.dT _)=>True
 | some (.set _ _)=>True
 | some (.ins _ _ _)=>True
 | some (.ext _)=>True
 | _=>False
section
variable {P:Program} {w:World} {H:Hp} {h h':Heap} {x e:Addr} {o':HO}
theorem HOk.write (ok:HOk P w H h) (mu:Mut (H x)) (he:e=x∨H e=some (.own x)) (k:∀ b u,b≠e→h.get? b=some u→h'.get? b=some u) (heo:∃ u,h'.get? e=some u)
  (new:ObjOk P w (upd H x o') h' x o'):HOk P w (upd H x o') h':=fun b u q=>by
 have nown:∀ c y,H c=some (.own y)→c≠x:=fun c y r z=>by subst z; rw [r] at mu; exact mu
 have ntup:∀ c xs,H c=some (.tup xs)→c≠x:=fun c xs r z=>by subst z; rw [r] at mu; exact mu
 by_cases hb:b=x
 ·subst hb; rw [upd_same] at q; cases q; exact new
 ·rw [upd_ne hb] at q
  by_cases hbe:b=e
  ·have q':H b=some (.own x):=by
    rcases he with z | z
    ·exact absurd (hbe.trans z) hb
    ·rw [hbe]; exact z
   rw [q] at q'; cases q'
   obtain ⟨v,hv⟩:=heo
   exact ⟨v,by rw [hbe]; exact hv⟩
  ·refine (ok b u q).stay (fun c v hc r=>k c v ?_ r) (fun c r=>by rw [upd_ne (nown c b r)]; exact r) fun c xs r=>by rw [upd_ne (ntup c xs r)]; exact r
   rcases hc with rfl | hc
   ·exact hbe
   ·rintro rfl
    rcases he with z | z
    ·exact nown c b hc z
    ·rw [hc] at z; cases z; exact hb rfl
end
structure Un (fs ex:List Addr) (H H':Hp) (h h':Heap):Prop where
 keep:∀ b o,h.get? b=some o→H b=none→b ∉ fs→b ∉ ex→h'.get? b=some o
 slot:∀ b o,h.get? b=some o→H b=none→b ∈ fs→b ∉ ex→∃ sl,h'.get? b=some { o with slots:=sl }
 free:∀ b o,h.get? b=some o→H b=none→b ∉ ex→H' b=none
 there:∀ b o,h.get? b=some o→b ∉ ex→∃ o',h'.get? b=some o'
 tups:∀ b xs,H b=some (.tup xs)→H' b=some (.tup xs)
 frzs:∀ b o u,H b=some (.frz o u)→H' b=some (.frz o u)
 tbls:∀ b ps,H b=some (.tbl ps)→∃ more,H' b=some (.tbl (ps ++ more))
section
variable {fs fs' ex ex':List Addr} {H H1 H2:Hp} {h h1 h2 h':Heap} {a x e:Addr} {o:HO}
theorem Un.any (u:Un fs ex H H1 h h1) {b:Addr} {ob:Obj} (q:h.get? b=some ob) (n:H b=none) (hx:b ∉ ex):∃ sl,h1.get? b=some { ob with slots:=sl }:=by
 by_cases hb:b ∈ fs
 ·exact u.slot b ob q n hb hx
 ·exact ⟨ob.slots,u.keep b ob q n hb hx⟩
theorem Un.trans (a:Un fs ex H H1 h h1) (b:Un fs ex H1 H2 h1 h2):Un fs ex H H2 h h2 where
 keep:=fun c ob q n hc hx=>b.keep c ob (a.keep c ob q n hc hx) (a.free c ob q n hx) hc hx
 slot:=fun c ob q n hc hx=>by
  obtain ⟨sl,e1⟩:=a.slot c ob q n hc hx
  obtain ⟨sl',e2⟩:=b.slot c _ e1 (a.free c ob q n hx) hc hx
  exact ⟨sl',e2⟩
 free:=fun c ob q n hx=>by
  obtain ⟨o',e1⟩:=a.there c ob q hx
  exact b.free c o' e1 (a.free c ob q n hx) hx
 there:=fun c ob q hx=>by
  obtain ⟨o',e1⟩:=a.there c ob q hx
  exact b.there c o' e1 hx
 tups:=fun c xs q=>b.tups c xs (a.tups c xs q)
 frzs:=fun c ob xs q=>b.frzs c ob xs (a.frzs c ob xs q)
 tbls:=fun c ps q=>by
  obtain ⟨m1,e1⟩:=a.tbls c ps q
  obtain ⟨m2,e2⟩:=b.tbls c _ e1
  exact ⟨m1 ++ m2,by rw [e2,Array.append_assoc]⟩
theorem Un.kept (k:∀ b u,h.get? b=some u→h'.get? b=some u):Un fs ex H H h h' :=
 ⟨fun b ob q _ _ _=>k b ob q,fun b ob q _ _ _=>⟨ob.slots,k b ob q⟩,fun _ _ _ n _=>n,fun b ob q _=>⟨ob,k b ob q⟩,fun _ _ q=>q,fun _ _ _ q=>q,fun _ ps q=>⟨#[],by rw [q]; simp⟩⟩
theorem Un.refl:Un fs ex H H h h:=Un.kept fun _ _ q=>q
theorem Un.laid (k:∀ b u,h.get? b=some u→h'.get? b=some u) (hp:h.objs.size≤a) (hn:H a=none):Un fs ex H (upd H a o) h h' where
 keep:=fun b u q _ _ _=>k b u q
 slot:=fun b u q _ _ _=>⟨u.slots,k b u q⟩
 free:=fun b u q n _=>by rw [upd_ne (Nat.ne_of_lt (Nat.lt_of_lt_of_le (Heap.lt_size q) hp))]; exact n
 there:=fun b u q _=>⟨u,k b u q⟩
 tups:=fun b xs q=>by rw [upd_ne (ne_of_none q hn)]; exact q
 frzs:=fun b u xs q=>by rw [upd_ne (ne_of_none q hn)]; exact q
 tbls:=fun b ps q=>⟨#[],by rw [upd_ne (ne_of_none q hn),q]; simp⟩
theorem Un.write (mu:Mut (H x)) (he:e=x∨H e=some (.own x)) (k:∀ b u,b≠e→h.get? b=some u→h'.get? b=some u) (heo:∃ u,h'.get? e=some u):Un fs ex H (upd H x o) h h':=by
 have hx:∀ b,H b=none→b≠x:=fun b n z=>by subst z; rw [n] at mu; exact mu
 have hb:∀ b,H b=none→b≠e:=fun b n z=>by
  subst z
  rcases he with r | r
  ·exact hx b n r
  ·rw [n] at r; cases r
 have hm:∀ b u,H b=some u→¬ Mut (some u)→b≠x:=fun b u q nm z=>by subst z; rw [q] at mu; exact nm mu
 refine ⟨fun b u q n _ _=>k b u (hb b n) q,fun b u q n _ _=>⟨u.slots,k b u (hb b n) q⟩,fun b u q n _=>by rw [upd_ne (hx b n)]; exact n,fun b u q _=>?_,
  fun b xs q=>by rw [upd_ne (hm b _ q fun z=>z)]; exact q,fun b u xs q=>by rw [upd_ne (hm b _ q fun z=>z)]; exact q,fun b ps q=>⟨#[],by rw [upd_ne (hm b _ q fun z=>z),q]; simp⟩⟩
 by_cases hbe:b=e
 ·subst hbe; exact heo
 ·exact ⟨u,k b u hbe q⟩
theorem Un.mono (u:Un fs ex H H1 h h1) (hs:∀ b ∈ fs,b ∈ fs') (hx:∀ b ∈ ex,b ∈ ex'):Un fs' ex' H H1 h h1 :=
 ⟨fun b ob q n hb he=>u.keep b ob q n (fun z=>hb (hs b z)) fun z=>he (hx b z),fun _ _ q n _ he=>u.any q n fun z=>he (hx _ z),fun b ob q n he=>u.free b ob q n fun z=>he (hx b z),fun b ob q he=>u.there b ob q fun z=>he (hx b z),u.tups,u.frzs,u.tbls⟩
end
def trk (h:Heap) (H:Hp):List Addr:=(List.range h.objs.size).filter fun a=>(H a).isSome
def hidT (h:Heap) (H:Hp):Heap:=PySem.W.hideAll h (trk h H)
theorem hidT_size (h:Heap) (H:Hp):(hidT h H).objs.size=h.objs.size:=PySem.W.hideAll_size _ _
theorem hidT_get {h:Heap} {H:Hp} {b:Addr} {o:Obj} (e:h.get? b=some o) (n:H b=none):(hidT h H).get? b=some o :=
 PySem.W.hideAll_get _ e fun hm=>by
  have q:(H b).isSome=true:=(List.mem_filter.mp hm).2
  rw [n] at q; simp at q
theorem of_hidT {h:Heap} {H:Hp} {b:Addr} {o:Obj} (e:(hidT h H).get? b=some o):h.get? b=some o∧H b=none:=by
 have e':h.get? b=some o:=PySem.W.of_hideAll (trk h H) e
 refine ⟨e',?_⟩
 cases q:H b with
 | none=>rfl
 | some x =>
  have hm:b ∈ trk h H:=List.mem_filter.mpr ⟨List.mem_range.mpr (Heap.lt_size e'),by simp [q]⟩
  have z:(hidT h H).get? b=none:=PySem.W.hideAll_none (trk h H) hm
  rw [z] at e; cases e
def allNews (g h:Heap) (L:Addr):List (Addr×Obj):=(List.range h.objs.size).filterMap fun a=>if a=L∨(g.get? a).isSome=true then none else (h.get? a).map fun o=>(a,o)
def rest (g h:Heap) (L d:Addr):List (Addr×Obj):=(allNews g h L).filter fun p=>decide (p.1≠d)
open PySem PySem.Spec PyProof.Rows
structure Mod (K:PySem.W.Frag) (mg:Str→Option Value) (base:Heap):Prop where
 kin:K.In base
 glob:base.Ns mainGlobals mg
 blt:∃ mb,base.Ns builtinsNs mb∧∀ x:Str,x≠"__name__"→mb x=bootBuiltins x
 nolimit:base.NoLimit
structure Cx where
 prog:Program
 w:World
 K:PySem.W.Frag
 mg:Str→Option Value
 base:Heap
 A:Around
 N:List Str
 s₀:Shared
 H₀:Hp
 env:Env
 outer:List Env
 stack:List Env
 ex:List Addr
 fn:Str→Bool
 calm:Bool
 pn:List (Addr×Obj)
 xe:Value→Shared→Prop
def frs (l:List Env):List Addr:=l.filterMap (·.frame)
abbrev Cx.fs (X:Cx):List Addr:=frs X.outer
def Vis (sc:Scope) (x:Str):Prop:=sc.names.lookup x=some .local∨sc.names.lookup x=some .cell∨sc.names.lookup x=some .free
def Loc (sc:Scope) (x:Str):Prop:=sc.names.lookup x=some .local∨sc.names.lookup x=some .cell
def Look (env:Env) (h:Heap) (m:Str→Option Value) (x:Str) (u:Value):Prop :=
 (env.kindOf x=some .local∧m x=some u)∨((env.kindOf x=some .cell∨env.kindOf x=some .free)∧∃ c,env.cells.lookup x=some c∧h.IsCell c (some u))
structure Cx.Ok (X:Cx):Prop where
 mod:Mod X.K X.mg X.base
 kind:X.env.scope.kind = .function
 glob:X.env.globals=mainGlobals
 blt:X.env.builtins=builtinsNs
 above:X.s₀.heap.objs.size≤X.env.locals
 inj:∀ x y c,X.env.cells.lookup x=some c→X.env.cells.lookup y=some c→x=y
 has:∀ x,(X.env.kindOf x=some .cell∨X.env.kindOf x=some .free)→∃ c,X.env.cells.lookup x=some c
 cab:∀ x c,X.fn x=true→X.env.cells.lookup x=some c→X.s₀.heap.objs.size≤c
 hd:X.calm=true→X.A.handled=none
 frames:X.A.frames=some X.stack
 stk:X.stack=X.outer∨(X.stack=X.env :: X.outer∧X.env.frame=some X.env.locals)
 exf:∀ b ∈ X.ex,b≠X.env.locals∧∀ x c,X.env.cells.lookup x=some c→c≠b
 bs:∀ b o,X.base.get? b=some o→X.s₀.heap.get? b=some o∧X.H₀ b=none
 bsz:X.base.objs.size≤X.s₀.heap.objs.size
 noex:∀ b o,X.base.get? b=some o→b ∉ X.ex
 exfs:∀ b ∈ X.ex,b ∉ X.fs
 funs:X.s₀.heap.FunFrames X.base X.outer
 frf:∀ b ∈ X.fs,X.H₀ b=none
structure Inv (X:Cx) (pins:List (Addr×Obj)) (σ:List (Option V)) (H:Hp) (s:Shared):Prop where
 ok:X.Ok
 os:s.os=X.s₀.os
 bare:AllBare s.gens
 base:Un X.fs X.ex X.H₀ H X.s₀.heap s.heap
 loc:∃ m,s.heap.Ns X.env.locals m∧∀ (i:Nat) (x:Str) (v:V),X.N[i]? = some x→σ[i]? = some (some v)→Vis X.env.scope x→∃ u,RelV v u∧Look X.env s.heap m x u
 cell:∀ x c,X.env.cells.lookup x=some c→∃ v,s.heap.IsCell c v
 free:H X.env.locals=none
 freeC:∀ x c,X.env.cells.lookup x=some c→H c=none
 pin:∀ p ∈ X.pn ++ pins,s.heap.get? p.1=some p.2∧H p.1=none∧p.1≠X.env.locals∧p.1 ∉ X.fs∧∀ v,p.2.data≠.cell v
 hok:HOk X.prog X.w H s.heap
 len:σ.length=X.N.length
section
variable {X:Cx} {pins:List (Addr×Obj)} {σ:List (Option V)} {H H':Hp} {s:Shared} {h':Heap}
theorem Cx.Ok.nofr (ok:X.Ok) {b:Addr} {o:Obj} (e:X.base.get? b=some o):b ∉ X.fs:=fun hb=>by
 have:=(ok.funs.mem hb).1
 rw [e] at this; cases this
theorem Inv.bs (I:Inv X pins σ H s):∀ b o,X.base.get? b=some o→s.heap.get? b=some o∧H b=none:=fun b o e =>
 ⟨I.base.keep b o (I.ok.bs b o e).1 (I.ok.bs b o e).2 (I.ok.nofr e) (I.ok.noex b o e),I.base.free b o (I.ok.bs b o e).1 (I.ok.bs b o e).2 (I.ok.noex b o e)⟩
theorem Inv.bk (I:Inv X pins σ H s):∀ b o,X.base.get? b=some o→s.heap.get? b=some o:=fun b o e=>(I.bs b o e).1
theorem Inv.mod (I:Inv X pins σ H s):Mod X.K X.mg X.base:=I.ok.mod
theorem Inv.kIn (I:Inv X pins σ H s):X.K.In s.heap:=I.ok.mod.kin.keeps I.bk
theorem Inv.nolimit (I:Inv X pins σ H s):s.heap.NoLimit:=I.ok.mod.nolimit.keeps I.bk
theorem Inv.fr (I:Inv X pins σ H s):∃ m,Fr X.base X.env.locals s.heap m :=
 let ⟨m,hn,_⟩:=I.loc
 ⟨m,hn,I.bk,Nat.le_trans I.ok.bsz I.ok.above⟩
theorem Inv.lt (I:Inv X pins σ H s):X.env.locals < s.heap.objs.size:=let ⟨_,hn,_⟩:=I.loc; hn.lt
theorem Inv.sz (I:Inv X pins σ H s):X.s₀.heap.objs.size≤s.heap.objs.size:=Nat.le_trans I.ok.above (Nat.le_of_lt I.lt)
theorem Inv.nofs (I:Inv X pins σ H s) {a:Addr} (h:s.heap.objs.size≤a):a ∉ X.fs:=fun hb=>by
 obtain ⟨_,o,ho,_⟩:=I.ok.funs.mem hb
 exact absurd (Nat.lt_of_lt_of_le (Heap.lt_size ho) (Nat.le_trans I.sz h)) (Nat.lt_irrefl _)
theorem Inv.cne (I:Inv X pins σ H s):∀ x c,X.env.cells.lookup x=some c→c≠X.env.locals:=fun x c e z=>by
 obtain ⟨v,o,ho,hd⟩:=I.cell x c e
 obtain ⟨m,⟨o',es,ep,ho',hd',_⟩,_⟩:=I.loc
 rw [z,ho'] at ho; cases ho; rw [hd'] at hd; cases hd
theorem Inv.funs (I:Inv X pins σ H s):s.heap.FunFrames X.base X.outer:=by
 have all:∀ (l:List Env),(∀ b ∈ frs l,b ∈ X.fs)→X.s₀.heap.FunFrames X.base l→s.heap.FunFrames X.base l:=by
  intro l
  induction l with
  | nil=>intro _ _; trivial
  | cons env r ih =>
   intro hs hl
   obtain ⟨hk,⟨L,o,hf,hn,ho,hd⟩,hr⟩:=hl
   have hL:L ∈ X.fs:=hs L (by unfold frs; rw [List.filterMap_cons,hf]; exact List.mem_cons_self)
   obtain ⟨sl,e⟩:=I.base.slot L o ho (I.ok.frf L hL) hL fun z=>I.ok.exfs L z hL
   exact ⟨hk,⟨L,_,hf,hn,e,hd⟩,ih (fun b hb=>hs b (by unfold frs; rw [List.filterMap_cons,hf]; exact List.mem_cons_of_mem _ hb)) hr⟩
 exact all X.outer (fun _ hb=>hb) I.ok.funs
theorem Inv.stack (I:Inv X pins σ H s):s.heap.FunFrames X.base X.stack:=by
 rcases I.ok.stk with e | ⟨e,hf⟩
 ·rw [e]; exact I.funs
 ·rw [e]
  obtain ⟨m,hn,_⟩:=I.loc
  refine .cons (by rw [I.ok.kind]; decide) hf hn ?_ I.funs
  exact Heap.get?_none_of_le (Nat.le_trans I.ok.bsz I.ok.above)
theorem Inv.stkSub (I:Inv X pins σ H s):∀ b ∈ frs X.stack,b ∈ X.env.locals :: X.fs:=fun b hb=>by
 rcases I.ok.stk with e | ⟨e,hf⟩
 ·rw [e] at hb; exact List.mem_cons_of_mem _ hb
 ·rw [e] at hb
  unfold frs at hb
  rw [List.filterMap_cons,hf] at hb
  exact hb
theorem Inv.stkFree (I:Inv X pins σ H s):∀ b ∈ frs X.stack,H b=none:=fun b hb=>by
 rcases List.mem_cons.mp (I.stkSub b hb) with e | hb
 ·rw [e]; exact I.free
 ·obtain ⟨_,o,ho,_⟩:=I.ok.funs.mem hb
  exact I.base.free b o ho (I.ok.frf b hb) fun z=>I.ok.exfs b z hb
theorem Inv.step {g':Array GenState} {t':Nat} {d':Drawn} {ch:List Addr} (I:Inv X pins σ H s)
  (hch:∀ b ∈ ch,(b ∈ X.ex∨X.s₀.heap.objs.size≤b)∧b≠X.env.locals∧(∀ x c,X.env.cells.lookup x=some c→c≠b)∧∀ p ∈ X.pn ++ pins,p.1≠b)
  (keep:∀ b o,b≠X.env.locals→b ∉ X.fs→b ∉ ch→s.heap.get? b=some o→H b=none→h'.get? b=some o)
  (slot:∀ b o,b≠X.env.locals→b ∈ X.fs→b ∉ ch→s.heap.get? b=some o→H b=none→∃ sl,h'.get? b=some { o with slots:=sl }) (free:∀ b o,b ∉ ch→s.heap.get? b=some o→H b=none→H' b=none)
  (there:∀ b o,b ∉ ch→s.heap.get? b=some o→∃ o',h'.get? b=some o')
  (tups:∀ b xs,H b=some (.tup xs)→H' b=some (.tup xs)) (frzs:∀ b o u,H b=some (.frz o u)→H' b=some (.frz o u)) (tbls:∀ b ps,H b=some (.tbl ps)→∃ more,H' b=some (.tbl (ps ++ more)))
  (ns:∀ m,s.heap.Ns X.env.locals m→h'.Ns X.env.locals m) (hok:HOk X.prog X.w H' h') (hg:AllBare g') :
  Inv X pins σ H' { s with heap:=h',gens:=g',drawn:=d',toks:=t' }:=by
 have neL:∀ b o,X.s₀.heap.get? b=some o→b≠X.env.locals:=fun b o e=>Nat.ne_of_lt (Nat.lt_of_lt_of_le (Heap.lt_size e) I.ok.above)
 have neC:∀ b o,X.s₀.heap.get? b=some o→b ∉ X.ex→b ∉ ch:=fun b o e hx hb=>by
  rcases (hch b hb).1 with z | z
  ·exact hx z
  ·exact absurd (Nat.lt_of_lt_of_le (Heap.lt_size e) z) (Nat.lt_irrefl _)
 have cellK:∀ x c,X.env.cells.lookup x=some c→∀ v,s.heap.IsCell c v→h'.IsCell c v:=fun x c e v ⟨o,ho,hd⟩=>by
  have nch:c ∉ ch:=fun z=>(hch c z).2.2.1 x c e rfl
  by_cases hc:c ∈ X.fs
  ·obtain ⟨sl,q⟩:=slot c o (I.cne x c e) hc nch ho (I.freeC x c e)
   exact ⟨_,q,hd⟩
  ·exact ⟨o,keep c o (I.cne x c e) hc nch ho (I.freeC x c e),hd⟩
 refine ⟨I.ok,I.os,hg,⟨fun b o e n hb hx=>?_,fun b o e n hb hx=>?_,fun b o e n hx=>?_,fun b o e hx=>?_,fun b xs e=>tups b xs (I.base.tups b xs e),fun b o xs e=>frzs b o xs (I.base.frzs b o xs e),fun b ps e=>?_⟩,?_,fun x c e=>?_,?_,fun x c e=>?_,fun p hp=>?_,hok,I.len⟩
 ·exact keep b o (neL b o e) hb (neC b o e hx) (I.base.keep b o e n hb hx) (I.base.free b o e n hx)
 ·obtain ⟨sl,e1⟩:=I.base.slot b o e n hb hx
  obtain ⟨sl',e2⟩:=slot b _ (neL b o e) hb (neC b o e hx) e1 (I.base.free b o e n hx)
  exact ⟨sl',e2⟩
 ·obtain ⟨o',e1⟩:=I.base.there b o e hx
  exact free b o' (neC b o e hx) e1 (I.base.free b o e n hx)
 ·obtain ⟨o',e1⟩:=I.base.there b o e hx
  exact there b o' (neC b o e hx) e1
 ·obtain ⟨m1,e1⟩:=I.base.tbls b ps e
  obtain ⟨m2,e2⟩:=tbls b _ e1
  exact ⟨m1 ++ m2,by rw [e2,Array.append_assoc]⟩
 ·obtain ⟨m,hn,hl⟩:=I.loc
  refine ⟨m,ns m hn,fun i x v e1 e2 e3=>?_⟩
  obtain ⟨u,r,l⟩:=hl i x v e1 e2 e3
  refine ⟨u,r,?_⟩
  rcases l with l | ⟨k,c,e,z⟩
  ·exact .inl l
  ·exact .inr ⟨k,c,e,cellK x c e _ z⟩
 ·obtain ⟨v,z⟩:=I.cell x c e
  exact ⟨v,cellK x c e v z⟩
 ·obtain ⟨m,⟨o,_,_,ho,_⟩,_⟩:=I.loc
  exact free _ o (fun z=>(hch _ z).2.1 rfl) ho I.free
 ·obtain ⟨v,o,ho,hd⟩:=I.cell x c e
  exact free c o (fun z=>(hch c z).2.2.1 x c e rfl) ho (I.freeC x c e)
 ·obtain ⟨e,n,ne,nf,d⟩:=I.pin p hp
  have nch:p.1 ∉ ch:=fun z=>(hch p.1 z).2.2.2 p hp rfl
  exact ⟨keep p.1 p.2 ne nf nch e n,free p.1 p.2 nch e n,ne,nf,d⟩
theorem Inv.un {t':Nat} (I:Inv X pins σ H s) (u:Un X.fs [] H H' s.heap h') (hok:HOk X.prog X.w H' h'):Inv X pins σ H' { s with heap:=h',toks:=t' }:=by
 obtain ⟨m,⟨o,es,ep,ho,r⟩,_⟩:=id I.loc
 obtain ⟨sl,hL⟩:=u.any ho I.free (by simp)
 exact I.step (g':=s.gens) (d':=s.drawn) (ch:=[]) (fun _ z=>nomatch z) (fun b o _ hb _ e n=>u.keep b o e n hb (by simp)) (fun b o _ hb _ e n=>u.slot b o e n hb (by simp)) (fun b o _ e n=>u.free b o e n (by simp)) (fun b o _ e=>u.there b o e (by simp)) u.tups u.frzs u.tbls (fun m' hm=>by
  obtain ⟨o',es',ep',ho',r'⟩:=hm
  rw [ho] at ho'; cases ho'
  exact ⟨_,es',ep',hL,r'⟩) hok I.bare
theorem Inv.call {g':Array GenState} {t':Nat} {d':Drawn} {ch:List Addr} (I:Inv X pins σ H s) (u:Un (frs X.stack) ch H H' s.heap h') (hok:HOk X.prog X.w H' h') (hg:AllBare g')
  (hch:∀ b ∈ ch,(b ∈ X.ex∨X.s₀.heap.objs.size≤b)∧b≠X.env.locals∧(∀ x c,X.env.cells.lookup x=some c→c≠b)∧∀ p ∈ X.pn ++ pins,p.1≠b) :
  Inv X pins σ H' { s with heap:=h',gens:=g',drawn:=d',toks:=t' }:=by
 obtain ⟨m,⟨o,es,ep,ho,r⟩,_⟩:=id I.loc
 obtain ⟨sl,hL⟩:=u.any ho I.free fun z=>(hch _ z).2.1 rfl
 exact I.step (ch:=ch) hch (fun b o hL hb hc e n=>u.keep b o e n (fun z=>(List.mem_cons.mp (I.stkSub b z)).elim hL hb) hc) (fun b o _ _ hc e n=>u.any e n hc) (fun b o hc e n=>u.free b o e n hc) (fun b o hc e=>u.there b o e hc) u.tups u.frzs u.tbls (fun m' hm=>by
  obtain ⟨o',es',ep',ho',r'⟩:=hm
  rw [ho] at ho'; cases ho'
  exact ⟨_,es',ep',hL,r'⟩) hok hg
theorem Inv.turned {t':Nat} {it:Addr} (I:Inv X pins σ H s) (k:∀ b o,b≠it→s.heap.get? b=some o→h'.get? b=some o) (hn:H it=none) (hL:it≠X.env.locals)
  (h1:it ∈ X.ex∨X.s₀.heap.objs.size≤it) (h2:∀ x c,X.env.cells.lookup x=some c→c≠it) (h3:∀ p ∈ X.pn ++ pins,p.1≠it):Inv X pins σ H { s with heap:=h',toks:=t' }:=by
 have nit:∀ b u,H b=some u→b≠it:=fun b u e z=>by rw [z,hn] at e; cases e
 refine I.step (g':=s.gens) (d':=s.drawn) (ch:=[it]) (fun b hb=>?_) (fun b o _ _ hc e _=>k b o (fun z=>hc (by simp [z])) e) (fun b o _ _ hc e _=>⟨o.slots,k b o (fun z=>hc (by simp [z])) e⟩) (fun _ _ _ _ n=>n)
  (fun b o hc e=>⟨o,k b o (fun z=>hc (by simp [z])) e⟩) (fun _ _ e=>e) (fun _ _ _ e=>e) (fun b ps e=>⟨#[],by rw [e]; simp⟩) (fun m hm=>?_) (fun b u e=>?_) I.bare
 ·have e:b=it:=by simpa using hb
  subst e
  exact ⟨h1,hL,h2,h3⟩
 ·obtain ⟨o,es,ep,ho,r⟩:=hm
  exact ⟨o,es,ep,k _ o (Ne.symm hL) ho,r⟩
 ·refine (I.hok b u e).stay (fun c v hc q=>k c v ?_ q) (fun _ q=>q) fun _ _ q=>q
  rcases hc with z | z
  ·rw [z]; exact nit b u e
  ·exact nit c _ z
theorem Inv.tok (I:Inv X pins σ H s) (t:Nat):Inv X pins σ H { s with toks:=t }:=I.un (h':=s.heap) (t':=t) Un.refl I.hok
theorem Inv.kept {t':Nat} (I:Inv X pins σ H s) (k:∀ b u,s.heap.get? b=some u→h'.get? b=some u):Inv X pins σ H { s with heap:=h',toks:=t' }:=I.un (Un.kept k) (I.hok.kept k)
theorem Inv.laid {a:Addr} {o:HO} {t':Nat} (I:Inv X pins σ H s) (k:∀ b u,s.heap.get? b=some u→h'.get? b=some u) (hp:s.heap.objs.size≤a) (new:ObjOk X.prog X.w (upd H a o) h' a o) :
  Inv X pins σ (upd H a o) { s with heap:=h',toks:=t' }:=I.un (Un.laid k hp (I.hok.fresh hp)) (I.hok.laid k hp new)
theorem Inv.write {x e:Addr} {o:HO} {t':Nat} (I:Inv X pins σ H s) (mu:Mut (H x)) (he:e=x∨H e=some (.own x)) (k:∀ b u,b≠e→s.heap.get? b=some u→h'.get? b=some u) (heo:∃ u,h'.get? e=some u)
  (new:ObjOk X.prog X.w (upd H x o) h' x o):Inv X pins σ (upd H x o) { s with heap:=h',toks:=t' }:=I.un (Un.write mu he k heo) (I.hok.write mu he k heo new)
theorem Inv.weak {σ':List (Option V)} (I:Inv X pins σ H s) (hl:σ'.length=σ.length) (w:∀ (i:Nat) v,σ'[i]? = some (some v)→σ[i]? = some (some v)):Inv X pins σ' H s :=
 ⟨I.ok,I.os,I.bare,I.base,let ⟨m,hn,hl'⟩:=I.loc; ⟨m,hn,fun i x v e1 e2 e3=>hl' i x v e1 (w i v e2) e3⟩,I.cell,I.free,I.freeC,I.pin,I.hok,hl.trans I.len⟩
theorem Inv.pins_of {pins':List (Addr×Obj)} (I:Inv X pins σ H s) (h:∀ p ∈ pins',s.heap.get? p.1=some p.2∧H p.1=none∧p.1≠X.env.locals∧p.1 ∉ X.fs∧∀ v,p.2.data≠.cell v):Inv X pins' σ H s :=
 ⟨I.ok,I.os,I.bare,I.base,I.loc,I.cell,I.free,I.freeC,fun p hp=>(List.mem_append.mp hp).elim (fun z=>I.pin p (List.mem_append_left _ z)) (h p),I.hok,I.len⟩
theorem nodup_ix {N:List Str} (hN:N.Nodup) {i j:Nat} {x:Str} (a:N[i]? = some x) (b:N[j]? = some x):i=j:=by
 obtain ⟨h1,e1⟩:=List.getElem?_eq_some_iff.mp a
 obtain ⟨h2,e2⟩:=List.getElem?_eq_some_iff.mp b
 exact (List.getElem_inj hN).mp (e1.trans e2.symm)
theorem store_ok2 {M:Model} {A:Around} {E:Value→Shared→Prop} {i:Nat} {x:Str} {v:V} {u:Value} {Q:Unit→Shared→Prop} (I:Inv X pins σ H s) (hN:X.N.Nodup) (hi:X.N[i]? = some x) (hx:Loc X.env.scope x) (r:RelV v u)
  (h:∀ s',Inv X pins (σ.set i (some v)) H s'→(∃ a,Heap.SameBut a s.heap s'.heap∧(a=X.env.locals∨X.env.cells.lookup x=some a))→Q () s') (hf:X.fn x=true∨X.env.scope.names.lookup x=some .local:=by first | exact .inl rfl | exact .inr rfl | assumption):wpAny M A (storeName X.env x u) Q E s:=by
 obtain ⟨m,hn,hl⟩:=id I.loc
 have hcls:(X.env.scope.kind == .class || (X.env.scope.kind == .module && X.env.locals != X.env.globals))=false:=by rw [I.ok.kind]; rfl
 have hiσ:i < σ.length:=by rw [I.len]; exact (List.getElem?_eq_some_iff.mp hi).1
 have cne:=I.cne
 have tracked:∀ {a:Addr} {h':Heap},(∃ o,s.heap.get? a=some o∧H a=none)→Heap.SameBut a s.heap h'→HOk X.prog X.w H h':=fun {a h'} ha hs b ob e=>by
  obtain ⟨_,_,hfree⟩:=ha
  refine (I.hok b ob e).stay (fun c w' hc q=>(hs.2 c ?_).trans q) (fun _ q=>q) fun _ _ q=>q
  rintro rfl
  rcases hc with rfl | hc
  ·rw [hfree] at e; cases e
  ·rw [hfree] at hc; cases hc
 rcases hx with hk | hk
 ·refine wpAny_storeName_local hk hn (fun h' hn' hs=>?_) hcls
  obtain ⟨oL,_,_,hoL,_⟩:=id hn
  refine h _ ⟨I.ok,I.os,I.bare,⟨fun b o e n hb hx=>?_,fun b o e n hb hx=>?_,I.base.free,fun b o e hx=>?_,I.base.tups,I.base.frzs,I.base.tbls⟩,⟨_,hn',fun j y v' e1 e2 e3=>?_⟩,fun y c e=>?_,I.free,I.freeC,fun p hp=>?_,tracked ⟨oL,hoL,I.free⟩ hs,by simpa using I.len⟩ ⟨_,hs,.inl rfl⟩
  ·exact (hs.2 b (Nat.ne_of_lt (Nat.lt_of_lt_of_le (Heap.lt_size e) I.ok.above))).trans (I.base.keep b o e n hb hx)
  ·obtain ⟨sl,e1⟩:=I.base.slot b o e n hb hx
   exact ⟨sl,(hs.2 b (Nat.ne_of_lt (Nat.lt_of_lt_of_le (Heap.lt_size e) I.ok.above))).trans e1⟩
  ·obtain ⟨o',e1⟩:=I.base.there b o e hx
   exact ⟨o',(hs.2 b (Nat.ne_of_lt (Nat.lt_of_lt_of_le (Heap.lt_size e) I.ok.above))).trans e1⟩
  ·by_cases hj:j=i
   ·subst hj
    rw [hi] at e1; cases e1
    rw [List.getElem?_set_self hiσ] at e2
    cases e2
    exact ⟨u,r,.inl ⟨hk,by simp⟩⟩
   ·rw [List.getElem?_set_ne (Ne.symm hj)] at e2
    obtain ⟨u',r',q⟩:=hl j y v' e1 e2 e3
    refine ⟨u',r',?_⟩
    rcases q with ⟨k,e⟩ | ⟨k,c,e,z⟩
    ·refine .inl ⟨k,?_⟩
     have:y≠x:=fun e=>hj (nodup_ix hN e1 (e ▸ hi))
     simp [this,e]
    ·exact .inr ⟨k,c,e,z.sameBut hs (cne y c e)⟩
  ·obtain ⟨w',z⟩:=I.cell y c e
   exact ⟨w',z.sameBut hs (cne y c e)⟩
  ·obtain ⟨e,n,ne,nf,d⟩:=I.pin p hp
   exact ⟨(hs.2 p.1 ne).trans e,n,ne,nf,d⟩
 ·have hfn:X.fn x=true:=by
   rcases hf with z | z
   ·exact z
   ·rw [z] at hk; cases hk
  obtain ⟨c,hc⟩:=I.ok.has x (.inl hk)
  obtain ⟨w',z⟩:=I.cell x c hc
  refine wpAny_storeName_cell I.ok.kind hk hc z (fun h' hc' hs=>?_)
  obtain ⟨oc,hoc,hocd⟩:=id z
  refine h { s with heap:=h' } ⟨I.ok,I.os,I.bare,⟨fun b o e n hb hx=>?_,fun b o e n hb hx=>?_,I.base.free,fun b o e hx=>?_,I.base.tups,I.base.frzs,I.base.tbls⟩,⟨m,hn.sameBut hs (Ne.symm (cne x c hc)),fun j y v' e1 e2 e3=>?_⟩,fun y c' e=>?_,I.free,I.freeC,fun p hp=>?_,tracked ⟨oc,hoc,I.freeC x c hc⟩ hs,by simpa using I.len⟩ ⟨c,hs,.inr hc⟩
  ·exact (hs.2 b (Nat.ne_of_lt (Nat.lt_of_lt_of_le (Heap.lt_size e) (I.ok.cab x c hfn hc)))).trans (I.base.keep b o e n hb hx)
  ·obtain ⟨sl,e1⟩:=I.base.slot b o e n hb hx
   exact ⟨sl,(hs.2 b (Nat.ne_of_lt (Nat.lt_of_lt_of_le (Heap.lt_size e) (I.ok.cab x c hfn hc)))).trans e1⟩
  ·obtain ⟨o',e1⟩:=I.base.there b o e hx
   exact ⟨o',(hs.2 b (Nat.ne_of_lt (Nat.lt_of_lt_of_le (Heap.lt_size e) (I.ok.cab x c hfn hc)))).trans e1⟩
  ·by_cases hj:j=i
   ·subst hj
    rw [hi] at e1; cases e1
    rw [List.getElem?_set_self hiσ] at e2
    cases e2
    exact ⟨u,r,.inr ⟨.inl hk,c,hc,hc'⟩⟩
   ·rw [List.getElem?_set_ne (Ne.symm hj)] at e2
    obtain ⟨u',r',q⟩:=hl j y v' e1 e2 e3
    refine ⟨u',r',?_⟩
    rcases q with q | ⟨k,c',e,z'⟩
    ·exact .inl q
    ·refine .inr ⟨k,c',e,z'.sameBut hs ?_⟩
     rintro rfl
     exact hj (nodup_ix hN e1 (I.ok.inj _ _ _ e hc ▸ hi))
  ·by_cases hcc:c'=c
   ·subst hcc; exact ⟨_,hc'⟩
   ·obtain ⟨w2,z2⟩:=I.cell y c' e
    exact ⟨w2,z2.sameBut hs hcc⟩
  ·obtain ⟨e,n,ne,nf,d⟩:=I.pin p hp
   refine ⟨(hs.2 p.1 ?_).trans e,n,ne,nf,d⟩
   intro q
   rw [q,hoc] at e
   have q':oc=p.2:=Option.some.inj e
   exact d w' (by rw [← q']; exact hocd)
theorem store_ok {M:Model} {A:Around} {E:Value→Shared→Prop} {i:Nat} {x:Str} {v:V} {u:Value} {Q:Unit→Shared→Prop} (I:Inv X pins σ H s) (hN:X.N.Nodup) (hi:X.N[i]? = some x) (hx:Loc X.env.scope x) (r:RelV v u)
  (h:∀ s',Inv X pins (σ.set i (some v)) H s'→Q () s') (hf:X.fn x=true∨X.env.scope.names.lookup x=some .local:=by first | exact .inl rfl | exact .inr rfl | assumption):wpAny M A (storeName X.env x u) Q E s :=
 store_ok2 I hN hi hx r (fun s' I' _=>h s' I') hf
theorem Inv.call' {s':Shared} {ch:List Addr} (I:Inv X pins σ H s) (ho:s'.os=s.os) (u:Un (frs X.stack) ch H H' s.heap s'.heap) (hok:HOk X.prog X.w H' s'.heap) (hg:AllBare s'.gens)
  (hch:∀ b ∈ ch,(b ∈ X.ex∨X.s₀.heap.objs.size≤b)∧b≠X.env.locals∧(∀ x c,X.env.cells.lookup x=some c→c≠b)∧∀ p ∈ X.pn ++ pins,p.1≠b):Inv X pins σ H' s':=by
 obtain ⟨h',g',d',t',o'⟩:=s'
 have e:o'=s.os:=ho
 subst e
 exact I.call (g':=g') (t':=t') (d':=d') u hok hg hch
end
abbrev XK:=Value→Option Addr→Hp→Prop
abbrev St:=List (Option V)
abbrev VK:=V→Hp→Prop
abbrev TE:=St→Hp→VK→Prop
abbrev TT:=St→Hp→(Bool→Hp→Prop)→Prop
abbrev TA:=St→Hp→(List V→Hp→Prop)→Prop
structure Ends where
 nx:St→Hp→Prop
 rt:VK
 bk:St→Hp→Prop:=fun _ _=>False
 ct:St→Hp→Prop:=fun _ _=>False
abbrev TS:=Ends→St→Hp→Prop
def EP (X:Cx) (pins:List (Addr×Obj)) (σ:St) (Q:VK) (u:Value) (s':Shared):Prop:=∃ v H',Inv X pins σ H' s'∧RelV v u∧Q v H'
def TP (X:Cx) (pins:List (Addr×Obj)) (σ:St) (Q:Bool→Hp→Prop) (b:Bool) (s':Shared):Prop:=∃ H',Inv X pins σ H' s'∧Q b H'
def AP (X:Cx) (pins:List (Addr×Obj)) (σ:St) (Q:List V→Hp→Prop) (us:List Value) (s':Shared):Prop:=∃ vs H',Inv X pins σ H' s'∧Vals vs us∧Q vs H'
def SP (X:Cx) (pins:List (Addr×Obj)) (D:Ends) (f:Flow) (s':Shared):Prop :=
 match f with
 | .next=>∃ σ' H',Inv X pins σ' H' s'∧D.nx σ' H'
 | .brk=>∃ σ' H',Inv X pins σ' H' s'∧D.bk σ' H'
 | .cont=>∃ σ' H',Inv X pins σ' H' s'∧D.ct σ' H'
 | .ret u=>∃ v σ' H',Inv X pins σ' H' s'∧RelV v u∧D.rt v H'
def PE (X:Cx) (e:Expr) (t:TE):Prop :=
 ∀ (pins:List (Addr×Obj)) (s:Shared) (σ:St) (H:Hp) (Q:VK),Inv X pins σ H s→t σ H Q→wpAny (model X.prog X.w) X.A (eval e X.env) (EP X pins σ Q) X.xe s
def PT (X:Cx) (e:Expr) (t:TT):Prop :=
 ∀ (pins:List (Addr×Obj)) (s:Shared) (σ:St) (H:Hp) (Q:Bool→Hp→Prop),Inv X pins σ H s→t σ H Q→wpAny (model X.prog X.w) X.A (isTrue e X.env (eval e X.env)) (TP X pins σ Q) X.xe s
def PW (X:Cx) (e:Expr) (t:TT):Prop :=
 ∀ (whole:Sem Value) (pins:List (Addr×Obj)) (s:Shared) (σ:St) (H:Hp) (Q:Bool→Hp→Prop),Inv X pins σ H s→t σ H Q→wpAny (model X.prog X.w) X.A (isTrue e X.env whole) (TP X pins σ Q) X.xe s
theorem PW.pt {X:Cx} {e:Expr} {t:TT} (h:PW X e t):PT X e t:=h _
def PA (X:Cx) (es:List Expr) (t:TA):Prop :=
 ∀ (pos:Pos) (pins:List (Addr×Obj)) (s:Shared) (σ:St) (H:Hp) (Q:List V→Hp→Prop),Inv X pins σ H s→t σ H Q→wpAny (model X.prog X.w) X.A (spliced (backTo pos (starEach es X.env))) (AP X pins σ Q) X.xe s
def PS (X:Cx) (st:Stmt) (t:TS):Prop :=
 ∀ (pins:List (Addr×Obj)) (s:Shared) (σ:St) (H:Hp) (D:Ends),Inv X pins σ H s→t D σ H→wpAny (model X.prog X.w) X.A (exec st X.env) (SP X pins D) X.xe s
def PSs (X:Cx) (st:List Stmt) (t:TS):Prop :=
 ∀ (pins:List (Addr×Obj)) (s:Shared) (σ:St) (H:Hp) (D:Ends),Inv X pins σ H s→t D σ H→wpAny (model X.prog X.w) X.A (execs st X.env) (SP X pins D) X.xe s
theorem thn {α:Type} {t:Sem α} {Q Q':α→Shared→Prop} {M:Model} {A:Around} {E:Value→Shared→Prop} {s:Shared} (h:wpAny M A t Q E s) (hQ:∀ a s,Q a s→Q' a s):wpAny M A t Q' E s:=wpAny_mono h hQ fun _ _ x=>x
open PySem PySem.Spec PyProof.Rows
section
variable {X:Cx}
theorem bin {a b:Expr} {ta tb:TE} (ha:PE X a ta) (hb:PE X b tb) {pins:List (Addr×Obj)} {s:Shared} {σ:St} {H:Hp} {R:V→V→Hp→Prop} (I:Inv X pins σ H s) (h:ta σ H fun x H1=>tb σ H1 fun y H2=>R x y H2)
  {α:Type} {Q:α→Shared→Prop} {f:Value→Value→Sem α}
  (hf:∀ v u s2 x y H2,Inv X pins σ H2 s2→RelV x v→RelV y u→R x y H2→wpAny (model X.prog X.w) X.A (f v u) Q X.xe s2) :
  wpAny (model X.prog X.w) X.A (eval a X.env) (fun v s₁=>wpAny (model X.prog X.w) X.A (eval b X.env) (fun u s₂=>wpAny (model X.prog X.w) X.A (f v u) Q X.xe s₂) X.xe s₁) X.xe s:=by
 refine thn (ha pins s σ H _ I h) fun v s1 ⟨x,H1,I1,r1,q1⟩=>?_
 refine thn (hb pins s1 σ H1 _ I1 q1) fun u s2 ⟨y,H2,I2,r2,q2⟩=>?_
 exact hf v u s2 x y H2 I2 r1 r2 q2
def tVar (i:Nat):TE:=fun σ H Q=>∃ v,σ[i]? = some (some v)∧Q v H
def tC (v:V):TE:=fun _ H Q=>Q v H
theorem pe_var {i:Nat} {x:Str} {pos:Pos} (hN:X.N[i]? = some x) (hv:Vis X.env.scope x) (hd:(x == ("__debug__" : Str))=false:=by decide) (hcd:(x == ("__classdict__" : Str))=false:=by decide):PE X (.Name x pos) (tVar i):=by
 intro pins s σ H Q I h
 obtain ⟨v,e,h⟩:=h
 obtain ⟨m,hn,hl⟩:=I.loc
 obtain ⟨u,r,l⟩:=hl i x v hN e hv
 have fin:EP X pins σ Q u s:=⟨v,H,I,r,h⟩
 rcases l with ⟨hk,hm⟩ | ⟨hk,c,hc,hcell⟩
 ·exact wpAny_Name (wpAny_loadName_local I.ok.kind hk hn hm fin) hd
 ·rcases hk with hk | hk
  ·exact wpAny_Name (wpAny_loadName_cell I.ok.kind hk hc hcell fin) hd
  ·exact wpAny_Name (wpAny_loadName_free I.ok.kind hk hc hcell fin hcd) hd
theorem pe_int {i j pos}:PE X (.Constant (.int i) j pos) (tC (.int i)):=fun _ _ _ H _ I h=>wpAny_Constant_int ⟨.int i,H,I.tok _,⟨_,rfl⟩,h⟩
theorem pe_bl {b j pos}:PE X (.Constant (.bool b) j pos) (tC (.bl b)):=fun _ _ _ H _ I h=>Constant_bool ⟨.bl b,H,I,rfl,h⟩
theorem pe_non {j pos}:PE X (.Constant .none j pos) (tC .non):=fun _ _ _ H _ I h=>Constant_none ⟨.non,H,I,rfl,h⟩
theorem pe_str {x j pos}:PE X (.Constant (.str x) j pos) (tC (.str x)):=fun _ _ _ H _ I h=>Calls.Constant_str ⟨.str x,H,I.tok _,⟨_,rfl⟩,h⟩
def Gl (X:Cx) (x:Str):Prop:=X.env.kindOf x=some .globalImplicit
theorem ld_glob {E:Value→Shared→Prop} {pins:List (Addr×Obj)} {s:Shared} {σ:St} {H:Hp} {x:Str} {u:Value} {pos:Pos} {Q:Value→Shared→Prop} (I:Inv X pins σ H s) (hg:Gl X x) (hm:X.mg x=some u) (h:Q u s)
  (hd:(x == ("__debug__" : Str))=false:=by decide):wpAny (model X.prog X.w) X.A (eval (.Name x pos) X.env) Q E s :=
 Calls.Name_function_global I.ok.kind hg (Calls.loadGlobal_global (by rw [I.ok.glob]; exact I.mod.glob.keeps I.bk) hm h) hd
theorem ld_blt {E:Value→Shared→Prop} {pins:List (Addr×Obj)} {s:Shared} {σ:St} {H:Hp} {x:Str} {u:Value} {pos:Pos} {Q:Value→Shared→Prop} (I:Inv X pins σ H s) (hg:Gl X x) (hm:X.mg x=none) (hv:bootBuiltins x=some u) (h:Q u s)
  (hn:x≠"__name__":=by decide) (hd:(x == ("__debug__" : Str))=false:=by decide):wpAny (model X.prog X.w) X.A (eval (.Name x pos) X.env) Q E s:=by
 obtain ⟨mb,h1,h2⟩:=I.mod.blt
 exact Calls.Name_function_global I.ok.kind hg (Calls.loadGlobal_builtin (by rw [I.ok.glob]; exact I.mod.glob.keeps I.bk) hm (by rw [I.ok.blt]; exact h1.keeps I.bk) ((h2 x hn).trans hv) h) hd
theorem pe_glob {x:Str} {v:V} {u:Value} {pos:Pos} (hg:Gl X x) (hm:X.mg x=some u) (r:RelV v u) (hd:(x == ("__debug__" : Str))=false:=by decide):PE X (.Name x pos) (tC v) :=
 fun _ _ _ H _ I h=>ld_glob I hg hm ⟨v,H,I,r,h⟩ hd
theorem pe_bltn {x:Str} {v:V} {u:Value} {pos:Pos} (hg:Gl X x) (hm:X.mg x=none) (hv:bootBuiltins x=some u) (r:RelV v u) (hn:x≠"__name__":=by decide) (hd:(x == ("__debug__" : Str))=false:=by decide):PE X (.Name x pos) (tC v) :=
 fun _ _ _ H _ I h=>ld_blt I hg hm hv ⟨v,H,I,r,h⟩ hn hd
variable {a b:Expr} {ta tb:TE} {pos:Pos}
def PC (X:Cx) (op:CmpOp) (a b:Expr) (t:TE):Prop :=
 ∀ (pins:List (Addr×Obj)) (s:Shared) (σ:St) (H:Hp) (Q:VK),Inv X pins σ H s→t σ H Q →
  wpAny (model X.prog X.w) X.A (eval a X.env) (fun v s₁=>wpAny (model X.prog X.w) X.A (eval b X.env) (fun u s₂=>wpAny (model X.prog X.w) X.A (compareOp op v u) (EP X pins σ Q) X.xe s₂) X.xe s₁) X.xe s
theorem nobehind (b:Expr) {op:CmpOp} (h:op≠.In) (h2:op≠.NotIn):behindInMarks op b=false:=by
 have e1:(op == CmpOp.In)=false:=by cases op <;> first | rfl | exact absurd rfl h
 have e2:(op == CmpOp.NotIn)=false:=by cases op <;> first | rfl | exact absurd rfl h2
 cases b <;> simp [behindInMarks,e1,e2]
def tB (t:TE):TT:=fun σ H Q=>t σ H fun x H1=>∃ c,x = .bl c∧Q c H1
theorem pt_cmp {op:CmpOp} {t:TE} (h:PC X op a b t) (h1:behindInMarks op b=false:=by first | exact nobehind _ (by decide) (by decide) | rfl):PT X (.Compare a [op] [b] pos) (tB t):=by
 intro pins s σ H Q I hw
 refine wpAny_isTrue_Compare1 (thn (h pins s σ H _ I hw) fun v s1 h1=>thn h1 fun u s2 h2=>thn h2 fun c s3 ⟨x,H1,I1,r1,q1⟩=>?_) h1
 obtain ⟨d,rfl,q⟩:=q1
 cases r1
 exact wpAny_truthy_bool ⟨H1,I1,q⟩
theorem pt_val {e:Expr} {t:TE} (h:PE X e t) (he:∀ whole,isTrue e X.env whole=(do let v ← whole; standAt e.pos; holding [v] (truthy v)):=by intro _; rfl):PT X e (tB t):=by
 intro pins s σ H Q I hw
 refine isTrue_plain (thn (h pins s σ H _ I hw) fun v s1 ⟨x,H1,I1,r1,q1⟩=>?_) (he _)
 obtain ⟨d,rfl,q⟩:=q1
 cases r1
 exact wpAny_truthy_bool ⟨H1,I1,q⟩
variable {tA tB':TT} {rest:List Expr}
def tOr (t u:TT):TT:=fun σ H Q=>t σ H fun c H1=>if c=true then Q true H1 else u σ H1 Q
def tNot (t:TT):TT:=fun σ H Q=>t σ H fun c H1=>Q (!c) H1
theorem pw_or1 (ha:PT X a tA):PW X (.BoolOp .Or [a] pos) tA:=by
 intro wh pins s σ H Q I h
 refine isTrue_or (thn (ha pins s σ H Q I h) fun c s1 e=>?_)
 cases c with
 | false=>exact isTrue_or_nil e
 | true=>exact e
theorem pw_or (ha:PT X a tA) (hb:PW X (.BoolOp .Or (b :: rest) pos) tB'):PW X (.BoolOp .Or (a :: b :: rest) pos) (tOr tA tB'):=by
 intro wh pins s σ H Q I h
 refine isTrue_or (thn (ha pins s σ H _ I h) fun c s1 ⟨H1,I1,q1⟩=>?_)
 cases c with
 | true=>exact ⟨H1,I1,q1⟩
 | false=>exact hb wh pins s1 σ H1 Q I1 q1
theorem pt_not (ha:PT X a tA):PT X (.UnaryOp .Not a pos) (tNot tA):=by
 intro pins s σ H Q I h
 exact isTrue_not (ha pins s σ H (fun c H1=>Q (!c) H1) I h)
def tAndV (ta tb:TE):TE:=fun σ H Q=>ta σ H fun x H1=>∃ c,x = .bl c∧if c=true then tb σ H1 Q else Q (.bl false) H1
def tNotV (ta:TE):TE:=fun σ H Q=>ta σ H fun x H1=>∃ c,x = .bl c∧Q (.bl (!c)) H1
theorem pe_one {op} {t:TE} (h:PE X a t):PE X (.BoolOp op [a] pos) t:=fun pins s σ H Q I hw=>BoolOp_one (h pins s σ H Q I hw)
theorem pe_and (ha:PE X a ta) (hb:PE X (.BoolOp .And (b :: rest) pos) tb):PE X (.BoolOp .And (a :: b :: rest) pos) (tAndV ta tb):=by
 intro pins s σ H Q I h
 refine BoolOp_and (thn (ha pins s σ H _ I h) fun v s1 ⟨x,H1,I1,r1,q1⟩=>?_)
 obtain ⟨c,rfl,q1⟩:=q1
 cases r1
 refine wpAny_truthy_bool ?_
 cases c with
 | true=>exact hb pins s1 σ H1 Q I1 q1
 | false=>exact ⟨.bl false,H1,I1,rfl,q1⟩
theorem pe_not (ha:PE X a ta):PE X (.UnaryOp .Not a pos) (tNotV ta):=by
 intro pins s σ H Q I h
 refine UnaryOp_ (thn (ha pins s σ H _ I h) fun v s1 ⟨x,H1,I1,r1,q1⟩=>?_)
 obtain ⟨c,rfl,q1⟩:=q1
 cases r1
 exact not_of (wpAny_truthy_bool ⟨.bl (!c),H1,I1,rfl,q1⟩)
end
open PySem PySem.Spec PyProof.Rows
def SqL (K:PySem.W.Frag) (H:Hp) (a:Addr) (xs:List V):Prop :=
 Rd H a (.lst xs) ∨
  ∃ (o:Obj) (its:Array Value) (n:Nat),K.lookup a=some o∧o.cls = .type "list"∧o.dict=none∧o.data = .seq its n∧its.size≤sizeLine∧Vals xs its.toList
def SqT (K:PySem.W.Frag) (H:Hp) (a:Addr) (xs:List V):Prop :=
 Rd H a (.tup xs) ∨
  ∃ (o:Obj) (its:Array Value) (n:Nat),K.lookup a=some o∧o.cls = .type "tuple"∧o.data = .seq its n∧its.size≤sizeLine∧Vals xs its.toList
def absV:Value→Option V
 | .none=>some .non
 | .bool b=>some (.bl b)
 | .int i _=>some (.int i)
 | .str x _=>some (.str x)
 | .bytes b _=>some (.byt b)
 | .float b _=>some (.flt b)
 | .ref a=>some (.ref a)
 | .type n=>some (.ty n)
 | _=>none
theorem RelV.abs {x:V} {u:Value} (r:RelV x u):absV u=some x:=by
 cases x with
 | non=>cases r; rfl
 | bl _=>cases r; rfl
 | int _=>obtain ⟨t,rfl⟩:=r; rfl
 | str _=>obtain ⟨t,rfl⟩:=r; rfl
 | byt _=>obtain ⟨t,rfl⟩:=r; rfl
 | flt _=>obtain ⟨t,rfl⟩:=r; rfl
 | ref _=>cases r; rfl
 | ty _=>cases r; rfl
theorem RelV.inj {x y:V} {u:Value} (r:RelV x u) (q:RelV y u):x=y:=Option.some.inj (r.abs.symm.trans q.abs)
theorem Vals.inj:∀ {xs ys:List V} {us:List Value},Vals xs us→Vals ys us→xs=ys
 | _,_,_,.nil,.nil=>rfl
 | _,_,_,.cons r t,.cons r' t'=>by rw [r.inj r',Vals.inj t t']
section
variable {X:Cx} {pins:List (Addr×Obj)} {σ:St} {H:Hp} {s:Shared} {a:Addr} {xs ys:List V}
theorem SqL.of {K:PySem.W.Frag} (h:H a=some (.lst xs)):SqL K H a xs:=.inl (.inl h)
theorem SqT.of {K:PySem.W.Frag} (h:H a=some (.tup xs)):SqT K H a xs:=.inl (.inl h)
theorem Inv.list (I:Inv X pins σ H s) (h:SqL X.K H a xs):∃ its:List Value,Vals xs its∧PlainL s.heap a its.toArray∧xs.length≤sizeLine:=by
 rcases h with h | ⟨o,its,n,hk,hc,hd,hs,hz,r⟩
 ·obtain ⟨z,its,n,r,e⟩:=h.ok I.hok
  exact ⟨its,r,⟨_,n,e,rfl,rfl,rfl⟩,z⟩
 ·refine ⟨its.toList,r,⟨o,n,I.kIn a o hk,hc,hd,by simpa using hs⟩,?_⟩
  have e:=r.length
  simp only [Array.length_toList] at e
  omega
theorem Inv.tuple (I:Inv X pins σ H s) (h:SqT X.K H a xs):∃ its:List Value,Vals xs its∧IsTup s.heap a its.toArray∧xs.length≤sizeLine:=by
 rcases h with h | ⟨o,its,n,hk,hc,hs,hz,r⟩
 ·obtain ⟨z,its,r,p⟩:=h.ok I.hok
  exact ⟨its,r,p.tup,z⟩
 ·refine ⟨its.toList,r,⟨o,I.kIn a o hk,hc,n,by simpa using hs⟩,?_⟩
  have e:=r.length
  simp only [Array.length_toList] at e
  omega
theorem Inv.list_inj (I:Inv X pins σ H s) (h:SqL X.K H a xs) (h':SqL X.K H a ys):xs=ys:=by
 obtain ⟨its,r,⟨o,n,e,_,_,d⟩,_⟩:=I.list h
 obtain ⟨its',r',⟨o',n',e',_,_,d'⟩,_⟩:=I.list h'
 rw [e] at e'; cases e'
 rw [d] at d'
 injection d' with d1 _
 have:its=its':=by simpa using congrArg Array.toList d1
 subst this
 exact r.inj r'
theorem Inv.tuple_inj (I:Inv X pins σ H s) (h:SqT X.K H a xs) (h':SqT X.K H a ys):xs=ys:=by
 obtain ⟨its,r,⟨o,e,_,n,d⟩,_⟩:=I.tuple h
 obtain ⟨its',r',⟨o',e',_,n',d'⟩,_⟩:=I.tuple h'
 rw [e] at e'; cases e'
 rw [d] at d'
 injection d' with d1 _
 have:its=its':=by simpa using congrArg Array.toList d1
 subst this
 exact r.inj r'
end
abbrev Cx.wish (X:Cx) (E:Value→Shared→Prop):Cx:={ X with xe:=E }
abbrev Cx.nox (X:Cx):Cx:=X.wish fun _ _=>False
theorem Cx.Ok.wish {X:Cx} (ok:X.Ok) (E:Value→Shared→Prop):(X.wish E).Ok :=
 ⟨ok.mod,ok.kind,ok.glob,ok.blt,ok.above,ok.inj,ok.has,ok.cab,ok.hd,ok.frames,ok.stk,ok.exf,ok.bs,ok.bsz,ok.noex,ok.exfs,ok.funs,ok.frf⟩
theorem Cx.Ok.unwish {X:Cx} {E:Value→Shared→Prop} (ok:(X.wish E).Ok):X.Ok :=
 ⟨ok.mod,ok.kind,ok.glob,ok.blt,ok.above,ok.inj,ok.has,ok.cab,ok.hd,ok.frames,ok.stk,ok.exf,ok.bs,ok.bsz,ok.noex,ok.exfs,ok.funs,ok.frf⟩
section
variable {X:Cx} {pins:List (Addr×Obj)} {σ:St} {H:Hp} {s:Shared} {E:Value→Shared→Prop}
theorem Inv.wish (I:Inv X pins σ H s) (E:Value→Shared→Prop):Inv (X.wish E) pins σ H s:=⟨I.ok.wish E,I.os,I.bare,I.base,I.loc,I.cell,I.free,I.freeC,I.pin,I.hok,I.len⟩
theorem Inv.unwish (I:Inv (X.wish E) pins σ H s):Inv X pins σ H s:=⟨I.ok.unwish,I.os,I.bare,I.base,I.loc,I.cell,I.free,I.freeC,I.pin,I.hok,I.len⟩
theorem SP.unwish {D:Ends} {f:Flow} {s':Shared} (h:SP (X.wish E) pins D f s'):SP X pins D f s':=by
 cases f with
 | next=>obtain ⟨σ',H',I,q⟩:=h; exact ⟨σ',H',I.unwish,q⟩
 | brk=>obtain ⟨σ',H',I,q⟩:=h; exact ⟨σ',H',I.unwish,q⟩
 | cont=>obtain ⟨σ',H',I,q⟩:=h; exact ⟨σ',H',I.unwish,q⟩
 | ret u=>obtain ⟨v,σ',H',I,r,q⟩:=h; exact ⟨v,σ',H',I.unwish,r,q⟩
theorem PE.nox {e:Expr} {t:TE} (h:PE X.nox e t):PE X e t:=fun pins s σ H Q I hw =>
 wpAny_mono (h pins s σ H Q (I.wish _) hw) (fun _ _ ⟨v,H',I',r,q⟩=>⟨v,H',I'.unwish,r,q⟩) fun _ _ z=>False.elim z
theorem PT.nox {e:Expr} {t:TT} (h:PT X.nox e t):PT X e t:=fun pins s σ H Q I hw =>
 wpAny_mono (h pins s σ H Q (I.wish _) hw) (fun _ _ ⟨H',I',q⟩=>⟨H',I'.unwish,q⟩) fun _ _ z=>False.elim z
theorem PSs.nox {st:List Stmt} {t:TS} (h:PSs X.nox st t):PSs X st t:=fun pins s σ H D I hw =>
 wpAny_mono (h pins s σ H D (I.wish _) hw) (fun _ _ q=>q.unwish) fun _ _ z=>False.elim z
end
section
variable {X:Cx} {st:Stmt} {rest:List Stmt} {t u:TS} {e:Expr} {te:TE} {pos:Pos}
def tNext:TS:=fun D σ H=>D.nx σ H
def tSeq (t u:TS):TS:=fun D σ H=>t { D with nx:=u D } σ H
theorem pss_nil:PSs X [] tNext:=fun _ _ σ H _ I h=>wpAny_execs_nil ⟨σ,H,I,h⟩
theorem pss_cons (h1:PS X st t) (h2:PSs X rest u):PSs X (st :: rest) (tSeq t u):=by
 intro pins s σ H D I h
 refine wpAny_execs_cons (thn (h1 pins s σ H { D with nx:=u D } I h) fun f s1 q=>?_)
 cases f with
 | next =>
  obtain ⟨σ',H',I',q⟩:=q
  exact h2 pins s1 σ' H' D I' q
 | ret v=>exact q
 | brk=>exact q
 | cont=>exact q
theorem pss_one (h1:PS X st t):PSs X [st] t:=by
 intro pins s σ H D I h
 refine wpAny_execs_cons (thn (h1 pins s σ H D I h) fun f s1 q=>?_)
 cases f with
 | next=>exact wpAny_execs_nil q
 | ret v=>exact q
 | brk=>exact q
 | cont=>exact q
theorem Inv.quiet {pins:List (Addr×Obj)} {σ:St} {H:Hp} {s:Shared} (I:Inv X pins σ H s):interactive X.env=false:=by simp [interactive,I.ok.kind]
def tDrop (te:TE):TS:=fun D σ H=>te σ H fun _ H1=>D.nx σ H1
theorem ps_expr (he:PE X e te) (hs:swapsWith e none pos.line X.env=pure false:=by rfl):PS X (.Expr e pos) (tDrop te):=by
 intro pins s σ H D I h
 exact wpAny_Expr_any (thn (he pins s σ H _ I h) fun v s1 ⟨x,H1,I1,r1,q1⟩=>⟨σ,H1,I1,q1⟩) I.quiet hs
def tRet (te:TE):TS:=fun D σ H=>te σ H D.rt
theorem ps_ret (he:PE X e te):PS X (.Return (some e) pos) (tRet te):=by
 intro pins s σ H D I h
 exact wpAny_Return_some (thn (he pins s σ H _ I h) fun v s1 ⟨x,H1,I1,r1,q1⟩=>⟨x,σ,H1,I1,r1,q1⟩)
def tIfS (c:TT) (t u:TS):TS:=fun D σ H=>c σ H fun b H1=>if b=true then t D σ H1 else u D σ H1
theorem ps_if {c:Expr} {a b:List Stmt} {tc:TT} (hc:PT X c tc) (ha:PSs X a t) (hb:PSs X b u):PS X (.If c a b pos) (tIfS tc t u):=by
 intro pins s σ H D I h
 refine wpAny_If (thn (hc pins s σ H _ I h) fun d s1 ⟨H1,I1,q1⟩=>?_)
 cases d with
 | true=>exact ha pins s1 σ H1 D I1 q1
 | false=>exact hb pins s1 σ H1 D I1 q1
end
abbrev TG:=V→St→Hp→(St→Hp→Prop)→Prop
abbrev TGs:=List V→St→Hp→(St→Hp→Prop)→Prop
def PG (X:Cx) (target:Expr) (t:TG):Prop :=
 ∀ (pins:List (Addr×Obj)) (s:Shared) (σ:St) (H:Hp) (v:V) (u:Value) (Q:St→Hp→Prop),Inv X pins σ H s→RelV v u→t v σ H Q →
  wpAny (model X.prog X.w) X.A (assign target X.env u) (fun _ s'=>∃ σ' H',Inv X pins σ' H' s'∧Q σ' H') X.xe s
def PGs (X:Cx) (ts:List Expr) (t:TGs):Prop :=
 ∀ (pins:List (Addr×Obj)) (s:Shared) (σ:St) (H:Hp) (vs:List V) (us:List Value) (Q:St→Hp→Prop),Inv X pins σ H s→Vals vs us→t vs σ H Q →
  wpAny (model X.prog X.w) X.A (assignInOrder ((assignEach ts X.env).map (·.2)) us) (fun _ s'=>∃ σ' H',Inv X pins σ' H' s'∧Q σ' H') X.xe s
abbrev TSet:=V→V→V→Hp→(Hp→Prop)→Prop
def PSet (X:Cx) (t:TSet):Prop :=
 ∀ (pins:List (Addr×Obj)) (s:Shared) (σ:St) (H:Hp) (o i v:V) (ov iv u:Value) (Q:Hp→Prop),Inv X pins σ H s→RelV o ov→RelV i iv→RelV v u→t o i v H Q →
  wpAny (model X.prog X.w) X.A (setItem ov iv u) (fun _ s'=>∃ H',Inv X pins σ H' s'∧Q H') X.xe s
section
variable {X:Cx} {pos:Pos}
def gName (i:Nat):TG:=fun v σ H Q=>Q (σ.set i (some v)) H
theorem pg_name {i:Nat} {x:Str} (hN:X.N.Nodup) (hi:X.N[i]? = some x) (hx:Loc X.env.scope x) (hf:X.fn x=true∨X.env.scope.names.lookup x=some .local:=by first | exact .inl rfl | exact .inr rfl | assumption):PG X (.Name x pos) (gName i):=by
 intro pins s σ H v u Q I r h
 exact wpAny_assign_Name (store_ok I hN hi hx r (fun s' I'=>⟨_,H,I',h⟩) hf)
def gNil:TGs:=fun vs σ H Q=>vs=[]∧Q σ H
def gCons (t:TG) (u:TGs):TGs:=fun vs σ H Q=>∃ v r,vs=v :: r∧t v σ H fun σ' H'=>u r σ' H' Q
theorem pgs_nil:PGs X [] gNil:=by
 intro pins s σ H vs us Q I r h
 obtain ⟨e,h⟩:=h
 subst e
 cases r
 exact assignInOrder_nil ⟨σ,H,I,h⟩
theorem pgs_cons {e:Expr} {es:List Expr} {t:TG} {u:TGs} (h1:PG X e t) (h2:PGs X es u)
  (hs:(assignEach (e :: es) X.env).map (·.2)=assign e X.env :: (assignEach es X.env).map (·.2):=by rfl):PGs X (e :: es) (gCons t u):=by
 intro pins s σ H vs us Q I r h
 obtain ⟨v,vr,e1,h⟩:=h
 subst e1
 cases r with
 | cons r rr =>
  rw [hs]
  refine assignInOrder_cons (thn (h1 pins s σ H _ _ _ I r h) fun _ s1 ⟨σ1,H1,I1,q1⟩=>?_)
  exact h2 pins s1 σ1 H1 _ _ Q I1 rr q1
def gTup (K:PySem.W.Frag) (n:Nat) (t:TGs):TG:=fun v σ H Q=>∃ a xs,v = .ref a∧SqT K H a xs∧xs.length=n∧t xs σ H Q
theorem pg_tup {es:List Expr} {k:Nat} {t:TGs} {n:Nat} (hc:X.calm=true) (h:PGs X es t)
  (hn:(assignEach es X.env).length=n:=by rfl) (hst:(assignEach es X.env).findIdx? (·.1)=none:=by rfl):PG X (.Tuple es k pos) (gTup X.K n t):=by
 intro pins s σ H v u Q I r hw
 obtain ⟨a,xs,e1,hq,hl,hw⟩:=hw
 subst e1
 cases r
 obtain ⟨its,rv,ht,hz⟩:=I.tuple hq
 refine assign_Tuple_tuple (I.ok.hd hc) ht (by simp [hn,← hl,rv.length]) hst fun h' hx=>?_
 have I1:Inv X pins σ H { s with heap:=h' }:=I.kept (t':=s.toks) fun b o e=>hx b o (Nat.ne_of_lt (Heap.lt_size e)) e
 exact h pins _ σ H xs _ Q I1 (by simpa using rv) hw
def gSub (to ti:TE) (t:TSet):TG:=fun v σ H Q=>to σ H fun o H1=>ti σ H1 fun i H2=>t o i v H2 fun H3=>Q σ H3
theorem pg_sub {o i:Expr} {to ti:TE} {t:TSet} (ho:PE X o to) (hi:PE X i ti) (hs:PSet X t)
  (ha:∀ v,assign (.Subscript o i pos) X.env v=(do
   let ov ← holding [v] (eval o X.env)
   let iv ← holding [v,ov] (eval i X.env)
   standAt pos
   holding [v,ov,iv] (setItem ov iv v)
   release [v,ov,iv] []):=by intro _; rfl):PG X (.Subscript o i pos) (gSub to ti t):=by
 intro pins s σ H v u Q I r h
 rw [ha]
 refine wpAny_bind (wpAny_holding (thn (ho pins s σ H _ I h) fun ov s1 ⟨x,H1,I1,r1,q1⟩=>?_))
 refine wpAny_bind (wpAny_holding (thn (hi pins s1 σ H1 _ I1 q1) fun iv s2 ⟨y,H2,I2,r2,q2⟩=>?_))
 refine wpAny_bind (wpAny_standAt (wpAny_bind (wpAny_holding (thn (hs pins s2 σ H2 x y v ov iv u _ I2 r1 r2 r q2) fun _ s3 ⟨H3,I3,q3⟩=>?_))))
 exact wpAny_release ⟨σ,H3,I3,q3⟩
def tAsg (te:TE) (g:TG):TS:=fun D σ H=>te σ H fun x H1=>g x σ H1 D.nx
theorem ps_asg {tg e:Expr} {te:TE} {g:TG} (he:PE X e te) (hg:PG X tg g) (hs:swapsWithSole [tg] e pos.line X.env=pure false:=by rfl) (hw:swappedStores [tg] e X.env=pure none:=by rfl)
  (h1:(assignEach [tg] X.env).map (·.2)=[assign tg X.env]:=by rfl):PS X (.Assign [tg] e pos) (tAsg te g):=by
 intro pins s σ H D I h
 refine wpAny_Assign_stores (thn (he pins s σ H _ I h) fun v s1 ⟨x,H1,I1,r1,q1⟩=>?_) hs hw
 rw [h1]
 exact thn (hg pins s1 σ H1 x v _ I1 r1 q1) fun _ s2 q=>q
theorem ps_set {i:Nat} {x:Str} {e:Expr} {te:TE} {pos':Pos} (hN:X.N.Nodup) (hi:X.N[i]? = some x) (hx:Loc X.env.scope x) (he:PE X e te) (hs:swapsWith e (some (.Name x pos')) pos.line X.env=pure false:=by rfl) (hf:X.fn x=true∨X.env.scope.names.lookup x=some .local:=by first | exact .inl rfl | exact .inr rfl | assumption) :
  PS X (.Assign [.Name x pos'] e pos) (tAsg te (gName i)):=by
 intro pins s σ H D I h
 refine wpAny_Assign_Name (thn (he pins s σ H _ I h) fun v s1 ⟨y,H1,I1,r1,q1⟩=>?_) hs
 exact store_ok I1 hN hi hx r1 (fun s2 I2=>⟨_,H1,I2,q1⟩) hf
end
section
variable {X:Cx} {pos:Pos}
end
structure It where
 go:Nat→Hp→Prop
 yld:Nat→Hp→V→Hp→Prop
 stop:Nat→Hp→Prop
def FpOk (X:Cx) (pins:List (Addr×Obj)) (H:Hp) (b:Addr):Prop :=
 H b=none∧b≠X.env.locals∧b ∉ X.fs∧(b ∈ X.ex∨X.s₀.heap.objs.size≤b)∧(∀ x c,X.env.cells.lookup x=some c→c≠b)∧∀ p ∈ X.pn ++ pins,p.1≠b
theorem Inv.fpOk {X:Cx} {pins:List (Addr×Obj)} {σ:St} {H H':Hp} {s:Shared} {b:Addr} (I:Inv X pins σ H s) (hb:s.heap.objs.size≤b) (hn:H' b=none):FpOk X pins H' b:=by
 refine ⟨hn,Nat.ne_of_gt (Nat.lt_of_lt_of_le I.lt hb),I.nofs hb,.inr (Nat.le_trans I.sz hb),fun x c e z=>?_,fun p hp z=>?_⟩
 ·obtain ⟨v,q⟩:=I.cell x c e
  exact absurd (Nat.lt_of_lt_of_le q.lt (by rw [z]; exact hb)) (Nat.lt_irrefl _)
 ·exact absurd (Nat.lt_of_lt_of_le (Heap.lt_size (I.pin p hp).1) (by rw [z]; exact hb)) (Nat.lt_irrefl _)
structure Turn (P:Program) (w:World) (K:PySem.W.Frag) (tg:Expr) (J:It) (fp:List Addr) (it:Addr) (tn:Nat→Heap→Prop):Prop where
 mem:it ∈ fp
 obj:∀ i h,tn i h→∀ b ∈ fp,∃ o,h.get? b=some o∧∀ v,o.data≠.cell v
 keep:∀ i h h',tn i h→(∀ b ∈ fp,∀ o,h.get? b=some o→h'.get? b=some o)→tn i h'
 item:∀ (X:Cx),X.prog=P→X.w=w→X.K=K→X.calm=true→∀ (i:Nat) (pins:List (Addr×Obj)) (s:Shared) (σ:St) (H:Hp) (E:Value→Shared→Prop),Inv X pins σ H s→(∀ b ∈ fp,FpOk X pins H b)→tn i s.heap→J.go i H →
  wpAny (model P w) X.A (pyNext (.ref it)) (fun r s1=>∃ u,r=some u ∧
   wpAny (model P w) X.A (letOwnedTupleGo tg (.ref it) u) (fun _ s2=>∃ x H',Inv X pins σ H' s2∧RelV x u∧J.yld i H x H'∧tn (i + 1) s2.heap∧∀ b ∈ fp,H' b=none) E s1) E s
 done:∀ (X:Cx),X.prog=P→X.w=w→X.K=K→X.calm=true→∀ (i:Nat) (pins:List (Addr×Obj)) (s:Shared) (σ:St) (H:Hp) (E:Value→Shared→Prop),Inv X pins σ H s→(∀ b ∈ fp,FpOk X pins H b)→tn i s.heap→J.stop i H →
  wpAny (model P w) X.A (pyNext (.ref it)) (fun r s1=>r=none∧Inv X pins σ H s1) E s
 self:∀ (A:Around) (i:Nat) (s:Shared) (Q:Value→Shared→Prop) (E:Value→Shared→Prop),tn i s.heap→Q (.ref it) s→wpAny (model P w) A (pyIter (.ref it)) Q E s
abbrev TI:=St→Hp→(It→Hp→Prop)→Prop
def PIE (X:Cx) (pins:List (Addr×Obj)) (σ:St) (tg:Expr) (R:It→Hp→Prop) (itv:Value) (s2:Shared):Prop :=
 ∃ (it:Addr) (fp:List Addr) (tn:Nat→Heap→Prop) (J:It) (H':Hp),itv = .ref it∧Inv X pins σ H' s2∧Turn X.prog X.w X.K tg J fp it tn∧tn 0 s2.heap∧(∀ b ∈ fp,FpOk X pins H' b)∧R J H'
def PI (X:Cx) (tg iter:Expr) (wi:TI):Prop :=
 ∀ (pins:List (Addr×Obj)) (s:Shared) (σ:St) (H:Hp) (R:It→Hp→Prop),Inv X pins σ H s→wi σ H R →
  wpAny (model X.prog X.w) X.A (eval iter X.env) (fun v s1=>wpAny (model X.prog X.w) X.A (pyIter v) (PIE X pins σ tg R) X.xe s1) X.xe s
theorem go_of {M:Model} {A:Around} {E:Value→Shared→Prop} {s:Shared} {tg:Expr} {it:Addr} {u:Value} {o:Obj} {n:String} {vs:Array Value} {Q:Unit→Shared→Prop} (ho:s.heap.get? it=some o) (hc:o.cls = .type n) (hd:o.data = .fields vs)
  (hn:["enumerate","zip","dict_itemiterator","dict_reverseitemiterator","odict_iterator","itertools.zip_longest","itertools.pairwise"].contains n=false) (hQ:Q () s):wpAny M A (letOwnedTupleGo tg (.ref it) u) Q E s:=by
 unfold letOwnedTupleGo
 cases tg <;> first
  | exact wpAny_pure hQ
  | (cases u <;> first
    | exact wpAny_pure hQ
    | (refine wpAny_bind (wpAny_load ho ?_); rw [hc,hd]; show wpAny M A (if (["enumerate","zip","dict_itemiterator","dict_reverseitemiterator","odict_iterator","itertools.zip_longest","itertools.pairwise"].contains n && vs[0]? == some (rawInt _))=true then _ else _) Q E s; rw [if_neg (by intro h; rw [hn,Bool.false_and] at h; cases h)]; exact wpAny_pure hQ))
def Itl (K:PySem.W.Frag) (a:Addr):It :=
 ⟨fun i H=>∃ xs x,SqL K H a xs∧xs[i]? = some x,fun i H x H'=>H'=H∧∀ xs,SqL K H a xs→xs[i]? = some x,fun i H=>∃ xs,SqL K H a xs∧xs.length≤i⟩
def Itt (K:PySem.W.Frag) (a:Addr):It :=
 ⟨fun i H=>∃ xs x,SqT K H a xs∧xs[i]? = some x,fun i H x H'=>H'=H∧∀ xs,SqT K H a xs→xs[i]? = some x,fun i H=>∃ xs,SqT K H a xs∧xs.length≤i⟩
def Itr (lo:Int) (n:Nat):It:=⟨fun i _=>i < n,fun i H x H'=>H'=H∧x = .int (lo + i),fun i _=>n≤i⟩
theorem turn_list {P:Program} {w:World} {K:PySem.W.Frag} {tg:Expr} (a it:Addr):Turn P w K tg (Itl K a) [it] it (fun i h=>h.IsListIter it a i) where
 mem:=by simp
 obj:=fun i h st b hb=>by
  have e:b=it:=by simpa using hb
  subst e
  obtain ⟨o,e,c,d⟩:=st
  exact ⟨o,e,fun v z=>by rw [d] at z; cases z⟩
 keep:=fun i h h' st k=>st.at fun o e=>k it (by simp) o e
 item:=by
  intro X hP hw hK hc i pins s σ H E I hf st hg
  subst hP hw hK
  obtain ⟨xs,x,hq,hx⟩:=hg
  obtain ⟨its,rv,p,hz⟩:=I.list hq
  obtain ⟨u,hu,ru⟩:=rv.get hx
  obtain ⟨f0,f1,f2,f3,f4,f5⟩:=hf it (by simp)
  refine wpAny_pyNext_list_item st p.isList (x:=u) (by simpa using hu) fun h' st' sb=>?_
  have I1:Inv X pins σ H { s with heap:=h' }:=I.turned (t':=s.toks) (fun b o hb e=>(sb.2 b hb).trans e) f0 f1 f3 f4 f5
  obtain ⟨o,e,c,d⟩:=id st'
  exact ⟨u,rfl,go_of (s:={ s with heap:=h' }) e c d (by decide) ⟨x,H,I1,ru,⟨rfl,fun ys hy=>by rw [I.list_inj hy hq]; exact hx⟩,st',fun b hb=>(hf b hb).1⟩⟩
 done:=by
  intro X hP hw hK hc i pins s σ H E I hf st hg
  subst hP hw hK
  obtain ⟨xs,hq,hx⟩:=hg
  obtain ⟨its,rv,p,hz⟩:=I.list hq
  obtain ⟨f0,f1,f2,f3,f4,f5⟩:=hf it (by simp)
  have hl:=rv.length
  exact wpAny_pyNext_list_end (I.ok.hd hc) st p.isList (by simp; omega) fun h' eb=>⟨rfl,I.turned (t':=s.toks) (fun b o hb e=>eb b o hb e) f0 f1 f3 f4 f5⟩
 self:=fun _ _ _ _ _ st h=>wpAny_pyIter_listiter st h
theorem turn_tuple {P:Program} {w:World} {K:PySem.W.Frag} {tg:Expr} (a it:Addr):Turn P w K tg (Itt K a) [it] it (fun i h=>h.IsTupleIter it a i) where
 mem:=by simp
 obj:=fun i h st b hb=>by
  have e:b=it:=by simpa using hb
  subst e
  obtain ⟨o,e,c,d⟩:=st
  exact ⟨o,e,fun v z=>by rw [d] at z; cases z⟩
 keep:=fun i h h' st k=>st.at fun o e=>k it (by simp) o e
 item:=by
  intro X hP hw hK hc i pins s σ H E I hf st hg
  subst hP hw hK
  obtain ⟨xs,x,hq,hx⟩:=hg
  obtain ⟨its,rv,p,hz⟩:=I.tuple hq
  obtain ⟨u,hu,ru⟩:=rv.get hx
  obtain ⟨f0,f1,f2,f3,f4,f5⟩:=hf it (by simp)
  refine wpAny_pyNext_tuple_item st (show s.heap.IsTuple a its.toArray from p) (x:=u) (by simpa using hu) fun h' st' sb=>?_
  have I1:Inv X pins σ H { s with heap:=h' }:=I.turned (t':=s.toks) (fun b o hb e=>(sb.2 b hb).trans e) f0 f1 f3 f4 f5
  obtain ⟨o,e,c,d⟩:=id st'
  exact ⟨u,rfl,go_of (s:={ s with heap:=h' }) e c d (by decide) ⟨x,H,I1,ru,⟨rfl,fun ys hy=>by rw [I.tuple_inj hy hq]; exact hx⟩,st',fun b hb=>(hf b hb).1⟩⟩
 done:=by
  intro X hP hw hK hc i pins s σ H E I hf st hg
  subst hP hw hK
  obtain ⟨xs,hq,hx⟩:=hg
  obtain ⟨its,rv,p,hz⟩:=I.tuple hq
  obtain ⟨f0,f1,f2,f3,f4,f5⟩:=hf it (by simp)
  have hl:=rv.length
  exact wpAny_pyNext_tuple_end (I.ok.hd hc) st (show s.heap.IsTuple a its.toArray from p) (by simp; omega) fun h' eb=>⟨rfl,I.turned (t':=s.toks) (fun b o hb e=>eb b o hb e) f0 f1 f3 f4 f5⟩
 self:=fun _ _ _ _ _ st h=>wpAny_pyIter_tupleiter st h
theorem turn_range {P:Program} {w:World} {K:PySem.W.Frag} {tg:Expr} (it:Addr) (lo:Int) (n:Nat):Turn P w K tg (Itr lo n) [it] it (fun i h=>IsRangeIter h it (lo + (i:Nat) * 1) ((n:Int) - (i:Nat)) 1) where
 mem:=by simp
 obj:=fun i h st b hb=>by
  have e:b=it:=by simpa using hb
  subst e
  exact ⟨_,st,fun v z=>by
   have z':Data.fields _=Data.cell v:=z
   cases z'⟩
 keep:=fun i h h' st k=>k it (by simp) _ st
 item:=by
  intro X hP hw hK hc i pins s σ H E I hf st hg
  subst hP hw hK
  obtain ⟨f0,f1,f2,f3,f4,f5⟩:=hf it (by simp)
  have W:=Walks.range (prog:=X.prog) (w:=X.w) (I.ok.hd hc) it lo 1 n
  refine W.item i s _ _ hg st fun v h' tk hv st' kk=>?_
  obtain ⟨t,rfl⟩:=hv
  have I1:Inv X pins σ H { s with heap:=h',toks:=tk }:=I.turned (fun b o hb e=>kk b o (by simpa using hb) e) f0 f1 f3 f4 f5
  refine ⟨_,rfl,go_of (s:={ s with heap:=h',toks:=tk }) (n:="range_iterator") st' rfl rfl (by decide) ⟨.int (lo + i),H,I1,⟨t,?_⟩,⟨rfl,rfl⟩,st',fun b hb=>(hf b hb).1⟩⟩
  rw [Int.mul_one]
 done:=by
  intro X hP hw hK hc i pins s σ H E I hf st hg
  subst hP hw hK
  obtain ⟨f0,f1,f2,f3,f4,f5⟩:=hf it (by simp)
  exact wpAny_pyNext_range_end (I.ok.hd hc) st (by have:n≤i:=hg; omega) fun h' eb=>⟨rfl,I.turned (t':=s.toks) (fun b o hb e=>eb b o hb e) f0 f1 f3 f4 f5⟩
 self:=fun _ _ _ _ _ st h=>wpAny_pyIter_rangeiter st h
open PySem PySem.Spec PyProof.Rows
section
variable {X:Cx} {tg:Expr}
theorem range_it {pins:List (Addr×Obj)} {σ:St} {H:Hp} {s:Shared} {R:It→Hp→Prop} {E:Value→Shared→Prop} {lo hi:Int} {t u v:Tok} {tk:Nat} (I:Inv X pins σ H s) (h1 : -(2 ^ 62)≤lo) (h2:lo < 2 ^ 62) (h3 : -(2 ^ 62)≤hi) (h4:hi < 2 ^ 62)
  (q:R (Itr lo (hi - lo).toNat) H):wpAny (model X.prog X.w) X.A (pyIter (.ref s.heap.objs.size)) (PIE X pins σ tg R) E { s with heap:=s.heap.push { cls:=.type "range",data:=.fields #[.int lo t,.int hi u,.int 1 v] },toks:=tk }:=by
 refine wpAny_pyIter_range (IsRange.new ..) (small_one h1 h2 h3 h4) ?_
 have I1:Inv X pins σ H { s with heap:=s.heap.push { cls:=.type "range",data:=.fields #[.int lo t,.int hi u,.int 1 v] },toks:=tk }:=I.kept fun b o e=>Heap.get?_push_of_some _ e
 refine ⟨(s.heap.push { cls:=.type "range",data:=.fields #[.int lo t,.int hi u,.int 1 v] }).objs.size,[(s.heap.push { cls:=.type "range",data:=.fields #[.int lo t,.int hi u,.int 1 v] }).objs.size],_,_,H,rfl,
  I1.kept (t':=tk) fun b o e=>Heap.get?_push_of_some _ e,turn_range _ lo (hi - lo).toNat,?_,fun b hb=>?_,q⟩
 ·have e1:lo + ((0:Nat):Int) * 1=lo:=by simp
  have e2:(((hi - lo).toNat:Nat):Int) - ((0:Nat):Int)=Builtin.Range.rangeSize lo hi 1:=by rw [rangeSize_one]; split <;> omega
  show IsRangeIter _ _ (lo + ((0:Nat):Int) * 1) ((((hi - lo).toNat:Nat):Int) - ((0:Nat):Int)) 1
  rw [e1,e2]
  exact Heap.get?_push_size _ rfl
 ·have e:b=(s.heap.push { cls:=.type "range",data:=.fields #[.int lo t,.int hi u,.int 1 v] }).objs.size:=by simpa using hb
  subst e
  exact I1.fpOk (Nat.le_refl _) (I1.hok.fresh (Nat.le_refl _))
def iRng1 (ta:TA):TI:=fun σ H R=>ta σ H fun vs H1=>∃ j:Int,vs=[.int j]∧-(2 ^ 62)≤j∧j < 2 ^ 62∧R (Itr 0 j.toNat) H1
theorem pi_range1 {a:Expr} {ta:TA} {p pos:Pos} (hg:Gl X "range") (hm:X.mg "range" = none) (ha:PA X [a] ta) (hs:starEach [a] X.env=[(false,eval a X.env)]:=by rfl):PI X tg (.Call (.Name "range" p) [a] [] pos) (iRng1 ta):=by
 intro pins s σ H R I h
 refine Call_ (ld_blt I hg hm boot_range (PyProof.Rows.callWith_type1 (thn (ha pos pins s σ H _ I h) fun us s1 ⟨vs,H1,I1,r1,q1⟩=>?_) hs rfl))
 obtain ⟨j,e,q1,q2,q⟩:=q1
 subst e
 cases r1 with
 | cons r rr =>
  cases rr
  obtain ⟨t,rfl⟩:=r
  exact call_range_1 (range_it I1 (by omega) (by omega) q1 q2 (by simpa using q))
def tFor (wi:TI) (g:TG) (tb:TS):TS:=fun D σ H=>wi σ H fun J H1=>∃ W:Nat→Nat→St→Hp→Prop,(∃ m,W 0 m σ H1)∧∀ i m σ H,W i m σ H →
 (J.stop i H∧D.nx σ H)∨(J.go i H∧∃ N:St→Hp→Prop,(∀ σ' H',N σ' H'→∃ m',m' < m∧W (i + 1) m' σ' H')∧∀ x H',J.yld i H x H'→g x σ H' fun σ2 H2=>tb { D with nx:=N,ct:=N,bk:=D.nx } σ2 H2)
def pinsAt (fp:List Addr) (h:Heap):List (Addr×Obj):=fp.filterMap fun b=>(h.get? b).map fun o=>(b,o)
theorem mem_pinsAt {fp:List Addr} {h:Heap} {b:Addr} {o:Obj} (hb:b ∈ fp) (e:h.get? b=some o):(b,o) ∈ pinsAt fp h:=List.mem_filterMap.mpr ⟨b,hb,by rw [e]; rfl⟩
theorem of_pinsAt {fp:List Addr} {h:Heap} {p:Addr×Obj} (hp:p ∈ pinsAt fp h):p.1 ∈ fp∧h.get? p.1=some p.2:=by
 obtain ⟨b,hb,e⟩:=List.mem_filterMap.mp hp
 cases q:h.get? b with
 | none=>rw [q] at e; cases e
 | some o =>
  rw [q] at e
  have e':(b,o)=p:=Option.some.inj e
  subst e'
  exact ⟨hb,q⟩
theorem Inv.pinned {pins:List (Addr×Obj)} {σ:St} {H:Hp} {s:Shared} {fp:List Addr} (I:Inv X pins σ H s) (hf:∀ b ∈ fp,FpOk X pins H b) (ho:∀ b ∈ fp,∃ o,s.heap.get? b=some o∧∀ v,o.data≠.cell v):Inv X (pins ++ pinsAt fp s.heap) σ H s :=
 I.pins_of fun p hp=>(List.mem_append.mp hp).elim (fun z=>I.pin p (List.mem_append_right _ z)) fun z=>by
  obtain ⟨hb,e⟩:=of_pinsAt z
  obtain ⟨f0,f1,f2,_⟩:=hf p.1 hb
  obtain ⟨o,e',d⟩:=ho p.1 hb
  rw [e] at e'; cases e'
  exact ⟨e,f0,f1,f2,d⟩
theorem Inv.unpinned {pins pl:List (Addr×Obj)} {σ:St} {H:Hp} {s:Shared} (I:Inv X (pins ++ pl) σ H s):Inv X pins σ H s:=I.pins_of fun p hp=>I.pin p (List.mem_append_right _ (List.mem_append_left _ hp))
theorem ps_for {iter:Expr} {body:List Stmt} {wi:TI} {g:TG} {tb:TS} {pos:Pos} (hp:PassesOwn (model X.prog X.w) X.A X.env X.xe) (hc:X.calm=true) (hi:PI X tg iter wi) (hg:PG X tg g) (hb:PSs X body tb)
  (hs:∀ x,foldedSetIterable iter X.env x=pure x:=by intro _; rfl):PS X (.For tg iter body [] pos) (tFor wi g tb):=by
 intro pins s σ H D I h
 refine wpAny_For (thn (hi pins s σ H _ I h) fun v s1 h1=>thn h1 fun itv s2 h2=>?_) hs
 obtain ⟨it,fp,tn,J,H2,e,I2,T,st2,f2,W,⟨m0,w0⟩,turn⟩:=h2
 subst e
 -- what stays true of the iterator's objects through the loop
 have stat:∀ {H':Hp},(∀ b ∈ fp,H' b=none)→∀ b ∈ fp,FpOk X pins H' b:=fun hn b hb=>⟨hn b hb,(f2 b hb).2⟩
 refine codeAny_forLoop_any (fun n s'=>∃ i σ' H',Inv X pins σ' H' s'∧tn i s'.heap∧(∀ b ∈ fp,H' b=none)∧W i n σ' H') ?_ m0 ⟨0,σ,H2,I2,st2,fun b hb=>(f2 b hb).1,w0⟩
 rintro n s3 ⟨i,σ3,H3,I3,st3,fr3,w3⟩
 rcases turn i n σ3 H3 w3 with ⟨stop,qn⟩ | ⟨go,N,hN,step⟩
 ·refine wpAny_passesOwn hp (thn (T.done X rfl rfl rfl hc i pins s3 σ3 H3 X.xe I3 (stat fr3) st3 stop) fun r s4 ⟨hr,I4⟩=>?_)
  subst hr
  exact wpAny_execs_nil ⟨σ3,H3,I4,qn⟩
 ·refine wpAny_passesOwn hp (thn (T.item X rfl rfl rfl hc i pins s3 σ3 H3 X.xe I3 (stat fr3) st3 go) fun r s4 ⟨u,hr,h4⟩=>?_)
  subst hr
  refine wpAny_passesOwn hp (thn h4 fun _ s5 ⟨x,H5,I5,r5,y5,st5,fr5⟩=>?_)
  have I5':=I5.pinned (stat fr5) (T.obj _ _ st5)
  refine wpAny_passesOwn hp (thn (hg _ s5 σ3 H5 x u _ I5' r5 (step x H5 y5)) fun _ s6 ⟨σ6,H6,I6,q6⟩=>?_)
  refine wpAny_passesOwn hp (thn (hb _ s6 σ6 H6 _ I6 q6) fun f s7 q7=>?_)
  have again:∀ {σ7:St} {H7:Hp},Inv X (pins ++ pinsAt fp s5.heap) σ7 H7 s7→N σ7 H7→∃ m,m < n∧∃ i σ' H',Inv X pins σ' H' s7∧tn i s7.heap∧(∀ b ∈ fp,H' b=none)∧W i m σ' H':=fun {σ7 H7} I7 n7=>by
   obtain ⟨m',hm,w7⟩:=hN σ7 H7 n7
   refine ⟨m',hm,i + 1,σ7,H7,I7.unpinned,T.keep _ _ _ st5 fun b hb o e=>(I7.pin (b,o) (List.mem_append_right _ (List.mem_append_right _ (mem_pinsAt hb e)))).1,fun b hb=>?_,w7⟩
   obtain ⟨o,e,d⟩:=T.obj _ _ st5 b hb
   exact (I7.pin (b,o) (List.mem_append_right _ (List.mem_append_right _ (mem_pinsAt hb e)))).2.1
  cases f with
  | next=>obtain ⟨σ7,H7,I7,n7⟩:=q7; exact again I7 n7
  | cont=>obtain ⟨σ7,H7,I7,n7⟩:=q7; exact again I7 n7
  | brk=>obtain ⟨σ7,H7,I7,q7⟩:=q7; exact ⟨σ7,H7,I7.unpinned,q7⟩
  | ret v=>obtain ⟨x7,σ7,H7,I7,r7,q7⟩:=q7; exact ⟨x7,σ7,H7,I7.unpinned,r7,q7⟩
end
open PySem PySem.Spec PyProof.Rows
abbrev R2:=V→V→Hp→VK→Prop
def OpR (X:Cx) (f:Value→Value→Sem Value) (r:R2):Prop :=
 ∀ (pins:List (Addr×Obj)) (s:Shared) (σ:St) (H:Hp) (x y:V) (v u:Value) (Q:VK),Inv X pins σ H s→RelV x v→RelV y u→r x y H Q →
  wpAny (model X.prog X.w) X.A (f v u) (EP X pins σ Q) X.xe s
def UnR (X:Cx) (f:Value→Sem Value) (r:V→Hp→VK→Prop):Prop :=
 ∀ (pins:List (Addr×Obj)) (s:Shared) (σ:St) (H:Hp) (x:V) (v:Value) (Q:VK),Inv X pins σ H s→RelV x v→r x H Q →
  wpAny (model X.prog X.w) X.A (f v) (EP X pins σ Q) X.xe s
def CallR (X:Cx) (f:Value) (r:List V→Hp→VK→Prop):Prop :=
 ∀ (pins:List (Addr×Obj)) (s:Shared) (σ:St) (H:Hp) (xs:List V) (us:List Value) (Q:VK),Inv X pins σ H s→Vals xs us→r xs H Q →
  wpAny (model X.prog X.w) X.A (call f us) (EP X pins σ Q) X.xe s
def tOp (r:R2) (ta tb:TE):TE:=fun σ H Q=>ta σ H fun x H1=>tb σ H1 fun y H2=>r x y H2 Q
def tUn (r:V→Hp→VK→Prop) (ta:TE):TE:=fun σ H Q=>ta σ H fun x H1=>r x H1 Q
def rI (C:Int→Int→Prop) (g:Int→Int→V):R2:=fun x y H Q=>∃ i j,x = .int i∧y = .int j∧C i j∧Q (g i j) H
def rI0 (g:Int→Int→V):R2:=fun x y H Q=>∃ i j,x = .int i∧y = .int j∧Q (g i j) H
def rU (g:Int→V):V→Hp→VK→Prop:=fun x H Q=>∃ i,x = .int i∧Q (g i) H
section
variable {X:Cx} {a b c:Expr} {ta tb tc:TE} {pos:Pos}
theorem binT (ha:PE X a ta) (hb:PE X b tb) {pins:List (Addr×Obj)} {s:Shared} {σ:St} {H:Hp} {R:V→V→Hp→Prop} (I:Inv X pins σ H s)
  (h:ta σ H fun x H1=>tb σ H1 fun y H2=>R x y H2) {Q:Value→Shared→Prop} {f:Value→Value→Sem Value}
  (hf:∀ v u s2 x y H2,Inv X pins σ H2 s2→RelV x v→RelV y u→R x y H2→wpAny (model X.prog X.w) X.A (f v u) Q X.xe s2) :
  wpAny (model X.prog X.w) X.A (eval a X.env) (fun v s₁=>wpAny (model X.prog X.w) X.A (eval b X.env) (fun u s₂=>wpAny (model X.prog X.w) X.A (f v u) Q X.xe s₂) X.xe s₁) X.xe s:=by
 refine thn (ha pins s σ H _ I h) fun v s1 ⟨x,H1,I1,r1,q1⟩=>?_
 refine thn (hb pins s1 σ H1 _ I1 q1) fun u s2 ⟨y,H2,I2,r2,q2⟩=>?_
 exact hf v u s2 x y H2 I2 r1 r2 q2
theorem pe_op {op:Operator} {r:R2} (ho:OpR X (binaryOp op) r) (ha:PE X a ta) (hb:PE X b tb):PE X (.BinOp a op b pos) (tOp r ta tb):=by
 intro pins s σ H Q I h
 exact wpAny_BinOp (binT ha hb I h fun v u s2 x y H2 I2 rx ry q=>ho pins s2 σ H2 x y v u Q I2 rx ry q)
theorem pe_un {op:UnaryOp} {r:V→Hp→VK→Prop} (ho:UnR X (unaryOp op) r) (ha:PE X a ta):PE X (.UnaryOp op a pos) (tUn r ta):=by
 intro pins s σ H Q I h
 exact UnaryOp_ (thn (ha pins s σ H _ I h) fun v s1 ⟨x,H1,I1,r1,q1⟩=>ho pins s1 σ H1 x v Q I1 r1 q1)
theorem opI {f:Value→Value→Sem Value} {C:Int→Int→Prop} {g:Int→Int→Int}
  (rule:∀ (i j:Int) (t u:Tok) (s:Shared) (Q:Value→Shared→Prop) (E:Value→Shared→Prop),C i j→Q (.int (g i j) s.toks) { s with toks:=s.toks + 1 }→wpAny (model X.prog X.w) X.A (f (.int i t) (.int j u)) Q E s) :
  OpR X f (rI C fun i j=>.int (g i j)):=by
 intro pins s σ H x y v u Q I rx ry h
 obtain ⟨i,j,rfl,rfl,hc,q⟩:=h
 obtain ⟨t,rfl⟩:=rx
 obtain ⟨t',rfl⟩:=ry
 exact rule i j t t' s _ _ hc ⟨.int (g i j),H,I.tok _,⟨_,rfl⟩,q⟩
theorem opI0 {f:Value→Value→Sem Value} {g:Int→Int→Int}
  (rule:∀ (i j:Int) (t u:Tok) (s:Shared) (Q:Value→Shared→Prop) (E:Value→Shared→Prop),Q (.int (g i j) s.toks) { s with toks:=s.toks + 1 }→wpAny (model X.prog X.w) X.A (f (.int i t) (.int j u)) Q E s) :
  OpR X f (rI0 fun i j=>.int (g i j)):=by
 intro pins s σ H x y v u Q I rx ry h
 obtain ⟨i,j,rfl,rfl,q⟩:=h
 obtain ⟨t,rfl⟩:=rx
 obtain ⟨t',rfl⟩:=ry
 exact rule i j t t' s _ _ ⟨.int (g i j),H,I.tok _,⟨_,rfl⟩,q⟩
theorem opB0 {f:Value→Value→Sem Value} {g:Int→Int→Bool}
  (rule:∀ (i j:Int) (t u:Tok) (s:Shared) (Q:Value→Shared→Prop) (E:Value→Shared→Prop),Q (.bool (g i j)) s→wpAny (model X.prog X.w) X.A (f (.int i t) (.int j u)) Q E s) :
  OpR X f (rI0 fun i j=>.bl (g i j)):=by
 intro pins s σ H x y v u Q I rx ry h
 obtain ⟨i,j,rfl,rfl,q⟩:=h
 obtain ⟨t,rfl⟩:=rx
 obtain ⟨t',rfl⟩:=ry
 exact rule i j t t' s _ _ ⟨.bl (g i j),H,I,rfl,q⟩
def CDiv (i j:Int):Prop:=0 < j∧j < 1073741824
def CPow (i j:Int):Prop:=0≤j∧j≤1000000∧i.natAbs < 2 ^ 64
def CMul (i j:Int):Prop:=(-(2 ^ 64) < i∧i < 2 ^ 64)∨(-(2 ^ 64) < j∧j < 2 ^ 64)
theorem CMul.ok {i j:Int} (h:CMul i j):IntMulOk i j:=by
 rcases h with ⟨h1,h2⟩ | ⟨h1,h2⟩
 ·exact .of_left (intBits_le_64 h1 h2)
 ·exact .of_right (intBits_le_64 h1 h2)
theorem op_add:OpR X (binaryOp .Add) (rI0 fun i j=>.int (i + j)):=opI0 fun _ _ _ _ _ _ _ q=>add_int q
theorem op_sub:OpR X (binaryOp .Sub) (rI0 fun i j=>.int (i - j)):=opI0 fun _ _ _ _ _ _ _ q=>sub_int q
theorem op_mul:OpR X (binaryOp .Mult) (rI CMul fun i j=>.int (i * j)):=opI fun _ _ _ _ _ _ _ hc q=>mul_int q hc.ok
theorem op_fdiv:OpR X (binaryOp .FloorDiv) (rI CDiv fun i j=>.int (i / j)):=opI fun i j _ _ _ _ _ hc q=>by
 have h1:(0:Int) < j:=hc.1
 have h2:j < 1073741824:=hc.2
 exact floordiv_int (by omega) (by rw [Int.fdiv_eq_ediv_of_nonneg i (by omega)]; exact q) (.inl (PyProof.noPylong_small (by omega)))
theorem op_mod:OpR X (binaryOp .Mod) (rI (fun _ j=>0 < j) fun i j=>.int (i % j)):=opI fun i j _ _ _ _ _ hc q=>by
 have h1:(0:Int) < j:=hc
 exact mod_int' (by omega) (by rw [Int.fmod_eq_emod_of_nonneg i (by omega)]; exact q)
theorem op_pow:OpR X (binaryOp .Pow) (rI CPow fun i j=>.int (i ^ j.toNat)):=opI fun _ _ _ _ _ _ _ hc q=>pow_int_small hc.1 hc.2.1 hc.2.2 q
theorem unI {f:Value→Sem Value} {g:Int→Int}
  (rule:∀ (i:Int) (t:Tok) (s:Shared) (Q:Value→Shared→Prop) (E:Value→Shared→Prop),Q (.int (g i) s.toks) { s with toks:=s.toks + 1 }→wpAny (model X.prog X.w) X.A (f (.int i t)) Q E s) :
  UnR X f (rU fun i=>.int (g i)):=by
 intro pins s σ H x v Q I rx h
 obtain ⟨i,rfl,q⟩:=h
 obtain ⟨t,rfl⟩:=rx
 exact rule i t s _ _ ⟨.int (g i),H,I.tok _,⟨_,rfl⟩,q⟩
theorem un_neg:UnR X (unaryOp .USub) (rU fun i=>.int (-i)):=unI fun _ _ _ _ _ q=>neg_int q
end
section
variable {X:Cx} {a b c:Expr} {ta tb tc:TE} {pos:Pos}
theorem fin_bl {pins:List (Addr×Obj)} {σ:St} {H:Hp} {s:Shared} {Q:VK} {k k':Bool} (I:Inv X pins σ H s) (q:Q (.bl k) H) (e:k=k'):EP X pins σ Q (.bool k') s:=by
 subst e
 exact ⟨.bl k,H,I,rfl,q⟩
theorem op_lt:OpR X (compareOp .Lt) (rI0 fun i j=>.bl (decide (i < j))):=opB0 fun _ _ _ _ _ _ _ q=>lt_int q
theorem op_le:OpR X (compareOp .LtE) (rI0 fun i j=>.bl (decide (i≤j))):=opB0 fun _ _ _ _ _ _ _ q=>le_int q
theorem op_gt:OpR X (compareOp .Gt) (rI0 fun i j=>.bl (decide (j < i))):=opB0 fun _ _ _ _ _ _ _ q=>gt_int q
theorem op_ge:OpR X (compareOp .GtE) (rI0 fun i j=>.bl (decide (j≤i))):=opB0 fun _ _ _ _ _ _ _ q=>ge_int q
theorem op_lt_str:OpR X (compareOp .Lt) (fun x y H Q=>∃ i j,x = .str i∧y = .str j∧Q (.bl (decide (i.cps.toList < j.cps.toList))) H):=by
 intro pins s σ H x y v u Q I rx ry h
 obtain ⟨i,j,rfl,rfl,q⟩:=h
 obtain ⟨t,rfl⟩:=rx
 obtain ⟨t',rfl⟩:=ry
 exact lt_str (fin_bl I q rfl)
theorem op_in_str:OpR X (compareOp .In) (fun x y H Q=>∃ i j,x = .str i∧y = .str j∧Q (.bl (!(Builtin.Str.occurrences j i 0 j.length 1).isEmpty)) H):=by
 intro pins s σ H x y v u Q I rx ry h
 obtain ⟨i,j,rfl,rfl,q⟩:=h
 obtain ⟨t,rfl⟩:=rx
 obtain ⟨t',rfl⟩:=ry
 exact in_str (fin_bl I q rfl)
theorem OpR.or {f:Value→Value→Sem Value} {r r':R2} (h:OpR X f r) (h':OpR X f r'):OpR X f (fun x y H Q=>r x y H Q∨r' x y H Q):=by
 intro pins s σ H x y v u Q I rx ry q
 rcases q with q | q
 ·exact h pins s σ H x y v u Q I rx ry q
 ·exact h' pins s σ H x y v u Q I rx ry q
theorem nomark (b:Expr) {op:CmpOp} (h:op≠.In:=by decide) (h2:op≠.NotIn:=by decide):behindInMarks op b=false:=by
 have e1:(op == CmpOp.In)=false:=by cases op <;> first | rfl | exact absurd rfl h
 have e2:(op == CmpOp.NotIn)=false:=by cases op <;> first | rfl | exact absurd rfl h2
 cases b <;> simp [behindInMarks,e1,e2]
theorem pe_cmpR {op:CmpOp} {r:R2} (ho:OpR X (compareOp op) r) (ha:PE X a ta) (hb:PE X b tb) (hm:behindInMarks op b=false):PE X (.Compare a [op] [b] pos) (tOp r ta tb):=by
 intro pins s σ H Q I h
 exact wpAny_Compare1 (binT ha hb I h fun v u s2 x y H2 I2 rx ry q=>ho pins s2 σ H2 x y v u Q I2 rx ry q) hm
def tTest (t:TE):TT:=fun σ H Q=>t σ H fun x H'=>∃ k,x = .bl k∧Q k H'
theorem pt_cmpR {op:CmpOp} {r:R2} (ho:OpR X (compareOp op) r) (ha:PE X a ta) (hb:PE X b tb) (hm:behindInMarks op b=false):PT X (.Compare a [op] [b] pos) (tTest (tOp r ta tb)):=by
 intro pins s σ H Q I h
 refine wpAny_isTrue_Compare1 (thn (ha pins s σ H _ I h) fun v s1 ⟨x,H1,I1,r1,q1⟩=>thn (hb pins s1 σ H1 _ I1 q1) fun u s2 ⟨y,H2,I2,r2,q2⟩ =>
  thn (ho pins s2 σ H2 x y v u _ I2 r1 r2 q2) fun c s3 ⟨z,H3,I3,r3,k,e,q3⟩=>?_) hm
 subst e
 cases r3
 exact wpAny_truthy_bool ⟨H3,I3,q3⟩
def tChain (r r':R2) (ta tb tc:TE):TE:=fun σ H Q=>ta σ H fun x H1=>tb σ H1 fun y H2=>r x y H2 fun z H3=>∃ k,z = .bl k ∧
 (if k=true then tc σ H3 fun w' H4=>r' y w' H4 Q else Q (.bl false) H3)
theorem pt_chain {op op':CmpOp} {r r':R2} (ho:OpR X (compareOp op) r) (ho':OpR X (compareOp op') r') (ha:PE X a ta) (hb:PE X b tb) (hc:PE X c tc)
  (hm:lastMarks [op,op'] [b,c]=false:=by with_unfolding_all rfl):PT X (.Compare a [op,op'] [b,c] pos) (tTest (tChain r r' ta tb tc)):=by
 intro pins s σ H Q I h
 refine isTrue_chain (thn (ha pins s σ H _ I h) fun v s1 ⟨x,H1,I1,r1,q1⟩=>test_link (thn (hb pins s1 σ H1 _ I1 q1) fun u s2 ⟨y,H2,I2,r2,q2⟩ =>
  thn (ho pins s2 σ H2 x y v u _ I2 r1 r2 q2) fun d s3 ⟨z,H3,I3,r3,k,e,q3⟩=>?_)) hm
 subst e
 cases r3
 refine wpAny_truthy_bool ?_
 cases k with
 | false =>
  obtain ⟨k',e',q'⟩:=q3
  cases e'
  exact ite_ff ⟨H3,I3,q'⟩
 | true =>
  refine ite_tt (test_last (thn (hc pins s3 σ H3 _ I3 q3) fun w' s4 ⟨z',H4,I4,r4,q4⟩=>thn (ho' pins s4 σ H4 y z' u w' _ I4 r2 r4 q4) fun d' s5 ⟨z2,H5,I5,r5,k2,e2,q5⟩=>?_))
  subst e2
  cases r5
  exact wpAny_truthy_bool ⟨H5,I5,q5⟩
theorem line63:(sizeLine:Nat) < 2 ^ 63:=by rw [sizeLine_eq]; decide
theorem op_add_str:OpR X (binaryOp .Add) (fun x y H Q=>∃ i j,x = .str i∧y = .str j∧i.length + j.length≤sizeLine∧Q (.str (i ++ j)) H):=by
 intro pins s σ H x y v u Q I rx ry h
 obtain ⟨i,j,rfl,rfl,hz,q⟩:=h
 obtain ⟨t,rfl⟩:=rx
 obtain ⟨t',rfl⟩:=ry
 exact add_str (fun t' tk=>⟨.str (i ++ j),H,I.tok _,⟨_,rfl⟩,q⟩) hz
theorem vals1 {x:V} {us:List Value} (r:Vals [x] us):∃ u,us=[u]∧RelV x u:=by
 cases r with
 | cons r1 r2=>cases r2; exact ⟨_,rfl,r1⟩
theorem vals2 {x y:V} {us:List Value} (r:Vals [x,y] us):∃ u w',us=[u,w']∧RelV x u∧RelV y w':=by
 cases r with
 | cons r1 r2 =>
  cases r2 with
  | cons r3 r4=>cases r4; exact ⟨_,_,rfl,r1,r3⟩
theorem call_max2 (hc:X.calm=true):CallR X (.builtin "max") (fun xs H Q=>∃ i j,xs=[.int i,.int j]∧Q (.int (if j > i then j else i)) H):=by
 intro pins s σ H xs us Q I r h
 obtain ⟨i,j,rfl,q⟩:=h
 obtain ⟨u,w',rfl,⟨t,rfl⟩,⟨t',rfl⟩⟩:=vals2 r
 refine max_two_ints (I.ok.hd hc) fun h' tk k=>⟨_,H,I.kept k,?_,q⟩
 by_cases hj:j > i
 ·rw [if_pos hj,if_pos hj]; exact ⟨_,rfl⟩
 ·rw [if_neg hj,if_neg hj]; exact ⟨_,rfl⟩
theorem call_int1:CallR X (.type "int") (fun xs H Q=>(∃ i,xs=[.int i]∧Q (.int i) H)∨∃ k,xs=[.bl k]∧Q (.int (if k then 1 else 0)) H):=by
 intro pins s σ H xs us Q I r h
 rcases h with ⟨i,rfl,q⟩ | ⟨k,rfl,q⟩
 ·obtain ⟨u,rfl,t,rfl⟩:=vals1 r
  exact call_int_int ⟨.int i,H,I,⟨_,rfl⟩,q⟩
 ·obtain ⟨u,rfl,r1⟩:=vals1 r
  cases r1
  exact call_int_bool ⟨.int (if k then 1 else 0),H,I.tok _,⟨_,rfl⟩,q⟩
end
open PySem PySem.Spec PyProof.Rows
structure ObjM (h:Heap) (x dx C:Addr) (mA:Str→Option Value):Prop where
 obj:h.get? x=some (PySem.W.instObj C dx)
 ns:h.Ns1 dx mA
 ne:dx≠x
theorem lookIn_ns {h:Heap} {dx:Addr} {mA:Str→Option Value} (n:h.Ns1 dx mA):∃ od,h.get? dx=some od∧∀ name,PySem.W.lookIn name od=some (mA name):=by
 obtain ⟨o,es,ep,ho,hd,hk,_,hm⟩:=n
 refine ⟨o,ho,fun name=>?_⟩
 have e:=hm name
 unfold nsFind findBy at e
 rw [← Array.find?_toList] at e
 unfold PySem.W.lookIn
 rw [hd]
 dsimp only
 split
 ·rename_i y q
  rw [q] at e
  exact congrArg some e
 ·rename_i q
  rw [q] at e
  have a:es.toList.any (·.refKey)=false:=by
   rw [List.any_eq_false]
   intro y hy
   obtain ⟨z,t,hkey⟩:=hk y (Array.mem_toList_iff.mp hy)
   simp [DictEntry.refKey,hkey]
  have a':¬ es.toList.any (·.refKey)=true:=by rw [a]; exact Bool.false_ne_true
  rw [if_neg a']
  exact congrArg some e
theorem ObjM.look {h:Heap} {x dx C:Addr} {mA:Str→Option Value} (I:ObjM h x dx C mA):∃ od,PySem.W.InstAt h x (PySem.W.instObj C dx) C (some od)∧∀ name,PySem.W.lookIn name od=some (mA name) :=
 let ⟨od,ho,hl⟩:=lookIn_ns I.ns
 ⟨od,⟨I.obj,rfl,rfl,ho⟩,hl⟩
section
variable {prog:Program} {w:World} {A:Around} {E:Value→Shared→Prop} {s:Shared} {K:PySem.W.Frag} {x dx C f:Addr} {mA:Str→Option Value} {name:Str} {v:Value}
end
theorem RelO.some_of {v:V} {o:Option Value} (r:RelO (some v) o):∃ u,o=some u∧RelV v u:=by
 cases o with
 | none=>exact (show False from r).elim
 | some u=>exact ⟨u,rfl,r⟩
section
variable {P:Program} {w:World} {H H':Hp} {h h':Heap} {a C dx:Addr} {fs fs':List (Str×V)}
theorem ins_get (hok:HOk P w H h) (e:H a=some (.ins C dx fs)):∃ mA,ObjM h a dx C mA∧(∀ f,RelO (fs.lookup f) (mA f))∧PySem.Within mA (fs.map (·.1))∧fs.length≤1000∧H dx=some (.own a):=by
 obtain ⟨d,z,ne,ob,mA,n,r,q⟩:=(show ObjOk P w H h a (.ins C dx fs) from hok a _ e)
 exact ⟨mA,⟨ob,n,ne⟩,r,q,z,d⟩
end
structure Cls (K:PySem.W.Frag) (C:Addr):Prop where
 pg:PySem.W.plainGet K C Str.empty=true
 hd:PySem.W.hasDictIn K C=true
 po:PySem.W.plainOver K C=true
 sa:PySem.W.findIn K (.ref C) "__setattr__" = some (some (.builtin "object.__setattr__"))
theorem Cls.get {K:PySem.W.Frag} {C:Addr} (c:Cls K C) (f:Str):PySem.W.plainGet K C f=true:=c.pg
structure Con (K:PySem.W.Frag) (C:Addr) (f:Str) (v:V) (u:Value):Prop where
 at_:PySem.W.findIn K (.ref C) f=some (some u)
 rel:RelV v u
 get:PySem.W.specialIn K u "__get__" = some none
 cp:PySem.W.copiedNames.contains f=false
structure Meth (K:PySem.W.Frag) (C:Addr) (m:Str) (f:Addr):Prop where
 at_:PySem.W.findIn K (.ref C) m=some (some (.ref f))
 fn:PySem.W.isFn K (.ref f)=true
 kp:PySem.W.keepIn K (.ref f)=true
section
variable {X:Cx} {pins:List (Addr×Obj)} {σ:St} {H:Hp} {s:Shared} {a C dx:Addr} {fs:List (Str×V)} {f:Str} {v:V} {A:Around} {E:Value→Shared→Prop}
end
section
variable {X:Cx} {o e value:Expr} {f:Str} {pos pos' tpos:Pos} {ta tv:TE}
end
section
variable {X:Cx} {pins:List (Addr×Obj)} {σ:St} {H:Hp} {s:Shared} {A:Around} {E:Value→Shared→Prop} {Q:Value→Shared→Prop} {c:Value} {b:Bool}
inductive TyOf (K:PySem.W.Frag) (H:Hp):V→Value→Prop where
 | non:TyOf K H .non (.type "NoneType")
 | bl (x:Bool):TyOf K H (.bl x) (.type "bool")
 | int (i:Int):TyOf K H (.int i) (.type "int")
 | str (x:Str):TyOf K H (.str x) (.type "str")
 | flt (x:UInt64):TyOf K H (.flt x) (.type "float")
 | lst {a:Addr} {xs:List V} (e:H a=some (.lst xs)):TyOf K H (.ref a) (.type "list")
 | frz {a:Addr} {o:Obj} {xs:List V} (e:H a=some (.frz o (.lst xs))):TyOf K H (.ref a) (.type "list")
 | tup {a:Addr} {xs:List V} (e:H a=some (.tup xs)):TyOf K H (.ref a) (.type "tuple")
 | dK {a:Addr} {kvs:List (Key×V)} (e:H a=some (.dK kvs)):TyOf K H (.ref a) (.type "dict")
 | dT {a:Addr} {kvs:List (List Key×V)} (e:H a=some (.dT kvs)):TyOf K H (.ref a) (.type "dict")
 | ins {a C dx:Addr} {fs:List (Str×V)} (e:H a=some (.ins C dx fs)) (cl:Cls K C) (ha:PySem.W.findIn K (.ref C) "__class__" = some (some (.builtin "object.__class__")))
   (hn:PySem.W.specialIn K (.builtin "object.__class__") "__get__" = some (some (.builtin "getset_descriptor.__get__"))) (htk:PySem.W.takesIn K (.builtin "object.__class__")=some true)
   (hm:PySem.W.mroIn K C (.type "object")=some true):TyOf K H (.ref a) (.ref C)
theorem isinst_ok {x:V} {u t:Value} (I:Inv X pins σ H s) (rx:RelV x u) (ty:TyOf X.K H x t) (e:PySem.W.kitOne X.K t c=some b) (h:∀ tk,Q (.bool b) { s with toks:=tk }) :
  wpAny (model X.prog X.w) A (call (.builtin "isinstance") [u,c]) Q E s:=by
 cases ty with
 | non=>cases (show u=Value.none from rx); exact PySem.W.kia_one PySem.W.kitx_none I.kIn True.intro e (fun z=>nomatch z) h
 | bl y=>cases (show u=Value.bool y from rx); exact PySem.W.kia_one PySem.W.kitx_bool I.kIn True.intro e (fun z=>nomatch z) h
 | int i=>obtain ⟨t,q⟩:=(show ∃ t,u=Value.int i t from rx); cases q; exact PySem.W.kia_one PySem.W.kitx_int I.kIn True.intro e (fun z=>nomatch z) h
 | str y=>obtain ⟨t,q⟩:=(show ∃ t,u=Value.str y t from rx); cases q; exact PySem.W.kia_one PySem.W.kitx_str I.kIn True.intro e (fun z=>nomatch z) h
 | flt y=>obtain ⟨t,q⟩:=(show ∃ t,u=Value.float y t from rx); cases q; exact PySem.W.kia_one PySem.W.kitx_float I.kIn True.intro e (fun z=>nomatch z) h
 | @lst a xs ea =>
  cases (show u=Value.ref a from rx)
  obtain ⟨_,_,n,_,h1⟩:=(show ObjOk X.prog X.w H s.heap a (.lst xs) from I.hok a _ ea)
  exact PySem.W.kia_one PySem.W.kitx_list I.kIn ⟨_,h1,rfl⟩ e (fun z=>nomatch z) h
 | @frz a ob xs ea =>
  cases (show u=Value.ref a from rx)
  obtain ⟨_,_,_,n,_,h1⟩:=(show ObjOk X.prog X.w H s.heap a (.frz ob (.lst xs)) from I.hok a _ ea)
  exact PySem.W.kia_one PySem.W.kitx_list I.kIn ⟨_,h1,rfl⟩ e (fun z=>nomatch z) h
 | @tup a xs ea =>
  cases (show u=Value.ref a from rx)
  obtain ⟨_,_,_,p⟩:=(show ObjOk X.prog X.w H s.heap a (.tup xs) from I.hok a _ ea)
  obtain ⟨o,h1,h2,_⟩:=p.tup
  exact PySem.W.kia_one PySem.W.kitx_tuple I.kIn ⟨o,h1,h2⟩ e (fun z=>nomatch z) h
 | @dK a kvs ea =>
  cases (show u=Value.ref a from rx)
  obtain ⟨_,_,vs,_,p⟩:=(show ObjOk X.prog X.w H s.heap a (.dK kvs) from I.hok a _ ea)
  obtain ⟨o,es,ep,h1,h2,_⟩:=p
  exact PySem.W.kia_one PySem.W.kitx_dict I.kIn ⟨o,h1,h2.1⟩ e (fun z=>nomatch z) h
 | @dT a kvs ea =>
  cases (show u=Value.ref a from rx)
  obtain ⟨_,_,xs,_,o,es,ep,h1,h2,_⟩:=(show ObjOk X.prog X.w H s.heap a (.dT kvs) from I.hok a _ ea)
  exact PySem.W.kia_one PySem.W.kitx_dict I.kIn ⟨o,h1,h2.1⟩ e (fun z=>nomatch z) h
 | @ins a C dx fs ea cl ha hn htk hm =>
  cases (show u=Value.ref a from rx)
  obtain ⟨mA,O,_⟩:=ins_get I.hok ea
  obtain ⟨od,J,_⟩:=O.look
  exact PySem.W.kia_one (PySem.W.kitx_own (cl.get _) cl.hd ha hn htk hm) I.kIn J e (fun z=>nomatch z) h
end
open PySem PySem.Spec PyProof.Rows
structure Room (k:Nat) (A:Around):Prop where
 hd:A.handled=none
 dp:A.depth + 3 * k + 5 < recursionLimit
 un:A.units + 16 * k + 200 < cLine
theorem Room.mono {j k:Nat} {A:Around} (r:Room k A) (h:j≤k):Room j A:=⟨r.hd,by have:=r.dp; omega,by have:=r.un; omega⟩
theorem Room.deeper {k:Nat} {A:Around} (r:Room (k + 1) A) (env:Env):Room k (A.deeper env) :=
 ⟨r.hd,by have:=r.dp; show A.depth + 1 + 3 * k + 5 < _; omega,by have:=r.un; show A.units + 3 + 16 * k + 200 < _; omega⟩
theorem Room.in1 {k:Nat} {A:Around} (r:Room (k + 1) A):Room k A.in1 :=
 ⟨r.hd,by have:=r.dp; show A.depth + 3 * k + 5 < _; omega,by have:=r.un; show A.units + 1 + 16 * k + 200 < _; omega⟩
theorem Room.depth {k:Nat} {A:Around} (r:Room k A):A.depth < recursionLimit:=by have:=r.dp; omega
theorem Room.units {k:Nat} {A:Around} (r:Room k A):A.units + 64 < cLine:=by have:=r.un; omega
def tNil:TA:=fun _ H Q=>Q [] H
def tCons (ta:TE) (tr:TA):TA:=fun σ H Q=>ta σ H fun x H1=>tr σ H1 fun xs H2=>Q (x :: xs) H2
section
variable {X:Cx} {e:Expr} {es:List Expr} {te:TE} {t:TA} {pos:Pos}
theorem pa_nil:PA X [] tNil:=fun _ _ _ _ H Q I h=>Calls.spliced_nil ⟨[],H,I,.nil,h⟩
theorem pa_cons (ha:PE X e te) (hr:PA X es t) (hs:starEach (e :: es) X.env=(false,eval e X.env) :: starEach es X.env:=by rfl):PA X (e :: es) (tCons te t):=by
 intro pos pins s σ H Q I h
 rw [hs]
 show wpAny _ _ (spliced ((false,eval e X.env) :: backTo pos (starEach es X.env))) _ _ s
 refine Calls.spliced_cons (thn (ha pins s σ H _ I h) fun u s1 ⟨x,H1,I1,r1,q1⟩=>?_)
 exact thn (hr pos pins s1 σ H1 _ I1 q1) fun us s2 ⟨xs,H2,I2,r2,q2⟩=>⟨x :: xs,H2,I2,.cons r1 r2,q2⟩
def tTup (t:TA):TE:=fun σ H Q=>t σ H fun xs H1=>xs.length≤sizeLine∧∀ p,H1 p=none→Q (.ref p) (upd H1 p (.tup xs))
def tLst (t:TA):TE:=fun σ H Q=>t σ H fun xs H1=>xs.length≤sizeLine∧∀ p,H1 p=none→Q (.ref p) (upd H1 p (.lst xs))
theorem pe_tup {x1} (h:PA X es t):PE X (.Tuple es x1 pos) (tTup t):=by
 intro pins s σ H Q I hq
 refine wpAny_Tuple_spliced (thn (h pos pins s σ H _ I hq) fun us s1 ⟨xs,H1,I1,r,z,q⟩=>⟨by rw [← r.length]; exact z,?_⟩)
 have hf:H1 s1.heap.objs.size=none:=I1.hok.fresh (Nat.le_refl _)
 refine ⟨.ref s1.heap.objs.size,upd H1 s1.heap.objs.size (.tup xs),I1.laid (t':=s1.toks) (fun b u e=>Heap.get?_push_of_some _ e) (Nat.le_refl _) ?_,rfl,q _ hf⟩
 exact ⟨z,us,r,⟨_,Heap.get?_push_size _ rfl⟩⟩
theorem pe_lst (h:PA X es t):PE X (.List es pos) (tLst t):=by
 intro pins s σ H Q I hq
 refine wpAny_List_spliced (thn (h pos pins s σ H _ I hq) fun us s1 ⟨xs,H1,I1,r,z,q⟩=>⟨by rw [← r.length]; exact z,?_⟩)
 have hf:H1 s1.heap.objs.size=none:=I1.hok.fresh (Nat.le_refl _)
 refine ⟨.ref s1.heap.objs.size,upd H1 s1.heap.objs.size (.lst xs),I1.laid (t':=s1.toks) (fun b u e=>Heap.get?_push_of_some _ e) (Nat.le_refl _) ?_,rfl,q _ hf⟩
 exact ⟨z,us,0,r,Heap.get?_push_size _ rfl⟩
end
abbrev Sp:=List V→Hp→VK→XK→Prop
abbrev CXT:=List Env→Hp→Shared→XK→Value→Shared→Prop
structure Env0 (P:Program) (w:World) (K:PySem.W.Frag) (mg:Str→Option Value) (base:Heap) (A:Around) (outer:List Env) (s:Shared) (H:Hp):Prop where
 frames:A.frames=some outer
 mod:Mod K mg base
 bs:∀ b o,base.get? b=some o→s.heap.get? b=some o∧H b=none
 bsz:base.objs.size≤s.heap.objs.size
 funs:s.heap.FunFrames base outer
 frf:∀ b ∈ frs outer,H b=none
 hok:HOk P w H s.heap
 bare:AllBare s.gens
def CE (outer:List Env) (P:Program) (w:World) (H:Hp) (s:Shared) (Q:VK) (u:Value) (s':Shared):Prop :=
 ∃ v H',s'.os=s.os∧AllBare s'.gens∧Un (frs outer) [] H H' s.heap s'.heap∧HOk P w H' s'.heap∧RelV v u∧Q v H'
def CR (CX:CXT) (outer:List Env) (P:Program) (w:World) (H:Hp) (s:Shared) (Q:VK) (E:XK) (r:Result) (s':Shared):Prop :=
 match r with
 | .ok (.ret u)=>CE outer P w H s Q u s'
 | .ok _=>False
 | .error e=>CX outer H s E e s'
structure FnOk (P:Program) (w:World) (K:PySem.W.Frag) (mg:Str→Option Value) (base:Heap) (CX:CXT) (k:Nat) (f:Addr) (fd:FuncData) (ps:List Str) (sp:Sp):Prop where
 len:∀ vs H Q E,sp vs H Q E→vs.length=ps.length
 run:∀ (A:Around) (outer:List Env) (s:Shared) (H:Hp) (args:Args) (us:List Value) (vs:List V) (Q:VK) (E:XK),Room k A→Env0 P w K mg base A outer s H→BindsTo s fd args (ps.zip us)→Vals vs us→sp vs H Q E →
  codeAny (model P w) A (.call (.ref f) args) (CR CX outer P w H s Q E) s
theorem FnOk.mono {P:Program} {w:World} {K:PySem.W.Frag} {mg:Str→Option Value} {base:Heap} {CX:CXT} {j k:Nat} {f:Addr} {fd:FuncData} {ps:List Str} {sp:Sp} (F:FnOk P w K mg base CX j f fd ps sp) (h:j≤k) :
  FnOk P w K mg base CX k f fd ps sp:=⟨F.len,fun A outer s H args us vs Q E hr=>F.run A outer s H args us vs Q E (hr.mono h)⟩
theorem FnOk.imp {P:Program} {w:World} {K:PySem.W.Frag} {mg:Str→Option Value} {base:Heap} {CX:CXT} {k:Nat} {f:Addr} {fd:FuncData} {ps:List Str} {sp sp':Sp} (F:FnOk P w K mg base CX k f fd ps sp)
  (h:∀ vs H Q E,sp' vs H Q E→sp vs H Q E):FnOk P w K mg base CX k f fd ps sp' :=
 ⟨fun vs H Q E q=>F.len vs H Q E (h _ _ _ _ q),fun A outer s H args us vs Q E hr he hb hv hs=>F.run A outer s H args us vs Q E hr he hb hv (h _ _ _ _ hs)⟩
theorem Env0.in1 {P:Program} {w:World} {K:PySem.W.Frag} {mg:Str→Option Value} {base:Heap} {A:Around} {outer:List Env} {s:Shared} {H:Hp} (e:Env0 P w K mg base A outer s H) :
  Env0 P w K mg base A.in1 outer s H:=⟨e.frames,e.mod,e.bs,e.bsz,e.funs,e.frf,e.hok,e.bare⟩
section
variable {X:Cx} {pins:List (Addr×Obj)} {σ:St} {H:Hp} {s s':Shared}
theorem Inv.env0 (I:Inv X pins σ H s):Env0 X.prog X.w X.K X.mg X.base X.A X.stack s H :=
 ⟨I.ok.frames,I.ok.mod,I.bs,Nat.le_trans I.ok.bsz I.sz,I.stack,I.stkFree,I.hok,I.bare⟩
theorem Inv.after {Q:VK} {u:Value} (I:Inv X pins σ H s) (h:CE X.stack X.prog X.w H s Q u s'):EP X pins σ Q u s':=by
 obtain ⟨v,H',os,bare,un,hok,r,q⟩:=h
 obtain ⟨hh,g,d,t,os'⟩:=s'
 obtain rfl:os'=s.os:=os
 exact ⟨v,H',I.call (h':=hh) (g':=g) (d':=d) (t':=t) (ch:=[]) un hok bare (fun b z=>absurd z (by simp)),r,q⟩
end
def tCall (sp:Sp) (dvs:List V) (E:XK) (t:TA):TE:=fun σ H Q=>t σ H fun vs H1=>sp (vs ++ dvs) H1 Q E
def Binds (K:PySem.W.Frag) (fd:FuncData) (ps:List Str) (ds:List Value):Prop :=
 ∀ (s:Shared) (us:List Value),K.In s.heap→(us ++ ds).length=ps.length→BindsTo s fd ⟨us,[]⟩ (ps.zip (us ++ ds))
theorem Binds.all {K:PySem.W.Frag} {fd:FuncData} {ps:List Str} (h:∀ us:List Value,us.length=ps.length→bindArgs fd ⟨us,[]⟩=pure (ps.zip us)):Binds K fd ps []:=fun s us _ hl=>by
 rw [List.append_nil] at hl ⊢
 exact .of_eq (h us hl)
def Passes (CX:CXT) (X:Cx) (E:XK):Prop:=∀ (pins:List (Addr×Obj)) (σ:St) (H:Hp) (s:Shared) (e:Value) (s':Shared),Inv X pins σ H s→CX X.stack H s E e s'→X.xe e s'
section
variable {X:Cx} {CX:CXT} {k:Nat} {f C:Addr} {fd:FuncData} {ps:List Str} {sp:Sp} {dvs:List V} {ds:List Value} {E:XK} {x m:Str} {p pos apos:Pos} {e o:Expr} {es:List Expr} {ta:TE} {t:TA}
theorem run_fn {pins:List (Addr×Obj)} {σ:St} {H:Hp} {s:Shared} {Q:VK} {us:List Value} {vs:List V} (F:FnOk X.prog X.w X.K X.mg X.base CX k f fd ps sp) (hr:Room k X.A) (hb:Binds X.K fd ps ds) (hd:Vals dvs ds) (hx:Passes CX X E)
  (I:Inv X pins σ H s) (r:Vals vs us) (h:sp (vs ++ dvs) H Q E):wpAny (model X.prog X.w) X.A (call (.ref f) us) (EP X pins σ Q) X.xe s:=by
 have r2:Vals (vs ++ dvs) (us ++ ds):=r.append hd
 have hl:(us ++ ds).length=ps.length:=by rw [← r2.length]; exact F.len _ _ _ _ h
 refine wpAny_call (codeAny_mono (F.run X.A X.stack s H ⟨us,[]⟩ (us ++ ds) (vs ++ dvs) Q E hr I.env0 (hb s us I.kIn hl) r2 h) fun r s' hq=>?_)
 cases r with
 | error e=>exact hx pins σ H s e s' I hq
 | ok fl =>
  cases fl with
  | ret u=>exact I.after hq
  | next=>exact False.elim hq
  | brk=>exact False.elim hq
  | cont=>exact False.elim hq
theorem pe_call (F:FnOk X.prog X.w X.K X.mg X.base CX k f fd ps sp) (hr:Room k X.A) (hg:Gl X x) (hm:X.mg x=some (.ref f)) (hk:PySem.W.keepIn X.K (.ref f)=true) (hb:Binds X.K fd ps ds) (hd:Vals dvs ds) (hx:Passes CX X E)
  (ha:PA X (e :: es) t) (hdb:(x == ("__debug__" : Str))=false:=by decide) (he:starEach (e :: es) X.env=(false,eval e X.env) :: starEach es X.env:=by rfl) (hpl:(backTo pos (starEach es X.env)).any (·.1)=false:=by rfl) :
  PE X (.Call (.Name x p) (e :: es) [] pos) (tCall sp dvs E t):=by
 intro pins s σ H Q I h
 refine wpAny_Call_Name_kw (ld_glob I hg hm ?_ hdb)
 refine PySem.W.callWith_K (h₀:=X.base) I.ok.mod.kin hk (thn (ha pos pins s σ H _ I h) fun us s1 ⟨vs,H1,I1,r,q⟩=>⟨I1.kIn,?_⟩) he hpl
 exact run_fn F hr hb hd hx I1 r q
structure Mk (K:PySem.W.Frag) (C f:Addr):Prop where
 makes:PySem.W.makesIn K C=true
 init:PySem.W.findIn K (.ref C) "__init__" = some (some (.ref f))
 fn:PySem.W.isFn K (.ref f)=true
 kp:PySem.W.keepIn K (.ref C)=true
end
section
variable {X:Cx} {CX:CXT} {k:Nat} {f C:Addr} {fd:FuncData} {ps ks:List Str} {sp:Sp} {E:XK} {x m:Str} {p pos apos kpos:Pos} {e o:Expr} {es:List Expr} {kws:List Keyword} {te ta:TE} {t tk:TA} {nm:Option Str}
structure KBinds (K:PySem.W.Frag) (fd:FuncData) (ps ks:List Str) (g:List Value→List Value→List Value) (gV:List V→List V→List V):Prop where
 to:∀ (s:Shared) (us ws:List Value),K.In s.heap→(g us ws).length=ps.length→BindsTo s fd ⟨us,ks.zip ws⟩ (ps.zip (g us ws))
 rel:∀ {vs:List V} {us:List Value} {zs:List V} {ws:List Value},Vals vs us→Vals zs ws→Vals (gV vs zs) (g us ws)
variable {g:List Value→List Value→List Value} {gV:List V→List V→List V}
end
structure FnScope (N P:List Str) (sc:Scope):Prop where
 kind:sc.kind = .function
 co:sc.isCoroutine=false
 gen:sc.isGenerator=false
 nd:N.Nodup
 pre:N.take P.length=P
 par:∀ x ∈ P,sc.names.lookup x=some .local∨sc.names.lookup x=some .cell
 nofree:∀ y ∈ sc.names,y.2≠.free
theorem bindL_out {kindOf:Str→Option NameKind} {x:Str}:∀ {binds:List (Str×Value)} {m:Str→Option Value},(∀ v,(x,v) ∉ binds)→bindL kindOf binds m x=m x
 | [],_,_=>rfl
 | (n,v) :: r,m,h=>by
  unfold bindL
  rw [bindL_out fun w hw=>h w (List.mem_cons_of_mem _ hw)]
  split
  ·have:x≠n:=by rintro rfl; exact h v List.mem_cons_self
   simp [this]
  ·rfl
theorem bindC_out {kindOf:Str→Option NameKind} {x:Str}:∀ {binds:List (Str×Value)} {m:Str→Option Value},(∀ v,(x,v) ∉ binds)→bindC kindOf binds m x=m x
 | [],_,_=>rfl
 | (n,v) :: r,m,h=>by
  unfold bindC
  rw [bindC_out fun w hw=>h w (List.mem_cons_of_mem _ hw)]
  split
  ·rfl
  ·have:x≠n:=by rintro rfl; exact h v List.mem_cons_self
   simp [this]
theorem bindL_get {kindOf:Str→Option NameKind} {x:Str} {v:Value}:∀ {P:List Str} {vs:List Value} {i:Nat} {m:Str→Option Value},P.Nodup→P[i]? = some x→vs[i]? = some v→kindOf x=some .local →
  bindL kindOf (P.zip vs) m x=some v
 | [],_,_,_,_,h,_,_=>by simp at h
 | _ :: _,[],_,_,_,_,h,_=>by simp at h
 | p :: P,w :: vs,0,m,nd,h1,h2,hk=>by
  simp at h1 h2; subst h1; subst h2
  show bindL kindOf ((p,w) :: P.zip vs) m p=_
  unfold bindL
  rw [bindL_out fun v hv=>(List.nodup_cons.mp nd).1 (List.of_mem_zip hv).1,if_pos hk]
  simp
 | p :: P,w :: vs,i + 1,m,nd,h1,h2,hk=>by
  show bindL kindOf ((p,w) :: P.zip vs) m x=_
  unfold bindL
  exact bindL_get (i:=i) (List.nodup_cons.mp nd).2 (by simpa using h1) (by simpa using h2) hk
theorem bindC_get {kindOf:Str→Option NameKind} {x:Str} {v:Value}:∀ {P:List Str} {vs:List Value} {i:Nat} {m:Str→Option Value},P.Nodup→P[i]? = some x→vs[i]? = some v→kindOf x≠some .local →
  bindC kindOf (P.zip vs) m x=some v
 | [],_,_,_,_,h,_,_=>by simp at h
 | _ :: _,[],_,_,_,_,h,_=>by simp at h
 | p :: P,w :: vs,0,m,nd,h1,h2,hk=>by
  simp at h1 h2; subst h1; subst h2
  show bindC kindOf ((p,w) :: P.zip vs) m p=_
  unfold bindC
  rw [bindC_out fun v hv=>(List.nodup_cons.mp nd).1 (List.of_mem_zip hv).1,if_neg hk]
  simp
 | p :: P,w :: vs,i + 1,m,nd,h1,h2,hk=>by
  show bindC kindOf ((p,w) :: P.zip vs) m x=_
  unfold bindC
  exact bindC_get (i:=i) (List.nodup_cons.mp nd).2 (by simpa using h1) (by simpa using h2) hk
def start (N:List Str) (vs:List V):St:=vs.map some ++ List.replicate (N.length - vs.length) none
def cxOf (CX:CXT) (P:Program) (w:World) (K:PySem.W.Frag) (mg:Str→Option Value) (base:Heap) (N:List Str) (qual:Str) (scope:Scope) (f:Addr) (cd:Value) (A:Around) (outer:List Env) (s:Shared) (H:Hp) (E:XK):Cx where
 prog:=P
 w:=w
 K:=K
 mg:=mg
 base:=base
 A:=A.deeper (envOfC qual scope s.heap.objs.size f cd)
 N:=N
 s₀:=s
 H₀:=H
 env:=envOfC qual scope s.heap.objs.size f cd
 outer:=outer
 stack:=envOfC qual scope s.heap.objs.size f cd :: outer
 ex:=[]
 calm:=true
 fn:=fun _=>true
 pn:=[]
 xe:=fun e s'=>wpAny (model P w) (A.deeper (envOfC qual scope s.heap.objs.size f cd)) (leaving (envOfC qual scope s.heap.objs.size f cd) e) (fun _ s''=>CX outer H s E e s'') (fun e' s''=>CX outer H s E e' s'') s'
theorem cell_has {sc:Scope} {n:Nat} {x:Str} (h:sc.names.lookup x=some .cell):∃ c,(cellsFrom n sc.names []).lookup x=some c:=by
 have q:=PySem.W.cellsFrom_some sc.names n [] (.inl h)
 exact Option.isSome_iff_exists.mp q
theorem inv_start {CX:CXT} {P:Program} {w:World} {K:PySem.W.Frag} {mg:Str→Option Value} {base:Heap} {N ps:List Str} {qual:Str} {scope:Scope} {f:Addr} {cd:Value} {A:Around} {outer:List Env} {s s1:Shared} {H:Hp} {E:XK} {us:List Value} {vs:List V}
  (S:FnScope N ps scope) (hd:A.handled=none) (e0:Env0 P w K mg base A outer s H) (hl:vs.length=ps.length) (r:Vals vs us)
  (x:InCallC s s.heap.objs.size (bindL (envOfC qual scope s.heap.objs.size f cd).kindOf (ps.zip us) fun _=>none) (cellsFrom (s.heap.objs.size + 1) scope.names []) (bindC (envOfC qual scope s.heap.objs.size f cd).kindOf (ps.zip us) fun _=>none) s1) :
  Inv (cxOf CX P w K mg base N qual scope f cd A outer s H E) [] (start N vs) H s1:=by
 have hpl:ps.length≤N.length:=by have:=congrArg List.length S.pre; rw [List.length_take] at this; omega
 obtain ⟨h1,tk,rfl,hk⟩:=x.done
 have noA:∀ b:Addr,b ∉ (cxOf CX P w K mg base N qual scope f cd A outer s H E).ex:=fun b z=>absurd (show b ∈ ([]:List Addr) from z) (by simp)
 refine ⟨⟨e0.mod,S.kind,rfl,rfl,Nat.le_refl _,fun y z c h1 h2=>?_,fun y hy=>?_,fun y c _ h=>?_,fun _=>hd,Around.frames_deeper e0.frames,.inr ⟨rfl,rfl⟩,fun b z=>absurd z (noA b),e0.bs,e0.bsz,fun b _ _=>noA b,fun b z=>absurd z (noA b),e0.funs,e0.frf⟩,
  rfl,e0.bare,Un.kept hk,⟨_,x.toInCall.ns,fun i y v h1 h2 h3=>?_⟩,fun y c h=>⟨_,x.cell y c h⟩,e0.hok.fresh (Nat.le_refl _),fun y c h=>?_,fun p hp=>absurd (show p ∈ ([]:List (Addr×Obj)) from hp) (by simp),e0.hok.kept hk,?_⟩
 ·exact name_of_addr x.apart (PySem.mem_of_lookup h1) (PySem.mem_of_lookup h2)
 ·have hy:scope.names.lookup y=some .cell∨scope.names.lookup y=some .free:=hy
  rcases hy with hy | hy
  ·exact cell_has hy
  ·exact absurd rfl (S.nofree _ (PySem.mem_of_lookup hy))
 ·exact Nat.le_of_lt (x.above y c (PySem.mem_of_lookup h))
 ·have hi:i < vs.length:=by
   unfold start at h2
   by_cases hi:i < vs.length
   ·exact hi
   ·rw [List.getElem?_append_right (by simpa using hi)] at h2
    rw [List.getElem?_replicate] at h2
    split at h2 <;> cases h2
  have ha:vs[i]? = some v:=by
   unfold start at h2
   rw [List.getElem?_append_left (by simpa using hi),List.getElem?_map] at h2
   cases e:vs[i]? with
   | none=>rw [e] at h2; cases h2
   | some a=>rw [e] at h2; cases h2; rfl
  obtain ⟨u,hu,rv⟩:=r.get ha
  have hp:ps[i]? = some y:=by
   rw [← S.pre,List.getElem?_take_of_lt (by omega)]; exact h1
  have ndP:ps.Nodup:=by rw [← S.pre]; exact S.nd.sublist (List.take_sublist _ _)
  refine ⟨u,rv,?_⟩
  rcases S.par y (List.mem_of_getElem? hp) with k | k
  ·exact .inl ⟨k,bindL_get ndP hp hu k⟩
  ·obtain ⟨c,e⟩:=cell_has (n:=s.heap.objs.size + 1) k
   refine .inr ⟨.inl k,c,e,?_⟩
   have q:=x.cell y c e
   rw [bindC_get ndP hp hu (by show scope.names.lookup y≠_; rw [k]; decide)] at q
   exact q
 ·exact e0.hok.fresh (Nat.le_of_lt (x.above y c (PySem.mem_of_lookup h)))
 ·unfold start
  show _=N.length
  rw [List.length_append,List.length_map,List.length_replicate]
  omega
theorem fn_of {CX:CXT} {P:Program} {w:World} {K:PySem.W.Frag} {mg:Str→Option Value} {base:Heap} {k:Nat} {f:Addr} {name qual:Str} {params:Arguments} {body:List Stmt} {scope:Scope} {dV kV doc pm cdv ct oc:Value} {an od:Option Addr}
  {osl:Array (Option Value)} {N ps:List Str} {sp:Sp} (lk:K.lookup f=some ⟨oc,od,.func (PySem.W.fnOf name qual params body scope dV kV doc pm an cdv ct),osl⟩) (hcd:PySem.W.codeIn K cdv qual=true) (S:FnScope N ps scope)
  (len:∀ vs H Q E,sp vs H Q E→vs.length=ps.length)
  (hbody:∀ (A:Around) (outer:List Env) (s:Shared) (H:Hp) (vs:List V) (Q:VK) (E:XK),Room k (A.deeper (envOfC qual scope s.heap.objs.size f cdv))→sp vs H Q E →
   ∃ t,PSs (cxOf CX P w K mg base N qual scope f cdv A outer s H E) body t∧t { nx:=fun _ H'=>Q .non H',rt:=Q } (start N vs) H) :
  FnOk P w K mg base CX (k + 1) f (PySem.W.fnOf name qual params body scope dV kV doc pm an cdv ct) ps sp:=by
 refine ⟨len,fun A outer s H args us vs Q E hr e0 hb r hsp=>?_⟩
 have hl:=len _ _ _ _ hsp
 have KX:K.In s.heap:=e0.mod.kin.keeps fun b o e=>(e0.bs b o e).1
 have lim:s.heap.NoLimit:=e0.mod.nolimit.keeps fun b o e=>(e0.bs b o e).1
 have hkind:∀ y ∈ ps.zip us,scope.names.lookup y.1=some .local∨(scope.names.lookup y.1=some .cell∧((cellsFrom (s.heap.objs.size + 1) scope.names []).lookup y.1).isSome=true):=fun ⟨n,v⟩ hy=>by
  rcases S.par n (List.of_mem_zip hy).1 with q | q
  ·exact .inl q
  ·exact .inr ⟨q,PySem.W.cellsFrom_some _ _ _ (.inl q)⟩
 refine codeAny_call_function hr.depth (KX _ _ lk) rfl S.co S.gen rfl (PySem.W.codeRec_of KX hcd) (hb _ _ _ _ ?_)
 refine wpAny_newFunctionEnv_cells S.kind hkind fun env he s1 x=>?_
 subst he
 refine ⟨lim.keeps x.toInCall.keep,codeAny_func ?_⟩
 obtain ⟨t,ht,hq⟩:=hbody A outer s H vs Q E (hr.deeper _) hsp
 have I:Inv (cxOf CX P w K mg base N qual scope f cdv A outer s H E) [] (start N vs) H s1:=inv_start S hr.hd e0 hl r x
 refine wpAny_mono (ht [] s1 (start N vs) H _ I hq) (fun fl s' hs=>?_) fun e s' hs=>hs
 have fin:∀ {σ':St} {H':Hp} {v:V} {u:Value},Inv (cxOf CX P w K mg base N qual scope f cdv A outer s H E) [] σ' H' s'→RelV v u→Q v H'→CE outer P w H s Q u s' :=
  fun {σ' H' v u} J rv q=>⟨v,H',J.os,J.bare,J.base,J.hok,rv,q⟩
 cases fl with
 | ret u =>
  obtain ⟨v,σ',H',J,rv,q⟩:=hs
  exact fin J rv q
 | next =>
  obtain ⟨σ',H',J,q⟩:=hs
  exact fin (v:=V.non) (u:=Value.none) J rfl q
 | brk =>
  obtain ⟨_,_,_,q⟩:=hs
  exact False.elim q
 | cont =>
  obtain ⟨_,_,_,q⟩:=hs
  exact False.elim q
open PySem PySem.Spec PyProof.Rows
section
variable {X:Cx} {x:Str} {p pos:Pos} {e:Expr} {es:List Expr} {t:TA} {id T:String} {r:List V→Hp→VK→Prop}
def tCB (r:List V→Hp→VK→Prop) (t:TA):TE:=fun σ H Q=>t σ H fun vs H1=>r vs H1 Q
theorem pe_callB (hc:CallR X (.builtin id) r) (hg:Gl X x) (hm:X.mg x=none) (hv:bootBuiltins x=some (.builtin id)) (ha:PA X (e :: es) t) (hn:x≠"__name__":=by decide) (hdb:(x == ("__debug__" : Str))=false:=by decide)
  (he:starEach (e :: es) X.env=(false,eval e X.env) :: starEach es X.env:=by rfl) (hpl:(backTo pos (starEach es X.env)).any (·.1)=false:=by rfl):PE X (.Call (.Name x p) (e :: es) [] pos) (tCB r t):=by
 intro pins s σ H Q I h
 refine wpAny_Call_Name_kw (ld_blt I hg hm hv ?_ hn hdb)
 exact PyProof.Rows.callWith_builtin1 (thn (ha pos pins s σ H _ I h) fun us s1 ⟨vs,H1,I1,r1,q1⟩=>hc pins s1 σ H1 vs us Q I1 r1 q1) he hpl
theorem pe_callTy (hc:CallR X (.type T) r) (hg:Gl X x) (hm:X.mg x=none) (hv:bootBuiltins x=some (.type T)) (ha:PA X (e :: es) t) (hn:x≠"__name__":=by decide) (hdb:(x == ("__debug__" : Str))=false:=by decide)
  (he:starEach (e :: es) X.env=(false,eval e X.env) :: starEach es X.env:=by rfl) (hpl:(backTo pos (starEach es X.env)).any (·.1)=false:=by rfl):PE X (.Call (.Name x p) (e :: es) [] pos) (tCB r t):=by
 intro pins s σ H Q I h
 refine wpAny_Call_Name_kw (ld_blt I hg hm hv ?_ hn hdb)
 exact PyProof.Rows.callWith_type1 (thn (ha pos pins s σ H _ I h) fun us s1 ⟨vs,H1,I1,r1,q1⟩=>hc pins s1 σ H1 vs us Q I1 r1 q1) he hpl
end
end L2
namespace HT
open PySem PyProof.Rows
section
open PySem.SeqAt
open PySem.AutoSeq1 (wpAny_loadPart')
open PySem.MeetsSeq PySem.MeetsSeq2 PySem.MeetsSeq3
end
section
variable {prog:Program} {w:World} {A:Around} {E:Value→Shared→Prop} {s:Shared}
theorem cat_tup {t b:Addr} {vs ws:List Value} {Q:Value→Shared→Prop} (ht:IsTup s.heap t vs.toArray) (hb:IsTup s.heap b ws.toArray) (hv:vs≠[])
  (h1:ws=[]→Q (.ref t) s) (h2:ws≠[]→Q (.ref s.heap.objs.size) { s with heap:=s.heap.push { cls:=.type "tuple",data:=.seq (vs ++ ws).toArray } })
  (hsz:vs.length + ws.length≤sizeLine):wpAny (model prog w) A (binaryOp .Add (.ref t) (.ref b)) Q E s:=by
 obtain ⟨⟨cls,dd,data,sl⟩,ho,hc,n,hd⟩:=id ht
 obtain ⟨⟨cls2,dd2,data2,sl2⟩,ho2,hc2,n2,hd2⟩:=id hb
 simp only at hc hd hc2 hd2
 subst hc hd hc2 hd2
 have e:vs.toArray ++ ws.toArray=(vs ++ ws).toArray:=by simp
 by_cases hw:ws=[]
 ·exact concat_meets ⟨_,ho,rfl⟩ ⟨_,ho2,rfl⟩ noFill_tuple_add seq_tuple_add PySem.F.slot_tuple_add PySem.F.entry_tuple_add (PySem.F.args_tuple_add_2 _ _)
   (tuple_addW1 t b vs.toArray ws.toArray n n2 dd dd2 sl sl2 (by simpa using hv) (by simp [hw])) ⟨ho,ho2,h1 hw⟩
 ·refine concat_meets ⟨_,ho,rfl⟩ ⟨_,ho2,rfl⟩ noFill_tuple_add seq_tuple_add PySem.F.slot_tuple_add PySem.F.entry_tuple_add (PySem.F.args_tuple_add_2 _ _)
   (tuple_addW2 t b vs.toArray ws.toArray n n2 dd dd2 sl sl2 (by simpa using hv) (by simpa using hw) (by rw [List.size_toArray,List.size_toArray]; exact hsz)) ⟨ho,ho2,?_⟩
  rw [e]
  exact h2 hw
def sIx (n d:Nat):Option Int→Nat
 | none=>d
 | some v=>if v < 0 then (v + (n:Int)).toNat else min v.toNat n
theorem sIx_le (n d:Nat) (hd:d≤n) (o:Option Int):sIx n d o≤n:=by
 cases o with
 | none=>exact hd
 | some v =>
  show (if v < 0 then (v + (n:Int)).toNat else min v.toNat n)≤n
  by_cases hv:v < 0
  ·rw [if_pos hv]; omega
  ·rw [if_neg hv]; exact Nat.min_le_right _ _
theorem clip_eq (v:Int) (n d:Nat):(if v < 0 then max (v + (n:Int)) 0 else min v (n:Int))=((sIx n d (some v):Nat):Int):=by
 show (if v < 0 then max (v + (n:Int)) 0 else min v (n:Int))=(((if v < 0 then (v + (n:Int)).toNat else min v.toNat n):Nat):Int)
 by_cases hv:v < 0
 ·simp only [if_pos hv]; omega
 ·simp only [if_neg hv]; omega
theorem adjust_gen (lo hi:Option Int) (n:Nat):Builtin.Slice.sliceAdjust lo hi 1 (n:Int)=(((sIx n 0 lo:Nat):Int),((sIx n n hi:Nat):Int)):=by
 have h1:¬ ((1:Int) < 0):=by omega
 unfold Builtin.Slice.sliceAdjust
 simp only [h1,if_false]
 refine Prod.ext ?_ ?_
 ·cases lo with
  | none=>rfl
  | some v=>exact clip_eq v n 0
 ·cases hi with
  | none=>rfl
  | some v=>exact clip_eq v n n
theorem places_gen (i j:Nat):Builtin.Slice.slicePlaces (i:Int) (j:Int) 1=j - i:=by
 unfold Builtin.Slice.slicePlaces
 have h1:(1:Int) > 0:=by omega
 simp only [h1,if_true,Int.ediv_one]
 split <;> omega
theorem slicePart_ {v:Value} {o:Option Int} {Q:Option Int→Shared→Prop} (p:IsPart v o) (h:Q o s):wpAny (model prog w) A (Builtin.Slice.slicePartIndex v) Q E s:=by
 cases p with
 | none=>exact slicePart_none h
 | int i t=>exact slicePart_int h
theorem sliceApplied_gen {sl:Addr} {vl vu:Value} {lo hi:Option Int} {n:Nat} {Q:Int×Int×Nat→Shared→Prop} (hs:s.heap.IsSliceOf sl vl vu .none) (pl:IsPart vl lo) (pu:IsPart vu hi)
  (h:Q (((sIx n 0 lo:Nat):Int),1,sIx n n hi - sIx n 0 lo) s):wpAny (model prog w) A (Builtin.Slice.sliceApplied (.ref sl) (pure (n:Int))) Q E s:=by
 obtain ⟨os,hos,hcs,hds⟩:=id hs
 unfold Builtin.Slice.sliceApplied Builtin.Slice.sliceFields
 refine wpAny_bind (wpAny_bind (wpAny_field hos hds (x:=vl) rfl (wpAny_bind (wpAny_field hos hds (x:=vu) rfl (wpAny_bind (wpAny_field hos hds (x:=.none) rfl (wpAny_pure ?_)))))))
 refine wpAny_bind (slicePart_none ?_)
 show wpAny _ _ (if ((1:Int) == 0)=true then _ else _) _ _ s
 rw [if_neg (by decide)]
 refine wpAny_bind (slicePart_ pl (wpAny_bind (slicePart_ pu (wpAny_bind (wpAny_pure ?_)))))
 show wpAny _ _ (match Builtin.Slice.sliceAdjust lo hi 1 (n:Int) with | (lo,hi)=>pure (lo,(1:Int),Builtin.Slice.slicePlaces lo hi 1)) _ _ s
 rw [adjust_gen lo hi n]
 show wpAny _ _ (pure (((sIx n 0 lo:Nat):Int),(1:Int),Builtin.Slice.slicePlaces ((sIx n 0 lo:Nat):Int) ((sIx n n hi:Nat):Int) 1)) _ _ s
 rw [places_gen]
 exact wpAny_pure h
theorem pick_gen (xs:Array Value) (i k:Nat):((List.range k).filterMap fun (m:Nat)=>xs[((i:Int) + (m:Int) * 1).toNat]?).toArray=((xs.toList.drop i).take k).toArray:=by
 have e:(fun (m:Nat)=>xs[((i:Int) + (m:Int) * 1).toNat]?)=fun m=>xs[i + m]?:=by
  funext m
  have:((i:Int) + (m:Int) * 1).toNat=i + m:=by omega
  rw [this]
 rw [e]
 have:=pick_run xs i k
 rw [List.filterMap_map] at this
 have e2:((fun x=>xs[x]?) ∘ fun x=>i + x)=fun m=>xs[i + m]?:=rfl
 rw [e2] at this
 rw [this]
theorem getItem_tuple_cut {t sl:Addr} {items:Array Value} {vl vu:Value} {lo hi:Option Int} {Q:Value→Shared→Prop} (ht:IsTup s.heap t items) (hs:s.heap.IsSliceOf sl vl vu .none) (pl:IsPart vl lo) (pu:IsPart vu hi)
  (hw:¬ (sIx items.size 0 lo=0∧sIx items.size items.size hi=items.size))
  (h:Q (.ref s.heap.objs.size) { s with heap:=s.heap.push { cls:=.type "tuple",data:=.seq ((items.toList.drop (sIx items.size 0 lo)).take (sIx items.size items.size hi - sIx items.size 0 lo)).toArray } })
  (hsz:items.size≤sizeLine):wpAny (model prog w) A (getItem (.ref t) (.ref sl)) Q E s:=by
 have htake:sizeOk (.seq ((items.toList.drop (sIx items.size 0 lo)).take (sIx items.size items.size hi - sIx items.size 0 lo)).toArray):=by
  show ((items.toList.drop (sIx items.size 0 lo)).take (sIx items.size items.size hi - sIx items.size 0 lo)).toArray.size≤sizeLine
  rw [List.size_toArray,List.length_take,List.length_drop,Array.length_toList]
  omega
 have hj:sIx items.size items.size hi≤items.size:=sIx_le _ _ (Nat.le_refl _) hi
 obtain ⟨os,hos,hcs,hds⟩:=id hs
 have hTs:s.TypeIs (.ref sl) "slice":=⟨os,hos,hcs⟩
 unfold getItem
 try with_reducible refine wpAny_holding ?_
 first | refine wpAny_bind (wpAny_pure ?_) | skip
 refine wpAny_bind (wpAny_sequenceKey ht.typeIs (by decide) ?_)
 refine wpAny_bind (wpAny_callSpecial?_slot (name:=Str.ofString "__getitem__") ht.typeIs PyProof.Rows.slot_tuple_getitem
  (wpAny_call_entry PyProof.Rows.slot_tuple_getitem ht.typeIs entry_tuple_getitem ?_ (args_tuple_getitem _ _)))
 show wpAny _ _ (Builtin.Tuple.tupleItemsOf (.ref t) >>= _) _ _ s
 refine wpAny_bind (tupleItemsOf_ ht ?_)
 refine wpAny_bind (wpAny_typeOf hTs ?_)
 rw [if_pos (by decide)]
 refine wpAny_bind (sliceApplied_gen hs pl pu ?_)
 have hno:¬ ((((sIx items.size 0 lo:Nat):Int) == 0 && (1:Int) == 1 && (sIx items.size items.size hi - sIx items.size 0 lo) == items.size)=true):=by
  intro q
  rw [Bool.and_eq_true,Bool.and_eq_true] at q
  have q1:((sIx items.size 0 lo:Nat):Int)=0:=eq_of_beq q.1.1
  have q2:sIx items.size items.size hi - sIx items.size 0 lo=items.size:=eq_of_beq q.2
  exact hw ⟨by omega,by omega⟩
 show wpAny _ _ (if (((sIx items.size 0 lo:Nat):Int) == 0 && (1:Int) == 1 && (sIx items.size items.size hi - sIx items.size 0 lo) == items.size)=true then _ else _) _ _ s
 rw [if_neg hno,pick_gen]
 first
  | exact wpAny_bind (m:=Builtin.Tuple.tupleExact _) (wpAny_newObj_type (wpAny_pure ⟨_,rfl,wpAny_pure h⟩) htake)
  | exact wpAny_bind (m:=Builtin.Tuple.tupleExact _) (wpAny_newObj_type (wpAny_bind (wpAny_pure (wpAny_pure ⟨_,rfl,wpAny_pure h⟩))) htake)
  | exact wpAny_bind (wpAny_bind (m:=Builtin.Tuple.tupleExact _) (wpAny_newObj_type (wpAny_pure (wpAny_pure ⟨_,rfl,wpAny_pure h⟩)) htake))
  | exact wpAny_bind (wpAny_bind (m:=Builtin.Tuple.tupleExact _) (wpAny_newObj_type (wpAny_pure ⟨_,rfl,wpAny_pure h⟩) htake))
end
end HT
namespace L2
open PySem PySem.Spec PyProof.Rows
abbrev TO:=St→Hp→(Option Int→Hp→Prop)→Prop
def PO (X:Cx) (e:Option Expr) (t:TO):Prop :=
 ∀ (pins:List (Addr×Obj)) (s:Shared) (σ:St) (H:Hp) (Q:Option Int→Hp→Prop),Inv X pins σ H s→t σ H Q →
  wpAny (model X.prog X.w) X.A (evalPart e X.env) (fun u s'=>∃ o H',Inv X pins σ H' s'∧IsPart u o∧Q o H') X.xe s
def tNoPart:TO:=fun _ H Q=>Q none H
def tPart (t:TE):TO:=fun σ H Q=>t σ H fun x H1=>∃ i,x = .int i∧Q (some i) H1
section
variable {X:Cx} {e:Expr} {te:TE} {lo hi:Option Expr} {tl th:TO} {pos p2:Pos}
theorem po_none:PO X none tNoPart:=by
 intro pins s σ H Q I h
 rw [evalPart_none]
 exact wpAny_pure ⟨none,H,I,.none,h⟩
theorem po_some (h:PE X e te):PO X (some e) (tPart te):=by
 intro pins s σ H Q I hw
 rw [evalPart_some]
 refine thn (h pins s σ H _ I hw) fun u s1 ⟨x,H1,I1,r1,q1⟩=>?_
 obtain ⟨i,rfl,q⟩:=q1
 obtain ⟨t,rfl⟩:=r1
 exact ⟨some i,H1,I1,.int i t,q⟩
def SlR (X:Cx) (r:V→Option Int→Option Int→Hp→VK→Prop):Prop :=
 ∀ (pins:List (Addr×Obj)) (s:Shared) (σ:St) (H:Hp) (x:V) (v vl vu:Value) (lo hi:Option Int) (sl:Addr) (Q:VK),Inv X pins σ H s→RelV x v→s.heap.IsSliceOf sl vl vu .none→IsPart vl lo→IsPart vu hi→r x lo hi H Q →
  ∃ T id,typeLookup (.type T) "__getitem__" = pure (some (.builtin id))∧s.TypeIs v T∧wpAny (model X.prog X.w) X.A (getItem v (.ref sl)) (EP X pins σ Q) X.xe s
theorem SlR.or {r r':V→Option Int→Option Int→Hp→VK→Prop} (h:SlR X r) (h':SlR X r'):SlR X (fun x lo hi H Q=>r x lo hi H Q∨r' x lo hi H Q):=by
 intro pins s σ H x v vl vu lo hi sl Q I rx hs pl pu q
 rcases q with q | q
 ·exact h pins s σ H x v vl vu lo hi sl Q I rx hs pl pu q
 ·exact h' pins s σ H x v vl vu lo hi sl Q I rx hs pl pu q
def tSl (r:V→Option Int→Option Int→Hp→VK→Prop) (te:TE) (tl th:TO):TE:=fun σ H Q=>te σ H fun x H1=>tl σ H1 fun l H2=>th σ H2 fun u H3=>r x l u H3 Q
theorem pe_slice {r:V→Option Int→Option Int→Hp→VK→Prop} (hr:SlR X r) (he:PE X e te) (hl:PO X lo tl) (hu:PO X hi th):PE X (.Subscript e (.Slice lo hi none p2) pos) (tSl r te tl th):=by
 intro pins s σ H Q I h
 refine Subscript_ (thn (he pins s σ H _ I h) fun v s1 ⟨x,H1,I1,r1,q1⟩=>?_)
 refine wpAny_Slice (thn (hl pins s1 σ H1 _ I1 q1) fun vl s2 ⟨l,H2,I2,pl,q2⟩=>thn (hu pins s2 σ H2 _ I2 q2) fun vu s3 ⟨u,H3,I3,pu,q3⟩=>?_)
 rw [evalPart_none]
 refine wpAny_pure ?_
 have I4:Inv X pins σ H3 { s3 with heap:=s3.heap.push { cls:=.type "slice",data:=.fields #[vl,vu,.none] } }:=I3.kept (t':=s3.toks) fun b ob q=>Heap.get?_push_of_some _ q
 obtain ⟨T,id,hT,ht,hg⟩:=hr pins { s3 with heap:=s3.heap.push { cls:=.type "slice",data:=.fields #[vl,vu,.none] } } σ H3 x v vl vu l u s3.heap.objs.size Q I4 r1 (Heap.IsSliceOf.new ..) pl pu q3
 show wpAny (model X.prog X.w) X.A (subscriptTail e (.Slice lo hi none p2) v (.ref s3.heap.objs.size)) (EP X pins σ Q) X.xe { s3 with heap:=s3.heap.push { cls:=.type "slice",data:=.fields #[vl,vu,.none] } }
 exact tail_any (ops:=[.ref s3.heap.objs.size,v]) ht hT hg (by with_unfolding_all rfl)
def cutV (xs:List V) (lo hi:Option Int):List V:=(xs.drop (HT.sIx xs.length 0 lo)).take (HT.sIx xs.length xs.length hi - HT.sIx xs.length 0 lo)
theorem cutV_length (xs:List V) (lo hi:Option Int):(cutV xs lo hi).length≤xs.length:=by
 unfold cutV
 rw [List.length_take,List.length_drop]
 omega
def rSlT (K:PySem.W.Frag):V→Option Int→Option Int→Hp→VK→Prop:=fun x lo hi H Q=>∃ a xs,x = .ref a∧SqT K H a xs ∧
 ¬ (HT.sIx xs.length 0 lo=0∧HT.sIx xs.length xs.length hi=xs.length)∧∀ p,H p=none→Q (.ref p) (upd H p (.tup (cutV xs lo hi)))
theorem sl_tup:SlR X (rSlT X.K):=by
 intro pins s σ H x v vl vu lo hi sl Q I rx hs pl pu h
 obtain ⟨a,xs,rfl,hx,hw,q⟩:=h
 cases rx
 obtain ⟨its,r,ht,hz⟩:=I.tuple hx
 have hlen:its.toArray.size=xs.length:=by rw [List.size_toArray]; exact r.length.symm
 refine ⟨"tuple",_,PyProof.Rows.slot_tuple_getitem.lookup,ht.typeIs,?_⟩
 refine HT.getItem_tuple_cut ht hs pl pu (by rw [hlen]; exact hw) ?_ (by rw [hlen]; exact hz)
 rw [hlen]
 refine ⟨.ref s.heap.objs.size,_,I.laid (t':=s.toks) (o:=.tup (cutV xs lo hi)) (fun b ob q=>Heap.get?_push_of_some _ q) (Nat.le_refl _) ?_,rfl,q _ (I.hok.fresh (Nat.le_refl _))⟩
 exact ⟨Nat.le_trans (cutV_length xs lo hi) hz,_,(r.drop (HT.sIx xs.length 0 lo)).take (HT.sIx xs.length xs.length hi - HT.sIx xs.length 0 lo),IsTupN.new _ _⟩
def rCatT (K:PySem.W.Frag):R2:=fun x y H Q=>∃ a b xs ys,x = .ref a∧y = .ref b∧SqT K H a xs∧SqT K H b ys∧xs≠[]∧xs.length + ys.length≤sizeLine ∧
 (ys=[]→Q (.ref a) H)∧(ys≠[]→∀ p,H p=none→Q (.ref p) (upd H p (.tup (xs ++ ys))))
theorem Vals.nil_iff {xs:List V} {us:List Value} (r:Vals xs us):us=[] ↔ xs=[]:=by
 cases r with
 | nil=>simp
 | cons _ _=>simp
theorem op_catT:OpR X (binaryOp .Add) (rCatT X.K):=by
 intro pins s σ H x y v u Q I rx ry h
 obtain ⟨a,b,xs,ys,rfl,rfl,ha,hb,hx,hz,q1,q2⟩:=h
 cases rx
 cases ry
 obtain ⟨its,r1,p1,_⟩:=I.tuple ha
 obtain ⟨its2,r2,p2,_⟩:=I.tuple hb
 refine HT.cat_tup p1 p2 (fun z=>hx (r1.nil_iff.mp z)) (fun z=>⟨.ref a,H,I,rfl,q1 (r2.nil_iff.mp z)⟩) (fun z=>?_) (by rw [← r1.length,← r2.length]; exact hz)
 refine ⟨.ref s.heap.objs.size,_,I.laid (t':=s.toks) (o:=.tup (xs ++ ys)) (fun b ob q=>Heap.get?_push_of_some _ q) (Nat.le_refl _) ?_,rfl,q2 (fun w=>z (r2.nil_iff.mpr w)) _ (I.hok.fresh (Nat.le_refl _))⟩
 exact ⟨by rw [List.length_append]; exact hz,_,r1.append r2,IsTupN.new _ _⟩
end
open PySem PySem.Spec PyProof.Rows
def ixN (n:Nat) (i:Int):Option Nat:=if 0≤i then (if i < n then some i.toNat else none) else if -(n:Int)≤i then some (i + n).toNat else none
def atI {α:Type} (xs:List α) (i:Int):Option α:=(ixN xs.length i).bind fun j=>xs[j]?
theorem ixN_seq {n:Nat} {i:Int} {j:Nat} (h:ixN n i=some j):seqIndex? i n=some j∧j < n∧-(n:Int)≤i∧i < n:=by
 unfold ixN at h
 by_cases h0:0≤i
 ·rw [if_pos h0] at h
  by_cases h1:i < n
  ·rw [if_pos h1] at h
   have e:i.toNat=j:=Option.some.inj h
   exact ⟨by rw [seqIndex_of h0 h1,e],by omega,by omega,h1⟩
  ·rw [if_neg h1] at h; cases h
 ·rw [if_neg h0] at h
  by_cases h1 : -(n:Int)≤i
  ·rw [if_pos h1] at h
   have e:(i + n).toNat=j:=Option.some.inj h
   exact ⟨by rw [seqIndex_neg (by omega) h1,e],by omega,h1,by omega⟩
  ·rw [if_neg h1] at h; cases h
theorem atI_get {α:Type} {xs:List α} {i:Int} {v:α} (h:atI xs i=some v):∃ j,seqIndex? i xs.length=some j∧xs[j]? = some v∧j < xs.length∧-(xs.length:Int)≤i∧i < xs.length:=by
 unfold atI at h
 cases e:ixN xs.length i with
 | none=>rw [e] at h; cases h
 | some j =>
  rw [e] at h
  obtain ⟨h1,h2,h3,h4⟩:=ixN_seq e
  exact ⟨j,h1,h,h2,h3,h4⟩
def PlainIx (b:Expr):Prop:=∀ o i,subscripted b false o i=operate [o,i] (getItem o i)
def IxR (X:Cx) (r:R2):Prop :=
 ∀ (value slice:Expr) (pins:List (Addr×Obj)) (s:Shared) (σ:St) (H:Hp) (x y:V) (v u:Value) (Q:VK),Inv X pins σ H s→RelV x v→RelV y u→r x y H Q →
  subscripted slice false v u=operate [v,u] (getItem v u)→wpAny (model X.prog X.w) X.A (subscriptTail value slice v u) (EP X pins σ Q) X.xe s
def MtR (X:Cx) (id:String) (r:V→List V→Hp→VK→Prop):Prop :=
 ∀ (pins:List (Addr×Obj)) (s:Shared) (σ:St) (H:Hp) (x:V) (xs:List V) (v:Value) (us:List Value) (Q:VK),Inv X pins σ H s→RelV x v→Vals xs us→r x xs H Q →
  wpAny (model X.prog X.w) X.A (call (.builtin id) (v :: us)) (EP X pins σ Q) X.xe s
section
variable {X:Cx} {a b:Expr} {ta tb:TE} {pos:Pos}
theorem IxR.or {r r':R2} (h:IxR X r) (h':IxR X r'):IxR X (fun x y H Q=>r x y H Q∨r' x y H Q):=by
 intro value slice pins s σ H x y v u Q I rx ry q hs
 rcases q with q | q
 ·exact h value slice pins s σ H x y v u Q I rx ry q hs
 ·exact h' value slice pins s σ H x y v u Q I rx ry q hs
theorem MtR.or {id:String} {r r':V→List V→Hp→VK→Prop} (h:MtR X id r) (h':MtR X id r'):MtR X id (fun x xs H Q=>r x xs H Q∨r' x xs H Q):=by
 intro pins s σ H x xs v us Q I rx rs q
 rcases q with q | q
 ·exact h pins s σ H x xs v us Q I rx rs q
 ·exact h' pins s σ H x xs v us Q I rx rs q
theorem pe_ix {r:R2} (hr:IxR X r) (ha:PE X a ta) (hb:PE X b tb) (hs:PlainIx b):PE X (.Subscript a b pos) (tOp r ta tb):=by
 intro pins s σ H Q I h
 exact Subscript_ (binT ha hb I h fun v u s2 x y H2 I2 rx ry q=>hr a b pins s2 σ H2 x y v u Q I2 rx ry q (hs _ _))
def rIxL (K:PySem.W.Frag):R2:=fun x y H Q=>∃ p xs i v,x = .ref p∧y = .int i∧SqL K H p xs∧atI xs i=some v∧Q v H
def rIxT (K:PySem.W.Frag):R2:=fun x y H Q=>∃ p xs i v,x = .ref p∧y = .int i∧SqT K H p xs∧atI xs i=some v∧Q v H
def rIxS:R2:=fun x y H Q=>∃ z i c,x = .str z∧y = .int i∧z.length≤sizeLine∧atI z.cps.toList i=some c∧Q (.str ⟨#[c]⟩) H
theorem ix_list:IxR X (rIxL X.K):=by
 intro value slice pins s σ H x y v u Q I rx ry h hs
 obtain ⟨p,xs,i,z,rfl,rfl,hq,he,q⟩:=h
 cases rx
 obtain ⟨t,rfl⟩:=ry
 obtain ⟨its,r,pl,hz⟩:=I.list hq
 obtain ⟨j,h1,h2,h3,h4,h5⟩:=atI_get he
 obtain ⟨w,ew,rw'⟩:=r.get h2
 have hl:=r.length
 have hn:=line63
 have fin:EP X pins σ Q w s:=⟨z,H,I,rw',q⟩
 by_cases h0:0≤i
 ·have hj:i.toNat=j:=by
   rw [seqIndex_of h0 h5] at h1
   exact Option.some.inj h1
  exact item_listR pl.isList h0 (by omega) (by rw [hj]; simpa using ew) fin hs
 ·have hj:(i + (its.toArray.size:Int)).toNat=j:=by
   rw [seqIndex_neg (by omega) h4] at h1
   rw [List.size_toArray,← hl]
   exact Option.some.inj h1
  exact subscriptTail_builtinR (x:=w) pl.isList.typeIs slot_list_getitem.lookup
   (wpAny_getItem_list_neg (Q:=fun r s'=>r=w∧EP X pins σ Q r s') pl.isList (by omega) (by rw [List.size_toArray] <;> omega) (by omega) (by rw [hj]; simpa using ew) ⟨rfl,fin⟩) hs
theorem ix_tup:IxR X (rIxT X.K):=by
 intro value slice pins s σ H x y v u Q I rx ry h hs
 obtain ⟨p,xs,i,z,rfl,rfl,hq,he,q⟩:=h
 cases rx
 obtain ⟨t,rfl⟩:=ry
 obtain ⟨its,r,pl,hz⟩:=I.tuple hq
 obtain ⟨j,h1,h2,h3,h4,h5⟩:=atI_get he
 obtain ⟨w,ew,rw'⟩:=r.get h2
 have hl:=r.length
 have hn:=line63
 have fin:EP X pins σ Q w s:=⟨z,H,I,rw',q⟩
 exact subscriptTail_builtinR (x:=w) pl.typeIs slot_tuple_getitem.lookup
  (getItem_tuple (j:=j) (Q:=fun r s'=>r=w∧EP X pins σ Q r s') pl (by omega) (by omega) (by rw [List.size_toArray,← hl]; exact h1) (by simpa using ew) ⟨rfl,fin⟩) hs
theorem ix_str:IxR X rIxS:=by
 intro value slice pins s σ H x y v u Q I rx ry h hs
 obtain ⟨z,i,c,rfl,rfl,hz,he,q⟩:=h
 obtain ⟨t,rfl⟩:=rx
 obtain ⟨t',rfl⟩:=ry
 obtain ⟨j,h1,h2,h3,h4,h5⟩:=atI_get he
 have hl:z.cps.toList.length=z.length:=by simp [Str.length]
 rw [hl] at h1 h4 h5
 have hn:=line63
 exact tail_any (typeIs_str s z t) slot_str_getitem.lookup (getItem_str (c:=c) (by
  have e1:decide (i < -(2 ^ 63:Int))=false:=decide_eq_false (by omega)
  have e2:decide (i ≥ 2 ^ 63)=false:=decide_eq_false (by omega)
  rw [e1,e2,Bool.or_false]) (by rw [h1]; simpa using h2) ⟨.str ⟨#[c]⟩,H,I.tok _,⟨_,rfl⟩,q⟩) hs
def rIx (K:PySem.W.Frag):R2:=fun x y H Q=>rIxL K x y H Q∨rIxT K x y H Q∨rIxS x y H Q
theorem ix_seq:IxR X (rIx X.K):=ix_list.or (ix_tup.or ix_str)
theorem mapSeq_set (its:List Value) (n j:Nat) (u:Value):Obj.mapSeq (·.setIfInBounds j u) { cls:=.type "list",data:=.seq its.toArray n } = { cls:=.type "list",data:=.seq (its.set j u).toArray n }:=by
 simp [Obj.mapSeq]
theorem Inv.lst {pins:List (Addr×Obj)} {σ:St} {H:Hp} {s:Shared} {p:Addr} {xs:List V} (I:Inv X pins σ H s) (h:H p=some (.lst xs)) :
  ∃ (its:List Value) (n:Nat),Vals xs its∧s.heap.get? p=some { cls:=.type "list",data:=.seq its.toArray n }∧xs.length≤sizeLine:=by
 obtain ⟨z,its,n,r,e⟩:=I.hok p _ h
 exact ⟨its,n,r,e,z⟩
theorem Inv.lstUpd {pins:List (Addr×Obj)} {σ:St} {H:Hp} {s:Shared} {p:Addr} {xs ys:List V} {its its':List Value} {n n':Nat} {f:Obj→Obj} (I:Inv X pins σ H s) (h:H p=some (.lst xs))
  (ho:s.heap.get? p=some { cls:=.type "list",data:=.seq its.toArray n }) (hf:f { cls:=.type "list",data:=.seq its.toArray n } = { cls:=.type "list",data:=.seq its'.toArray n' }) (r:Vals ys its') (hz:ys.length≤sizeLine) (t:Nat) :
  Inv X pins σ (upd H p (.lst ys)) { s with heap:=s.heap.update p f,toks:=t }:=by
 have e:(s.heap.update p f).get? p=some { cls:=.type "list",data:=.seq its'.toArray n' }:=by
  rw [Heap.get?_update_self f ho (by rw [hf] <;> rfl),hf]
 refine I.write (x:=p) (e:=p) (by rw [h]; trivial) (.inl rfl) (fun b u hb q=>(Heap.get?_update_other _ _ (Ne.symm hb)).trans q) ⟨_,e⟩ ?_
 exact ⟨hz,its',n',r,e⟩
def rSetL:V→V→V→Hp→(Hp→Prop)→Prop:=fun o i v H Q=>∃ p xs k j,o = .ref p∧i = .int k∧H p=some (.lst xs)∧ixN xs.length k=some j∧Q (upd H p (.lst (xs.set j v)))
theorem set_list:PSet X rSetL:=by
 intro pins s σ H o i v ov iv u Q I ro ri rv h
 obtain ⟨p,xs,k,j,rfl,rfl,hp,hj,q⟩:=h
 cases ro
 obtain ⟨t,rfl⟩:=ri
 obtain ⟨its,n,r,ho,hz⟩:=I.lst hp
 obtain ⟨h1,h2,h3,h4⟩:=ixN_seq hj
 have hl:=r.length
 have hn:=line63
 have I':Inv X pins σ (upd H p (.lst (xs.set j v))) { s with heap:=s.heap.update p (Obj.mapSeq (·.setIfInBounds j u)) } :=
  I.lstUpd hp ho (mapSeq_set its n j u) (r.set rv j) (by rw [List.length_set]; exact hz) s.toks
 by_cases h0:0≤k
 ·have hk:k.toNat=j:=by
   rw [seqIndex_of h0 h4] at h1
   exact Option.some.inj h1
  exact PySem.W.ki_setAt ho h0 (by omega) (by rw [List.size_toArray,← hl]; exact h4) (by rw [hk]; exact ⟨_,I',q⟩)
 ·have hk:(k + (its.toArray.size:Int)).toNat=j:=by
   rw [seqIndex_neg (by omega) h3] at h1
   rw [List.size_toArray,← hl]
   exact Option.some.inj h1
  exact PySem.W.ki_setBack ho (by omega) (by rw [List.size_toArray,← hl]; exact h3) (by omega) (by rw [hk]; exact ⟨_,I',q⟩)
theorem slice_bounds (lo hi:Option Int) (n:Nat):(sliceBounds lo hi none n).1=((HT.sIx n 0 lo:Nat):Int)∧(sliceBounds lo hi none n).2.1=((HT.sIx n n hi:Nat):Int)∧(sliceBounds lo hi none n).2.2=1:=by
 refine ⟨?_,?_,rfl⟩
 ·cases lo with
  | none=>simp [sliceBounds,HT.sIx]
  | some i =>
   simp only [sliceBounds,HT.sIx,Option.getD_none,show (1:Int) > 0 by decide,if_true]
   by_cases h:i < 0
   ·simp only [h,if_true] <;> omega
   ·simp only [h,if_false] <;> omega
 ·cases hi with
  | none=>simp [sliceBounds,HT.sIx]
  | some i =>
   simp only [sliceBounds,HT.sIx,Option.getD_none,show (1:Int) > 0 by decide,if_true]
   by_cases h:i < 0
   ·simp only [h,if_true] <;> omega
   ·simp only [h,if_false] <;> omega
theorem slicePick_cut (its:List Value) (lo hi:Option Int):slicePick its.toArray lo hi none=((its.drop (HT.sIx its.length 0 lo)).take (HT.sIx its.length its.length hi - HT.sIx its.length 0 lo)).toArray:=by
 obtain ⟨h1,h2,h3⟩:=slice_bounds lo hi its.toArray.size
 unfold slicePick
 rw [h1,h2,h3]
 simp only [sliceRange_one,pick_run,List.size_toArray] <;> rfl
def rSlL (K:PySem.W.Frag):V→Option Int→Option Int→Hp→VK→Prop:=fun x lo hi H Q=>∃ a xs,x = .ref a∧SqL K H a xs∧∀ p,H p=none→Q (.ref p) (upd H p (.lst (cutV xs lo hi)))
theorem sl_list:SlR X (rSlL X.K):=by
 intro pins s σ H x v vl vu lo hi sl Q I rx hs pl pu h
 obtain ⟨a,xs,rfl,hx,q⟩:=h
 cases rx
 obtain ⟨its,r,ht,hz⟩:=I.list hx
 have hlen:=r.length
 refine ⟨"list",_,slot_list_getitem.lookup,ht.isList.typeIs,?_⟩
 refine wpAny_getItem_list_slice ht.isList hs pl pu .none (by simp) ?_ (by rw [List.size_toArray] <;> omega)
 rw [slicePick_cut,← hlen]
 refine ⟨.ref s.heap.objs.size,_,I.laid (t':=s.toks) (o:=.lst (cutV xs lo hi)) (fun b ob q=>Heap.get?_push_of_some _ q) (Nat.le_refl _) ?_,rfl,q _ (I.hok.fresh (Nat.le_refl _))⟩
 exact ⟨Nat.le_trans (cutV_length xs lo hi) hz,_,0,(r.drop (HT.sIx xs.length 0 lo)).take (HT.sIx xs.length xs.length hi - HT.sIx xs.length 0 lo),Heap.get?_push_size _ rfl⟩
def flatV:V→Bool
 | .non=>true
 | .bl _=>true
 | .int _=>true
 | .str _=>true
 | _=>false
def eqV:V→V→Bool
 | .non,.non=>true
 | .bl a,.bl b=>a == b
 | .bl a,.int b=>(if a then 1 else 0) == b
 | .int a,.bl b=>a == (if b then 1 else 0)
 | .int a,.int b=>a == b
 | .str a,.str b=>a == b
 | _,_=>false
theorem eqAt_V {A:Around} {s:Shared} {y x:V} {u v:Value} (ry:RelV y u) (rx:RelV x v) (fy:flatV y=true) (fx:flatV x=true):SeqAt.EqAt A s u v (eqV y x):=by
 cases y with
 | non =>
  cases ry
  cases x with
  | non=>cases rx; exact SeqAt.EqAt.same _
  | bl b=>cases rx; exact SeqAt.EqAt.none_bool b
  | int b=>obtain ⟨t,rfl⟩:=rx; exact SeqAt.EqAt.none_int b t
  | str b=>obtain ⟨t,rfl⟩:=rx; exact SeqAt.EqAt.none_str b t
  | _=>exact absurd (show false=true from fx) Bool.false_ne_true
 | bl a =>
  cases ry
  cases x with
  | non=>cases rx; exact SeqAt.EqAt.bool_none a
  | bl b=>cases rx; exact SeqAt.EqAt.bool_bool a b
  | int b=>obtain ⟨t,rfl⟩:=rx; exact SeqAt.EqAt.bool_int a b t
  | str b=>obtain ⟨t,rfl⟩:=rx; exact SeqAt.EqAt.bool_str a b t
  | _=>exact absurd (show false=true from fx) Bool.false_ne_true
 | int a =>
  obtain ⟨t',rfl⟩:=ry
  cases x with
  | non=>cases rx; exact SeqAt.EqAt.int_none a t'
  | bl b=>cases rx; exact SeqAt.EqAt.int_bool a t' b
  | int b=>obtain ⟨t,rfl⟩:=rx; exact SeqAt.EqAt.int_int a t' b t
  | str b=>obtain ⟨t,rfl⟩:=rx; exact SeqAt.EqAt.int_str a t' b t
  | _=>exact absurd (show false=true from fx) Bool.false_ne_true
 | str a =>
  obtain ⟨t',rfl⟩:=ry
  cases x with
  | non=>cases rx; exact SeqAt.EqAt.str_none a t'
  | bl b=>cases rx; exact SeqAt.EqAt.str_bool a t' b
  | int b=>obtain ⟨t,rfl⟩:=rx; exact SeqAt.EqAt.str_int a t' b t
  | str b=>obtain ⟨t,rfl⟩:=rx; exact SeqAt.EqAt.str_str a t' b t
  | _=>exact absurd (show false=true from fx) Bool.false_ne_true
 | _=>exact absurd (show false=true from fy) Bool.false_ne_true
def eqU (x:V) (u:Value):Bool:=match u with
 | .none=>eqV .non x
 | .bool b=>eqV (.bl b) x
 | .int i _=>eqV (.int i) x
 | .str z _=>eqV (.str z) x
 | _=>false
theorem eqU_of {x y:V} {u:Value} (r:RelV y u) (f:flatV y=true):eqU x u=eqV y x:=by
 cases y with
 | non=>cases r; rfl
 | bl b=>cases r; rfl
 | int i=>obtain ⟨t,rfl⟩:=r; rfl
 | str z=>obtain ⟨t,rfl⟩:=r; rfl
 | _=>exact absurd (show false=true from f) Bool.false_ne_true
theorem any_eqU {x:V}:∀ {xs:List V} {us:List Value},Vals xs us→xs.all flatV=true→us.any (eqU x)=xs.any fun y=>eqV y x
 | _,_,.nil,_=>rfl
 | y :: xs,u :: us,.cons r t,f=>by
  rw [List.all_cons,Bool.and_eq_true] at f
  rw [List.any_cons,List.any_cons,eqU_of r f.1,any_eqU t f.2]
theorem mem_eqAt {A:Around} {s:Shared} {x:V} {v:Value} (rx:RelV x v) (fx:flatV x=true):∀ {xs:List V} {us:List Value},Vals xs us→xs.all flatV=true→∀ u ∈ us,SeqAt.EqAt A s u v (eqU x u)
 | _,_,.nil,_=>fun u hu=>by cases hu
 | y :: xs,u :: us,.cons r t,f=>fun u' hu=>by
  rw [List.all_cons,Bool.and_eq_true] at f
  rcases List.mem_cons.mp hu with rfl | hu
  ·rw [eqU_of r f.1]; exact eqAt_V r rx f.1 fx
  ·exact mem_eqAt rx fx t f.2 u' hu
def inV (x:V) (xs:List V):Bool:=xs.any fun y=>eqV y x
def rIn (K:PySem.W.Frag) (neg:Bool):R2:=fun x y H Q=>∃ p xs,y = .ref p∧(SqL K H p xs∨SqT K H p xs)∧flatV x=true∧xs.all flatV=true∧Q (.bl (if neg then !inV x xs else inV x xs)) H
theorem op_in_seq:OpR X (compareOp .In) (rIn X.K false):=by
 intro pins s σ H x y v u Q I rx ry h
 obtain ⟨p,xs,rfl,hq,fx,fs,q⟩:=h
 cases ry
 rcases hq with hq | hq
 ·obtain ⟨its,r,pl,hz⟩:=I.list hq
  refine SeqAt.in_listAt (eqU x) pl.isList (fun w hw=>mem_eqAt rx fx r fs w (by simpa using hw)) ⟨.bl _,H,I,rfl,?_⟩
  rw [show its.toArray.any (eqU x)=its.any (eqU x) by simp,any_eqU r fs]
  exact q
 ·obtain ⟨its,r,pl,hz⟩:=I.tuple hq
  refine SeqAt.in_tupleAt (eqU x) pl (fun w hw=>mem_eqAt rx fx r fs w (by simpa using hw)) ⟨.bl _,H,I,rfl,?_⟩
  rw [show its.toArray.any (eqU x)=its.any (eqU x) by simp,any_eqU r fs]
  exact q
theorem call_len_seq:CallR X (.builtin "len") (fun xs H Q=>∃ p ys,xs=[.ref p]∧(SqL X.K H p ys∨SqT X.K H p ys)∧Q (.int ys.length) H):=by
 intro pins s σ H xs us Q I r h
 obtain ⟨p,ys,rfl,hq,q⟩:=h
 obtain ⟨u,rfl,rx⟩:=vals1 r
 cases rx
 have hn:=line63
 rcases hq with hq | hq
 ·obtain ⟨its,r',pl,hz⟩:=I.list hq
  have hlen:=r'.length
  exact Calls.call_len_list pl.isList (by simp only [List.size_toArray] <;> omega) ⟨.int ys.length,H,I.tok _,⟨s.toks + 1,by rw [List.size_toArray,hlen]⟩,q⟩
 ·obtain ⟨its,r',pl,hz⟩:=I.tuple hq
  have hlen:=r'.length
  exact len_tuple pl (by simp only [List.size_toArray] <;> omega) ⟨.int ys.length,H,I.tok _,⟨s.toks + 1,by rw [List.size_toArray,hlen]⟩,q⟩
theorem call_len_str:CallR X (.builtin "len") (fun xs H Q=>∃ z,xs=[.str z]∧z.length≤sizeLine∧Q (.int z.length) H):=by
 intro pins s σ H xs us Q I r h
 obtain ⟨z,rfl,hz,q⟩:=h
 obtain ⟨u,rfl,t,rfl⟩:=vals1 r
 have hn:=line63
 exact len_str (by omega) ⟨.int z.length,H,I.tok _,⟨_,rfl⟩,q⟩
theorem CallR.or {f:Value} {r r':List V→Hp→VK→Prop} (h:CallR X f r) (h':CallR X f r'):CallR X f (fun xs H Q=>r xs H Q∨r' xs H Q):=by
 intro pins s σ H xs us Q I rs q
 rcases q with q | q
 ·exact h pins s σ H xs us Q I rs q
 ·exact h' pins s σ H xs us Q I rs q
theorem call_list_of:CallR X (.type "list") (fun xs H Q=>∃ p ys,xs=[.ref p]∧(SqL X.K H p ys∨SqT X.K H p ys)∧∀ l,H l=none→Q (.ref l) (upd H l (.lst ys))):=by
 intro pins s σ H xs us Q I r h
 obtain ⟨p,ys,rfl,hq,q⟩:=h
 obtain ⟨u,rfl,rx⟩:=vals1 r
 cases rx
 have fin:∀ (its:List Value),Vals ys its→ys.length≤sizeLine→∀ (h':Heap) (c':Nat),(∀ b o',s.heap.get? b=some o'→h'.get? b=some o') →
   h'.get? s.heap.objs.size=some { cls:=.type "list",dict:=none,data:=.seq its.toArray c',slots:=#[] }→EP X pins σ Q (.ref s.heap.objs.size) { s with heap:=h' }:=fun its r' hz h' c' kp e =>
  ⟨.ref s.heap.objs.size,_,I.laid (t':=s.toks) kp (Nat.le_refl _) (show ObjOk X.prog X.w _ h' _ (.lst ys) from ⟨hz,its,c',r',e⟩),rfl,q _ (I.hok.fresh (Nat.le_refl _))⟩
 rcases hq with hq | hq
 ·obtain ⟨its,r',pl,hz⟩:=I.list hq
  have hlen:=r'.length
  obtain ⟨o,ho,hc,n,hd⟩:=pl.isList
  exact call_list_seq p (.inl rfl) ho hc hd (fun h' c' kp e=>fin its r' hz h' c' kp e) (by simp only [List.size_toArray] <;> omega)
 ·obtain ⟨its,r',pl,hz⟩:=I.tuple hq
  have hlen:=r'.length
  obtain ⟨o,ho,hc,n,hd⟩:=pl
  exact call_list_seq p (.inr rfl) ho hc hd (fun h' c' kp e=>fin its r' hz h' c' kp e) (by simp only [List.size_toArray] <;> omega)
theorem call_tuple_of:CallR X (.type "tuple") (fun xs H Q=>∃ p ys,xs=[.ref p]∧((SqL X.K H p ys∧∀ l,H l=none→Q (.ref l) (upd H l (.tup ys)))∨(SqT X.K H p ys∧Q (.ref p) H))):=by
 intro pins s σ H xs us Q I r h
 obtain ⟨p,ys,rfl,h⟩:=h
 obtain ⟨u,rfl,rx⟩:=vals1 r
 cases rx
 rcases h with ⟨hq,q⟩ | ⟨hq,q⟩
 ·obtain ⟨its,r',pl,hz⟩:=I.list hq
  have hlen:=r'.length
  refine call_tuple_list pl.isList (fun h' kp=>?_) (by simp only [List.size_toArray] <;> omega)
  have I1:Inv X pins σ H { s with heap:=h' }:=I.kept (t':=s.toks) kp
  have I2:Inv X pins σ (upd H h'.objs.size (.tup ys)) { s with heap:=h'.push { cls:=.type "tuple",data:=.seq its.toArray } } :=
   I1.laid (t':=s.toks) (fun b o e=>Heap.get?_push_of_some _ e) (Nat.le_refl _) (show ObjOk X.prog X.w _ _ _ (.tup ys) from ⟨hz,its,r',IsTupN.new _ _⟩)
  exact ⟨.ref h'.objs.size,_,I2,rfl,q _ (I1.hok.fresh (Nat.le_refl _))⟩
 ·obtain ⟨its,r',pl,hz⟩:=I.tuple hq
  exact call_tuple_same pl ⟨.ref p,H,I,rfl,q⟩
def tyV (K:PySem.W.Frag) (T:String) (x:V) (H:Hp):Prop:=match x with
 | .str _=>T = "str"
 | .int _=>T = "int"
 | .ref p=>(T = "list"∧∃ xs,SqL K H p xs)∨(T = "tuple"∧∃ o,K.lookup p=some o∧o.cls = .type "tuple"∧o.dict=none) ∨
   (T = "dict"∧((∃ kvs,H p=some (.dK kvs))∨∃ kvs,H p=some (.dT kvs)))∨(T = "set"∧∃ S n,H p=some (.set S n))
 | _=>False
theorem tyV_is {pins:List (Addr×Obj)} {σ:St} {H:Hp} {s:Shared} {T:String} {x:V} {v:Value} (I:Inv X pins σ H s) (r:RelV x v) (ty:tyV X.K T x H) :
  s.TypeIs v T∧∀ a,v = .ref a→∃ ob,s.heap.get? a=some ob∧ob.dict=none:=by
 cases x with
 | str z =>
  obtain ⟨t,rfl⟩:=r
  cases (show T = "str" from ty)
  exact ⟨typeIs_str s z t,fun _ e=>nomatch e⟩
 | int i =>
  obtain ⟨t,rfl⟩:=r
  cases (show T = "int" from ty)
  exact ⟨typeIs_int s i t,fun _ e=>nomatch e⟩
 | ref p =>
  cases r
  rcases ty with ⟨rfl,xs,hq⟩ | ⟨rfl,o,hk,hc,hd⟩ | ⟨rfl,hk⟩ | ⟨rfl,S,n,hk⟩
  ·obtain ⟨its,_,pl,_⟩:=I.list hq
   refine ⟨pl.isList.typeIs,fun a e=>?_⟩
   cases e
   obtain ⟨o,n,e,c,hd,_⟩:=pl
   exact ⟨o,e,hd⟩
  ·refine ⟨⟨o,I.kIn p o hk,hc⟩,fun a e=>?_⟩
   cases e
   exact ⟨o,I.kIn _ o hk,hd⟩
  ·have z:∃ o,s.heap.get? p=some o∧o.ExactDict:=by
    rcases hk with ⟨kvs,hk⟩ | ⟨kvs,hk⟩
    ·obtain ⟨_,_,_,_,o,_,_,e,ex,_⟩:=I.hok p _ hk
     exact ⟨o,e,ex⟩
    ·obtain ⟨_,_,_,_,o,_,_,e,ex,_⟩:=I.hok p _ hk
     exact ⟨o,e,ex⟩
   obtain ⟨o,e,ex⟩:=z
   refine ⟨⟨o,e,ex.1⟩,fun a e2=>?_⟩
   cases e2
   exact ⟨o,e,ex.2.1⟩
  ·obtain ⟨o,_,_,_,e,ex,_⟩:=I.hok p _ hk
   refine ⟨⟨o,e,ex.1⟩,fun a e2=>?_⟩
   cases e2
   exact ⟨o,e,ex.2.1⟩
 | _=>exact False.elim ty
def tBM (K:PySem.W.Frag) (T:String) (r:V→List V→Hp→VK→Prop) (to:TE) (t:TA):TE:=fun σ H Q=>to σ H fun x H1=>tyV K T x H1∧t σ H1 fun xs H2=>r x xs H2 Q
variable {o e:Expr} {es:List Expr} {to:TE} {t:TA} {name:Str} {apos cpos:Pos} {T id:String} {r:V→List V→Hp→VK→Prop}
theorem pe_bm (pa:PlainAttrs T) (slot:Slot T name id) (hty:typeOf (.builtin id)=pure (.type "method_descriptor")) (hm:MtR X id r) (ho:PE X o to) (ha:PA X (e :: es) t)
  (hbase:attributeBase o name X.env (eval o X.env)=eval o X.env:=by rfl)
  (hfew:((backTo cpos (starEach (e :: es) X.env)).all (fun x=>!x.1) && (backToKw cpos (keywordEach [] X.env)).all (fun x=>x.1.isSome)
   && decide ((e :: es).length + ([]:List Keyword).length + (if ([]:List Keyword).isEmpty then 0 else 1) < 30))=true:=by rfl)
  (hline:(apos.endLine == cpos.line)=true:=by rfl) (hs:starEach (e :: es) X.env=(false,eval e X.env) :: starEach es X.env:=by rfl) (hplain:(backTo cpos (starEach es X.env)).any (·.1)=false:=by rfl) :
  PE X (.Call (.Attribute o name apos) (e :: es) [] cpos) (tBM X.K T r to t):=by
 intro pins s σ H Q I h
 refine wpAny_Call_method_late hbase hfew hline rfl (thn (ho pins s σ H _ I h) fun v s1 ⟨x,H1,I1,r1,ty,q1⟩=>?_)
 obtain ⟨h1,h2⟩:=tyV_is I1 r1 ty
 refine ⟨T,id,pa,slot,hty,h1,h2,?_⟩
 have hA:=ha cpos pins s1 σ H1 _ I1 q1
 rw [hs] at hA ⊢
 refine Calls.callWith_builtin (by show (false || (backTo cpos (starEach es X.env)).any (·.1))=false; rw [hplain] <;> rfl) (Calls.evalArgs_plain ?_)
 exact thn hA fun us s2 ⟨vs,H2,I2,r2,q2⟩=>hm pins s2 σ H2 x vs v us Q I2 r1 r2 q2
/- xs.append(e), list.index on a module's tuple .. are MtR facts of 06m -/
end
open PySem PySem.Spec PyProof.Rows
def MtM (X:Cx) (id:String) (r:V→List V→Hp→VK→Prop):Prop :=
 ∀ (pins:List (Addr×Obj)) (s:Shared) (σ:St) (H:Hp) (x:V) (xs:List V) (v:Value) (us:List Value) (Q:VK),Inv X pins σ H s→RelV x v→Vals xs us→r x xs H Q →
  wpAny (model X.prog X.w) X.A (call (.builtin id) (v :: us)) (EP X pins σ Q) X.xe s
theorem Vals.one:∀ {x:V} {us:List Value},Vals [x] us→∃ u,us=[u]∧RelV x u
 | _,_,.cons r .nil=>⟨_,rfl,r⟩
theorem Vals.two:∀ {x y:V} {us:List Value},Vals [x,y] us→∃ u v,us=[u,v]∧RelV x u∧RelV y v
 | _,_,_,.cons r (.cons q .nil)=>⟨_,_,rfl,r,q⟩
theorem Vals.zero:∀ {us:List Value},Vals [] us→us=[]
 | _,.nil=>rfl
theorem Vals.reverse {xs:List V} {us:List Value} (h:Vals xs us):Vals xs.reverse us.reverse:=by
 induction h with
 | nil=>exact .nil
 | cons r t ih=>rw [List.reverse_cons,List.reverse_cons]; exact Vals.append ih (.cons r .nil)
theorem Vals.rep {xs:List V} {us:List Value} (h:Vals xs us):∀ k:Nat,Vals (List.replicate k xs).flatten (List.replicate k us).flatten
 | 0=>.nil
 | k + 1=>by
  rw [List.replicate_succ,List.replicate_succ,List.flatten_cons,List.flatten_cons]
  exact Vals.append h (Vals.rep h k)
theorem foldl_rep (its:List Value):∀ (k:Nat) (acc:List Value),
  List.foldl (fun x1 x2=>x1 ++ x2) acc.toArray (List.replicate k its.toArray)=(acc ++ (List.replicate k its).flatten).toArray
 | 0,acc=>by simp
 | k + 1,acc=>by
  have e:acc.toArray ++ its.toArray=(acc ++ its).toArray:=by simp
  have e2:(acc ++ its) ++ (List.replicate k its).flatten=acc ++ (List.replicate (k + 1) its).flatten:=by
   rw [List.replicate_succ,List.flatten_cons,List.append_assoc]
  rw [← e2,← foldl_rep its k (acc ++ its),← e,List.replicate_succ,List.foldl_cons]
section
variable {X:Cx} {pins:List (Addr×Obj)} {σ:St} {H:Hp} {s:Shared} {l b:Addr} {xs ys zs:List V}
theorem Inv.lset {its its':List Value} {n:Nat} {f:Array Value→Array Value} {t':Nat} (I:Inv X pins σ H s) (hH:H l=some (.lst xs))
  (e:s.heap.get? l=some { cls:=.type "list",data:=.seq its.toArray n }) (hf:f its.toArray=its'.toArray) (hv:Vals ys its') (hz:ys.length≤sizeLine) :
  Inv X pins σ (upd H l (.lst ys)) { s with heap:=s.heap.update l (Obj.mapSeq f),toks:=t' }:=by
 have q:=PySem.IsL.update e f
 rw [hf] at q
 refine I.write (x:=l) (e:=l) (by rw [hH]; exact trivial) (.inl rfl) (fun b' u hb hu=>(Heap.get?_update_other s.heap (Obj.mapSeq f) (Ne.symm hb)).trans hu) ⟨_,q⟩ ?_
 exact ⟨hz,its',_,hv,q⟩
theorem Inv.lnew {its:List Value} {t':Nat} (I:Inv X pins σ H s) (hv:Vals ys its) (hz:ys.length≤sizeLine) :
  Inv X pins σ (upd H s.heap.objs.size (.lst ys)) { s with heap:=s.heap.push { cls:=.type "list",data:=.seq its.toArray },toks:=t' } :=
 I.laid (fun _ _ q=>Heap.get?_push_of_some _ q) (Nat.le_refl _) ⟨hz,its,0,hv,Heap.get?_push_size _ rfl⟩
theorem Inv.fresh (I:Inv X pins σ H s):H s.heap.objs.size=none:=I.hok.fresh (Nat.le_refl _)
theorem Inv.lstM (I:Inv X pins σ H s) (hH:H l=some (.lst xs)):xs.length≤sizeLine∧∃ (its:List Value) (n:Nat),Vals xs its∧xs.length=its.length∧s.heap.get? l=some { cls:=.type "list",data:=.seq its.toArray n }:=by
 obtain ⟨z,its,n,r,e⟩:=I.hok l _ hH
 exact ⟨z,its,n,r,r.length,e⟩
end
section
variable {X:Cx}
def rAppend:V→List V→Hp→VK→Prop:=fun x vs H Q=>∃ l xs y,x = .ref l∧vs=[y]∧H l=some (.lst xs)∧xs.length < sizeLine∧Q .non (upd H l (.lst (xs ++ [y])))
theorem mt_append:MtM X "list.append" rAppend:=by
 intro pins s σ H x vs v us Q I rx rv h
 obtain ⟨l,xs,y,rfl,rfl,hH,hz,q⟩:=h
 cases rx
 obtain ⟨u,rfl,ru⟩:=rv.one
 obtain ⟨z,its,n,r,hl,e⟩:=I.lstM hH
 refine call_meets F.slot_list_append ⟨_,e,rfl⟩ F.entry_list_append (F.args_list_append_2 _ _) (PySem.list_append l its.toArray n u (by rw [List.size_toArray]; omega)) ⟨e,?_⟩
 refine ⟨.non,_,I.lset (its':=its ++ [u]) hH e (by simp) (r.append (.cons ru .nil)) ?_,rfl,q⟩
 rw [List.length_append,List.length_singleton]
 omega
theorem len_rep {α:Type} (xs:List α) (k:Nat):(List.replicate k xs).flatten.length=k * xs.length:=by
 induction k with
 | zero=>simp
 | succ k ih=>rw [List.replicate_succ,List.flatten_cons,List.length_append,ih,Nat.succ_mul,Nat.add_comm]
end
section
variable {prog:Program} {w:World} {A:Around} {E:Value→Shared→Prop} {s:Shared}
set_option maxRecDepth 100000 in
end
section
variable {X:Cx}
end
open PySem PySem.Spec PyProof.Rows
section
variable {κ:Type} [DecidableEq κ]
def valV (kvs:List (κ×V)) (k:κ):Option V:=(kvs.find? fun kv=>decide (kv.1=k)).map (·.2)
def putK (kvs:List (κ×V)) (k:κ) (v:V):List (κ×V) :=
 if (kvs.any fun kv=>decide (kv.1=k))=true then kvs.map (fun kv=>if kv.1=k then (kv.1,v) else kv) else kvs ++ [(k,v)]
def dropK (kvs:List (κ×V)) (k:κ):List (κ×V):=kvs.filter fun kv=>decide (kv.1≠k)
theorem valV_pos {p:κ×V} {r:List (κ×V)} {k:κ} (e:p.1=k):valV (p :: r) k=some p.2:=by simp [valV,List.find?_cons,e]
theorem valV_neg {p:κ×V} {r:List (κ×V)} {k:κ} (e:¬ p.1=k):valV (p :: r) k=valV r k:=by simp [valV,List.find?_cons,e]
theorem valV_any (k:κ):∀ kvs:List (κ×V),(kvs.any fun kv=>decide (kv.1=k))=(valV kvs k).isSome
 | []=>rfl
 | p :: r=>by
  rw [List.any_cons]
  by_cases e:p.1=k
  ·simp only [valV_pos e,decide_eq_true e,Bool.true_or,Option.isSome_some]
  ·rw [valV_neg e,decide_eq_false e,Bool.false_or]; exact valV_any k r
theorem length_putK (kvs:List (κ×V)) (k:κ) (v:V):(putK kvs k v).length≤kvs.length + 1:=by
 unfold putK
 split
 ·rw [List.length_map]; omega
 ·rw [List.length_append,List.length_cons,List.length_nil]; omega
theorem RelO.isSome_eq {o:Option V} {u:Option Value} (r:RelO o u):o.isSome=u.isSome:=by
 cases o with
 | none=>cases u with
  | none=>rfl
  | some _=>exact (show False from r).elim
 | some _=>cases u with
  | none=>exact (show False from r).elim
  | some _=>rfl
theorem RelO.getD {o:Option V} {u:Option Value} {d:V} {d':Value} (r:RelO o u) (rd:RelV d d'):RelV (o.getD d) (u.getD d'):=by
 cases o with
 | none=>cases u with
  | none=>exact rd
  | some _=>exact (show False from r).elim
 | some _=>cases u with
  | none=>exact (show False from r).elim
  | some _=>exact r
theorem KV.val {kvs:List (κ×V)} {vs:List (κ×Value)} (r:KV kvs vs) (k:κ):RelO (valV kvs k) (valueAt vs k):=by
 unfold KV at r
 induction r with
 | nil=>exact True.intro
 | @cons p q ps qs h t ih =>
  obtain ⟨h1,h2⟩:=h
  by_cases e:p.1=k
  ·have e':q.1=k:=h1.symm.trans e
   have b:valueAt (q :: qs) k=some q.2:=by simp [valueAt,List.find?_cons,e']
   rw [valV_pos e,b]; exact h2
  ·have e':¬ q.1=k:=fun z=>e (h1.trans z)
   have b:valueAt (q :: qs) k=valueAt qs k:=by simp [valueAt,List.find?_cons,e']
   rw [valV_neg e,b]; exact ih
theorem KV.any {kvs:List (κ×V)} {vs:List (κ×Value)} (r:KV kvs vs) (k:κ):(kvs.any fun kv=>decide (kv.1=k))=vs.any fun kv=>decide (kv.1=k):=by
 unfold KV at r
 induction r with
 | nil=>rfl
 | cons h t ih=>rw [List.any_cons,List.any_cons,ih,h.1]
theorem KV.repl {kvs:List (κ×V)} {vs:List (κ×Value)} (r:KV kvs vs) (k:κ) {y:V} {u:Value} (ry:RelV y u) :
  KV (kvs.map fun kv=>if kv.1=k then (kv.1,y) else kv) (vs.map fun kv=>if kv.1=k then (kv.1,u) else kv):=by
 unfold KV at r ⊢
 induction r with
 | nil=>exact .nil
 | @cons p q ps qs h t ih =>
  rw [List.map_cons,List.map_cons]
  refine .cons ?_ ih
  obtain ⟨h1,h2⟩:=h
  by_cases e:p.1=k
  ·rw [if_pos e,if_pos (h1.symm.trans e)]; exact ⟨h1,ry⟩
  ·rw [if_neg e,if_neg (fun z=>e (h1.trans z))]; exact ⟨h1,h2⟩
theorem KV.put {kvs:List (κ×V)} {vs:List (κ×Value)} (r:KV kvs vs) (k:κ) {y:V} {u:Value} (ry:RelV y u):KV (putK kvs k y) (stored vs k u):=by
 unfold putK stored
 rw [r.any k]
 by_cases e:(vs.any fun kv=>decide (kv.1=k))=true
 ·rw [if_pos e,if_pos e]; exact r.repl k ry
 ·rw [if_neg e,if_neg e]; exact Paired.snoc r ⟨rfl,ry⟩
theorem KV.drop {kvs:List (κ×V)} {vs:List (κ×Value)} (r:KV kvs vs) (k:κ):KV (dropK kvs k) (without vs k):=by
 unfold KV at r ⊢
 unfold dropK without
 induction r with
 | nil=>exact .nil
 | @cons p q ps qs h t ih =>
  obtain ⟨h1,h2⟩:=h
  rw [List.filter_cons,List.filter_cons]
  by_cases e:p.1=k
  ·have a:¬ decide (p.1≠k)=true:=by simp [e]
   have b:¬ decide (q.1≠k)=true:=by simp [h1.symm.trans e]
   rw [if_neg a,if_neg b]; exact ih
  ·have e':¬ q.1=k:=fun z=>e (h1.trans z)
   have a:decide (p.1≠k)=true:=by simp [e]
   have b:decide (q.1≠k)=true:=by simp [e']
   rw [if_pos a,if_pos b]; exact .cons ⟨h1,h2⟩ ih
theorem KV.keys {kvs:List (κ×V)} {vs:List (κ×Value)} (r:KV kvs vs):kvs.map (·.1)=vs.map (·.1):=by
 unfold KV at r
 induction r with
 | nil=>rfl
 | cons h t ih=>rw [List.map_cons,List.map_cons,ih,h.1]
theorem KV.length {kvs:List (κ×V)} {vs:List (κ×Value)} (r:KV kvs vs):kvs.length=vs.length:=Paired.length r
end
theorem kV_is {P:Program} {w:World} {k:Key} {u:Value} (r:RelV (kV k) u):(mixKind P w).is k u=true:=by
 cases k with
 | inl i=>obtain ⟨t,e⟩:=(show ∃ t,u=Value.int i t from r); subst e; exact mixKind_int P w i t
 | inr x=>obtain ⟨t,e⟩:=(show ∃ t,u=Value.str x t from r); subst e; exact mixKind_str P w x t
theorem items_are {P:Program} {w:World}:∀ {ks:List Key} {us:List Value},Vals (ks.map kV) us→ItemsAre (mixKind P w) ks us
 | [],_,r=>by rw [List.map_nil] at r; cases r; exact .nil
 | k :: ks,_,r=>by
  rw [List.map_cons] at r
  cases r with
  | cons h t=>exact .cons (kV_is h) (items_are t)
abbrev KT (H:Hp):List (List Key×V)→List (List Key×Addr×Value)→Prop:=Paired fun p q=>p.1=q.1∧H q.2.1=some (.tup (p.1.map kV))∧RelV p.2 q.2.2
theorem KT.val {H:Hp} {kvs:List (List Key×V)} {xs:List (List Key×Addr×Value)} (r:KT H kvs xs) (k:List Key):RelO (valV kvs k) ((atKey xs k).map (·.2)):=by
 induction r with
 | nil=>exact True.intro
 | @cons p q ps qs h t ih =>
  obtain ⟨h1,_,h2⟩:=h
  by_cases e:p.1=k
  ·have e':q.1=k:=h1.symm.trans e
   have b:atKey (q :: qs) k=some q.2:=by simp [atKey,List.find?_cons,e']
   rw [valV_pos e,b]; exact h2
  ·have e':¬ q.1=k:=fun z=>e (h1.trans z)
   have b:atKey (q :: qs) k=atKey qs k:=by simp [atKey,List.find?_cons,e']
   rw [valV_neg e,b]; exact ih
theorem KT.repl {H:Hp} {kvs:List (List Key×V)} {xs:List (List Key×Addr×Value)} (r:KT H kvs xs) (k:List Key) {y:V} {u:Value} (ry:RelV y u) :
  KT H (kvs.map fun kv=>if kv.1=k then (kv.1,y) else kv) (xs.map (putAt k u)):=by
 induction r with
 | nil=>exact .nil
 | @cons p q ps qs h t ih =>
  rw [List.map_cons,List.map_cons]
  refine .cons ?_ ih
  obtain ⟨h1,h2,h3⟩:=h
  unfold putAt
  by_cases e:p.1=k
  ·rw [if_pos e,if_pos (h1.symm.trans e)]; exact ⟨h1,h2,ry⟩
  ·rw [if_neg e,if_neg (fun z=>e (h1.trans z))]; exact ⟨h1,h2,h3⟩
theorem KT.put {H:Hp} {kvs:List (List Key×V)} {xs:List (List Key×Addr×Value)} (r:KT H kvs xs) (k:List Key) {b:Addr} {y:V} {u:Value} (hb:H b=some (.tup (k.map kV))) (ry:RelV y u) :
  KT H (putK kvs k y) (storedH xs k b u):=by
 have e:(kvs.any fun kv=>decide (kv.1=k))=(atKey xs k).isSome:=by
  rw [valV_any,(r.val k).isSome_eq,Option.isSome_map]
 unfold putK storedH
 rw [e]
 by_cases q:(atKey xs k).isSome=true
 ·rw [if_pos q,if_pos q]; exact r.repl k ry
 ·rw [if_neg q,if_neg q]; exact Paired.snoc r ⟨rfl,hb,ry⟩
theorem KT.keeps {H H':Hp} {kvs:List (List Key×V)} {xs:List (List Key×Addr×Value)} (r:KT H kvs xs) (ht:∀ b ys,H b=some (.tup ys)→H' b=some (.tup ys)):KT H' kvs xs :=
 Paired.mapP r fun _ _ z=>⟨z.1,ht _ _ z.2.1,z.2.2⟩
section
variable {P:Program} {w:World} {H:Hp} {h:Heap} {a:Addr}
theorem rd_of {u:HO} (ok:HOk P w H h) (e:Rd H a u):ObjOk P w H h a u:=e.ok ok
theorem dk_rd {kvs:List (Key×V)} (ok:HOk P w H h) (e:Rd H a (.dK kvs)):kvs.length≤sizeLine∧(a == sysModules)=false∧∃ vs,KV kvs vs∧h.DictOf (mixKind P w) a vs :=
 show ObjOk P w H h a (.dK kvs) from rd_of ok e
theorem dk_of {kvs:List (Key×V)} (ok:HOk P w H h) (e:H a=some (.dK kvs)):kvs.length≤sizeLine∧(a == sysModules)=false∧∃ vs,KV kvs vs∧h.DictOf (mixKind P w) a vs:=dk_rd ok (.inl e)
theorem key_of {ks:List Key} (ok:HOk P w H h) (e:H a=some (.tup (ks.map kV))):(tupleKind (mixKind P w)).is h ks a:=by
 obtain ⟨_,its,r,p⟩:=(show ObjOk P w H h a (.tup (ks.map kV)) from ok a _ e)
 obtain ⟨o,h1,h2,n,h3⟩:=p.tup
 exact ⟨o,its.toArray,n,h1,h2,h3,by simpa using items_are r⟩
theorem dt_rd {kvs:List (List Key×V)} (ok:HOk P w H h) (e:Rd H a (.dT kvs)):kvs.length≤sizeLine∧(a == sysModules)=false ∧
  ∃ xs,KT H kvs xs∧h.DictOfH (tupleKind (mixKind P w)) a xs:=by
 obtain ⟨z,y,xs,r,o,es,ep,h1,h2,h3,h4,h5⟩:=(show ObjOk P w H h a (.dT kvs) from rd_of ok e)
 refine ⟨z,y,xs,r,o,es,ep,h1,h2,h3,h4,fun x hx=>?_,h5⟩
 have all:∀ {l:List (List Key×V)} {m:List (List Key×Addr×Value)},KT H l m→∀ x ∈ m,(tupleKind (mixKind P w)).is h x.1 x.2.1:=by
  intro l m q
  induction q with
  | nil=>intro x hx; exact nomatch hx
  | @cons p q ps qs hq t ih =>
   intro x hx
   rcases List.mem_cons.mp hx with e | hx
   ·subst e
    exact key_of ok (by rw [← hq.1]; exact hq.2.1)
   ·exact ih x hx
 exact all r x hx
end
def DGet (H:Hp) (a:Addr) (y:V) (r:Option V):Prop :=
 (∃ kvs k,Rd H a (.dK kvs)∧y=kV k∧r=valV kvs k)∨∃ kvs k b,Rd H a (.dT kvs)∧y = .ref b∧H b=some (.tup (k.map kV))∧r=valV kvs k
def DPut (H:Hp) (a:Addr) (y v:V) (H':Hp):Prop :=
 (∃ kvs k,H a=some (.dK kvs)∧y=kV k∧kvs.length < sizeLine∧H'=upd H a (.dK (putK kvs k v))) ∨
 ∃ kvs k b,H a=some (.dT kvs)∧y = .ref b∧H b=some (.tup (k.map kV))∧kvs.length < sizeLine∧H'=upd H a (.dT (putK kvs k v))
theorem DGet.k {H:Hp} {a:Addr} {kvs:List (Key×V)} {k:Key} (e:H a=some (.dK kvs)):DGet H a (kV k) (valV kvs k):=.inl ⟨kvs,k,.inl e,rfl,rfl⟩
theorem DGet.t {H:Hp} {a b:Addr} {kvs:List (List Key×V)} {k:List Key} (e:H a=some (.dT kvs)) (eb:H b=some (.tup (k.map kV))):DGet H a (.ref b) (valV kvs k):=.inr ⟨kvs,k,b,.inl e,rfl,eb,rfl⟩
theorem DPut.k {H:Hp} {a:Addr} {kvs:List (Key×V)} {k:Key} {v:V} (e:H a=some (.dK kvs)) (hl:kvs.length < sizeLine):DPut H a (kV k) v (upd H a (.dK (putK kvs k v))):=.inl ⟨kvs,k,e,rfl,hl,rfl⟩
theorem DPut.t {H:Hp} {a b:Addr} {kvs:List (List Key×V)} {k:List Key} {v:V} (e:H a=some (.dT kvs)) (eb:H b=some (.tup (k.map kV))) (hl:kvs.length < sizeLine) :
  DPut H a (.ref b) v (upd H a (.dT (putK kvs k v))):=.inr ⟨kvs,k,b,e,rfl,eb,hl,rfl⟩
section
variable {X:Cx} {pins:List (Addr×Obj)} {σ:St} {H:Hp} {s:Shared} {a:Addr} {y v:V} {u r:Value} {o:Option V} {A:Around} {E:Value→Shared→Prop}
theorem Inv.big (I:Inv X pins σ H s):sysModules < s.heap.objs.size:=by
 have h:mainGlobals < s.heap.objs.size:=(I.mod.glob.keeps I.bk).lt
 exact Nat.lt_trans (by decide) h
theorem d_getItem {Q:Value→Shared→Prop} (hu:A.units + 1 < cLine) (I:Inv X pins σ H s) (g:DGet H a y (some v)) (ry:RelV y u) (h:∀ w' s',Inv X pins σ H s'→RelV v w'→Q w' s') :
  wpAny (model X.prog X.w) A (getItem (.ref a) u) Q E s:=by
 rcases g with ⟨kvs,k,e,ey,l⟩ | ⟨kvs,k,b,e,ey,eb,l⟩
 ·subst ey
  obtain ⟨z,hd,vs,rel,dd⟩:=dk_rd I.hok e
  obtain ⟨w',hw,rw'⟩:=RelO.some_of (v:=v) (o:=valueAt vs k) (by rw [l]; exact rel.val k)
  exact wpAny_getItem_of (kV_is ry) dd.mapOf hw (h w' _ (I.tok _) rw')
 ·subst ey
  cases (show u=Value.ref b from ry)
  obtain ⟨z,hd,xs,rel,dd⟩:=dt_rd I.hok e
  obtain ⟨w',hw,rw'⟩:=RelO.some_of (v:=v) (o:=(atKey xs k).map (·.2)) (by rw [l]; exact rel.val k)
  obtain ⟨p,hp,hp2⟩:=Option.map_eq_some_iff.mp hw
  refine wpAny_getItem_heap (tupleKind_room_in1 hu) (key_of I.hok eb) dd hp ?_
  rw [hp2]
  exact h w' _ (I.tok _) rw'
theorem d_in {Q:Value→Shared→Prop} (hu:A.units + 1 < cLine) (I:Inv X pins σ H s) (g:DGet H a y o) (ry:RelV y u) (h:∀ s',Inv X pins σ H s'→Q (.bool o.isSome) s') :
  wpAny (model X.prog X.w) A (compareOp .In u (.ref a)) Q E s:=by
 rcases g with ⟨kvs,k,e,ey,l⟩ | ⟨kvs,k,b,e,ey,eb,l⟩
 ·subst ey
  obtain ⟨z,hd,vs,rel,dd⟩:=dk_rd I.hok e
  refine wpAny_in_of (kV_is ry) hd dd.mapOf ?_
  rw [← (rel.val k).isSome_eq,← l]
  exact h _ (I.tok _)
 ·subst ey
  cases (show u=Value.ref b from ry)
  obtain ⟨z,hd,xs,rel,dd⟩:=dt_rd I.hok e
  refine wpAny_in_heap (tupleKind_room_in1 hu) (key_of I.hok eb) hd dd ?_
  have q:=(rel.val k).isSome_eq
  rw [Option.isSome_map] at q
  rw [← q,← l]
  exact h _ (I.tok _)
theorem d_write {h':Heap} {t':Nat} {ob:HO} (I:Inv X pins σ H s) (mu:Mut (H a)) (hs:Heap.SameBut a s.heap h') (he:∃ q,h'.get? a=some q) (new:ObjOk X.prog X.w (upd H a ob) h' a ob) :
  Inv X pins σ (upd H a ob) { s with heap:=h',toks:=t' } :=
 I.write (x:=a) (e:=a) mu (.inl rfl) (fun b q hb z=>(hs.2 b hb).trans z) he new
theorem dk_new {P:Program} {w:World} {H':Hp} {h':Heap} {kvs:List (Key×V)} {vs:List (Key×Value)} (z:kvs.length≤sizeLine) (hd:(a == sysModules)=false) (rel:KV kvs vs) (dd:h'.DictOf (mixKind P w) a vs) :
  ObjOk P w H' h' a (.dK kvs):=⟨z,hd,vs,rel,dd⟩
end
section
variable {X:Cx} {pins:List (Addr×Obj)} {σ:St} {H:Hp} {s:Shared} {a:Addr} {kvs:List (Key×V)} {k:Key} {u:Value} {A:Around} {E:Value→Shared→Prop}
theorem d_len {Q:Value→Shared→Prop} (I:Inv X pins σ H s) (e:Rd H a (.dK kvs)) (h:∀ t s',Inv X pins σ H s'→Q (.int kvs.length t) s'):wpAny (model X.prog X.w) A (call (.builtin "len") [.ref a]) Q E s:=by
 obtain ⟨z,hd,vs,rel,dd⟩:=dk_rd I.hok e
 refine call_len_dict hd dd (by rw [← rel.length]; rw [sizeLine_eq] at z; omega) ?_
 rw [← rel.length]
 exact h _ _ (I.tok _)
end
section
variable {X:Cx} {o i e value:Expr} {pos pos' tpos:Pos} {td ty tv:TE}
end
theorem dk_empty {P:Program} {w:World} {H:Hp} (h:Heap) (hb:sysModules < h.objs.size):ObjOk P w H (h.push { cls:=.type "dict",data:=.dict #[] }) h.objs.size (.dK []) :=
 ⟨Nat.zero_le _,beq_eq_false_iff_ne.mpr (Ne.symm (Nat.ne_of_lt hb)),[],.nil,Heap.DictOf.new h⟩
def tDNewK:TE:=fun _ H Q=>∀ p,H p=none→Q (.ref p) (upd H p (.dK []))
section
variable {X:Cx} {pos:Pos}
theorem pe_dnewK:PE X (.Dict [] [] pos) tDNewK:=fun pins s σ H Q I h =>
 wpAny_Dict_empty ⟨.ref s.heap.objs.size,_,I.laid (a:=s.heap.objs.size) (o:=.dK []) (t':=s.toks) (fun _ _ q=>Heap.get?_push_of_some _ q) (Nat.le_refl _) (dk_empty s.heap I.big),rfl,h _ (I.hok.fresh (Nat.le_refl _))⟩
end
structure M1 (X:Cx) (o:Expr) (m:Str) (apos:Pos) (e:Expr) (cpos:Pos):Prop where
 base:attributeBase o m X.env (eval o X.env)=eval o X.env
 few:((backTo cpos (starEach [e] X.env)).all (fun x=>!x.1) && (backToKw cpos (keywordEach [] X.env)).all (fun x=>x.1.isSome)
  && decide (([e]:List Expr).length + ([]:List Keyword).length + (if ([]:List Keyword).isEmpty then 0 else 1) < 30))=true
 line:(apos.endLine == cpos.line)=true
 trees:backTo cpos (starEach [e] X.env)=[(false,eval e X.env)]
structure M2 (X:Cx) (o:Expr) (m:Str) (apos:Pos) (e f:Expr) (cpos:Pos):Prop where
 base:attributeBase o m X.env (eval o X.env)=eval o X.env
 few:((backTo cpos (starEach [e,f] X.env)).all (fun x=>!x.1) && (backToKw cpos (keywordEach [] X.env)).all (fun x=>x.1.isSome)
  && decide (([e,f]:List Expr).length + ([]:List Keyword).length + (if ([]:List Keyword).isEmpty then 0 else 1) < 30))=true
 line:(apos.endLine == cpos.line)=true
 trees:backTo cpos (starEach [e,f] X.env)=[(false,eval e X.env),(false,eval f X.env)]
section
variable {X:Cx} {pins:List (Addr×Obj)} {σ:St} {H:Hp} {s:Shared} {a:Addr} {y d:V} {u r:Value} {o:Option V} {A:Around} {E:Value→Shared→Prop}
end
section
variable {X:Cx} {o e f:Expr} {apos cpos:Pos} {td ty tx:TE}
end
section
variable {X:Cx} {pins:List (Addr×Obj)} {σ:St} {H:Hp} {s:Shared} {a:Addr} {kvs:List (Key×V)} {A:Around} {E:Value→Shared→Prop}
end
section
variable {X:Cx} {pins:List (Addr×Obj)} {σ:St} {H:Hp} {s:Shared} {a:Addr} {y:V} {u:Value} {A:Around} {E:Value→Shared→Prop}
end
end L2
namespace Att
open PySem PySem.W PySem.Calls PyProof.Rows
theorem ints_of_wellAll {P:Params} {h:Heap}:∀ (ns:List Int) (vs:List Value),WellAll P h vs (ns.map WData.int)→IntsAre vs ns:=by
 intro ns
 induction ns with
 | nil =>
  intro vs w
  rw [List.map_nil] at w
  cases w
  exact .nil
 | cons n ns ih =>
  intro vs w
  rw [List.map_cons] at w
  cases w with
  | cons a b =>
   cases a
   exact .cons _ _ (ih _ b)
theorem script_of {l:OpenLaw} {n:Nat} (hn:l.most=some n) {P:Params} {h:Heap} {args:List WData} {vals:List Value}
  (hpre:l.row.toRowW.claim.pre args=true) (hwl:WellAll P h vals args) :
  ∃ a vs ns,vals=[Value.ref a]∧args=[WData.list (ns.map WData.int)]∧h.get? a=some { cls:=.type "list",data:=.seq vs.toArray }∧IntsAre vs ns∧ns.length≤n:=by
 have hsh:WShape.hasAll [] args [.list .int]=true:=(pre_splitW hpre).1
 have hc:l.pre.holds [] { args:=args } = true:=(pre_splitW hpre).2
 obtain ⟨d,r,rfl,h1,h2⟩:=hasAllW_cons hsh
 obtain rfl:=hasAllW_nil h2
 obtain ⟨xs,rfl,h3⟩:=hasW_list h1
 obtain ⟨ns,rfl⟩:=items_int h3
 have hlen:ns.length≤n:=by
  unfold OpenLaw.pre at hc
  have h4:(WTm.not (.lt (.lit (.int (n:Int))) (.len (.arg 0)))).holds [] { args:=[.list (ns.map .int)] } = true:=by
   have h4:=(holds_andW hc).1
   rw [hn] at h4
   exact h4
  have h5:=condW_of h4 (w_not (w_lt w_lit (w_len_list (w_arg rfl))))
  rw [List.length_map] at h5
  refine Nat.le_of_not_lt fun q=>?_
  have q':(n:Int) < ((ns.length:Nat):Int):=by omega
  first
   | (rw [decide_eq_true q'] at h5; exact absurd h5 (by decide))
   | (simp at h5; omega)
 cases hwl with
 | cons w1 w2 =>
  cases w2
  cases w1 with
  | list ho hall=>exact ⟨_,_,ns,rfl,rfl,ho,ints_of_wellAll ns _ hall,hlen⟩
theorem post_true (l:OpenLaw) (args:List WData):l.row.toRowW.claim.post args (.bool true) args=true :=
 postW_of (r:=l.row.toRowW) (X:=(true == true))
  (show WShape.has [] (.bool true) .bool=true by first | rfl | decide | simp [WShape.has,WShape.arms,WShape.armsAll])
  (show (WTm.eq .res (.lit (.bool true))).value [] { args:=args,res:=some (.bool true),after:=args } = some (.bool (true == true)) from w_eq_bool (w_res rfl) w_lit) rfl
theorem attach_call {l:OpenLaw} {n:Nat} {q:Program} {loose:List Str} {XP:(Str→Option Value)→Heap→Prop} {YP:World→Heap→Prop} {d:DefRec}
  (hn:l.most=some n) (hdf:d.params.defaults=[])
  (call:∀ (w:World) (s₀ s₁:Shared) (mg mb:Str→Option Value) (fa:Addr) (o:Obj) (pm cd doc:Value) (a:Addr) (vs:List Value) (ns:List Int),
   Ground q loose [] XP w s₀ mg mb s₁.heap→YP w s₁.heap →
   s₁.heap.get? fa=some o→o.data = .func (docDef d.name d.params d.body d.scope pm cd doc)→s₁.heap.CodeRec cd d.name→mg d.name=some (.ref fa) →
   s₁.heap.get? a=some { cls:=.type "list",data:=.seq vs.toArray }→IntsAre vs ns→ns.length≤n→s₁.gens = #[] →
   codeAny (model l.prog w) callerA (.call (.ref fa) ⟨[.ref a],[]⟩) (fun r s'=>r = .ok (.ret (.bool true))∧OldK s₁.heap s'.heap∧s'.os=s₁.os∧AllBare s'.gens) s₁) :
  WalkO q loose XP YP l.row.toRowW d [] (fun f vs=>PySem.call f vs):=by
 intro w s₀ s₁ mg mb G Y fa o pm cd doc dV kV ho hd hcd hD hmg hg args vals as hpre hlay hrd hwl hlo
 obtain rfl:dV = .none:=Dflts.none hD hdf
 obtain rfl:kV = .none:=Dflts.noKw hD
 obtain ⟨a,vs,ns,rfl,rfl,hobj,hints,hlen⟩:=script_of hn hpre hwl
 refine enter_call (codeAny_mono (call w s₀ s₁ mg mb fa o pm cd doc a vs ns G Y ho (fd_plain hd) hcd hmg hobj hints hlen hg) fun r s' hq=>?_)
 obtain ⟨rfl,h2,h3,h4⟩:=hq
 exact ⟨.inl ⟨.bool true,.bool true,[],rfl,fun _=>rfl,.bool true,post_true l _,fun _=>⟨List.Pairwise.nil,fun _ hm=>(nomatch hm)⟩⟩,h2,h3,h4⟩
section
variable {prog:Program} {w:World} {A:Around} {E:Value→Shared→Prop} {s:Shared} {K:Frag}
end
end Att
namespace L2
open PySem PySem.Spec PyProof.Rows
theorem vals_ints:∀ {vs:List Value} {ns:List Int},IntsAre vs ns→Vals (ns.map V.int) vs
 | _,_,.nil=>.nil
 | _,_,.cons n t h=>.cons ⟨t,rfl⟩ (vals_ints h)
def Only (H:Hp):Prop:=∀ b,H b=none∨∃ o xs,H b=some (.frz o (.lst xs))
theorem law_call {P:Program} {w:World} {K:PySem.W.Frag} {mg mb:Str→Option Value} {CX:CXT} {k:Nat} {fa a:Addr} {fd:FuncData} {x:Str} {sp:Sp} {s₁:Shared} {vs:List Value} {ns:List Int}
  (KX:K.In s₁.heap) (hns:s₁.heap.Ns mainGlobals mg) (hb:s₁.heap.Ns builtinsNs mb) (hbb:∀ x:Str,x≠"__name__"→mb x=bootBuiltins x) (hlim:s₁.heap.NoLimit) (hg:s₁.gens = #[])
  (ha:s₁.heap.get? a=some { cls:=.type "list",data:=.seq vs.toArray }) (hi:IntsAre vs ns) (hl:ns.length≤sizeLine) (hr:Room k callerA)
  (F:∀ base:Heap,K.In base→base.Ns mainGlobals mg→FnOk P w K mg base CX k fa fd [x] sp) (hbind:∀ (s:Shared) (u:Value),BindsTo s fd ⟨[u],[]⟩ [(x,u)])
  (hsp:∀ H:Hp,Only H→SqL K H a (ns.map V.int)→sp [.ref a] H (fun v _=>v = .bl true) fun _ _ _=>False)
  (hCX:∀ H e s',CX [] H s₁ (fun _ _ _=>False) e s'→False) :
  codeAny (model P w) callerA (.call (.ref fa) ⟨[.ref a],[]⟩) (fun r s'=>r = .ok (.ret (.bool true))∧OldK s₁.heap s'.heap∧s'.os=s₁.os∧AllBare s'.gens) s₁:=by
 have rv:=vals_ints hi
 have lenV:=hi.length
 -- from an abstract heap in which nothing but the script may be tracked
 have core:∀ H:Hp,Only H→SqL K H a (ns.map V.int)→HOk P w H s₁.heap→(∀ b,H b≠none→b=a)→(H a≠none→K.lookup a=none) →
   codeAny (model P w) callerA (.call (.ref fa) ⟨[.ref a],[]⟩) (fun r s'=>r = .ok (.ret (.bool true))∧OldK s₁.heap s'.heap∧s'.os=s₁.os∧AllBare s'.gens) s₁:=by
  intro H hO hS hok hA hK
  have base_of:∀ {b:Addr} {o:Obj},s₁.heap.get? b=some o→H b=none→(hidT s₁.heap H).get? b=some o:=fun e n=>hidT_get e n
  have noA:∀ {b:Addr} {o:Obj} {es:Array DictEntry} {ep:Nat},s₁.heap.get? b=some o→o.data = .dict es ep→H b=none:=fun {b o es ep} e d=>by
   cases q:H b with
   | none=>rfl
   | some u =>
    have e':b=a:=hA b (by rw [q]; simp)
    subst e'
    rw [ha] at e; cases e
    have d':Data.seq vs.toArray _=Data.dict es ep:=d
    cases d'
  have nsK:∀ {b:Addr} {m:Str→Option Value},s₁.heap.Ns b m→(hidT s₁.heap H).Ns b m:=fun {b m} ⟨o,es,ep,e,d,r⟩=>⟨o,es,ep,base_of e (noA e d),d,r⟩
  have hKb:K.In (hidT s₁.heap H):=fun b o e=>base_of (KX b o e) (by
   cases q:H b with
   | none=>rfl
   | some u =>
    have e':b=a:=hA b (by rw [q]; simp)
    subst e'
    rw [hK (by rw [q]; simp)] at e; cases e)
  have hM:Mod K mg (hidT s₁.heap H):=⟨hKb,nsK hns,⟨mb,nsK hb,hbb⟩,let ⟨mc,h1,h2⟩:=hlim; ⟨mc,nsK h1,h2⟩⟩
  have e0:Env0 P w K mg (hidT s₁.heap H) callerA [] s₁ H:=⟨rfl,hM,fun b o e=>of_hidT e,Nat.le_of_eq (hidT_size _ _),trivial,fun b hb=>absurd (show b ∈ ([]:List Addr) from hb) (by simp),hok,.of_eq hg⟩
  refine codeAny_mono ((F _ hKb (nsK hns)).run callerA [] s₁ H ⟨[.ref a],[]⟩ [.ref a] [.ref a] _ _ hr e0 (hbind s₁ (.ref a)) (.cons rfl .nil) (hsp H hO hS)) fun r s' h=>?_
  cases r with
  | error e=>exact (hCX H e s' h).elim
  | ok fl =>
   cases fl with
   | next=>exact False.elim h
   | brk=>exact False.elim h
   | cont=>exact False.elim h
   | ret u =>
    obtain ⟨v,H',os,bare,un,hok',r',q⟩:=h
    have q':v = .bl true:=q
    subst q'
    obtain rfl:u=Value.bool true:=r'
    refine ⟨rfl,OldK.of_keep fun b o e=>?_,os,bare⟩
    cases q:H b with
    | none=>exact un.keep b o e q (by intro z; exact absurd (show b ∈ ([]:List Addr) from z) (by simp)) (by simp)
    | some u =>
     rcases hO b with z | ⟨ob,xs,z⟩
     ·rw [q] at z; cases z
     ·have z2:=un.frzs b ob _ z
      obtain ⟨e1,_⟩:=hok b _ z
      obtain ⟨e2,_⟩:=hok' b _ z2
      rw [e] at e1; cases e1
      exact e2
 cases hk:K.lookup a with
 | some o =>
  -- the script is one of the module's own objects
  have e:=KX a o hk
  rw [ha] at e
  cases e
  refine core (fun _=>none) (fun _=>.inl rfl) (.inr ⟨_,vs.toArray,_,hk,rfl,rfl,rfl,by rw [List.size_toArray,lenV]; exact hl,by simpa using rv⟩) (fun b u z=>by have z':(none:Option HO)=some u:=z; cases z') (fun b z=>absurd rfl z) fun z=>absurd rfl z
 | none =>
  refine core (fun b=>if b=a then some (.frz { cls:=.type "list",data:=.seq vs.toArray } (.lst (ns.map V.int))) else none) (fun b=>?_) (.inl (.inr ⟨{ cls:=.type "list",data:=.seq vs.toArray },if_pos rfl⟩)) (fun b u z=>?_) (fun b z=>?_) fun _=>hk
  ·by_cases hb:b=a
   ·exact .inr ⟨_,_,if_pos hb⟩
   ·exact .inl (if_neg hb)
  ·by_cases hb:b=a
   ·have z':=(if_pos hb).symm.trans z
    cases z'
    subst hb
    exact ⟨ha,by rw [List.length_map]; exact hl,vs,_,rv,ha⟩
   ·have z':=(if_neg hb).symm.trans z
    cases z'
  ·by_cases hb:b=a
   ·exact hb
   ·exact absurd (if_neg hb) z
open PySem PySem.Spec PyProof.Rows
abbrev KOf {K:PySem.W.Frag} {h:Heap} (_:K.In h):PySem.W.Frag:=K
theorem walk_of {l:PySem.W.OpenLaw} {n k:Nat} {q:Program} {loose:List Str} {XP:(Str→Option Value)→Heap→Prop} {YP:World→Heap→Prop} {d:DefRec} {K:Params→PySem.W.Frag} {CX:World→CXT} {sp:World→Sp} {x:Str}
  (hn:l.most=some n) (hn2:n≤sizeLine) (hdf:d.params.defaults=[]) (hr:Room k callerA)
  (hY:∀ (w:World) (h:Heap),YP w h→(K w.params).In h)
  (F:∀ (w:World) (mg:Str→Option Value) (fa:Addr) (h:Heap),(K w.params).In h→h.Ns mainGlobals mg→mg d.name=some (.ref fa) →
   ∃ fd:FuncData,(∀ (s:Shared) (u:Value),BindsTo s fd ⟨[u],[]⟩ [(x,u)]) ∧
    ∀ base:Heap,(K w.params).In base→base.Ns mainGlobals mg→FnOk l.prog w (K w.params) mg base (CX w) k fa fd [x] (sp w))
  (hsp:∀ (w:World) (H:Hp) (a:Addr) (ns:List Int),ns.length≤n→Only H→SqL (K w.params) H a (ns.map V.int)→sp w [.ref a] H (fun v _=>v = .bl true) fun _ _ _=>False)
  (hCX:∀ (w:World) (H:Hp) (s:Shared) (e:Value) (s':Shared),CX w [] H s (fun _ _ _=>False) e s'→False) :
  PySem.W.WalkO q loose XP YP l.row.toRowW d [] (fun f vs=>PySem.call f vs):=by
 refine Att.attach_call hn hdf fun w s₀ s₁ mg mb fa o pm cd doc a vs ns G Y ho hd hcd hmg hobj hints hlen hg=>?_
 have KX:=hY w _ Y
 obtain ⟨fd,hb,hF⟩:=F w mg fa _ KX G.T.g hmg
 exact law_call KX G.T.g G.T.b G.T.builtins G.T.nolimit hg hobj hints (Nat.le_trans hlen hn2) hr hF hb (fun H hO hS=>hsp w H a ns hlen hO hS) fun H e s'=>hCX w H s₁ e s'
open PySem PySem.Spec PyProof.Rows
def defArgs (s:Stmt):Arguments:=match s with
 | .FunctionDef _ a _ _ _ _ _ _ _ _=>a
 | _=>{ posonlyargs:=[],args:=[],vararg:=none,kwonlyargs:=[],kw_defaults:=[],kwarg:=none,defaults:=[] }
def defBody (s:Stmt):List Stmt:=match s with
 | .FunctionDef _ _ b _ _ _ _ _ _ _=>b
 | _=>[]
def defScope (s:Stmt):Scope:=match s with
 | .FunctionDef _ _ _ _ _ _ sc _ _ _=>sc
 | _=>{ kind:=.function,names:=[],isGenerator:=false,isCoroutine:=false }
abbrev CX0:CXT:=fun _ _ _ _ _ _=>False
abbrev E0:XK:=fun _ _ _=>False
theorem pass0 {X:Cx}:Passes CX0 X E0:=fun _ _ _ _ _ _ _ h=>h.elim
structure Fun (K:PySem.W.Frag) (x qual:Str) (st:Stmt) (f:Addr) (fd:FuncData):Prop where
 ex:∃ (oc:Value) (od:Option Addr) (kV doc pm:Value) (an:Option Addr) (cdv ct:Value) (osl:Array (Option Value)),
  fd=PySem.W.fnOf x qual (defArgs st) (defBody st) (defScope st) .none kV doc pm an cdv ct∧K.lookup f=some ⟨oc,od,.func fd,osl⟩∧PySem.W.codeIn K cdv qual=true
 kp:PySem.W.keepIn K (.ref f)=true
section
variable {P:Program} {w:World} {K:PySem.W.Frag} {mg:Str→Option Value} {base:Heap}
theorem Fun.ok {x qual:Str} {st:Stmt} {f:Addr} {fd:FuncData} {N ps:List Str} {k:Nat} {sp:Sp} (F:Fun K x qual st f fd) (S:FnScope N ps (defScope st)) (len:∀ vs H Q E,sp vs H Q E→vs.length=ps.length)
  (hbody:∀ (cdv:Value) (A:Around) (outer:List Env) (s:Shared) (H:Hp) (vs:List V) (Q:VK) (E:XK),Room k (A.deeper (envOfC qual (defScope st) s.heap.objs.size f cdv))→sp vs H Q E →
   ∃ t,PSs (cxOf CX0 P w K mg base N qual (defScope st) f cdv A outer s H E).nox (defBody st) t∧t { nx:=fun _ H'=>Q .non H',rt:=Q } (start N vs) H):FnOk P w K mg base CX0 (k + 1) f fd ps sp:=by
 obtain ⟨oc,od,kV,doc,pm,an,cdv,ct,osl,rfl,lk,hcd⟩:=F.ex
 refine fn_of lk hcd S len fun A outer s H vs Q E hr hsp=>?_
 obtain ⟨t,h,q⟩:=hbody cdv A outer s H vs Q E hr hsp
 exact ⟨t,h.nox,q⟩
theorem Fun.binds {x qual:Str} {st:Stmt} {f:Addr} {fd:FuncData} {ps:List Str} (F:Fun K x qual st f fd)
  (h:∀ (kV doc pm:Value) (an:Option Addr) (cdv ct:Value) (us:List Value),us.length=ps.length→bindArgs (PySem.W.fnOf x qual (defArgs st) (defBody st) (defScope st) .none kV doc pm an cdv ct) ⟨us,[]⟩=pure (ps.zip us)):Binds K fd ps []:=by
 obtain ⟨oc,od,kV,doc,pm,an,cdv,ct,osl,rfl,lk,hcd⟩:=F.ex
 exact .all (h kV doc pm an cdv ct)
theorem fun_mk {x qual:Str} {st:Stmt} {f:Addr} {oc:Value} {od an:Option Addr} {osl:Array (Option Value)} {kV doc pm cdv ct:Value} (l:K.lookup f=some ⟨oc,od,.func (PySem.W.fnOf x qual (defArgs st) (defBody st) (defScope st) .none kV doc pm an cdv ct),osl⟩)
  (c:PySem.W.codeIn K cdv qual=true) (k:PySem.W.keepIn K (.ref f)=true):Fun K x qual st f (PySem.W.fnOf x qual (defArgs st) (defBody st) (defScope st) .none kV doc pm an cdv ct):=⟨⟨oc,od,kV,doc,pm,an,cdv,ct,osl,rfl,l,c⟩,k⟩
end
theorem small1000 {n:Nat} (h:n≤1000):n < sizeLine:=Nat.lt_of_le_of_lt h (by decide)
section
variable {X:Cx}
theorem pv (i:Nat) {x:Str} {pos:Pos} (hN:X.N[i]? = some x:=by rfl) (hv:Vis X.env.scope x:=by first | exact Or.inl rfl | exact Or.inr (Or.inl rfl) | exact Or.inr (Or.inr rfl)) (hd:(x == ("__debug__" : Str))=false:=by decide)
  (hcd:(x == ("__classdict__" : Str))=false:=by decide):PE X (.Name x pos) (tVar i):=pe_var hN hv hd hcd
theorem call_lenD:CallR X (.builtin "len") (fun xs H Q=>∃ a kvs,xs=[V.ref a]∧H a=some (.dK kvs)∧Q (.int kvs.length) H):=by
 intro pins s σ H xs us Q I r h
 obtain ⟨a,kvs,rfl,ha,q⟩:=h
 obtain ⟨u,rfl,ru⟩:=vals1 r
 cases ru
 exact d_len I (.inl ha) fun t s' I'=>⟨.int kvs.length,H,I',⟨t,rfl⟩,q⟩
end
def Same (H H':Hp):Prop:=∀ b o,H b=some o→H' b=some o
theorem Same.refl (H:Hp):Same H H:=fun _ _ h=>h
theorem Same.trans {H H1 H2:Hp} (a:Same H H1) (b:Same H1 H2):Same H H2:=fun c o h=>b c o (a c o h)
theorem Same.free {H H':Hp} (e:Same H H') {l:Addr} (h:H' l=Option.none):H l=Option.none:=by
 cases q:H l with
 | none=>rfl
 | some o =>
  rw [e l o q] at h
  cases h
theorem Same.seq {K:PySem.W.Frag} {H H':Hp} {a:Addr} {xs:List V} (e:Same H H') (h:SqL K H a xs):SqL K H' a xs:=by
 rcases h with (h | ⟨o,h⟩) | h
 ·exact .inl (.inl (e _ _ h))
 ·exact .inl (.inr ⟨o,e _ _ h⟩)
 ·exact .inr h
section
variable {κ:Type} [DecidableEq κ]
end
open PySem PySem.Spec PyProof.Rows
def closOf (cells:List (Str×Addr)):List (Str×NameKind)→List (Str×Addr)→List (Str×Addr)
 | [],acc=>acc
 | (n,k) :: r,acc=>closOf cells r (if k == .free then (match cells.lookup n with | some a=>(n,a) :: acc | none=>acc) else acc)
theorem closFor_aux {env:Env} (f:Str×NameKind→List (Str×Addr)→Sem (ForInStep (List (Str×Addr))))
  (hf:∀ name kind cs,f (name,kind) cs=if kind == .free then (do let a ← cellOf env name; pure (.yield ((name,a) :: cs))) else pure (.yield cs)) :
  ∀ (names:List (Str×NameKind)) (acc:List (Str×Addr)),(∀ x ∈ names,x.2=NameKind.free→∃ c,env.cells.lookup x.1=some c)→(forIn names acc f:Sem (List (Str×Addr)))=pure (closOf env.cells names acc)
 | [],acc,_=>by rw [List.forIn_nil]; rfl
 | (n,k) :: r,acc,h=>by
  rw [List.forIn_cons,hf]
  unfold closOf
  by_cases hk:(k == NameKind.free)=true
  ·obtain ⟨c,hc⟩:=h (n,k) List.mem_cons_self (by simpa using hk)
   have hc':env.cells.lookup n=some c:=hc
   have e:cellOf env n=pure c:=by unfold cellOf; rw [hc']
   rw [if_pos hk,if_pos hk,e,hc']
   exact closFor_aux f hf r _ fun x hx=>h x (List.mem_cons_of_mem _ hx)
  ·rw [if_neg hk,if_neg hk]
   exact closFor_aux f hf r _ fun x hx=>h x (List.mem_cons_of_mem _ hx)
theorem closFor_eq {env:Env} {scope:Scope} (h:∀ x ∈ scope.names,x.2=NameKind.free→∃ c,env.cells.lookup x.1=some c):closureFor scope env=pure (closOf env.cells scope.names []):=by
 unfold closureFor
 dsimp only
 rw [closFor_aux (env:=env) _ (fun name kind cs=>by cases hkc:kind == NameKind.free <;> simp [hkc]) scope.names [] h]
 rfl
theorem closOf_mem {cells:List (Str×Addr)} {n:Str} {c:Addr}:∀ (names:List (Str×NameKind)) (acc:List (Str×Addr)),(n,c) ∈ closOf cells names acc→(n,c) ∈ acc∨((n,NameKind.free) ∈ names∧cells.lookup n=some c)
 | [],acc,h=>.inl h
 | (y,k) :: r,acc,h=>by
  unfold closOf at h
  rcases closOf_mem r _ h with q | ⟨q,e⟩
  ·by_cases hk:(k == NameKind.free)=true
   ·rw [if_pos hk] at q
    have hk':k=NameKind.free:=by simpa using hk
    cases e:cells.lookup y with
    | none=>rw [e] at q; exact .inl q
    | some a =>
     rw [e] at q
     rcases List.mem_cons.mp q with z | z
     ·cases z
      exact .inr ⟨by rw [hk']; exact List.mem_cons_self,e⟩
     ·exact .inl z
   ·rw [if_neg hk] at q; exact .inl q
  ·exact .inr ⟨List.mem_cons_of_mem _ q,e⟩
theorem closOf_some {cells:List (Str×Addr)} {n:Str}:∀ (names:List (Str×NameKind)) (acc:List (Str×Addr)),(acc.lookup n).isSome=true∨((n,NameKind.free) ∈ names∧(cells.lookup n).isSome=true)→((closOf cells names acc).lookup n).isSome=true
 | [],acc,h=>h.elim id fun z=>absurd z.1 (by simp)
 | (y,k) :: r,acc,h=>by
  unfold closOf
  apply closOf_some r
  by_cases hk:(k == NameKind.free)=true
  ·rw [if_pos hk]
   cases e:cells.lookup y with
   | none =>
    rcases h with h | ⟨h1,h2⟩
    ·exact .inl h
    ·rcases List.mem_cons.mp h1 with z | z
     ·cases z
      rw [e] at h2; cases h2
     ·exact .inr ⟨z,h2⟩
   | some a =>
    by_cases hn:(n == y)=true
    ·refine .inl ?_
     show (List.lookup n ((y,a) :: acc)).isSome=true
     rw [List.lookup_cons,hn]
     rfl
    ·rcases h with h | ⟨h1,h2⟩
     ·refine .inl ?_
      show (List.lookup n ((y,a) :: acc)).isSome=true
      have hn':(n == y)=false:=by simpa using hn
      rw [List.lookup_cons,hn']
      exact h
     ·rcases List.mem_cons.mp h1 with z | z
      ·cases z
       exact absurd (by simp) hn
      ·exact .inr ⟨z,h2⟩
  ·rw [if_neg hk]
   rcases h with h | ⟨h1,h2⟩
   ·exact .inl h
   ·rcases List.mem_cons.mp h1 with z | z
    ·cases z
     exact absurd rfl hk
    ·exact .inr ⟨z,h2⟩
theorem cf_mem {n:Str} {c:Addr}:∀ (names:List (Str×NameKind)) (h:Heap) (acc:List (Str×Addr)),(n,c) ∈ cellsFrom h.objs.size names acc →
  (n,c) ∈ acc∨((n,NameKind.cell) ∈ names∧h.objs.size≤c∧(pushCells h names).IsCell c none)
 | [],_,_,h=>.inl h
 | (y,k) :: r,h,acc,hm=>by
  unfold cellsFrom at hm
  unfold pushCells
  by_cases hk:(k == NameKind.cell)=true
  ·rw [if_pos hk] at hm
   rw [if_pos hk]
   have hk':k=NameKind.cell:=by simpa using hk
   have sz:(h.push { cls:=.type "cell",data:=.cell none }).objs.size=h.objs.size + 1:=Heap.size_push ..
   rw [← sz] at hm
   rcases cf_mem r _ _ hm with q | ⟨q1,q2,q3⟩
   ·rcases List.mem_cons.mp q with z | z
    ·cases z
     refine .inr ⟨by rw [hk']; exact List.mem_cons_self,Nat.le_refl _,?_⟩
     exact Heap.IsCell.keeps ⟨_,Heap.get?_push_size _ rfl,rfl⟩ (pushCells_keeps r _)
    ·exact .inl z
   ·exact .inr ⟨List.mem_cons_of_mem _ q1,by rw [sz] at q2; omega,q3⟩
  ·rw [if_neg hk] at hm
   rw [if_neg hk]
   rcases cf_mem r _ _ hm with q | ⟨q1,q2,q3⟩
   ·exact .inl q
   ·exact .inr ⟨List.mem_cons_of_mem _ q1,q2,q3⟩
theorem cf_inj:∀ (names:List (Str×NameKind)) (k:Nat) (acc:List (Str×Addr)),(∀ n n' c,(n,c) ∈ acc→(n',c) ∈ acc→n=n')→(∀ n c,(n,c) ∈ acc→c < k) →
  ∀ n n' c,(n,c) ∈ cellsFrom k names acc→(n',c) ∈ cellsFrom k names acc→n=n'
 | [],_,_,h,_=>h
 | (y,kd) :: r,k,acc,h,hb=>by
  unfold cellsFrom
  by_cases hk:(kd == NameKind.cell)=true
  ·rw [if_pos hk]
   refine cf_inj r (k + 1) _ (fun n n' c h1 h2=>?_) fun n c hm=>?_
   ·rcases List.mem_cons.mp h1 with e | h1 <;> rcases List.mem_cons.mp h2 with e' | h2
    ·cases e; cases e'; rfl
    ·cases e; exact absurd (hb _ _ h2) (Nat.lt_irrefl _)
    ·cases e'; exact absurd (hb _ _ h1) (Nat.lt_irrefl _)
    ·exact h n n' c h1 h2
   ·rcases List.mem_cons.mp hm with e | hm
    ·cases e; exact Nat.lt_succ_self _
    ·exact Nat.lt_succ_of_lt (hb _ _ hm)
  ·rw [if_neg hk]
   exact cf_inj r k acc h hb
theorem relabel_lookup {env:Env} {x:Str}:∀ {names:List (Str×NameKind)} {k:NameKind},
  (names.map fun (y:Str×NameKind)=>if (y.2 == NameKind.free && env.scope.kind == .function && env.kindOf y.1 == some .cell) then (y.1,NameKind.cell) else (y.1,y.2)).lookup x=some k →
  names.lookup x=some k∨(k=NameKind.cell∧names.lookup x=some .free)
 | [],_,h=>by simp at h
 | (n,kd) :: r,k,h=>by
  rw [List.map_cons] at h
  have ih:=@relabel_lookup env x r k
  cases hx:x == n with
  | true =>
   by_cases hc:(kd == NameKind.free && env.scope.kind == .function && env.kindOf n == some .cell)=true
   ·rw [if_pos hc,List.lookup_cons,hx] at h
    cases h
    simp only [Bool.and_eq_true] at hc
    have:kd=NameKind.free:=by simpa using hc.1.1
    exact .inr ⟨rfl,by rw [List.lookup_cons,hx,this]⟩
   ·rw [if_neg hc,List.lookup_cons,hx] at h
    cases h
    exact .inl (by rw [List.lookup_cons,hx])
  | false =>
   have h':(r.map fun (y:Str×NameKind)=>if (y.2 == NameKind.free && env.scope.kind == .function && env.kindOf y.1 == some .cell) then (y.1,NameKind.cell) else (y.1,y.2)).lookup x=some k:=by
    by_cases hc:(kd == NameKind.free && env.scope.kind == .function && env.kindOf n == some .cell)=true
    ·rw [if_pos hc,List.lookup_cons,hx] at h; exact h
    ·rw [if_neg hc,List.lookup_cons,hx] at h; exact h
   rw [List.lookup_cons,hx]
   exact ih h'
def compCx (X:Cx) (scope:Scope) (s₀:Shared) (H₀:Hp) (ex:List Addr):Cx :=
 { X with
  env:={ scope:=relabel scope X.env,locals:=s₀.heap.objs.size,globals:=X.env.globals,cells:=cellsFrom (s₀.heap.objs.size + 1) scope.names (closOf X.env.cells scope.names []),qual:=X.env.qual,func:=none,code:=X.env.code,frame:=X.env.frame,builtins:=X.env.builtins }
  s₀:=s₀
  H₀:=H₀
  outer:=X.stack
  ex:=ex
  fn:=fun x=>scope.names.lookup x == some .cell
  pn:=[]
  xe:=fun _ _=>False }
structure CScope (X:Cx) (scope:Scope) (cs:List Nat):Prop where
 kind:scope.kind = .function
 names:∀ x ∈ scope.names,x.2 = .local→scope.names.lookup x.1=some .local
 free:∀ x ∈ scope.names,x.2 = .free→X.env.kindOf x.1=some .cell∨X.env.kindOf x.1=some .free
 nd:(scope.names.map (·.1)).Nodup
 own:∀ (i:Nat) x,X.N[i]? = some x→scope.names.lookup x=some .local∨scope.names.lookup x=some .cell→i ∈ cs
def clr (cs:List Nat) (σ:St):St:=cs.foldl (fun σ i=>σ.set i none) σ
theorem clr_len (cs:List Nat):∀ σ:St,(clr cs σ).length=σ.length:=by
 induction cs with
 | nil=>intro σ; rfl
 | cons i r ih =>
  intro σ
  show (clr r (σ.set i none)).length=_
  rw [ih]; simp
theorem clr_get:∀ (cs:List Nat) (σ:St) (i:Nat) (v:V),(clr cs σ)[i]? = some (some v)→σ[i]? = some (some v)∧i ∉ cs:=by
 intro cs
 induction cs with
 | nil=>intro σ i v h; exact ⟨h,by simp⟩
 | cons j r ih =>
  intro σ i v h
  have h':(clr r (σ.set j none))[i]? = some (some v):=h
  obtain ⟨h1,h2⟩:=ih _ i v h'
  by_cases e:j=i
  ·subst e
   rw [List.getElem?_set] at h1
   simp at h1
  ·rw [List.getElem?_set_ne e] at h1
   exact ⟨h1,by simp only [List.mem_cons,not_or]; exact ⟨Ne.symm e,h2⟩⟩
theorem nd_lookup {α:Type} {x:Str} {k k':α}:∀ {l:List (Str×α)},(l.map (·.1)).Nodup→(x,k) ∈ l→(x,k') ∈ l→k=k'
 | (y,j) :: r,nd,h1,h2=>by
  rw [List.map_cons,List.nodup_cons] at nd
  rcases List.mem_cons.mp h1 with e | g1 <;> rcases List.mem_cons.mp h2 with e' | g2
  ·cases e; cases e'; rfl
  ·cases e; exact absurd (List.mem_map_of_mem (f:=(·.1)) g2) nd.1
  ·cases e'; exact absurd (List.mem_map_of_mem (f:=(·.1)) g1) nd.1
  ·exact nd_lookup nd.2 g1 g2
section
variable {X:Cx} {pins:List (Addr×Obj)} {σ:St} {H:Hp} {s:Shared} {scope:Scope} {cs:List Nat} {fp:List Addr}
theorem comp_start (I:Inv X pins σ H s) (S:CScope X scope cs) (hf:∀ b ∈ fp,FpOk X pins H b) (hlt:∀ b ∈ fp,b < s.heap.objs.size) :
  Inv (compCx X scope s H fp) [] (clr cs σ) H { s with heap:=pushCells (s.heap.push { cls:=.type "dict",data:=.dict #[] }) scope.names }:=by
 have sz:(s.heap.push { cls:=.type "dict",data:=.dict #[] }).objs.size=s.heap.objs.size + 1:=Heap.size_push ..
 have kp:∀ b o,s.heap.get? b=some o→(pushCells (s.heap.push { cls:=.type "dict",data:=.dict #[] }) scope.names).get? b=some o:=fun b o e=>pushCells_keeps _ _ b o (Heap.get?_push_of_some _ e)
 have clo:∀ n c,(n,c) ∈ closOf X.env.cells scope.names []→(n,NameKind.free) ∈ scope.names∧X.env.cells.lookup n=some c:=fun n c h=>(closOf_mem _ _ h).elim (fun z=>absurd z (by simp)) id
 have cltm:∀ n c,(n,c) ∈ closOf X.env.cells scope.names []→c < s.heap.objs.size:=fun n c h=>by
  obtain ⟨v,q⟩:=I.cell n c (clo n c h).2
  exact q.lt
 have cel:∀ n c,(n,c) ∈ cellsFrom (s.heap.objs.size + 1) scope.names (closOf X.env.cells scope.names []) →
   ((n,NameKind.free) ∈ scope.names∧X.env.cells.lookup n=some c)∨((n,NameKind.cell) ∈ scope.names∧s.heap.objs.size + 1≤c∧(pushCells (s.heap.push { cls:=.type "dict",data:=.dict #[] }) scope.names).IsCell c none):=fun n c h=>by
  rw [← sz] at h
  rcases cf_mem _ _ _ h with q | q
  ·exact .inl (clo n c q)
  ·rw [sz] at q; exact .inr q
 have cinj:=cf_inj scope.names (s.heap.objs.size + 1) (closOf X.env.cells scope.names []) (fun n n' c h1 h2=>I.ok.inj n n' c (clo n c h1).2 (clo n' c h2).2) (fun n c h=>Nat.lt_succ_of_lt (cltm n c h))
 have hasC:∀ x ∈ scope.names,x.2 = .free→∃ c,X.env.cells.lookup x.1=some c:=fun x hx hk=>I.ok.has x.1 (S.free x hx hk)
 have fpn:∀ b ∈ fp,b ∉ frs X.stack:=fun b hb z=>by
  obtain ⟨_,f1,f2,_⟩:=hf b hb
  rcases List.mem_cons.mp (I.stkSub b z) with e | e
  ·exact f1 e
  ·exact f2 e
 have kindC:∀ x,(compCx X scope s H fp).env.kindOf x=some .cell∨(compCx X scope s H fp).env.kindOf x=some .free→scope.names.lookup x=some .cell∨scope.names.lookup x=some .free:=fun x h=>by
  rcases h with h | h
  ·have h':(relabel scope X.env).names.lookup x=some .cell:=h
   rcases relabel_lookup (env:=X.env) (names:=scope.names) h' with q | ⟨_,q⟩
   ·exact .inl q
   ·exact .inr q
  ·have h':(relabel scope X.env).names.lookup x=some .free:=h
   rcases relabel_lookup (env:=X.env) (names:=scope.names) h' with q | ⟨q,_⟩
   ·exact .inr q
   ·cases q
 have hasIt:∀ x,scope.names.lookup x=some .cell∨scope.names.lookup x=some .free→∃ c,(cellsFrom (s.heap.objs.size + 1) scope.names (closOf X.env.cells scope.names [])).lookup x=some c:=fun x h=>by
  refine Option.isSome_iff_exists.mp (PySem.W.cellsFrom_some scope.names _ _ ?_)
  rcases h with h | h
  ·exact .inl h
  ·refine .inr (closOf_some _ _ (.inr ⟨PySem.mem_of_lookup h,?_⟩))
   obtain ⟨c,hc⟩:=hasC _ (PySem.mem_of_lookup h) rfl
   exact Option.isSome_iff_exists.mpr ⟨c,hc⟩
 have ns0:(pushCells (s.heap.push { cls:=.type "dict",data:=.dict #[] }) scope.names).Ns s.heap.objs.size fun _=>none:=(Heap.Ns.new s.heap (.type "dict")).keeps (pushCells_keeps _ _)
 refine ⟨⟨I.ok.mod,S.kind,I.ok.glob,I.ok.blt,Nat.le_refl _,fun y z c h1 h2=>cinj y z c (PySem.mem_of_lookup h1) (PySem.mem_of_lookup h2),fun x hx=>hasIt x (kindC x hx),fun x c hfn h=>?_,I.ok.hd,I.ok.frames,.inl rfl,
  fun b hb=>⟨Nat.ne_of_lt (hlt b hb),fun x c h e=>?_⟩,I.bs,Nat.le_trans I.ok.bsz I.sz,fun b o e hb=>?_,fpn,I.stack,I.stkFree⟩,
  rfl,I.bare,Un.kept kp,⟨fun _=>none,ns0,fun i x v h1 h2 h3=>?_⟩,fun x c h=>?_,I.hok.fresh (Nat.le_refl _),fun x c h=>?_,fun p hp=>absurd (show p ∈ ([]:List (Addr×Obj)) from hp) (by simp),I.hok.kept kp,(clr_len cs σ).trans I.len⟩
 ·rcases cel x c (PySem.mem_of_lookup h) with q | q
  ·have hfn':scope.names.lookup x=some .cell:=by
    have:(scope.names.lookup x == some .cell)=true:=hfn
    exact eq_of_beq this
   have:=nd_lookup S.nd q.1 (PySem.mem_of_lookup hfn')
   cases this
  ·exact Nat.le_of_succ_le q.2.1
 ·subst e
  rcases cel x c (PySem.mem_of_lookup h) with q | q
  ·exact (hf c hb).2.2.2.2.1 x c q.2 rfl
  ·exact absurd (Nat.lt_of_lt_of_le (hlt c hb) (Nat.le_of_succ_le q.2.1)) (Nat.lt_irrefl _)
 ·obtain ⟨_,_,_,f3,_⟩:=hf b hb
  rcases f3 with z | z
  ·exact I.ok.noex b o e z
  ·exact absurd (Nat.lt_of_lt_of_le (Heap.lt_size (I.ok.bs b o e).1) z) (Nat.lt_irrefl _)
 ·obtain ⟨h2',hni⟩:=clr_get cs σ i v h2
  have hni':¬ (scope.names.lookup x=some .local∨scope.names.lookup x=some .cell):=fun z=>hni (S.own i x h1 z)
  have hfree:scope.names.lookup x=some .free:=by
   rcases h3 with h3 | h3 | h3
   ·rcases relabel_lookup (env:=X.env) (names:=scope.names) h3 with q | ⟨q,_⟩
    ·exact absurd (.inl q) hni'
    ·cases q
   ·rcases relabel_lookup (env:=X.env) (names:=scope.names) h3 with q | ⟨_,q⟩
    ·exact absurd (.inr q) hni'
    ·exact q
   ·rcases relabel_lookup (env:=X.env) (names:=scope.names) h3 with q | ⟨q,_⟩
    ·exact q
    ·cases q
  have hk:=S.free _ (PySem.mem_of_lookup hfree) rfl
  obtain ⟨m,hn,hl⟩:=I.loc
  have hvis:Vis X.env.scope x:=by
   rcases hk with hk | hk
   ·exact .inr (.inl hk)
   ·exact .inr (.inr hk)
  obtain ⟨u,r,l⟩:=hl i x v h1 h2' hvis
  refine ⟨u,r,?_⟩
  rcases l with ⟨k,_⟩ | ⟨_,c,hc,hcell⟩
  ·have k':X.env.kindOf x=some .local:=k
   rcases hk with hk | hk
   ·rw [show X.env.kindOf x=some .cell from hk] at k'; cases k'
   ·rw [show X.env.kindOf x=some .free from hk] at k'; cases k'
  ·obtain ⟨c',hc'⟩:=hasIt x (.inr hfree)
   have e:c'=c:=by
    rcases cel x c' (PySem.mem_of_lookup hc') with q | q
    ·have q2:=q.2
     rw [hc] at q2; exact (Option.some.inj q2).symm
    ·have:=nd_lookup S.nd q.1 (PySem.mem_of_lookup hfree)
     cases this
   subst e
   refine .inr ⟨?_,c',hc',hcell.keeps kp⟩
   rcases h3 with h3 | h3 | h3
   ·rcases relabel_lookup (env:=X.env) (names:=scope.names) h3 with q | ⟨q,_⟩
    ·rw [hfree] at q; cases q
    ·cases q
   ·exact .inl h3
   ·exact .inr h3
 ·rcases cel x c (PySem.mem_of_lookup h) with q | q
  ·obtain ⟨v,z⟩:=I.cell x c q.2
   exact ⟨v,z.keeps kp⟩
  ·exact ⟨none,q.2.2⟩
 ·rcases cel x c (PySem.mem_of_lookup h) with q | q
  ·exact I.freeC x c q.2
  ·exact I.hok.fresh (Nat.le_of_succ_le q.2.1)
end
open PySem PySem.Spec PyProof.Rows
abbrev NoX:Value→Shared→Prop:=fun _ _=>False
def cTests (ifs:List Expr) (env:Env):Sem Bool:=forIn ifs true fun c r=>if r=true then do let ok ← isTrue c env (eval c env); pure (ForInStep.yield ok) else pure (ForInStep.yield r)
theorem compLoop_gen {prog:Program} {w:World} {A:Around} {R:Result→Shared→Prop} {s:Shared} {elt target iter:Expr} {ifs:List Expr} {scope:Scope} {pos:Pos} {it acc:Value} {env:Env} (I:Nat→Shared→Prop)
  (turn:∀ n s,I n s→wpAny (model prog w) A (pyNext it) (fun r s₁=>match r with
   | none=>R (.ok .next) s₁
   | some v=>wpAny (model prog w) A (letOwnedTupleGo target it v) (fun _ s₁'=>wpAny (model prog w) A (assign target env v) (fun _ s₂ =>
     wpAny (model prog w) A (cTests ifs env) (fun ok s₃ =>
      if ok=true then wpAny (model prog w) A (eval elt env) (fun x s₄ =>
       wpAny (model prog w) A (call (.builtin "list.append") [acc,x]) (fun _ s₅=>∃ m,m < n∧I m s₅) NoX s₄) NoX s₃
      else ∃ m,m < n∧I m s₃) NoX s₂) NoX s₁') NoX s₁) NoX s)
  (n:Nat) (h:I n s) :
  codeAny (model prog w) A (.compLoop (.ListComp elt [⟨target,iter,ifs,0⟩] scope pos) 0 it acc env) R s:=by
 refine codeAny_loop rfl I (fun n s hI=>?_) n h
 show wpAny _ A ((compTurn (.ListComp elt [⟨target,iter,ifs,0⟩] scope pos) 0 it acc env).onRaise (fun x=>do noteFrame x env; theTreesLotGoes x)) _ _ s
 refine wpAny_noted ?_
 rw [compTurn_list]
 refine wpAny_bind (wpAny_standAt (wpAny_bind (wpAny_mono (turn n s hI) (fun r s₁ h₁=>?_) fun _ _ h'=>h'.elim)))
 cases r with
 | none=>exact wpAny_pure h₁
 | some v =>
  refine wpAny_bind (wpAny_mono h₁ (fun _ s₁' h₁'=>?_) fun _ _ h'=>h'.elim)
  refine wpAny_bind (wpAny_mono h₁' (fun _ s₂ h₂=>wpAny_bind (wpAny_mono h₂ (fun ok s₃ h₃=>?_) fun _ _ h'=>h'.elim)) fun _ _ h'=>h'.elim)
  cases ok with
  | false=>exact wpAny_pure ⟨rfl,h₃⟩
  | true =>
   exact wpAny_bind (wpAny_bind (wpAny_mono h₃ (fun x s₄ h₄=>wpAny_bind (wpAny_mono h₄ (fun _ s₅ h₅=>wpAny_pure (wpAny_pure ⟨rfl,h₅⟩)) fun _ _ h'=>h'.elim)) fun _ _ h'=>h'.elim))
theorem newCompEnv {M:Model} {A:Around} {E:Value→Shared→Prop} {s:Shared} {scope:Scope} {globals:Addr} {cl:List (Str×Addr)} {qual:Str} {env:Env} {Q:Env→Shared→Prop}
  (h:Q { scope,locals:=s.heap.objs.size,globals,cells:=cellsFrom (s.heap.objs.size + 1) scope.names cl,qual,func:=none,code:=env.code,frame:=env.frame,builtins:=env.builtins }
   { s with heap:=pushCells (s.heap.push { cls:=.type "dict",data:=.dict #[] }) scope.names }):wpAny M A (newFunctionEnv scope globals cl [] qual none .none (some env)) Q E s:=by
 simp only [newFunctionEnv,Option.isSome_some,if_true]
 refine wpAny_bind (wpAny_alloc ?_)
 refine wpAny_bind (wpAny_layCells _ (fun name kind cells=>by cases hkc:kind == NameKind.cell <;> simp [hkc]) _ _ _ _ ?_)
 rw [show ({ s with heap:=s.heap.push { cls:=.type "dict",data:=.dict #[] } }:Shared).heap.objs.size=s.heap.objs.size + 1 from Heap.size_push ..]
 exact wpAny_bind (wpAny_pure (wpAny_pure h))
def PTs (X:Cx) (ifs:List Expr) (t:TT):Prop :=
 ∀ (pins:List (Addr×Obj)) (s:Shared) (σ:St) (H:Hp) (Q:Bool→Hp→Prop),Inv X pins σ H s→t σ H Q→wpAny (model X.prog X.w) X.A (cTests ifs X.env) (TP X pins σ Q) X.xe s
def tYes:TT:=fun _ H Q=>Q true H
theorem pts_nil {X:Cx}:PTs X [] tYes:=fun pins s σ H Q I h=>wpAny_tests_nil ⟨H,I,h⟩
def Le (σ σ':St):Prop:=σ'.length=σ.length∧∀ (i:Nat) (v:V),σ[i]? = some (some v)→σ'[i]? = some (some v)
def CompGo (cs:List Nat) (g:TG) (tt:TT) (te:TE) (σ:St) (Q:VK) (J:It) (H1:Hp):Prop :=
 ∀ l,H1 l=none→∃ W:Nat→Nat→Hp→Prop,(∃ m,W 0 m (upd H1 l (.lst [])))∧∀ i m H2,W i m H2 →
  (J.stop i H2∧Q (.ref l) H2) ∨
  (J.go i H2∧∀ x H3,J.yld i H2 x H3→g x (clr cs σ) H3 fun σ4 H4=>Le (clr cs σ) σ4∧tt σ4 H4 fun b H5 =>
   if b=true then te σ4 H5 fun v H6=>∃ ys m',H6 l=some (.lst ys)∧ys.length < sizeLine∧m' < m∧W (i + 1) m' (upd H6 l (.lst (ys ++ [v]))) else ∃ m',m' < m∧W (i + 1) m' H5)
def tComp (cs:List Nat) (wi:TI) (g:TG) (tt:TT) (te:TE):TE:=fun σ H Q=>wi σ H fun J H1=>CompGo cs g tt te σ Q J H1
section
variable {X:Cx} {pins:List (Addr×Obj)} {σ:St} {H:Hp} {s:Shared} {scope:Scope} {cs:List Nat} {elt tg iter:Expr} {ifs:List Expr} {pos:Pos} {g:TG} {tt:TT} {te:TE}
theorem comp_block {it:Addr} {fp:List Addr} {tn:Nat→Heap→Prop} {J:It} {Q:VK} {E:Value→Shared→Prop} {RR:Value→Addr→Result→Shared→Prop} (hc:X.calm=true) (I:Inv X pins σ H s) (S:CScope X scope cs)
  (T:Turn X.prog X.w X.K tg J fp it tn) (st:tn 0 s.heap) (hf:∀ b ∈ fp,FpOk X pins H b)
  (hg:∀ s₀ H₀ ex,PG (compCx X scope s₀ H₀ ex) tg g) (ht:∀ s₀ H₀ ex,PTs (compCx X scope s₀ H₀ ex) ifs tt) (he:∀ s₀ H₀ ex,PE (compCx X scope s₀ H₀ ex) elt te) (q:CompGo cs g tt te σ Q J H)
  (hRR:∀ l C s' H',Inv X pins σ H' s'→FpOk X pins H' C→(∃ m,s'.heap.Ns C m)→Q (.ref l) H'→RR (.ref l) C (.ok .next) s') :
  wpAny (model X.prog X.w) X.A (newList []) (fun acc s₃=>wpAny (model X.prog X.w) X.A (newFunctionEnv scope X.env.globals (closOf X.env.cells scope.names []) [] X.env.qual none .none (some X.env)) (fun cenv s₄ =>
   codeAny (model X.prog X.w) X.A (.compStart (.ListComp elt [⟨tg,iter,ifs,0⟩] scope pos) 0 (.ref it) acc { cenv with scope:=relabel scope X.env }) (RR acc cenv.locals) s₄) E s₃) E s:=by
 refine wpAny_newObj_type ?_
 have hfr:H s.heap.objs.size=none:=I.hok.fresh (Nat.le_refl _)
 obtain ⟨W,⟨m0,w0⟩,turn⟩:=q s.heap.objs.size hfr
 generalize hl:s.heap.objs.size=l at *
 have I3:Inv X pins σ (upd H l (.lst [])) { s with heap:=s.heap.push { cls:=.type "list",dict:=none,data:=.seq ([]:List Value).toArray } } :=
  I.laid (t':=s.toks) (fun b u e=>Heap.get?_push_of_some _ e) (Nat.le_of_eq hl) ⟨Nat.zero_le _,[],0,.nil,by rw [← hl]; exact Heap.get?_push_size _ rfl⟩
 have kp3:∀ b o,s.heap.get? b=some o→(s.heap.push { cls:=.type "list",dict:=none,data:=.seq ([]:List Value).toArray }).get? b=some o:=fun b o e=>Heap.get?_push_of_some _ e
 have hfl:∀ b ∈ fp,b≠l:=fun b hb e=>by
  obtain ⟨o,ho,_⟩:=T.obj 0 _ st b hb
  exact absurd (Heap.lt_size ho) (by rw [e,hl]; exact Nat.lt_irrefl _)
 have hf3:∀ b ∈ fp,FpOk X pins (upd H l (.lst [])) b:=fun b hb=>⟨by rw [upd_ne (hfl b hb)]; exact (hf b hb).1,(hf b hb).2⟩
 have st3:tn 0 (s.heap.push { cls:=.type "list",dict:=none,data:=.seq ([]:List Value).toArray }):=T.keep 0 _ _ st fun b _ o e=>kp3 b o e
 generalize hs3:({ s with heap:=s.heap.push { cls:=.type "list",dict:=none,data:=.seq ([]:List Value).toArray } }:Shared)=s3 at I3
 have st3':tn 0 s3.heap:=by rw [← hs3]; exact st3
 have hlt3:∀ b ∈ fp,b < s3.heap.objs.size:=fun b hb=>by
  obtain ⟨o,ho,_⟩:=T.obj 0 _ st3' b hb
  exact Heap.lt_size ho
 refine newCompEnv ?_
 have I4:=comp_start I3 S hf3 hlt3
 generalize hX:compCx X scope s3 (upd H l (.lst [])) fp=X' at I4
 generalize hs4:({ s3 with heap:=pushCells (s3.heap.push { cls:=.type "dict",data:=.dict #[] }) scope.names }:Shared)=s4 at I4 ⊢
 have hg':=hg s3 (upd H l (.lst [])) fp
 have ht':=ht s3 (upd H l (.lst [])) fp
 have he':=he s3 (upd H l (.lst [])) fp
 rw [hX] at hg' ht' he'
 have st4:tn 0 s4.heap:=T.keep 0 _ _ st3' fun b _ o e=>by rw [← hs4]; exact pushCells_keeps _ _ b o (Heap.get?_push_of_some _ e)
 have hP:X'.prog=X.prog:=by rw [← hX]; rfl
 have hw:X'.w=X.w:=by rw [← hX]; rfl
 have hA:X'.A=X.A:=by rw [← hX]; rfl
 have hK:X'.K=X.K:=by rw [← hX]; rfl
 have hc':X'.calm=true:=by rw [← hX]; exact hc
 have hxe:X'.xe=NoX:=by rw [← hX]; rfl
 have hloc:X'.env.locals=s3.heap.objs.size:=by rw [← hX]; rfl
 have henv:({ scope:=relabel scope X.env,locals:=s3.heap.objs.size,globals:=X.env.globals,cells:=cellsFrom (s3.heap.objs.size + 1) scope.names (closOf X.env.cells scope.names []),qual:=X.env.qual,func:=none,code:=X.env.code,frame:=X.env.frame,builtins:=X.env.builtins }:Env)=X'.env:=by rw [← hX]; rfl
 have fpx:∀ {H':Hp},(∀ b ∈ fp,H' b=none)→∀ b ∈ fp,FpOk X' [] H' b:=fun {H'} hn b hb=>by
  have ex:X'.ex=fp:=by rw [← hX]; rfl
  have pn:X'.pn=[]:=by rw [← hX]; rfl
  refine ⟨hn b hb,(I4.ok.exf b (by rw [ex]; exact hb)).1,I4.ok.exfs b (by rw [ex]; exact hb),.inl (by rw [ex]; exact hb),(I4.ok.exf b (by rw [ex]; exact hb)).2,fun p hp=>?_⟩
  rw [pn] at hp
  simp at hp
 show codeAny (model X.prog X.w) X.A (.compStart (.ListComp elt [⟨tg,iter,ifs,0⟩] scope pos) 0 (.ref it) (.ref l) ({ scope:=relabel scope X.env,locals:=s3.heap.objs.size,globals:=X.env.globals,cells:=cellsFrom (s3.heap.objs.size + 1) scope.names (closOf X.env.cells scope.names []),qual:=X.env.qual,func:=none,code:=X.env.code,frame:=X.env.frame,builtins:=X.env.builtins }:Env)) (RR (.ref l) s3.heap.objs.size) s4
 rw [henv]
 have loop:codeAny (model X.prog X.w) X.A (.compLoop (.ListComp elt [⟨tg,iter,ifs,0⟩] scope pos) 0 (.ref it) (.ref l) X'.env) (RR (.ref l) s3.heap.objs.size) s4:=by
  refine compLoop_gen (fun n s'=>∃ i H',Inv X' [] (clr cs σ) H' s'∧tn i s'.heap∧(∀ b ∈ fp,H' b=none)∧W i n H') ?_ m0 ⟨0,_,I4,st4,fun b hb=>(hf3 b hb).1,w0⟩
  rintro n s5 ⟨i,H5,I5,st5,fr5,w5⟩
  rcases turn i n H5 w5 with ⟨stop,qn⟩ | ⟨go,step⟩
  ·have:=T.done X' hP hw hK hc' i [] s5 (clr cs σ) H5 NoX I5 (fpx fr5) st5 stop
   rw [hA] at this
   refine thn this fun r s6 ⟨hr,I6⟩=>?_
   subst hr
   have b6:=I6.base
   have e1:X'.fs=frs X.stack:=by rw [← hX]; rfl
   have e2:X'.ex=fp:=by rw [← hX]; rfl
   have e3:X'.H₀=upd H l (.lst []):=by rw [← hX]; rfl
   have e4:X'.s₀=s3:=by rw [← hX]; rfl
   rw [e1,e2,e3,e4] at b6
   have o6:s6.os=s3.os:=by rw [← e4]; exact I6.os
   have hok6:HOk X.prog X.w H5 s6.heap:=by rw [← hP,← hw]; exact I6.hok
   have J6:Inv X pins σ H5 s6:=I3.call' o6 b6 hok6 I6.bare fun b hb=>by
    obtain ⟨_,f1,_,f3,f4,f5⟩:=hf3 b hb
    exact ⟨f3,f1,f4,f5⟩
   obtain ⟨m6,n6,_⟩:=I6.loc
   rw [hloc] at n6
   refine hRR l s3.heap.objs.size s6 H5 J6 (I3.fpOk (Nat.le_refl _) ?_) ⟨m6,n6⟩ qn
   rw [← hloc]
   exact I6.free
  ·have:=T.item X' hP hw hK hc' i [] s5 (clr cs σ) H5 NoX I5 (fpx fr5) st5 go
   rw [hA] at this
   refine thn this fun r s6 ⟨u,hr,h6⟩=>?_
   subst hr
   refine thn h6 fun _ s7 ⟨x,H7,I7,r7,y7,st7,fr7⟩=>?_
   have I7':=I7.pinned (fpx fr7) (T.obj _ _ st7)
   have a8:=hg' _ s7 (clr cs σ) H7 x u _ I7' r7 (step x H7 y7)
   rw [hP,hw,hA,hxe] at a8
   refine thn a8 fun _ s8 ⟨σ8,H8,I8,le8,q8⟩=>?_
   have a9:=ht' _ s8 σ8 H8 _ I8 q8
   rw [hP,hw,hA,hxe] at a9
   refine thn a9 fun ok s9 ⟨H9,I9,q9⟩=>?_
   have back:∀ {H':Hp} {s':Shared},Inv X' ([] ++ pinsAt fp s7.heap) σ8 H' s'→Inv X' [] (clr cs σ) H' s'∧tn (i + 1) s'.heap∧∀ b ∈ fp,H' b=none:=fun {H' s'} J=>by
    refine ⟨J.unpinned.weak (le8.1.symm) le8.2,T.keep _ _ _ st7 fun b hb o e=>(J.pin (b,o) (List.mem_append_right _ (List.mem_append_right _ (mem_pinsAt hb e)))).1,fun b hb=>?_⟩
    obtain ⟨o,e,d⟩:=T.obj _ _ st7 b hb
    exact (J.pin (b,o) (List.mem_append_right _ (List.mem_append_right _ (mem_pinsAt hb e)))).2.1
   cases ok with
   | false =>
    rw [if_neg Bool.false_ne_true] at q9 ⊢
    obtain ⟨m',hm,w9⟩:=q9
    obtain ⟨b1,b2,b3⟩:=back I9
    exact ⟨m',hm,i + 1,H9,b1,b2,b3,w9⟩
   | true =>
    rw [if_pos rfl] at q9 ⊢
    have a10:=he' _ s9 σ8 H9 _ I9 q9
    rw [hP,hw,hA,hxe] at a10
    refine thn a10 fun x10 s10 ⟨v,H10,I10,r10,ys,m',hy,hz,hm,w10⟩=>?_
    have a11:=mt_append (X:=X') _ s10 σ8 H10 (.ref l) [v] (.ref l) [x10] (fun _ H'=>W (i + 1) m' H') I10 rfl (.cons r10 .nil) ⟨l,ys,v,rfl,rfl,hy,hz,w10⟩
    rw [hP,hw,hA,hxe] at a11
    refine thn a11 fun _ s11 ⟨_,H11,I11,_,w11⟩=>?_
    obtain ⟨b1,b2,b3⟩:=back I11
    exact ⟨m',hm,i + 1,H11,b1,b2,b3,w11⟩
 exact codeAny_compStart_list loop (T.self X.A 0 s4 _ _ st4 loop)
theorem pe_comp {wi:TI} (hc:X.calm=true) (S:CScope X scope cs) (hi:PI X tg iter wi) (hg:∀ s₀ H₀ ex,PG (compCx X scope s₀ H₀ ex) tg g) (ht:∀ s₀ H₀ ex,PTs (compCx X scope s₀ H₀ ex) ifs tt) (he:∀ s₀ H₀ ex,PE (compCx X scope s₀ H₀ ex) elt te)
  (hs:∀ x,foldedSetIterable iter X.env x=pure x:=by intro _; rfl):PE X (.ListComp elt [⟨tg,iter,ifs,0⟩] scope pos) (tComp cs wi g tt te):=by
 intro pins s σ H Q I h
 have hasC:∀ x ∈ scope.names,x.2 = .free→∃ c,X.env.cells.lookup x.1=some c:=fun x hx hk=>I.ok.has x.1 (S.free x hx hk)
 rw [eval_ListComp]
 refine wpAny_comprehension_free (use:=none) rfl hs (closFor_eq hasC) S.kind S.names (thn (hi pins s σ H _ I h) fun xv s1 h1=>thn h1 fun itv s2 h2=>?_)
 obtain ⟨it,fp,tn,J,H2,e,I2,T,st2,f2,q2⟩:=h2
 subst e
 refine comp_block (RR:=fun acc C=>compPost (model X.prog X.w) X.A X.xe none (EP X pins σ Q) acc C) hc I2 S T st2 f2 hg ht he q2 ?_
 intro l C s' H' I' fC ⟨m,n⟩ q
 exact ⟨m,n,fun h' hs'=>⟨.ref l,H',I'.turned (t':=s'.toks) (fun b o hb e=>(hs'.2 b hb).trans e) fC.1 fC.2.1 fC.2.2.2.1 fC.2.2.2.2.1 fC.2.2.2.2.2,rfl,q⟩⟩
theorem ps_setComp {wi:TI} {i:Nat} {y:Str} {py spos:Pos} (hc:X.calm=true) (S:CScope X scope cs) (hN:X.N.Nodup) (hi':X.N[i]? = some y) (hy:X.env.scope.names.lookup y=some .local)
  (hi:PI X tg iter wi) (hg:∀ s₀ H₀ ex,PG (compCx X scope s₀ H₀ ex) tg g) (ht:∀ s₀ H₀ ex,PTs (compCx X scope s₀ H₀ ex) ifs tt) (he:∀ s₀ H₀ ex,PE (compCx X scope s₀ H₀ ex) elt te)
  (hsw:swapsWith (.ListComp elt [⟨tg,iter,ifs,0⟩] scope pos) (some (.Name y py)) spos.line X.env=pure true:=by rfl)
  (hs:∀ x,foldedSetIterable iter X.env x=pure x:=by intro _; rfl):PS X (.Assign [.Name y py] (.ListComp elt [⟨tg,iter,ifs,0⟩] scope pos) spos) (tAsg (tComp cs wi g tt te) (gName i)):=by
 intro pins s σ H D I h
 have hasC:∀ x ∈ scope.names,x.2 = .free→∃ c,X.env.cells.lookup x.1=some c:=fun x hx hk=>I.ok.has x.1 (S.free x hx hk)
 rw [exec_Assign_Name_used _ _ _ _ hsw]
 refine wpAny_bind (wpAny_standAt (wpAny_bind ?_))
 show wpAny _ X.A (do let _ ← comprehension (.ListComp elt [⟨tg,iter,ifs,0⟩] scope pos) scope X.env _ (newList []) false (eval iter X.env) (some (assign (.Name y py) X.env))) _ _ s
 refine wpAny_bind (wpAny_mono (wpAny_comprehension_free (use:=some (assign (.Name y py) X.env)) (Q:=fun _ s'=>SP X pins D .next s') rfl hs (closFor_eq hasC) S.kind S.names
  (thn (hi pins s σ H _ I h) fun xv s1 h1=>thn h1 fun itv s2 h2=>?_)) (fun _ s' hq=>wpAny_pure (wpAny_pure hq)) fun _ _ e=>e)
 obtain ⟨it,fp,tn,J,H2,e,I2,T,st2,f2,q2⟩:=h2
 subst e
 refine comp_block (RR:=fun acc C=>compPost (model X.prog X.w) X.A X.xe (some (assign (.Name y py) X.env)) (fun _ s'=>SP X pins D .next s') acc C) hc I2 S T st2 f2 hg ht he q2 ?_
 intro l C s' H' I' fC ⟨m,n⟩ q
 show wpAny _ X.A (assign (.Name y py) X.env (.ref l)) _ _ _
 refine wpAny_assign_Name (store_ok2 I' hN hi' (.inl hy) (v:=.ref l) rfl (fun s'' I'' ⟨a,hsb,ha⟩=>?_) (.inr hy))
 have hne:C≠a:=by
  rcases ha with rfl | ha
  ·exact fC.2.1
  ·exact fun e=>fC.2.2.2.2.1 y a ha e.symm
 refine ⟨m,n.sameBut hsb hne,fun h' hs'=>⟨_,H',I''.turned (t':=s''.toks) (fun b o hb e=>(hs'.2 b hb).trans e) fC.1 fC.2.1 fC.2.2.2.1 fC.2.2.2.2.1 fC.2.2.2.2.2,q⟩⟩
end
end L2
set_option Elab.async false
set_option linter.all false
set_option maxRecDepth 100000
set_option maxHeartbeats 4000000
namespace DV
open PySem PySem.Spec PyProof.Rows L2
abbrev Tx:=List Nat
def toS (x:Tx):Str:=⟨x.toArray⟩
theorem toS_cps (x:Tx):(toS x).cps.toList=x:=by simp [toS]
theorem toS_len (x:Tx):(toS x).length=x.length:=by simp [toS,Str.length]
theorem toS_inj {x y:Tx} (h:toS x=toS y):x=y:=by
 have:=congrArg (fun z:Str=>z.cps.toList) h
 simpa [toS] using this
theorem toS_of (z:Str):z=toS z.cps.toList:=by simp [toS]
abbrev DKey:=Sum Int Tx
def kOf:DKey→Key
 | .inl i=>.inl i
 | .inr x=>.inr (toS x)
inductive D where
 | non | bl (b:Bool) | int (i:Int) | str (x:Tx) | tup (xs:List D) | lst (xs:List D) | dct (kvs:List (DKey×D)) | exc (n:Nat)
def excAt (C a:Addr):Heap→Prop:=fun h=>∃ o,h.get? a=some o∧o.cls = .ref C∧∃ vs,o.data = .fields vs
inductive S where
 | pure (d:D)
 | own (d:D)
def S.d:S→D
 | .pure d=>d
 | .own d=>d
abbrev Dl:=List (Option S)
abbrev St:=L2.St
inductive Rep (H:Hp) (O:Addr→Prop):V→D→Prop
 | non:Rep H O .non .non
 | bl (b:Bool):Rep H O (.bl b) (.bl b)
 | int (i:Int):Rep H O (.int i) (.int i)
 | str (x:Tx):Rep H O (.str (toS x)) (.str x)
 | tup {a:Addr} {vs:List V} {ds:List D}:¬ O a→H a=some (.tup vs)→vs.length=ds.length→(∀ (i:Nat) v d,vs[i]? = some v→ds[i]? = some d→Rep H O v d)→Rep H O (.ref a) (.tup ds)
 | lst {a:Addr} {vs:List V} {ds:List D}:¬ O a→Rd H a (.lst vs)→vs.length=ds.length→(∀ (i:Nat) v d,vs[i]? = some v→ds[i]? = some d→Rep H O v d)→Rep H O (.ref a) (.lst ds)
 | dct {a:Addr} {ws:List (Key×V)} {ds:List (DKey×D)}:¬ O a→H a=some (.dK ws)→ws.map (·.1)=ds.map (fun p=>kOf p.1)→(∀ (i:Nat) p q,ws[i]? = some p→ds[i]? = some q→Rep H O p.2 q.2)→Rep H O (.ref a) (.dct ds)
 | exc {a:Addr} {n:Nat}:¬ O a→H a=some (.ext (excAt n a))→Rep H O (.ref a) (.exc n)
abbrev Reps (H:Hp) (O:Addr→Prop) (vs:List V) (ds:List D):Prop:=vs.length=ds.length∧∀ (i:Nat) v d,vs[i]? = some v→ds[i]? = some d→Rep H O v d
def OwnAt (H:Hp) (O:Addr→Prop) (a:Addr):D→Prop
 | .lst ds=>∃ vs,H a=some (.lst vs)∧Reps H O vs ds
 | .dct ds=>∃ ws:List (Key×V),H a=some (.dK ws)∧ws.map (·.1)=ds.map (fun p=>kOf p.1)∧∀ (i:Nat) p q,ws[i]? = some p→ds[i]? = some q→Rep H O p.2 q.2
 | _=>False
section
variable {H H':Hp} {O O':Addr→Prop} {v:V} {d:D} {vs:List V} {ds:List D} {a:Addr}
theorem Rd.keep {u:HO} (h:Rd H a u) (k:∀ o,H a=some o→H' a=some o):Rd H' a u:=by
 rcases h with h | ⟨o,h⟩
 ·exact .inl (k _ h)
 ·exact .inr ⟨o,k _ h⟩
theorem Rd.some {u:HO} (h:Rd H a u):∃ o,H a=some o:=by
 rcases h with h | ⟨o,h⟩
 ·exact ⟨_,h⟩
 ·exact ⟨_,h⟩
theorem Rep.keep (h:Rep H O v d) (k:∀ a o,H a=some o→¬ O a→H' a=some o):Rep H' O v d:=by
 induction h with
 | non=>exact .non
 | bl b=>exact .bl b
 | int i=>exact .int i
 | str x=>exact .str x
 | tup h1 h2 h3 _ ih=>exact .tup h1 (k _ _ h2 h1) h3 ih
 | lst h1 h2 h3 _ ih=>exact .lst h1 (Rd.keep h2 fun o e=>k _ o e h1) h3 ih
 | dct h1 h2 h3 _ ih=>exact .dct h1 (k _ _ h2 h1) h3 ih
 | exc h1 h2=>exact .exc h1 (k _ _ h2 h1)
theorem Rep.anti (h:Rep H O v d) (k:∀ a,O' a→O a∨H a=none):Rep H O' v d:=by
 have no:∀ {a:Addr} {u:HO},¬ O a→Rd H a u→¬ O' a:=fun {a u} h1 h2 z=>by
  rcases k a z with q | q
  ·exact h1 q
  ·obtain ⟨o,e⟩:=Rd.some h2
   rw [q] at e; cases e
 induction h with
 | non=>exact .non
 | bl b=>exact .bl b
 | int i=>exact .int i
 | str x=>exact .str x
 | tup h1 h2 h3 _ ih=>exact .tup (no h1 (.inl h2)) h2 h3 ih
 | lst h1 h2 h3 _ ih=>exact .lst (no h1 h2) h2 h3 ih
 | dct h1 h2 h3 _ ih=>exact .dct (no h1 (.inl h2)) h2 h3 ih
 | exc h1 h2=>exact .exc (no h1 (.inl h2)) h2
theorem Reps.keep (h:Reps H O vs ds) (k:∀ a o,H a=some o→¬ O a→H' a=some o):Reps H' O vs ds:=⟨h.1,fun i v d e1 e2=>(h.2 i v d e1 e2).keep k⟩
theorem Reps.anti (h:Reps H O vs ds) (k:∀ a,O' a→O a∨H a=none):Reps H O' vs ds:=⟨h.1,fun i v d e1 e2=>(h.2 i v d e1 e2).anti k⟩
theorem Reps.nil:Reps H O [] []:=⟨rfl,fun i v d e _=>by simp at e⟩
theorem Reps.cons (h:Rep H O v d) (r:Reps H O vs ds):Reps H O (v :: vs) (d :: ds):=by
 refine ⟨by simp [r.1],fun i v' d' e1 e2=>?_⟩
 cases i with
 | zero=>simp at e1 e2; subst e1; subst e2; exact h
 | succ i=>exact r.2 i v' d' (by simpa using e1) (by simpa using e2)
theorem Reps.head {v:V} {d:D} (r:Reps H O (v :: vs) (d :: ds)):Rep H O v d:=r.2 0 v d rfl rfl
theorem Reps.tail {v:V} {d:D} (r:Reps H O (v :: vs) (d :: ds)):Reps H O vs ds:=⟨by simpa using r.1,fun i v' d' e1 e2=>r.2 (i + 1) v' d' (by simpa using e1) (by simpa using e2)⟩
theorem Reps.append {vs':List V} {ds':List D} (h:Reps H O vs ds) (h':Reps H O vs' ds'):Reps H O (vs ++ vs') (ds ++ ds'):=by
 induction vs generalizing ds with
 | nil =>
  cases ds with
  | nil=>exact h'
  | cons d r=>have:=h.1; simp at this
 | cons v r ih =>
  cases ds with
  | nil=>have:=h.1; simp at this
  | cons d q=>exact .cons h.head (ih h.tail)
theorem Reps.get {i:Nat} (h:Reps H O vs ds) (e:ds[i]? = some d):∃ v,vs[i]? = some v∧Rep H O v d:=by
 have hi:i < ds.length:=(List.getElem?_eq_some_iff.mp e).1
 have hv:i < vs.length:=by rw [h.1]; exact hi
 exact ⟨vs[i],by simp [hv],h.2 i _ d (by simp [hv]) e⟩
theorem Reps.take (n:Nat) (h:Reps H O vs ds):Reps H O (vs.take n) (ds.take n):=by
 refine ⟨by simp [h.1],fun i v d e1 e2=>?_⟩
 by_cases hi:i < n
 ·rw [List.getElem?_take_of_lt hi] at e1 e2
  exact h.2 i v d e1 e2
 ·rw [List.getElem?_take_eq_none (by omega)] at e1; cases e1
theorem Reps.drop (n:Nat) (h:Reps H O vs ds):Reps H O (vs.drop n) (ds.drop n):=by
 refine ⟨by simp [h.1],fun i v d e1 e2=>?_⟩
 rw [List.getElem?_drop] at e1 e2
 exact h.2 (n + i) v d e1 e2
theorem Reps.set (h:Reps H O vs ds) (r:Rep H O v d) (j:Nat):Reps H O (vs.set j v) (ds.set j d):=by
 refine ⟨by simp [h.1],fun i v' d' e1 e2=>?_⟩
 by_cases hi:j=i
 ·subst hi
  rw [List.getElem?_set] at e1 e2
  simp at e1 e2
  obtain ⟨_,rfl⟩:=e1
  obtain ⟨_,rfl⟩:=e2
  exact r
 ·rw [List.getElem?_set_ne hi] at e1 e2
  exact h.2 i v' d' e1 e2
theorem Reps.reverse (h:Reps H O vs ds):Reps H O vs.reverse ds.reverse:=by
 refine ⟨by simp [h.1],fun i v d e1 e2=>?_⟩
 have hl:=h.1
 have h1:i < vs.length:=by have:=(List.getElem?_eq_some_iff.mp e1).1; simpa using this
 rw [List.getElem?_reverse (by omega)] at e1
 rw [List.getElem?_reverse (by omega)] at e2
 exact h.2 (vs.length - 1 - i) v d e1 (by rw [hl]; exact e2)
theorem OwnAt.keep (h:OwnAt H O a d) (hk:∀ b o,H b=some o→¬ O b→H' b=some o) (ha:∀ o,H a=some o→H' a=some o):OwnAt H' O a d:=by
 cases d <;> first
  | exact h.elim
  | (obtain ⟨vs,e,r⟩:=h; exact ⟨vs,ha _ e,Reps.keep r hk⟩)
  | (obtain ⟨ws,e,r,q⟩:=h; exact ⟨ws,ha _ e,r,fun i p p' e1 e2=>(q i p p' e1 e2).keep hk⟩)
theorem OwnAt.anti (h:OwnAt H O a d) (k:∀ a,O' a→O a∨H a=none):OwnAt H O' a d:=by
 cases d <;> first
  | exact h.elim
  | (obtain ⟨vs,e,r⟩:=h; exact ⟨vs,e,Reps.anti r k⟩)
  | (obtain ⟨ws,e,r,q⟩:=h; exact ⟨ws,e,r,fun i p p' e1 e2=>(q i p p' e1 e2).anti k⟩)
theorem OwnAt.some (h:OwnAt H O a d):∃ o,H a=some o:=by
 cases d <;> first
  | exact h.elim
  | (obtain ⟨vs,e,r⟩:=h; exact ⟨_,e⟩)
theorem OwnAt.rep (h:OwnAt H O a d) (ho:¬ O a):Rep H O (.ref a) d:=by
 cases d with
 | lst ds=>obtain ⟨vs,e,r⟩:=h; exact .lst ho (.inl e) r.1 r.2
 | dct ds=>obtain ⟨ws,e,r,q⟩:=h; exact .dct ho e r q
 | _=>exact h.elim
end
structure Xc where
 cls:Tx
 flds:List D
structure Fc where
 H₀:Hp
 B:Addr→Prop
 pin:List (Nat×Addr)
 xc:Xc→Dl→Prop:=fun _ _=>False
def Fc.plus (c:Fc) (p:Addr):Fc:={ c with B:=fun a=>c.B a∨a=p }
def Fc.I (c:Fc) (a:Addr):Prop:=∃ i,(i,a) ∈ c.pin
def Own (σ:St) (δ:Dl) (a:Addr):Prop:=∃ (i:Nat) (d:D),δ[i]? = some (some (.own d))∧σ[i]? = some (some (.ref a))
def Av (c:Fc) (σ:St) (δ:Dl) (a:Addr):Prop:=c.B a∨Own σ δ a
structure Ok (c:Fc) (σ:St) (δ:Dl) (H:Hp):Prop where
 keep:∀ a o,c.H₀ a=some o→¬ c.I a→H a=some o
 bd:∀ a,c.B a→∃ o,H a=some o
 ith:∀ a,c.I a→∃ o,H a=some o
 len:δ.length=σ.length
 slot:∀ (i:Nat) d,δ[i]? = some (some (.pure d))→∃ v,σ[i]? = some (some v)∧Rep H (Av c σ δ) v d
 own:∀ (i:Nat) d,δ[i]? = some (some (.own d))→∃ a,σ[i]? = some (some (.ref a))∧OwnAt H (Av c σ δ) a d∧(c.I a∨c.H₀ a=none)∧¬ c.B a
 inj:∀ (i j:Nat) a d d',δ[i]? = some (some (.own d))→δ[j]? = some (some (.own d'))→σ[i]? = some (some (.ref a))→σ[j]? = some (some (.ref a))→i=j
 pinned:∀ p ∈ c.pin,σ[p.1]? = some (some (.ref p.2))
structure Aft (c:Fc) (σ:St) (δ:Dl) (H:Hp) (σ':St) (δ':Dl) (H':Hp):Prop where
 ok:Ok c σ' δ' H'
 keep:∀ a o,H a=some o→¬ Own σ δ a→H' a=some o
 own:∀ a,Own σ' δ' a→Own σ δ a∨H a=none
 there:∀ a o,H a=some o→∃ o',H' a=some o'
section
variable {c:Fc} {σ σ' σ'':St} {δ δ' δ'':Dl} {H H' H'':Hp} {v:V} {d:D} {a p:Addr}
theorem Ok.bthere (k:Ok c σ δ H) (h:c.B a):∃ o,H a=some o:=k.bd a h
theorem Ok.othere (k:Ok c σ δ H) (h:Own σ δ a):∃ o,H a=some o:=by
 obtain ⟨i,d,e1,e2⟩:=h
 obtain ⟨b,e3,q,_⟩:=k.own i d e1
 rw [e2] at e3; cases e3
 exact q.some
theorem Ok.avthere (k:Ok c σ δ H) (h:Av c σ δ a):∃ o,H a=some o:=h.elim k.bthere k.othere
theorem Ok.nav (k:Ok c σ δ H) (h:H a=none):¬ Av c σ δ a:=fun z=>by
 obtain ⟨o,e⟩:=k.avthere z
 rw [h] at e; cases e
theorem Aft.refl (k:Ok c σ δ H):Aft c σ δ H σ δ H:=⟨k,fun _ _ e _=>e,fun _ h=>.inl h,fun _ o e=>⟨o,e⟩⟩
theorem Aft.trans (x:Aft c σ δ H σ' δ' H') (y:Aft c σ' δ' H' σ'' δ'' H''):Aft c σ δ H σ'' δ'' H'':=by
 refine ⟨y.ok,fun a o e n=>?_,fun a h=>?_,fun a o e=>?_⟩
 ·refine y.keep a o (x.keep a o e n) fun z=>?_
  rcases x.own a z with q | q
  ·exact n q
  ·rw [q] at e; cases e
 ·rcases y.own a h with q | q
  ·exact x.own a q
  ·right
   cases e:H a with
   | none=>rfl
   | some o =>
    obtain ⟨o',e'⟩:=x.there a o e
    rw [q] at e'; cases e'
 ·obtain ⟨o',e'⟩:=x.there a o e
  exact y.there a o' e'
theorem Aft.av (x:Aft c σ δ H σ' δ' H'):∀ a,Av c σ' δ' a→Av c σ δ a∨H a=none:=fun a h=>by
 rcases h with h | h
 ·exact .inl (.inl h)
 ·rcases x.own a h with q | q
  ·exact .inl (.inr q)
  ·exact .inr q
theorem Rep.aft (h:Rep H (Av c σ δ) v d) (x:Aft c σ δ H σ' δ' H'):Rep H' (Av c σ' δ') v d:=by
 have h1:Rep H (fun a=>Av c σ δ a∨Av c σ' δ' a) v d:=Rep.anti h fun a z=>z.elim .inl (x.av a)
 exact (h1.keep fun a o e n=>x.keep a o e fun z=>n (.inl (.inr z))).anti fun a z=>.inl (.inr z)
theorem Reps.aft {vs:List V} {ds:List D} (h:Reps H (Av c σ δ) vs ds) (x:Aft c σ δ H σ' δ' H'):Reps H' (Av c σ' δ') vs ds:=⟨h.1,fun i v d e1 e2=>Rep.aft (h.2 i v d e1 e2) x⟩
def RepS (c:Fc) (σ:St) (δ:Dl) (Hs H:Hp) (v:V):S→Prop
 | .pure d=>Rep H (Av c σ δ) v d
 | .own d=>∃ a,v = .ref a∧OwnAt H (Av (c.plus a) σ δ) a d∧¬ c.B a∧c.H₀ a=none∧Ok (c.plus a) σ δ H∧Hs a=none
theorem plus_nown (k:Ok (c.plus a) σ δ H):¬ Own σ δ a:=fun ⟨i,d,e1,e2⟩=>by
 obtain ⟨b,e3,_,_,n⟩:=k.own i d e1
 rw [e2] at e3; cases e3
 exact n (.inr rfl)
theorem RepS.rep {Hs:Hp} {r:S} (h:RepS c σ δ Hs H v r):Rep H (Av c σ δ) v r.d:=by
 cases r with
 | pure d=>exact h
 | own d =>
  obtain ⟨a,rfl,o,n,f,k,_⟩:=h
  refine (o.anti fun b z=>.inl ?_).rep fun z=>z.elim n (plus_nown k)
  exact z.elim (fun z=>.inl (.inl z)) .inr
theorem RepS.back {r:S} {Hs H':Hp} {σ₀:St} {δ₀:Dl} (h:RepS c σ δ Hs H v r) (x:Aft c σ₀ δ₀ H' σ' δ' Hs):RepS c σ δ H' H v r:=by
 cases r with
 | pure d=>exact h
 | own d =>
  obtain ⟨a,e,o,n,f,k,hs⟩:=h
  refine ⟨a,e,o,n,f,k,?_⟩
  cases q:H' a with
  | none=>rfl
  | some o =>
   obtain ⟨o',e'⟩:=x.there a o q
   rw [hs] at e'; cases e'
theorem RepS.home {r:S} {Hs:Hp} (h:RepS c σ δ Hs H v r):RepS c σ δ c.H₀ H v r:=by
 cases r with
 | pure d=>exact h
 | own d =>
  obtain ⟨a,e,o,n,f,k,hs⟩:=h
  exact ⟨a,e,o,n,f,k,f⟩
theorem Ok.alloc (k:Ok c σ δ H) (hp:H p=none) (o:HO):Ok c σ δ (upd H p o):=by
 have up:∀ a w,H a=some w→upd H p o a=some w:=fun a w e=>by
  rw [upd_ne (ne_of_none e hp)]; exact e
 refine ⟨fun a w e n=>up a w (k.keep a w e n),fun a z=>(k.bd a z).elim fun w e=>⟨w,up a w e⟩,fun a z=>(k.ith a z).elim fun w e=>⟨w,up a w e⟩,k.len,fun i d e=>?_,fun i d e=>?_,k.inj,k.pinned⟩
 ·obtain ⟨v,e1,r⟩:=k.slot i d e
  exact ⟨v,e1,r.keep fun a w q _=>up a w q⟩
 ·obtain ⟨a,e1,r,q⟩:=k.own i d e
  exact ⟨a,e1,r.keep (fun b w q _=>up b w q) fun w q=>up a w q,q⟩
theorem Aft.alloc (k:Ok c σ δ H) (hp:H p=none) (o:HO):Aft c σ δ H σ δ (upd H p o):=by
 have up:∀ a w,H a=some w→upd H p o a=some w:=fun a w e=>by
  rw [upd_ne (ne_of_none e hp)]; exact e
 exact ⟨k.alloc hp o,fun a w e _=>up a w e,fun a h=>.inl h,fun a w e=>⟨w,up a w e⟩⟩
theorem Ok.fresh₀ (k:Ok c σ δ H) (hp:H p=none):c.H₀ p=none:=by
 cases e:c.H₀ p with
 | none=>rfl
 | some o =>
  by_cases q:c.I p
  ·obtain ⟨w,e'⟩:=k.ith p q
   rw [hp] at e'; cases e'
  ·have:=k.keep p o e q
   rw [hp] at this; cases this
theorem Ok.plus (k:Ok c σ δ H) (hp:H p=none) (o:HO):Ok (c.plus p) σ δ (upd H p o):=by
 have k':=k.alloc hp o
 have sub:∀ b,Av (c.plus p) σ δ b→Av c σ δ b∨b=p:=fun b z=>by
  rcases z with (z | z) | z
  ·exact .inl (.inl z)
  ·exact .inr z
  ·exact .inl (.inr z)
 have sub2:∀ b,Av (c.plus p) σ δ b→Av c σ δ b∨H b=none:=fun b z=>(sub b z).elim .inl fun e=>.inr (by rw [e]; exact hp)
 have up:∀ a w,H a=some w→upd H p o a=some w:=fun a w e=>by
  rw [upd_ne (ne_of_none e hp)]; exact e
 refine ⟨k'.keep,fun a z=>?_,k'.ith,k.len,fun i d e=>?_,fun i d e=>?_,k.inj,k.pinned⟩
 ·rcases z with z | z
  ·exact k'.bd a z
  ·exact ⟨o,by rw [z]; exact upd_same⟩
 ·obtain ⟨v,e1,r⟩:=k.slot i d e
  exact ⟨v,e1,(r.anti sub2).keep fun a w q _=>up a w q⟩
 ·obtain ⟨a,e1,r,q,nb⟩:=k.own i d e
  refine ⟨a,e1,(r.anti sub2).keep (fun b w q _=>up b w q) (fun w q=>up a w q),q,fun z=>?_⟩
  rcases z with z | z
  ·exact nb z
  ·obtain ⟨w,ew⟩:=r.some
   rw [z,hp] at ew; cases ew
theorem RepS.newL {vs:List V} {ds:List D} (k:Ok c σ δ H) (r:Reps H (Av c σ δ) vs ds) (hp:H p=none):RepS c σ δ H (upd H p (.lst vs)) (.ref p) (.own (.lst ds)):=by
 have up:∀ a w,H a=some w→upd H p (.lst vs) a=some w:=fun a w e=>by
  rw [upd_ne (ne_of_none e hp)]; exact e
 refine ⟨p,rfl,⟨vs,upd_same,?_⟩,fun z=>k.nav hp (.inl z),k.fresh₀ hp,k.plus hp _,hp⟩
 have r1:Reps H (Av (c.plus p) σ δ) vs ds:=Reps.anti r fun b z=>by
  rcases z with (z | z) | z
  ·exact .inl (.inl z)
  ·exact .inr (by rw [z]; exact hp)
  ·exact .inl (.inr z)
 exact Reps.keep r1 fun b w e _=>up b w e
theorem RepS.newT {vs:List V} {ds:List D} (k:Ok c σ δ H) (r:Reps H (Av c σ δ) vs ds) (hp:H p=none):RepS c σ δ H (upd H p (.tup vs)) (.ref p) (.pure (.tup ds)):=by
 have up:∀ a w,H a=some w→upd H p (.tup vs) a=some w:=fun a w e=>by
  rw [upd_ne (ne_of_none e hp)]; exact e
 have r1:=Reps.keep r (H':=upd H p (.tup vs)) fun b w e _=>up b w e
 exact .tup (k.nav hp) upd_same r1.1 r1.2
end
inductive Rs (α:Type) where
 | ok (a:α) (δ:Dl)
 | exc (x:Xc) (δ:Dl)
 | stuck
def Rs.bind {α β:Type} (r:Rs α) (f:α→Dl→Rs β):Rs β:=match r with
 | .ok a δ=>f a δ
 | .exc x δ=>.exc x δ
 | .stuck=>.stuck
abbrev DE:=Dl→Rs S
def XC (c:Fc) (x:Xc) (δ:Dl):Prop:=c.xc x δ
def post {α:Type} (c:Fc) (r:Rs α) (k:α→Dl→Prop):Prop:=match r with
 | .ok a δ=>k a δ
 | .exc x δ=>XC c x δ
 | .stuck=>False
theorem post_bind {α β:Type} {c:Fc} {r:Rs α} {f:α→Dl→Rs β} {k:β→Dl→Prop}:post c (r.bind f) k ↔ post c r fun a δ=>post c (f a δ) k:=by
 cases r <;> exact Iff.rfl
theorem post_mono {α:Type} {c:Fc} {r:Rs α} {k k':α→Dl→Prop} (h:post c r k) (m:∀ a δ,k a δ→k' a δ):post c r k':=by
 cases r with
 | ok a δ=>exact m a δ h
 | exc x δ=>exact h
 | stuck=>exact h
def tD (c:Fc) (f:DE):TE:=fun σ H Q=>∃ δ,Ok c σ δ H∧post c (f δ) fun r δ'=>∀ v H',Aft c σ δ H σ δ' H'→RepS c σ δ' H H' v r→Q v H'
abbrev SE (X:Cx) (c:Fc) (e:Expr) (f:DE):Prop:=PE X e (tD c f)
def RepB (c:Fc) (σ:St) (δ:Dl) (H:Hp) (v:V) (d:D):Prop:=Rep H (Av c σ δ) v d∨∃ a,v = .ref a∧OwnAt H (Av c σ δ) a d
abbrev BE:=Dl→Rs D
def tB (c:Fc) (f:BE):TE:=fun σ H Q=>∃ δ,Ok c σ δ H∧post c (f δ) fun d δ'=>∀ v H',Aft c σ δ H σ δ' H'→RepB c σ δ' H' v d→Q v H'
abbrev SB (X:Cx) (c:Fc) (e:Expr) (f:BE):Prop:=PE X e (tB c f)
theorem PE.weak {X:Cx} {e:Expr} {t t':TE} (h:PE X e t) (w:∀ σ H Q,t' σ H Q→t σ H Q):PE X e t':=fun pins s σ H Q I q=>h pins s σ H Q I (w σ H Q q)
def bOf (f:DE):BE:=fun δ=>(f δ).bind fun r δ'=>.ok r.d δ'
theorem RepS.b {c:Fc} {σ:St} {δ:Dl} {Hs H:Hp} {v:V} {r:S} (h:RepS c σ δ Hs H v r):RepB c σ δ H v r.d:=.inl h.rep
theorem sb_of {X:Cx} {c:Fc} {e:Expr} {f:DE} (h:SE X c e f):SB X c e (bOf f):=PE.weak h fun σ H Q ⟨δ,k,p⟩=>⟨δ,k,by
 unfold bOf at p
 rw [post_bind] at p
 exact post_mono p fun r δ' q v H' a s=>q v H' a s.b⟩
def bVar (i:Nat):BE:=fun δ=>match δ[i]? with
 | some (some r)=>.ok r.d δ
 | _=>.stuck
def eVar (i:Nat):DE:=fun δ=>match δ[i]? with
 | some (some (.pure d))=>.ok (.pure d) δ
 | some (some (.own d))=>.ok (.pure d) (δ.set i (some (.pure d)))
 | _=>.stuck
def eD (d:D):DE:=fun δ=>.ok (.pure d) δ
section
variable {X:Cx} {c:Fc}
theorem sb_var {i:Nat} {e:Expr} (h:PE X e (tVar i)):SB X c e (bVar i):=PE.weak h fun σ H Q ⟨δ,k,p⟩=>by
 unfold bVar at p
 cases e:δ[i]? with
 | none=>rw [e] at p; exact p.elim
 | some o =>
  cases o with
  | none=>rw [e] at p; exact p.elim
  | some r =>
   rw [e] at p
   cases r with
   | pure d =>
    obtain ⟨v,e1,r⟩:=k.slot i d e
    exact ⟨v,e1,p v H (.refl k) (.inl r)⟩
   | own d =>
    obtain ⟨a,e1,r,_⟩:=k.own i d e
    exact ⟨.ref a,e1,p _ H (.refl k) (.inr ⟨a,rfl,r⟩)⟩
theorem Own.sub {σ:St} {δ:Dl} {i:Nat} {d:D} {a:Addr} (h:Own σ (δ.set i (some (.pure d))) a):Own σ δ a:=by
 obtain ⟨j,d',e1,e2⟩:=h
 by_cases hj:i=j
 ·subst hj
  rw [List.getElem?_set] at e1
  simp at e1
 ·rw [List.getElem?_set_ne hj] at e1
  exact ⟨j,d',e1,e2⟩
theorem Ok.give {σ:St} {δ:Dl} {H:Hp} {i:Nat} {d:D} (k:Ok c σ δ H) (e:δ[i]? = some (some (.own d))) :
  ∃ a,σ[i]? = some (some (.ref a))∧Aft c σ δ H σ (δ.set i (some (.pure d))) H∧Rep H (Av c σ (δ.set i (some (.pure d)))) (.ref a) d:=by
 obtain ⟨a,e1,r,q,nb⟩:=k.own i d e
 have hi:i < δ.length:=(List.getElem?_eq_some_iff.mp e).1
 have sub:∀ b,Av c σ (δ.set i (some (.pure d))) b→Av c σ δ b:=fun b z=>z.elim .inl fun z=>.inr z.sub
 have na:¬ Av c σ (δ.set i (some (.pure d))) a:=by
  rintro (z | ⟨j,d',f1,f2⟩)
  ·exact nb z
  ·by_cases hj:i=j
   ·subst hj
    rw [List.getElem?_set] at f1
    simp at f1
   ·rw [List.getElem?_set_ne hj] at f1
    exact hj (k.inj i j a d d' e f1 e1 f2)
 have rep:Rep H (Av c σ (δ.set i (some (.pure d)))) (.ref a) d:=(r.anti fun b z=>.inl (sub b z)).rep na
 refine ⟨a,e1,⟨⟨k.keep,k.bd,k.ith,by rw [List.length_set]; exact k.len,fun j d' f=>?_,fun j d' f=>?_,fun j l b d1 d2 f1 f2=>?_,k.pinned⟩,fun _ _ w _=>w,fun b z=>.inl z.sub,fun _ o w=>⟨o,w⟩⟩,rep⟩
 ·by_cases hj:i=j
  ·subst hj
   rw [List.getElem?_set_self hi] at f
   cases f
   exact ⟨.ref a,e1,rep⟩
  ·rw [List.getElem?_set_ne hj] at f
   obtain ⟨v,g1,g2⟩:=k.slot j d' f
   exact ⟨v,g1,g2.anti fun b z=>.inl (sub b z)⟩
 ·by_cases hj:i=j
  ·subst hj
   rw [List.getElem?_set_self hi] at f
   cases f
  ·rw [List.getElem?_set_ne hj] at f
   obtain ⟨b,g1,g2,g3⟩:=k.own j d' f
   exact ⟨b,g1,g2.anti fun b z=>.inl (sub b z),g3⟩
 ·have h1:δ[j]? = some (some (.own d1)):=by
   by_cases hj:i=j
   ·subst hj; rw [List.getElem?_set_self hi] at f1; cases f1
   ·rw [List.getElem?_set_ne hj] at f1; exact f1
  have h2:δ[l]? = some (some (.own d2)):=by
   by_cases hj:i=l
   ·subst hj; rw [List.getElem?_set_self hi] at f2; cases f2
   ·rw [List.getElem?_set_ne hj] at f2; exact f2
  exact k.inj j l b d1 d2 h1 h2
theorem se_var {i:Nat} {e:Expr} (h:PE X e (tVar i)):SE X c e (eVar i):=PE.weak h fun σ H Q ⟨δ,k,p⟩=>by
 unfold eVar at p
 cases e:δ[i]? with
 | none=>rw [e] at p; exact p.elim
 | some o =>
  cases o with
  | none=>rw [e] at p; exact p.elim
  | some r =>
   rw [e] at p
   cases r with
   | pure d =>
    obtain ⟨v,e1,r⟩:=k.slot i d e
    exact ⟨v,e1,p v H (.refl k) r⟩
   | own d =>
    obtain ⟨a,e1,x,r⟩:=k.give e
    exact ⟨.ref a,e1,p _ H x r⟩
theorem se_int {i j pos}:SE X c (.Constant (.int i) j pos) (eD (.int i)):=PE.weak pe_int fun σ H Q ⟨δ,k,p⟩=>p _ H (.refl k) (.int i)
theorem se_bl {b j pos}:SE X c (.Constant (.bool b) j pos) (eD (.bl b)):=PE.weak pe_bl fun σ H Q ⟨δ,k,p⟩=>p _ H (.refl k) (.bl b)
theorem se_non {j pos}:SE X c (.Constant .none j pos) (eD .non):=PE.weak pe_non fun σ H Q ⟨δ,k,p⟩=>p _ H (.refl k) .non
theorem se_str {x j pos} (y:Tx) (h:x=toS y:=by decide +kernel):SE X c (.Constant (.str x) j pos) (eD (.str y)):=by
 subst h
 exact PE.weak pe_str fun σ H Q ⟨δ,k,p⟩=>p _ H (.refl k) (.str y)
theorem se_globInt {x:Str} {i:Int} {t:Tok} {pos:Pos} (hg:Gl X x) (hm:X.mg x=some (.int i t)) (hd:(x == ("__debug__" : Str))=false:=by decide):SE X c (.Name x pos) (eD (.int i)) :=
 PE.weak (pe_glob (v:=.int i) hg hm ⟨t,rfl⟩ hd) fun σ H Q ⟨δ,k,p⟩=>p _ H (.refl k) (.int i)
end
open PySem PySem.Spec PyProof.Rows L2 PySem.SeqAt
mutual
def eqD:D→D→Bool
 | .non,.non=>true
 | .bl a,.bl b=>a == b
 | .int a,.int b=>a == b
 | .bl a,.int b=>(if a then 1 else 0) == b
 | .int a,.bl b=>a == (if b then 1 else 0)
 | .str a,.str b=>a == b
 | .tup xs,.tup ys=>eqDs xs ys
 | .lst xs,.lst ys=>eqDs xs ys
 | _,_=>false
def eqDs:List D→List D→Bool
 | [],[]=>true
 | x :: xs,y :: ys=>eqD x y && eqDs xs ys
 | _,_=>false
end
mutual
def flat:Nat→D→Bool
 | _,.non=>true
 | _,.bl _=>true
 | _,.int _=>true
 | _,.str _=>true
 | 0,.tup _=>false
 | n + 1,.tup xs=>flats n xs
 | 0,.lst _=>false
 | n + 1,.lst xs=>flats n xs
 | _,.dct _=>false
 | _,.exc _=>false
def flats:Nat→List D→Bool
 | _,[]=>true
 | n,x :: xs=>flat n x && flats n xs
end
example:eqD (.tup [.int 1,.str [2]]) (.tup [.int 1,.str [2]])=true:=by decide +kernel
theorem flats_mem {n:Nat}:∀ {xs:List D} {x:D},flats n xs=true→x ∈ xs→flat n x=true
 | [],_,_,h=>by simp at h
 | y :: ys,x,h,hm=>by
  simp only [flats,Bool.and_eq_true] at h
  rcases List.mem_cons.mp hm with e | hm
  ·rw [e]; exact h.1
  ·exact flats_mem h.2 hm
theorem eqDs_all:∀ {xs ys:List D} {f:Nat→Bool},xs.length=ys.length→(∀ (j:Nat) x y,xs[j]? = some x→ys[j]? = some y→f j=eqD x y)→(List.range xs.length).all f=eqDs xs ys
 | [],[],f,_,_=>rfl
 | [],y :: ys,f,h,_=>by simp at h
 | x :: xs,[],f,h,_=>by simp at h
 | x :: xs,y :: ys,f,h,hf=>by
  simp only [eqDs]
  rw [List.length_cons,List.range_succ_eq_map,List.all_cons,hf 0 x y rfl rfl,List.all_map]
  rw [← eqDs_all (f:=fun j=>f (j + 1)) (by simpa using h) (fun j a b e1 e2=>hf (j + 1) a b (by simpa using e1) (by simpa using e2))]
  rfl
theorem eqDs_len:∀ {xs ys:List D},xs.length≠ys.length→eqDs xs ys=false
 | [],[],h=>absurd rfl h
 | [],y :: ys,_=>rfl
 | x :: xs,[],_=>rfl
 | x :: xs,y :: ys,h=>by
  simp only [eqDs]
  rw [eqDs_len (xs:=xs) (ys:=ys) (by intro e; exact h (by simp [e]))]
  simp
mutual
theorem eqD_refl:∀ {n:Nat} {d:D},flat n d=true→eqD d d=true
 | _,.non,_=>rfl
 | _,.bl b,_=>by simp [eqD]
 | _,.int i,_=>by simp [eqD]
 | _,.str x,_=>by simp [eqD]
 | 0,.tup xs,h=>by simp [flat] at h
 | n + 1,.tup xs,h=>by simp only [eqD]; exact eqDs_refl (n:=n) (by simpa [flat] using h)
 | 0,.lst xs,h=>by simp [flat] at h
 | n + 1,.lst xs,h=>by simp only [eqD]; exact eqDs_refl (n:=n) (by simpa [flat] using h)
 | _,.dct xs,h=>by simp [flat] at h
 | _,.exc n,h=>by simp [flat] at h
theorem eqDs_refl:∀ {n:Nat} {ds:List D},flats n ds=true→eqDs ds ds=true
 | _,[],_=>rfl
 | n,x :: xs,h=>by
  simp only [flats,Bool.and_eq_true] at h
  simp only [eqDs]
  rw [eqD_refl h.1,eqDs_refl h.2]
  rfl
end
abbrev NoO:Addr→Prop:=fun _=>False
theorem Rep.un {H:Hp} {O:Addr→Prop} {v:V} {d:D} (h:Rep H O v d):Rep H NoO v d:=Rep.anti h fun _ z=>z.elim
theorem RepB.un {c:Fc} {σ:St} {δ:Dl} {H:Hp} {v:V} {d:D} (h:RepB c σ δ H v d):Rep H NoO v d:=by
 rcases h with h | ⟨a,rfl,o⟩
 ·exact Rep.un h
 ·exact (o.anti (O':=NoO) fun _ z=>z.elim).rep fun z=>z
section
variable {X:Cx} {pins:List (Addr×Obj)} {σ:St} {H:Hp} {s:Shared}
theorem Inv.rdL {a:Addr} {vs:List V} (I:Inv X pins σ H s) (h:Rd H a (.lst vs)):∃ its:List Value,Vals vs its∧s.heap.IsList a its.toArray:=by
 obtain ⟨its,r,p,_⟩:=I.list (.inl h)
 exact ⟨its,r,p.isList⟩
theorem Inv.rdT {a:Addr} {vs:List V} (I:Inv X pins σ H s) (h:H a=some (.tup vs)):∃ its:List Value,Vals vs its∧s.heap.IsTuple a its.toArray:=by
 obtain ⟨its,r,p,_⟩:=I.tuple (.of h)
 exact ⟨its,r,p⟩
theorem toS_beq (x y:Tx):((toS x:Str) == toS y)=(x == y):=by
 rw [Bool.eq_iff_iff]
 simp only [beq_iff_eq]
 exact ⟨toS_inj,fun e=>by rw [e]⟩
theorem in1_units (A:Around):A.in1.units=A.units + 1:=rfl
theorem Rd.inj {a:Addr} {u w:HO} (h:Rd H a u) (k:Rd H a w) (hu:∀ o z,u≠.frz o z) (hw:∀ o z,w≠.frz o z):u=w:=by
 rcases h with h | ⟨o,h⟩ <;> rcases k with k | ⟨o',k⟩
 ·rw [h] at k; exact Option.some.inj k
 ·rw [h] at k; exact absurd (Option.some.inj k) (hu _ _)
 ·rw [h] at k; exact absurd (Option.some.inj k).symm (hw _ _)
 ·rw [h] at k
  have:=Option.some.inj k
  injection this
theorem Reps.inj {vs:List V}:∀ {ds es:List D},vs.length=ds.length→vs.length=es.length→(∀ (i:Nat) v d e,vs[i]? = some v→ds[i]? = some d→es[i]? = some e→d=e)→ds=es:=by
 intro ds es h1 h2 h
 apply List.ext_getElem?
 intro i
 by_cases hi:i < vs.length
 ·have a1:i < ds.length:=by omega
  have a2:i < es.length:=by omega
  rw [List.getElem?_eq_getElem a1,List.getElem?_eq_getElem a2]
  rw [h i vs[i] ds[i] es[i] (by simp [hi]) (by simp [a1]) (by simp [a2])]
 ·rw [List.getElem?_eq_none (by omega),List.getElem?_eq_none (by omega)]
theorem Rep.inj {O:Addr→Prop} {v:V} {d:D} (h:Rep H O v d):∀ {n:Nat} {e:D},flat n d=true→flat n e=true→Rep H O v e→d=e:=by
 induction h with
 | non=>intro n e _ _ k; cases k; rfl
 | bl b=>intro n e _ _ k; cases k; rfl
 | int i=>intro n e _ _ k; cases k; rfl
 | str x =>
  intro n e _ _ k
  generalize hz:V.str (toS x)=z at k
  cases k with
  | str y=>injection hz with hz; rw [toS_inj hz]
  | _=>cases hz
 | @tup a vs ds h1 h2 h3 h4 ih =>
  intro n e fd fe k
  cases n with
  | zero=>simp [flat] at fd
  | succ n =>
   simp only [flat] at fd
   cases k with
   | @tup _ ws es k1 k2 k3 k4 =>
    simp only [flat] at fe
    have e1:=Rd.inj (.inl h2) (.inl k2) (fun _ _ z=>by cases z) (fun _ _ z=>by cases z)
    injection e1 with e1
    subst e1
    rw [Reps.inj h3 k3 fun i v d e q1 q2 q3=>ih i v d q1 q2 (flats_mem fd (List.mem_of_getElem? q2)) (flats_mem fe (List.mem_of_getElem? q3)) (k4 i v e q1 q3)]
   | lst k1 k2=>exact absurd (Rd.inj (.inl h2) k2 (fun _ _ z=>by cases z) (fun _ _ z=>by cases z)) (fun z=>by cases z)
   | dct k1 k2=>exact absurd (Rd.inj (.inl h2) (.inl k2) (fun _ _ z=>by cases z) (fun _ _ z=>by cases z)) (fun z=>by cases z)
   | exc k1 k2=>simp [flat] at fe
 | @lst a vs ds h1 h2 h3 h4 ih =>
  intro n e fd fe k
  cases n with
  | zero=>simp [flat] at fd
  | succ n =>
   simp only [flat] at fd
   cases k with
   | @lst _ ws es k1 k2 k3 k4 =>
    simp only [flat] at fe
    have e1:=Rd.inj h2 k2 (fun _ _ z=>by cases z) (fun _ _ z=>by cases z)
    injection e1 with e1
    subst e1
    rw [Reps.inj h3 k3 fun i v d e q1 q2 q3=>ih i v d q1 q2 (flats_mem fd (List.mem_of_getElem? q2)) (flats_mem fe (List.mem_of_getElem? q3)) (k4 i v e q1 q3)]
   | tup k1 k2=>exact absurd (Rd.inj h2 (.inl k2) (fun _ _ z=>by cases z) (fun _ _ z=>by cases z)) (fun z=>by cases z)
   | dct k1 k2=>exact absurd (Rd.inj h2 (.inl k2) (fun _ _ z=>by cases z) (fun _ _ z=>by cases z)) (fun z=>by cases z)
   | exc k1 k2=>simp [flat] at fe
 | dct h1 h2 h3 h4 ih =>
  intro n e fd _ _
  cases n <;> simp [flat] at fd
 | exc h1 h2 =>
  intro n e fd _ _
  cases n <;> simp [flat] at fd
def EqIt (H:Hp) (s:Shared) (n:Nat):Prop:=∀ (A:Around) (x y:V) (u w:Value) (d e:D),A.units + n + 1 < cLine→flat n d=true→flat n e=true→Rep H NoO x d→Rep H NoO y e→RelV x u→RelV y w→EqAt A s u w (eqD d e)
def EqPre (H:Hp) (s:Shared) (A:Around) (n:Nat):Prop:=match n with
 | 0=>True
 | m + 1=>A.units + m + 2 < cLine∧EqIt H s m
def itE (ds es:List D) (j:Nat):Bool:=match ds[j]?,es[j]? with
 | some p,some q=>eqD p q
 | _,_=>false
theorem itE_at {ds es:List D} (j:Nat) (p q:D) (e1:ds[j]? = some p) (e2:es[j]? = some q):itE ds es j=eqD p q:=by unfold itE; rw [e1,e2]
theorem items_eq {n:Nat} {A:Around} {vs ws:List V} {ds es:List D} {its jts:List Value} (hu:A.units + n + 2 < cLine) (ih:EqIt H s n) (r1:Vals vs its) (r2:Vals ws jts) (l1:vs.length=ds.length) (l2:ws.length=es.length)
  (g1:∀ (i:Nat) v d,vs[i]? = some v→ds[i]? = some d→Rep H NoO v d) (g2:∀ (i:Nat) v d,ws[i]? = some v→es[i]? = some d→Rep H NoO v d) (f1:flats n ds=true) (f2:flats n es=true) :
  ∀ j (h1:j < its.toArray.size) (h2:j < jts.toArray.size),EqAt A.in1 s its.toArray[j] jts.toArray[j] (itE ds es j):=by
 intro j h1 h2
 have e1:=r1.length
 have e2:=r2.length
 simp at h1 h2
 have hd:j < ds.length:=by omega
 have he:j < es.length:=by omega
 have hv:j < vs.length:=by omega
 have hw:j < ws.length:=by omega
 obtain ⟨u',hu',ru'⟩:=r1.get (i:=j) (x:=vs[j]) (by simp [hv])
 obtain ⟨w',hw',rw''⟩:=r2.get (i:=j) (x:=ws[j]) (by simp [hw])
 have eu:its.toArray[j]=u':=by simpa [h1] using hu'
 have ew:jts.toArray[j]=w':=by simpa [h2] using hw'
 rw [eu,ew,itE_at j ds[j] es[j] (by simp [hd]) (by simp [he])]
 exact ih A.in1 vs[j] ws[j] u' w' ds[j] es[j] (by rw [in1_units]; omega) (flats_mem f1 (List.getElem_mem hd)) (flats_mem f2 (List.getElem_mem he)) (g1 j _ _ (by simp [hv]) (by simp [hd])) (g2 j _ _ (by simp [hw]) (by simp [he])) ru' rw''
theorem all_tup {ds es:List D} {n m:Nat} (h1:n=ds.length) (h2:m=es.length):((List.range (min n m)).all (itE ds es) && n == m)=eqDs ds es:=by
 subst h1 h2
 by_cases hl:ds.length=es.length
 ·rw [← hl,Nat.min_self,eqDs_all hl itE_at]
  simp
 ·rw [eqDs_len hl]
  simp [hl]
theorem rcT (I:Inv X pins σ H s) (n:Nat) (A:Around) (hu0:A.units < cLine) {a b:Addr} {vs ws:List V} {ds es:List D} {its jts:List Value} (t1:s.heap.IsTuple a its.toArray) (t2:s.heap.IsTuple b jts.toArray) (r1:Vals vs its) (r2:Vals ws jts) (l1:vs.length=ds.length) (l2:ws.length=es.length)
  (g1:∀ (i:Nat) v d,vs[i]? = some v→ds[i]? = some d→Rep H NoO v d) (g2:∀ (i:Nat) v d,ws[i]? = some v→es[i]? = some d→Rep H NoO v d) (f1:flat n (.tup ds)=true) (f2:flat n (.tup es)=true) (ih:EqPre H s A n) :
  RcAt A s (.ref a) (.ref b) (eqDs ds es):=by
 cases n with
 | zero=>simp [flat] at f1
 | succ n =>
  simp only [flat] at f1 f2
  obtain ⟨hu,ih⟩:=ih
  have q:=RcAt.tuples (A:=A) (s:=s) t1 t2 hu0 (items_eq hu ih r1 r2 l1 l2 g1 g2 f1 f2)
  rw [all_tup (by have:=r1.length; simp; omega) (by have:=r2.length; simp; omega)] at q
  exact q
theorem rnT (I:Inv X pins σ H s) (n:Nat) (A:Around) (hu0:A.units < cLine) {a b:Addr} {vs ws:List V} {ds es:List D} {its jts:List Value} (t1:s.heap.IsTuple a its.toArray) (t2:s.heap.IsTuple b jts.toArray) (r1:Vals vs its) (r2:Vals ws jts) (l1:vs.length=ds.length) (l2:ws.length=es.length)
  (g1:∀ (i:Nat) v d,vs[i]? = some v→ds[i]? = some d→Rep H NoO v d) (g2:∀ (i:Nat) v d,ws[i]? = some v→es[i]? = some d→Rep H NoO v d) (f1:flat n (.tup ds)=true) (f2:flat n (.tup es)=true) (ih:EqPre H s A n) :
  RcNeAt A s (.ref a) (.ref b) (!eqDs ds es):=by
 cases n with
 | zero=>simp [flat] at f1
 | succ n =>
  simp only [flat] at f1 f2
  obtain ⟨hu,ih⟩:=ih
  have q:=RcNeAt.tuples (A:=A) (s:=s) t1 t2 hu0 (items_eq hu ih r1 r2 l1 l2 g1 g2 f1 f2)
  rw [all_tup (by have:=r1.length; simp; omega) (by have:=r2.length; simp; omega)] at q
  exact q
theorem rcL (I:Inv X pins σ H s) (n:Nat) (A:Around) (hu0:A.units < cLine) {a b:Addr} {vs ws:List V} {ds es:List D} {its jts:List Value} (t1:s.heap.IsList a its.toArray) (t2:s.heap.IsList b jts.toArray) (r1:Vals vs its) (r2:Vals ws jts) (l1:vs.length=ds.length) (l2:ws.length=es.length)
  (g1:∀ (i:Nat) v d,vs[i]? = some v→ds[i]? = some d→Rep H NoO v d) (g2:∀ (i:Nat) v d,ws[i]? = some v→es[i]? = some d→Rep H NoO v d) (f1:flat n (.lst ds)=true) (f2:flat n (.lst es)=true) (ih:EqPre H s A n) :
  RcAt A s (.ref a) (.ref b) (eqDs ds es):=by
 cases n with
 | zero=>simp [flat] at f1
 | succ n =>
  simp only [flat] at f1 f2
  obtain ⟨hu,ih⟩:=ih
  have z1:its.toArray.size=ds.length:=by have:=r1.length; simp; omega
  have z2:jts.toArray.size=es.length:=by have:=r2.length; simp; omega
  by_cases hl:ds.length=es.length
  ·have q:=RcAt.lists (A:=A) (s:=s) t1 t2 (by rw [z1,z2]; exact hl) hu0 (items_eq hu ih r1 r2 l1 l2 g1 g2 f1 f2)
   rw [z1,eqDs_all hl itE_at] at q
   exact q
  ·rw [eqDs_len hl]
   exact RcAt.lists_lengths (A:=A) (s:=s) t1 t2 (by rw [z1,z2]; simpa using hl) hu0
theorem rnL (I:Inv X pins σ H s) (n:Nat) (A:Around) (hu0:A.units < cLine) {a b:Addr} {vs ws:List V} {ds es:List D} {its jts:List Value} (t1:s.heap.IsList a its.toArray) (t2:s.heap.IsList b jts.toArray) (r1:Vals vs its) (r2:Vals ws jts) (l1:vs.length=ds.length) (l2:ws.length=es.length)
  (g1:∀ (i:Nat) v d,vs[i]? = some v→ds[i]? = some d→Rep H NoO v d) (g2:∀ (i:Nat) v d,ws[i]? = some v→es[i]? = some d→Rep H NoO v d) (f1:flat n (.lst ds)=true) (f2:flat n (.lst es)=true) (ih:EqPre H s A n) :
  RcNeAt A s (.ref a) (.ref b) (!eqDs ds es):=by
 cases n with
 | zero=>simp [flat] at f1
 | succ n =>
  simp only [flat] at f1 f2
  obtain ⟨hu,ih⟩:=ih
  have z1:its.toArray.size=ds.length:=by have:=r1.length; simp; omega
  have z2:jts.toArray.size=es.length:=by have:=r2.length; simp; omega
  by_cases hl:ds.length=es.length
  ·have q:=RcNeAt.lists (A:=A) (s:=s) t1 t2 (by rw [z1,z2]; exact hl) hu0 (items_eq hu ih r1 r2 l1 l2 g1 g2 f1 f2)
   rw [z1,eqDs_all hl itE_at] at q
   exact q
  ·rw [eqDs_len hl]
   exact RcNeAt.lists_lengths (A:=A) (s:=s) t1 t2 (by rw [z1,z2]; simpa using hl) hu0
theorem rcD (I:Inv X pins σ H s) (n:Nat) (A:Around) (x y:V) (u w:Value) (d e:D) (hu0:A.units < cLine) (fd:flat n d=true) (fe:flat n e=true) (ih:EqPre H s A n) (rx:Rep H NoO x d) (ry:Rep H NoO y e) (ru:RelV x u) (rw':RelV y w):RcAt A s u w (eqD d e):=by
 cases rx with
 | non =>
  cases ru
  cases ry with
  | non =>
   cases rw'
   simp only [eqD]; exact RcAt.none_none
  | bl q =>
   cases rw'
   simp only [eqD]; exact RcAt.none_bool _
  | int q =>
   obtain ⟨t2,rfl⟩:=rw'
   simp only [eqD]; exact RcAt.none_int _ _
  | str q =>
   obtain ⟨t2,rfl⟩:=rw'
   simp only [eqD]; exact RcAt.none_str _ _
  | tup k1 k2 k3 k4 =>
   cases rw'; obtain ⟨its2,r2,t2⟩:=Inv.rdT I k2
   simp only [eqD]; exact RcAt.none_tuple t2 hu0
  | lst k1 k2 k3 k4 =>
   cases rw'; obtain ⟨its2,r2,t2⟩:=Inv.rdL I k2
   simp only [eqD]; exact RcAt.none_list t2 hu0
  | dct k1 k2 k3 k4=>(cases n <;> simp [flat] at fe)
  | exc k1 k2=>(cases n <;> simp [flat] at fe)
 | bl p =>
  cases ru
  cases ry with
  | non =>
   cases rw'
   simp only [eqD]; exact RcAt.bool_none _
  | bl q =>
   cases rw'
   simp only [eqD]; exact RcAt.bool_bool _ _
  | int q =>
   obtain ⟨t2,rfl⟩:=rw'
   simp only [eqD]; exact RcAt.bool_int _ _ _
  | str q =>
   obtain ⟨t2,rfl⟩:=rw'
   simp only [eqD]; exact RcAt.bool_str _ _ _
  | tup k1 k2 k3 k4 =>
   cases rw'; obtain ⟨its2,r2,t2⟩:=Inv.rdT I k2
   simp only [eqD]; exact RcAt.bool_tuple _ t2 hu0
  | lst k1 k2 k3 k4 =>
   cases rw'; obtain ⟨its2,r2,t2⟩:=Inv.rdL I k2
   simp only [eqD]; exact RcAt.bool_list _ t2 hu0
  | dct k1 k2 k3 k4=>(cases n <;> simp [flat] at fe)
  | exc k1 k2=>(cases n <;> simp [flat] at fe)
 | int p =>
  obtain ⟨t1,rfl⟩:=ru
  cases ry with
  | non =>
   cases rw'
   simp only [eqD]; exact RcAt.int_none _ _
  | bl q =>
   cases rw'
   simp only [eqD]; exact RcAt.int_bool _ _ _
  | int q =>
   obtain ⟨t2,rfl⟩:=rw'
   simp only [eqD]; exact RcAt.int_int _ _ _ _
  | str q =>
   obtain ⟨t2,rfl⟩:=rw'
   simp only [eqD]; exact RcAt.int_str _ _ _ _
  | tup k1 k2 k3 k4 =>
   cases rw'; obtain ⟨its2,r2,t2⟩:=Inv.rdT I k2
   simp only [eqD]; exact RcAt.int_tuple _ _ t2 hu0
  | lst k1 k2 k3 k4 =>
   cases rw'; obtain ⟨its2,r2,t2⟩:=Inv.rdL I k2
   simp only [eqD]; exact RcAt.int_list _ _ t2 hu0
  | dct k1 k2 k3 k4=>(cases n <;> simp [flat] at fe)
  | exc k1 k2=>(cases n <;> simp [flat] at fe)
 | str p =>
  obtain ⟨t1,rfl⟩:=ru
  cases ry with
  | non =>
   cases rw'
   simp only [eqD]; exact RcAt.str_none _ _
  | bl q =>
   cases rw'
   simp only [eqD]; exact RcAt.str_bool _ _ _
  | int q =>
   obtain ⟨t2,rfl⟩:=rw'
   simp only [eqD]; exact RcAt.str_int _ _ _ _
  | str q =>
   obtain ⟨t2,rfl⟩:=rw'
   simp only [eqD]; rw [← toS_beq]; exact RcAt.str_str _ _ _ _
  | tup k1 k2 k3 k4 =>
   cases rw'; obtain ⟨its2,r2,t2⟩:=Inv.rdT I k2
   simp only [eqD]; exact RcAt.str_tuple _ _ t2 hu0
  | lst k1 k2 k3 k4 =>
   cases rw'; obtain ⟨its2,r2,t2⟩:=Inv.rdL I k2
   simp only [eqD]; exact RcAt.str_list _ _ t2 hu0
  | dct k1 k2 k3 k4=>(cases n <;> simp [flat] at fe)
  | exc k1 k2=>(cases n <;> simp [flat] at fe)
 | tup h1 h2 h3 h4 =>
  cases ru; obtain ⟨its1,r1,t1⟩:=Inv.rdT I h2
  cases ry with
  | non =>
   cases rw'
   simp only [eqD]; exact RcAt.tuple_none t1 hu0
  | bl q =>
   cases rw'
   simp only [eqD]; exact RcAt.tuple_bool _ t1 hu0
  | int q =>
   obtain ⟨t2,rfl⟩:=rw'
   simp only [eqD]; exact RcAt.tuple_int _ _ t1 hu0
  | str q =>
   obtain ⟨t2,rfl⟩:=rw'
   simp only [eqD]; exact RcAt.tuple_str _ _ t1 hu0
  | tup k1 k2 k3 k4 =>
   cases rw'; obtain ⟨its2,r2,t2⟩:=Inv.rdT I k2
   simp only [eqD]; exact rcT I n A hu0 t1 t2 r1 r2 h3 k3 h4 k4 fd fe ih
  | lst k1 k2 k3 k4 =>
   cases rw'; obtain ⟨its2,r2,t2⟩:=Inv.rdL I k2
   simp only [eqD]; exact RcAt.tuple_list t1 t2 hu0
  | dct k1 k2 k3 k4=>(cases n <;> simp [flat] at fe)
  | exc k1 k2=>(cases n <;> simp [flat] at fe)
 | lst h1 h2 h3 h4 =>
  cases ru; obtain ⟨its1,r1,t1⟩:=Inv.rdL I h2
  cases ry with
  | non =>
   cases rw'
   simp only [eqD]; exact RcAt.list_none t1 hu0
  | bl q =>
   cases rw'
   simp only [eqD]; exact RcAt.list_bool _ t1 hu0
  | int q =>
   obtain ⟨t2,rfl⟩:=rw'
   simp only [eqD]; exact RcAt.list_int _ _ t1 hu0
  | str q =>
   obtain ⟨t2,rfl⟩:=rw'
   simp only [eqD]; exact RcAt.list_str _ _ t1 hu0
  | tup k1 k2 k3 k4 =>
   cases rw'; obtain ⟨its2,r2,t2⟩:=Inv.rdT I k2
   simp only [eqD]; exact RcAt.list_tuple t1 t2 hu0
  | lst k1 k2 k3 k4 =>
   cases rw'; obtain ⟨its2,r2,t2⟩:=Inv.rdL I k2
   simp only [eqD]; exact rcL I n A hu0 t1 t2 r1 r2 h3 k3 h4 k4 fd fe ih
  | dct k1 k2 k3 k4=>(cases n <;> simp [flat] at fe)
  | exc k1 k2=>(cases n <;> simp [flat] at fe)
 | dct h1 h2 h3 h4=>(cases n <;> simp [flat] at fd)
 | exc h1 h2=>(cases n <;> simp [flat] at fd)
theorem rnD (I:Inv X pins σ H s) (n:Nat) (A:Around) (x y:V) (u w:Value) (d e:D) (hu0:A.units < cLine) (fd:flat n d=true) (fe:flat n e=true) (ih:EqPre H s A n) (rx:Rep H NoO x d) (ry:Rep H NoO y e) (ru:RelV x u) (rw':RelV y w):RcNeAt A s u w (!eqD d e):=by
 cases rx with
 | non =>
  cases ru
  cases ry with
  | non =>
   cases rw'
   simp only [eqD]; exact RcNeAt.none_none
  | bl q =>
   cases rw'
   simp only [eqD]; exact RcNeAt.none_bool _
  | int q =>
   obtain ⟨t2,rfl⟩:=rw'
   simp only [eqD]; exact RcNeAt.none_int _ _
  | str q =>
   obtain ⟨t2,rfl⟩:=rw'
   simp only [eqD]; exact RcNeAt.none_str _ _
  | tup k1 k2 k3 k4 =>
   cases rw'; obtain ⟨its2,r2,t2⟩:=Inv.rdT I k2
   simp only [eqD]; exact RcNeAt.none_tuple t2 hu0
  | lst k1 k2 k3 k4 =>
   cases rw'; obtain ⟨its2,r2,t2⟩:=Inv.rdL I k2
   simp only [eqD]; exact RcNeAt.none_list t2 hu0
  | dct k1 k2 k3 k4=>(cases n <;> simp [flat] at fe)
  | exc k1 k2=>(cases n <;> simp [flat] at fe)
 | bl p =>
  cases ru
  cases ry with
  | non =>
   cases rw'
   simp only [eqD]; exact RcNeAt.bool_none _
  | bl q =>
   cases rw'
   simp only [eqD]; exact RcNeAt.bool_bool _ _
  | int q =>
   obtain ⟨t2,rfl⟩:=rw'
   simp only [eqD]; exact RcNeAt.bool_int _ _ _
  | str q =>
   obtain ⟨t2,rfl⟩:=rw'
   simp only [eqD]; exact RcNeAt.bool_str _ _ _
  | tup k1 k2 k3 k4 =>
   cases rw'; obtain ⟨its2,r2,t2⟩:=Inv.rdT I k2
   simp only [eqD]; exact RcNeAt.bool_tuple _ t2 hu0
  | lst k1 k2 k3 k4 =>
   cases rw'; obtain ⟨its2,r2,t2⟩:=Inv.rdL I k2
   simp only [eqD]; exact RcNeAt.bool_list _ t2 hu0
  | dct k1 k2 k3 k4=>(cases n <;> simp [flat] at fe)
  | exc k1 k2=>(cases n <;> simp [flat] at fe)
 | int p =>
  obtain ⟨t1,rfl⟩:=ru
  cases ry with
  | non =>
   cases rw'
   simp only [eqD]; exact RcNeAt.int_none _ _
  | bl q =>
   cases rw'
   simp only [eqD]; exact RcNeAt.int_bool _ _ _
  | int q =>
   obtain ⟨t2,rfl⟩:=rw'
   simp only [eqD]; exact RcNeAt.int_int _ _ _ _
  | str q =>
   obtain ⟨t2,rfl⟩:=rw'
   simp only [eqD]; exact RcNeAt.int_str _ _ _ _
  | tup k1 k2 k3 k4 =>
   cases rw'; obtain ⟨its2,r2,t2⟩:=Inv.rdT I k2
   simp only [eqD]; exact RcNeAt.int_tuple _ _ t2 hu0
  | lst k1 k2 k3 k4 =>
   cases rw'; obtain ⟨its2,r2,t2⟩:=Inv.rdL I k2
   simp only [eqD]; exact RcNeAt.int_list _ _ t2 hu0
  | dct k1 k2 k3 k4=>(cases n <;> simp [flat] at fe)
  | exc k1 k2=>(cases n <;> simp [flat] at fe)
 | str p =>
  obtain ⟨t1,rfl⟩:=ru
  cases ry with
  | non =>
   cases rw'
   simp only [eqD]; exact RcNeAt.str_none _ _
  | bl q =>
   cases rw'
   simp only [eqD]; exact RcNeAt.str_bool _ _ _
  | int q =>
   obtain ⟨t2,rfl⟩:=rw'
   simp only [eqD]; exact RcNeAt.str_int _ _ _ _
  | str q =>
   obtain ⟨t2,rfl⟩:=rw'
   simp only [eqD]; rw [← toS_beq]; exact RcNeAt.str_str _ _ _ _
  | tup k1 k2 k3 k4 =>
   cases rw'; obtain ⟨its2,r2,t2⟩:=Inv.rdT I k2
   simp only [eqD]; exact RcNeAt.str_tuple _ _ t2 hu0
  | lst k1 k2 k3 k4 =>
   cases rw'; obtain ⟨its2,r2,t2⟩:=Inv.rdL I k2
   simp only [eqD]; exact RcNeAt.str_list _ _ t2 hu0
  | dct k1 k2 k3 k4=>(cases n <;> simp [flat] at fe)
  | exc k1 k2=>(cases n <;> simp [flat] at fe)
 | tup h1 h2 h3 h4 =>
  cases ru; obtain ⟨its1,r1,t1⟩:=Inv.rdT I h2
  cases ry with
  | non =>
   cases rw'
   simp only [eqD]; exact RcNeAt.tuple_none t1 hu0
  | bl q =>
   cases rw'
   simp only [eqD]; exact RcNeAt.tuple_bool _ t1 hu0
  | int q =>
   obtain ⟨t2,rfl⟩:=rw'
   simp only [eqD]; exact RcNeAt.tuple_int _ _ t1 hu0
  | str q =>
   obtain ⟨t2,rfl⟩:=rw'
   simp only [eqD]; exact RcNeAt.tuple_str _ _ t1 hu0
  | tup k1 k2 k3 k4 =>
   cases rw'; obtain ⟨its2,r2,t2⟩:=Inv.rdT I k2
   simp only [eqD]; exact rnT I n A hu0 t1 t2 r1 r2 h3 k3 h4 k4 fd fe ih
  | lst k1 k2 k3 k4 =>
   cases rw'; obtain ⟨its2,r2,t2⟩:=Inv.rdL I k2
   simp only [eqD]; exact RcNeAt.tuple_list t1 t2 hu0
  | dct k1 k2 k3 k4=>(cases n <;> simp [flat] at fe)
  | exc k1 k2=>(cases n <;> simp [flat] at fe)
 | lst h1 h2 h3 h4 =>
  cases ru; obtain ⟨its1,r1,t1⟩:=Inv.rdL I h2
  cases ry with
  | non =>
   cases rw'
   simp only [eqD]; exact RcNeAt.list_none t1 hu0
  | bl q =>
   cases rw'
   simp only [eqD]; exact RcNeAt.list_bool _ t1 hu0
  | int q =>
   obtain ⟨t2,rfl⟩:=rw'
   simp only [eqD]; exact RcNeAt.list_int _ _ t1 hu0
  | str q =>
   obtain ⟨t2,rfl⟩:=rw'
   simp only [eqD]; exact RcNeAt.list_str _ _ t1 hu0
  | tup k1 k2 k3 k4 =>
   cases rw'; obtain ⟨its2,r2,t2⟩:=Inv.rdT I k2
   simp only [eqD]; exact RcNeAt.list_tuple t1 t2 hu0
  | lst k1 k2 k3 k4 =>
   cases rw'; obtain ⟨its2,r2,t2⟩:=Inv.rdL I k2
   simp only [eqD]; exact rnL I n A hu0 t1 t2 r1 r2 h3 k3 h4 k4 fd fe ih
  | dct k1 k2 k3 k4=>(cases n <;> simp [flat] at fe)
  | exc k1 k2=>(cases n <;> simp [flat] at fe)
 | dct h1 h2 h3 h4=>(cases n <;> simp [flat] at fd)
 | exc h1 h2=>(cases n <;> simp [flat] at fd)
theorem eq_refs {A:Around} {u w:Value} {k:Bool} (h:RcAt A s u w k) (hs:u=w→k=true) (hf:∀ b t,u≠Value.float b t):EqAt A s u w k:=fun prog w' E Q hq=>by
 unfold eqBool
 refine wpAny_holding ?_
 refine wpAny_ite_split (fun hab=>?_) (fun _=>?_)
 ·have e:=eq_of_beq hab
  rw [hs e] at hq
  exact wpAny_bind (wpAny_rule (wpAny_pure hq))
 ·cases u with
  | float b t=>exact absurd rfl (hf b t)
  | _=>exact wpAny_bind (h prog w' E _ (wpAny_truthy_bool hq))
theorem nofloat {x:V} {u:Value} {d:D} (r:Rep H NoO x d) (ru:RelV x u) (b:UInt64) (t:Tok):u≠Value.float b t:=by
 intro e
 subst e
 cases r <;> first | (cases ru; done) | (obtain ⟨t',e⟩:=ru; cases e)
theorem eqAtD (I:Inv X pins σ H s) (n:Nat):EqIt H s n:=by
 induction n with
 | zero =>
  intro A x y u w d e hu fd fe rx ry ru rw'
  refine eq_refs (rcD I 0 A x y u w d e (by omega) fd fe trivial rx ry ru rw') (fun h=>?_) (nofloat rx ru)
  subst h
  have:=ru.inj rw'
  subst this
  rw [Rep.inj rx fd fe ry]
  exact eqD_refl fe
 | succ n ih =>
  intro A x y u w d e hu fd fe rx ry ru rw'
  refine eq_refs (rcD I (n + 1) A x y u w d e (by omega) fd fe ⟨by omega,ih⟩ rx ry ru rw') (fun h=>?_) (nofloat rx ru)
  subst h
  have:=ru.inj rw'
  subst this
  rw [Rep.inj rx fd fe ry]
  exact eqD_refl fe
theorem eqPre (I:Inv X pins σ H s) {A:Around}:∀ n:Nat,A.units + n + 1 < cLine→EqPre H s A n
 | 0,_=>trivial
 | n + 1,h=>⟨by omega,eqAtD I n⟩
def rEqD:R2:=fun x y H Q=>∃ d e,Rep H NoO x d∧Rep H NoO y e∧flat 50 d=true∧flat 50 e=true∧Q (.bl (eqD d e)) H
def rNeD:R2:=fun x y H Q=>∃ d e,Rep H NoO x d∧Rep H NoO y e∧flat 50 d=true∧flat 50 e=true∧Q (.bl (!eqD d e)) H
theorem op_eqD (hu:X.A.units + 64 < cLine):OpR X (compareOp .Eq) rEqD:=by
 intro pins s σ H x y v u Q I rx ry h
 obtain ⟨d,e,r1,r2,f1,f2,q⟩:=h
 exact rcD I 50 X.A x y v u d e (by omega) f1 f2 (eqPre I 50 (by omega)) r1 r2 rx ry X.prog X.w X.xe _ ⟨.bl _,H,I,rfl,q⟩
theorem op_neD (hu:X.A.units + 64 < cLine):OpR X (compareOp .NotEq) rNeD:=by
 intro pins s σ H x y v u Q I rx ry h
 obtain ⟨d,e,r1,r2,f1,f2,q⟩:=h
 exact rnD I 50 X.A x y v u d e (by omega) f1 f2 (eqPre I 50 (by omega)) r1 r2 rx ry X.prog X.w X.xe _ ⟨.bl _,H,I,rfl,q⟩
end
open PySem PySem.Spec PyProof.Rows L2
def cutL {α:Type} (xs:List α) (lo hi:Option Int):List α:=(xs.drop (HT.sIx xs.length 0 lo)).take (HT.sIx xs.length xs.length hi - HT.sIx xs.length 0 lo)
theorem cutL_V (xs:List V) (lo hi:Option Int):cutL xs lo hi=cutV xs lo hi:=rfl
theorem cutL_len {α:Type} (xs:List α) (lo hi:Option Int):(cutL xs lo hi).length≤xs.length:=by
 unfold cutL
 rw [List.length_take,List.length_drop]
 omega
theorem Reps.cut {H:Hp} {O:Addr→Prop} {vs:List V} {ds:List D} (lo hi:Option Int) (h:Reps H O vs ds):Reps H O (cutL vs lo hi) (cutL ds lo hi):=by
 unfold cutL
 rw [h.1]
 exact Reps.take _ (Reps.drop _ h)
theorem cut_whole {α:Type} {xs:List α} {lo hi:Option Int} (h:HT.sIx xs.length 0 lo=0∧HT.sIx xs.length xs.length hi=xs.length):cutL xs lo hi=xs:=by
 unfold cutL
 rw [h.1,h.2]
 simp
section
variable {prog:Program} {w:World} {A:Around} {E:Value→Shared→Prop} {s:Shared}
theorem getItem_tuple_whole {t sl:Addr} {items:Array Value} {vl vu:Value} {lo hi:Option Int} {Q:Value→Shared→Prop} (ht:IsTup s.heap t items) (hs:s.heap.IsSliceOf sl vl vu .none) (pl:IsPart vl lo) (pu:IsPart vu hi)
  (hw:HT.sIx items.size 0 lo=0∧HT.sIx items.size items.size hi=items.size) (h:Q (.ref t) s):wpAny (model prog w) A (getItem (.ref t) (.ref sl)) Q E s:=by
 obtain ⟨os,hos,hcs,hds⟩:=id hs
 have hTs:s.TypeIs (.ref sl) "slice":=⟨os,hos,hcs⟩
 unfold getItem
 try with_reducible refine wpAny_holding ?_
 first | refine wpAny_bind (wpAny_pure ?_) | skip
 refine wpAny_bind (wpAny_sequenceKey ht.typeIs (by decide) ?_)
 refine wpAny_bind (wpAny_callSpecial?_slot (name:=Str.ofString "__getitem__") ht.typeIs PyProof.Rows.slot_tuple_getitem
  (wpAny_call_entry PyProof.Rows.slot_tuple_getitem ht.typeIs entry_tuple_getitem ?_ (args_tuple_getitem _ _)))
 show wpAny _ _ (Builtin.Tuple.tupleItemsOf (.ref t) >>= _) _ _ s
 refine wpAny_bind (tupleItemsOf_ ht ?_)
 refine wpAny_bind (wpAny_typeOf hTs ?_)
 rw [if_pos (by decide)]
 refine wpAny_bind (HT.sliceApplied_gen hs pl pu ?_)
 show wpAny _ _ (if (((HT.sIx items.size 0 lo:Nat):Int) == 0 && (1:Int) == 1 && (HT.sIx items.size items.size hi - HT.sIx items.size 0 lo) == items.size)=true then _ else _) _ _ s
 rw [hw.1,hw.2]
 rw [if_pos (by simp)]
 refine wpAny_bind (m:=Builtin.Tuple.tupleIsExact (.ref t)) ?_
 unfold Builtin.Tuple.tupleIsExact
 refine wpAny_bind (wpAny_typeOf ht.typeIs (wpAny_pure ?_))
 rw [if_pos (by decide)]
 exact wpAny_bind (wpAny_rule (wpAny_bind (wpAny_pure (wpAny_pure ⟨_,rfl,wpAny_pure h⟩))))
end
section
variable {X:Cx}
def rSlT2 (K:PySem.W.Frag):V→Option Int→Option Int→Hp→VK→Prop:=fun x lo hi H Q=>∃ a xs,x = .ref a∧SqT K H a xs ∧
 ((HT.sIx xs.length 0 lo=0∧HT.sIx xs.length xs.length hi=xs.length)→Q (.ref a) H)∧(¬ (HT.sIx xs.length 0 lo=0∧HT.sIx xs.length xs.length hi=xs.length)→∀ p,H p=none→Q (.ref p) (upd H p (.tup (cutV xs lo hi))))
theorem sl_tup2:SlR X (rSlT2 X.K):=by
 intro pins s σ H x v vl vu lo hi sl Q I rx hs pl pu h
 obtain ⟨a,xs,rfl,hx,q1,q2⟩:=h
 by_cases hw:HT.sIx xs.length 0 lo=0∧HT.sIx xs.length xs.length hi=xs.length
 ·cases rx
  obtain ⟨its,r,ht,hz⟩:=I.tuple hx
  have hlen:its.toArray.size=xs.length:=by rw [List.size_toArray]; exact r.length.symm
  refine ⟨"tuple",_,PyProof.Rows.slot_tuple_getitem.lookup,ht.typeIs,?_⟩
  exact getItem_tuple_whole ht hs pl pu (by rw [hlen]; exact hw) ⟨.ref a,H,I,rfl,q1 hw⟩
 ·exact sl_tup pins s σ H (.ref a) v vl vu lo hi sl Q I rx hs pl pu ⟨a,xs,rfl,hx,hw,q2 hw⟩
theorem range_gen (a b:Nat):sliceRange (a:Int) (b:Int) 1=(List.range (b - a)).map (fun k=>a + k):=by
 have h0:((1:Int) > 0)=True:=by simp
 unfold sliceRange
 simp only [h0,if_true]
 by_cases hlt:(a:Int) < (b:Int)
 ·rw [if_pos hlt]
  have e3:(((b:Int) - (a:Int) + 1 - 1) / 1).toNat=b - a:=by
   rw [Int.ediv_one]; omega
  rw [e3]
  refine List.map_congr_left fun k _=>?_
  omega
 ·rw [if_neg hlt]
  have:b - a=0:=by omega
  rw [this]
  rfl
theorem strIdx_gen (lo hi:Option Int) (n:Nat):Builtin.Str.strSliceIndices lo hi 1 n=(List.range (HT.sIx n n hi - HT.sIx n 0 lo)).map (fun k=>HT.sIx n 0 lo + k):=by
 have c:∀ (i:Int) (d:Nat),max 0 (min (if i < 0 then i + (n:Int) else i) (n:Int))=((HT.sIx n d (some i):Nat):Int):=by
  intro i d
  show max 0 (min (if i < 0 then i + (n:Int) else i) (n:Int))=(((if i < 0 then (i + (n:Int)).toNat else min i.toNat n):Nat):Int)
  by_cases hi:i < 0
  ·simp only [if_pos hi]; omega
  ·simp only [if_neg hi]; omega
 have h0:((1:Int) > 0)=True:=by simp
 rw [← range_gen]
 unfold Builtin.Str.strSliceIndices
 simp only [h0,if_true]
 cases lo with
 | none =>
  cases hi with
  | none=>rfl
  | some j=>show sliceRange 0 (max 0 (min (if j < 0 then j + (n:Int) else j) (n:Int))) 1=_; rw [c j n]; rfl
 | some i =>
  cases hi with
  | none=>show sliceRange (max 0 (min (if i < 0 then i + (n:Int) else i) (n:Int))) (n:Int) 1=_; rw [c i 0]; rfl
  | some j=>show sliceRange (max 0 (min (if i < 0 then i + (n:Int) else i) (n:Int))) (max 0 (min (if j < 0 then j + (n:Int) else j) (n:Int))) 1=_; rw [c i 0,c j n]
theorem str_cut (x:Tx) (lo hi:Option Int):(⟨((Builtin.Str.strSliceIndices lo hi 1 (toS x).length).filterMap ((toS x).cps[·]?)).toArray⟩:Str)=toS (cutL x lo hi):=by
 unfold toS
 congr 1
 rw [strIdx_gen]
 have:=pick_run (x.toArray) (HT.sIx x.length 0 lo) (HT.sIx x.length x.length hi - HT.sIx x.length 0 lo)
 have hl:({ cps:=x.toArray }:Str).length=x.length:=by simp [Str.length]
 rw [hl]
 rw [this]
 rfl
def rSlS:V→Option Int→Option Int→Hp→VK→Prop:=fun x lo hi H Q=>∃ z:Tx,x = .str (toS z)∧z.length≤sizeLine∧Q (.str (toS (cutL z lo hi))) H
theorem part_of {v:Value} {o:Option Int} (p:IsPart v o):∃ q:Option (Int×Tok),v=partValue q∧q.map (·.1)=o:=by
 cases p with
 | none=>exact ⟨none,rfl,rfl⟩
 | int i t=>exact ⟨some (i,t),rfl,rfl⟩
theorem sl_str:SlR X rSlS:=by
 intro pins s σ H x v vl vu lo hi sl Q I rx hs pl pu h
 obtain ⟨z,rfl,hz,q⟩:=h
 obtain ⟨t,rfl⟩:=rx
 obtain ⟨l,rfl,el⟩:=part_of pl
 obtain ⟨u,rfl,eu⟩:=part_of pu
 obtain ⟨o,ho,hc,hd⟩:=hs
 refine ⟨"str",_,F.slot_str_getitem.lookup,typeIs_str s _ t,?_⟩
 refine wpAny_getItem_str_slice (l:=l) (u:=u) (st:=none) ⟨o,ho,hc,hd⟩ rfl ?_
 unfold sliceMade
 have e:(slicePicked (toS z) l u none)=Builtin.Str.strSliceIndices lo hi 1 (toS z).length:=by
  unfold slicePicked
  rw [el,eu]
  rfl
 rw [e]
 by_cases hw:(((none:Option (Int×Tok)).map (·.1)).getD 1 == 1 && (Builtin.Str.strSliceIndices lo hi 1 (toS z).length).length == (toS z).length)=true
 ·rw [if_pos hw]
  refine ⟨.str (toS (cutL z lo hi)),H,I,⟨t,?_⟩,q⟩
  congr 1
  rw [Bool.and_eq_true] at hw
  have hw2:=eq_of_beq hw.2
  rw [strIdx_gen,List.length_map,List.length_range,toS_len] at hw2
  have h1:=HT.sIx_le z.length 0 (Nat.zero_le _) lo
  have h2:=HT.sIx_le z.length z.length (Nat.le_refl _) hi
  unfold cutL
  congr 1
  by_cases h0:z.length=0
  ·have:z=[]:=List.eq_nil_of_length_eq_zero h0
   subst this
   simp
  ·have a1:HT.sIx z.length 0 lo=0:=by omega
   rw [a1] at hw2 ⊢
   rw [hw2]
   simp
 ·rw [if_neg hw]
  show Made.post (.str _) _ _
  rw [str_cut]
  exact ⟨by rw [toS_len]; exact Nat.le_trans (cutL_len z lo hi) hz,.str (toS (cutL z lo hi)),H,I.tok _,⟨_,rfl⟩,q⟩
def RvR (X:Cx) (r:V→Hp→VK→Prop):Prop :=
 ∀ (pins:List (Addr×Obj)) (s:Shared) (σ:St) (H:Hp) (x:V) (v:Value) (t:Tok) (sl:Addr) (Q:VK),Inv X pins σ H s→RelV x v→s.heap.IsSliceOf sl .none .none (.int (-1) t)→r x H Q →
  ∃ T id,typeLookup (.type T) "__getitem__" = pure (some (.builtin id))∧s.TypeIs v T∧wpAny (model X.prog X.w) X.A (getItem v (.ref sl)) (EP X pins σ Q) X.xe s
theorem RvR.or {r r':V→Hp→VK→Prop} (h:RvR X r) (h':RvR X r'):RvR X (fun x H Q=>r x H Q∨r' x H Q):=by
 intro pins s σ H x v t sl Q I rx hs q
 rcases q with q | q
 ·exact h pins s σ H x v t sl Q I rx hs q
 ·exact h' pins s σ H x v t sl Q I rx hs q
theorem pe_rev {r:V→Hp→VK→Prop} {e st:Expr} {te:TE} {p2 pos:Pos} (hr:RvR X r) (he:PE X e te) (hst:PE X st (tC (.int (-1)))):PE X (.Subscript e (.Slice none none (some st) p2) pos) (tUn r te):=by
 intro pins s σ H Q I h
 refine Subscript_ (thn (he pins s σ H _ I h) fun v s1 ⟨x,H1,I1,r1,q1⟩=>?_)
 refine wpAny_Slice ?_
 rw [evalPart_none,evalPart_some]
 refine wpAny_pure (wpAny_pure ?_)
 refine thn (hst pins s1 σ H1 (fun y H2=>y = .int (-1)∧H2=H1) I1 ⟨rfl,rfl⟩) fun u s2 ⟨y,H2,I2,r2,ey,eh⟩=>?_
 subst ey eh
 obtain ⟨t,rfl⟩:=r2
 have I4:Inv X pins σ H2 { s2 with heap:=s2.heap.push { cls:=.type "slice",data:=.fields #[.none,.none,.int (-1) t] } }:=I2.kept (t':=s2.toks) fun b ob q=>Heap.get?_push_of_some _ q
 obtain ⟨T,id,hT,ht,hg⟩:=hr pins { s2 with heap:=s2.heap.push { cls:=.type "slice",data:=.fields #[.none,.none,.int (-1) t] } } σ H2 x v t s2.heap.objs.size Q I4 r1 (Heap.IsSliceOf.new ..) q1
 show wpAny (model X.prog X.w) X.A (subscriptTail e (.Slice none none (some st) p2) v (.ref s2.heap.objs.size)) (EP X pins σ Q) X.xe { s2 with heap:=s2.heap.push { cls:=.type "slice",data:=.fields #[.none,.none,.int (-1) t] } }
 exact tail_any (ops:=[v,.ref s2.heap.objs.size]) ht hT hg (by with_unfolding_all rfl)
theorem minus_one {pos pos':Pos} {j}:PE X (.UnaryOp .USub (.Constant (.int 1) j pos') pos) (tC (.int (-1))) :=
 PE.weak (pe_un un_neg pe_int) fun σ H Q h=>⟨1,rfl,h⟩
theorem idx_rev (n:Nat):Builtin.Str.strSliceIndices none none (-1) n=(List.range n).map fun k=>n - 1 - k:=by
 unfold Builtin.Str.strSliceIndices
 have h0:¬ ((-1:Int) > 0):=by decide
 simp only [h0,if_false]
 exact PySem.W.krv_sliceRange n
theorem rv_str:RvR X (fun x H Q=>∃ z:Tx,x = .str (toS z)∧z.length≤sizeLine∧Q (.str (toS z.reverse)) H):=by
 intro pins s σ H x v t sl Q I rx hs h
 obtain ⟨z,rfl,hz,q⟩:=h
 obtain ⟨t',rfl⟩:=rx
 obtain ⟨o,ho,hc,hd⟩:=hs
 refine ⟨"str",_,F.slot_str_getitem.lookup,typeIs_str s _ t',?_⟩
 refine wpAny_getItem_str_slice (l:=none) (u:=none) (st:=some (-1,t)) ⟨o,ho,hc,hd⟩ (by show ((-1:Int) == 0)=false; decide) ?_
 unfold sliceMade
 rw [if_neg (by intro h; rw [Bool.and_eq_true] at h; exact absurd (show ((-1:Int) == 1)=true from h.1) (by decide))]
 have e:(⟨((slicePicked (toS z) none none (some (-1,t))).filterMap ((toS z).cps[·]?)).toArray⟩:Str)=toS z.reverse:=by
  unfold slicePicked
  show (⟨((Builtin.Str.strSliceIndices none none (-1) (toS z).length).filterMap ((toS z).cps[·]?)).toArray⟩:Str)=_
  rw [idx_rev,PySem.W.krv_range,List.filterMap_reverse]
  have:(toS z).length=(toS z).cps.size:=rfl
  rw [this,PySem.W.krv_all]
  simp [toS]
 show Made.post (.str _) _ _
 rw [e]
 exact ⟨by rw [toS_len,List.length_reverse]; exact hz,.str (toS z.reverse),H,I.tok _,⟨_,rfl⟩,q⟩
theorem rv_list:RvR X (fun x H Q=>∃ a xs,x = .ref a∧SqL X.K H a xs∧∀ p,H p=none→Q (.ref p) (upd H p (.lst xs.reverse))):=by
 intro pins s σ H x v t sl Q I rx hs h
 obtain ⟨a,xs,rfl,hx,q⟩:=h
 cases rx
 obtain ⟨its,r,ht,hz⟩:=I.list hx
 have hlen:=r.length
 refine ⟨"list",_,slot_list_getitem.lookup,ht.isList.typeIs,?_⟩
 refine wpAny_getItem_list_slice ht.isList hs .none .none (.int (-1) t) (by decide) ?_ (by rw [List.size_toArray] <;> omega)
 rw [PySem.W.krv_pick]
 exact ⟨.ref s.heap.objs.size,_,I.lnew (t':=s.toks) r.reverse (by rw [List.length_reverse]; exact hz),rfl,q _ I.fresh⟩
theorem op_catT0:OpR X (binaryOp .Add) (fun x y H Q=>∃ a b ys,x = .ref a∧y = .ref b∧SqT X.K H a []∧SqT X.K H b ys∧Q (.ref b) H):=by
 intro pins s σ H x y v u Q I rx ry h
 obtain ⟨a,b,ys,rfl,rfl,ha,hb,q⟩:=h
 cases rx
 cases ry
 obtain ⟨its,r1,p1,_⟩:=I.tuple ha
 obtain ⟨its2,r2,p2,_⟩:=I.tuple hb
 cases r1
 obtain ⟨⟨cls,dd,data,sl⟩,ho,hc,n,hd⟩:=id p1
 obtain ⟨⟨cls2,dd2,data2,sl2⟩,ho2,hc2,n2,hd2⟩:=id p2
 simp only at hc hd hc2 hd2
 subst hc hd hc2 hd2
 exact concat_meets ⟨_,ho,rfl⟩ ⟨_,ho2,rfl⟩ noFill_tuple_add seq_tuple_add PySem.F.slot_tuple_add PySem.F.entry_tuple_add (PySem.F.args_tuple_add_2 _ _)
   (tuple_addW0 a b #[] its2.toArray n n2 dd dd2 sl sl2 rfl) ⟨ho,ho2,.ref b,H,I,rfl,q⟩
def rCatL (K:PySem.W.Frag):R2:=fun x y H Q=>∃ l b xs zs,x = .ref l∧y = .ref b∧SqL K H l xs∧SqL K H b zs∧xs.length + zs.length≤sizeLine∧∀ p,H p=none→Q (.ref p) (upd H p (.lst (xs ++ zs)))
theorem op_catL:OpR X (binaryOp .Add) (rCatL X.K):=by
 intro pins s σ H x y v u Q I rx ry h
 obtain ⟨l,b,xs,zs,rfl,rfl,hH,hB,hz,q⟩:=h
 cases rx
 cases ry
 obtain ⟨its,r,⟨⟨cls,dd,data,sl⟩,n,e,hc,hdd,hd⟩,z⟩:=I.list hH
 obtain ⟨its2,r2,⟨⟨cls2,dd2,data2,sl2⟩,n2,e2,hc2,hdd2,hd2⟩,z2⟩:=I.list hB
 simp only at hc hd hdd hc2 hd2 hdd2
 subst hc hd hdd hc2 hd2 hdd2
 have hl:=r.length
 have hl2:=r2.length
 refine concat_meets ⟨_,e,rfl⟩ ⟨_,e2,rfl⟩ noFill_list_add seq_list_add PySem.F.slot_list_add PySem.F.entry_list_add (PySem.F.args_list_add_2 _ _)
   (list_addW l b its.toArray its2.toArray n n2 none none sl sl2 (by rw [List.size_toArray,List.size_toArray]; omega)) ⟨e,e2,?_⟩
 have ea:its.toArray ++ its2.toArray=(its ++ its2).toArray:=by simp
 rw [ea]
 exact ⟨.ref _,_,I.lnew (t':=s.toks) (r.append r2) (by rw [List.length_append]; omega),rfl,q _ I.fresh⟩
theorem strsAre_of:∀ {ys:List Str} {us:List Value},Vals (ys.map V.str) us→StrsAre us ys
 | [],us,r=>by cases r; exact .nil
 | y :: ys,us,r=>by
  cases r with
  | cons r1 r2 =>
   obtain ⟨t,rfl⟩:=r1
   exact .cons y t (strsAre_of r2)
def rJoin (K:PySem.W.Frag):V→List V→Hp→VK→Prop:=fun x vs H Q=>∃ (z:Str) (a:Addr) (ys:List Str),x = .str z∧vs=[.ref a]∧(SqL K H a (ys.map V.str)∨SqT K H a (ys.map V.str)) ∧
 (ys.map (·.length)).sum + ys.length * z.length≤16777216∧Q (.str (Txt.join z ys)) H
theorem mt_join:MtR X "str.join" (rJoin X.K):=by
 intro pins s σ H x vs v us Q I rx rv h
 obtain ⟨z,a,ys,rfl,rfl,hq,hz,q⟩:=h
 obtain ⟨t,rfl⟩:=rx
 obtain ⟨u,rfl,ru⟩:=rv.one
 cases ru
 rcases hq with hq | hq
 ·obtain ⟨its,r,p,_⟩:=I.list hq
  exact join_list p.isList (by simpa using strsAre_of r) hz fun t' k=>⟨.str _,H,I.tok _,⟨t',rfl⟩,q⟩
 ·obtain ⟨its,r,p,_⟩:=I.tuple hq
  exact join_tuple p (by simpa using strsAre_of r) hz fun t' k=>⟨.str _,H,I.tok _,⟨t',rfl⟩,q⟩
theorem bools_get:∀ {bs:List Bool} {us:List Value},Vals (bs.map V.bl) us→∀ (i:Nat) v,us[i]? = some v→∃ b,bs[i]? = some b∧v = .bool b
 | [],us,r,i,v,e=>by cases r; simp at e
 | b :: bs,us,r,i,v,e=>by
  cases r with
  | cons r1 r2 =>
   cases i with
   | zero =>
    simp at e
    subst e
    exact ⟨b,rfl,r1⟩
   | succ i=>exact bools_get r2 i v (by simpa using e)
theorem range_all':∀ bs:List Bool,((List.range bs.length).all fun i=>(bs[i]?).getD true)=bs.all id
 | []=>rfl
 | b :: bs=>by
  rw [List.length_cons,List.range_succ_eq_map,List.all_cons,List.all_map]
  have:=range_all' bs
  simp only [List.getElem?_cons_zero,Option.getD_some,List.all_cons,id]
  rw [← this]
  rfl
theorem call_all (hc:X.calm=true):CallR X (.builtin "all") (fun xs H Q=>∃ (a:Addr) (bs:List Bool),xs=[.ref a]∧SqL X.K H a (bs.map V.bl)∧Q (.bl (bs.all (fun b=>b))) H):=by
 intro pins s σ H xs us Q I r h
 obtain ⟨a,bs,rfl,hq,q⟩:=h
 obtain ⟨u,rfl,ru⟩:=vals1 r
 cases ru
 obtain ⟨its,r',p,_⟩:=I.list hq
 have hl:=p.isList
 have hlt:a < s.heap.objs.size:=by obtain ⟨_,e,_⟩:=hl; exact Heap.lt_size e
 have hlen:=r'.length
 rw [List.length_map] at hlen
 refine call_all_walk (wpAny_pyIter_list hl ?_)
 refine ⟨s.heap.objs.size,[s.heap.objs.size,a],[s.heap.objs.size],its.toArray.size,_,_,fun i=>(bs[i]?).getD true,rfl,Walks.list (A:=X.A.in1) (I.ok.hd hc) _ a (Nat.ne_of_lt hlt) its.toArray,
  ⟨⟨_,Heap.get?_push_size _ rfl,rfl,rfl⟩,hl.push _⟩,fun i v s' Q' E' hP hQ=>?_,fun h' tk hk=>?_⟩
 ·obtain ⟨b,e,rfl⟩:=bools_get r' i v (by simpa using hP)
  simp only [e,Option.getD_some] at hQ
  exact wpAny_truthy_bool hQ
 ·have e:((List.range its.toArray.size).all fun i=>(bs[i]?).getD true)=bs.all id:=by
   rw [List.size_toArray,← hlen]; exact range_all' bs
  rw [e]
  exact ⟨.bl _,H,I.kept fun b o e=>hk b o (fun hm=>by rw [List.mem_singleton.mp hm] at e; exact Nat.lt_irrefl _ (Heap.lt_size e)) (Heap.get?_push_of_some _ e),rfl,q⟩
end
open PySem PySem.Spec PyProof.Rows L2
def p2 (p:D→D→Option S) (x y:D) (δ:Dl):Rs S:=match p x y with
 | some s=>.ok s δ
 | none=>.stuck
def eOp (p:D→D→Option S) (fa:DE) (fb:BE):DE:=fun δ=>(fa δ).bind fun x δ1=>(fb δ1).bind fun y δ2=>p2 p x.d y δ2
def eOpN (p:D→D→Option S) (i:Nat) (fb:BE):DE:=fun δ=>(fb δ).bind fun y δ1=>(bVar i δ1).bind fun x δ2=>p2 p x y δ2
def Op2 (r:R2) (p:D→D→Option S):Prop:=∀ (c:Fc) (σ:St) (δ:Dl) (H:Hp) (x y:V) (d e:D) (s:S) (Q:VK),Ok c σ δ H→RepB c σ δ H x d→RepB c σ δ H y e→p d e=some s →
 (∀ v H',Aft c σ δ H σ δ H'→RepS c σ δ H H' v s→Q v H')→r x y H Q
theorem RepB.aft {c:Fc} {σ:St} {δ δ':Dl} {H H':Hp} {v:V} {d:D} (h:Rep H (Av c σ δ) v d) (x:Aft c σ δ H σ δ' H'):RepB c σ δ' H' v d:=.inl (Rep.aft h x)
section
variable {X:Cx} {c:Fc} {a b:Expr} {fa:DE} {fb:BE} {r:R2} {p:D→D→Option S} {pos:Pos}
theorem p2_post {σ:St} {δ:Dl} {H:Hp} {x y:V} {d e:D} {Q:VK} (hp:Op2 r p) (k:Ok c σ δ H) (rx:RepB c σ δ H x d) (ry:RepB c σ δ H y e)
  (h:post c (p2 p d e δ) fun s δ'=>∀ v H',Aft c σ δ H σ δ' H'→RepS c σ δ' H H' v s→Q v H'):r x y H Q:=by
 unfold p2 at h
 cases e1:p d e with
 | none=>rw [e1] at h; exact h.elim
 | some s=>rw [e1] at h; exact hp c σ δ H x y d e s Q k rx ry e1 h
theorem op_weak (hp:Op2 r p) {σ:St} {H:Hp} {Q:VK} (h:tD c (eOp p fa fb) σ H Q):tOp r (tD c fa) (tB c fb) σ H Q:=by
 obtain ⟨δ,k,q⟩:=h
 refine ⟨δ,k,?_⟩
 unfold eOp at q
 rw [post_bind] at q
 refine post_mono q fun x δ1 q1 v H1 a1 r1=>⟨δ1,a1.ok,?_⟩
 rw [post_bind] at q1
 refine post_mono q1 fun y δ2 q2 u H2 a2 r2=>?_
 exact p2_post hp a2.ok (.inl (Rep.aft r1.rep a2)) r2 (post_mono q2 fun s δ3 q3 v' H3 a3 r3=>q3 v' H3 (a1.trans (a2.trans a3)) (RepS.back r3 (a1.trans a2)))
theorem opN_weak (hp:Op2 r p) {i:Nat} {σ:St} {H:Hp} {Q:VK} (h:tD c (eOpN p i fb) σ H Q) (hv:∀ δ,Ok c σ δ H→post c (fb δ) (fun _ _=>True)→∃ v,σ[i]? = some (some v)):tOp r (tVar i) (tB c fb) σ H Q:=by
 obtain ⟨δ,k,q⟩:=h
 unfold eOpN at q
 rw [post_bind] at q
 obtain ⟨v,ev⟩:=hv δ k (post_mono q fun _ _ _=>trivial)
 refine ⟨v,ev,δ,k,post_mono q fun y δ1 q1 u H1 a1 r1=>?_⟩
 rw [post_bind] at q1
 unfold bVar at q1
 cases e:δ1[i]? with
 | none=>rw [e] at q1; exact q1.elim
 | some o =>
  cases o with
  | none=>rw [e] at q1; exact q1.elim
  | some w =>
   rw [e] at q1
   have q1':post c (p2 p w.d y δ1) fun s δ'=>∀ v H',Aft c σ δ H σ δ' H'→RepS c σ δ' H H' v s→Q v H':=q1
   have rb:RepB c σ δ1 H1 v w.d:=by
    cases w with
    | pure d =>
     obtain ⟨v',e1,r⟩:=a1.ok.slot i d e
     rw [ev] at e1; cases e1
     exact .inl r
    | own d =>
     obtain ⟨a,e1,r,_⟩:=a1.ok.own i d e
     rw [ev] at e1; cases e1
     exact .inr ⟨a,rfl,r⟩
   exact p2_post hp a1.ok rb r1 (post_mono q1' fun s δ3 q3 v' H3 a3 r3=>q3 v' H3 (a1.trans a3) (RepS.back r3 a1))
theorem slot_there {i:Nat} {σ:St} {δ:Dl} {H:Hp} (k:Ok c σ δ H) {w:S} (e:δ[i]? = some (some w)):∃ v,σ[i]? = some (some v):=by
 cases w with
 | pure d=>obtain ⟨v,e1,_⟩:=k.slot i d e; exact ⟨v,e1⟩
 | own d=>obtain ⟨a,e1,_⟩:=k.own i d e; exact ⟨_,e1⟩
end
def eOpF (p:D→D→Option S) (i:Nat) (fb:BE):DE:=fun δ=>match δ[i]? with
 | some (some _)=>eOpN p i fb δ
 | _=>.stuck
section
variable {X:Cx} {c:Fc} {a b:Expr} {fa:DE} {fb:BE} {r:R2} {p:D→D→Option S} {pos:Pos}
theorem opF_weak (hp:Op2 r p) {i:Nat} {σ:St} {H:Hp} {Q:VK} (h:tD c (eOpF p i fb) σ H Q):tOp r (tVar i) (tB c fb) σ H Q:=by
 obtain ⟨δ,k,q⟩:=h
 unfold eOpF at q
 cases e:δ[i]? with
 | none=>rw [e] at q; exact q.elim
 | some o =>
  cases o with
  | none=>rw [e] at q; exact q.elim
  | some w =>
   rw [e] at q
   obtain ⟨v,ev⟩:=slot_there k e
   exact opN_weak hp (i:=i) ⟨δ,k,q⟩ fun _ _ _=>⟨v,ev⟩
theorem se_op {op:Operator} (ho:OpR X (binaryOp op) r) (hp:Op2 r p) (ha:SE X c a fa) (hb:SB X c b fb):SE X c (.BinOp a op b pos) (eOp p fa fb):=PE.weak (pe_op ho ha hb) fun _ _ _ h=>op_weak hp h
theorem se_opN {op:Operator} {i:Nat} (ho:OpR X (binaryOp op) r) (hp:Op2 r p) (ha:PE X a (tVar i)) (hb:SB X c b fb):SE X c (.BinOp a op b pos) (eOpF p i fb):=PE.weak (pe_op ho ha hb) fun _ _ _ h=>opF_weak hp h
theorem se_cmp {op:CmpOp} (ho:OpR X (compareOp op) r) (hp:Op2 r p) (ha:SE X c a fa) (hb:SB X c b fb) (hm:behindInMarks op b=false):SE X c (.Compare a [op] [b] pos) (eOp p fa fb):=PE.weak (pe_cmpR ho ha hb hm) fun _ _ _ h=>op_weak hp h
theorem se_cmpN {op:CmpOp} {i:Nat} (ho:OpR X (compareOp op) r) (hp:Op2 r p) (ha:PE X a (tVar i)) (hb:SB X c b fb) (hm:behindInMarks op b=false):SE X c (.Compare a [op] [b] pos) (eOpF p i fb):=PE.weak (pe_cmpR ho ha hb hm) fun _ _ _ h=>opF_weak hp h
theorem se_ix (hr:IxR X r) (hp:Op2 r p) (ha:SE X c a fa) (hb:SB X c b fb) (hs:PlainIx b):SE X c (.Subscript a b pos) (eOp p fa fb):=PE.weak (pe_ix hr ha hb hs) fun _ _ _ h=>op_weak hp h
theorem se_ixN {i:Nat} (hr:IxR X r) (hp:Op2 r p) (ha:PE X a (tVar i)) (hb:SB X c b fb) (hs:PlainIx b):SE X c (.Subscript a b pos) (eOpF p i fb):=PE.weak (pe_ix hr ha hb hs) fun _ _ _ h=>opF_weak hp h
end
abbrev DT:=Dl→Rs Bool
def tT (c:Fc) (f:DT):TT:=fun σ H Q=>∃ δ,Ok c σ δ H∧post c (f δ) fun b δ'=>∀ H',Aft c σ δ H σ δ' H'→Q b H'
abbrev ST (X:Cx) (c:Fc) (e:Expr) (f:DT):Prop:=PT X e (tT c f)
theorem PT.weak {X:Cx} {e:Expr} {t t':TT} (h:PT X e t) (w:∀ σ H Q,t' σ H Q→t σ H Q):PT X e t':=fun pins s σ H Q I q=>h pins s σ H Q I (w σ H Q q)
def dTr (f:DE):DT:=fun δ=>(f δ).bind fun r δ'=>match r with
 | .pure (.bl b)=>.ok b δ'
 | _=>.stuck
section
variable {X:Cx} {c:Fc} {a b:Expr} {fa f:DE} {fb:BE} {r:R2} {p:D→D→Option S} {pos:Pos}
theorem tr_weak {σ:St} {H:Hp} {Q:Bool→Hp→Prop} (h:tT c (dTr f) σ H Q):tD c f σ H fun x H'=>∃ k,x = .bl k∧Q k H':=by
 obtain ⟨δ,k,q⟩:=h
 refine ⟨δ,k,?_⟩
 unfold dTr at q
 rw [post_bind] at q
 refine post_mono q fun r δ1 q1 v H1 a1 r1=>?_
 cases r with
 | own d=>exact q1.elim
 | pure d =>
  cases d <;> first | exact q1.elim | skip
  rename_i b
  cases r1
  exact ⟨b,rfl,q1 H1 a1⟩
theorem st_cmp {op:CmpOp} (ho:OpR X (compareOp op) r) (hp:Op2 r p) (ha:SE X c a fa) (hb:SB X c b fb) (hm:behindInMarks op b=false):ST X c (.Compare a [op] [b] pos) (dTr (eOp p fa fb)) :=
 PT.weak (pt_cmpR ho ha hb hm) fun σ H Q h=>op_weak hp (tr_weak h)
theorem st_cmpN {op:CmpOp} {i:Nat} (ho:OpR X (compareOp op) r) (hp:Op2 r p) (ha:PE X a (tVar i)) (hb:SB X c b fb) (hm:behindInMarks op b=false):ST X c (.Compare a [op] [b] pos) (dTr (eOpF p i fb)) :=
 PT.weak (pt_cmpR ho ha hb hm) fun σ H Q h=>opF_weak hp (tr_weak h)
theorem st_val {e:Expr} (h:SE X c e f) (he:∀ whole,isTrue e X.env whole=(do let v ← whole; standAt e.pos; holding [v] (truthy v)):=by intro _; rfl):ST X c e (dTr f) :=
 PT.weak (pt_val h he) fun σ H Q h=>tr_weak h
def dAnd (t u:DT):DT:=fun δ=>(t δ).bind fun b δ1=>if b then u δ1 else .ok false δ1
def dOr (t u:DT):DT:=fun δ=>(t δ).bind fun b δ1=>if b then .ok true δ1 else u δ1
def dNot (t:DT):DT:=fun δ=>(t δ).bind fun b δ1=>.ok (!b) δ1
abbrev SW (X:Cx) (c:Fc) (e:Expr) (f:DT):Prop:=PW X e (tT c f)
theorem PW.weak {e:Expr} {t t':TT} (h:PW X e t) (w:∀ σ H Q,t' σ H Q→t σ H Q):PW X e t':=fun wh pins s σ H Q I q=>h wh pins s σ H Q I (w σ H Q q)
variable {t u:DT} {rest:List Expr}
theorem sw_or1 (ha:ST X c a t):SW X c (.BoolOp .Or [a] pos) t:=pw_or1 ha
theorem sw_or (ha:ST X c a t) (hb:SW X c (.BoolOp .Or (b :: rest) pos) u):SW X c (.BoolOp .Or (a :: b :: rest) pos) (dOr t u):=PW.weak (pw_or ha hb) fun σ H Q ⟨δ,k,q⟩=>by
 unfold dOr at q
 rw [post_bind] at q
 refine ⟨δ,k,post_mono q fun x δ1 q1 H1 a1=>?_⟩
 cases x with
 | false=>exact ⟨δ1,a1.ok,post_mono q1 fun y δ2 q2 H2 a2=>q2 H2 (a1.trans a2)⟩
 | true=>exact q1 H1 a1
theorem st_of (h:SW X c a t):ST X c a t:=PW.pt h
theorem st_not (ha:ST X c a t):ST X c (.UnaryOp .Not a pos) (dNot t):=PT.weak (pt_not ha) fun σ H Q ⟨δ,k,q⟩=>by
 unfold dNot at q
 rw [post_bind] at q
 exact ⟨δ,k,q⟩
def eAnd (f g:DE):DE:=fun δ=>(f δ).bind fun r δ1=>match r with
 | .pure (.bl true)=>g δ1
 | .pure (.bl false)=>.ok (.pure (.bl false)) δ1
 | _=>.stuck
def eNot (f:DE):DE:=fun δ=>(f δ).bind fun r δ1=>match r with
 | .pure (.bl b)=>.ok (.pure (.bl (!b))) δ1
 | _=>.stuck
def eIf (t:DT) (f g:DE):DE:=fun δ=>(t δ).bind fun b δ1=>if b then f δ1 else g δ1
variable {g:DE}
theorem se_one {op} (h:SE X c a f):SE X c (.BoolOp op [a] pos) f:=pe_one h
theorem se_and (ha:SE X c a f) (hb:SE X c (.BoolOp .And (b :: rest) pos) g):SE X c (.BoolOp .And (a :: b :: rest) pos) (eAnd f g):=PE.weak (pe_and ha hb) fun σ H Q ⟨δ,k,q⟩=>by
 unfold eAnd at q
 rw [post_bind] at q
 refine ⟨δ,k,post_mono q fun r δ1 q1 v H1 a1 r1=>?_⟩
 cases r with
 | own d=>exact q1.elim
 | pure d =>
  cases d <;> first | exact q1.elim | skip
  rename_i b
  cases r1
  refine ⟨b,rfl,?_⟩
  cases b with
  | true=>exact ⟨δ1,a1.ok,post_mono q1 fun y δ2 q2 v H2 a2 r2=>q2 v H2 (a1.trans a2) (RepS.back r2 a1)⟩
  | false=>exact q1 _ H1 a1 (.bl false)
theorem se_not (ha:SE X c a f):SE X c (.UnaryOp .Not a pos) (eNot f):=PE.weak (pe_not ha) fun σ H Q ⟨δ,k,q⟩=>by
 unfold eNot at q
 rw [post_bind] at q
 refine ⟨δ,k,post_mono q fun r δ1 q1 v H1 a1 r1=>?_⟩
 cases r with
 | own d=>exact q1.elim
 | pure d =>
  cases d <;> first | exact q1.elim | skip
  rename_i b
  cases r1
  exact ⟨b,rfl,q1 _ H1 a1 (.bl _)⟩
def eChain (p p':D→D→Option S) (fa:DE) (fb:DE) (fc:BE):DE:=fun δ=>(fa δ).bind fun x δ1=>(fb δ1).bind fun y δ2=>(p2 p x.d y.d δ2).bind fun z δ3=>match z with
 | .pure (.bl true)=>(fc δ3).bind fun w δ4=>p2 p' y.d w δ4
 | .pure (.bl false)=>.ok (.pure (.bl false)) δ3
 | _=>.stuck
theorem chain_weak {r':R2} {p':D→D→Option S} {fb:DE} {fc:BE} (hp:Op2 r p) (hp':Op2 r' p') {σ:St} {H:Hp} {Q:VK} (h:tD c (eChain p p' fa fb fc) σ H Q):tChain r r' (tD c fa) (tD c fb) (tB c fc) σ H Q:=by
 obtain ⟨δ,k,q⟩:=h
 unfold eChain at q
 rw [post_bind] at q
 refine ⟨δ,k,post_mono q fun x δ1 q1 v H1 a1 r1=>⟨δ1,a1.ok,?_⟩⟩
 rw [post_bind] at q1
 refine post_mono q1 fun y δ2 q2 u H2 a2 r2=>?_
 rw [post_bind] at q2
 refine p2_post hp a2.ok (.inl (Rep.aft r1.rep a2)) (.inl r2.rep) (post_mono q2 fun s δ3 q3 v' H3 a3 r3=>?_)
 cases s with
 | own d=>exact q3.elim
 | pure d =>
  cases d <;> first | exact q3.elim | skip
  rename_i b
  cases r3
  refine ⟨b,rfl,?_⟩
  cases b with
  | false=>exact q3 _ H3 (a1.trans (a2.trans a3)) (.bl false)
  | true =>
   rw [if_pos rfl]
   have q3':post c ((fc δ3).bind fun w δ4=>p2 p' y.d w δ4) fun r δ'=>∀ v H',Aft c σ δ H σ δ' H'→RepS c σ δ' H H' v r→Q v H':=q3
   rw [post_bind] at q3'
   refine ⟨δ3,a3.ok,post_mono q3' fun w δ4 q4 v4 H4 a4 r4=>?_⟩
   exact p2_post hp' a4.ok (.inl (Rep.aft r2.rep (a3.trans a4))) r4 (post_mono q4 fun s5 δ5 q5 v5 H5 a5 r5=>q5 v5 H5 (a1.trans (a2.trans (a3.trans (a4.trans a5)))) (RepS.back r5 (a1.trans (a2.trans (a3.trans a4)))))
theorem st_chain {op op':CmpOp} {r':R2} {p':D→D→Option S} {e:Expr} {fb:DE} {fc:BE} (ho:OpR X (compareOp op) r) (ho':OpR X (compareOp op') r') (hp:Op2 r p) (hp':Op2 r' p') (ha:SE X c a fa) (hb:SE X c b fb) (he:SB X c e fc)
  (hm:lastMarks [op,op'] [b,e]=false:=by with_unfolding_all rfl):ST X c (.Compare a [op,op'] [b,e] pos) (dTr (eChain p p' fa fb fc)):=PT.weak (pt_chain ho ho' ha hb he hm) fun _ _ _ h=>chain_weak hp hp' (tr_weak h)
end
open PySem PySem.Spec PyProof.Rows L2
section
variable {c:Fc} {σ:St} {δ:Dl} {H:Hp} {x:V}
theorem RepB.int {i:Int} (h:RepB c σ δ H x (.int i)):x = .int i:=by
 rcases h with h | ⟨_,_,h⟩
 ·cases h; rfl
 ·exact h.elim
theorem RepB.bl {b:Bool} (h:RepB c σ δ H x (.bl b)):x = .bl b:=by
 rcases h with h | ⟨_,_,h⟩
 ·cases h; rfl
 ·exact h.elim
theorem RepB.non (h:RepB c σ δ H x .non):x = .non:=by
 rcases h with h | ⟨_,_,h⟩
 ·cases h; rfl
 ·exact h.elim
theorem RepB.str {z:Tx} (h:RepB c σ δ H x (.str z)):x = .str (toS z):=by
 rcases h with h | ⟨_,_,h⟩
 ·cases h; rfl
 ·exact h.elim
theorem RepB.tup {ds:List D} (h:RepB c σ δ H x (.tup ds)):∃ a vs,x = .ref a∧H a=some (.tup vs)∧Reps H (Av c σ δ) vs ds:=by
 rcases h with h | ⟨_,_,h⟩
 ·cases h with
  | tup h1 h2 h3 h4=>exact ⟨_,_,rfl,h2,h3,h4⟩
 ·exact h.elim
theorem RepB.lst {ds:List D} (h:RepB c σ δ H x (.lst ds)):∃ a vs,x = .ref a∧Rd H a (.lst vs)∧Reps H (Av c σ δ) vs ds:=by
 rcases h with h | ⟨a,e,h⟩
 ·cases h with
  | lst h1 h2 h3 h4=>exact ⟨_,_,rfl,h2,h3,h4⟩
 ·obtain ⟨vs,h1,h2⟩:=h
  exact ⟨a,vs,e,.inl h1,h2⟩
theorem RepB.dct {ds:List (DKey×D)} (h:RepB c σ δ H x (.dct ds)):∃ a ws,x = .ref a∧H a=some (.dK ws)∧ws.map (·.1)=ds.map (fun p=>kOf p.1)∧∀ (i:Nat) p q,ws[i]? = some p→ds[i]? = some q→Rep H (Av c σ δ) p.2 q.2:=by
 rcases h with h | ⟨a,e,h⟩
 ·cases h with
  | dct h1 h2 h3 h4=>exact ⟨_,_,rfl,h2,h3,h4⟩
 ·obtain ⟨ws,h1,h2,h3⟩:=h
  exact ⟨a,ws,e,h1,h2,h3⟩
end
theorem str_len_ok {z:Tx} (h:z.length≤sizeLine):(toS z).length≤sizeLine:=by rw [toS_len]; exact h
theorem toS_app (x y:Tx):toS x ++ toS y=toS (x ++ y):=by
 show Str.append (toS x) (toS y)=_
 simp [toS,Str.append]
def pAdd:D→D→Option S
 | .int i,.int j=>some (.pure (.int (i + j)))
 | .str x,.str y=>if x.length + y.length≤sizeLine then some (.pure (.str (x ++ y))) else none
 | .tup xs,.tup ys=>if xs.length + ys.length≤sizeLine then some (.pure (.tup (xs ++ ys))) else none
 | .lst xs,.lst ys=>if xs.length + ys.length≤sizeLine then some (.own (.lst (xs ++ ys))) else none
 | _,_=>none
def rAddD (K:PySem.W.Frag):R2:=fun x y H Q=>rI0 (fun i j=>V.int (i + j)) x y H Q∨(∃ i j,x = .str i∧y = .str j∧i.length + j.length≤sizeLine∧Q (.str (i ++ j)) H) ∨
 (∃ a b ys,x = .ref a∧y = .ref b∧SqT K H a []∧SqT K H b ys∧Q (.ref b) H)∨rCatT K x y H Q∨rCatL K x y H Q
theorem op_addD {X:Cx}:OpR X (binaryOp .Add) (rAddD X.K):=op_add.or (op_add_str.or (op_catT0.or (op_catT.or op_catL)))
theorem o2_add {K:PySem.W.Frag}:Op2 (rAddD K) pAdd:=by
 intro c σ δ H x y d e s Q k rx ry hp q
 cases d <;> cases e <;> first
  | (simp [pAdd] at hp; done)
  | skip
 ·rename_i i j
  simp only [pAdd,Option.some.injEq] at hp
  subst hp
  exact .inl ⟨i,j,rx.int,ry.int,q _ H (.refl k) (.int _)⟩
 ·rename_i u w
  simp only [pAdd] at hp
  split at hp
  ·rename_i hz
   simp only [Option.some.injEq] at hp
   subst hp
   refine .inr (.inl ⟨toS u,toS w,rx.str,ry.str,by rw [toS_len,toS_len]; exact hz,?_⟩)
   rw [toS_app]
   exact q _ H (.refl k) (.str _)
  ·cases hp
 ·rename_i us ws
  simp only [pAdd] at hp
  split at hp
  ·rename_i hz
   simp only [Option.some.injEq] at hp
   subst hp
   obtain ⟨a,vs,ea,ha,ra⟩:=rx.tup
   obtain ⟨b,zs,eb,hb,rb⟩:=ry.tup
   cases vs with
   | nil =>
    have:us=[]:=by have:=ra.1; simpa using this.symm
    subst this
    refine .inr (.inr (.inl ⟨a,b,zs,ea,eb,.of ha,.of hb,?_⟩))
    rw [eb] at ry
    rcases ry with ry | ⟨_,_,ry⟩
    ·exact q _ H (.refl k) ry
    ·exact ry.elim
   | cons v0 vr =>
    refine .inr (.inr (.inr (.inl ⟨a,b,_,zs,ea,eb,.of ha,.of hb,by simp,by rw [ra.1,rb.1]; exact hz,fun e0=>?_,fun _ p hp=>?_⟩)))
    ·subst e0
     have:ws=[]:=by have:=rb.1; simpa using this.symm
     subst this
     rw [ea] at rx
     rcases rx with rx | ⟨_,_,rx⟩
     ·rw [List.append_nil] at q
      exact q _ H (.refl k) rx
     ·exact rx.elim
    ·exact q _ _ (.alloc k hp _) (RepS.newT k (ra.append rb) hp)
  ·cases hp
 ·rename_i us ws
  simp only [pAdd] at hp
  split at hp
  ·rename_i hz
   simp only [Option.some.injEq] at hp
   subst hp
   obtain ⟨a,vs,ea,ha,ra⟩:=rx.lst
   obtain ⟨b,zs,eb,hb,rb⟩:=ry.lst
   exact .inr (.inr (.inr (.inr ⟨a,b,vs,zs,ea,eb,.inl ha,.inl hb,by rw [ra.1,rb.1]; exact hz,fun p hp=>q _ _ (.alloc k hp _) (RepS.newL k (ra.append rb) hp)⟩)))
  ·cases hp
def pII (C:Int→Int→Bool) (g:Int→Int→D):D→D→Option S
 | .int i,.int j=>if C i j then some (.pure (g i j)) else none
 | _,_=>none
theorem o2_ii {C:Int→Int→Prop} {C':Int→Int→Bool} {g:Int→Int→V} {g':Int→Int→D} (hC:∀ i j,C' i j=true→C i j) (hg:∀ i j H O,Rep H O (g i j) (g' i j)):Op2 (rI C g) (pII C' g'):=by
 intro c σ δ H x y d e s Q k rx ry hp q
 cases d <;> cases e <;> first
  | (simp [pII] at hp; done)
  | skip
 rename_i i j
 simp only [pII] at hp
 split at hp
 ·rename_i hc
  simp only [Option.some.injEq] at hp
  subst hp
  exact ⟨i,j,rx.int,ry.int,hC i j hc,q _ H (.refl k) (hg i j H _)⟩
 ·cases hp
theorem o2_ii0 {g:Int→Int→V} {g':Int→Int→D} (hg:∀ i j H O,Rep H O (g i j) (g' i j)):Op2 (rI0 g) (pII (fun _ _=>true) g'):=by
 intro c σ δ H x y d e s Q k rx ry hp q
 cases d <;> cases e <;> first
  | (simp [pII] at hp; done)
  | skip
 rename_i i j
 simp only [pII,if_true,Option.some.injEq] at hp
 subst hp
 exact ⟨i,j,rx.int,ry.int,q _ H (.refl k) (hg i j H _)⟩
def pSub:=pII (fun _ _=>true) fun i j=>.int (i - j)
theorem o2_sub:Op2 (rI0 fun i j=>V.int (i - j)) pSub:=o2_ii0 fun _ _ _ _=>.int _
def cMul (i j:Int):Bool:=(decide (-(2 ^ 64) < i) && decide (i < 2 ^ 64)) || (decide (-(2 ^ 64) < j) && decide (j < 2 ^ 64))
def pMul:=pII cMul fun i j=>.int (i * j)
theorem o2_mul:Op2 (rI CMul fun i j=>V.int (i * j)) pMul:=o2_ii (fun i j h=>by
 unfold cMul at h
 simp only [Bool.or_eq_true,Bool.and_eq_true,decide_eq_true_eq] at h
 exact h) fun _ _ _ _=>.int _
def cDiv (_ j:Int):Bool:=decide (0 < j) && decide (j < 1073741824)
def pDiv:=pII cDiv fun i j=>.int (i / j)
theorem o2_div:Op2 (rI CDiv fun i j=>V.int (i / j)) pDiv:=o2_ii (fun i j h=>by
 unfold cDiv at h
 simp only [Bool.and_eq_true,decide_eq_true_eq] at h
 exact h) fun _ _ _ _=>.int _
def pMod:=pII (fun _ j=>decide (0 < j)) fun i j=>.int (i % j)
theorem o2_mod:Op2 (rI (fun _ j=>0 < j) fun i j=>V.int (i % j)) pMod:=o2_ii (fun i j h=>by simpa using h) fun _ _ _ _=>.int _
def cPow (i j:Int):Bool:=decide (0≤j) && decide (j≤1000000) && decide (i.natAbs < 2 ^ 64)
def pPow:=pII cPow fun i j=>.int (i ^ j.toNat)
theorem o2_pow:Op2 (rI CPow fun i j=>V.int (i ^ j.toNat)) pPow:=o2_ii (fun i j h=>by
 unfold cPow at h
 simp only [Bool.and_eq_true,decide_eq_true_eq] at h
 exact ⟨h.1.1,h.1.2,h.2⟩) fun _ _ _ _=>.int _
def pEq (d e:D):Option S:=if flat 50 d && flat 50 e then some (.pure (.bl (eqD d e))) else none
def pNe (d e:D):Option S:=if flat 50 d && flat 50 e then some (.pure (.bl (!eqD d e))) else none
theorem o2_eq:Op2 rEqD pEq:=by
 intro c σ δ H x y d e s Q k rx ry hp q
 unfold pEq at hp
 split at hp
 ·rename_i hf
  rw [Bool.and_eq_true] at hf
  simp only [Option.some.injEq] at hp
  subst hp
  exact ⟨d,e,rx.un,ry.un,hf.1,hf.2,q _ H (.refl k) (.bl _)⟩
 ·cases hp
theorem o2_ne:Op2 rNeD pNe:=by
 intro c σ δ H x y d e s Q k rx ry hp q
 unfold pNe at hp
 split at hp
 ·rename_i hf
  rw [Bool.and_eq_true] at hf
  simp only [Option.some.injEq] at hp
  subst hp
  exact ⟨d,e,rx.un,ry.un,hf.1,hf.2,q _ H (.refl k) (.bl _)⟩
 ·cases hp
def pCmp (f:Int→Int→Bool) (g:Tx→Tx→Bool):D→D→Option S
 | .int i,.int j=>some (.pure (.bl (f i j)))
 | .str x,.str y=>some (.pure (.bl (g x y)))
 | _,_=>none
def rCmp (f:Int→Int→Bool) (g:List Nat→List Nat→Bool):R2:=fun x y H Q=>rI0 (fun i j=>V.bl (f i j)) x y H Q∨∃ i j,x = .str i∧y = .str j∧Q (.bl (g i.cps.toList j.cps.toList)) H
theorem o2_cmp {f:Int→Int→Bool} {g:Tx→Tx→Bool}:Op2 (rCmp f g) (pCmp f g):=by
 intro c σ δ H x y d e s Q k rx ry hp q
 cases d <;> cases e <;> first
  | (simp [pCmp] at hp; done)
  | skip
 ·rename_i i j
  simp only [pCmp,Option.some.injEq] at hp
  subst hp
  exact .inl ⟨i,j,rx.int,ry.int,q _ H (.refl k) (.bl _)⟩
 ·rename_i i j
  simp only [pCmp,Option.some.injEq] at hp
  subst hp
  refine .inr ⟨toS i,toS j,rx.str,ry.str,?_⟩
  rw [toS_cps,toS_cps]
  exact q _ H (.refl k) (.bl _)
theorem op_strc {X:Cx} {op:CmpOp} {g:List Nat→List Nat→Bool} (rule:∀ (i j:Str) (t u:Tok) (Q:Value→Shared→Prop) (s:Shared),Q (.bool (g i.cps.toList j.cps.toList)) s→wpAny (model X.prog X.w) X.A (compareOp op (.str i t) (.str j u)) Q X.xe s) :
  OpR X (compareOp op) (fun x y H Q=>∃ i j,x = .str i∧y = .str j∧Q (.bl (g i.cps.toList j.cps.toList)) H):=by
 intro pins s σ H x y v u Q I rx ry h
 obtain ⟨i,j,rfl,rfl,q⟩:=h
 obtain ⟨t,rfl⟩:=rx
 obtain ⟨t',rfl⟩:=ry
 exact rule i j t t' _ s ⟨.bl _,H,I,rfl,q⟩
def pLt:=pCmp (fun i j=>decide (i < j)) fun x y=>decide (x < y)
theorem op_ltD {X:Cx}:OpR X (compareOp .Lt) (rCmp (fun i j=>decide (i < j)) fun x y=>decide (x < y)):=op_lt.or op_lt_str
theorem o2_lt:Op2 (rCmp (fun i j=>decide (i < j)) fun x y=>decide (x < y)) pLt:=o2_cmp
def pIx:D→D→Option S
 | .lst ds,.int i=>(atI ds i).map .pure
 | .tup ds,.int i=>(atI ds i).map .pure
 | .str x,.int i=>if x.length≤sizeLine then (atI x i).map fun n=>.pure (.str [n]) else none
 | _,_=>none
theorem reps_atI {H:Hp} {O:Addr→Prop} {vs:List V} {ds:List D} {i:Int} {d:D} (r:Reps H O vs ds) (h:atI ds i=some d):∃ v,atI vs i=some v∧Rep H O v d:=by
 unfold atI at h ⊢
 rw [r.1]
 cases e:ixN ds.length i with
 | none=>rw [e] at h; cases h
 | some j =>
  rw [e] at h
  exact r.get h
theorem o2_ix {K:PySem.W.Frag}:Op2 (rIx K) pIx:=by
 intro c σ δ H x y d e s Q k rx ry hp q
 cases d <;> cases e <;> first
  | (simp [pIx] at hp; done)
  | skip
 ·rename_i z i
  simp only [pIx] at hp
  split at hp
  ·rename_i hz
   cases e1:atI z i with
   | none=>rw [e1] at hp; cases hp
   | some n =>
    rw [e1] at hp
    simp only [Option.map_some,Option.some.injEq] at hp
    subst hp
    refine .inr (.inr ⟨toS z,i,n,rx.str,ry.int,str_len_ok hz,by rw [toS_cps]; exact e1,?_⟩)
    exact q (.str (toS [n])) H (.refl k) (.str [n])
  ·cases hp
 ·rename_i ds i
  simp only [pIx] at hp
  cases e1:atI ds i with
  | none=>rw [e1] at hp; cases hp
  | some n =>
   rw [e1] at hp
   simp only [Option.map_some,Option.some.injEq] at hp
   subst hp
   obtain ⟨a,vs,ea,ha,ra⟩:=rx.tup
   obtain ⟨v,e2,r2⟩:=reps_atI ra e1
   exact .inr (.inl ⟨a,vs,i,v,ea,ry.int,.of ha,e2,q v H (.refl k) r2⟩)
 ·rename_i ds i
  simp only [pIx] at hp
  cases e1:atI ds i with
  | none=>rw [e1] at hp; cases hp
  | some n =>
   rw [e1] at hp
   simp only [Option.map_some,Option.some.injEq] at hp
   subst hp
   obtain ⟨a,vs,ea,ha,ra⟩:=rx.lst
   obtain ⟨v,e2,r2⟩:=reps_atI ra e1
   exact .inl ⟨a,vs,i,v,ea,ry.int,.inl ha,e2,q v H (.refl k) r2⟩
open PySem PySem.Spec PyProof.Rows L2
def pLe:=pCmp (fun i j=>decide (i≤j)) fun x y=>!decide (y < x)
def pGt:=pCmp (fun i j=>decide (j < i)) fun x y=>decide (y < x)
def pGe:=pCmp (fun i j=>decide (j≤i)) fun x y=>!decide (x < y)
theorem op_leD {X:Cx}:OpR X (compareOp .LtE) (rCmp (fun i j=>decide (i≤j)) fun x y=>!decide (y < x)):=op_le.or (op_strc (g:=fun x y=>!decide (y < x)) fun _ _ _ _ _ _ h=>PySem.P.le_str h)
theorem op_gtD {X:Cx}:OpR X (compareOp .Gt) (rCmp (fun i j=>decide (j < i)) fun x y=>decide (y < x)):=op_gt.or (op_strc (g:=fun x y=>decide (y < x)) fun _ _ _ _ _ _ h=>PySem.P.gt_str h)
theorem op_geD {X:Cx}:OpR X (compareOp .GtE) (rCmp (fun i j=>decide (j≤i)) fun x y=>!decide (x < y)):=op_ge.or (op_strc (g:=fun x y=>!decide (x < y)) fun _ _ _ _ _ _ h=>PySem.P.ge_str h)
abbrev DA:=Dl→Rs (List D)
def tAD (c:Fc) (f:DA):TA:=fun σ H Q=>∃ δ,Ok c σ δ H∧post c (f δ) fun ds δ'=>∀ vs H',Aft c σ δ H σ δ' H'→Reps H' (Av c σ δ') vs ds→Q vs H'
structure SA (X:Cx) (c:Fc) (es:List Expr) (f:DA):Prop where
 pa:PA X es (tAD c f)
 len:∀ δ ds δ',f δ = .ok ds δ'→ds.length=es.length
theorem PA.weak {X:Cx} {es:List Expr} {t t':TA} (h:PA X es t) (w:∀ σ H Q,t' σ H Q→t σ H Q):PA X es t':=fun pos pins s σ H Q I q=>h pos pins s σ H Q I (w σ H Q q)
def aNil:DA:=fun δ=>.ok [] δ
def aCons (f:DE) (g:DA):DA:=fun δ=>(f δ).bind fun x δ1=>(g δ1).bind fun xs δ2=>.ok (x.d :: xs) δ2
section
variable {X:Cx} {c:Fc} {e:Expr} {es:List Expr} {f:DE} {g:DA} {pos:Pos}
theorem sa_nil:SA X c [] aNil:=⟨PA.weak pa_nil fun σ H Q ⟨δ,k,q⟩=>q [] H (.refl k) .nil,fun δ ds δ' h=>by cases h; rfl⟩
theorem sa_cons (ha:SE X c e f) (hr:SA X c es g) (hs:starEach (e :: es) X.env=(false,eval e X.env) :: starEach es X.env:=by rfl):SA X c (e :: es) (aCons f g):=by
 refine ⟨PA.weak (pa_cons ha hr.pa hs) fun σ H Q ⟨δ,k,q⟩=>?_,fun δ ds δ' h=>?_⟩
 ·unfold aCons at q
  rw [post_bind] at q
  refine ⟨δ,k,post_mono q fun x δ1 q1 v H1 a1 r1=>⟨δ1,a1.ok,?_⟩⟩
  rw [post_bind] at q1
  exact post_mono q1 fun xs δ2 q2 vs H2 a2 r2=>q2 (v :: vs) H2 (a1.trans a2) (.cons (Rep.aft r1.rep a2) r2)
 ·unfold aCons at h
  cases h1:f δ with
  | ok x δ1 =>
   rw [h1] at h
   cases h2:g δ1 with
   | ok xs δ2 =>
    simp only [Rs.bind,h2] at h
    cases h
    simp [hr.len _ _ _ h2]
   | exc x δx=>simp only [Rs.bind,h2] at h; cases h
   | stuck=>simp only [Rs.bind,h2] at h; cases h
  | exc x δx=>rw [h1] at h; cases h
  | stuck=>rw [h1] at h; cases h
def eTup (f:DA):DE:=fun δ=>(f δ).bind fun ds δ'=>.ok (.pure (.tup ds)) δ'
def eLst (f:DA):DE:=fun δ=>(f δ).bind fun ds δ'=>.ok (.own (.lst ds)) δ'
theorem small_line {n:Nat} (h:n≤1000):n≤sizeLine:=Nat.le_of_lt (small1000 h)
theorem post_keep {α:Type} {c:Fc} {r:Rs α} {k:α→Dl→Prop} (h:post c r k):post c r fun a δ=>r = .ok a δ∧k a δ:=by
 cases r with
 | ok a δ=>exact ⟨rfl,h⟩
 | exc x δx=>exact h
 | stuck=>exact h
theorem se_tup {x1} (h:SA X c es g) (hz:es.length≤1000:=by decide):SE X c (.Tuple es x1 pos) (eTup g):=PE.weak (pe_tup h.pa) fun σ H Q ⟨δ,k,q⟩=>by
 unfold eTup at q
 rw [post_bind] at q
 refine ⟨δ,k,post_mono (post_keep q) fun ds δ1 ⟨e1,q1⟩ vs H1 a1 r1=>?_⟩
 have hl:=h.len _ _ _ e1
 exact ⟨by rw [r1.1,hl]; exact small_line hz,fun p hp=>q1 _ _ (a1.trans (.alloc a1.ok hp _)) (RepS.back (RepS.newT a1.ok r1 hp) a1)⟩
theorem se_lst (h:SA X c es g) (hz:es.length≤1000:=by decide):SE X c (.List es pos) (eLst g):=PE.weak (pe_lst h.pa) fun σ H Q ⟨δ,k,q⟩=>by
 unfold eLst at q
 rw [post_bind] at q
 refine ⟨δ,k,post_mono (post_keep q) fun ds δ1 ⟨e1,q1⟩ vs H1 a1 r1=>?_⟩
 have hl:=h.len _ _ _ e1
 exact ⟨by rw [r1.1,hl]; exact small_line hz,fun p hp=>q1 _ _ (a1.trans (.alloc a1.ok hp _)) (RepS.back (RepS.newL a1.ok r1 hp) a1)⟩
end
def p1 (p:D→Option S) (x:D) (δ:Dl):Rs S:=match p x with
 | some s=>.ok s δ
 | none=>.stuck
def eC1 (p:D→Option S) (fb:BE):DE:=fun δ=>(fb δ).bind fun x δ1=>p1 p x δ1
def Op1 (r:V→Hp→VK→Prop) (p:D→Option S):Prop:=∀ (c:Fc) (σ:St) (δ:Dl) (H:Hp) (x:V) (d:D) (s:S) (Q:VK),Ok c σ δ H→RepB c σ δ H x d→p d=some s →
 (∀ v H',Aft c σ δ H σ δ H'→RepS c σ δ H H' v s→Q v H')→r x H Q
section
variable {X:Cx} {c:Fc} {e:Expr} {fb:BE} {r:V→Hp→VK→Prop} {p:D→Option S} {x:Str} {id T:String} {pp pos:Pos}
theorem p1_post {σ:St} {δ:Dl} {H:Hp} {v:V} {d:D} {Q:VK} (hp:Op1 r p) (k:Ok c σ δ H) (rx:RepB c σ δ H v d)
  (h:post c (p1 p d δ) fun s δ'=>∀ v H',Aft c σ δ H σ δ' H'→RepS c σ δ' H H' v s→Q v H'):r v H Q:=by
 unfold p1 at h
 cases e1:p d with
 | none=>rw [e1] at h; exact h.elim
 | some s=>rw [e1] at h; exact hp c σ δ H v d s Q k rx e1 h
theorem un_weak (hp:Op1 r p) {σ:St} {H:Hp} {Q:VK} (h:tD c (eC1 p fb) σ H Q):tUn r (tB c fb) σ H Q:=by
 obtain ⟨δ,k,q⟩:=h
 unfold eC1 at q
 rw [post_bind] at q
 exact ⟨δ,k,post_mono q fun y δ1 q1 v H1 a1 r1=>p1_post hp a1.ok r1 (post_mono q1 fun s δ2 q2 w H2 a2 r2=>q2 w H2 (a1.trans a2) (RepS.back r2 a1))⟩
theorem se_call1 {rl:List V→Hp→VK→Prop} (hc:CallR X (.builtin id) rl) (hl:∀ v H Q,r v H Q→rl [v] H Q) (hp:Op1 r p) (hg:Gl X x) (hm:X.mg x=none) (hv:bootBuiltins x=some (.builtin id)) (he:SB X c e fb)
  (hn:x≠"__name__":=by decide) (hdb:(x == ("__debug__" : Str))=false:=by decide) (hs:starEach [e] X.env=(false,eval e X.env) :: starEach [] X.env:=by rfl) (hpl:(backTo pos (starEach [] X.env)).any (·.1)=false:=by rfl) :
  SE X c (.Call (.Name x pp) [e] [] pos) (eC1 p fb):=PE.weak (pe_callB hc hg hm hv (pa_cons he pa_nil hs) hn hdb hs hpl) fun σ H Q h=>by
 obtain ⟨δ,k,q⟩:=un_weak hp h
 exact ⟨δ,k,post_mono q fun y δ1 q1 v H1 a1 r1=>hl _ _ _ (q1 v H1 a1 r1)⟩
theorem se_call1T {rl:List V→Hp→VK→Prop} (hc:CallR X (.type T) rl) (hl:∀ v H Q,r v H Q→rl [v] H Q) (hp:Op1 r p) (hg:Gl X x) (hm:X.mg x=none) (hv:bootBuiltins x=some (.type T)) (he:SB X c e fb)
  (hn:x≠"__name__":=by decide) (hdb:(x == ("__debug__" : Str))=false:=by decide) (hs:starEach [e] X.env=(false,eval e X.env) :: starEach [] X.env:=by rfl) (hpl:(backTo pos (starEach [] X.env)).any (·.1)=false:=by rfl) :
  SE X c (.Call (.Name x pp) [e] [] pos) (eC1 p fb):=PE.weak (pe_callTy hc hg hm hv (pa_cons he pa_nil hs) hn hdb hs hpl) fun σ H Q h=>by
 obtain ⟨δ,k,q⟩:=un_weak hp h
 exact ⟨δ,k,post_mono q fun y δ1 q1 v H1 a1 r1=>hl _ _ _ (q1 v H1 a1 r1)⟩
def pLen:D→Option S
 | .lst ds=>some (.pure (.int ds.length))
 | .tup ds=>some (.pure (.int ds.length))
 | .str z=>if z.length≤sizeLine then some (.pure (.int z.length)) else none
 | .dct ds=>some (.pure (.int ds.length))
 | _=>none
def rLen (K:PySem.W.Frag):V→Hp→VK→Prop:=fun v H Q=>((∃ p ys,v = .ref p∧(SqL K H p ys∨SqT K H p ys)∧Q (.int ys.length) H)∨∃ z,v = .str z∧z.length≤sizeLine∧Q (.int z.length) H)∨∃ a kvs,v=V.ref a∧H a=some (.dK kvs)∧Q (.int kvs.length) H
theorem o1_len {K:PySem.W.Frag}:Op1 (rLen K) pLen:=by
 intro c σ δ H x d s Q k rx hp q
 cases d with
 | lst ds =>
  simp only [pLen,Option.some.injEq] at hp
  subst hp
  obtain ⟨a,vs,ea,ha,ra⟩:=rx.lst
  exact .inl (.inl ⟨a,vs,ea,.inl (.inl ha),by rw [ra.1]; exact q _ H (.refl k) (.int _)⟩)
 | tup ds =>
  simp only [pLen,Option.some.injEq] at hp
  subst hp
  obtain ⟨a,vs,ea,ha,ra⟩:=rx.tup
  exact .inl (.inl ⟨a,vs,ea,.inr (.of ha),by rw [ra.1]; exact q _ H (.refl k) (.int _)⟩)
 | str z =>
  simp only [pLen] at hp
  split at hp
  ·rename_i hz
   simp only [Option.some.injEq] at hp
   subst hp
   exact .inl (.inr ⟨toS z,rx.str,str_len_ok hz,by rw [toS_len]; exact q _ H (.refl k) (.int _)⟩)
  ·cases hp
 | dct ds =>
  simp only [pLen,Option.some.injEq] at hp
  subst hp
  obtain ⟨a,ws,ea,ha,h1,h2⟩:=rx.dct
  have hl:ws.length=ds.length:=by have:=congrArg List.length h1; simpa using this
  exact .inr ⟨a,ws,ea,ha,by rw [hl]; exact q _ H (.refl k) (.int _)⟩
 | _=>simp [pLen] at hp
theorem se_len (hg:Gl X "len") (hm:X.mg "len" = none) (he:SB X c e fb) (hs:starEach [e] X.env=(false,eval e X.env) :: starEach [] X.env:=by rfl):SE X c (.Call (.Name "len" pp) [e] [] pos) (eC1 pLen fb) :=
 se_call1 ((call_len_seq.or call_len_str).or call_lenD) (fun v H Q h=>by
  rcases h with (⟨p,ys,e,h⟩ | ⟨z,e,h⟩) | ⟨a,kvs,e,h⟩
  ·exact .inl (.inl ⟨p,ys,by rw [e],h⟩)
  ·exact .inl (.inr ⟨z,by rw [e],h⟩)
  ·exact .inr ⟨a,kvs,by rw [e],h⟩) (o1_len (K:=X.K)) hg hm PySem.boot_len he (by decide) (by decide) hs
def pTuple:D→Option S
 | .lst ds=>some (.pure (.tup ds))
 | .tup ds=>some (.pure (.tup ds))
 | _=>none
def rTuple (K:PySem.W.Frag):V→Hp→VK→Prop:=fun v H Q=>∃ p ys,v = .ref p∧((SqL K H p ys∧∀ l,H l=none→Q (.ref l) (upd H l (.tup ys)))∨(SqT K H p ys∧Q (.ref p) H))
theorem o1_tuple {K:PySem.W.Frag}:Op1 (rTuple K) pTuple:=by
 intro c σ δ H x d s Q k rx hp q
 cases d with
 | lst ds =>
  simp only [pTuple,Option.some.injEq] at hp
  subst hp
  obtain ⟨a,vs,ea,ha,ra⟩:=rx.lst
  exact ⟨a,vs,ea,.inl ⟨.inl ha,fun l hl=>q _ _ (.alloc k hl _) (RepS.newT k ra hl)⟩⟩
 | tup ds =>
  simp only [pTuple,Option.some.injEq] at hp
  subst hp
  obtain ⟨a,vs,ea,ha,ra⟩:=rx.tup
  refine ⟨a,vs,ea,.inr ⟨.of ha,?_⟩⟩
  rw [ea] at rx
  rcases rx with rx | ⟨_,_,rx⟩
  ·exact q _ H (.refl k) rx
  ·exact rx.elim
 | _=>simp [pTuple] at hp
theorem se_tuple (hg:Gl X "tuple") (hm:X.mg "tuple" = none) (he:SB X c e fb) (hs:starEach [e] X.env=(false,eval e X.env) :: starEach [] X.env:=by rfl):SE X c (.Call (.Name "tuple" pp) [e] [] pos) (eC1 pTuple fb) :=
 se_call1T call_tuple_of (fun v H Q ⟨p,ys,e,h⟩=>⟨p,ys,by rw [e],h⟩) (o1_tuple (K:=X.K)) hg hm PyProof.Rows.boot_tuple he (by decide) (by decide) hs
def pInt:D→Option S
 | .int i=>some (.pure (.int i))
 | .bl b=>some (.pure (.int (if b then 1 else 0)))
 | _=>none
theorem se_intc (hg:Gl X "int") (hm:X.mg "int" = none) (he:SB X c e fb) (hs:starEach [e] X.env=(false,eval e X.env) :: starEach [] X.env:=by rfl):SE X c (.Call (.Name "int" pp) [e] [] pos) (eC1 pInt fb) :=
 se_call1T (r:=fun v H Q=>(∃ i,v = .int i∧Q (.int i) H)∨∃ k,v = .bl k∧Q (.int (if k then 1 else 0)) H) call_int1 (fun v H Q h=>by
  rcases h with ⟨i,e,q⟩ | ⟨k,e,q⟩
  ·exact .inl ⟨i,by rw [e],q⟩
  ·exact .inr ⟨k,by rw [e],q⟩) (fun c σ δ H x d s Q k rx hp q=>by
  cases d with
  | int i =>
   simp only [pInt,Option.some.injEq] at hp
   subst hp
   exact .inl ⟨i,rx.int,q _ H (.refl k) (.int _)⟩
  | bl b =>
   simp only [pInt,Option.some.injEq] at hp
   subst hp
   exact .inr ⟨b,rx.bl,q _ H (.refl k) (.int _)⟩
  | _=>simp [pInt] at hp) hg hm PyProof.Rows.boot_int he (by decide) (by decide) hs
def bools:List D→Option (List Bool)
 | []=>some []
 | .bl b :: r=>(bools r).map (b :: ·)
 | _ :: _=>none
def texts:List D→Option (List Tx)
 | []=>some []
 | .str x :: r=>(texts r).map (x :: ·)
 | _ :: _=>none
theorem reps_bools {H:Hp} {O:Addr→Prop}:∀ {ds:List D} {vs:List V} {bs:List Bool},bools ds=some bs→Reps H O vs ds→vs=bs.map V.bl
 | [],vs,bs,h,r=>by
  simp only [bools,Option.some.injEq] at h
  subst h
  have:=r.1
  simpa using this
 | d :: ds,[],bs,h,r=>by have:=r.1; simp at this
 | d :: ds,v :: vs,bs,h,r=>by
  cases d with
  | bl b =>
   simp only [bools] at h
   cases e:bools ds with
   | none=>rw [e] at h; cases h
   | some bs' =>
    rw [e] at h
    simp only [Option.map_some,Option.some.injEq] at h
    subst h
    have:=r.head
    cases this
    rw [reps_bools e r.tail]
    rfl
  | _=>simp [bools] at h
theorem reps_texts {H:Hp} {O:Addr→Prop}:∀ {ds:List D} {vs:List V} {bs:List Tx},texts ds=some bs→Reps H O vs ds→vs=bs.map fun z=>V.str (toS z)
 | [],vs,bs,h,r=>by
  simp only [texts,Option.some.injEq] at h
  subst h
  have:=r.1
  simpa using this
 | d :: ds,[],bs,h,r=>by have:=r.1; simp at this
 | d :: ds,v :: vs,bs,h,r=>by
  cases d with
  | str b =>
   simp only [texts] at h
   cases e:texts ds with
   | none=>rw [e] at h; cases h
   | some bs' =>
    rw [e] at h
    simp only [Option.map_some,Option.some.injEq] at h
    subst h
    have:=r.head
    cases this
    rw [reps_texts e r.tail]
    rfl
  | _=>simp [texts] at h
def pAll:D→Option S
 | .lst ds=>(bools ds).map fun bs=>.pure (.bl (bs.all (fun b=>b)))
 | _=>none
theorem boot_all:bootBuiltins "all" = some (.builtin "all"):=by decide +kernel
theorem se_all (hc:X.calm=true) (hg:Gl X "all") (hm:X.mg "all" = none) (he:SB X c e fb) (hs:starEach [e] X.env=(false,eval e X.env) :: starEach [] X.env:=by rfl):SE X c (.Call (.Name "all" pp) [e] [] pos) (eC1 pAll fb) :=
 se_call1 (r:=fun v H Q=>∃ (a:Addr) (bs:List Bool),v = .ref a∧SqL X.K H a (bs.map V.bl)∧Q (.bl (bs.all (fun b=>b))) H) (call_all hc) (fun v H Q ⟨a,bs,e,h⟩=>⟨a,bs,by rw [e],h⟩) (fun c σ δ H x d s Q k rx hp q=>by
  cases d with
  | lst ds =>
   simp only [pAll] at hp
   cases e:bools ds with
   | none=>rw [e] at hp; cases hp
   | some bs =>
    rw [e] at hp
    simp only [Option.map_some,Option.some.injEq] at hp
    subst hp
    obtain ⟨a,vs,ea,ha,ra⟩:=rx.lst
    have:=reps_bools e ra
    subst this
    exact ⟨a,bs,ea,.inl ha,q _ H (.refl k) (.bl _)⟩
  | _=>simp [pAll] at hp) hg hm boot_all he (by decide) (by decide) hs
def pMax:D→D→Option S
 | .int i,.int j=>some (.pure (.int (if j > i then j else i)))
 | _,_=>none
def eMax (f g:DE):DE:=fun δ=>(f δ).bind fun x δ1=>(g δ1).bind fun y δ2=>p2 pMax x.d y.d δ2
theorem se_max {a b:Expr} {f g:DE} (hc:X.calm=true) (hg:Gl X "max") (hm:X.mg "max" = none) (ha:SE X c a f) (hb:SE X c b g) (hs:starEach [a,b] X.env=(false,eval a X.env) :: starEach [b] X.env:=by rfl)
  (hs2:starEach [b] X.env=(false,eval b X.env) :: starEach [] X.env:=by rfl) (hpl:(backTo pos (starEach [b] X.env)).any (·.1)=false:=by rfl):SE X c (.Call (.Name "max" pp) [a,b] [] pos) (eMax f g) :=
 PE.weak (pe_callB (call_max2 hc) hg hm PyProof.Rows.boot_max (pa_cons ha (pa_cons hb pa_nil hs2) hs) (by decide) (by decide) hs hpl) fun σ H Q ⟨δ,k,q⟩=>by
  unfold eMax at q
  rw [post_bind] at q
  refine ⟨δ,k,post_mono q fun x δ1 q1 v H1 a1 r1=>⟨δ1,a1.ok,?_⟩⟩
  rw [post_bind] at q1
  refine post_mono q1 fun y δ2 q2 u H2 a2 r2=>?_
  unfold p2 at q2
  have hx:RepB c σ δ2 H2 v x.d:=.inl (Rep.aft r1.rep a2)
  have hy:=r2.b
  generalize x.d=dx at q2 hx
  generalize y.d=dy at q2 hy
  cases dx <;> cases dy <;> first
   | exact q2.elim
   | skip
  rename_i i j
  exact ⟨i,j,by rw [hx.int,hy.int],q2 _ H2 (a1.trans a2) (.int _)⟩
def isTy (T:String):D→Option Bool
 | .non=>some (T == "NoneType")
 | .bl _=>some (T == "bool" || T == "int")
 | .int _=>some (T == "int")
 | .str _=>some (T == "str")
 | .tup _=>some (T == "tuple")
 | .lst _=>some (T == "list")
 | .dct _=>some (T == "dict")
 | .exc _=>none
structure TyK (K:PySem.W.Frag) (T:String):Prop where
 non:PySem.W.kitOne K (.type "NoneType") (.type T)=some (T == "NoneType")
 bl:PySem.W.kitOne K (.type "bool") (.type T)=some (T == "bool" || T == "int")
 int:PySem.W.kitOne K (.type "int") (.type T)=some (T == "int")
 str:PySem.W.kitOne K (.type "str") (.type T)=some (T == "str")
 tup:PySem.W.kitOne K (.type "tuple") (.type T)=some (T == "tuple")
 lst:PySem.W.kitOne K (.type "list") (.type T)=some (T == "list")
 dct:PySem.W.kitOne K (.type "dict") (.type T)=some (T == "dict")
def eIsi (T:String) (fb:BE):DE:=fun δ=>(fb δ).bind fun d δ'=>match isTy T d with
 | some b=>.ok (.pure (.bl b)) δ'
 | none=>.stuck
theorem isi_call {v:V} {u:Value} {d:D} {b:Bool} {σ:St} {H:Hp} {pins:List (Addr×Obj)} {s:Shared} {Q:VK} (ty:TyK X.K T) (I:Inv X pins σ H s) (ru:RelV v u) (r:Rep H NoO v d) (e:isTy T d=some b) (q:Q (.bl b) H) :
  wpAny (model X.prog X.w) X.A (call (.builtin "isinstance") [u,.type T]) (EP X pins σ Q) X.xe s:=by
 have fin:∀ tk,EP X pins σ Q (.bool b) { s with toks:=tk }:=fun tk=>⟨.bl b,H,I.tok tk,rfl,q⟩
 cases r with
 | non=>exact isinst_ok I ru .non (ty.non.trans e) fin
 | bl x=>exact isinst_ok I ru (.bl x) (ty.bl.trans e) fin
 | int x=>exact isinst_ok I ru (.int x) (ty.int.trans e) fin
 | str x=>exact isinst_ok I ru (.str _) (ty.str.trans e) fin
 | tup _ h2 _ _=>exact isinst_ok I ru (.tup h2) (ty.tup.trans e) fin
 | lst _ h2 _ _ =>
  rcases h2 with h2 | ⟨o,h2⟩
  ·exact isinst_ok I ru (.lst h2) (ty.lst.trans e) fin
  ·exact isinst_ok I ru (.frz h2) (ty.lst.trans e) fin
 | dct _ h2 _ _=>exact isinst_ok I ru (.dK h2) (ty.dct.trans e) fin
 | exc _ _=>cases e
theorem call_isi (ty:TyK X.K T):CallR X (.builtin "isinstance") (fun xs H Q=>∃ v d b,xs=[v,.ty T]∧Rep H NoO v d∧isTy T d=some b∧Q (.bl b) H):=by
 intro pins s σ H xs us Q I r h
 obtain ⟨v,d,b,rfl,rp,e,q⟩:=h
 obtain ⟨u,w',rfl,r1,r2⟩:=vals2 r
 cases r2
 exact isi_call ty I r1 rp e q
theorem se_isi {y:Str} {py:Pos} (ty:TyK X.K T) (hg:Gl X "isinstance") (hm:X.mg "isinstance" = none) (hgy:Gl X y) (hmy:X.mg y=none) (hvy:bootBuiltins y=some (.type T)) (he:SB X c e fb)
  (hny:y≠"__name__":=by decide) (hdy:(y == ("__debug__" : Str))=false:=by decide)
  (hs:starEach [e,.Name y py] X.env=(false,eval e X.env) :: starEach [.Name y py] X.env:=by rfl) (hpl:(backTo pos (starEach [.Name y py] X.env)).any (·.1)=false:=by rfl) :
  SE X c (.Call (.Name "isinstance" pp) [e,.Name y py] [] pos) (eIsi T fb) :=
 PE.weak (pe_callB (call_isi ty) hg hm PyProof.Rows.boot_isinstance (pa_cons he (pa_cons (pe_bltn (v:=.ty T) hgy hmy hvy rfl hny hdy) pa_nil) hs) (by decide) (by decide) hs hpl) fun σ H Q ⟨δ,k,q⟩=>by
  unfold eIsi at q
  rw [post_bind] at q
  refine ⟨δ,k,post_mono q fun d δ1 q1 v H1 a1 r1=>?_⟩
  cases e1:isTy T d with
  | none=>rw [e1] at q1; exact q1.elim
  | some b =>
   rw [e1] at q1
   exact ⟨v,d,b,rfl,r1.un,e1,q1 _ H1 a1 (.bl _)⟩
end
open PySem PySem.Spec PyProof.Rows L2
abbrev DOp:=Dl→Rs (Option Int)
def tOD (c:Fc) (f:DOp):TO:=fun σ H Q=>∃ δ,Ok c σ δ H∧post c (f δ) fun o δ'=>∀ H',Aft c σ δ H σ δ' H'→Q o H'
abbrev SO (X:Cx) (c:Fc) (e:Option Expr) (f:DOp):Prop:=PO X e (tOD c f)
theorem PO.weak {X:Cx} {e:Option Expr} {t t':TO} (h:PO X e t) (w:∀ σ H Q,t' σ H Q→t σ H Q):PO X e t':=fun pins s σ H Q I q=>h pins s σ H Q I (w σ H Q q)
def oNone:DOp:=fun δ=>.ok none δ
def oSome (f:DE):DOp:=fun δ=>(f δ).bind fun r δ'=>match r with
 | .pure (.int i)=>.ok (some i) δ'
 | _=>.stuck
section
variable {X:Cx} {c:Fc} {e:Expr} {f:DE} {fb:BE} {fl fh:DOp} {lo hi:Option Expr} {pos p2:Pos}
theorem so_none:SO X c none oNone:=PO.weak po_none fun σ H Q ⟨δ,k,q⟩=>q H (.refl k)
theorem so_some (h:SE X c e f):SO X c (some e) (oSome f):=PO.weak (po_some h) fun σ H Q ⟨δ,k,q⟩=>by
 unfold oSome at q
 rw [post_bind] at q
 refine ⟨δ,k,post_mono q fun r δ1 q1 v H1 a1 r1=>?_⟩
 cases r with
 | own d=>exact q1.elim
 | pure d =>
  cases d <;> first | exact q1.elim | skip
  rename_i i
  cases r1
  exact ⟨i,rfl,q1 H1 a1⟩
def pSl (lo hi:Option Int):D→Option S
 | .str x=>if x.length≤sizeLine then some (.pure (.str (cutL x lo hi))) else none
 | .tup ds=>some (.pure (.tup (cutL ds lo hi)))
 | .lst ds=>some (.own (.lst (cutL ds lo hi)))
 | _=>none
def rSlD (K:PySem.W.Frag):V→Option Int→Option Int→Hp→VK→Prop:=fun x lo hi H Q=>rSlS x lo hi H Q∨rSlT2 K x lo hi H Q∨rSlL K x lo hi H Q
theorem sl_D:SlR X (rSlD X.K):=sl_str.or (sl_tup2.or sl_list)
theorem o1_sl {K:PySem.W.Frag} (lo hi:Option Int):Op1 (fun x H Q=>rSlD K x lo hi H Q) (pSl lo hi):=by
 intro c σ δ H x d s Q k rx hp q
 cases d with
 | str z =>
  simp only [pSl] at hp
  split at hp
  ·rename_i hz
   simp only [Option.some.injEq] at hp
   subst hp
   exact .inl ⟨z,rx.str,hz,q _ H (.refl k) (.str _)⟩
  ·cases hp
 | tup ds =>
  simp only [pSl,Option.some.injEq] at hp
  subst hp
  obtain ⟨a,vs,ea,ha,ra⟩:=rx.tup
  refine .inr (.inl ⟨a,vs,ea,.of ha,fun hw=>?_,fun _ p hp=>?_⟩)
  ·rw [ra.1] at hw
   rw [cut_whole hw] at q
   rw [ea] at rx
   rcases rx with rx | ⟨_,_,rx⟩
   ·exact q _ H (.refl k) rx
   ·exact rx.elim
  ·rw [← cutL_V]
   exact q _ _ (.alloc k hp _) (RepS.newT k (ra.cut lo hi) hp)
 | lst ds =>
  simp only [pSl,Option.some.injEq] at hp
  subst hp
  obtain ⟨a,vs,ea,ha,ra⟩:=rx.lst
  refine .inr (.inr ⟨a,vs,ea,.inl ha,fun p hp=>?_⟩)
  rw [← cutL_V]
  exact q _ _ (.alloc k hp _) (RepS.newL k (ra.cut lo hi) hp)
 | _=>simp [pSl] at hp
def eSl (f:DE) (fl fh:DOp):DE:=fun δ=>(f δ).bind fun x δ1=>(fl δ1).bind fun l δ2=>(fh δ2).bind fun h δ3=>p1 (pSl l h) x.d δ3
theorem se_sl (he:SE X c e f) (hl:SO X c lo fl) (hh:SO X c hi fh):SE X c (.Subscript e (.Slice lo hi none p2) pos) (eSl f fl fh):=PE.weak (pe_slice sl_D he hl hh) fun σ H Q ⟨δ,k,q⟩=>by
 unfold eSl at q
 rw [post_bind] at q
 refine ⟨δ,k,post_mono q fun x δ1 q1 v H1 a1 r1=>⟨δ1,a1.ok,?_⟩⟩
 rw [post_bind] at q1
 refine post_mono q1 fun l δ2 q2 H2 a2=>⟨δ2,a2.ok,?_⟩
 rw [post_bind] at q2
 refine post_mono q2 fun h δ3 q3 H3 a3=>?_
 exact p1_post (o1_sl l h) a3.ok (.inl (Rep.aft r1.rep (a2.trans a3))) (post_mono q3 fun s δ4 q4 w H4 a4 r4=>q4 w H4 (a1.trans (a2.trans (a3.trans a4))) (RepS.back r4 (a1.trans (a2.trans a3))))
def eSlN (i:Nat) (fl fh:DOp):DE:=fun δ=>match δ[i]? with
 | some (some _)=>(fl δ).bind fun l δ2=>(fh δ2).bind fun h δ3=>(bVar i δ3).bind fun x δ4=>p1 (pSl l h) x δ4
 | _=>.stuck
theorem slot_rb {i:Nat} {σ:St} {δ:Dl} {H:Hp} {v:V} {w:S} (k:Ok c σ δ H) (e:δ[i]? = some (some w)) (ev:σ[i]? = some (some v)):RepB c σ δ H v w.d:=by
 cases w with
 | pure d =>
  obtain ⟨v',e1,r⟩:=k.slot i d e
  rw [ev] at e1; cases e1
  exact .inl r
 | own d =>
  obtain ⟨a,e1,r,_⟩:=k.own i d e
  rw [ev] at e1; cases e1
  exact .inr ⟨a,rfl,r⟩
theorem bvar_post {α:Type} {i:Nat} {δ:Dl} {g:D→Dl→Rs α} {kk:α→Dl→Prop} (h:post c ((bVar i δ).bind g) kk):∃ w,δ[i]? = some (some w)∧post c (g w.d δ) kk:=by
 unfold bVar at h
 cases e:δ[i]? with
 | none=>rw [e] at h; exact h.elim
 | some o =>
  cases o with
  | none=>rw [e] at h; exact h.elim
  | some w=>rw [e] at h; exact ⟨w,rfl,h⟩
theorem se_slN {i:Nat} (he:PE X e (tVar i)) (hl:SO X c lo fl) (hh:SO X c hi fh):SE X c (.Subscript e (.Slice lo hi none p2) pos) (eSlN i fl fh):=PE.weak (pe_slice sl_D he hl hh) fun σ H Q ⟨δ,k,q⟩=>by
 unfold eSlN at q
 cases e:δ[i]? with
 | none=>rw [e] at q; exact q.elim
 | some o =>
  cases o with
  | none=>rw [e] at q; exact q.elim
  | some w =>
   rw [e] at q
   obtain ⟨v,ev⟩:=slot_there k e
   have q':post c ((fl δ).bind fun l δ2=>(fh δ2).bind fun h δ3=>(bVar i δ3).bind fun x δ4=>p1 (pSl l h) x δ4) fun r δ'=>∀ v H',Aft c σ δ H σ δ' H'→RepS c σ δ' H H' v r→Q v H':=q
   rw [post_bind] at q'
   refine ⟨v,ev,δ,k,post_mono q' fun l δ2 q2 H2 a2=>⟨δ2,a2.ok,?_⟩⟩
   rw [post_bind] at q2
   refine post_mono q2 fun h δ3 q3 H3 a3=>?_
   obtain ⟨w3,e3,q4⟩:=bvar_post q3
   exact p1_post (o1_sl l h) a3.ok (slot_rb a3.ok e3 ev) (post_mono q4 fun s δ4 q4 w H4 a4 r4=>q4 w H4 (a2.trans (a3.trans a4)) (RepS.back r4 (a2.trans a3)))
def pRev:D→Option S
 | .str x=>if x.length≤sizeLine then some (.pure (.str x.reverse)) else none
 | .lst ds=>some (.own (.lst ds.reverse))
 | _=>none
def rRev (K:PySem.W.Frag):V→Hp→VK→Prop:=fun x H Q=>(∃ z:Tx,x = .str (toS z)∧z.length≤sizeLine∧Q (.str (toS z.reverse)) H)∨∃ a xs,x = .ref a∧SqL K H a xs∧∀ p,H p=none→Q (.ref p) (upd H p (.lst xs.reverse))
def joinT (z:Tx):List Tx→Tx
 | []=>[]
 | [x]=>x
 | x :: y :: r=>x ++ z ++ joinT z (y :: r)
theorem glue_acc (z:Tx):∀ (r:List Tx) (acc:Tx),((r.map toS).foldl (fun (acc:Array Nat) p=>acc ++ (toS z).cps ++ p.cps) acc.toArray)=(match r with | []=>acc | x :: r'=>acc ++ z ++ joinT z (x :: r')).toArray
 | [],acc=>rfl
 | x :: r,acc=>by
  rw [List.map_cons,List.foldl_cons]
  have e:acc.toArray ++ (toS z).cps ++ (toS x).cps=(acc ++ z ++ x).toArray:=by simp [toS]
  rw [e,glue_acc z r (acc ++ z ++ x)]
  cases r with
  | nil=>simp [joinT]
  | cons y r'=>simp [joinT]
theorem join_eq (z:Tx) (ts:List Tx):Txt.join (toS z) (ts.map toS)=toS (joinT z ts):=by
 show Builtin.Str.glued _ _=_
 unfold Builtin.Str.glued
 cases ts with
 | nil=>rfl
 | cons x r =>
  rw [List.map_cons]
  show (⟨(List.foldl _ (toS x).cps (r.map toS))⟩:Str)=_
  have:=glue_acc z r x
  have e:(toS x).cps=x.toArray:=rfl
  rw [e,this]
  cases r with
  | nil=>rfl
  | cons y r'=>rfl
def lensum (ts:List Tx):Nat:=(ts.map (·.length)).sum
def pJoin (z:Tx):D→Option S
 | .lst ds=>match texts ds with
  | some ts=>if lensum ts + ts.length * z.length≤16777216 then some (.pure (.str (joinT z ts))) else none
  | none=>none
 | .tup ds=>match texts ds with
  | some ts=>if lensum ts + ts.length * z.length≤16777216 then some (.pure (.str (joinT z ts))) else none
  | none=>none
 | _=>none
theorem o1_join {K:PySem.W.Frag} (z:Tx):Op1 (fun x H Q=>rJoin K (.str (toS z)) [x] H Q) (pJoin z):=by
 intro c σ δ H x d s Q k rx hp q
 have key:∀ (a:Addr) (vs:List V) (ds:List D),x = .ref a→(SqL K H a vs∨SqT K H a vs)→Reps H (Av c σ δ) vs ds→(match texts ds with | some ts=>if lensum ts + ts.length * z.length≤16777216 then some (S.pure (.str (joinT z ts))) else none | none=>none)=some s→rJoin K (.str (toS z)) [x] H Q:=by
  intro a vs ds ea ha ra hp
  cases e:texts ds with
  | none=>rw [e] at hp; cases hp
  | some ts =>
   rw [e] at hp
   simp only at hp
   split at hp
   ·rename_i hz
    simp only [Option.some.injEq] at hp
    subst hp
    have:=reps_texts e ra
    subst this
    refine ⟨toS z,a,ts.map toS,rfl,by rw [ea],?_,?_,?_⟩
    ·rw [List.map_map]; exact ha
    ·rw [List.map_map,List.length_map,toS_len]
     have:((fun x:Str=>x.length) ∘ toS)=fun x:Tx=>x.length:=funext fun x=>toS_len x
     rw [this]
     exact hz
    ·rw [join_eq]
     exact q _ H (.refl k) (.str _)
   ·cases hp
 cases d with
 | lst ds =>
  obtain ⟨a,vs,ea,ha,ra⟩:=rx.lst
  exact key a vs ds ea (.inl (.inl ha)) ra hp
 | tup ds =>
  obtain ⟨a,vs,ea,ha,ra⟩:=rx.tup
  exact key a vs ds ea (.inr (.of ha)) ra hp
 | _=>simp [pJoin] at hp
theorem se_join {x:Str} {j} {p0 apos cpos:Pos} (z:Tx) (he:SB X c e fb) (hx:x=toS z:=by decide +kernel)
  (hbase:attributeBase (.Constant (.str x) j p0) "join" X.env (eval (.Constant (.str x) j p0) X.env)=eval (.Constant (.str x) j p0) X.env:=by rfl)
  (hfew:((backTo cpos (starEach [e] X.env)).all (fun x=>!x.1) && (backToKw cpos (keywordEach [] X.env)).all (fun x=>x.1.isSome)
   && decide ([e].length + ([]:List Keyword).length + (if ([]:List Keyword).isEmpty then 0 else 1) < 30))=true:=by rfl)
  (hline:(apos.endLine == cpos.line)=true:=by rfl) (hs:starEach [e] X.env=(false,eval e X.env) :: starEach [] X.env:=by rfl) :
  SE X c (.Call (.Attribute (.Constant (.str x) j p0) "join" apos) [e] [] cpos) (eC1 (pJoin z) fb):=by
 subst hx
 refine PE.weak (pe_bm PySem.F.plainAttrs_str PySem.F.slot_str_join PySem.F.type_str_join mt_join pe_str (pa_cons he pa_nil hs) hbase hfew hline hs rfl) fun σ H Q h=>?_
 obtain ⟨δ,k,q⟩:=un_weak (r:=fun x H Q=>rJoin X.K (.str (toS z)) [x] H Q) (o1_join z) h
 refine ⟨?_,δ,k,q⟩
 show ("str" : String) = "str"
 rfl
end
open PySem PySem.Spec PyProof.Rows L2
inductive Fl where
 | next | ret (r:S) | brk | cont
abbrev DS:=Dl→Rs Fl
def fin (c:Fc) (D:Ends) (σ:St) (δ:Dl) (H:Hp):Fl→Prop
 | .next=>D.nx σ H
 | .ret r=>∀ v,RepS c σ δ c.H₀ H v r→D.rt v H
 | .brk=>D.bk σ H
 | .cont=>D.ct σ H
def sPost (c:Fc) (D:Ends) (σ:St) (δ:Dl) (H:Hp) (r:Rs Fl):Prop:=post c r fun fl δ'=>∀ σ' H',Aft c σ δ H σ' δ' H'→fin c D σ' δ' H' fl
def tDS (c:Fc) (f:DS):TS:=fun D σ H=>∃ δ,Ok c σ δ H∧sPost c D σ δ H (f δ)
abbrev SS (X:Cx) (c:Fc) (st:Stmt) (f:DS):Prop:=PS X st (tDS c f)
abbrev SSs (X:Cx) (c:Fc) (st:List Stmt) (f:DS):Prop:=PSs X st (tDS c f)
theorem PS.weak {X:Cx} {st:Stmt} {t t':TS} (h:PS X st t) (w:∀ D σ H,t' D σ H→t D σ H):PS X st t':=fun pins s σ H D I q=>h pins s σ H D I (w D σ H q)
theorem PSs.weak {X:Cx} {st:List Stmt} {t t':TS} (h:PSs X st t) (w:∀ D σ H,t' D σ H→t D σ H):PSs X st t':=fun pins s σ H D I q=>h pins s σ H D I (w D σ H q)
def dNext:DS:=fun δ=>.ok .next δ
def dSeq (f g:DS):DS:=fun δ=>(f δ).bind fun fl δ1=>match fl with
 | .next=>g δ1
 | .ret r=>.ok (.ret r) δ1
 | .brk=>.ok .brk δ1
 | .cont=>.ok .cont δ1
def dDrop (f:DE):DS:=fun δ=>(f δ).bind fun _ δ1=>.ok .next δ1
def dRet (f:DE):DS:=fun δ=>(f δ).bind fun r δ1=>.ok (.ret r) δ1
def dIf (t:DT) (f g:DS):DS:=fun δ=>(t δ).bind fun b δ1=>if b then f δ1 else g δ1
def eRetN (np:List Nat) (i:Nat):DE:=fun δ=>match δ[i]? with
 | some (some (.own d))=>if np.contains i then .ok (.pure d) (δ.set i (some (.pure d))) else .ok (.own d) (δ.set i none)
 | some (some (.pure d))=>.ok (.pure d) δ
 | _=>.stuck
section
variable {X:Cx} {c:Fc} {st:Stmt} {sts:List Stmt} {e a:Expr} {f g:DS} {fe:DE} {t:DT} {pos pos':Pos}
theorem ss_nil:SSs X c [] dNext:=PSs.weak pss_nil fun D σ H ⟨δ,k,q⟩=>q σ H (.refl k)
theorem ss_cons (h1:SS X c st f) (h2:SSs X c sts g):SSs X c (st :: sts) (dSeq f g):=PSs.weak (pss_cons h1 h2) fun D σ H ⟨δ,k,q⟩=>by
 unfold dSeq sPost at q
 rw [post_bind] at q
 refine ⟨δ,k,post_mono q fun fl δ1 q1 σ1 H1 a1=>?_⟩
 cases fl with
 | next=>exact ⟨δ1,a1.ok,post_mono q1 fun fl2 δ2 q2 σ2 H2 a2=>q2 σ2 H2 (a1.trans a2)⟩
 | ret r=>exact q1 σ1 H1 a1
 | brk=>exact q1 σ1 H1 a1
 | cont=>exact q1 σ1 H1 a1
theorem ss_one (h1:SS X c st f):SSs X c [st] f:=PSs.weak (pss_one h1) fun D σ H h=>h
theorem ss_ret (he:SE X c e fe):SS X c (.Return (some e) pos) (dRet fe):=PS.weak (ps_ret he) fun D σ H ⟨δ,k,q⟩=>by
 unfold dRet sPost at q
 rw [post_bind] at q
 exact ⟨δ,k,post_mono q fun r δ1 q1 v H1 a1 r1=>q1 σ H1 a1 v r1.home⟩
theorem ss_if {b1 b2:List Stmt} (ht:ST X c e t) (h1:SSs X c b1 f) (h2:SSs X c b2 g):SS X c (.If e b1 b2 pos) (dIf t f g):=PS.weak (ps_if ht h1 h2) fun D σ H ⟨δ,k,q⟩=>by
 unfold dIf sPost at q
 rw [post_bind] at q
 refine ⟨δ,k,post_mono q fun b δ1 q1 H1 a1=>?_⟩
 cases b with
 | true=>exact ⟨δ1,a1.ok,post_mono q1 fun fl δ2 q2 σ2 H2 a2=>q2 σ2 H2 (a1.trans a2)⟩
 | false=>exact ⟨δ1,a1.ok,post_mono q1 fun fl δ2 q2 σ2 H2 a2=>q2 σ2 H2 (a1.trans a2)⟩
theorem Own.of_set {σ:St} {δ:Dl} {i:Nat} {v:V} {r:S} {b:Addr} (h:Own (σ.set i (some v)) (δ.set i (some r)) b):Own σ δ b∨(v = .ref b∧∃ d,r = .own d):=by
 obtain ⟨j,d,e1,e2⟩:=h
 by_cases hj:i=j
 ·subst hj
  right
  rw [List.getElem?_set] at e1 e2
  simp at e1 e2
  obtain ⟨_,h1⟩:=e1
  obtain ⟨_,h2⟩:=e2
  exact ⟨h2,d,h1⟩
 ·rw [List.getElem?_set_ne hj] at e1 e2
  exact .inl ⟨j,d,e1,e2⟩
theorem Ok.set {σ:St} {δ:Dl} {H:Hp} {i:Nat} {v:V} {r:S} {σ₀:St} {δ₀:Dl} {H₁:Hp} (x:Aft c σ₀ δ₀ H₁ σ δ H) (hr:RepS c σ δ H₁ H v r) (hp:∀ p ∈ c.pin,p.1≠i):Aft c σ₀ δ₀ H₁ (σ.set i (some v)) (δ.set i (some r)) H:=by
 have k:=x.ok
 -- all slots avoid the new address,too
 have all:∃ c':Fc,c'.H₀=c.H₀∧c'.pin=c.pin∧Ok c' σ δ H∧(∀ b,Av c (σ.set i (some v)) (δ.set i (some r)) b→Av c' σ δ b):=by
  cases r with
  | pure d =>
   refine ⟨c,rfl,rfl,k,fun b z=>?_⟩
   rcases z with z | z
   ·exact .inl z
   ·rcases z.of_set with z | ⟨_,d',e⟩
    ·exact .inr z
    ·cases e
  | own d =>
   obtain ⟨a,ea,o,n,f,k2,_⟩:=hr
   refine ⟨c.plus a,rfl,rfl,k2,fun b z=>?_⟩
   rcases z with z | z
   ·exact .inl (.inl z)
   ·rcases z.of_set with z | ⟨e,_⟩
    ·exact .inr z
    ·rw [ea] at e; cases e
     exact .inl (.inr rfl)
 obtain ⟨c',eH,eP,k2,sub⟩:=all
 have eI:∀ a,c'.I a ↔ c.I a:=fun a=>by unfold Fc.I; rw [eP]
 have hrep:Rep H (Av c (σ.set i (some v)) (δ.set i (some r))) v r.d∨∃ d,r = .own d:=by
  cases r with
  | pure d =>
   left
   refine Rep.anti hr fun b z=>?_
   rcases z with z | z
   ·exact .inl (.inl z)
   ·rcases z.of_set with z | ⟨_,d',e⟩
    ·exact .inl (.inr z)
    ·cases e
  | own d=>exact .inr ⟨d,rfl⟩
 refine ⟨⟨k.keep,k.bd,k.ith,by rw [List.length_set,List.length_set]; exact k.len,fun j d e=>?_,fun j d e=>?_,fun j l a d d' e1 e2 e3 e4=>?_,fun p hm=>?_⟩,x.keep,fun b z=>?_,x.there⟩
 ·by_cases hj:i=j
  ·subst hj
   rw [List.getElem?_set] at e
   simp at e
   obtain ⟨hi,rfl⟩:=e
   have hi':i < σ.length:=by rw [← k.len]; exact hi
   rcases hrep with h | ⟨_,h⟩
   ·exact ⟨v,by rw [List.getElem?_set_self hi'],h⟩
   ·cases h
  ·rw [List.getElem?_set_ne hj] at e
   obtain ⟨w,e1,q⟩:=k2.slot j d e
   exact ⟨w,by rw [List.getElem?_set_ne hj]; exact e1,q.anti fun b z=>.inl (sub b z)⟩
 ·by_cases hj:i=j
  ·subst hj
   rw [List.getElem?_set] at e
   simp at e
   obtain ⟨hi,rfl⟩:=e
   have hi':i < σ.length:=by rw [← k.len]; exact hi
   obtain ⟨a,ea,o,n,f,k3,_⟩:=hr
   refine ⟨a,by rw [List.getElem?_set_self hi',ea],o.anti fun b z=>.inl ?_,.inr f,n⟩
   rcases z with z | z
   ·exact .inl (.inl z)
   ·rcases z.of_set with z | ⟨e,_⟩
    ·exact .inr z
    ·rw [ea] at e; cases e
     exact .inl (.inr rfl)
  ·rw [List.getElem?_set_ne hj] at e
   obtain ⟨a,e1,q,q2,q3⟩:=k.own j d e
   obtain ⟨a',e1',q',_,_⟩:=k2.own j d e
   rw [e1] at e1'; cases e1'
   exact ⟨a,by rw [List.getElem?_set_ne hj]; exact e1,q'.anti fun b z=>.inl (sub b z),q2,q3⟩
 ·by_cases hj:i=j
  ·subst hj
   by_cases hl:i=l
   ·exact hl
   ·rw [List.getElem?_set_ne hl] at e2 e4
    rw [List.getElem?_set] at e1 e3
    simp at e1 e3
    obtain ⟨_,rfl⟩:=e1
    obtain ⟨_,rfl⟩:=e3
    obtain ⟨a',ea,o,n,f,k3,_⟩:=hr
    cases ea
    exact absurd ⟨l,d',e2,e4⟩ (plus_nown k3)
  ·rw [List.getElem?_set_ne hj] at e1 e3
   by_cases hl:i=l
   ·subst hl
    rw [List.getElem?_set] at e2 e4
    simp at e2 e4
    obtain ⟨_,rfl⟩:=e2
    obtain ⟨_,rfl⟩:=e4
    obtain ⟨a',ea,o,n,f,k3,_⟩:=hr
    cases ea
    exact absurd ⟨j,d,e1,e3⟩ (plus_nown k3)
   ·rw [List.getElem?_set_ne hl] at e2 e4
    exact k.inj j l a d d' e1 e2 e3 e4
 ·rw [List.getElem?_set_ne (Ne.symm (hp p hm))]
  exact k.pinned p hm
 ·rcases z.of_set with z | ⟨e,d,ed⟩
  ·exact x.own b z
  ·subst ed
   obtain ⟨a,ea,_,_,_,_,hs⟩:=hr
   rw [ea] at e; cases e
   exact .inr hs
abbrev DG:=S→Dl→Option Dl
def tGD (c:Fc) (g:DG):TG:=fun v σ H Q=>∃ σ₀ δ₀ H₁ δ r δ',Aft c σ₀ δ₀ H₁ σ δ H∧RepS c σ δ H₁ H v r∧g r δ=some δ'∧∀ σ',Aft c σ₀ δ₀ H₁ σ' δ' H→Q σ' H
abbrev SG (X:Cx) (c:Fc) (tg:Expr) (g:DG):Prop:=PG X tg (tGD c g)
def gNm (np:List Nat) (i:Nat):DG:=fun r δ=>if np.contains i then none else some (δ.set i (some r))
def Np (c:Fc) (np:List Nat):Prop:=∀ p ∈ c.pin,np.contains p.1=true
theorem gnm_weak {np:List Nat} (hp:Np c np) {i:Nat} {v:V} {σ:St} {H:Hp} {Q:St→Hp→Prop} (h:tGD c (gNm np i) v σ H Q):gName i v σ H Q:=by
 obtain ⟨σ₀,δ₀,H₁,δ,r,δ',x,rr,e,q⟩:=h
 unfold gNm at e
 split at e
 ·cases e
 ·rename_i hn
  cases e
  exact q _ (Ok.set x rr fun p hm e=>hn (by rw [← e]; exact hp p hm))
theorem PG.weak {tg:Expr} {t t':TG} (h:PG X tg t) (w:∀ v σ H Q,t' v σ H Q→t v σ H Q):PG X tg t':=fun pins s σ H v u Q I r q=>h pins s σ H v u Q I r (w v σ H Q q)
theorem PGs.weak {tg:List Expr} {t t':TGs} (h:PGs X tg t) (w:∀ v σ H Q,t' v σ H Q→t v σ H Q):PGs X tg t':=fun pins s σ H v u Q I r q=>h pins s σ H v u Q I r (w v σ H Q q)
theorem sg_name {np:List Nat} {i:Nat} {x:Str} (hp:Np c np) (hN:X.N.Nodup) (hi:X.N[i]? = some x) (hx:Loc X.env.scope x) (hf:X.fn x=true∨X.env.scope.names.lookup x=some .local):SG X c (.Name x pos) (gNm np i) :=
 PG.weak (pg_name hN hi hx hf) fun v σ H Q h=>gnm_weak hp h
abbrev DGs:=List D→Dl→Option Dl
def tGDs (c:Fc) (g:DGs):TGs:=fun vs σ H Q=>∃ δ ds δ',Ok c σ δ H∧Reps H (Av c σ δ) vs ds∧g ds δ=some δ'∧∀ σ',Aft c σ δ H σ' δ' H→Q σ' H
abbrev SGs (X:Cx) (c:Fc) (tg:List Expr) (g:DGs):Prop:=PGs X tg (tGDs c g)
def gsNil:DGs:=fun ds δ=>match ds with
 | []=>some δ
 | _=>none
def gsCons (g:DG) (gs:DGs):DGs:=fun ds δ=>match ds with
 | []=>none
 | d :: r=>(g (.pure d) δ).bind fun δ1=>gs r δ1
theorem sgs_nil:SGs X c [] gsNil:=PGs.weak pgs_nil fun vs σ H Q ⟨δ,ds,δ',k,r,e,q⟩=>by
 cases ds with
 | nil =>
  cases e
  have:vs=[]:=by have:=r.1; simpa using this
  exact ⟨this,q σ (.refl k)⟩
 | cons d r=>cases e
theorem sgs_cons {es:List Expr} {g:DG} {gs:DGs} (h1:SG X c e g) (h2:SGs X c es gs) (hs:(assignEach (e :: es) X.env).map (·.2)=assign e X.env :: (assignEach es X.env).map (·.2):=by rfl):SGs X c (e :: es) (gsCons g gs) :=
 PGs.weak (pgs_cons h1 h2 hs) fun vs σ H Q ⟨δ,ds,δ',k,r,e,q⟩=>by
  cases ds with
  | nil=>cases e
  | cons d ds =>
   cases vs with
   | nil=>have:=r.1; simp at this
   | cons v vs =>
    simp only [gsCons] at e
    cases e1:g (.pure d) δ with
    | none=>rw [e1] at e; cases e
    | some δ1 =>
     rw [e1] at e
     refine ⟨v,vs,rfl,σ,δ,H,δ,.pure d,δ1,.refl k,r.head,e1,fun σ1 a1=>?_⟩
     exact ⟨δ1,ds,δ',a1.ok,Reps.aft r.tail a1,e,fun σ2 a2=>q σ2 (a1.trans a2)⟩
def gTp (n:Nat) (gs:DGs):DG:=fun r δ=>match r.d with
 | .tup ds=>if ds.length=n then gs ds δ else none
 | _=>none
theorem sg_tup {es:List Expr} {k:Nat} {gs:DGs} {n:Nat} (hc:X.calm=true) (h:SGs X c es gs) (hn:(assignEach es X.env).length=n:=by rfl) (hst:(assignEach es X.env).findIdx? (·.1)=none:=by rfl) :
  SG X c (.Tuple es k pos) (gTp n gs):=PG.weak (pg_tup hc h hn hst) fun v σ H Q hw=>by
 obtain ⟨σ₀,δ₀,H₁,δ,r,δ',x,rr,e,q⟩:=hw
 have hb:=rr.b
 unfold gTp at e
 generalize r.d=d at e hb
 cases d <;> first | (cases e; done) | skip
 rename_i ds
 simp only at e
 split at e
 ·rename_i hl
  obtain ⟨a,vs,ea,ha,ra⟩:=hb.tup
  exact ⟨a,vs,ea,.of ha,by rw [ra.1]; exact hl,δ,ds,δ',x.ok,ra,e,fun σ' a1=>q σ' (x.trans a1)⟩
 ·cases e
def dAsg (f:DE) (g:DG):DS:=fun δ=>(f δ).bind fun r δ1=>match g r δ1 with
 | some δ2=>.ok .next δ2
 | none=>.stuck
theorem asg_weak {g:DG} {D:Ends} {σ:St} {H:Hp} {te:TE} {tg:TG} (he:∀ σ H Q,tD c fe σ H Q→te σ H Q) (hg:∀ v σ H Q,tGD c g v σ H Q→tg v σ H Q) (h:tDS c (dAsg fe g) D σ H):tAsg te tg D σ H:=by
 obtain ⟨δ,k,q⟩:=h
 unfold dAsg sPost at q
 rw [post_bind] at q
 refine he _ _ _ ⟨δ,k,post_mono q fun r δ1 q1 v H1 a1 r1=>hg _ _ _ _ ?_⟩
 cases e:g r δ1 with
 | none=>rw [e] at q1; exact q1.elim
 | some δ2 =>
  rw [e] at q1
  exact ⟨σ,δ,H,δ1,r,δ2,a1,r1,e,fun σ' a2=>q1 σ' H1 a2⟩
theorem ss_asg {tg:Expr} {g:DG} (he:SE X c e fe) (hg:SG X c tg g) (hs:swapsWithSole [tg] e pos.line X.env=pure false:=by rfl) (hw:swappedStores [tg] e X.env=pure none:=by rfl)
  (h1:(assignEach [tg] X.env).map (·.2)=[assign tg X.env]:=by rfl):SS X c (.Assign [tg] e pos) (dAsg fe g):=PS.weak (ps_asg he hg hs hw h1) fun D σ H h=>asg_weak (fun _ _ _ h=>h) (fun _ _ _ _ h=>h) h
theorem ss_set {np:List Nat} {i:Nat} {x:Str} (hp:Np c np) (hN:X.N.Nodup) (hi:X.N[i]? = some x) (hx:Loc X.env.scope x) (he:SE X c e fe) (hs:swapsWith e (some (.Name x pos')) pos.line X.env=pure false) (hf:X.fn x=true∨X.env.scope.names.lookup x=some .local) :
  SS X c (.Assign [.Name x pos'] e pos) (dAsg fe (gNm np i)):=PS.weak (ps_set hN hi hx he hs hf) fun D σ H h=>asg_weak (fun _ _ _ h=>h) (fun _ _ _ _ h=>gnm_weak hp h) h
theorem ss_expr (he:SE X c e fe) (hs:∀ (x:Value),swapsWith e none pos.line X.env=pure false:=by intro _; rfl) (hd:True:=trivial) (h:PS X (.Expr e pos) (tDrop (tD c fe))):SS X c (.Expr e pos) (dDrop fe):=PS.weak h fun D σ H ⟨δ,k,q⟩=>by
 unfold dDrop sPost at q
 rw [post_bind] at q
 exact ⟨δ,k,post_mono q fun r δ1 q1 v H1 a1 r1=>q1 σ H1 a1⟩
theorem Ok.mutL {σ:St} {δ:Dl} {H:Hp} {i:Nat} {ds ds':List D} {a:Addr} {vs':List V} (k:Ok c σ δ H) (e:δ[i]? = some (some (.own (.lst ds)))) (ea:σ[i]? = some (some (.ref a))) (r:Reps H (Av c σ δ) vs' ds') :
  Aft c σ δ H σ (δ.set i (some (.own (.lst ds')))) (upd H a (.lst vs')):=by
 have hi:i < δ.length:=(List.getElem?_eq_some_iff.mp e).1
 obtain ⟨a',ea',oa,ia,nb⟩:=k.own i _ e
 rw [ea] at ea'; cases ea'
 obtain ⟨vs,ha,_⟩:=oa
 have ownA:Own σ δ a:=⟨i,_,e,ea⟩
 have avA:Av c σ δ a:=.inr ownA
 have own_iff:∀ b,Own σ (δ.set i (some (.own (.lst ds')))) b ↔ Own σ δ b:=fun b=>by
  constructor
  ·rintro ⟨j,d,e1,e2⟩
   by_cases hj:i=j
   ·subst hj
    exact ⟨i,_,e,e2⟩
   ·rw [List.getElem?_set_ne hj] at e1
    exact ⟨j,d,e1,e2⟩
  ·rintro ⟨j,d,e1,e2⟩
   by_cases hj:i=j
   ·subst hj
    exact ⟨i,_,by rw [List.getElem?_set_self hi],e2⟩
   ·exact ⟨j,d,by rw [List.getElem?_set_ne hj]; exact e1,e2⟩
 have av_iff:∀ b,Av c σ (δ.set i (some (.own (.lst ds')))) b→Av c σ δ b:=fun b z=>z.elim .inl fun z=>.inr ((own_iff b).mp z)
 have ne:∀ b,¬ Av c σ δ b→b≠a:=fun b n z=>n (by rw [z]; exact avA)
 have kp:∀ b o,H b=some o→¬ Av c σ δ b→upd H a (.lst vs') b=some o:=fun b o h n=>by rw [upd_ne (ne b n)]; exact h
 have hup:∀ b o,H b=some o→∃ o',upd H a (.lst vs') b=some o':=fun b o h=>by
  by_cases hb:b=a
  ·exact ⟨_,by rw [hb]; exact upd_same⟩
  ·exact ⟨o,by rw [upd_ne hb]; exact h⟩
 refine ⟨⟨fun b o h n=>?_,fun b z=>?_,fun b z=>?_,by rw [List.length_set]; exact k.len,fun j d h=>?_,fun j d h=>?_,fun j l b d d' h1 h2 h3 h4=>?_,k.pinned⟩,fun b o h n=>?_,fun b z=>.inl ((own_iff b).mp z),hup⟩
 ·have hb:b≠a:=fun z=>by
   subst z
   rcases ia with z | z
   ·exact n z
   ·rw [z] at h; cases h
  rw [upd_ne hb]
  exact k.keep b o h n
 ·obtain ⟨o,h⟩:=k.bd b z
  exact hup b o h
 ·obtain ⟨o,h⟩:=k.ith b z
  exact hup b o h
 ·have hj:i≠j:=fun z=>by subst z; rw [List.getElem?_set_self hi] at h; cases h
  rw [List.getElem?_set_ne hj] at h
  obtain ⟨v,h1,h2⟩:=k.slot j d h
  exact ⟨v,h1,(h2.keep kp).anti fun b z=>.inl (av_iff b z)⟩
 ·by_cases hj:i=j
  ·subst hj
   rw [List.getElem?_set_self hi] at h
   cases h
   exact ⟨a,ea,⟨vs',upd_same,Reps.anti (Reps.keep r kp) fun b z=>.inl (av_iff b z)⟩,ia,nb⟩
  ·rw [List.getElem?_set_ne hj] at h
   obtain ⟨b,h1,h2,h3,h4⟩:=k.own j d h
   have hb:b≠a:=fun z=>by subst z; exact hj (k.inj i j b _ d e h ea h1)
   exact ⟨b,h1,(h2.keep kp fun o q=>by rw [upd_ne hb]; exact q).anti fun b z=>.inl (av_iff b z),h3,h4⟩
 ·have f1:∃ d,δ[j]? = some (some (.own d)):=by
   by_cases hj:i=j
   ·subst hj; exact ⟨_,e⟩
   ·rw [List.getElem?_set_ne hj] at h1; exact ⟨d,h1⟩
  have f2:∃ d,δ[l]? = some (some (.own d)):=by
   by_cases hj:i=l
   ·subst hj; exact ⟨_,e⟩
   ·rw [List.getElem?_set_ne hj] at h2; exact ⟨d',h2⟩
  obtain ⟨_,f1⟩:=f1
  obtain ⟨_,f2⟩:=f2
  exact k.inj j l b _ _ f1 f2 h3 h4
 ·have hb:b≠a:=fun z=>n (by rw [z]; exact ownA)
  rw [upd_ne hb]; exact h
def isOwnL (δ:Dl) (i:Nat):Bool:=match δ[i]? with
 | some (some (.own (.lst _)))=>true
 | _=>false
def putL (δ:Dl) (i:Nat) (f:List D→Option (List D)):Rs Fl:=match δ[i]? with
 | some (some (.own (.lst ds)))=>match f ds with
  | some ds'=>.ok .next (δ.set i (some (.own (.lst ds'))))
  | none=>.stuck
 | _=>.stuck
theorem isOwnL_of {δ:Dl} {i:Nat} (h:isOwnL δ i=true):∃ ds,δ[i]? = some (some (.own (.lst ds))):=by
 unfold isOwnL at h
 split at h
 ·rename_i ds e; exact ⟨ds,e⟩
 ·cases h
theorem putL_post {δ:Dl} {i:Nat} {g:List D→Option (List D)} {kk:Fl→Dl→Prop} (h:post c (putL δ i g) kk):∃ ds ds',δ[i]? = some (some (.own (.lst ds)))∧g ds=some ds'∧kk .next (δ.set i (some (.own (.lst ds')))):=by
 unfold putL at h
 split at h
 ·rename_i ds e
  split at h
  ·rename_i ds' e2
   exact ⟨ds,ds',e,e2,h⟩
  ·exact h.elim
 ·exact h.elim
def dAppend (i:Nat) (f:DE):DS:=fun δ=>if isOwnL δ i then (f δ).bind fun r δ1=>putL δ1 i fun ds=>if ds.length < sizeLine then some (ds ++ [r.d]) else none else .stuck
theorem ss_append {i:Nat} {o:Expr} {p0 apos cpos:Pos} (ho:PE X o (tVar i)) (he:SE X c e fe)
  (h:PS X (.Expr (.Call (.Attribute o "append" apos) [e] [] cpos) pos) (tDrop (tBM X.K "list" rAppend (tVar i) (tCons (tD c fe) tNil)))):SS X c (.Expr (.Call (.Attribute o "append" apos) [e] [] cpos) pos) (dAppend i fe) :=
 PS.weak h fun D σ H ⟨δ,k,q⟩=>by
  unfold dAppend sPost at q
  split at q
  ·rename_i hown
   obtain ⟨ds0,e0⟩:=isOwnL_of hown
   rw [post_bind] at q
   obtain ⟨a,ea,oa,_⟩:=k.own i _ e0
   refine ⟨.ref a,ea,?_,δ,k,post_mono q fun r δ1 q1 v H1 a1 r1=>?_⟩
   ·obtain ⟨vs,ha,_⟩:=oa
    exact .inl ⟨rfl,vs,.of ha⟩
   ·obtain ⟨ds,ds',e1,e2,q2⟩:=putL_post q1
    split at e2
    ·rename_i hz
     cases e2
     obtain ⟨a',ea',oa1,_⟩:=a1.ok.own i _ e1
     rw [ea] at ea'; cases ea'
     obtain ⟨vs,ha,ra⟩:=id oa1
     refine ⟨a,vs,v,rfl,rfl,ha,by rw [ra.1]; exact hz,?_⟩
     exact q2 σ _ (a1.trans (Ok.mutL a1.ok e1 ea (ra.append (.cons r1.rep .nil))))
    ·cases e2
  ·exact q.elim
def dSetI (i:Nat) (fi:DE) (fe:DE):DS:=fun δ=>if isOwnL δ i then (fe δ).bind fun r δ1=>(fi δ1).bind fun k δ2=>match k with
 | .pure (.int j)=>putL δ2 i fun ds=>(ixN ds.length j).map fun n=>ds.set n r.d
 | _=>.stuck else .stuck
theorem ss_setI {i:Nat} {o ix:Expr} {fi:DE} {sp:Pos} (ho:PE X o (tVar i)) (hi:SE X c ix fi) (he:SE X c e fe)
  (ha:∀ v,assign (.Subscript o ix sp) X.env v=(do
   let ov ← holding [v] (eval o X.env)
   let iv ← holding [v,ov] (eval ix X.env)
   standAt sp
   holding [v,ov,iv] (setItem ov iv v)
   release [v,ov,iv] []):=by intro _; rfl)
  (hs:swapsWithSole [.Subscript o ix sp] e pos.line X.env=pure false:=by rfl) (hw:swappedStores [.Subscript o ix sp] e X.env=pure none:=by rfl)
  (h1:(assignEach [.Subscript o ix sp] X.env).map (·.2)=[assign (.Subscript o ix sp) X.env]:=by rfl):SS X c (.Assign [.Subscript o ix sp] e pos) (dSetI i fi fe) :=
 PS.weak (ps_asg he (pg_sub ho hi set_list ha) hs hw h1) fun D σ H ⟨δ,k,q⟩=>by
  unfold dSetI sPost at q
  split at q
  ·rename_i hown
   obtain ⟨ds0,e0⟩:=isOwnL_of hown
   rw [post_bind] at q
   obtain ⟨a,ea,_,_⟩:=k.own i _ e0
   refine ⟨δ,k,post_mono q fun r δ1 q1 v H1 a1 r1=>⟨.ref a,ea,δ1,a1.ok,?_⟩⟩
   rw [post_bind] at q1
   refine post_mono q1 fun kx δ2 q2 u H2 a2 r2=>?_
   cases kx with
   | own d=>exact q2.elim
   | pure d =>
    cases d <;> first | exact q2.elim | skip
    rename_i j
    cases r2
    obtain ⟨ds,ds',e1,e2,q3⟩:=putL_post q2
    cases e3:ixN ds.length j with
    | none=>rw [e3] at e2; cases e2
    | some n =>
     rw [e3] at e2
     cases e2
     obtain ⟨a',ea',oa1,_⟩:=a2.ok.own i _ e1
     rw [ea] at ea'; cases ea'
     obtain ⟨vs,ha,ra⟩:=id oa1
     refine ⟨a,vs,j,n,rfl,rfl,ha,by rw [ra.1]; exact e3,?_⟩
     exact q3 σ _ (a1.trans (a2.trans (Ok.mutL a2.ok e1 ea (ra.set (Rep.aft r1.rep a2) n))))
  ·exact q.elim
end
open PySem PySem.Spec PyProof.Rows L2
abbrev DI:=Dl→Rs (List D)
def ItOk (c:Fc) (σ:St) (δ:Dl) (H:Hp) (J:It) (ds:List D):Prop:=∀ H2,(∀ a o,H a=some o→¬ Own σ δ a→H2 a=some o)→J.stop ds.length H2 ∧
 ∀ (i:Nat) d,ds[i]? = some d→J.go i H2∧∀ x H3,J.yld i H2 x H3→(H3=H2∧Rep H (Av c σ δ) x d) ∨
  ∃ p vs es,H2 p=none∧H3=upd H2 p (.tup vs)∧x = .ref p∧d = .tup es∧Reps H (Av c σ δ) vs es
def tI (c:Fc) (f:DI):TI:=fun σ H R=>∃ δ,Ok c σ δ H∧post c (f δ) fun ds δ'=>∀ J H',Aft c σ δ H σ δ' H'→ItOk c σ δ' H' J ds→R J H'
abbrev SI (X:Cx) (c:Fc) (tg iter:Expr) (f:DI):Prop:=PI X tg iter (tI c f)
theorem PI.weak {X:Cx} {tg iter:Expr} {t t':TI} (h:PI X tg iter t) (w:∀ σ H R,t' σ H R→t σ H R):PI X tg iter t':=fun pins s σ H R I q=>h pins s σ H R I (w σ H R q)
section
variable {X:Cx} {c:Fc} {tg e:Expr} {fe:DE} {pos pp:Pos}
theorem it_tup {σ:St} {δ:Dl} {H:Hp} {a:Addr} {vs:List V} {ds:List D} (K:PySem.W.Frag) (h:H a=some (.tup vs)) (n:¬ Own σ δ a) (r:Reps H (Av c σ δ) vs ds):ItOk c σ δ H (Itt K a) ds:=by
 intro H2 kp
 have h2:=kp a _ h n
 refine ⟨⟨vs,.of h2,by rw [r.1]; exact Nat.le_refl _⟩,fun i d e=>?_⟩
 obtain ⟨v,ev,rv⟩:=r.get e
 refine ⟨⟨vs,v,.of h2,ev⟩,fun x H3 ⟨e3,y⟩=>.inl ⟨e3,?_⟩⟩
 have:=y vs (.of h2)
 rw [ev] at this
 cases this
 exact rv
def rangeD (lo:Int) (n:Nat):List D:=(List.range n).map fun k:Nat=>D.int (lo + k)
theorem rangeD_get {lo:Int} {n i:Nat} {d:D} (h:(rangeD lo n)[i]? = some d):i < n∧d = .int (lo + i):=by
 unfold rangeD at h
 rw [List.getElem?_map] at h
 by_cases hi:i < n
 ·rw [List.getElem?_range hi] at h
  simp at h
  exact ⟨hi,h.symm⟩
 ·rw [List.getElem?_eq_none (by simpa using hi)] at h
  cases h
theorem it_range {σ:St} {δ:Dl} {H:Hp} (lo:Int) (n:Nat):ItOk c σ δ H (Itr lo n) (rangeD lo n):=by
 intro H2 kp
 refine ⟨by show n≤(rangeD lo n).length; simp [rangeD],fun i d e=>?_⟩
 obtain ⟨hi,rfl⟩:=rangeD_get e
 exact ⟨hi,fun x H3 ⟨e3,ex⟩=>.inl ⟨e3,by rw [ex]; exact .int _⟩⟩
def smallI (j:Int):Bool:=decide (-(2 ^ 62)≤j) && decide (j < 2 ^ 62)
def iRange1 (f:DE):DI:=fun δ=>(f δ).bind fun r δ1=>match r with
 | .pure (.int j)=>if smallI j then .ok (rangeD 0 j.toNat) δ1 else .stuck
 | _=>.stuck
theorem si_range1 (hg:Gl X "range") (hm:X.mg "range" = none) (he:SE X c e fe) (hs:starEach [e] X.env=[(false,eval e X.env)]:=by rfl):SI X c tg (.Call (.Name "range" pp) [e] [] pos) (iRange1 fe) :=
 PI.weak (pi_range1 hg hm (pa_cons he pa_nil hs) hs) fun σ H R ⟨δ,k,q⟩=>by
  unfold iRange1 at q
  rw [post_bind] at q
  refine ⟨δ,k,post_mono q fun r δ1 q1 v H1 a1 r1=>?_⟩
  cases r with
  | own d=>exact q1.elim
  | pure d =>
   cases d <;> first | exact q1.elim | skip
   rename_i j
   cases r1
   simp only at q1
   split at q1
   ·rename_i hj
    unfold smallI at hj
    simp only [Bool.and_eq_true,decide_eq_true_eq] at hj
    exact ⟨j,rfl,hj.1,hj.2,q1 _ H1 a1 (it_range 0 j.toNat)⟩
   ·exact q1.elim
def forL (g:DG) (b:DS):List D→DS
 | [],δ=>.ok .next δ
 | d :: r,δ=>match g (.pure d) δ with
  | none=>.stuck
  | some δ1=>(b δ1).bind fun fl δ2=>match fl with
   | .next=>forL g b r δ2
   | .cont=>forL g b r δ2
   | .brk=>.ok .next δ2
   | .ret v=>.ok (.ret v) δ2
def dFor (it:DI) (g:DG) (b:DS):DS:=fun δ=>(it δ).bind fun ds δ1=>forL g b ds δ1
theorem turn_rep {J:It} {σ σ2:St} {δ δ2:Dl} {H H2 H3:Hp} {ds:List D} {i:Nat} {d:D} {x:V} (io:ItOk c σ δ H J ds) (a:Aft c σ δ H σ2 δ2 H2) (e:ds[i]? = some d) (y:J.yld i H2 x H3):Aft c σ2 δ2 H2 σ2 δ2 H3∧Rep H3 (Av c σ2 δ2) x d:=by
 obtain ⟨_,t⟩:=io H2 a.keep
 rcases (t i d e).2 x H3 y with ⟨e3,r⟩ | ⟨p,vs,es,hp,e3,ex,ed,r⟩
 ·subst e3
  exact ⟨.refl a.ok,Rep.aft r a⟩
 ·subst e3 ex ed
  have:=RepS.newT a.ok (Reps.aft r a) hp
  exact ⟨.alloc a.ok hp _,this⟩
theorem ss_for {iter:Expr} {body:List Stmt} {it:DI} {g:DG} {b:DS} (hp:PassesOwn (model X.prog X.w) X.A X.env X.xe) (hc:X.calm=true) (hi:SI X c tg iter it) (hg:SG X c tg g) (hb:SSs X c body b)
  (hs:∀ x,foldedSetIterable iter X.env x=pure x:=by intro _; rfl):SS X c (.For tg iter body [] pos) (dFor it g b):=PS.weak (ps_for hp hc hi hg hb hs) fun D σ H ⟨δ,k,q⟩=>by
 unfold dFor sPost at q
 rw [post_bind] at q
 refine ⟨δ,k,post_mono q fun ds δ1 q1 J H1 a1 io=>?_⟩
 refine ⟨fun i m σ2 H2=>∃ δ2,m=ds.length - i∧i≤ds.length∧Aft c σ δ1 H1 σ2 δ2 H2∧sPost c D σ2 δ2 H2 (forL g b (ds.drop i) δ2),⟨ds.length,δ1,by simp,Nat.zero_le _,.refl a1.ok,?_⟩,?_⟩
 ·rw [List.drop_zero]
  exact post_mono q1 fun fl δ2 q2 σ2 H2 a2=>q2 σ2 H2 (a1.trans a2)
 ·rintro i m σ2 H2 ⟨δ2,rfl,hil,a2,p2⟩
  by_cases hlt:i < ds.length
  ·right
   have e:ds[i]? = some ds[i]:=by simp [hlt]
   rw [List.drop_eq_getElem_cons hlt] at p2
   refine ⟨((io H2 a2.keep).2 i _ e).1,fun σ4 H4=>∃ δ4,Aft c σ δ1 H1 σ4 δ4 H4∧sPost c D σ4 δ4 H4 (forL g b (ds.drop (i + 1)) δ4),fun σ4 H4 ⟨δ4,a4,p4⟩=>⟨ds.length - (i + 1),by omega,δ4,rfl,hlt,a4,p4⟩,fun x H3 y=>?_⟩
   obtain ⟨a3,r3⟩:=turn_rep io a2 e y
   simp only [forL,sPost] at p2
   cases eg:g (.pure ds[i]) δ2 with
   | none=>rw [eg] at p2; exact p2.elim
   | some δ3 =>
    rw [eg] at p2
    refine ⟨σ2,δ2,H3,δ2,.pure ds[i],δ3,.refl a3.ok,r3,eg,fun σ3 a3'=>?_⟩
    have p3:post c ((b δ3).bind fun fl δ2=>match fl with
     | .next=>forL g b (ds.drop (i + 1)) δ2
     | .cont=>forL g b (ds.drop (i + 1)) δ2
     | .brk=>.ok .next δ2
     | .ret v=>.ok (.ret v) δ2) fun fl δ'=>∀ σ' H',Aft c σ2 δ2 H2 σ' δ' H'→fin c D σ' δ' H' fl:=p2
    rw [post_bind] at p3
    have a23:Aft c σ2 δ2 H2 σ3 δ3 H3:=a3.trans a3'
    refine ⟨δ3,a3'.ok,post_mono p3 fun fl δ4 p4 σ4 H4 a4=>?_⟩
    have a24:=a23.trans a4
    cases fl with
    | next=>exact ⟨δ4,a2.trans a24,post_mono p4 fun fl δ5 p5 σ5 H5 a5=>p5 σ5 H5 (a24.trans a5)⟩
    | cont=>exact ⟨δ4,a2.trans a24,post_mono p4 fun fl δ5 p5 σ5 H5 a5=>p5 σ5 H5 (a24.trans a5)⟩
    | brk=>exact p4 σ4 H4 a24
    | ret r=>exact p4 σ4 H4 a24
  ·left
   have hi2:i=ds.length:=by omega
   subst hi2
   rw [List.drop_length] at p2
   exact ⟨(io H2 a2.keep).1,p2 σ2 H2 (.refl a2.ok)⟩
end
open PySem PySem.Spec PyProof.Rows L2
def clrD (cs:List Nat) (δ:Dl):Dl:=cs.foldl (fun δ i=>δ.set i none) δ
def backD (cs:List Nat) (δ₁ δ:Dl):Dl:=cs.foldl (fun δ i=>match δ₁[i]? with | some o=>δ.set i o | none=>δ) δ
def isOwn (δ:Dl) (i:Nat):Bool:=match δ[i]? with
 | some (some (.own _))=>true
 | _=>false
theorem clrD_len (cs:List Nat):∀ δ:Dl,(clrD cs δ).length=δ.length:=by
 induction cs with
 | nil=>intro δ; rfl
 | cons i r ih =>
  intro δ
  show (clrD r (δ.set i none)).length=_
  rw [ih]; simp
theorem clrD_get:∀ (cs:List Nat) (δ:Dl) (i:Nat) (v:S),(clrD cs δ)[i]? = some (some v)→δ[i]? = some (some v)∧i ∉ cs:=by
 intro cs
 induction cs with
 | nil=>intro δ i v h; exact ⟨h,by simp⟩
 | cons j r ih =>
  intro δ i v h
  have h':(clrD r (δ.set j none))[i]? = some (some v):=h
  obtain ⟨h1,h2⟩:=ih _ i v h'
  by_cases e:j=i
  ·subst e
   rw [List.getElem?_set] at h1
   simp at h1
  ·rw [List.getElem?_set_ne e] at h1
   exact ⟨h1,by simp only [List.mem_cons,not_or]; exact ⟨Ne.symm e,h2⟩⟩
theorem clr_out:∀ (cs:List Nat) (σ:St) (i:Nat),i ∉ cs→(clr cs σ)[i]? = σ[i]?:=by
 intro cs
 induction cs with
 | nil=>intro σ i _; rfl
 | cons j r ih =>
  intro σ i h
  simp only [List.mem_cons,not_or] at h
  show (clr r (σ.set j none))[i]? = _
  rw [ih _ _ h.2,List.getElem?_set_ne (Ne.symm h.1)]
theorem clrD_out:∀ (cs:List Nat) (δ:Dl) (i:Nat),i ∉ cs→(clrD cs δ)[i]? = δ[i]?:=by
 intro cs
 induction cs with
 | nil=>intro σ i _; rfl
 | cons j r ih =>
  intro σ i h
  simp only [List.mem_cons,not_or] at h
  show (clrD r (σ.set j none))[i]? = _
  rw [ih _ _ h.2,List.getElem?_set_ne (Ne.symm h.1)]
theorem backD_len (cs:List Nat) (δ₁:Dl):∀ δ:Dl,(backD cs δ₁ δ).length=δ.length:=by
 induction cs with
 | nil=>intro δ; rfl
 | cons i r ih =>
  intro δ
  unfold backD
  rw [List.foldl_cons]
  have:=ih (match δ₁[i]? with | some o=>δ.set i o | none=>δ)
  unfold backD at this
  rw [this]
  cases δ₁[i]? <;> simp
theorem backD_out:∀ (cs:List Nat) (δ₁ δ:Dl) (i:Nat),i ∉ cs→(backD cs δ₁ δ)[i]? = δ[i]?:=by
 intro cs δ₁
 induction cs with
 | nil=>intro δ i _; rfl
 | cons j r ih =>
  intro δ i h
  simp only [List.mem_cons,not_or] at h
  unfold backD
  rw [List.foldl_cons]
  have:=ih (match δ₁[j]? with | some o=>δ.set j o | none=>δ) i h.2
  unfold backD at this
  rw [this]
  cases δ₁[j]? with
  | none=>rfl
  | some o=>simp only; rw [List.getElem?_set_ne (Ne.symm h.1)]
theorem backD_in:∀ (cs:List Nat) (δ₁ δ:Dl) (i:Nat),δ₁.length=δ.length→i ∈ cs→(backD cs δ₁ δ)[i]? = δ₁[i]?:=by
 intro cs δ₁
 induction cs with
 | nil=>intro δ i _ h; simp at h
 | cons j r ih =>
  intro δ i hl h
  unfold backD
  rw [List.foldl_cons]
  have hl2:δ₁.length=(match δ₁[j]? with | some o=>δ.set j o | none=>δ).length:=by cases δ₁[j]? <;> simp [hl]
  by_cases hr:i ∈ r
  ·have:=ih (match δ₁[j]? with | some o=>δ.set j o | none=>δ) i hl2 hr
   unfold backD at this
   exact this
  ·have e:i=j:=by
    rcases List.mem_cons.mp h with e | e
    ·exact e
    ·exact absurd e hr
   subst e
   have:=backD_out r δ₁ (match δ₁[i]? with | some o=>δ.set i o | none=>δ) i hr
   unfold backD at this
   rw [this]
   cases e:δ₁[i]? with
   | none =>
    simp only
    have:=List.getElem?_eq_none_iff.mp e
    exact List.getElem?_eq_none (by omega)
   | some o =>
    simp only
    have:=(List.getElem?_eq_some_iff.mp e).1
    rw [List.getElem?_set_self (by omega)]
section
variable {c:Fc} {σ:St} {δ δ':Dl} {H H':Hp} {l:Addr} {cs:List Nat}
theorem Ok.less (k:Ok (c.plus l) σ δ H):Ok c σ δ H:=by
 have sub:∀ b,Av c σ δ b→Av (c.plus l) σ δ b:=fun b z=>z.elim (fun z=>.inl (.inl z)) .inr
 refine ⟨k.keep,fun a z=>k.bd a (.inl z),k.ith,k.len,fun i d e=>?_,fun i d e=>?_,k.inj,k.pinned⟩
 ·obtain ⟨v,h1,h2⟩:=k.slot i d e
  exact ⟨v,h1,h2.anti fun b z=>.inl (sub b z)⟩
 ·obtain ⟨a,h1,h2,h3,h4⟩:=k.own i d e
  exact ⟨a,h1,h2.anti fun b z=>.inl (sub b z),h3,fun z=>h4 (.inl z)⟩
theorem Ok.updB (k:Ok c σ δ H) (hb:c.B l) (h0:c.H₀ l=none) (o:HO):Ok c σ δ (upd H l o):=by
 have kp:∀ b w,H b=some w→¬ Av c σ δ b→upd H l o b=some w:=fun b w e n=>by
  rw [upd_ne (fun z=>n (by rw [z]; exact .inl hb))]; exact e
 have hup:∀ b w,H b=some w→∃ w',upd H l o b=some w':=fun b w h=>by
  by_cases hb:b=l
  ·exact ⟨_,by rw [hb]; exact upd_same⟩
  ·exact ⟨w,by rw [upd_ne hb]; exact h⟩
 refine ⟨fun a w e n=>?_,fun a z=>?_,fun a z=>?_,k.len,fun i d e=>?_,fun i d e=>?_,k.inj,k.pinned⟩
 ·have:a≠l:=fun z=>by rw [z,h0] at e; cases e
  rw [upd_ne this]; exact k.keep a w e n
 ·obtain ⟨w,e⟩:=k.bd a z; exact hup a w e
 ·obtain ⟨w,e⟩:=k.ith a z; exact hup a w e
 ·obtain ⟨v,h1,h2⟩:=k.slot i d e
  exact ⟨v,h1,h2.keep kp⟩
 ·obtain ⟨a,h1,h2,h3,h4⟩:=k.own i d e
  have:a≠l:=fun z=>h4 (by rw [z]; exact hb)
  exact ⟨a,h1,h2.keep kp fun w q=>by rw [upd_ne this]; exact q,h3,h4⟩
theorem Own.clr (h:Own (clr cs σ) (clrD cs δ) l):Own σ δ l:=by
 obtain ⟨i,d,e1,e2⟩:=h
 exact ⟨i,d,(clrD_get cs δ i _ e1).1,(clr_get cs σ i _ e2).1⟩
theorem Ok.clr (k:Ok c σ δ H) (hp:∀ p ∈ c.pin,p.1 ∉ cs):Ok c (L2.clr cs σ) (clrD cs δ) H:=by
 have sub:∀ b,Av c (L2.clr cs σ) (clrD cs δ) b→Av c σ δ b:=fun b z=>z.elim .inl fun z=>.inr z.clr
 refine ⟨k.keep,k.bd,k.ith,by rw [clrD_len,clr_len]; exact k.len,fun i d e=>?_,fun i d e=>?_,fun i j a d d' e1 e2 e3 e4=>?_,fun p hm=>?_⟩
 ·obtain ⟨e',hi⟩:=clrD_get cs δ i _ e
  obtain ⟨v,h1,h2⟩:=k.slot i d e'
  exact ⟨v,by rw [clr_out cs σ i hi]; exact h1,h2.anti fun b z=>.inl (sub b z)⟩
 ·obtain ⟨e',hi⟩:=clrD_get cs δ i _ e
  obtain ⟨a,h1,h2,h3⟩:=k.own i d e'
  exact ⟨a,by rw [clr_out cs σ i hi]; exact h1,h2.anti fun b z=>.inl (sub b z),h3⟩
 ·exact k.inj i j a d d' (clrD_get cs δ i _ e1).1 (clrD_get cs δ j _ e2).1 (clr_get cs σ i _ e3).1 (clr_get cs σ j _ e4).1
 ·rw [clr_out cs σ _ (hp p hm)]; exact k.pinned p hm
theorem Aft.back {c₀:Fc} (k:Ok c₀ σ δ H) (hpin:c.pin=c₀.pin) (hB:∀ b,c.B b→c₀.B b∨H b=none) (hno:cs.any (isOwn δ)=false) (x:Aft c (L2.clr cs σ) (clrD cs δ) H (L2.clr cs σ) δ' H'):Aft c σ δ H σ (backD cs δ δ') H':=by
 have len:δ.length=δ'.length:=by
  have:=x.ok.len
  rw [clr_len] at this
  rw [this]; exact k.len
 have nown:∀ i d,i ∈ cs→δ[i]?≠some (some (.own d)):=fun i d hi e=>by
  have:=List.any_eq_false.mp hno i hi
  unfold isOwn at this
  rw [e] at this
  simp at this
 have ownOut:∀ i d,(backD cs δ δ')[i]? = some (some (.own d))→i ∉ cs∧δ'[i]? = some (some (.own d)):=fun i d e=>by
  by_cases hi:i ∈ cs
  ·rw [backD_in cs δ δ' i len hi] at e
   exact absurd e (nown i d hi)
  ·rw [backD_out cs δ δ' i hi] at e
   exact ⟨hi,e⟩
 have sub:∀ b,Own σ (backD cs δ δ') b→Own (L2.clr cs σ) δ' b:=fun b ⟨i,d,e1,e2⟩=>by
  obtain ⟨hi,e⟩:=ownOut i d e1
  exact ⟨i,d,e,by rw [clr_out cs σ i hi]; exact e2⟩
 have subA:∀ b,Av c σ (backD cs δ δ') b→Av c (L2.clr cs σ) δ' b:=fun b z=>z.elim .inl fun z=>.inr (sub b z)
 have ownEq:∀ b,Own σ δ b→Own (L2.clr cs σ) (clrD cs δ) b:=fun b ⟨i,d,e1,e2⟩=>by
  have hi:i ∉ cs:=fun z=>nown i d z e1
  exact ⟨i,d,by rw [clrD_out cs δ i hi]; exact e1,by rw [clr_out cs σ i hi]; exact e2⟩
 refine ⟨⟨x.ok.keep,x.ok.bd,x.ok.ith,by rw [backD_len,← len]; exact k.len,fun i d e=>?_,fun i d e=>?_,fun i j a d d' e1 e2 e3 e4=>?_,by rw [hpin]; exact k.pinned⟩,fun a o e n=>?_,fun a z=>?_,x.there⟩
 ·by_cases hi:i ∈ cs
  ·rw [backD_in cs δ δ' i len hi] at e
   obtain ⟨v,h1,h2⟩:=k.slot i d e
   have h3:Rep H (Av c (L2.clr cs σ) (clrD cs δ)) v d:=h2.anti fun b z=>by
    rcases z with z | z
    ·exact (hB b z).elim (fun z=>.inl (.inl z)) .inr
    ·exact .inl (.inr z.clr)
   exact ⟨v,h1,(Rep.aft h3 x).anti fun b z=>.inl (subA b z)⟩
  ·rw [backD_out cs δ δ' i hi] at e
   obtain ⟨v,h1,h2⟩:=x.ok.slot i d e
   exact ⟨v,(clr_get cs σ i v h1).1,h2.anti fun b z=>.inl (subA b z)⟩
 ·obtain ⟨hi,e'⟩:=ownOut i d e
  obtain ⟨a,h1,h2,h3⟩:=x.ok.own i d e'
  exact ⟨a,(clr_get cs σ i _ h1).1,h2.anti fun b z=>.inl (subA b z),h3⟩
 ·obtain ⟨hi,f1⟩:=ownOut i d e1
  obtain ⟨hj,f2⟩:=ownOut j d' e2
  exact x.ok.inj i j a d d' f1 f2 (by rw [clr_out cs σ i hi]; exact e3) (by rw [clr_out cs σ j hj]; exact e4)
 ·exact x.keep a o e fun z=>n z.clr
 ·rcases x.own a (sub a z) with q | q
  ·exact .inl q.clr
  ·exact .inr q
end
def compL (cs:List Nat) (g:DG) (t:DT) (el:DE):List D→Dl→List D→Rs (List D)
 | [],δ,acc=>.ok acc δ
 | d :: r,δ,acc=>match g (.pure d) δ with
  | none=>.stuck
  | some δ1=>(t δ1).bind fun b δ2=>if b then (el δ2).bind fun x δ3=>if acc.length < sizeLine then compL cs g t el r (clrD cs δ3) (acc ++ [x.d]) else .stuck
   else compL cs g t el r (clrD cs δ2) acc
def eComp (cs:List Nat) (it:DI) (g:DG) (t:DT) (el:DE):DE:=fun δ=>(it δ).bind fun ds δ1=>if cs.any (isOwn δ1) then .stuck else
 (compL cs g t el ds (clrD cs δ1) []).bind fun acc δ2=>.ok (.own (.lst acc)) (backD cs δ1 δ2)
def dYes:DT:=fun δ=>.ok true δ
abbrev STs (X:Cx) (c:Fc) (ifs:List Expr) (t:DT):Prop:=PTs X ifs (tT c t)
theorem sts_nil {X:Cx} {c:Fc}:STs X c [] dYes:=fun pins s σ H Q I ⟨δ,k,q⟩=>pts_nil pins s σ H Q I (q H (.refl k))
section
variable {X:Cx} {c:Fc} {cs:List Nat} {tg iter elt:Expr} {ifs:List Expr} {scope:Scope} {pos:Pos} {it:DI} {g:DG} {t:DT} {el:DE}
theorem Aft.clear {σ σ4:St} {δ δ4:Dl} {H H4:Hp} (x:Aft c (L2.clr cs σ) δ H σ4 δ4 H4) (le:Le (L2.clr cs σ) σ4) (hp:∀ p ∈ c.pin,p.1 ∉ cs) (hs:∀ (i:Nat) v,σ4[i]? = some (some v)→i ∉ cs→σ[i]? = some (some v)):Aft c (L2.clr cs σ) δ H (L2.clr cs σ) (clrD cs δ4) H4:=by
 have eq:∀ i,i ∉ cs→∀ v,σ4[i]? = some (some v)→(L2.clr cs σ)[i]? = some (some v):=fun i hi v e=>by rw [clr_out cs σ i hi]; exact hs i v e hi
 have own:∀ b,Own (L2.clr cs σ) (clrD cs δ4) b→Own σ4 δ4 b:=fun b ⟨i,d,e1,e2⟩=>by
  exact ⟨i,d,(clrD_get cs δ4 i _ e1).1,le.2 i _ e2⟩
 have sub:∀ b,Av c (L2.clr cs σ) (clrD cs δ4) b→Av c σ4 δ4 b:=fun b z=>z.elim .inl fun z=>.inr (own b z)
 have k:=x.ok
 refine ⟨⟨k.keep,k.bd,k.ith,by rw [clrD_len,k.len]; exact le.1,fun i d e=>?_,fun i d e=>?_,fun i j a d d' e1 e2 e3 e4=>?_,fun p hm=>?_⟩,x.keep,fun a z=>x.own a (own a z),x.there⟩
 ·obtain ⟨e',hi⟩:=clrD_get cs δ4 i _ e
  obtain ⟨v,h1,h2⟩:=k.slot i d e'
  exact ⟨v,eq i hi v h1,h2.anti fun b z=>.inl (sub b z)⟩
 ·obtain ⟨e',hi⟩:=clrD_get cs δ4 i _ e
  obtain ⟨a,h1,h2,h3⟩:=k.own i d e'
  exact ⟨a,eq i hi _ h1,h2.anti fun b z=>.inl (sub b z),h3⟩
 ·exact k.inj i j a d d' (clrD_get cs δ4 i _ e1).1 (clrD_get cs δ4 j _ e2).1 (le.2 i _ e3) (le.2 j _ e4)
 ·exact eq p.1 (hp p hm) _ (k.pinned p hm)
def Out (cs:List Nat) (σ σ':St):Prop:=σ'.length=σ.length∧∀ i,i ∉ cs→σ'[i]? = σ[i]?
theorem Out.trans {σ σ' σ'':St} (a:Out cs σ σ') (b:Out cs σ' σ''):Out cs σ σ'':=⟨b.1.trans a.1,fun i h=>(b.2 i h).trans (a.2 i h)⟩
def tGC (cs:List Nat) (c:Fc) (g:DG):TG:=fun v σ H Q=>∃ σ₀ δ₀ H₁ δ r δ',Aft c σ₀ δ₀ H₁ σ δ H∧RepS c σ δ H₁ H v r∧g r δ=some δ'∧∀ σ',Aft c σ₀ δ₀ H₁ σ' δ' H→Out cs σ σ'→Q σ' H
abbrev SGC (X:Cx) (c:Fc) (cs:List Nat) (tg:Expr) (g:DG):Prop:=PG X tg (tGC cs c g)
theorem sgc_name {np:List Nat} {i:Nat} {x:Str} (hp:Np c np) (hN:X.N.Nodup) (hi:X.N[i]? = some x) (hx:Loc X.env.scope x) (hf:X.fn x=true∨X.env.scope.names.lookup x=some .local) (hc:i ∈ cs):SGC X c cs (.Name x pos) (gNm np i) :=
 PG.weak (pg_name hN hi hx hf) fun v σ H Q ⟨σ₀,δ₀,H₁,δ,r,δ',x,rr,e,q⟩=>by
  unfold gNm at e
  split at e
  ·cases e
  ·rename_i hn
   cases e
   refine q _ (Ok.set x rr fun p hm e=>hn (by rw [← e]; exact hp p hm)) ⟨by simp,fun j hj=>?_⟩
   rw [List.getElem?_set_ne (fun z=>hj (by rw [← z]; exact hc))]
def tGCs (cs:List Nat) (c:Fc) (g:DGs):TGs:=fun vs σ H Q=>∃ δ ds δ',Ok c σ δ H∧Reps H (Av c σ δ) vs ds∧g ds δ=some δ'∧∀ σ',Aft c σ δ H σ' δ' H→Out cs σ σ'→Q σ' H
abbrev SGCs (X:Cx) (c:Fc) (cs:List Nat) (tg:List Expr) (g:DGs):Prop:=PGs X tg (tGCs cs c g)
theorem sgcs_nil:SGCs X c cs [] gsNil:=PGs.weak pgs_nil fun vs σ H Q ⟨δ,ds,δ',k,r,e,q⟩=>by
 cases ds with
 | nil =>
  cases e
  have:vs=[]:=by have:=r.1; simpa using this
  exact ⟨this,q σ (.refl k) ⟨rfl,fun _ _=>rfl⟩⟩
 | cons d r=>cases e
theorem sgcs_cons {e:Expr} {es:List Expr} {g:DG} {gs:DGs} (h1:SGC X c cs e g) (h2:SGCs X c cs es gs) (hs:(assignEach (e :: es) X.env).map (·.2)=assign e X.env :: (assignEach es X.env).map (·.2):=by rfl):SGCs X c cs (e :: es) (gsCons g gs) :=
 PGs.weak (pgs_cons h1 h2 hs) fun vs σ H Q ⟨δ,ds,δ',k,r,e,q⟩=>by
  cases ds with
  | nil=>cases e
  | cons d ds =>
   cases vs with
   | nil=>have:=r.1; simp at this
   | cons v vs =>
    simp only [gsCons] at e
    cases e1:g (.pure d) δ with
    | none=>rw [e1] at e; cases e
    | some δ1 =>
     rw [e1] at e
     refine ⟨v,vs,rfl,σ,δ,H,δ,.pure d,δ1,.refl k,r.head,e1,fun σ1 a1 o1=>?_⟩
     exact ⟨δ1,ds,δ',a1.ok,Reps.aft r.tail a1,e,fun σ2 a2 o2=>q σ2 (a1.trans a2) (o1.trans o2)⟩
theorem sgc_tup {es:List Expr} {k:Nat} {gs:DGs} {n:Nat} (hc:X.calm=true) (h:SGCs X c cs es gs) (hn:(assignEach es X.env).length=n:=by rfl) (hst:(assignEach es X.env).findIdx? (·.1)=none:=by rfl) :
  SGC X c cs (.Tuple es k pos) (gTp n gs):=PG.weak (pg_tup hc h hn hst) fun v σ H Q hw=>by
 obtain ⟨σ₀,δ₀,H₁,δ,r,δ',x,rr,e,q⟩:=hw
 have hb:=rr.b
 unfold gTp at e
 generalize r.d=d at e hb
 cases d <;> first | (cases e; done) | skip
 rename_i ds
 simp only at e
 split at e
 ·rename_i hl
  obtain ⟨a,vs,ea,ha,ra⟩:=hb.tup
  exact ⟨a,vs,ea,.of ha,by rw [ra.1]; exact hl,δ,ds,δ',x.ok,ra,e,fun σ' a1 o1=>q σ' (x.trans a1) o1⟩
 ·cases e
theorem Aft.less {l:Addr} {σ σ':St} {δ δ':Dl} {H H':Hp} (x:Aft (c.plus l) σ δ H σ' δ' H'):Aft c σ δ H σ' δ' H':=⟨x.ok.less,x.keep,x.own,x.there⟩
theorem comp_weak {wi:TI} {gt:TG} {tt:TT} {te:TE} (hwi:∀ σ H R,tI c it σ H R→wi σ H R) (hg:∀ l v σ H Q,tGC cs (c.plus l) g v σ H Q→gt v σ H Q) (ht:∀ l σ H Q,tT (c.plus l) t σ H Q→tt σ H Q) (he:∀ l σ H Q,tD (c.plus l) el σ H Q→te σ H Q)
  (hp:∀ p ∈ c.pin,p.1 ∉ cs) {σ:St} {H:Hp} {Q:VK} (h:tD c (eComp cs it g t el) σ H Q):tComp cs wi gt tt te σ H Q:=by
 obtain ⟨δ,k,q⟩:=h
 unfold eComp at q
 rw [post_bind] at q
 refine hwi _ _ _ ⟨δ,k,post_mono q fun ds δ1 q1 J H1 a1 io=>?_⟩
 intro l hl
 split at q1
 ·exact q1.elim
 ·rename_i hno
  have hno':cs.any (isOwn δ1)=false:=by simpa using hno
  rw [post_bind] at q1
  have k1:=a1.ok
  have kp:=k1.plus hl (.lst [])
  have k0:Ok (c.plus l) (L2.clr cs σ) (clrD cs δ1) (upd H1 l (.lst [])):=kp.clr hp
  have up:∀ a w,H1 a=some w→upd H1 l (.lst []) a=some w:=fun a w e=>by
   rw [upd_ne (ne_of_none e hl)]; exact e
  have h0:c.H₀ l=none:=k1.fresh₀ hl
  -- the walked things,as the block sees them
  have io':ItOk (c.plus l) (L2.clr cs σ) (clrD cs δ1) H1 J ds:=by
   intro H2 kp2
   obtain ⟨s1,s2⟩:=io H2 fun a o e n=>kp2 a o e fun z=>n z.clr
   have cv:∀ {x:V} {d:D},Rep H1 (Av c σ δ1) x d→Rep H1 (Av (c.plus l) (L2.clr cs σ) (clrD cs δ1)) x d:=fun {x d} r =>
    r.anti fun b z=>by
     rcases z with (z | z) | z
     ·exact .inl (.inl z)
     ·exact .inr (by rw [z]; exact hl)
     ·exact .inl (.inr z.clr)
   refine ⟨s1,fun i d e=>⟨(s2 i d e).1,fun x H3 y=>?_⟩⟩
   rcases (s2 i d e).2 x H3 y with ⟨e3,r⟩ | ⟨p,vs,es,hp,e3,ex,ed,r⟩
   ·exact .inl ⟨e3,cv r⟩
   ·exact .inr ⟨p,vs,es,hp,e3,ex,ed,r.1,fun i v d e1 e2=>cv (r.2 i v d e1 e2)⟩
  let Fin:List D→Dl→Prop:=fun acc δ'=>∀ H' vs,Aft (c.plus l) (L2.clr cs σ) (clrD cs δ1) H1 (L2.clr cs σ) δ' H'→H' l=some (.lst vs)→Reps H' (Av (c.plus l) (L2.clr cs σ) δ') vs acc→Q (.ref l) H'
  have q2:post c (compL cs g t el ds (clrD cs δ1) []) Fin:=post_mono q1 fun acc δ2 q2 H' vs x hv r=>by
   have b1:Aft (c.plus l) σ δ1 H1 σ (backD cs δ1 δ2) H':=Aft.back k1 rfl (fun b z=>z.elim .inl fun z=>.inr (by rw [z]; exact hl)) hno' x
   have b2:Aft c σ δ1 H1 σ (backD cs δ1 δ2) H':=b1.less
   have len:δ1.length=δ2.length:=by
    have:=x.ok.len
    rw [clr_len] at this
    rw [this]; exact k1.len
   have hlH:H l=none:=by
    cases e:H l with
    | none=>rfl
    | some o =>
     obtain ⟨o',e'⟩:=a1.there l o e
     rw [hl] at e'; cases e'
   refine q2 _ H' (a1.trans b2) ⟨l,rfl,⟨vs,hv,Reps.anti r fun b z=>.inl ?_⟩,fun z=>k1.nav hl (.inl z),h0,b1.ok,hlH⟩
   rcases z with z | ⟨i,d,e1,e2⟩
   ·exact .inl z
   ·have hi:i ∉ cs:=fun hi=>by
     rw [backD_in cs δ1 δ2 i len hi] at e1
     have:=List.any_eq_false.mp hno' i hi
     unfold isOwn at this
     rw [e1] at this
     simp at this
    rw [backD_out cs δ1 δ2 i hi] at e1
    exact .inr ⟨i,d,e1,by rw [clr_out cs σ i hi]; exact e2⟩
  refine ⟨fun i m H2=>∃ δ2 acc vs,m=ds.length - i∧i≤ds.length∧Aft (c.plus l) (L2.clr cs σ) (clrD cs δ1) H1 (L2.clr cs σ) δ2 H2∧H2 l=some (.lst vs)∧Reps H2 (Av (c.plus l) (L2.clr cs σ) δ2) vs acc ∧
   post c (compL cs g t el (ds.drop i) δ2 acc) Fin,⟨ds.length,clrD cs δ1,[],[],by simp,Nat.zero_le _,⟨k0,fun a w e _=>up a w e,fun a z=>.inl z,fun a w e=>⟨w,up a w e⟩⟩,upd_same,.nil,by rw [List.drop_zero]; exact q2⟩,?_⟩
  rintro i m H2 ⟨δ2,acc,vs,rfl,hil,a2,hv,rv,p2⟩
  by_cases hlt:i < ds.length
  ·right
   have e:ds[i]? = some ds[i]:=by simp [hlt]
   rw [List.drop_eq_getElem_cons hlt] at p2
   refine ⟨((io' H2 a2.keep).2 i _ e).1,fun x H3 y=>hg l _ _ _ _ ?_⟩
   obtain ⟨a3,r3⟩:=turn_rep io' a2 e y
   simp only [compL] at p2
   cases eg:g (.pure ds[i]) δ2 with
   | none=>rw [eg] at p2; exact p2.elim
   | some δ3 =>
    rw [eg] at p2
    have p3:post c ((t δ3).bind fun b δ2=>if b then (el δ2).bind fun x δ3=>if acc.length < sizeLine then compL cs g t el (ds.drop (i + 1)) (clrD cs δ3) (acc ++ [x.d]) else .stuck
     else compL cs g t el (ds.drop (i + 1)) (clrD cs δ2) acc) Fin:=p2
    refine ⟨L2.clr cs σ,δ2,H3,δ2,.pure ds[i],δ3,.refl a3.ok,r3,eg,fun σ4 a4 o4=>?_⟩
    have le:Le (L2.clr cs σ) σ4:=⟨o4.1,fun j v ej=>by
     rw [o4.2 j (clr_get cs σ j v ej).2]; exact ej⟩
    have hs:∀ (j:Nat) v,σ4[j]? = some (some v)→j ∉ cs→σ[j]? = some (some v):=fun j v ej hj=>by
     rw [o4.2 j hj] at ej
     exact (clr_get cs σ j v ej).1
    refine ⟨le,ht l _ _ _ ⟨δ3,a4.ok,?_⟩⟩
    rw [post_bind] at p3
    have pinp:∀ p ∈ (c.plus l).pin,p.1 ∉ cs:=hp
    have a24:=a2.trans (a3.trans a4)
    have ln:∀ {σ':St} {δ':Dl} {H':Hp},Ok (c.plus l) σ' δ' H'→¬ Own σ' δ' l:=fun {σ' δ' H'} k=>plus_nown k
    have p3':post (c.plus l) (t δ3) fun b δ5=>post c (if b then (el δ5).bind fun x δ3=>if acc.length < sizeLine then compL cs g t el (ds.drop (i + 1)) (clrD cs δ3) (acc ++ [x.d]) else .stuck
     else compL cs g t el (ds.drop (i + 1)) (clrD cs δ5) acc) Fin:=p3
    refine post_mono p3' fun b δ5 p5 H5 a5=>?_
    have a25:=a24.trans a5
    have hv3:H3 l=some (.lst vs):=a3.keep l _ hv (ln a2.ok)
    have hv5:H5 l=some (.lst vs):=a5.keep l _ hv3 (ln a4.ok)
    have rv3:=Reps.aft (Reps.aft (Reps.aft rv a3) a4) a5
    cases b with
    | false =>
     have c5:=a25.clear le pinp hs
     refine ⟨ds.length - (i + 1),by omega,clrD cs δ5,acc,vs,rfl,hlt,c5,hv5,Reps.anti rv3 fun b z=>.inl ?_,p5⟩
     exact z.elim .inl fun ⟨j,d,e1,e2⟩=>.inr ⟨j,d,(clrD_get cs δ5 j _ e1).1,le.2 j _ e2⟩
    | true =>
     have p5':post c ((el δ5).bind fun x δ3=>if acc.length < sizeLine then compL cs g t el (ds.drop (i + 1)) (clrD cs δ3) (acc ++ [x.d]) else .stuck) Fin:=p5
     rw [post_bind] at p5'
     refine he l _ _ _ ⟨δ5,a5.ok,?_⟩
     have p6:post (c.plus l) (el δ5) fun x δ6=>post c (if acc.length < sizeLine then compL cs g t el (ds.drop (i + 1)) (clrD cs δ6) (acc ++ [x.d]) else .stuck) Fin:=p5'
     refine post_mono p6 fun x δ6 p7 v H6 a6 r6=>?_
     split at p7
     ·rename_i hz
      have a26:=a25.trans a6
      have hv6:H6 l=some (.lst vs):=a6.keep l _ hv5 (ln a5.ok)
      have rv6:=Reps.aft rv3 a6
      have rr:Reps H6 (Av (c.plus l) σ4 δ6) (vs ++ [v]) (acc ++ [x.d]):=rv6.append (.cons r6.rep .nil)
      have c6:=a26.clear le pinp hs
      have kpl:∀ b o,H6 b=some o→¬ Av (c.plus l) σ4 δ6 b→upd H6 l (.lst (vs ++ [v])) b=some o:=fun b o e n=>by
       rw [upd_ne (fun z=>n (by rw [z]; exact .inl (.inr rfl)))]; exact e
      have sub6:∀ b,Av (c.plus l) (L2.clr cs σ) (clrD cs δ6) b→Av (c.plus l) σ4 δ6 b:=fun b z=>z.elim .inl fun ⟨j,d,e1,e2⟩=>.inr ⟨j,d,(clrD_get cs δ6 j _ e1).1,le.2 j _ e2⟩
      refine ⟨vs,ds.length - (i + 1),hv6,by rw [rv6.1]; exact hz,by omega,clrD cs δ6,acc ++ [x.d],vs ++ [v],rfl,hlt,?_,upd_same,Reps.anti (Reps.keep rr kpl) fun b z=>.inl (sub6 b z),p7⟩
      -- the list that is built has grown
      refine ⟨c6.ok.updB (.inr rfl) h0 _,fun a o ea n=>?_,fun a z=>c6.own a z,fun a o ea=>?_⟩
      ·have hal:a≠l:=fun z=>by rw [z,hl] at ea; cases ea
       rw [upd_ne hal]; exact c6.keep a o ea n
      ·by_cases hal:a=l
       ·exact ⟨_,by rw [hal]; exact upd_same⟩
       ·obtain ⟨o',e'⟩:=c6.there a o ea
        exact ⟨o',by rw [upd_ne hal]; exact e'⟩
     ·exact p7.elim
  ·left
   have hi2:i=ds.length:=by omega
   subst hi2
   rw [List.drop_length] at p2
   exact ⟨(io' H2 a2.keep).1,p2 H2 vs a2 hv rv⟩
theorem se_comp (hc:X.calm=true) (S:CScope X scope cs) (hi:SI X c tg iter it) (hg:∀ l s₀ H₀ ex,SGC (compCx X scope s₀ H₀ ex) (c.plus l) cs tg g) (ht:∀ l s₀ H₀ ex,STs (compCx X scope s₀ H₀ ex) (c.plus l) ifs t)
  (he:∀ l s₀ H₀ ex,SE (compCx X scope s₀ H₀ ex) (c.plus l) elt el) (hp:∀ p ∈ c.pin,p.1 ∉ cs) (hs:∀ x,foldedSetIterable iter X.env x=pure x:=by intro _; rfl) :
  SE X c (.ListComp elt [⟨tg,iter,ifs,0⟩] scope pos) (eComp cs it g t el) :=
 PE.weak (pe_comp (g:=fun v σ H Q=>∃ l,tGC cs (c.plus l) g v σ H Q) (tt:=fun σ H Q=>∃ l,tT (c.plus l) t σ H Q) (te:=fun σ H Q=>∃ l,tD (c.plus l) el σ H Q) hc S hi
  (fun s₀ H₀ ex pins s σ H v u Q I r ⟨l,q⟩=>hg l s₀ H₀ ex pins s σ H v u Q I r q) (fun s₀ H₀ ex pins s σ H Q I ⟨l,q⟩=>ht l s₀ H₀ ex pins s σ H Q I q) (fun s₀ H₀ ex pins s σ H Q I ⟨l,q⟩=>he l s₀ H₀ ex pins s σ H Q I q) hs)
  fun σ H Q h=>comp_weak (fun _ _ _ h=>h) (fun l _ _ _ _ h=>⟨l,h⟩) (fun l _ _ _ h=>⟨l,h⟩) (fun l _ _ _ h=>⟨l,h⟩) hp h
theorem ss_setComp {np:List Nat} {i:Nat} {y:Str} {py spos:Pos} (hnp:Np c np) (hc:X.calm=true) (S:CScope X scope cs) (hN:X.N.Nodup) (hi':X.N[i]? = some y) (hy:X.env.scope.names.lookup y=some .local)
  (hi:SI X c tg iter it) (hg:∀ l s₀ H₀ ex,SGC (compCx X scope s₀ H₀ ex) (c.plus l) cs tg g) (ht:∀ l s₀ H₀ ex,STs (compCx X scope s₀ H₀ ex) (c.plus l) ifs t)
  (he:∀ l s₀ H₀ ex,SE (compCx X scope s₀ H₀ ex) (c.plus l) elt el) (hp:∀ p ∈ c.pin,p.1 ∉ cs)
  (hsw:swapsWith (.ListComp elt [⟨tg,iter,ifs,0⟩] scope pos) (some (.Name y py)) spos.line X.env=pure true:=by rfl) (hs:∀ x,foldedSetIterable iter X.env x=pure x:=by intro _; rfl) :
  SS X c (.Assign [.Name y py] (.ListComp elt [⟨tg,iter,ifs,0⟩] scope pos) spos) (dAsg (eComp cs it g t el) (gNm np i)) :=
 PS.weak (ps_setComp (g:=fun v σ H Q=>∃ l,tGC cs (c.plus l) g v σ H Q) (tt:=fun σ H Q=>∃ l,tT (c.plus l) t σ H Q) (te:=fun σ H Q=>∃ l,tD (c.plus l) el σ H Q) hc S hN hi' hy hi
  (fun s₀ H₀ ex pins s σ H v u Q I r ⟨l,q⟩=>hg l s₀ H₀ ex pins s σ H v u Q I r q) (fun s₀ H₀ ex pins s σ H Q I ⟨l,q⟩=>ht l s₀ H₀ ex pins s σ H Q I q) (fun s₀ H₀ ex pins s σ H Q I ⟨l,q⟩=>he l s₀ H₀ ex pins s σ H Q I q) hsw hs)
  fun D σ H h=>asg_weak (fun σ H Q h=>comp_weak (fun _ _ _ h=>h) (fun l _ _ _ _ h=>⟨l,h⟩) (fun l _ _ _ h=>⟨l,h⟩) (fun l _ _ _ h=>⟨l,h⟩) hp h) (fun _ _ _ _ h=>gnm_weak hnp h) h
end
open PySem PySem.Spec PyProof.Rows L2
abbrev DF:=List S→Option (S×List S)
def pinsOf:Nat→List S→List V→List (Nat×Addr)
 | n,.own _ :: ss,.ref a :: vs=>(n,a) :: pinsOf (n + 1) ss vs
 | n,_ :: ss,_ :: vs=>pinsOf (n + 1) ss vs
 | _,_,_=>[]
theorem mem_pinsOf:∀ {n:Nat} {ss:List S} {vs:List V} {i:Nat} {a:Addr},(i,a) ∈ pinsOf n ss vs→∃ j d,i=n + j∧ss[j]? = some (.own d)∧vs[j]? = some (.ref a)
 | n,[],vs,i,a,h=>by simp [pinsOf] at h
 | n,s :: ss,[],i,a,h=>by cases s <;> simp [pinsOf] at h
 | n,s :: ss,v :: vs,i,a,h=>by
  have rec':(i,a) ∈ pinsOf (n + 1) ss vs→∃ j d,i=n + j∧(s :: ss)[j]? = some (.own d)∧(v :: vs)[j]? = some (.ref a):=fun h=>by
   obtain ⟨j,d,e,h1,h2⟩:=mem_pinsOf h
   exact ⟨j + 1,d,by omega,by simpa using h1,by simpa using h2⟩
  cases s with
  | pure d=>exact rec' h
  | own d =>
   cases v with
   | ref b =>
    rcases List.mem_cons.mp h with e | h
    ·cases e
     exact ⟨0,d,rfl,rfl,rfl⟩
    ·exact rec' h
   | _=>exact rec' h
theorem of_pinsOf:∀ {n:Nat} {ss:List S} {vs:List V} {j:Nat} {d:D} {a:Addr},ss[j]? = some (.own d)→vs[j]? = some (.ref a)→(n + j,a) ∈ pinsOf n ss vs
 | n,[],vs,j,d,a,h,_=>by simp at h
 | n,s :: ss,[],j,d,a,_,h=>by simp at h
 | n,s :: ss,v :: vs,0,d,a,h1,h2=>by
  simp at h1 h2
  subst h1 h2
  exact List.mem_cons_self
 | n,s :: ss,v :: vs,j + 1,d,a,h1,h2=>by
  have ih:=of_pinsOf (n:=n + 1) (ss:=ss) (vs:=vs) (j:=j) (d:=d) (a:=a) (by simpa using h1) (by simpa using h2)
  have e:n + 1 + j=n + (j + 1):=by omega
  rw [e] at ih
  cases s with
  | pure d=>exact ih
  | own d =>
   cases v with
   | ref b=>exact List.mem_cons_of_mem _ ih
   | _=>exact ih
abbrev some' (vs:List V):St:=vs.map some
abbrev someS (ss:List S):Dl:=ss.map some
theorem someS_get {ss:List S} {i:Nat} {r:S}:(someS ss)[i]? = some (some r) ↔ ss[i]? = some r:=by
 rw [List.getElem?_map]
 cases ss[i]? <;> simp
theorem some'_get {vs:List V} {i:Nat} {v:V}:(some' vs)[i]? = some (some v) ↔ vs[i]? = some v:=by
 rw [List.getElem?_map]
 cases vs[i]? <;> simp
def spD (n:Nat) (G:DF):Sp:=fun vs H Q _=>∃ ss B,vs.length=n∧Ok ⟨H,B,pinsOf 0 ss vs,fun _ _=>False⟩ (some' vs) (someS ss) H∧∃ r outs,G ss=some (r,outs) ∧
 ∀ v H',Aft ⟨H,B,pinsOf 0 ss vs,fun _ _=>False⟩ (some' vs) (someS ss) H (some' vs) (someS outs) H'→RepS ⟨H,B,pinsOf 0 ss vs,fun _ _=>False⟩ (some' vs) (someS outs) H H' v r→Q v H'
def KFn (P:Program) (w:World) (K:PySem.W.Frag) (mg:Str→Option Value) (base:Heap) (k:Nat) (x:Str) (n:Nat) (G:DF):Prop :=
 ∃ (f:Addr) (fd:FuncData) (ps:List Str),mg x=some (.ref f)∧PySem.W.keepIn K (.ref f)=true∧Binds K fd ps []∧FnOk P w K mg base CX0 k f fd ps (spD n G)
def startD (n:Nat) (ss:List S):Dl:=someS ss ++ List.replicate (n - ss.length) none
def outsOf:Nat→List S→Dl→Option (List S)
 | _,[],_=>some []
 | n,.pure d :: ss,δ=>(outsOf (n + 1) ss δ).map (.pure d :: ·)
 | n,.own _ :: ss,δ=>match δ[n]? with
  | some (some (.own d'))=>(outsOf (n + 1) ss δ).map (.own d' :: ·)
  | _=>none
def resOf:Fl→Option S
 | .next=>some (.pure .non)
 | .ret r=>some r
 | _=>none
def runD (f:DS) (n:Nat) (ss:List S):Option (S×List S):=match f (startD n ss) with
 | .ok fl δ=>(resOf fl).bind fun r=>(outsOf 0 ss δ).map fun outs=>(r,outs)
 | _=>none
def ioOk (np:List Nat):Nat→List S→Bool
 | _,[]=>true
 | n,.own _ :: ss=>np.contains n && ioOk np (n + 1) ss
 | n,.pure _ :: ss=>ioOk np (n + 1) ss
theorem ioOk_at {np:List Nat}:∀ {n:Nat} {ss:List S} {j:Nat} {d:D},ioOk np n ss=true→ss[j]? = some (.own d)→np.contains (n + j)=true
 | n,[],j,d,_,h=>by simp at h
 | n,s :: ss,0,d,h,e=>by
  simp at e
  subst e
  simp only [ioOk,Bool.and_eq_true] at h
  exact h.1
 | n,s :: ss,j + 1,d,h,e=>by
  have h':ioOk np (n + 1) ss=true:=by
   cases s with
   | pure d=>exact h
   | own d=>simp only [ioOk,Bool.and_eq_true] at h; exact h.2
  have:=ioOk_at (n:=n + 1) (j:=j) h' (by simpa using e)
  rw [show n + (j + 1)=n + 1 + j by omega]
  exact this
theorem outs_at:∀ {n:Nat} {ss outs:List S} {δ:Dl},outsOf n ss δ=some outs→outs.length=ss.length∧∀ (i:Nat) s,ss[i]? = some s→(∃ d,s = .pure d∧outs[i]? = some (.pure d))∨∃ d d',s = .own d∧δ[n + i]? = some (some (.own d'))∧outs[i]? = some (.own d')
 | n,[],outs,δ,h=>by
  simp only [outsOf,Option.some.injEq] at h
  subst h
  exact ⟨rfl,fun i s e=>by simp at e⟩
 | n,.pure d :: ss,outs,δ,h=>by
  simp only [outsOf] at h
  cases e:outsOf (n + 1) ss δ with
  | none=>rw [e] at h; cases h
  | some os =>
   rw [e] at h
   simp only [Option.map_some,Option.some.injEq] at h
   subst h
   obtain ⟨h1,h2⟩:=outs_at e
   refine ⟨by simp [h1],fun i s es=>?_⟩
   cases i with
   | zero=>simp at es; subst es; exact .inl ⟨d,rfl,rfl⟩
   | succ i =>
    rcases h2 i s (by simpa using es) with ⟨d,z1,z2⟩ | ⟨d,d',z1,z2,z3⟩
    ·exact .inl ⟨d,z1,by simpa using z2⟩
    ·exact .inr ⟨d,d',z1,by rw [show n + (i + 1)=n + 1 + i by omega]; exact z2,by simpa using z3⟩
 | n,.own d :: ss,outs,δ,h=>by
  simp only [outsOf] at h
  split at h
  ·rename_i d' ed
   cases e:outsOf (n + 1) ss δ with
   | none=>rw [e] at h; cases h
   | some os =>
    rw [e] at h
    simp only [Option.map_some,Option.some.injEq] at h
    subst h
    obtain ⟨h1,h2⟩:=outs_at e
    refine ⟨by simp [h1],fun i s es=>?_⟩
    cases i with
    | zero=>simp at es; subst es; exact .inr ⟨d,d',rfl,ed,rfl⟩
    | succ i =>
     rcases h2 i s (by simpa using es) with ⟨d,z1,z2⟩ | ⟨d,d',z1,z2,z3⟩
     ·exact .inl ⟨d,z1,by simpa using z2⟩
     ·exact .inr ⟨d,d',z1,by rw [show n + (i + 1)=n + 1 + i by omega]; exact z2,by simpa using z3⟩
  ·cases h
section
variable {c:Fc} {H H':Hp} {vs:List V} {ss outs:List S} {σ':St} {δ':Dl}
theorem rep_get {α:Type} {l:List (Option α)} {k i:Nat} {v:α} (h:(l ++ List.replicate k none)[i]? = some (some v)):l[i]? = some (some v):=by
 by_cases hi:i < l.length
 ·rw [List.getElem?_append_left hi] at h; exact h
 ·rw [List.getElem?_append_right (by omega),List.getElem?_replicate] at h
  split at h <;> cases h
theorem rep_put {α:Type} {l:List (Option α)} {k i:Nat} {v:α} (h:l[i]? = some (some v)):(l ++ List.replicate k none)[i]? = some (some v):=by
 have hi:i < l.length:=(List.getElem?_eq_some_iff.mp h).1
 rw [List.getElem?_append_left hi]; exact h
theorem Own.ext {σ:St} {δ:Dl} {k:Nat} {a:Addr}:Own (σ ++ List.replicate k none) (δ ++ List.replicate k none) a ↔ Own σ δ a :=
 ⟨fun ⟨i,d,e1,e2⟩=>⟨i,d,rep_get e1,rep_get e2⟩,fun ⟨i,d,e1,e2⟩=>⟨i,d,rep_put e1,rep_put e2⟩⟩
theorem Ok.ext {σ:St} {δ:Dl} (k:Ok c σ δ H) (n:Nat):Ok c (σ ++ List.replicate n none) (δ ++ List.replicate n none) H:=by
 have sub:∀ b,Av c (σ ++ List.replicate n none) (δ ++ List.replicate n none) b→Av c σ δ b:=fun b z=>z.elim .inl fun z=>.inr (Own.ext.mp z)
 refine ⟨k.keep,k.bd,k.ith,by simp [k.len],fun i d e=>?_,fun i d e=>?_,fun i j a d d' e1 e2 e3 e4=>k.inj i j a d d' (rep_get e1) (rep_get e2) (rep_get e3) (rep_get e4),fun p hm=>rep_put (k.pinned p hm)⟩
 ·obtain ⟨v,h1,h2⟩:=k.slot i d (rep_get e)
  exact ⟨v,rep_put h1,h2.anti fun b z=>.inl (sub b z)⟩
 ·obtain ⟨a,h1,h2,h3⟩:=k.own i d (rep_get e)
  exact ⟨a,rep_put h1,h2.anti fun b z=>.inl (sub b z),h3⟩
theorem leave {B:Addr→Prop} {n:Nat} (hc:c = ⟨H,B,pinsOf 0 ss vs,fun _ _=>False⟩) (k:Ok c (some' vs) (someS ss) H) (x:Aft c (some' vs ++ List.replicate n none) (someS ss ++ List.replicate n none) H σ' δ' H') (ho:outsOf 0 ss δ'=some outs) :
  Aft c (some' vs) (someS ss) H (some' vs) (someS outs) H'∧∀ v r,RepS c σ' δ' H H' v r→RepS c (some' vs) (someS outs) H H' v r:=by
 obtain ⟨hlen,hat⟩:=outs_at ho
 have hvs:ss.length=vs.length:=by have:=k.len; simpa using this
 have pin:∀ (i:Nat) (a:Addr) (d:D),ss[i]? = some (.own d)→vs[i]? = some (.ref a)→σ'[i]? = some (some (.ref a)):=fun i a d h1 h2=>by
  have:=of_pinsOf (n:=0) h1 h2
  rw [Nat.zero_add] at this
  exact x.ok.pinned (i,a) (by rw [hc]; exact this)
 have ownS:∀ (i:Nat) (d:D),outs[i]? = some (.own d)→(∃ d₀,ss[i]? = some (.own d₀))∧δ'[i]? = some (some (.own d)):=fun i d e=>by
  have hi:i < ss.length:=by rw [← hlen]; exact (List.getElem?_eq_some_iff.mp e).1
  rcases hat i ss[i] (by simp [hi]) with ⟨d₁,z1,z2⟩ | ⟨d₁,d',z1,z2,z3⟩
  ·rw [e] at z2; cases z2
  ·rw [e] at z3; cases z3
   rw [Nat.zero_add] at z2
   exact ⟨⟨d₁,by rw [List.getElem?_eq_getElem hi,z1]⟩,z2⟩
 have sub:∀ b,Own (some' vs) (someS outs) b→Own σ' δ' b:=fun b ⟨i,d,e1,e2⟩=>by
  obtain ⟨⟨d₀,h0⟩,h1⟩:=ownS i d (someS_get.mp e1)
  exact ⟨i,d,h1,pin i b d₀ h0 (some'_get.mp e2)⟩
 have subA:∀ b,Av c (some' vs) (someS outs) b→Av c σ' δ' b:=fun b z=>z.elim .inl fun z=>.inr (sub b z)
 have okO:∀ {c':Fc},c'.pin=c.pin→Ok c' σ' δ' H'→(∀ b,c.B b→c'.B b)→(∀ (i:Nat) d v,ss[i]? = some (.pure d)→vs[i]? = some v→Rep H' (Av c' σ' δ') v d)→Ok c' (some' vs) (someS outs) H':=fun {c'} ep k' hB hsl=>by
  have subA':∀ b,Av c' (some' vs) (someS outs) b→Av c' σ' δ' b:=fun b z=>z.elim .inl fun z=>.inr (sub b z)
  refine ⟨k'.keep,k'.bd,k'.ith,by simp [hlen,hvs],fun i d e=>?_,fun i d e=>?_,fun i j a d d' e1 e2 e3 e4=>?_,fun p hm=>?_⟩
  ·have e':=someS_get.mp e
   have hi:i < ss.length:=by rw [← hlen]; exact (List.getElem?_eq_some_iff.mp e').1
   have hv:i < vs.length:=by omega
   rcases hat i ss[i] (by simp [hi]) with ⟨d₁,z1,z2⟩ | ⟨d₁,d',z1,z2,z3⟩
   ·rw [e'] at z2; cases z2
    exact ⟨vs[i],by simp [hv],(hsl i d vs[i] (by rw [List.getElem?_eq_getElem hi,z1]) (by simp [hv])).anti fun b z=>.inl (subA' b z)⟩
   ·rw [e'] at z3; cases z3
  ·have e':=someS_get.mp e
   obtain ⟨⟨d₀,h0⟩,h1⟩:=ownS i d e'
   obtain ⟨a₀,h2,_⟩:=k.own i d₀ (someS_get.mpr h0)
   obtain ⟨a,h3,h4,h5⟩:=k'.own i d h1
   rw [pin i a₀ d₀ h0 (some'_get.mp h2)] at h3
   cases h3
   exact ⟨a₀,h2,h4.anti fun b z=>.inl (subA' b z),h5⟩
  ·obtain ⟨⟨d₀,h0⟩,h1⟩:=ownS i d (someS_get.mp e1)
   obtain ⟨⟨d₁,h2⟩,h3⟩:=ownS j d' (someS_get.mp e2)
   exact k'.inj i j a d d' h1 h3 (pin i a d₀ h0 (some'_get.mp e3)) (pin j a d₁ h2 (some'_get.mp e4))
  ·exact k.pinned p (by rw [← ep]; exact hm)
 have slots:∀ (i:Nat) d v,ss[i]? = some (.pure d)→vs[i]? = some v→Rep H' (Av c σ' δ') v d:=fun i d v h1 h2=>by
  obtain ⟨w,e1,r⟩:=(k.ext n).slot i d (rep_put (someS_get.mpr h1))
  rw [rep_put (some'_get.mpr h2)] at e1
  cases e1
  exact Rep.aft r x
 refine ⟨⟨okO rfl x.ok (fun _ z=>z) slots,fun a o e m=>x.keep a o e fun z=>m (Own.ext.mp z),fun a z=>(x.own a (sub a z)).elim (fun z=>.inl (Own.ext.mp z)) .inr,x.there⟩,fun v r hr=>?_⟩
 cases r with
 | pure d=>exact Rep.anti hr fun b z=>.inl (subA b z)
 | own d =>
  obtain ⟨a,ea,o,nb,h0,kp,hs⟩:=hr
  refine ⟨a,ea,o.anti fun b z=>.inl (z.elim .inl fun z=>.inr (sub b z)),nb,h0,okO rfl kp (fun _ z=>.inl z) fun i d v h1 h2=>?_,hs⟩
  obtain ⟨w,e1,r⟩:=(k.ext n).slot i d (rep_put (someS_get.mpr h1))
  rw [rep_put (some'_get.mpr h2)] at e1
  cases e1
  have hHa:H a=none:=hs
  have r1:Rep H (Av c (some' vs ++ List.replicate n none) (someS ss ++ List.replicate n none)) v d:=r
  have r2:Rep H (fun b=>Av c (some' vs ++ List.replicate n none) (someS ss ++ List.replicate n none) b∨Av (c.plus a) σ' δ' b) v d:=r1.anti fun b z=>by
   rcases z with z | (z | z) | z
   ·exact .inl z
   ·exact .inl (.inl z)
   ·exact .inr (by rw [z]; exact hHa)
   ·rcases x.own b z with q | q
    ·exact .inl (.inr q)
    ·exact .inr q
  exact (r2.keep fun b o e m=>x.keep b o e fun z=>m (.inl (.inr z))).anti fun b z=>.inl (.inr z)
end
section
variable {P:Program} {w:World} {K:PySem.W.Frag} {mg:Str→Option Value} {base:Heap}
theorem fn_ok {x qual:Str} {st:Stmt} {f:Addr} {fd:FuncData} {N ps:List Str} {k:Nat} {np:List Nat} {fb:DS} {G:DF} (F:Fun K x qual st f fd) (S:FnScope N ps (defScope st))
  (hbody:∀ (c:Fc) (cdv:Value) (A:Around) (outer:List Env) (s:Shared) (H:Hp) (E:XK),Room k (A.deeper (envOfC qual (defScope st) s.heap.objs.size f cdv))→Np c np→SSs (cxOf CX0 P w K mg base N qual (defScope st) f cdv A outer s H E).nox c (defBody st) fb)
  (hG:∀ ss y,G ss=some y→ioOk np 0 ss=true∧runD fb N.length ss=some y):FnOk P w K mg base CX0 (k + 1) f fd ps (spD ps.length G):=by
 refine F.ok S (fun vs H Q E h=>?_) fun cdv A outer s H vs Q E hr h=>?_
 ·obtain ⟨ss,B,hl,_⟩:=h
  exact hl
 ·obtain ⟨ss,B,hl,ok,r,outs,hg,q⟩:=h
  obtain ⟨hio,hrun⟩:=hG ss _ hg
  have hvs:ss.length=vs.length:=by have:=ok.len; simpa using this
  have np':Np ⟨H,B,pinsOf 0 ss vs,fun _ _=>False⟩ np:=fun p hp=>by
   obtain ⟨j,d,e,h1,_⟩:=mem_pinsOf (i:=p.1) (a:=p.2) hp
   rw [e]
   exact ioOk_at hio h1
  refine ⟨tDS ⟨H,B,pinsOf 0 ss vs,fun _ _=>False⟩ fb,hbody ⟨H,B,pinsOf 0 ss vs,fun _ _=>False⟩ cdv A outer s H E hr np',?_⟩
  have hst:start N vs=some' vs ++ List.replicate (N.length - ss.length) none:=by rw [hvs]; rfl
  refine ⟨startD N.length ss,by rw [hst]; exact ok.ext _,?_⟩
  unfold runD at hrun
  unfold sPost
  cases e:fb (startD N.length ss) with
  | exc x δx=>rw [e] at hrun; cases hrun
  | stuck=>rw [e] at hrun; cases hrun
  | ok fl δ' =>
   rw [e] at hrun
   show ∀ σ' H',Aft _ (start N vs) (startD N.length ss) H σ' δ' H'→fin _ _ σ' δ' H' fl
   intro σ' H' a
   rw [hst] at a
   simp only at hrun
   cases fl with
   | brk=>cases hrun
   | cont=>cases hrun
   | next =>
    simp only [resOf,Option.bind_some] at hrun
    cases eo:outsOf 0 ss δ' with
    | none=>rw [eo] at hrun; cases hrun
    | some os =>
     rw [eo] at hrun
     cases hrun
     obtain ⟨l1,l2⟩:=leave rfl ok a eo
     exact q .non H' l1 .non
   | ret r' =>
    simp only [resOf,Option.bind_some] at hrun
    cases eo:outsOf 0 ss δ' with
    | none=>rw [eo] at hrun; cases hrun
    | some os =>
     rw [eo] at hrun
     cases hrun
     obtain ⟨l1,l2⟩:=leave rfl ok a eo
     exact fun v rv=>q v H' l1 (l2 v _ rv)
theorem fn_def {x qual:Str} {st:Stmt} {f:Addr} {fd:FuncData} {N ps:List Str} {k:Nat} {np:List Nat} {fb:DS} {G:DF} (F:Fun K x qual st f fd) (hm:mg x=some (.ref f)) (hb:Binds K fd ps []) (S:FnScope N ps (defScope st))
  (hbody:∀ (c:Fc) (cdv:Value) (A:Around) (outer:List Env) (s:Shared) (H:Hp) (E:XK),Room k (A.deeper (envOfC qual (defScope st) s.heap.objs.size f cdv))→Np c np→SSs (cxOf CX0 P w K mg base N qual (defScope st) f cdv A outer s H E).nox c (defBody st) fb)
  (hG:∀ ss y,G ss=some y→ioOk np 0 ss=true∧runD fb N.length ss=some y):KFn P w K mg base (k + 1) x ps.length G:=⟨f,fd,ps,hm,F.kp,hb,fn_ok F S hbody hG⟩
end
open PySem PySem.Spec PyProof.Rows L2
inductive Ak where
 | val (f:DE)
 | io (i:Nat)
def evX:List Ak→Dl→Rs (List (Option D))
 | [],δ=>.ok [] δ
 | .val f :: r,δ=>(f δ).bind fun x δ1=>(evX r δ1).bind fun xs δ2=>.ok (some x.d :: xs) δ2
 | .io _ :: r,δ=>(evX r δ).bind fun xs δ2=>.ok (none :: xs) δ2
inductive ArgR (c:Fc) (σ:St) (δ:Dl) (H:Hp):List V→List Ak→List (Option D)→Prop
 | nil:ArgR c σ δ H [] [] []
 | val {v:V} {d:D} {f:DE} {vs:List V} {as:List Ak} {ds:List (Option D)}:Rep H (Av c σ δ) v d→ArgR c σ δ H vs as ds→ArgR c σ δ H (v :: vs) (.val f :: as) (some d :: ds)
 | io {v:V} {i:Nat} {vs:List V} {as:List Ak} {ds:List (Option D)}:σ[i]? = some (some v)→ArgR c σ δ H vs as ds→ArgR c σ δ H (v :: vs) (.io i :: as) (none :: ds)
theorem ArgR.aft {c:Fc} {σ:St} {δ δ':Dl} {H H':Hp} {vs:List V} {as:List Ak} {ds:List (Option D)} (h:ArgR c σ δ H vs as ds) (x:Aft c σ δ H σ δ' H'):ArgR c σ δ' H' vs as ds:=by
 induction h with
 | nil=>exact .nil
 | val r _ ih=>exact .val (Rep.aft r x) ih
 | io e _ ih=>exact .io e ih
def tX (c:Fc) (as:List Ak):TA:=fun σ H Q=>∃ δ,Ok c σ δ H∧(∀ i,Ak.io i ∈ as→∃ v,σ[i]? = some (some v))∧post c (evX as δ) fun ds δ'=>∀ vs H',Aft c σ δ H σ δ' H'→ArgR c σ δ' H' vs as ds→Q vs H'
abbrev SX (X:Cx) (c:Fc) (es:List Expr) (as:List Ak):Prop:=PA X es (tX c as)
section
variable {X:Cx} {c:Fc} {e:Expr} {es:List Expr} {fe:DE} {as:List Ak} {pos pp:Pos}
theorem sx_nil:SX X c [] []:=PA.weak pa_nil fun σ H Q ⟨δ,k,_,q⟩=>q [] H (.refl k) .nil
theorem sx_val (ha:SE X c e fe) (hr:SX X c es as) (hs:starEach (e :: es) X.env=(false,eval e X.env) :: starEach es X.env:=by rfl):SX X c (e :: es) (.val fe :: as):=PA.weak (pa_cons ha hr hs) fun σ H Q ⟨δ,k,hio,q⟩=>by
 unfold evX at q
 rw [post_bind] at q
 refine ⟨δ,k,post_mono q fun x δ1 q1 v H1 a1 r1=>⟨δ1,a1.ok,fun i hi=>hio i (List.mem_cons_of_mem _ hi),?_⟩⟩
 rw [post_bind] at q1
 exact post_mono q1 fun xs δ2 q2 vs H2 a2 r2=>q2 (v :: vs) H2 (a1.trans a2) (.val (Rep.aft r1.rep a2) r2)
theorem sx_io {i:Nat} (ha:PE X e (tVar i)) (hr:SX X c es as) (hs:starEach (e :: es) X.env=(false,eval e X.env) :: starEach es X.env:=by rfl):SX X c (e :: es) (.io i :: as):=PA.weak (pa_cons ha hr hs) fun σ H Q ⟨δ,k,hio,q⟩=>by
 obtain ⟨v,ev⟩:=hio i List.mem_cons_self
 unfold evX at q
 rw [post_bind] at q
 exact ⟨v,ev,δ,k,fun i hi=>hio i (List.mem_cons_of_mem _ hi),post_mono q fun xs δ2 q2 vs H2 a2 r2=>q2 (v :: vs) H2 a2 (.io ev r2)⟩
end
def mkA:List Ak→List (Option D)→Dl→Option (List S)
 | [],[],_=>some []
 | .val _ :: as,some d :: ds,δ=>(mkA as ds δ).map (.pure d :: ·)
 | .io i :: as,none :: ds,δ=>match δ[i]? with
  | some (some (.own d))=>(mkA as ds δ).map (.own d :: ·)
  | _=>none
 | _,_,_=>none
def ios:List Ak→List Nat
 | []=>[]
 | .val _ :: as=>ios as
 | .io i :: as=>i :: ios as
def putA:List Ak→List S→Dl→Dl
 | .io i :: as,r :: rs,δ=>putA as rs (δ.set i (some r))
 | .val _ :: as,_ :: rs,δ=>putA as rs δ
 | _,_,δ=>δ
def ndup:List Nat→Bool
 | []=>true
 | i :: r=>!r.contains i && ndup r
def eCall (G:DF) (as:List Ak):DE:=fun δ=>if (ios as).all (isOwn δ) && ndup (ios as) then (evX as δ).bind fun ds δ1=>match mkA as ds δ1 with
  | none=>.stuck
  | some ss=>match G ss with
   | none=>.stuck
   | some (r,outs)=>.ok r (putA as outs δ1)
 else .stuck
theorem ndup_nodup:∀ {l:List Nat},ndup l=true→l.Nodup
 | [],_=>.nil
 | i :: r,h=>by
  simp only [ndup,Bool.and_eq_true,Bool.not_eq_true'] at h
  exact List.nodup_cons.mpr ⟨fun hm=>by have:=h.1; simp at this; exact this hm,ndup_nodup h.2⟩
theorem ios_mem:∀ {as:List Ak} {i:Nat},i ∈ ios as ↔ Ak.io i ∈ as
 | [],i=>by simp [ios]
 | .val f :: as,i=>by simp [ios,ios_mem (as:=as)]
 | .io j :: as,i=>by simp [ios,ios_mem (as:=as)]
theorem ios_at:∀ {as:List Ak} {i j k:Nat},(ios as).Nodup→as[j]? = some (.io i)→as[k]? = some (.io i)→j=k
 | [],i,j,k,_,h,_=>by simp at h
 | .val f :: as,i,j,k,nd,h1,h2=>by
  cases j with
  | zero=>simp at h1
  | succ j =>
   cases k with
   | zero=>simp at h2
   | succ k=>exact congrArg (· + 1) (ios_at (as:=as) nd (by simpa using h1) (by simpa using h2))
 | .io n :: as,i,j,k,nd,h1,h2=>by
  have nd':=List.nodup_cons.mp nd
  cases j with
  | zero =>
   simp at h1
   subst h1
   cases k with
   | zero=>rfl
   | succ k=>exact absurd (ios_mem.mpr (List.mem_of_getElem? (by simpa using h2))) nd'.1
  | succ j =>
   cases k with
   | zero =>
    simp at h2
    subst h2
    exact absurd (ios_mem.mpr (List.mem_of_getElem? (by simpa using h1))) nd'.1
   | succ k=>exact congrArg (· + 1) (ios_at (as:=as) nd'.2 (by simpa using h1) (by simpa using h2))
section
variable {c:Fc} {σ:St} {δ:Dl} {H:Hp} {vs:List V} {as:List Ak} {ds:List (Option D)} {ss:List S}
theorem mkA_at (h:ArgR c σ δ H vs as ds):∀ {ss:List S},mkA as ds δ=some ss→ss.length=vs.length∧as.length=vs.length∧∀ (j:Nat) s v,ss[j]? = some s→vs[j]? = some v →
  (∃ d f,s = .pure d∧as[j]? = some (.val f)∧Rep H (Av c σ δ) v d)∨∃ d i,s = .own d∧as[j]? = some (.io i)∧σ[i]? = some (some v)∧δ[i]? = some (some (.own d)):=by
 induction h with
 | nil =>
  intro ss h
  simp only [mkA,Option.some.injEq] at h
  subst h
  exact ⟨rfl,rfl,fun j s v e _=>by simp at e⟩
 | @val v d f vs as ds r _ ih =>
  intro ss h
  simp only [mkA] at h
  cases e:mkA as ds δ with
  | none=>rw [e] at h; cases h
  | some rs =>
   rw [e] at h
   simp only [Option.map_some,Option.some.injEq] at h
   subst h
   obtain ⟨h1,h2,h3⟩:=ih e
   refine ⟨by simp [h1],by simp [h2],fun j s v' e1 e2=>?_⟩
   cases j with
   | zero=>simp at e1 e2; subst e1 e2; exact .inl ⟨d,f,rfl,rfl,r⟩
   | succ j=>simpa using h3 j s v' (by simpa using e1) (by simpa using e2)
 | @io v i vs as ds ev _ ih =>
  intro ss h
  simp only [mkA] at h
  split at h
  ·rename_i d ed
   cases e:mkA as ds δ with
   | none=>rw [e] at h; cases h
   | some rs =>
    rw [e] at h
    simp only [Option.map_some,Option.some.injEq] at h
    subst h
    obtain ⟨h1,h2,h3⟩:=ih e
    refine ⟨by simp [h1],by simp [h2],fun j s v' e1 e2=>?_⟩
    cases j with
    | zero=>simp at e1 e2; subst e1 e2; exact .inr ⟨d,i,rfl,rfl,ev,ed⟩
    | succ j=>simpa using h3 j s v' (by simpa using e1) (by simpa using e2)
  ·cases h
theorem putA_len:∀ (as:List Ak) (rs:List S) (δ:Dl),(putA as rs δ).length=δ.length
 | [],rs,δ=>by simp [putA]
 | .val f :: as,[],δ=>by simp [putA]
 | .io i :: as,[],δ=>by simp [putA]
 | .val f :: as,r :: rs,δ=>by simp [putA,putA_len as rs δ]
 | .io i :: as,r :: rs,δ=>by simp [putA,putA_len as rs]
theorem putA_out:∀ (as:List Ak) (rs:List S) (δ:Dl) (i:Nat),i ∉ ios as→(putA as rs δ)[i]? = δ[i]?
 | [],rs,δ,i,_=>by simp [putA]
 | .val f :: as,[],δ,i,_=>by simp [putA]
 | .io j :: as,[],δ,i,_=>by simp [putA]
 | .val f :: as,r :: rs,δ,i,h=>by rw [putA]; exact putA_out as rs δ i h
 | .io j :: as,r :: rs,δ,i,h=>by
  simp only [ios,List.mem_cons,not_or] at h
  rw [putA,putA_out as rs _ i h.2,List.getElem?_set_ne (Ne.symm h.1)]
theorem putA_in:∀ (as:List Ak) (rs:List S) (δ:Dl) (i j:Nat) (r:S),(ios as).Nodup→as[j]? = some (.io i)→rs[j]? = some r→i < δ.length→(putA as rs δ)[i]? = some (some r)
 | [],rs,δ,i,j,r,_,h,_,_=>by simp at h
 | a :: as,[],δ,i,j,r,_,_,h,_=>by simp at h
 | .val f :: as,r0 :: rs,δ,i,j,r,nd,h1,h2,hi=>by
  cases j with
  | zero=>simp at h1
  | succ j=>rw [putA]; exact putA_in as rs δ i j r nd (by simpa using h1) (by simpa using h2) hi
 | .io k :: as,r0 :: rs,δ,i,j,r,nd,h1,h2,hi=>by
  have nd':=List.nodup_cons.mp nd
  cases j with
  | zero =>
   simp at h1 h2
   subst h1 h2
   rw [putA,putA_out as rs _ k nd'.1,List.getElem?_set_self hi]
  | succ j=>rw [putA]; exact putA_in as rs _ i j r nd'.2 (by simpa using h1) (by simpa using h2) (by simpa using hi)
theorem call_in (k:Ok c σ δ H) (hr:ArgR c σ δ H vs as ds) (hm:mkA as ds δ=some ss) (nd:(ios as).Nodup) :
  Ok ⟨H,fun a=>Av c σ δ a∧¬ ∃ (j:Nat) (d:D),ss[j]? = some (S.own d)∧vs[j]? = some (V.ref a),pinsOf 0 ss vs,fun _ _=>False⟩ (some' vs) (someS ss) H:=by
 obtain ⟨h1,h2,h3⟩:=mkA_at hr hm
 have at':∀ (j:Nat) s,ss[j]? = some s→∃ v,vs[j]? = some v:=fun j s e=>by
  have:j < vs.length:=by rw [← h1]; exact (List.getElem?_eq_some_iff.mp e).1
  exact ⟨vs[j],by simp [this]⟩
 have ownE:∀ a,Own (some' vs) (someS ss) a ↔ ∃ (j:Nat) (d:D),ss[j]? = some (S.own d)∧vs[j]? = some (V.ref a):=fun a =>
  ⟨fun ⟨j,d,e1,e2⟩=>⟨j,d,someS_get.mp e1,some'_get.mp e2⟩,fun ⟨j,d,e1,e2⟩=>⟨j,d,someS_get.mpr e1,some'_get.mpr e2⟩⟩
 have own2:∀ a,Own (some' vs) (someS ss) a→Own σ δ a:=fun a z=>by
  obtain ⟨j,d,e1,e2⟩:=(ownE a).mp z
  rcases h3 j _ _ e1 e2 with ⟨d',f,e,_⟩ | ⟨d',i,e,_,es,ed⟩
  ·cases e
  ·exact ⟨i,d',ed,es⟩
 have sub:∀ a,Av ⟨H,fun a=>Av c σ δ a∧¬ ∃ (j:Nat) (d:D),ss[j]? = some (S.own d)∧vs[j]? = some (V.ref a),pinsOf 0 ss vs,fun _ _=>False⟩ (some' vs) (someS ss) a→Av c σ δ a:=fun a z=>z.elim (fun z=>z.1) fun z=>.inr (own2 a z)
 refine ⟨fun a o e _=>e,fun a z=>k.avthere z.1,fun a ⟨i,hi⟩=>?_,by simp [h1],fun j d e=>?_,fun j d e=>?_,fun i j a d d' e1 e2 e3 e4=>?_,fun p hp=>?_⟩
 ·obtain ⟨j,d,_,e1,e2⟩:=mem_pinsOf hi
  exact k.othere (own2 a ((ownE a).mpr ⟨j,d,e1,e2⟩))
 ·have e':=someS_get.mp e
  obtain ⟨v,ev⟩:=at' j _ e'
  rcases h3 j _ v e' ev with ⟨d',f,e,_,r⟩ | ⟨d',i,e,_⟩
  ·cases e
   exact ⟨v,some'_get.mpr ev,r.anti fun b z=>.inl (sub b z)⟩
  ·cases e
 ·have e':=someS_get.mp e
  obtain ⟨v,ev⟩:=at' j _ e'
  rcases h3 j _ v e' ev with ⟨d',f,e,_,r⟩ | ⟨d',i,e,_,es,ed⟩
  ·cases e
  ·cases e
   obtain ⟨a,g1,g2,g3⟩:=k.own i d ed
   rw [es] at g1
   cases g1
   refine ⟨a,some'_get.mpr ev,g2.anti fun b z=>.inl (sub b z),.inl ⟨0 + j,of_pinsOf e' ev⟩,fun z=>z.2 ⟨j,d,e',ev⟩⟩
 ·have f1:=someS_get.mp e1
  have f2:=someS_get.mp e2
  rcases h3 i _ _ f1 (some'_get.mp e3) with ⟨_,_,e,_⟩ | ⟨d1,i1,e,a1,s1,x1⟩
  ·cases e
  ·rcases h3 j _ _ f2 (some'_get.mp e4) with ⟨_,_,e',_⟩ | ⟨d2,i2,e',a2,s2,x2⟩
   ·cases e'
   ·have:=k.inj i1 i2 a d1 d2 x1 x2 s1 s2
    subst this
    exact ios_at nd a1 a2
 ·obtain ⟨j,d,e,e1,e2⟩:=mem_pinsOf (i:=p.1) (a:=p.2) hp
  rw [Nat.zero_add] at e
  rw [e]
  exact some'_get.mpr e2
theorem call_out {H':Hp} {outs:List S} (k:Ok c σ δ H) (hr:ArgR c σ δ H vs as ds) (hm:mkA as ds δ=some ss) (nd:(ios as).Nodup) {B:Addr→Prop} (hB:B=fun a=>Av c σ δ a∧¬ ∃ (j:Nat) (d:D),ss[j]? = some (S.own d)∧vs[j]? = some (V.ref a))
  (x:Aft ⟨H,B,pinsOf 0 ss vs,fun _ _=>False⟩ (some' vs) (someS ss) H (some' vs) (someS outs) H') (hio:∀ (j:Nat) d,ss[j]? = some (.own d)→∃ d',outs[j]? = some (.own d')) (hpo:∀ (j:Nat) d,ss[j]? = some (.pure d)→∃ d',outs[j]? = some (.pure d')) :
  Aft c σ δ H σ (putA as outs δ) H'∧∀ v r,RepS ⟨H,B,pinsOf 0 ss vs,fun _ _=>False⟩ (some' vs) (someS outs) H H' v r→RepS c σ (putA as outs δ) H H' v r:=by
 obtain ⟨h1,h2,h3⟩:=mkA_at hr hm
 have inIdx:∀ i,i ∈ ios as→∃ (j:Nat) (d:D) (a:Addr),as[j]? = some (.io i)∧ss[j]? = some (.own d)∧vs[j]? = some (.ref a)∧σ[i]? = some (some (.ref a))∧δ[i]? = some (some (.own d)):=fun i hi=>by
  obtain ⟨j,hj,ej⟩:=List.mem_iff_getElem.mp (ios_mem.mp hi)
  have hv:j < vs.length:=by omega
  have hs:j < ss.length:=by omega
  have ej':as[j]? = some (.io i):=by rw [List.getElem?_eq_getElem hj,ej]
  rcases h3 j ss[j] vs[j] (by simp [hs]) (by simp [hv]) with ⟨d,f,e,a1,_⟩ | ⟨d,i',e,a1,s1,x1⟩
  ·rw [ej'] at a1; cases a1
  ·rw [ej'] at a1; cases a1
   obtain ⟨a,g1,_⟩:=k.own i d x1
   rw [s1] at g1
   have g2:vs[j] = .ref a:=by
    have:=Option.some.inj g1
    exact Option.some.inj this
   exact ⟨j,d,a,ej',by rw [List.getElem?_eq_getElem hs,e],by rw [List.getElem?_eq_getElem hv,g2],by rw [s1,g2],x1⟩
 have passed:∀ a,(∃ (j:Nat) (d:D),ss[j]? = some (S.own d)∧vs[j]? = some (V.ref a))→Own σ δ a:=fun a ⟨j,d,e1,e2⟩=>by
  rcases h3 j _ _ e1 e2 with ⟨d',f,e,_⟩ | ⟨d',i,e,_,es,ed⟩
  ·cases e
  ·exact ⟨i,d',ed,es⟩
 have Iiff:∀ a,(⟨H,B,pinsOf 0 ss vs,fun _ _=>False⟩:Fc).I a ↔ ∃ (j:Nat) (d:D),ss[j]? = some (S.own d)∧vs[j]? = some (V.ref a):=fun a =>
  ⟨fun ⟨i,hi⟩=>by obtain ⟨j,d,_,e1,e2⟩:=mem_pinsOf hi; exact ⟨j,d,e1,e2⟩,fun ⟨j,d,e1,e2⟩=>⟨0 + j,of_pinsOf e1 e2⟩⟩
 have ownIn:∀ a,Own (some' vs) (someS ss) a→∃ (j:Nat) (d:D),ss[j]? = some (S.own d)∧vs[j]? = some (V.ref a):=fun a ⟨j,d,e1,e2⟩=>⟨j,d,someS_get.mp e1,some'_get.mp e2⟩
 -- the owned addresses are the same
 have slotP:∀ (i:Nat) (d:D),(putA as outs δ)[i]? = some (some (.own d))→(i ∉ ios as∧δ[i]? = some (some (.own d)))∨(i ∈ ios as∧∃ (j:Nat) (d0:D) (a:Addr),as[j]? = some (.io i)∧ss[j]? = some (.own d0)∧vs[j]? = some (.ref a)∧σ[i]? = some (some (.ref a))∧outs[j]? = some (.own d)):=fun i d e=>by
  by_cases hi:i ∈ ios as
  ·right
   obtain ⟨j,d0,a,a1,a2,a3,a4,a5⟩:=inIdx i hi
   obtain ⟨d',ed'⟩:=hio j d0 a2
   have hlt:i < δ.length:=(List.getElem?_eq_some_iff.mp a5).1
   have:=putA_in as outs δ i j (.own d') nd a1 ed' hlt
   rw [e] at this
   cases this
   exact ⟨hi,j,d0,a,a1,a2,a3,a4,ed'⟩
  ·rw [putA_out as outs δ i hi] at e
   exact .inl ⟨hi,e⟩
 have own_sub:∀ b,Own σ (putA as outs δ) b→Own σ δ b:=fun b ⟨i,d,e1,e2⟩=>by
  rcases slotP i d e1 with ⟨_,e⟩ | ⟨hi,j,d0,a,_,a2,a3,a4,_⟩
  ·exact ⟨i,d,e,e2⟩
  ·rw [e2] at a4
   have:b=a:=by injection (Option.some.inj (Option.some.inj a4))
   subst this
   exact passed b ⟨j,d0,a2,a3⟩
 have pureP:∀ (i:Nat) (d:D),(putA as outs δ)[i]? = some (some (.pure d))→i ∉ ios as∧δ[i]? = some (some (.pure d)):=fun i d e=>by
  by_cases hi:i ∈ ios as
  ·obtain ⟨j,d0,a,a1,a2,a3,a4,a5⟩:=inIdx i hi
   obtain ⟨d',ed'⟩:=hio j d0 a2
   have hlt:i < δ.length:=(List.getElem?_eq_some_iff.mp a5).1
   have:=putA_in as outs δ i j (.own d') nd a1 ed' hlt
   rw [e] at this
   cases this
  ·rw [putA_out as outs δ i hi] at e
   exact ⟨hi,e⟩
 have kpAv:∀ a o,H a=some o→¬ Av c σ δ a→H' a=some o:=fun a o e n=>x.keep a o e fun z=>n (.inr (passed a (ownIn a z)))
 have subA:∀ b,Av c σ (putA as outs δ) b→Av c σ δ b:=fun b z=>z.elim .inl fun z=>.inr (own_sub b z)
 -- the callee's set holds ours
 have big:∀ {c':Fc},c'.B=B→∀ b,Av c σ δ b→Av c' (some' vs) (someS outs) b:=fun {c'} hB' b z=>by
  by_cases hp:∃ (j:Nat) (d:D),ss[j]? = some (S.own d)∧vs[j]? = some (V.ref b)
  ·obtain ⟨j,d,e1,e2⟩:=hp
   obtain ⟨d',ed'⟩:=hio j d e1
   exact .inr ⟨j,d',someS_get.mpr ed',some'_get.mpr e2⟩
  ·exact .inl (by rw [hB',hB]; exact ⟨z,hp⟩)
 have okc:∀ (c1 c2:Fc),c1.H₀=c.H₀→c1.pin=c.pin→(∀ b,c1.B b→c.B b∨(c2.B b∧H b=none))→c2.pin=pinsOf 0 ss vs→(∀ b,B b→c2.B b)→Ok c2 (some' vs) (someS outs) H'→(∀ b,c1.B b→∃ o,H' b=some o)→Ok c1 σ (putA as outs δ) H':=fun c1 c2 e0 e1 e2 e3 e4 k2 hex=>by
  have sub1:∀ b,Av c1 σ (putA as outs δ) b→Av c σ δ b∨H b=none:=fun b z=>by
   rcases z with z | z
   ·rcases e2 b z with z | ⟨_,z⟩
    ·exact .inl (.inl z)
    ·exact .inr z
   ·exact .inl (.inr (own_sub b z))
  have sub2:∀ b,Av c1 σ (putA as outs δ) b→Av c2 (some' vs) (someS outs) b:=fun b z=>by
   have bg:∀ b,Av c σ δ b→Av c2 (some' vs) (someS outs) b:=fun b z=>by
    by_cases hp:∃ (j:Nat) (d:D),ss[j]? = some (S.own d)∧vs[j]? = some (V.ref b)
    ·obtain ⟨j,d,e1,e2⟩:=hp
     obtain ⟨d',ed'⟩:=hio j d e1
     exact .inr ⟨j,d',someS_get.mpr ed',some'_get.mpr e2⟩
    ·exact .inl (e4 b (by rw [hB]; exact ⟨z,hp⟩))
   rcases z with z | z
   ·rcases e2 b z with z | ⟨z,_⟩
    ·exact bg b (.inl z)
    ·exact .inl z
   ·exact bg b (.inr (own_sub b z))
  have kp':∀ {v:V} {d:D},Rep H (Av c σ δ) v d→Rep H' (Av c1 σ (putA as outs δ)) v d:=fun {v d} r=>by
   have r1:Rep H (fun b=>Av c σ δ b∨Av c1 σ (putA as outs δ) b) v d:=r.anti fun b z=>z.elim .inl (sub1 b)
   exact (r1.keep fun b o e n=>kpAv b o e fun z=>n (.inl z)).anti fun b z=>.inl (.inr z)
  refine ⟨fun a o e n=>?_,hex,fun a z=>?_,by rw [putA_len]; exact k.len,fun i d e=>?_,fun i d e=>?_,fun i j a d d' f1 f2 f3 f4=>?_,by rw [e1]; exact k.pinned⟩
  ·rw [e0] at e
   have n':¬ c.I a:=fun z=>n (by unfold Fc.I at z ⊢; rw [e1]; exact z)
   refine x.keep a o (k.keep a o e n') fun z=>?_
   obtain ⟨i,d,g1,g2⟩:=passed a (ownIn a z)
   obtain ⟨a',g3,_,g4,_⟩:=k.own i d g1
   rw [g2] at g3; cases g3
   rcases g4 with g4 | g4
   ·exact n' g4
   ·rw [g4] at e; cases e
  ·have z':c.I a:=by unfold Fc.I at z ⊢; rw [← e1]; exact z
   obtain ⟨o,e⟩:=k.ith a z'
   exact x.there a o e
  ·obtain ⟨hi,e'⟩:=pureP i d e
   obtain ⟨v,g1,g2⟩:=k.slot i d e'
   exact ⟨v,g1,kp' g2⟩
  ·rcases slotP i d e with ⟨hi,e'⟩ | ⟨hi,j,d0,a,b1,b2,b3,b4,b5⟩
   ·obtain ⟨a,g1,g2,g3,g4⟩:=k.own i d e'
    have na:¬ Own (some' vs) (someS ss) a:=fun z=>by
     obtain ⟨j,d1,q1,q2⟩:=ownIn a z
     rcases h3 j _ _ q1 q2 with ⟨d',f,ee,_⟩ | ⟨d',i',ee,ai,es,ed⟩
     ·cases ee
     ·have:=k.inj i i' a d d' e' ed g1 es
      subst this
      exact hi (ios_mem.mpr (List.mem_of_getElem? ai))
    have g2':OwnAt H' (Av c1 σ (putA as outs δ)) a d:=by
     have o1:OwnAt H (fun b=>Av c σ δ b∨Av c1 σ (putA as outs δ) b) a d:=g2.anti fun b z=>z.elim .inl (sub1 b)
     exact (o1.keep (fun b o e n=>kpAv b o e fun z=>n (.inl z)) fun o e=>x.keep a o e na).anti fun b z=>.inl (.inr z)
    refine ⟨a,g1,g2',by unfold Fc.I at g3 ⊢; rw [e0,e1]; exact g3,fun z=>?_⟩
    rcases e2 a z with z | ⟨_,z⟩
    ·exact g4 z
    ·obtain ⟨o,eo⟩:=g2.some
     rw [z] at eo; cases eo
   ·obtain ⟨a',g1,g2,g3,g4⟩:=k2.own j d (someS_get.mpr b5)
    rw [some'_get.mpr b3] at g1
    cases g1
    obtain ⟨i0,d1,q1,q2⟩:=passed a ⟨j,d0,b2,b3⟩
    obtain ⟨a'',q3,q4,q5,q6⟩:=k.own i0 d1 q1
    rw [q2] at q3; cases q3
    refine ⟨a,b4,g2.anti fun b z=>.inl (sub2 b z),by unfold Fc.I at q5 ⊢; rw [e0,e1]; exact q5,fun z=>?_⟩
    rcases e2 a z with z | ⟨_,z⟩
    ·exact q6 z
    ·obtain ⟨o,eo⟩:=q4.some
     rw [z] at eo; cases eo
  ·obtain ⟨d1,g1⟩:∃ d1,δ[i]? = some (some (.own d1)):=by
    rcases slotP i d f1 with ⟨_,e'⟩ | ⟨hi,_⟩
    ·exact ⟨d,e'⟩
    ·obtain ⟨_,d1,_,_,_,_,_,a5⟩:=inIdx i hi
     exact ⟨d1,a5⟩
   obtain ⟨d2,g2⟩:∃ d2,δ[j]? = some (some (.own d2)):=by
    rcases slotP j d' f2 with ⟨_,e'⟩ | ⟨hi,_⟩
    ·exact ⟨d',e'⟩
    ·obtain ⟨_,d1,_,_,_,_,_,a5⟩:=inIdx j hi
     exact ⟨d1,a5⟩
   exact k.inj i j a d1 d2 g1 g2 f3 f4
 have ok1:Ok c σ (putA as outs δ) H':=okc c ⟨H,B,pinsOf 0 ss vs,fun _ _=>False⟩ rfl rfl (fun b z=>.inl z) rfl (fun b z=>z) x.ok fun b z=>by
  obtain ⟨o,e⟩:=k.bd b z
  exact x.there b o e
 refine ⟨⟨ok1,fun a o e n=>x.keep a o e fun z=>n (passed a (ownIn a z)),fun a z=>.inl (own_sub a z),x.there⟩,fun v r hr=>?_⟩
 cases r with
 | pure d=>exact Rep.anti hr fun b z=>.inl (big rfl b (subA b z))
 | own d =>
  obtain ⟨a,ea,o,nb,h0,kp,hs⟩:=hr
  have hHa:H a=none:=hs
  have nav:¬ Av c σ δ a:=k.nav hHa
  refine ⟨a,ea,o.anti fun b z=>.inl ?_,fun z=>nav (.inl z),k.fresh₀ hHa,?_,hHa⟩
  ·rcases z with (z | z) | z
   ·exact (big rfl b (.inl z)).elim (fun z=>.inl (.inl z)) .inr
   ·exact .inl (.inr z)
   ·exact (big rfl b (.inr (own_sub b z))).elim (fun z=>.inl (.inl z)) .inr
  ·refine okc (c.plus a) (Fc.plus ⟨H,B,pinsOf 0 ss vs,fun _ _=>False⟩ a) rfl rfl (fun b z=>?_) rfl (fun b z=>.inl z) kp fun b z=>?_
   ·rcases z with z | z
    ·exact .inl z
    ·exact .inr ⟨.inr z,by rw [z]; exact hHa⟩
   ·rcases z with z | z
    ·obtain ⟨o,e⟩:=k.bd b z
     exact x.there b o e
    ·rw [z]; exact o.some
end
def Keeps (G:DF):Prop:=∀ ss r outs,G ss=some (r,outs)→outs.length=ss.length∧∀ (j:Nat),(∀ d,ss[j]? = some (.own d)→∃ d',outs[j]? = some (.own d'))∧∀ d,ss[j]? = some (.pure d)→∃ d',outs[j]? = some (.pure d')
theorem runD_keeps {fb:DS} {n:Nat} {G:DF} (hG:∀ ss y,G ss=some y→runD fb n ss=some y):Keeps G:=fun ss r outs h=>by
 have:=hG ss _ h
 unfold runD at this
 cases e:fb (startD n ss) with
 | exc x δx=>rw [e] at this; cases this
 | stuck=>rw [e] at this; cases this
 | ok fl δ =>
  rw [e] at this
  simp only at this
  cases e1:resOf fl with
  | none=>rw [e1] at this; cases this
  | some r' =>
   rw [e1] at this
   simp only [Option.bind_some] at this
   cases e2:outsOf 0 ss δ with
   | none=>rw [e2] at this; cases this
   | some os =>
    rw [e2] at this
    cases this
    obtain ⟨h1,h2⟩:=outs_at e2
    refine ⟨h1,fun j=>⟨fun d ed=>?_,fun d ed=>?_⟩⟩
    ·rcases h2 j _ ed with ⟨d',z,_⟩ | ⟨d',d'',_,_,z⟩
     ·cases z
     ·exact ⟨d'',z⟩
    ·rcases h2 j _ ed with ⟨d',z,z'⟩ | ⟨d',d'',z,_⟩
     ·exact ⟨d',z'⟩
     ·cases z
section
variable {X:Cx} {c:Fc} {e:Expr} {es:List Expr} {as:List Ak} {k n:Nat} {x:Str} {G:DF} {pp pos:Pos}
theorem call_weak {ps:List Str} (hK:Keeps G) {σ:St} {H:Hp} {Q:VK} (hl:as.length=n) (h:tD c (eCall G as) σ H Q):tCall (spD n G) [] E0 (tX c as) σ H Q:=by
 obtain ⟨δ,kk,q⟩:=h
 unfold eCall at q
 split at q
 ·rename_i hc
  rw [Bool.and_eq_true] at hc
  have nd:=ndup_nodup hc.2
  rw [post_bind] at q
  refine ⟨δ,kk,fun i hi=>?_,post_mono q fun ds δ1 q1 vs H1 a1 r1=>?_⟩
  ·have:=List.all_eq_true.mp hc.1 i (ios_mem.mpr hi)
   unfold isOwn at this
   split at this
   ·rename_i d ed
    exact slot_there kk ed
   ·cases this
  ·cases em:mkA as ds δ1 with
   | none=>rw [em] at q1; exact q1.elim
   | some ss =>
    rw [em] at q1
    simp only at q1
    cases eg:G ss with
    | none=>rw [eg] at q1; exact q1.elim
    | some y =>
     obtain ⟨r,outs⟩:=y
     rw [eg] at q1
     have hin:=call_in a1.ok r1 em nd
     obtain ⟨m1,m2,_⟩:=mkA_at r1 em
     obtain ⟨g1,g2⟩:=hK ss r outs eg
     refine ⟨ss,_,by rw [List.append_nil,← m2]; exact hl,by rw [List.append_nil]; exact hin,r,outs,eg,fun v H2 a2 r2=>?_⟩
     rw [List.append_nil] at a2 r2
     obtain ⟨o1,o2⟩:=call_out a1.ok r1 em nd rfl a2 (fun j d ed=>(g2 j).1 d ed) fun j d ed=>(g2 j).2 d ed
     exact q1 v H2 (a1.trans o1) (RepS.back (o2 v r r2) a1)
 ·exact q.elim
theorem se_call (F:KFn X.prog X.w X.K X.mg X.base k x n G) (hK:Keeps G) (hr:Room k X.A) (hg:Gl X x) (ha:SX X c (e :: es) as) (hl:as.length=n) (hdb:(x == ("__debug__" : Str))=false:=by decide)
  (he:starEach (e :: es) X.env=(false,eval e X.env) :: starEach es X.env:=by rfl) (hpl:(backTo pos (starEach es X.env)).any (·.1)=false:=by rfl):SE X c (.Call (.Name x pp) (e :: es) [] pos) (eCall G as):=by
 obtain ⟨f,fd,ps,hm,hk,hb,ok⟩:=F
 exact PE.weak (pe_call ok hr hg hm hk hb .nil pass0 ha hdb he hpl) fun σ H Q h=>call_weak (ps:=ps) hK hl h
end
open PySem PySem.Spec PyProof.Rows L2
def gOf (np:List Nat) (n:Nat) (b:DS):DF:=fun ss=>if ioOk np 0 ss then runD b n ss else none
theorem gOf_run {np:List Nat} {n:Nat} {b:DS} {ss:List S} {y:S×List S} (h:gOf np n b ss=some y):ioOk np 0 ss=true∧runD b n ss=some y:=by
 unfold gOf at h
 split at h
 ·rename_i hi; exact ⟨hi,h⟩
 ·cases h
theorem gOf_keeps {np:List Nat} {n:Nat} {b:DS}:Keeps (gOf np n b):=runD_keeps fun _ _ h=>(gOf_run h).2
theorem hq_of {k:Nat} {A:Around} (r:Room k A):A.units + 64 < cLine:=by have:=r.un; omega
theorem np_out {c:Fc} {np cs:List Nat} (h:Np c np) (hc:cs.all (fun i=>!np.contains i)=true):∀ p ∈ c.pin,p.1 ∉ cs:=fun p hp z=>by
 have h1:=h p hp
 have h2:=List.all_eq_true.mp hc p.1 z
 rw [h1] at h2
 cases h2
def ndS:List Str→Bool
 | []=>true
 | x :: r=>!r.contains x && ndS r
theorem ndS_nd:∀ {l:List Str},ndS l=true→l.Nodup
 | [],_=>.nil
 | x :: r,h=>by
  simp only [ndS,Bool.and_eq_true,Bool.not_eq_true'] at h
  exact List.nodup_cons.mpr ⟨fun hm=>by have:=h.1; simp at this; exact this hm,ndS_nd h.2⟩
def kindB (names:List (Str×NameKind)) (x:Str) (k:NameKind):Bool:=match names.lookup x with
 | some j=>j == k
 | none=>false
theorem kindB_of {names:List (Str×NameKind)} {x:Str} {k:NameKind} (h:kindB names x k=true):names.lookup x=some k:=by
 unfold kindB at h
 split at h
 ·rename_i j e; rw [e,eq_of_beq h]
 ·cases h
def cscB (names:List (Str×NameKind)) (N:List Str) (sc:List (Str×NameKind)) (cs:List Nat):Bool :=
 sc.all (fun x=>!(x.2 == .local) || kindB sc x.1 .local) && sc.all (fun x=>!(x.2 == .free) || (kindB names x.1 .cell || kindB names x.1 .free)) && ndS (sc.map (·.1)) &&
 (List.range N.length).all fun i=>match N[i]? with
  | some x=>!(kindB sc x .local || kindB sc x .cell) || cs.contains i
  | none=>true
theorem kindB_mk {names:List (Str×NameKind)} {x:Str} {k:NameKind} (h:names.lookup x=some k):kindB names x k=true:=by
 unfold kindB; rw [h]; simp
theorem cscope_mk {X:Cx} {scope:Scope} {cs:List Nat} (hk:scope.kind = .function) (h:cscB X.env.scope.names X.N scope.names cs=true):CScope X scope cs:=by
 unfold cscB at h
 simp only [Bool.and_eq_true] at h
 obtain ⟨⟨⟨h1,h2⟩,h3⟩,h4⟩:=h
 refine ⟨hk,fun x hx hl=>?_,fun x hx hf=>?_,ndS_nd h3,fun i x hi hl=>?_⟩
 ·have:=List.all_eq_true.mp h1 x hx
  rw [hl] at this
  exact kindB_of (by simpa using this)
 ·have:=List.all_eq_true.mp h2 x hx
  rw [hf] at this
  have:kindB X.env.scope.names x.1 .cell=true∨kindB X.env.scope.names x.1 .free=true:=by simpa using this
  exact this.elim (fun z=>.inl (kindB_of z)) fun z=>.inr (kindB_of z)
 ·have hil:i < X.N.length:=(List.getElem?_eq_some_iff.mp hi).1
  have:=List.all_eq_true.mp h4 i (List.mem_range.mpr hil)
  rw [hi] at this
  have hl':(kindB scope.names x .local || kindB scope.names x .cell)=true:=by
   rcases hl with z | z
   ·rw [kindB_mk z]; rfl
   ·rw [kindB_mk z]; simp
  simp only [hl',Bool.not_true,Bool.false_or] at this
  simpa using this
theorem tyk_int {K:PySem.W.Frag}:TyK K "int":=⟨rfl,rfl,rfl,rfl,rfl,rfl,rfl⟩
theorem tyk_bool {K:PySem.W.Frag}:TyK K "bool":=⟨rfl,rfl,rfl,rfl,rfl,rfl,rfl⟩
theorem tyk_str {K:PySem.W.Frag}:TyK K "str":=⟨rfl,rfl,rfl,rfl,rfl,rfl,rfl⟩
theorem tyk_tuple {K:PySem.W.Frag}:TyK K "tuple":=⟨rfl,rfl,rfl,rfl,rfl,rfl,rfl⟩
theorem tyk_list {K:PySem.W.Frag}:TyK K "list":=⟨rfl,rfl,rfl,rfl,rfl,rfl,rfl⟩
def notStar:Expr→Bool
 | .Starred ..=>false
 | _=>true
theorem star_of {e:Expr} {es:List Expr} {env:Env} (h:notStar e=true):starEach (e :: es) env=(false,eval e env) :: starEach es env:=by
 cases e <;> first | (cases h; done) | rw [starEach] | rfl
 all_goals (intros; contradiction)
section
variable {X:Cx} {c:Fc} {e:Expr} {es:List Expr} {f fe:DE} {g:DA} {as:List Ak}
theorem sa_consN (ha:SE X c e f) (hr:SA X c es g) (hs:notStar e=true:=by rfl):SA X c (e :: es) (aCons f g):=sa_cons ha hr (star_of hs)
theorem sx_valN (ha:SE X c e fe) (hr:SX X c es as) (hs:notStar e=true:=by rfl):SX X c (e :: es) (.val fe :: as):=sx_val ha hr (star_of hs)
theorem sx_ioN {i:Nat} (ha:PE X e (tVar i)) (hr:SX X c es as) (hs:notStar e=true:=by rfl):SX X c (e :: es) (.io i :: as):=sx_io ha hr (star_of hs)
end
mutual
def constD:Nat→Expr→Option D
 | _,.Constant (.int i) _ _=>some (.int i)
 | _,.Constant (.bool b) _ _=>some (.bl b)
 | _,.Constant .none _ _=>some .non
 | _,.Constant (.str x) _ _=>some (.str x.cps.toList)
 | n + 1,.Tuple es _ _=>if es.length≤1000 then (constDs n es).map .tup else none
 | _,_=>none
def constDs:Nat→List Expr→Option (List D)
 | _,[]=>some []
 | n,e :: es=>match constD n e,constDs n es with
  | some d,some ds=>some (d :: ds)
  | _,_=>none
end
theorem const_star:∀ {n:Nat} {e:Expr} {d:D},constD n e=some d→notStar e=true:=fun {n e d} h=>by
 cases e <;> first | rfl | (cases n <;> simp [constD] at h)
mutual
theorem se_const0 {X:Cx} {c:Fc}:∀ {n:Nat} {e:Expr} {d:D},constD n e=some d→SE X c e (eD d)
 | _,.Constant (.int i) _ _,d,h=>by
  simp only [constD,Option.some.injEq] at h; subst h; exact se_int
 | _,.Constant (.bool b) _ _,d,h=>by
  simp only [constD,Option.some.injEq] at h; subst h; exact se_bl
 | _,.Constant .none _ _,d,h=>by
  simp only [constD,Option.some.injEq] at h; subst h; exact se_non
 | _,.Constant (.str x) _ _,d,h=>by
  simp only [constD,Option.some.injEq] at h; subst h; exact se_str _ (toS_of x)
 | 0,.Tuple es k pos,d,h=>by simp [constD] at h
 | n + 1,.Tuple es k pos,d,h=>by
  simp only [constD] at h
  split at h
  ·rename_i hl
   cases e:constDs n es with
   | none=>rw [e] at h; cases h
   | some ds =>
    rw [e] at h
    simp only [Option.map_some,Option.some.injEq] at h
    subst h
    exact se_tup (sa_const0 e) hl
  ·cases h
theorem sa_const0 {X:Cx} {c:Fc}:∀ {n:Nat} {es:List Expr} {ds:List D},constDs n es=some ds→SA X c es (fun δ=>.ok ds δ)
 | _,[],ds,h=>by
  simp only [constDs,Option.some.injEq] at h; subst h; exact sa_nil
 | n,e :: es,ds,h=>by
  simp only [constDs] at h
  split at h
  ·rename_i d ds' h1 h2
   cases h
   exact sa_cons (se_const0 h1) (sa_const0 h2) (star_of (const_star h1))
  ·cases h
end
def eLstC (ds:List D):DE:=fun δ=>.ok (.own (.lst ds)) δ
theorem se_const {X:Cx} {c:Fc} {e:Expr} {d:D} (h:constD 9 e=some d):SE X c e (eD d):=se_const0 h
theorem se_constL {X:Cx} {c:Fc} {es:List Expr} {ds:List D} {pos:Pos} (h:constDs 9 es=some ds) (hl:es.length≤1000):SE X c (.List es pos) (eLstC ds):=se_lst (sa_const0 h) hl
section
variable {X:Cx} {c:Fc} {e:Expr} {fe:DE} {pos:Pos} {tg:Expr}
theorem se_globIntE {x:Str} {i:Int} (hg:Gl X x) (hm:∃ t,X.mg x=some (.int i t)) (hd:(x == ("__debug__" : Str))=false:=by decide):SE X c (.Name x pos) (eD (.int i)):=by
 obtain ⟨t,h⟩:=hm
 exact se_globInt hg h hd
theorem ss_exprN (he:SE X c e fe) (hs:swapsWith e none pos.line X.env=pure false:=by rfl):SS X c (.Expr e pos) (dDrop fe) :=
 ss_expr he (fun _=>hs) trivial (ps_expr he hs)
theorem ss_appendN {i:Nat} {o:Expr} {apos cpos:Pos} (ho:PE X o (tVar i)) (he:SE X c e fe)
  (hbase:attributeBase o "append" X.env (eval o X.env)=eval o X.env:=by rfl)
  (hfew:((backTo cpos (starEach [e] X.env)).all (fun x=>!x.1) && (backToKw cpos (keywordEach [] X.env)).all (fun x=>x.1.isSome)
   && decide ([e].length + ([]:List Keyword).length + (if ([]:List Keyword).isEmpty then 0 else 1) < 30))=true:=by rfl)
  (hline:(apos.endLine == cpos.line)=true:=by rfl) (hs:starEach [e] X.env=(false,eval e X.env) :: starEach [] X.env:=by rfl)
  (hsw:swapsWith (.Call (.Attribute o "append" apos) [e] [] cpos) none pos.line X.env=pure false:=by rfl):SS X c (.Expr (.Call (.Attribute o "append" apos) [e] [] cpos) pos) (dAppend i fe) :=
 ss_append (p0:=apos) ho he (ps_expr (pe_bm PySem.F.plainAttrs_list PySem.F.slot_list_append PySem.F.type_list_append mt_append ho (pa_cons he pa_nil hs) hbase hfew hline hs rfl) hsw)
end
open PySem PySem.Spec PyProof.Rows L2
def noL (K:PySem.W.Frag):Bool:=K.all fun p=>match p.2.cls with
 | .type t=>!(t == "list")
 | _=>true
theorem mem_lk {α β:Type} [BEq α] [LawfulBEq α]:∀ {K:List (α×β)} {a:α} {o:β},K.lookup a=some o→(a,o) ∈ K
 | [],a,o,e=>by simp at e
 | (b,o') :: r,a,o,e=>by
  rw [List.lookup_cons] at e
  cases hb:a == b with
  | true =>
   rw [hb] at e
   have h1:o'=o:=Option.some.inj e
   have h2:a=b:=eq_of_beq hb
   rw [h1,h2]
   exact List.mem_cons_self
  | false =>
   rw [hb] at e
   exact List.mem_cons_of_mem _ (mem_lk e)
theorem noL_of {K:PySem.W.Frag} {a:Addr} {o:Obj} (h:noL K=true) (e:K.lookup a=some o) (hc:o.cls = .type "list"):False:=by
 have hm:(a,o) ∈ (K:List (Addr×Obj)):=mem_lk e
 have h1:=List.all_eq_true.mp h (a,o) hm
 have h2:(match o.cls with | .type t=>!(t == "list") | _=>true)=true:=h1
 rw [hc] at h2
 have h3:(!(("list" : String) == "list"))=true:=h2
 rw [beq_self_eq_true] at h3
 cases h3
theorem law_sp {K:PySem.W.Frag} {G:DF} {H:Hp} {a:Addr} {ns:List Int} {E:XK} (hK:noL K=true) (hS:SqL K H a (ns.map V.int)) (hG:∃ outs,G [.pure (.lst (ns.map .int))]=some (.pure (.bl true),outs)) :
  spD 1 G [.ref a] H (fun v _=>v = .bl true) E:=by
 have hR:Rd H a (.lst (ns.map V.int)):=by
  rcases hS with h | ⟨o,its,n,e,hc,_⟩
  ·exact h
  ·exact (noL_of hK e hc).elim
 obtain ⟨outs,hg⟩:=hG
 have rep:∀ O:Addr→Prop,¬ O a→Rep H O (.ref a) (.lst (ns.map D.int)):=fun O hO=>.lst hO hR (by simp) fun i v d e1 e2=>by
  rw [List.getElem?_map] at e1 e2
  cases e:ns[i]? with
  | none=>rw [e] at e1; cases e1
  | some k=>rw [e] at e1 e2; cases e1; cases e2; exact .int k
 refine ⟨[.pure (.lst (ns.map .int))],fun _=>False,rfl,⟨fun b o e _=>e,fun b z=>z.elim,fun b ⟨i,z⟩=>?_,rfl,fun i d e=>?_,fun i d e=>?_,fun i j b d d' e1 e2 e3 e4=>?_,fun p z=>?_⟩,_,outs,hg,fun v H' x r=>?_⟩
 ·simp [pinsOf] at z
 ·cases i with
  | zero =>
   simp at e
   subst e
   refine ⟨.ref a,rfl,rep _ fun z=>?_⟩
   rcases z with z | ⟨j,d',z1,z2⟩
   ·exact z
   ·cases j with
    | zero=>simp at z1
    | succ j=>simp at z1
  | succ i=>simp at e
 ·cases i with
  | zero=>simp at e
  | succ i=>simp at e
 ·cases i with
  | zero=>simp at e1
  | succ i=>simp at e1
 ·simp [pinsOf] at z
 ·cases r
  rfl
theorem walkD {l:PySem.W.OpenLaw} {q:Program} {loose:List Str} {XP:(Str→Option Value)→Heap→Prop} {YP:World→Heap→Prop} {d:DefRec} {K:Params→PySem.W.Frag} {k:Nat} {G:DF} (hn:l.most=some 63) (hdf:d.params.defaults=[]) (hr:Room k callerA)
  (hY:∀ (w:World) (h:Heap),YP w h→(K w.params).In h) (hL:∀ p:Params,noL (K p)=true)
  (hG:∀ ns:List Int,ns.length≤63→∃ outs,G [.pure (.lst (ns.map .int))]=some (.pure (.bl true),outs))
  (F:∀ (w:World) (mg:Str→Option Value) (fa:Addr) (h:Heap),(K w.params).In h→h.Ns mainGlobals mg→mg d.name=some (.ref fa) →
   ∃ fd:FuncData,(∀ (s:Shared) (u:Value),BindsTo s fd ⟨[u],[]⟩ [("script",u)])∧∀ base:Heap,(K w.params).In base→base.Ns mainGlobals mg→FnOk l.prog w (K w.params) mg base CX0 k fa fd ["script"] (spD 1 G)) :
  PySem.W.WalkO q loose XP YP l.row.toRowW d [] (fun f vs=>PySem.call f vs) :=
 L2.walk_of (n:=63) (k:=k) (x:="script") (CX:=fun _=>CX0) (sp:=fun _=>spD 1 G) hn (by decide) hdf hr hY F (fun w H a ns hl _ hS=>law_sp (hL w.params) hS (hG ns hl)) fun _ _ _ _ _ z=>z
end DV
set_option Elab.async false
set_option linter.all false
set_option maxRecDepth 100000
set_option maxHeartbeats 400000
namespace L2
open PySem PySem.Spec PyProof.Rows
def Its (x:Str):It:=⟨fun i _=>i < x.cps.size,fun i H y H'=>H'=H∧∃ c,x.cps[i]? = some c∧y = .str ⟨#[c]⟩,fun i _=>i=x.cps.size⟩
theorem turn_str {P:Program} {w:World} {K:PySem.W.Frag} {tg:Expr} (x:Str) (t:Tok) (it:Addr) (T:String) (hT:T = "str_ascii_iterator"∨T = "str_iterator"):Turn P w K tg (Its x) [it] it (fun i h=>h.IsStrIter it T x t i):=by
 have W:∀ A:Around,A.handled=none→Walks P w A it [it] [it] x.cps.size (SignAt x) (fun i h=>h.IsStrIter it T x t i):=fun A hh=>by
  rcases hT with rfl | rfl
  ·exact Walks.strAscii hh it x t
  ·exact Walks.strWide hh it x t
 refine ⟨by simp,fun i h st b hb=>?_,fun i h h' st k=>?_,?_,?_,fun A i s Q E st h=>?_⟩
 ·have e:b=it:=by simpa using hb
  subst e
  obtain ⟨o,e,c,d⟩:=st
  exact ⟨o,e,fun v z=>by rw [d] at z; cases z⟩
 ·obtain ⟨o,e,r⟩:=st
  exact ⟨o,k it (by simp) o e,r⟩
 ·intro X hP hw hK hc i pins s σ H E I hf st hg
  subst hP hw hK
  obtain ⟨f0,f1,f2,f3,f4,f5⟩:=hf it (by simp)
  refine (W X.A (I.ok.hd hc)).item i s _ _ hg st fun v h' tk hv st' kk=>?_
  obtain ⟨c,u,hx,rfl⟩:=hv
  have I1:Inv X pins σ H { s with heap:=h',toks:=tk }:=I.turned (fun b o hb e=>kk b o (by simpa using hb) e) f0 f1 f3 f4 f5
  obtain ⟨o,e,c',d⟩:=id st'
  refine ⟨_,rfl,go_of (s:={ s with heap:=h',toks:=tk }) e c' d (by rcases hT with rfl | rfl <;> decide) ⟨.str ⟨#[c]⟩,H,I1,⟨u,rfl⟩,⟨rfl,c,hx,rfl⟩,st',fun b hb=>(hf b hb).1⟩⟩
 ·intro X hP hw hK hc i pins s σ H E I hf st hg
  subst hP hw hK
  have hg':i=x.cps.size:=hg
  subst hg'
  obtain ⟨f0,f1,f2,f3,f4,f5⟩:=hf it (by simp)
  exact (W X.A (I.ok.hd hc)).done s _ _ st fun h' tk eb=>⟨rfl,I.turned (fun b o hb e=>eb b o (by simpa using hb) e) f0 f1 f3 f4 f5⟩
 ·rcases hT with rfl | rfl
  ·exact wpAny_pyIter_striter_ascii st h
  ·exact wpAny_pyIter_striter_wide st h
end L2
namespace DV
open PySem PySem.Spec PyProof.Rows L2
section
variable {X:Cx} {c:Fc} {tg e:Expr} {fe:DE} {pos pp:Pos}
def iSeqS (K:PySem.W.Frag) (tl:TE):TI:=fun σ H R=>tl σ H fun x H1=>(∃ a,x = .ref a∧(∃ xs,SqL K H1 a xs)∧R (Itl K a) H1)∨(∃ a,x = .ref a∧(∃ xs,SqT K H1 a xs)∧R (Itt K a) H1)∨∃ z,x = .str z∧R (Its z) H1
theorem pi_seqS {l:Expr} {tl:TE} (hl:PE X l tl):PI X tg l (iSeqS X.K tl):=by
 intro pins s σ H R I h
 refine thn (hl pins s σ H _ I h) fun v s1 ⟨x,H1,I1,r1,q1⟩=>?_
 rcases q1 with q1 | q1 | ⟨z,e,q⟩
 ·obtain ⟨a,e,⟨xs,hq⟩,q⟩:=q1
  subst e
  cases r1
  obtain ⟨its,rv,p,hz⟩:=I1.list hq
  refine wpAny_pyIter_list p.isList ?_
  refine ⟨s1.heap.objs.size,[s1.heap.objs.size],_,_,H1,rfl,I1.kept (t':=s1.toks) fun b o e=>Heap.get?_push_of_some _ e,turn_list a _,⟨_,Heap.get?_push_size _ rfl,rfl,rfl⟩,fun b hb=>?_,q⟩
  have e:b=s1.heap.objs.size:=by simpa using hb
  subst e
  exact I1.fpOk (Nat.le_refl _) (I1.hok.fresh (Nat.le_refl _))
 ·obtain ⟨a,e,⟨xs,hq⟩,q⟩:=q1
  subst e
  cases r1
  obtain ⟨its,rv,p,hz⟩:=I1.tuple hq
  refine wpAny_pyIter_tuple (show s1.heap.IsTuple a its.toArray from p) ?_
  refine ⟨s1.heap.objs.size,[s1.heap.objs.size],_,_,H1,rfl,I1.kept (t':=s1.toks) fun b o e=>Heap.get?_push_of_some _ e,turn_tuple a _,⟨_,Heap.get?_push_size _ rfl,rfl,rfl⟩,fun b hb=>?_,q⟩
  have e:b=s1.heap.objs.size:=by simpa using hb
  subst e
  exact I1.fpOk (Nat.le_refl _) (I1.hok.fresh (Nat.le_refl _))
 ·subst e
  obtain ⟨t,rfl⟩:=r1
  refine wpAny_pyIter_strU ?_
  have hT:strIterType z = "str_ascii_iterator"∨strIterType z = "str_iterator":=by
   unfold strIterType
   split
   ·exact .inl rfl
   ·exact .inr rfl
  refine ⟨s1.heap.objs.size,[s1.heap.objs.size],_,_,H1,rfl,I1.kept (t':=s1.toks) fun b o e=>Heap.get?_push_of_some _ e,turn_str z t _ _ hT,⟨_,Heap.get?_push_size _ rfl,rfl,rfl⟩,fun b hb=>?_,q⟩
  have e:b=s1.heap.objs.size:=by simpa using hb
  subst e
  exact I1.fpOk (Nat.le_refl _) (I1.hok.fresh (Nat.le_refl _))
theorem it_str {σ:St} {δ:Dl} {H:Hp} (z:Tx):ItOk c σ δ H (Its (toS z)) (z.map fun n=>D.str [n]):=by
 intro H2 kp
 have hsz:(toS z).cps.size=z.length:=by simp [toS]
 refine ⟨by show (z.map _).length=_; rw [hsz]; simp,fun i d e=>?_⟩
 rw [List.getElem?_map] at e
 cases ez:z[i]? with
 | none=>rw [ez] at e; cases e
 | some n =>
  rw [ez] at e
  cases e
  have hi:i < z.length:=(List.getElem?_eq_some_iff.mp ez).1
  refine ⟨by show i < _; rw [hsz]; exact hi,fun x H3 ⟨e3,cc,hc,hx⟩=>.inl ⟨e3,?_⟩⟩
  have:(toS z).cps[i]? = z[i]?:=by simp [toS]
  rw [this,ez] at hc
  cases hc
  rw [hx]
  exact .str [n]
def iSq (f:DE):DI:=fun δ=>(f δ).bind fun r δ1=>match r.d with
 | .lst ds=>.ok ds δ1
 | .tup ds=>.ok ds δ1
 | .str x=>.ok (x.map fun n=>.str [n]) δ1
 | _=>.stuck
theorem si_sq (he:SE X c e fe):SI X c tg e (iSq fe):=PI.weak (pi_seqS he) fun σ H R ⟨δ,k,q⟩=>by
 unfold iSq at q
 rw [post_bind] at q
 refine ⟨δ,k,post_mono q fun r δ1 q1 v H1 a1 r1=>?_⟩
 have rr:=r1.rep
 generalize r.d=d at q1 rr
 cases d <;> first | exact q1.elim | skip
 ·cases rr
  exact .inr (.inr ⟨_,rfl,q1 _ H1 a1 (it_str _)⟩)
 ·cases rr with
  | tup h1 h2 h3 h4=>exact .inr (.inl ⟨_,rfl,⟨_,.of h2⟩,q1 _ H1 a1 (it_tup _ h2 (fun z=>h1 (.inr z)) ⟨h3,h4⟩)⟩)
 ·cases rr with
  | lst h1 h2 h3 h4 =>
   refine .inl ⟨_,rfl,⟨_,.inl h2⟩,q1 _ H1 a1 ?_⟩
   intro H2 kp
   rename_i a vs
   have h5:Rd H2 a (.lst vs):=Rd.keep h2 fun o e=>kp a o e fun z=>h1 (.inr z)
   have r':Reps H1 (Av c σ δ1) vs _:=⟨h3,h4⟩
   refine ⟨⟨vs,.inl h5,by rw [r'.1]; exact Nat.le_refl _⟩,fun i d e=>?_⟩
   obtain ⟨v,ev,rv⟩:=r'.get e
   refine ⟨⟨vs,v,.inl h5,ev⟩,fun x H3 ⟨e3,y⟩=>.inl ⟨e3,?_⟩⟩
   have:=y vs (.inl h5)
   rw [ev] at this
   cases this
   exact rv
end
end DV
set_option Elab.async false
set_option linter.all false
set_option maxRecDepth 100000
set_option maxHeartbeats 400000
namespace L2
open PySem PySem.Spec PyProof.Rows
theorem int_rmul_tuple (a:Int) (t:Tok) (l:Addr) (dd:Option Addr) (items:Array Value) (n:Nat) (sl:Array (Option Value)) :
  Meets (Builtin.«int.__rmul__» ⟨[.int a t,.ref l],[]⟩) (fun _ R s=>s.heap.get? l=some { cls:=.type "tuple",dict:=dd,data:=.seq items n,slots:=sl }∧R (.ok (.ret Value.notImplemented)) s) :=
 .of_wp fun prog w A R s h=>by obtain ⟨hp,g,d,tk,os⟩:=s; obtain ⟨hl,h⟩:=h; wp_walk; exact ⟨_,rfl,h⟩
theorem noFill_tuple_mul:fillsNumberSlot (.type "tuple") "mul" = pure false :=
 PySem.fillsNumberSlot_seq (id:="tuple.__mul__") (r:=some (.builtin "tuple.__rmul__")) F.slot_tuple_mul.lookup (by decide +kernel) F.slot_tuple_rmul.lookup (by decide +kernel)
theorem repeat_tuple:seqRepeat? (.type "tuple")=pure (some (.builtin "tuple.__mul__")):=by
 unfold seqRepeat?
 rw [PySem.seqSlot_of (T:="tuple") (name:="__mul__") (id:="tuple.__mul__") F.slot_tuple_mul.lookup (by decide +kernel),PySem.seqSlot_of (T:="tuple") (name:="__rmul__") (id:="tuple.__rmul__") F.slot_tuple_rmul.lookup (by decide +kernel)]
 rfl
theorem tuple_mul_many (l:Addr) (dd:Option Addr) (items:Array Value) (n:Nat) (sl:Array (Option Value)) (x:Int) (u:Tok) (h1:¬ (decide (x < -(2 ^ 63)) || decide (x ≥ 2 ^ 63))=true) (h2:¬ (items.isEmpty || x == 1)=true) (h3:¬ (decide (x≤0) || items.isEmpty)=true) (h4:¬ items.size * x > (2 ^ 63 - 1) / 8) (h5:¬ Builtin.Tuple.tupleTooMany (items.size * x)=true) (h6:((List.replicate x.toNat items).foldl (· ++ ·) #[]).size≤sizeLine) :
  Meets (Builtin.«tuple.__mul__» ⟨[.ref l,.int x u],[]⟩) (fun _ R s=>s.heap.get? l=some { cls:=.type "tuple",dict:=dd,data:=.seq items n,slots:=sl } ∧
   R (.ok (.ret (.ref s.heap.objs.size))) { s with heap:=s.heap.push { cls:=.type "tuple",data:=.seq ((List.replicate x.toNat items).foldl (· ++ ·) #[]) } }) :=
 .of_wp fun prog w A R s h=>by
  obtain ⟨hp,g,d,tk,os⟩:=s; obtain ⟨hl,h⟩:=h
  wp_walk
  rw [if_neg h1]
  wp_walk
  try rw [if_neg h2]
  try wp_walk
  try rw [if_neg h3]
  try wp_walk
  try rw [if_neg h4]
  try wp_walk
  try rw [if_neg h5]
  try wp_walk
  exact ⟨_,rfl,h⟩
theorem fold_rep {α:Type} (its:List α):∀ (k:Nat) (acc:List α),List.foldl (fun x1 x2:Array α=>x1 ++ x2) acc.toArray (List.replicate k its.toArray)=(acc ++ (List.replicate k its).flatten).toArray
 | 0,acc=>by simp
 | k + 1,acc=>by
  rw [List.replicate_succ,List.foldl_cons,show acc.toArray ++ its.toArray=(acc ++ its).toArray by simp,fold_rep its k]
  simp [List.replicate_succ]
section
variable {X:Cx}
def rRepT (K:PySem.W.Frag):R2:=fun x y H Q=>∃ l k xs,x = .ref l∧y = .int k∧SqT K H l xs∧xs≠[]∧2≤k∧k≤1000000∧xs.length * k.toNat≤sizeLine∧∀ p,H p=none→Q (.ref p) (upd H p (.tup (List.replicate k.toNat xs).flatten))
theorem op_repT:OpR X (binaryOp .Mult) (rRepT X.K):=by
 intro pins s σ H x y v u Q I rx ry h
 obtain ⟨l,k,xs,rfl,rfl,hH,hne,h1,h2,hz,q⟩:=h
 cases rx
 obtain ⟨t,rfl⟩:=ry
 obtain ⟨its,r,pl,hl⟩:=I.tuple hH
 obtain ⟨⟨cls,dd,data,sl⟩,ho,hc,n,hd⟩:=id pl
 simp only at hc hd
 subst hc hd
 have hlen:its.toArray.size=xs.length:=by rw [List.size_toArray]; exact r.length.symm
 have hem:its.toArray.isEmpty=false:=by
  cases its with
  | nil=>exact absurd (r.nil_iff.mp rfl) hne
  | cons a b=>rfl
 have hline:sizeLine=16777216:=rfl
 have hk:(k.toNat:Int)=k:=by omega
 have hmul:((its.toArray.size:Nat):Int) * k=((xs.length * k.toNat:Nat):Int):=by rw [hlen,Int.natCast_mul,hk]
 have hfold:List.foldl (fun x1 x2=>x1 ++ x2) #[] (List.replicate k.toNat its.toArray)=(List.replicate k.toNat its).flatten.toArray:=by
  have:=foldl_rep its k.toNat []
  rw [List.nil_append] at this
  exact this
 refine wpAny_binaryOp_repeat_ref (T:="tuple") (U:="int") (by decide) ⟨_,ho,rfl⟩ (fun s'=>typeIs_int s' k t) noFill_tuple_mul F.fills_int_mul F.slot_int_rmul repeat_tuple F.slot_int_index.lookup
  (call_meets F.slot_int_rmul (typeIs_int s k t) F.entry_int_rmul (F.args_int_rmul_2 _ _) (int_rmul_tuple k t l dd its.toArray n sl)
   ⟨ho,rfl,⟨_,ho,rfl⟩,call_meets F.slot_tuple_mul ⟨_,ho,rfl⟩ F.entry_tuple_mul (F.args_tuple_mul_2 _ _) (tuple_mul_many l dd its.toArray n sl k t ?_ ?_ ?_ ?_ ?_ ?_) ⟨ho,?_⟩⟩)
 ·simp; omega
 ·rw [hem]; simp; omega
 ·rw [hem]; simp; omega
 ·rw [hmul]; omega
 ·rw [hmul]
  unfold Builtin.Tuple.tupleTooMany
  rw [hline] at hz
  generalize xs.length * k.toNat=m at hz
  simp only [hline,decide_eq_true_eq]
  omega
 ·rw [hfold,List.size_toArray,len_rep,← r.length,Nat.mul_comm]; exact hz
 ·rw [hfold]
  have I1:Inv X pins σ (upd H s.heap.objs.size (.tup (List.replicate k.toNat xs).flatten)) { s with heap:=s.heap.push { cls:=.type "tuple",data:=.seq (List.replicate k.toNat its).flatten.toArray } } :=
   I.laid (t':=s.toks) (fun b o e=>Heap.get?_push_of_some _ e) (Nat.le_refl _) (show ObjOk X.prog X.w _ _ _ (.tup (List.replicate k.toNat xs).flatten) from ⟨by rw [len_rep,Nat.mul_comm]; exact hz,(List.replicate k.toNat its).flatten,r.rep k.toNat,IsTupN.new _ _⟩)
  exact ⟨.ref _,_,I1,rfl,q _ (I.hok.fresh (Nat.le_refl _))⟩
def rRepS:R2:=fun x y H Q=>∃ z k,x = .str z∧y = .int k∧2≤k∧k≤1000000∧0 < z.length∧z.length * k.toNat≤sizeLine∧Q (.str ⟨(List.replicate k.toNat z.cps).foldl (· ++ ·) #[]⟩) H
theorem op_repS:OpR X (binaryOp .Mult) rRepS:=by
 intro pins s σ H x y v u Q I rx ry h
 obtain ⟨z,k,rfl,rfl,h1,h2,h0,hz,q⟩:=h
 obtain ⟨t,rfl⟩:=rx
 obtain ⟨t',rfl⟩:=ry
 have hline:sizeLine=16777216:=rfl
 have c1:¬ k < 1:=by omega
 have c2:(k == 1 || z.length == 0)=false:=by
  simp
  omega
 refine PySem.P.mul_str (by simp; omega) (fun _ _=>?_) (fun _ _=>?_) ?_
 ·have hm:(z.length:Int) * k≤16777216:=by
   have:(z.length:Int) * k=((z.length * k.toNat:Nat):Int):=by rw [Int.natCast_mul,show (k.toNat:Int)=k by omega]
   rw [this]
   rw [hline] at hz
   omega
  have:(z.length:Int)≤(2 ^ 63 - 1) / k:=(Int.le_ediv_iff_mul_le (by omega)).mpr (by omega)
  omega
 ·unfold Builtin.Str.tooLong
  rw [hline] at hz
  generalize z.length * k.toNat=m at hz
  simp only [hline,decide_eq_false_iff_not]
  omega
 ·rw [if_neg c1,if_neg (by rw [c2]; simp)]
  have hsz:((List.replicate k.toNat z.cps).foldl (· ++ ·) #[]).size=k.toNat * z.length:=by
   have h:=fold_rep z.cps.toList k.toNat []
   simp only [List.nil_append,Array.toArray_toList] at h
   rw [h,List.size_toArray,len_rep]
   simp [Str.length]
  exact ⟨by show ((List.replicate k.toNat z.cps).foldl (· ++ ·) #[]).size≤_; rw [hsz,Nat.mul_comm]; exact hz,.str _,H,I.tok _,⟨_,rfl⟩,q⟩
theorem signs_vals:∀ {xs:List Nat} {us:List Value},us.length=xs.length→(∀ (j n:Nat) (v:Value),xs[j]? = some n→us[j]? = some v→∃ w,v = .str ⟨#[n]⟩ w)→Vals (xs.map fun n=>V.str ⟨#[n]⟩) us
 | [],[],_,_=>.nil
 | [],u :: us,h,_=>by simp at h
 | x :: xs,[],h,_=>by simp at h
 | x :: xs,u :: us,h,k=>.cons (by obtain ⟨w,e⟩:=k 0 x u rfl rfl; exact ⟨w,e⟩) (signs_vals (by simpa using h) fun j n v h1 h2=>k (j + 1) n v (by simpa using h1) (by simpa using h2))
theorem call_list_text (hc:X.calm=true):CallR X (.type "list") (fun xs H Q=>∃ z:Str,xs=[.str z]∧z.cps.size≤sizeLine∧∀ l,H l=none→Q (.ref l) (upd H l (.lst (z.cps.toList.map fun n=>V.str ⟨#[n]⟩)))):=by
 intro pins s σ H xs us Q I r h
 obtain ⟨z,rfl,hz,q⟩:=h
 obtain ⟨u,rfl,t,rfl⟩:=vals1 r
 refine call_list_str (hn:=hz) (I.ok.hd hc) z t fun h' tk acc c' kp e hacc=>?_
 have hv:Vals (z.cps.toList.map fun n=>V.str ⟨#[n]⟩) acc.toList:=signs_vals (by simp [hacc.1]) fun j n v h1 h2=>by
  obtain ⟨c,w,h3,h4⟩:=hacc.2 j v (by simpa using h2)
  rw [show z.cps[j]? = some n by simpa using h1] at h3
  cases h3
  exact ⟨w,h4⟩
 exact ⟨.ref s.heap.objs.size,_,I.laid (t':=tk) kp (Nat.le_refl _) (show ObjOk X.prog X.w _ h' _ (.lst _) from ⟨by simpa using hz,acc.toList,c',hv,by simpa using e⟩),rfl,q _ (I.hok.fresh (Nat.le_refl _))⟩
end
end L2
set_option Elab.async false
set_option linter.all false
set_option maxRecDepth 100000
set_option maxHeartbeats 400000
namespace DV
open PySem PySem.Spec PyProof.Rows L2
def pMulX:D→D→Option S
 | .int i,.int j=>pMul (.int i) (.int j)
 | .str x,.int k=>if 2≤k∧k≤1000000∧0 < x.length∧x.length * k.toNat≤sizeLine then some (.pure (.str (List.replicate k.toNat x).flatten)) else none
 | .tup xs,.int k=>if 2≤k∧k≤1000000∧0 < xs.length∧xs.length * k.toNat≤sizeLine then some (.pure (.tup (List.replicate k.toNat xs).flatten)) else none
 | _,_=>none
def rMulX (K:PySem.W.Frag):R2:=fun x y H Q=>rI CMul (fun i j=>V.int (i * j)) x y H Q∨rRepS x y H Q∨rRepT K x y H Q
theorem op_mulX {X:Cx}:OpR X (binaryOp .Mult) (rMulX X.K):=op_mul.or (op_repS.or op_repT)
theorem Reps.rep {H:Hp} {O:Addr→Prop} {vs:List V} {ds:List D} (h:Reps H O vs ds):∀ k:Nat,Reps H O (List.replicate k vs).flatten (List.replicate k ds).flatten
 | 0=>.nil
 | k + 1=>by rw [List.replicate_succ,List.replicate_succ,List.flatten_cons,List.flatten_cons]; exact h.append (Reps.rep h k)
theorem o2_mulX {K:PySem.W.Frag}:Op2 (rMulX K) pMulX:=by
 intro c σ δ H x y d e s Q k rx ry hp q
 cases d <;> cases e <;> first | (simp [pMulX] at hp; done) | skip
 ·exact .inl (o2_mul c σ δ H x y _ _ s Q k rx ry hp q)
 ·rename_i z n
  simp only [pMulX] at hp
  split at hp
  ·rename_i h
   cases hp
   refine .inr (.inl ⟨toS z,n,rx.str,ry.int,h.1,h.2.1,by rw [toS_len]; exact h.2.2.1,by rw [toS_len]; exact h.2.2.2,?_⟩)
   have e:(⟨(List.replicate n.toNat (toS z).cps).foldl (· ++ ·) #[]⟩:Str)=toS (List.replicate n.toNat z).flatten:=by
    unfold toS
    congr 1
    have:=fold_rep z n.toNat []
    rw [List.nil_append] at this
    exact this
   rw [e]
   exact q _ H (.refl k) (.str _)
  ·cases hp
 ·rename_i ds n
  simp only [pMulX] at hp
  split at hp
  ·rename_i h
   cases hp
   obtain ⟨a,vs,ex,ha,r⟩:=rx.tup
   refine .inr (.inr ⟨a,n,vs,ex,ry.int,.of ha,?_,h.1,h.2.1,by rw [r.1]; exact h.2.2.2,fun p hp'=>?_⟩)
   ·intro z
    rw [z] at r
    have:=r.1
    simp at this
    omega
   ·exact q _ _ (.alloc k hp' _) (RepS.newT k (Reps.rep r _) hp')
  ·cases hp
theorem RepS.newD {c:Fc} {σ:St} {δ:Dl} {H:Hp} {p:Addr} (k:Ok c σ δ H) (hp:H p=none):RepS c σ δ H (upd H p (.dK [])) (.ref p) (.own (.dct [])):=by
 refine ⟨p,rfl,⟨[],upd_same,rfl,fun i p q e=>by simp at e⟩,fun z=>k.nav hp (.inl z),k.fresh₀ hp,k.plus hp _,hp⟩
def eDict0:DE:=fun δ=>.ok (.own (.dct [])) δ
theorem se_dict0 {X:Cx} {c:Fc} {pos:Pos}:SE X c (.Dict [] [] pos) eDict0:=PE.weak pe_dnewK fun σ H Q ⟨δ,k,q⟩=>fun p hp=>q _ _ (.alloc k hp _) (RepS.newD k hp)
def pListX:D→Option S
 | .lst ds=>some (.own (.lst ds))
 | .tup ds=>some (.own (.lst ds))
 | .str x=>if x.length≤sizeLine then some (.own (.lst (x.map fun n=>.str [n]))) else none
 | _=>none
section
variable {X:Cx} {c:Fc} {e a x y:Expr} {fb:BE} {f g fa:DE} {pos pp p p2:Pos}
theorem reps_signs {H:Hp} {O:Addr→Prop}:∀ z:Tx,Reps H O (z.map fun n=>V.str ⟨#[n]⟩) (z.map fun n=>D.str [n])
 | []=>.nil
 | n :: r=>.cons (.str [n]) (reps_signs r)
theorem se_listX (hc:X.calm=true) (hg:Gl X "list") (hm:X.mg "list" = none) (he:SB X c e fb) (hs:notStar e=true:=by rfl):SE X c (.Call (.Name "list" pp) [e] [] pos) (eC1 pListX fb) :=
 se_call1T (r:=fun v H Q=>(∃ p ys,v = .ref p∧(SqL X.K H p ys∨SqT X.K H p ys)∧∀ l,H l=none→Q (.ref l) (upd H l (.lst ys)))∨∃ z:Str,v = .str z∧z.cps.size≤sizeLine∧∀ l,H l=none→Q (.ref l) (upd H l (.lst (z.cps.toList.map fun n=>V.str ⟨#[n]⟩))))
  (call_list_of.or (call_list_text hc)) (fun v H Q h=>by
   rcases h with ⟨p,ys,e,h⟩ | ⟨z,e,h⟩
   ·exact .inl ⟨p,ys,by rw [e],h⟩
   ·exact .inr ⟨z,by rw [e],h⟩)
  (fun c σ δ H x d s Q k rx hp q=>by
   cases d with
   | lst ds =>
    cases hp
    obtain ⟨a,vs,ex,ha,r⟩:=rx.lst
    exact .inl ⟨a,vs,ex,.inl (.inl ha),fun l hl=>q _ _ (.alloc k hl _) (RepS.newL k r hl)⟩
   | tup ds =>
    cases hp
    obtain ⟨a,vs,ex,ha,r⟩:=rx.tup
    exact .inl ⟨a,vs,ex,.inr (.of ha),fun l hl=>q _ _ (.alloc k hl _) (RepS.newL k r hl)⟩
   | str z =>
    simp only [pListX] at hp
    split at hp
    ·rename_i hz
     cases hp
     refine .inr ⟨toS z,rx.str,by simpa [toS] using hz,fun l hl=>?_⟩
     have:(toS z).cps.toList=z:=by simp [toS]
     rw [this]
     exact q _ _ (.alloc k hl _) (RepS.newL k (reps_signs z) hl)
    ·cases hp
   | _=>simp [pListX] at hp) hg hm PyProof.Rows.boot_list he (by decide) (by decide) (star_of hs)
end
end DV
set_option Elab.async false
set_option linter.all false
set_option maxRecDepth 100000
set_option maxHeartbeats 1000000
namespace L2
open PySem PySem.Spec PyProof.Rows
theorem entry_dict_loop:entryFor table "dict.update.loop" = some Builtin.«dict.update.loop»:=entryFor_of_tree (by kernel_rfl)
theorem plain_dict_loop:plainId "dict.update.loop" = true:=by decide +kernel
theorem miss_keys_tuple:typeLookup (.type "tuple") "keys" = pure none:=by rw [typeLookup_type,builtinLookup_eq_fast]; kernel_rfl
theorem miss_keys_list:typeLookup (.type "list") "keys" = pure none:=by rw [typeLookup_type,builtinLookup_eq_fast]; kernel_rfl
set_option maxRecDepth 8000 in
theorem noKeys_tuple {prog:Program} {w:World} {A:Around} {E:Value→Shared→Prop} {s:Shared} {a:Addr} {o:Obj} {xs:Array Value} {k:Nat} {Q:Option Value→Shared→Prop}
  (hx:s.heap.get? a=some o) (hc:o.cls = .type "tuple") (hdat:o.data = .seq xs k) (hd:o.dict=none) (hA:A.handled=none)
  (h:∀ h' tk,(∀ b ob,s.heap.get? b=some ob→h'.get? b=some ob)→Q none { s with heap:=h',toks:=tk }) :
  wpAny (model prog w) A (getAttr? (.ref a) "keys") Q E s:=by
 obtain ⟨c,dct,dat,sl⟩:=o
 simp only at hc hdat hd
 subst hc hdat hd
 obtain ⟨hp,g,d,tk,os⟩:=s
 have hT:∀ tk',(⟨hp,g,d,tk',os⟩:Shared).TypeIs (.ref a) "tuple":=fun _=>⟨_,hx,rfl⟩
 have f1:=sub_AttributeError
 have f3:=F.slot_tuple_getattribute.lookup
 have f4:=F.slot_tuple_getattribute.bind (.ref a)
 have f5:=am_tuple_getattr_none
 have hmiss:=miss_keys_tuple
 unfold getAttr? getAttrBy? getAttrBy
 repeat (any_goals (first | assumption | exact hT _ | ((with_reducible show wpAny _ _ (call (Value.builtin "tuple.__getattribute__") _ _) _ _ _); refine call_meets F.slot_tuple_getattribute (hT _) am_entry_tuple_getattribute (F.args_tuple_getattribute_2 _ _) (meets_getattribute_miss_tuple a xs k sl "keys" _ hmiss (by decide +kernel)) ⟨hx,hA,fun h' tk' e hx'=>?_⟩) | wp_step))
 obtain ⟨t',u',he⟩:=hx'.there
 show wpAny _ _ (getattributeRaised _ _ _ _ _ _ _) _ _ _
 unfold getattributeRaised
 repeat (any_goals (first | assumption | wp_step))
 exact h _ _ hx'.keeps
set_option maxRecDepth 8000 in
theorem noKeys_list {prog:Program} {w:World} {A:Around} {E:Value→Shared→Prop} {s:Shared} {a:Addr} {o:Obj} {xs:Array Value} {k:Nat} {Q:Option Value→Shared→Prop}
  (hx:s.heap.get? a=some o) (hc:o.cls = .type "list") (hdat:o.data = .seq xs k) (hd:o.dict=none) (hA:A.handled=none)
  (h:∀ h' tk,(∀ b ob,s.heap.get? b=some ob→h'.get? b=some ob)→Q none { s with heap:=h',toks:=tk }) :
  wpAny (model prog w) A (getAttr? (.ref a) "keys") Q E s:=by
 obtain ⟨c,dct,dat,sl⟩:=o
 simp only at hc hdat hd
 subst hc hdat hd
 obtain ⟨hp,g,d,tk,os⟩:=s
 have hT:∀ tk',(⟨hp,g,d,tk',os⟩:Shared).TypeIs (.ref a) "list":=fun _=>⟨_,hx,rfl⟩
 have f1:=sub_AttributeError
 have f3:=F.slot_list_getattribute.lookup
 have f4:=F.slot_list_getattribute.bind (.ref a)
 have f5:=am_list_getattr_none
 have hmiss:=miss_keys_list
 unfold getAttr? getAttrBy? getAttrBy
 repeat (any_goals (first | assumption | exact hT _ | ((with_reducible show wpAny _ _ (call (Value.builtin "list.__getattribute__") _ _) _ _ _); refine call_meets F.slot_list_getattribute (hT _) am_entry_list_getattribute (F.args_list_getattribute_2 _ _) (meets_getattribute_miss_list a xs k sl "keys" _ hmiss (by decide +kernel)) ⟨hx,hA,fun h' tk' e hx'=>?_⟩) | wp_step))
 obtain ⟨t',u',he⟩:=hx'.there
 show wpAny _ _ (getattributeRaised _ _ _ _ _ _ _) _ _ _
 unfold getattributeRaised
 repeat (any_goals (first | assumption | wp_step))
 exact h _ _ hx'.keeps
def putAll (kps:List (Key×V)) (acc:List (Key×V)):List (Key×V):=kps.foldl (fun a kv=>putK a kv.1 kv.2) acc
theorem dict_step {prog:Program} {w:World} {A:Around} {R:Result→Shared→Prop} {s:Shared} {dl it:Addr} {i:Int} {t0:Tok}
  (hn:wpAny (model prog w) A.in1 (pyNext (.ref it)) (fun r s1=>∃ (q:Addr) (k v:Value) (n:Nat),r=some (.ref q)∧s1.heap.get? q=some { cls:=.type "tuple",dict:=none,data:=.seq #[k,v] n,slots:=#[] } ∧
   wpAny (model prog w) A.in1 (dictSet dl k v) (fun _ s2=>codeAny (model prog w) A (.builtin "dict.update.loop" ⟨[.ref dl,.ref it,rawInt (i + 1),.none],[]⟩) R s2) (fun _ _=>False) s1) (fun _ _=>False) s) :
  codeAny (model prog w) A (.builtin "dict.update.loop" ⟨[.ref dl,.ref it,.int i t0,.none],[]⟩) R s:=by
 refine codeAny_builtin entry_dict_loop ?_
 rw [Around.under_plainId plain_dict_loop _]
 show wpAny _ A.in1 (pyNext (.ref it) >>= _) _ _ s
 refine wpAny_bind (wpAny_mono hn (fun r s1 hr=>?_) fun _ _ z=>z.elim)
 obtain ⟨q,k,v,n,rfl,hq,hd⟩:=hr
 dsimp only
 refine wpAny_bind ?_
 try with_reducible refine wpAny_holding ?_
 refine wpAny_bind (wpAny_tryCatch ?_)
 have hT:s1.TypeIs (.ref q) "tuple":=⟨_,hq,rfl⟩
 unfold Builtin.Dict.pairItems
 refine wpAny_bind (wpAny_typeOf hT ?_)
 rw [if_pos (by decide)]
 refine wpAny_bind ?_
 unfold seqItems?
 refine wpAny_bind (wpAny_load hq (wpAny_pure ?_))
 refine wpAny_pure ?_
 show wpAny _ A.in1 (holding [k,v] (dictSet dl k v)) _ _ s1
 try with_reducible refine wpAny_holding ?_
 refine wpAny_mono hd (fun _ s2 h2=>?_) fun _ _ z=>z.elim
 exact wpAny_pure ⟨plainId_quiet plain_dict_loop _,h2⟩
theorem dict_done {prog:Program} {w:World} {A:Around} {R:Result→Shared→Prop} {s:Shared} {dl it:Addr} {i:Int} {t0:Tok}
  (hn:wpAny (model prog w) A.in1 (pyNext (.ref it)) (fun r s1=>r=none∧R (.ok (.ret .none)) s1) (fun _ _=>False) s) :
  codeAny (model prog w) A (.builtin "dict.update.loop" ⟨[.ref dl,.ref it,.int i t0,.none],[]⟩) R s:=by
 refine codeAny_builtin entry_dict_loop ?_
 rw [Around.under_plainId plain_dict_loop _]
 show wpAny _ A.in1 (pyNext (.ref it) >>= _) _ _ s
 refine wpAny_bind (wpAny_mono hn (fun r s1 hr=>?_) fun _ _ z=>z.elim)
 obtain ⟨rfl,hd⟩:=hr
 dsimp only
 show wpAny _ A.in1 (Builtin.Dict.addKeywords dl [] >>= _) _ _ s1
 exact wpAny_bind (wpAny_pure (wpAny_pure hd))
section
variable {X:Cx} {pins:List (Addr×Obj)} {σ:St} {H:Hp}
theorem Rd.sub {H H':Hp} {a:Addr} {u:HO} (h:Rd H a u) (k:∀ b o,H b=some o→H' b=some o):Rd H' a u:=by
 rcases h with h | ⟨o,h⟩
 ·exact .inl (k _ _ h)
 ·exact .inr ⟨o,k _ _ h⟩
def PairsAt (H:Hp) (ys:List V) (kps:List (Key×V)):Prop:=ys.length=kps.length∧∀ (i:Nat) y kv,ys[i]? = some y→kps[i]? = some kv→∃ q,y = .ref q∧H q=some (.tup [kV kv.1,kv.2])
theorem length_putAll:∀ (kps acc:List (Key×V)),(putAll kps acc).length≤acc.length + kps.length
 | [],acc=>Nat.le_refl _
 | kv :: r,acc=>by
  have h1:=length_putAll r (putK acc kv.1 kv.2)
  have h2:=length_putK acc kv.1 kv.2
  show (putAll r (putK acc kv.1 kv.2)).length≤_
  simp only [List.length_cons]
  omega
theorem putAll_snoc (kps:List (Key×V)) (kv:Key×V) (acc:List (Key×V)):putAll (kps ++ [kv]) acc=putK (putAll kps acc) kv.1 kv.2:=by
 unfold putAll
 rw [List.foldl_append]
 rfl
theorem dict_loop {A:Around} {R:Result→Shared→Prop} {dl it:Addr} {ys:List V} {kps:List (Key×V)} {tn:Nat→Heap→Prop} (hP:PairsAt H ys kps) (hdl:H dl=none) (hz:kps.length≤sizeLine)
  (item:∀ (i:Nat) (y:V) (H':Hp) (s:Shared) (Q:Option Value→Shared→Prop),(∀ b o,H b=some o→H' b=some o)→H' it=none→Inv X pins σ H' s→tn i s.heap→ys[i]? = some y→(∀ u s',RelV y u→Inv X pins σ H' s'→tn (i + 1) s'.heap→Q (some u) s')→wpAny (model X.prog X.w) A.in1 (pyNext (.ref it)) Q (fun _ _=>False) s)
  (done:∀ (H':Hp) (s:Shared) (Q:Option Value→Shared→Prop),(∀ b o,H b=some o→H' b=some o)→H' it=none→Inv X pins σ H' s→tn ys.length s.heap→(∀ s',Inv X pins σ H' s'→Q none s')→wpAny (model X.prog X.w) A.in1 (pyNext (.ref it)) Q (fun _ _=>False) s)
  (keep:∀ (i:Nat) (h h':Heap),tn i h→(∀ o,h.get? it=some o→h'.get? it=some o)→tn i h') (hit:H it=none) (hne:it≠dl) (hR:∀ s',Inv X pins σ (upd H dl (.dK (putAll kps []))) s'→R (.ok (.ret .none)) s') :
  ∀ (k i:Nat) (s:Shared) (j:Int) (t0:Tok),ys.length - i=k→i≤ys.length→Inv X pins σ (upd H dl (.dK (putAll (kps.take i) []))) s→tn i s.heap →
   codeAny (model X.prog X.w) A (.builtin "dict.update.loop" ⟨[.ref dl,.ref it,.int j t0,.none],[]⟩) R s:=by
 have up:∀ (acc:List (Key×V)) b o,H b=some o→upd H dl (.dK acc) b=some o:=fun acc b o e=>by rw [upd_ne (ne_of_none e hdl)]; exact e
 have nit:∀ acc:List (Key×V),upd H dl (.dK acc) it=none:=fun acc=>by rw [upd_ne hne]; exact hit
 intro k
 induction k with
 | zero =>
  intro i s j t0 hk hi I st
  have e:i=ys.length:=by omega
  subst e
  rw [hP.1,List.take_of_length_le (Nat.le_refl _)] at I
  refine dict_done (done _ s _ (up _) (nit _) I st fun s' I'=>⟨rfl,hR s' I'⟩)
 | succ k ih =>
  intro i s j t0 hk hi I st
  have hlt:i < ys.length:=by omega
  have hlk:i < kps.length:=by rw [← hP.1]; exact hlt
  obtain ⟨q,ey,hq⟩:=hP.2 i ys[i] kps[i] (by simp [hlt]) (by simp [hlk])
  -- the item is a tuple of two
  have main:∀ s1,Inv X pins σ (upd H dl (.dK (putAll (kps.take i) []))) s1→tn (i + 1) s1.heap→∃ (kk vv:Value) (n:Nat),s1.heap.get? q=some { cls:=.type "tuple",dict:=none,data:=.seq #[kk,vv] n,slots:=#[] }∧RelV (kV kps[i].1) kk∧RelV kps[i].2 vv:=fun s1 I1 _=>by
   obtain ⟨_,its,r,n,e⟩:=(show ObjOk X.prog X.w _ s1.heap q (.tup [kV kps[i].1,kps[i].2]) from I1.hok q _ (up _ q _ hq))
   obtain ⟨u,v,rfl,r1,r2⟩:=Vals.two r
   exact ⟨u,v,n,e,r1,r2⟩
  refine dict_step (item i ys[i] _ s _ (up _) (nit _) I st (by simp [hlt]) fun u s' ru I' st'=>?_)
  rw [ey] at ru
  cases ru
  obtain ⟨kk,vv,n,e,r1,r2⟩:=main s' I' st'
  refine ⟨q,kk,vv,n,rfl,e,?_⟩
  obtain ⟨z,hd,vs,rel,dd⟩:=dk_of I'.hok upd_same
  have hvs:vs.length≤sizeLine:=by rw [← rel.length]; exact z
  have hl:(putK (putAll (kps.take i) []) kps[i].1 kps[i].2).length≤sizeLine:=by
   have h1:=length_putK (putAll (kps.take i) []) kps[i].1 kps[i].2
   have h2:=length_putAll (kps.take i) []
   simp at h2
   omega
  refine wpAny_dictSet_pairs (hsz:=hvs) (kV_is r1) dd fun h' dd' hs=>?_
  have he:∃ q,h'.get? dl=some q:=let ⟨q,_,_,hq,_⟩:=dd'; ⟨q,hq⟩
  have I2:=d_write (t':=s'.toks + 1) I' (by rw [upd_same]; exact True.intro) hs he (dk_new hl hd (rel.put kps[i].1 r2) dd')
  rw [upd_upd] at I2
  have et:kps.take (i + 1)=kps.take i ++ [kps[i]]:=by rw [List.take_add_one]; simp [hlk]
  rw [show putK (putAll (kps.take i) []) kps[i].1 kps[i].2=putAll (kps.take (i + 1)) [] by rw [et,putAll_snoc]] at I2
  exact ih (i + 1) _ (j + 1) _ (by omega) hlt I2 (keep (i + 1) _ _ st' fun o eo=>(hs.2 it hne).trans eo)
theorem call_dict_pairs (hc:X.calm=true):CallR X (.type "dict") (fun xs H Q=>∃ p ys kps,xs=[.ref p]∧(H p=some (.tup ys)∨Rd H p (.lst ys))∧PairsAt H ys kps∧kps.length≤sizeLine∧∀ l,H l=none→Q (.ref l) (upd H l (.dK (putAll kps [])))):=by
 intro pins s σ H xs us Q I r h
 obtain ⟨p,ys,kps,rfl,hp,hP,hz,q⟩:=h
 obtain ⟨u,rfl,rx⟩:=vals1 r
 cases rx
 have hA:X.A.handled=none:=I.ok.hd hc
 refine callType_codes (Q₁:=fun obj s₁=>obj = .ref s.heap.objs.size∧s₁ = { s with heap:=s.heap.push { cls:=.type "dict",data:=.dict #[] } }) F.kt_called_dict (F.kt_typeCall_dict_1 _) F.entry_dict_init (kt_code_dict_new _ ⟨rfl,rfl⟩) ?_
 rintro obj s₁ ⟨rfl,rfl⟩
 have hdl:H s.heap.objs.size=none:=I.hok.fresh (Nat.le_refl _)
 have I1:Inv X pins σ (upd H s.heap.objs.size (.dK [])) { s with heap:=s.heap.push { cls:=.type "dict",data:=.dict #[] } }:=I.laid (t':=s.toks) (fun _ _ q=>Heap.get?_push_of_some _ q) (Nat.le_refl _) (dk_empty s.heap I.big)
 generalize hdd:s.heap.objs.size=dl at hdl I1
 have up:∀ (acc:List (Key×V)) b o,H b=some o→upd H dl (.dK acc) b=some o:=fun acc b o e=>by rw [upd_ne (ne_of_none e hdl)]; exact e
 have hTd:({ s with heap:=s.heap.push { cls:=.type "dict",data:=.dict #[] } }:Shared).TypeIs (.ref dl) "dict":=⟨_,by rw [← hdd]; exact Heap.get?_push_size _ rfl,rfl⟩
 refine ⟨hTd,F.args_dict_init_2 _ _,?_⟩
 unfold Builtin.«dict.__init__»
 refine wpAny_bind ?_
 unfold Builtin.Dict.selfAndRest
 refine wpAny_bind (wpAny_notOrdered_dict hTd ?_)
 show wpAny _ _ (pure (dl,[Value.ref p])) _ _ _
 refine wpAny_pure ?_
 show wpAny _ _ (Builtin.Dict.updateFrom "dict.__init__" dl (.ref p) [] .none) _ _ _
 unfold Builtin.Dict.updateFrom
 have fin:∀ s',Inv X pins σ (upd H dl (.dK (putAll kps []))) s'→EP X pins σ Q (.ref dl) s':=fun s' I'=>⟨.ref dl,_,I',rfl,q dl hdl⟩
 rcases hp with hp | hp
 ·obtain ⟨_,its,r,n,e⟩:=(show ObjOk X.prog X.w _ (s.heap.push { cls:=.type "dict",data:=.dict #[] }) p (.tup ys) from I1.hok p _ (up _ p _ hp))
  refine wpAny_bind (wpAny_typeOf ⟨_,e,rfl⟩ ?_)
  rw [if_pos (by decide)]
  refine wpAny_bind (noKeys_tuple e rfl rfl rfl hA fun h' tk kp=>?_)
  rw [if_pos (show (none:Option Value).isNone=true from rfl)]
  refine wpAny_bind (wpAny_rule ?_)
  have I2:Inv X pins σ (upd H dl (.dK [])) { s with heap:=h',toks:=tk }:=I1.kept kp
  have isT:h'.IsTuple p its.toArray:=⟨_,kp _ _ e,rfl,n,rfl⟩
  refine wpAny_bind (wpAny_pyIter_tuple (s:={ s with heap:=h',toks:=tk }) isT ?_)
  refine wpAny_pure ⟨plainId_quiet plain_dict_loop _,?_⟩
  have hfr:upd H dl (.dK []) h'.objs.size=none:=I2.hok.fresh (Nat.le_refl _)
  have hne:h'.objs.size≠dl:=fun z=>by rw [z,upd_same] at hfr; cases hfr
  have hit:H h'.objs.size=none:=by rw [upd_ne hne] at hfr; exact hfr
  have fp:∀ H':Hp,H' h'.objs.size=none→FpOk X pins H' h'.objs.size:=fun H' hn=>I2.fpOk (Nat.le_refl _) hn
  refine dict_loop (X:=X) (pins:=pins) (σ:=σ) (H:=H) (dl:=dl) (it:=h'.objs.size) (ys:=ys) (kps:=kps) (tn:=fun i h=>h.IsTupleIter h'.objs.size p i) hP hdl hz ?_ ?_ (fun i h h2 st k=>st.at k) hit hne (fun s' I'=>⟨rfl,fin s' I'⟩) ys.length 0 _ 0 _ (Nat.sub_zero _) (Nat.zero_le _) ?_ ?_
  ·intro i y H' s' Q' sub hn I' st hy k
   obtain ⟨_,its2,r2,n2,e2⟩:=(show ObjOk X.prog X.w _ s'.heap p (.tup ys) from I'.hok p _ (sub p _ hp))
   obtain ⟨v,hv,rv⟩:=r2.get hy
   obtain ⟨f0,f1,f2,f3,f4,f5⟩:=fp H' hn
   refine wpAny_pyNext_tuple_item st (items:=its2.toArray) ⟨_,e2,rfl,n2,rfl⟩ (x:=v) (by simpa using hv) fun h3 st3 sb=>?_
   exact k v { s' with heap:=h3 } rv (I'.turned (t':=s'.toks) (fun b o hb e=>(sb.2 b hb).trans e) f0 f1 f3 f4 f5) st3
  ·intro H' s' Q' sub hn I' st k
   obtain ⟨_,its2,r2,n2,e2⟩:=(show ObjOk X.prog X.w _ s'.heap p (.tup ys) from I'.hok p _ (sub p _ hp))
   obtain ⟨f0,f1,f2,f3,f4,f5⟩:=fp H' hn
   have hl2:=r2.length
   exact wpAny_pyNext_tuple_end (show X.A.in1.in1.handled=none from hA) st (items:=its2.toArray) ⟨_,e2,rfl,n2,rfl⟩ (by simp; omega) fun h3 eb=>k { s' with heap:=h3 } (I'.turned (t':=s'.toks) (fun b o hb e=>eb b o hb e) f0 f1 f3 f4 f5)
  ·exact I2.kept (t':=tk) fun b o e=>Heap.get?_push_of_some _ e
  ·exact ⟨_,Heap.get?_push_size _ rfl,rfl,rfl⟩
 ·obtain ⟨_,its,n,r,e⟩:=(show ObjOk X.prog X.w _ (s.heap.push { cls:=.type "dict",data:=.dict #[] }) p (.lst ys) from (Rd.sub hp (up _)).ok I1.hok)
  refine wpAny_bind (wpAny_typeOf ⟨_,e,rfl⟩ ?_)
  rw [if_pos (by decide)]
  refine wpAny_bind (noKeys_list e rfl rfl rfl hA fun h' tk kp=>?_)
  rw [if_pos (show (none:Option Value).isNone=true from rfl)]
  refine wpAny_bind (wpAny_rule ?_)
  have I2:Inv X pins σ (upd H dl (.dK [])) { s with heap:=h',toks:=tk }:=I1.kept kp
  have isT:h'.IsList p its.toArray:=⟨_,kp _ _ e,rfl,n,rfl⟩
  refine wpAny_bind (wpAny_pyIter_list (s:={ s with heap:=h',toks:=tk }) isT ?_)
  refine wpAny_pure ⟨plainId_quiet plain_dict_loop _,?_⟩
  have hfr:upd H dl (.dK []) h'.objs.size=none:=I2.hok.fresh (Nat.le_refl _)
  have hne:h'.objs.size≠dl:=fun z=>by rw [z,upd_same] at hfr; cases hfr
  have hit:H h'.objs.size=none:=by rw [upd_ne hne] at hfr; exact hfr
  have fp:∀ H':Hp,H' h'.objs.size=none→FpOk X pins H' h'.objs.size:=fun H' hn=>I2.fpOk (Nat.le_refl _) hn
  refine dict_loop (X:=X) (pins:=pins) (σ:=σ) (H:=H) (dl:=dl) (it:=h'.objs.size) (ys:=ys) (kps:=kps) (tn:=fun i h=>h.IsListIter h'.objs.size p i) hP hdl hz ?_ ?_ (fun i h h2 st k=>st.at k) hit hne (fun s' I'=>⟨rfl,fin s' I'⟩) ys.length 0 _ 0 _ (Nat.sub_zero _) (Nat.zero_le _) ?_ ?_
  ·intro i y H' s' Q' sub hn I' st hy k
   obtain ⟨_,its2,n2,r2,e2⟩:=(show ObjOk X.prog X.w _ s'.heap p (.lst ys) from (Rd.sub hp sub).ok I'.hok)
   obtain ⟨v,hv,rv⟩:=r2.get hy
   obtain ⟨f0,f1,f2,f3,f4,f5⟩:=fp H' hn
   refine wpAny_pyNext_list_item st (items:=its2.toArray) ⟨_,e2,rfl,n2,rfl⟩ (x:=v) (by simpa using hv) fun h3 st3 sb=>?_
   exact k v { s' with heap:=h3 } rv (I'.turned (t':=s'.toks) (fun b o hb e=>(sb.2 b hb).trans e) f0 f1 f3 f4 f5) st3
  ·intro H' s' Q' sub hn I' st k
   obtain ⟨_,its2,n2,r2,e2⟩:=(show ObjOk X.prog X.w _ s'.heap p (.lst ys) from (Rd.sub hp sub).ok I'.hok)
   obtain ⟨f0,f1,f2,f3,f4,f5⟩:=fp H' hn
   have hl2:=r2.length
   exact wpAny_pyNext_list_end (show X.A.in1.in1.handled=none from hA) st (items:=its2.toArray) ⟨_,e2,rfl,n2,rfl⟩ (by simp; omega) fun h3 eb=>k { s' with heap:=h3 } (I'.turned (t':=s'.toks) (fun b o hb e=>eb b o hb e) f0 f1 f3 f4 f5)
  ·exact I2.kept (t':=tk) fun b o e=>Heap.get?_push_of_some _ e
  ·exact ⟨_,Heap.get?_push_size _ rfl,rfl,rfl⟩
end
end L2
set_option Elab.async false
set_option linter.all false
set_option maxRecDepth 100000
set_option maxHeartbeats 400000
namespace DV
open PySem PySem.Spec PyProof.Rows L2
def valD (kvs:List (DKey×D)) (k:DKey):Option D:=(kvs.find? fun kv=>decide (kv.1=k)).map (·.2)
def putD (kvs:List (DKey×D)) (k:DKey) (v:D):List (DKey×D) :=
 if (kvs.any fun kv=>decide (kv.1=k))=true then kvs.map (fun kv=>if kv.1=k then (kv.1,v) else kv) else kvs ++ [(k,v)]
def putDs (kps acc:List (DKey×D)):List (DKey×D):=kps.foldl (fun a kv=>putD a kv.1 kv.2) acc
theorem kOf_inj {k j:DKey} (h:kOf k=kOf j):k=j:=by
 cases k <;> cases j <;> simp [kOf] at h
 ·rw [h]
 ·rw [toS_inj h]
def DR (H:Hp) (O:Addr→Prop):List (Key×V)→List (DKey×D)→Prop
 | [],[]=>True
 | p :: ws,q :: ds=>p.1=kOf q.1∧Rep H O p.2 q.2∧DR H O ws ds
 | _,_=>False
section
variable {H H':Hp} {O O':Addr→Prop}
theorem DR.of:∀ {ws:List (Key×V)} {ds:List (DKey×D)},ws.map (·.1)=ds.map (fun p=>kOf p.1)→(∀ (i:Nat) p q,ws[i]? = some p→ds[i]? = some q→Rep H O p.2 q.2)→DR H O ws ds
 | [],[],_,_=>trivial
 | [],_ :: _,h,_=>by simp at h
 | _ :: _,[],h,_=>by simp at h
 | p :: ws,q :: ds,h,k=>by
  simp only [List.map_cons,List.cons.injEq] at h
  exact ⟨h.1,k 0 p q rfl rfl,DR.of h.2 fun i p' q' e1 e2=>k (i + 1) p' q' (by simpa using e1) (by simpa using e2)⟩
theorem DR.keys:∀ {ws:List (Key×V)} {ds:List (DKey×D)},DR H O ws ds→ws.map (·.1)=ds.map (fun p=>kOf p.1)
 | [],[],_=>rfl
 | [],_ :: _,h=>h.elim
 | _ :: _,[],h=>h.elim
 | p :: ws,q :: ds,h=>by simp only [List.map_cons,h.1,DR.keys h.2.2]
theorem DR.vals:∀ {ws:List (Key×V)} {ds:List (DKey×D)},DR H O ws ds→∀ (i:Nat) p q,ws[i]? = some p→ds[i]? = some q→Rep H O p.2 q.2
 | [],[],_,i,p,q,e,_=>by simp at e
 | [],_ :: _,h,_,_,_,_,_=>h.elim
 | _ :: _,[],h,_,_,_,_,_=>h.elim
 | p :: ws,q :: ds,h,i,p',q',e1,e2=>by
  cases i with
  | zero=>simp at e1 e2; subst e1 e2; exact h.2.1
  | succ i=>exact DR.vals h.2.2 i p' q' (by simpa using e1) (by simpa using e2)
theorem DR.map:∀ {ws:List (Key×V)} {ds:List (DKey×D)},DR H O ws ds→(∀ v d,Rep H O v d→Rep H' O' v d)→DR H' O' ws ds
 | [],[],_,_=>trivial
 | [],_ :: _,h,_=>h.elim
 | _ :: _,[],h,_=>h.elim
 | p :: ws,q :: ds,h,k=>⟨h.1,k _ _ h.2.1,DR.map h.2.2 k⟩
theorem key_iff {p:Key} {q k:DKey} (h:p=kOf q):(p=kOf k) ↔ q=k:=⟨fun e=>kOf_inj (by rw [← h]; exact e),fun e=>by rw [h,e]⟩
theorem DR.any:∀ {ws:List (Key×V)} {ds:List (DKey×D)} (k:DKey),DR H O ws ds→(ws.any fun kv=>decide (kv.1=kOf k))=ds.any fun kv=>decide (kv.1=k)
 | [],[],_,_=>rfl
 | [],_ :: _,_,h=>h.elim
 | _ :: _,[],_,h=>h.elim
 | p :: ws,q :: ds,k,h=>by
  rw [List.any_cons,List.any_cons,DR.any k h.2.2]
  congr 1
  exact decide_eq_decide.mpr (key_iff h.1)
theorem DR.val:∀ {ws:List (Key×V)} {ds:List (DKey×D)} (k:DKey),DR H O ws ds→(valD ds k=none∧valV ws (kOf k)=none)∨∃ v d,valD ds k=some d∧valV ws (kOf k)=some v∧Rep H O v d
 | [],[],_,_=>.inl ⟨rfl,rfl⟩
 | [],_ :: _,_,h=>h.elim
 | _ :: _,[],_,h=>h.elim
 | p :: ws,q :: ds,k,h=>by
  by_cases e:q.1=k
  ·have e':=(key_iff h.1).mpr e
   exact .inr ⟨p.2,q.2,by simp [valD,List.find?_cons,e],valV_pos e',h.2.1⟩
  ·have e':¬ p.1=kOf k:=fun z=>e ((key_iff h.1).mp z)
   have ev:valD (q :: ds) k=valD ds k:=by simp [valD,List.find?_cons,e]
   rw [ev,valV_neg e']
   exact DR.val k h.2.2
theorem DR.append:∀ {ws ws':List (Key×V)} {ds ds':List (DKey×D)},DR H O ws ds→DR H O ws' ds'→DR H O (ws ++ ws') (ds ++ ds')
 | [],_,[],_,_,h'=>h'
 | [],_,_ :: _,_,h,_=>h.elim
 | _ :: _,_,[],_,h,_=>h.elim
 | p :: ws,_,q :: ds,_,h,h'=>⟨h.1,h.2.1,DR.append h.2.2 h'⟩
theorem DR.store:∀ {ws:List (Key×V)} {ds:List (DKey×D)} {k:DKey} {v:V} {d:D},DR H O ws ds→Rep H O v d→DR H O (ws.map fun kv=>if kv.1=kOf k then (kv.1,v) else kv) (ds.map fun kv=>if kv.1=k then (kv.1,d) else kv)
 | [],[],_,_,_,_,_=>trivial
 | [],_ :: _,_,_,_,h,_=>h.elim
 | _ :: _,[],_,_,_,h,_=>h.elim
 | p :: ws,q :: ds,k,v,d,h,r=>by
  refine ⟨?_,?_,DR.store h.2.2 r⟩
  ·by_cases e:q.1=k
   ·dsimp only; rw [if_pos ((key_iff h.1).mpr e),if_pos e]; exact h.1
   ·dsimp only; rw [if_neg fun z=>e ((key_iff h.1).mp z),if_neg e]; exact h.1
  ·by_cases e:q.1=k
   ·dsimp only; rw [if_pos ((key_iff h.1).mpr e),if_pos e]; exact r
   ·dsimp only; rw [if_neg fun z=>e ((key_iff h.1).mp z),if_neg e]; exact h.2.1
theorem DR.put {ws:List (Key×V)} {ds:List (DKey×D)} {k:DKey} {v:V} {d:D} (h:DR H O ws ds) (r:Rep H O v d):DR H O (putK ws (kOf k) v) (putD ds k d):=by
 unfold putK putD
 rw [DR.any k h]
 split
 ·exact DR.store h r
 ·exact DR.append h ⟨rfl,r,trivial⟩
theorem DR.puts:∀ {kps:List (Key×V)} {dps:List (DKey×D)} {ws:List (Key×V)} {ds:List (DKey×D)},DR H O kps dps→DR H O ws ds→DR H O (putAll kps ws) (putDs dps ds)
 | [],[],_,_,_,h=>h
 | [],_ :: _,_,_,h,_=>h.elim
 | _ :: _,[],_,_,h,_=>h.elim
 | p :: kps,q :: dps,ws,ds,h,h'=>by
  show DR H O (putAll kps (putK ws p.1 p.2)) (putDs dps (putD ds q.1 q.2))
  rw [h.1]
  exact DR.puts h.2.2 (DR.put h' h.2.1)
end
def keyD:D→Option DKey
 | .int i=>some (.inl i)
 | .str x=>some (.inr x)
 | _=>none
theorem rep_key {H:Hp} {O:Addr→Prop} {v:V} {d:D} {k:DKey} (h:keyD d=some k) (r:Rep H O v d):v=kV (kOf k):=by
 cases d <;> simp [keyD] at h <;> subst h <;> cases r <;> rfl
theorem repB_key {c:Fc} {σ:St} {δ:Dl} {H:Hp} {v:V} {d:D} {k:DKey} (h:keyD d=some k) (r:RepB c σ δ H v d):v=kV (kOf k):=by
 rcases r with r | ⟨a,rfl,r⟩
 ·exact rep_key h r
 ·cases d <;> simp [keyD] at h <;> exact r.elim
def pairsD:List D→Option (List (DKey×D))
 | []=>some []
 | .tup [k,v] :: r=>match keyD k,pairsD r with
  | some k',some r'=>some ((k',v) :: r')
  | _,_=>none
 | _ :: _=>none
def pDictOf:D→Option S
 | .lst ds=>(pairsD ds).bind fun ps=>if ps.length≤sizeLine then some (.own (.dct (putDs ps []))) else none
 | .tup ds=>(pairsD ds).bind fun ps=>if ps.length≤sizeLine then some (.own (.dct (putDs ps []))) else none
 | _=>none
theorem pairs_of {H:Hp} {O:Addr→Prop}:∀ {ds:List D} {vs:List V} {ps:List (DKey×D)},pairsD ds=some ps→Reps H O vs ds→∃ kps,PairsAt H vs kps∧DR H O kps ps∧kps.length=ps.length
 | [],[],ps,h,_=>by
  simp [pairsD] at h
  subst h
  exact ⟨[],⟨rfl,fun i y kv e=>by simp at e⟩,trivial,rfl⟩
 | [],_ :: _,_,_,r=>by have:=r.1; simp at this
 | _ :: _,[],_,_,r=>by have:=r.1; simp at this
 | d :: ds,v :: vs,ps,h,r=>by
  unfold pairsD at h
  split at h
  ·rename_i heq; cases heq
  ·rename_i k w r' heq
   cases heq
   split at h
   ·rename_i k' r'' hk hr
    cases h
    obtain ⟨kps,hP,hD,hL⟩:=pairs_of hr r.tail
    have rp:=r.head
    cases rp with
    | tup h1 h2 h3 h4 =>
     rename_i a us
     match us,h3,h4,h2 with
     | [x,y],_,h4,h2 =>
      have rk:=h4 0 x k rfl rfl
      have rv:=h4 1 y w rfl rfl
      have ek:=rep_key hk rk
      subst ek
      refine ⟨(kOf k',y) :: kps,⟨by simp [hP.1],fun i z kv e1 e2=>?_⟩,⟨rfl,rv,hD⟩,by simp [hL]⟩
      cases i with
      | zero=>simp at e1 e2; subst e1 e2; exact ⟨a,rfl,h2⟩
      | succ i=>exact hP.2 i z kv (by simpa using e1) (by simpa using e2)
   ·cases h
  ·cases h
theorem RepS.newDk {c:Fc} {σ:St} {δ:Dl} {H:Hp} {p:Addr} {ws:List (Key×V)} {ds:List (DKey×D)} (k:Ok c σ δ H) (hp:H p=none) (r:DR H (Av c σ δ) ws ds):RepS c σ δ H (upd H p (.dK ws)) (.ref p) (.own (.dct ds)):=by
 have up:∀ a w,H a=some w→upd H p (.dK ws) a=some w:=fun a w e=>by rw [upd_ne (ne_of_none e hp)]; exact e
 have r1:DR (upd H p (.dK ws)) (Av (c.plus p) σ δ) ws ds:=r.map fun v d h=>(h.anti fun b z=>by
  rcases z with (z | z) | z
  ·exact .inl (.inl z)
  ·exact .inr (by rw [z]; exact hp)
  ·exact .inl (.inr z)).keep fun b w e _=>up b w e
 exact ⟨p,rfl,⟨ws,upd_same,r1.keys,r1.vals⟩,fun z=>k.nav hp (.inl z),k.fresh₀ hp,k.plus hp _,hp⟩
section
variable {X:Cx} {c:Fc} {e:Expr} {fb:BE} {pos pp:Pos}
theorem boot_dict':bootBuiltins "dict" = some (.type "dict"):=by decide +kernel
theorem se_dictOf (hc:X.calm=true) (hg:Gl X "dict") (hm:X.mg "dict" = none) (he:SB X c e fb) (hs:notStar e=true:=by rfl):SE X c (.Call (.Name "dict" pp) [e] [] pos) (eC1 pDictOf fb) :=
 se_call1T (r:=fun v H Q=>∃ p ys kps,v = .ref p∧(H p=some (.tup ys)∨Rd H p (.lst ys))∧PairsAt H ys kps∧kps.length≤sizeLine∧∀ l,H l=none→Q (.ref l) (upd H l (.dK (putAll kps []))))
  (call_dict_pairs hc) (fun v H Q ⟨p,ys,kps,e,h⟩=>⟨p,ys,kps,by rw [e],h⟩)
  (fun c σ δ H x d s Q k rx hp q=>by
   cases d with
   | lst ds =>
    simp only [pDictOf] at hp
    cases hps:pairsD ds with
    | none=>rw [hps] at hp; cases hp
    | some ps =>
     rw [hps] at hp
     simp only [Option.bind_some] at hp
     split at hp
     ·rename_i hz
      cases hp
      obtain ⟨a,vs,ex,ha,r⟩:=rx.lst
      obtain ⟨kps,hP,hD,hL⟩:=pairs_of hps r
      exact ⟨a,vs,kps,ex,.inr ha,hP,by rw [hL]; exact hz,fun l hl=>q _ _ (.alloc k hl _) (RepS.newDk k hl (DR.puts hD (ws:=[]) (ds:=[]) trivial))⟩
     ·cases hp
   | tup ds =>
    simp only [pDictOf] at hp
    cases hps:pairsD ds with
    | none=>rw [hps] at hp; cases hp
    | some ps =>
     rw [hps] at hp
     simp only [Option.bind_some] at hp
     split at hp
     ·rename_i hz
      cases hp
      obtain ⟨a,vs,ex,ha,r⟩:=rx.tup
      obtain ⟨kps,hP,hD,hL⟩:=pairs_of hps r
      exact ⟨a,vs,kps,ex,.inl ha,hP,by rw [hL]; exact hz,fun l hl=>q _ _ (.alloc k hl _) (RepS.newDk k hl (DR.puts hD (ws:=[]) (ds:=[]) trivial))⟩
     ·cases hp
   | _=>simp [pDictOf] at hp) hg hm boot_dict' he (by decide) (by decide) (star_of hs)
end
theorem repB_dct {c:Fc} {σ:St} {δ:Dl} {H:Hp} {v:V} {ds:List (DKey×D)} (r:RepB c σ δ H v (.dct ds)):∃ a ws,v = .ref a∧H a=some (.dK ws)∧DR H (Av c σ δ) ws ds:=by
 obtain ⟨a,ws,e,h,k1,k2⟩:=r.dct
 exact ⟨a,ws,e,h,DR.of k1 k2⟩
def rInD (neg:Bool):R2:=fun x y H Q=>∃ a kvs k,y = .ref a∧H a=some (.dK kvs)∧x=kV k∧Q (.bl (if neg then !(valV kvs k).isSome else (valV kvs k).isSome)) H
theorem op_inD {X:Cx} (hu:X.A.units + 64 < cLine):OpR X (compareOp .In) (rInD false):=by
 intro pins s σ H x y v u Q I rx ry h
 obtain ⟨a,kvs,k,rfl,ha,rfl,q⟩:=h
 cases ry
 exact d_in (by omega) I (DGet.k ha) rx fun s' I'=>⟨.bl _,H,I',rfl,q⟩
def rInAll (K:PySem.W.Frag) (neg:Bool):R2:=fun x y H Q=>rInD neg x y H Q∨rIn K neg x y H Q∨∃ i j,x = .str i∧y = .str j∧Q (.bl (if neg then !(!(Builtin.Str.occurrences j i 0 j.length 1).isEmpty) else !(Builtin.Str.occurrences j i 0 j.length 1).isEmpty)) H
theorem op_inAll {X:Cx} (hu:X.A.units + 64 < cLine):OpR X (compareOp .In) (rInAll X.K false):=(op_inD hu).or (op_in_seq.or op_in_str)
def pIn (neg:Bool) (x y:D):Option S:=match y with
 | .dct ds=>(keyD x).map fun k=>.pure (.bl (if neg then !(valD ds k).isSome else (valD ds k).isSome))
 | .str y=>match x with
  | .str [n]=>some (.pure (.bl (if neg then !decide (n ∈ y) else decide (n ∈ y))))
  | _=>none
 | .lst ds=>match x,texts ds with
  | .str z,some ts=>some (.pure (.bl (if neg then !ts.contains z else ts.contains z)))
  | _,_=>none
 | .tup ds=>match x,texts ds with
  | .str z,some ts=>some (.pure (.bl (if neg then !ts.contains z else ts.contains z)))
  | _,_=>none
 | _=>none
theorem inV_texts (z:Tx) (ts:List Tx):inV (V.str (toS z)) (ts.map fun z=>V.str (toS z))=ts.contains z:=by
 unfold inV
 rw [List.any_map]
 induction ts with
 | nil=>rfl
 | cons t r ih =>
  rw [List.any_cons,List.contains_cons,ih]
  congr 1
  show (toS t == toS z)=(z == t)
  rw [toS_beq,Bool.beq_comm]
theorem flat_texts (ts:List Tx):(ts.map fun z=>V.str (toS z)).all flatV=true:=by
 rw [List.all_map]
 exact List.all_eq_true.mpr fun _ _=>rfl
theorem o2_inAll {K:PySem.W.Frag} (neg:Bool):Op2 (rInAll K neg) (pIn neg):=by
 intro c σ δ H x y d e s Q k rx ry hp q
 cases e <;> first | (simp [pIn] at hp; done) | skip
 ·rename_i z
  simp only [pIn] at hp
  split at hp <;> first | (cases hp; done) | skip
  rename_i n
  cases hp
  refine .inr (.inr ⟨toS [n],toS z,rx.str,ry.str,?_⟩)
  rw [show toS [n] = ⟨#[n]⟩ from rfl,PySem.StrLaws.found_one,show (toS z).cps.toList=z by simp [toS]]
  exact q _ H (.refl k) (.bl _)
 ·rename_i ds
  simp only [pIn] at hp
  split at hp <;> first | (cases hp; done) | skip
  rename_i z ts ht
  cases hp
  obtain ⟨a,vs,ea,ha,r⟩:=ry.tup
  have ev:=reps_texts ht r
  refine .inr (.inl ⟨a,vs,ea,.inr (.of ha),by rw [rx.str]; rfl,by rw [ev]; exact flat_texts ts,?_⟩)
  rw [rx.str,ev,inV_texts]
  exact q _ H (.refl k) (.bl _)
 ·rename_i ds
  simp only [pIn] at hp
  split at hp <;> first | (cases hp; done) | skip
  rename_i z ts ht
  cases hp
  obtain ⟨a,vs,ea,ha,r⟩:=ry.lst
  have ev:=reps_texts ht r
  refine .inr (.inl ⟨a,vs,ea,.inl (.inl ha),by rw [rx.str]; rfl,by rw [ev]; exact flat_texts ts,?_⟩)
  rw [rx.str,ev,inV_texts]
  exact q _ H (.refl k) (.bl _)
 ·rename_i ds
  simp only [pIn] at hp
  cases hk:keyD d with
  | none=>rw [hk] at hp; cases hp
  | some kk =>
   rw [hk] at hp
   cases hp
   obtain ⟨a,ws,ea,ha,dr⟩:=repB_dct ry
   refine .inl ⟨a,ws,kOf kk,ea,ha,repB_key hk rx,?_⟩
   have:(valV ws (kOf kk)).isSome=(valD ds kk).isSome:=by
    rcases dr.val kk with ⟨e1,e2⟩ | ⟨v,d,e1,e2,_⟩
    ·rw [e1,e2]; rfl
    ·rw [e1,e2]; rfl
   rw [this]
   exact q _ H (.refl k) (.bl _)
def rIxD:R2:=fun x y H Q=>∃ a kvs k v,x = .ref a∧H a=some (.dK kvs)∧y=kV k∧valV kvs k=some v∧Q v H
def pIxX:D→D→Option S
 | .dct ds,k=>(keyD k).bind fun k=>(valD ds k).map .pure
 | x,y=>pIx x y
theorem ix_dict {X:Cx} (hu:X.A.units + 64 < cLine):IxR X rIxD:=by
 intro value slice pins s σ H x y v u Q I rx ry h hs
 obtain ⟨a,kvs,k,w,rfl,ha,rfl,hv,q⟩:=h
 cases rx
 obtain ⟨_,_,vs,_,dd⟩:=dk_of I.hok ha
 have hT:s.TypeIs (.ref a) "dict":=dd.typeIs
 exact tail_any hT F.slot_dict_getitem.lookup (d_getItem (v:=w) (by omega) I (by rw [← hv]; exact DGet.k ha) ry fun w' s' I' rw'=>⟨w,H,I',rw',q⟩) hs
theorem o2_ixX {K:PySem.W.Frag}:Op2 (fun x y H Q=>rIxD x y H Q∨rIx K x y H Q) pIxX:=by
 intro c σ δ H x y d e s Q k rx ry hp q
 cases d with
 | dct ds =>
  simp only [pIxX] at hp
  cases hk:keyD e with
  | none=>rw [hk] at hp; cases hp
  | some kk =>
   rw [hk] at hp
   simp only [Option.bind_some,Option.map_eq_some_iff] at hp
   obtain ⟨dv,hv,rfl⟩:=hp
   obtain ⟨a,ws,ea,ha,dr⟩:=repB_dct rx
   rcases dr.val kk with ⟨e1,e2⟩ | ⟨v,d',e1,e2,r⟩
   ·rw [e1] at hv; cases hv
   ·rw [e1] at hv; cases hv
    exact .inl ⟨a,ws,kOf kk,v,ea,ha,repB_key hk ry,e2,q v H (.refl k) r⟩
 | _=>exact .inr (o2_ix c σ δ H x y _ e s Q k rx ry hp q)
end DV
set_option Elab.async false
set_option linter.all false
set_option maxRecDepth 100000
set_option maxHeartbeats 400000
namespace PySem
open Sem (wp)
open AutoSeq1 (wpAny_loadPart')
section
variable {prog:Program} {w:World} {A:Around} {E:Value→Shared→Prop} {s:Shared}
theorem nextOf_tuple_item {it l:Addr} {i:Nat} {items} {x:Value} {Q:Value→Shared→Prop} (hit:s.heap.IsTupleIter it l i) (hl:s.heap.IsTuple l items) (hx:items[i]? = some x)
  (hQ:∀ h',h'.IsTupleIter it l (i + 1)→Heap.SameBut it s.heap h'→Q x { s with heap:=h' }):wpAny (model prog w) A (Builtin.SmallTypes.nextOf (.ref it)) Q E s:=by
 obtain ⟨o,ho,hc,hd⟩:=id hit
 obtain ⟨ol,hol,_,nl,hdl⟩:=hl
 unfold Builtin.SmallTypes.nextOf
 refine wpAny_bind (wpAny_callSpecial?_slot (name:=Str.ofString "__next__") hit.typeIs F.slot_tuple_iterator_next
  (wpAny_call_entry F.slot_tuple_iterator_next hit.typeIs F.entry_tuple_iterator_next ?_ (F.args_tuple_iterator_next_1 _)))
 show wpAny _ _ (field (.ref it) 0 >>= _) _ _ s
 refine wpAny_bind (wpAny_field ho hd (x:=.ref l) rfl ?_)
 show wpAny _ _ (if (Value.ref l == Value.none)=true then _ else _) _ _ s
 rw [if_neg (show ¬ ((Value.ref l == Value.none)=true) from Bool.false_ne_true)]
 show wpAny _ _ (field (.ref it) 1 >>= _) _ _ s
 refine wpAny_bind (wpAny_field ho hd (x:=.int i 0) rfl ?_)
 show wpAny _ _ (seqItems? (.ref l) >>= _) _ _ s
 refine wpAny_bind (wpAny_seqItems hol hdl ?_)
 simp only [Int.toNat_natCast,hx]
 refine wpAny_bind (wpAny_setField ho hd (by simp) (wpAny_pure ⟨x,rfl,wpAny_pure (hQ _ ?_ (Heap.SameBut.update ..))⟩))
 exact ⟨_,Heap.get?_update_self _ ho (Obj.isFreed_of_fields (Obj.data_mapFields hd _)),(Obj.cls_mapFields ..).trans hc,by
  rw [Obj.data_mapFields hd]; simp [rawInt]⟩
theorem nextOf_tuple_end {it l:Addr} {i:Nat} {items} {Q:Value→Shared→Prop} (hh:A.handled=none) (hit:s.heap.IsTupleIter it l i) (hl:s.heap.IsTuple l items) (hx:items[i]? = none)
  (hE:∀ h' e,Heap.ExtBut it s.heap h'→(∃ o,h'.get? e=some o∧o.cls = .type "StopIteration")→E (.ref e) { s with heap:=h' }):wpAny (model prog w) A (Builtin.SmallTypes.nextOf (.ref it)) Q E s:=by
 obtain ⟨o,ho,hc,hd⟩:=id hit
 obtain ⟨ol,hol,_,nl,hdl⟩:=hl
 unfold Builtin.SmallTypes.nextOf
 refine wpAny_bind (wpAny_callSpecial?_slot (name:=Str.ofString "__next__") hit.typeIs F.slot_tuple_iterator_next
  (wpAny_call_entry F.slot_tuple_iterator_next hit.typeIs F.entry_tuple_iterator_next ?_ (F.args_tuple_iterator_next_1 _)))
 show wpAny _ _ (field (.ref it) 0 >>= _) _ _ s
 refine wpAny_bind (wpAny_field ho hd (x:=.ref l) rfl ?_)
 show wpAny _ _ (if (Value.ref l == Value.none)=true then _ else _) _ _ s
 rw [if_neg (show ¬ ((Value.ref l == Value.none)=true) from Bool.false_ne_true)]
 show wpAny _ _ (field (.ref it) 1 >>= _) _ _ s
 refine wpAny_bind (wpAny_field ho hd (x:=.int i 0) rfl ?_)
 show wpAny _ _ (seqItems? (.ref l) >>= _) _ _ s
 refine wpAny_bind (wpAny_seqItems hol hdl ?_)
 simp only [Int.toNat_natCast,hx]
 refine wpAny_bind (wpAny_rule (wpAny_bind (wpAny_setField ho hd (by simp) ?_)))
 show wpAny _ _ (newExc (.type "StopIteration") [] >>= _) _ _ _
 refine wpAny_bind ?_
 simp only [newExc,newTuple]
 refine wpAny_bind (wpAny_newObj_type ?_ (by size_fits))
 refine wpAny_bind (m:=firstArgMember _ _) (wpAny_of_eq (a:=Value.none) (by first | rfl | (simp only [firstArgMember]; rfl)) ?_)
 refine wpAny_newObj_type ?_ (by size_fits)
 simp only [raiseNew]
 refine wpAny_bind (wpAny_handled ?_)
 first | rw [show A.in1.handled=none from hh] | rw [hh]
 refine wpAny_bind (wpAny_pure (wpAny_throw ?_))
 exact hE _ _ (((Heap.SameBut.update ..).extBut.push _).push _) ⟨_,Heap.get?_push_size _ rfl,rfl⟩
end
theorem IsTuple.at' {h h':Heap} {l:Addr} {items:Array Value} (x:h.IsTuple l items) (k:∀ o,h.get? l=some o→h'.get? l=some o):h'.IsTuple l items:=by
 obtain ⟨o,ho,r⟩:=x
 exact ⟨o,k o ho,r⟩
theorem Draws.tuple' {prog:Program} {w:World} {A:Around} (hh:A.handled=none) (it l:Addr) (hne:l≠it) (items:Array Value) :
  Draws prog w A it [it,l] items.size (fun i v=>items[i]? = some v) (fun i h=>h.IsTupleIter it l i∧h.IsTuple l items) where
 live:=fun _ _ st=>let ⟨o,ho,_⟩:=st.1; ⟨o,ho⟩
 frame:=fun _ _ _ st hk=>⟨st.1.at fun o e=>hk it (by simp) o e,IsTuple.at' st.2 fun o e=>hk l (by simp) o e⟩
 item:=fun i s Q E hi st hQ=>by
  refine nextOf_tuple_item st.1 st.2 (x:=items[i]) (by simp [hi]) fun h' hit' hs'=>?_
  exact hQ _ h' s.toks (by simp [hi]) ⟨hit',IsTuple.at' st.2 fun o e=>(hs'.2 l hne).trans e⟩ hs'
 done:=fun s Q E st hE=>nextOf_tuple_end hh st.1 st.2 (by simp) hE
theorem meets_enumerate_newT (l:Addr) (items:Array Value) (n:Nat) (dct:Option Addr) (sl:Array (Option Value)) :
  Meets (Builtin.«enumerate.__new__» ⟨[.type "enumerate",.ref l],[]⟩) (fun _ R s=>s.heap.get? l=some { cls:=.type "tuple",dict:=dct,data:=.seq items n,slots:=sl } ∧
   R (.ok (.ret (.ref (s.heap.push { cls:=.type "tuple_iterator",data:=.fields #[.ref l,.int 0 0] }).objs.size)))
    { s with heap:=(s.heap.push { cls:=.type "tuple_iterator",data:=.fields #[.ref l,.int 0 0] }).push { cls:=.type "enumerate",data:=.fields #[.none,.bool false,.ref s.heap.objs.size,rawInt 0,.none,.none] } }) :=
 .of_wp fun prog w A R s h=>by
  obtain ⟨hp,g,d,tk,os⟩:=s; obtain ⟨hl,h⟩:=h
  have hsub:=sub_enumerate
  have hL:Heap.IsTuple (Shared.heap ⟨hp,g,d,tk,os⟩) l items:=⟨_,hl,rfl,n,rfl⟩
  wp_walk using wpAny_loadPart' hl
  refine wpAny_stack_any fun st=>wpAny_pure ?_
  split
  ·rename_i c _ _ _ _ _
   cases (c == Value.type "enumerate")
   ·wp_walk using wpAny_loadPart' hl,wpAny_pyIter_tuple hL
    exact ⟨_,rfl,h⟩
   ·wp_walk using wpAny_loadPart' hl,wpAny_pyIter_tuple hL
    exact ⟨_,rfl,h⟩
  ·wp_walk using wpAny_loadPart' hl,wpAny_pyIter_tuple hL
   exact ⟨_,rfl,h⟩
theorem call_enumerate_tuple' {prog:Program} {w:World} {A:Around} {E:Value→Shared→Prop} {s:Shared} {l:Addr} {items:Array Value} {Q:Value→Shared→Prop} (hL:s.heap.IsTuple l items)
  (h:∀ h',IsEnum h' (s.heap.objs.size + 1) s.heap.objs.size 0 .none→h'.IsTupleIter s.heap.objs.size l 0→h'.objs.size=s.heap.objs.size + 2 →
   (∀ b o,s.heap.get? b=some o→h'.get? b=some o)→Q (.ref (s.heap.objs.size + 1)) { s with heap:=h' }) :
  wpAny (model prog w) A (call (.type "enumerate") [.ref l]) Q E s:=by
 obtain ⟨⟨c,dct,dt,sl⟩,hl,hc,n,hd⟩:=hL
 replace hc:c = .type "tuple":=hc
 replace hd:dt = .seq items n:=hd
 subst hc hd
 refine callType_new F.called_enumerate (by decide) (F.typeCall_enumerate_1 _) (F.newCall_enumerate_1 _) (fun obj=>F.args_object_init_2 obj _) F.entry_enumerate_new
  (meets_enumerate_newT l items n dct sl) ⟨hl,?_⟩
 have hz:(s.heap.push { cls:=.type "tuple_iterator",data:=.fields #[.ref l,.int 0 0] }).objs.size=s.heap.objs.size + 1:=Heap.size_push ..
 show _∧_
 rw [hz]
 have he:IsEnum ((s.heap.push { cls:=.type "tuple_iterator",data:=.fields #[.ref l,.int 0 0] }).push
   { cls:=.type "enumerate",data:=.fields #[.none,.bool false,.ref s.heap.objs.size,rawInt 0,.none,.none] }) (s.heap.objs.size + 1) s.heap.objs.size 0 .none:=by
  have:=Heap.get?_push_size (s.heap.push { cls:=.type "tuple_iterator",data:=.fields #[.ref l,.int 0 0] })
   (o:={ cls:=.type "enumerate",data:=.fields #[.none,.bool false,.ref s.heap.objs.size,rawInt 0,.none,.none] }) rfl
  rw [hz] at this; exact this
 refine ⟨⟨_,he,rfl⟩,h _ he ⟨_,Heap.get?_push_of_some _ (Heap.get?_push_size _ rfl),rfl,rfl⟩ (by rw [Heap.size_push,hz]) fun b o x=>Heap.get?_push_of_some _ (Heap.get?_push_of_some _ x)⟩
end PySem
set_option Elab.async false
set_option linter.all false
set_option maxRecDepth 100000
set_option maxHeartbeats 400000
namespace L2
open PySem PySem.Spec PyProof.Rows
section
variable {X:Cx} {pins:List (Addr×Obj)} {σ:St} {H:Hp} {s:Shared} {h':Heap}
theorem Inv.turnedL {t':Nat} (fp:List Addr) (I:Inv X pins σ H s) (k:∀ b o,b ∉ fp→s.heap.get? b=some o→h'.get? b=some o) (hf:∀ b ∈ fp,FpOk X pins H b):Inv X pins σ H { s with heap:=h',toks:=t' }:=by
 have nit:∀ b u,H b=some u→b ∉ fp:=fun b u e z=>by rw [(hf b z).1] at e; cases e
 refine I.step (g':=s.gens) (d':=s.drawn) (ch:=fp) (fun b hb=>?_) (fun b o _ _ hc e _=>k b o hc e) (fun b o _ _ hc e _=>⟨o.slots,k b o hc e⟩) (fun _ _ _ _ n=>n)
  (fun b o hc e=>⟨o,k b o hc e⟩) (fun _ _ e=>e) (fun _ _ _ e=>e) (fun b ps e=>⟨#[],by rw [e]; simp⟩) (fun m hm=>?_) (fun b u e=>?_) I.bare
 ·obtain ⟨f0,f1,f2,f3,f4,f5⟩:=hf b hb
  exact ⟨f3,f1,f4,f5⟩
 ·obtain ⟨o,es,ep,ho,r⟩:=hm
  exact ⟨o,es,ep,k _ o (fun z=>(hf _ z).2.1 rfl) ho,r⟩
 ·refine (I.hok b u e).stay (fun c v hc q=>k c v ?_ q) (fun _ q=>q) fun _ _ q=>q
  rcases hc with z | z
  ·rw [z]; exact nit b u e
  ·exact nit c _ z
theorem Inv.pairLaid {t' tk:Nat} {e it:Addr} {i:Int} {y:V} {u:Value} (I:Inv X pins σ H s) (hf:∀ b ∈ [e,it],FpOk X pins H b) (hlt:∀ b ∈ [e,it],b < s.heap.objs.size) (ru:RelV y u)
  (hT:h'.get? s.heap.objs.size=some { cls:=.type "tuple",data:=.seq #[.int i tk,u] }) (k:∀ b o,b≠e→b≠it→s.heap.get? b=some o→h'.get? b=some o) :
  Inv X pins σ (upd H s.heap.objs.size (.tup [.int i,y])) { s with heap:=h',toks:=t' }:=by
 have I1:Inv X pins σ (upd H s.heap.objs.size (.tup [.int i,y])) { s with heap:=s.heap.push { cls:=.type "tuple",data:=.seq #[.int i tk,u] },toks:=t' } :=
  I.laid (t':=t') (fun b o e=>Heap.get?_push_of_some _ e) (Nat.le_refl _) (show ObjOk X.prog X.w _ _ _ (.tup [.int i,y]) from
   ⟨by simp only [List.length_cons,List.length_nil]; rw [sizeLine_eq]; decide,[.int i tk,u],.cons ⟨_,rfl⟩ (.cons ru .nil),IsTupN.new _ _⟩)
 have:=Inv.turnedL (t':=t') (h':=h') [e,it] I1 (fun b o hb eb=>?_) fun b hb=>?_
 ·exact this
 ·have he:b≠e:=fun z=>hb (by simp [z])
  have hi:b≠it:=fun z=>hb (by simp [z])
  rcases Heap.get?_push_cases eb with ⟨z,z'⟩ | eb
  ·subst z z'
   exact hT
  ·exact k b o he hi eb
 ·obtain ⟨f0,r⟩:=hf b hb
  refine ⟨?_,r⟩
  have hl:=hlt b hb
  rw [upd_ne (Nat.ne_of_lt hl)]
  exact f0
def IteL (K:PySem.W.Frag) (a:Addr):It :=
 ⟨(Itl K a).go,fun i H x H'=>∃ p y,H p=none∧(∀ xs,SqL K H a xs→xs[i]? = some y)∧H'=upd H p (.tup [.int i,y])∧x = .ref p,fun i H=>∃ xs,SqL K H a xs∧xs.length=i⟩
def IteT (K:PySem.W.Frag) (a:Addr):It :=
 ⟨(Itt K a).go,fun i H x H'=>∃ p y,H p=none∧(∀ xs,SqT K H a xs→xs[i]? = some y)∧H'=upd H p (.tup [.int i,y])∧x = .ref p,fun i H=>∃ xs,SqT K H a xs∧xs.length=i⟩
theorem turn_enumL {P:Program} {w:World} {K:PySem.W.Frag} {elts:List Expr} {ctx} {pos:Pos} (a e it:Addr) (hei:e≠it) (hae:a≠e) (hai:a≠it):Turn P w K (.Tuple elts ctx pos) (IteL K a) [e,it] e (fun i h=>(∃ old,IsEnum h e it i old)∧h.IsListIter it a i) where
 mem:=by simp
 obj:=fun i h st b hb=>by
  obtain ⟨⟨old,he⟩,hi⟩:=st
  have hb:b=e∨b=it:=by simpa using hb
  rcases hb with z | z
  ·subst z
   exact ⟨_,he,fun v z=>by
    have z':Data.fields _=Data.cell v:=z
    cases z'⟩
  ·subst z
   obtain ⟨o,e,c,d⟩:=hi
   exact ⟨o,e,fun v z=>by rw [d] at z; cases z⟩
 keep:=fun i h h' st k=>⟨let ⟨old,he⟩:=st.1; ⟨old,k e (by simp) _ he⟩,st.2.at fun o q=>k it (by simp) o q⟩
 item:=by
  intro X hP hw hK hc i pins s σ H E I hf st hg
  subst hP hw hK
  obtain ⟨xs,x,hq,hx⟩:=hg
  obtain ⟨its,rv,p,hz⟩:=I.list hq
  obtain ⟨u,hu,ru⟩:=rv.get hx
  obtain ⟨⟨old,he⟩,hi⟩:=st
  have hL:s.heap.IsList a its.toArray:=p.isList
  have D:=Draws.list (prog:=X.prog) (w:=X.w) (A:=X.A.in1) (I.ok.hd hc) it a hai its.toArray
  have hilt:i < its.length:=(List.getElem?_eq_some_iff.mp hu).1
  have hlt:∀ b ∈ [e,it],b < s.heap.objs.size:=fun b hb=>by
   have hb:b=e∨b=it:=by simpa using hb
   rcases hb with z | z
   ·subst z; exact Heap.lt_size he
   ·subst z; obtain ⟨o,q,_⟩:=hi; exact Heap.lt_size q
  refine wpAny_pyNext_enum_itemD D he ⟨hi,hL⟩ (by simpa using hilt) hei (by simp [hei,Ne.symm hae]) fun x' h' tk hP ho hs' hT hsz hk=>?_
  have ex:x'=u:=by
   have:its.toArray[i]? = some x':=hP
   rw [List.getElem?_toArray,hu] at this
   cases this
   rfl
  subst ex
  refine ⟨_,rfl,wpAny_letOwnedTupleGo_enum ho fun h2 he2 sb=>?_⟩
  have k2:∀ b o,b≠e→b≠it→s.heap.get? b=some o→h2.get? b=some o:=fun b o q1 q2 q=>(sb.2 b q1).trans (hk b o q1 q2 q)
  have hT2:h2.get? s.heap.objs.size=some { cls:=.type "tuple",data:=.seq #[.int i tk,x'] }:=(sb.2 _ (Nat.ne_of_gt (hlt e (by simp)))).trans hT
  have I2:Inv X pins σ (upd H s.heap.objs.size (.tup [.int i,x])) { s with heap:=h2,toks:=tk + 1 }:=Inv.pairLaid (t':=tk + 1) I hf hlt ru hT2 k2
  refine ⟨.ref s.heap.objs.size,_,I2,rfl,⟨s.heap.objs.size,x,I.hok.fresh (Nat.le_refl _),fun ys hy=>by rw [I.list_inj hy hq]; exact hx,rfl,rfl⟩,⟨⟨x',by simpa using he2⟩,hs'.1.at fun o q=>(sb.2 it (Ne.symm hei)).trans q⟩,fun b hb=>?_⟩
  rw [upd_ne (Nat.ne_of_lt (hlt b hb))]
  exact (hf b hb).1
 done:=by
  intro X hP hw hK hc i pins s σ H E I hf st hg
  subst hP hw hK
  obtain ⟨xs,hq,hx⟩:=hg
  obtain ⟨its,rv,p,hz⟩:=I.list hq
  obtain ⟨⟨old,he⟩,hi⟩:=st
  have hL:s.heap.IsList a its.toArray:=p.isList
  have hl:=rv.length
  have D:=Draws.list (prog:=X.prog) (w:=X.w) (A:=X.A.in1) (I.ok.hd hc) it a hai its.toArray
  have hn:its.toArray.size=i:=by simp; omega
  obtain ⟨f0,f1,f2,f3,f4,f5⟩:=hf it (by simp)
  exact wpAny_pyNext_enum_endD D he ⟨by rw [hn]; exact hi,hL⟩ fun h' eb=>⟨rfl,I.turned (t':=s.toks) (fun b o hb q=>eb b o hb q) f0 f1 f3 f4 f5⟩
 self:=fun _ _ _ _ _ st h=>by
  obtain ⟨⟨old,he⟩,_⟩:=st
  exact wpAny_pyIter_enum he h
theorem turn_enumT {P:Program} {w:World} {K:PySem.W.Frag} {elts:List Expr} {ctx} {pos:Pos} (a e it:Addr) (hei:e≠it) (hae:a≠e) (hai:a≠it):Turn P w K (.Tuple elts ctx pos) (IteT K a) [e,it] e (fun i h=>(∃ old,IsEnum h e it i old)∧h.IsTupleIter it a i) where
 mem:=by simp
 obj:=fun i h st b hb=>by
  obtain ⟨⟨old,he⟩,hi⟩:=st
  have hb:b=e∨b=it:=by simpa using hb
  rcases hb with z | z
  ·subst z
   exact ⟨_,he,fun v z=>by
    have z':Data.fields _=Data.cell v:=z
    cases z'⟩
  ·subst z
   obtain ⟨o,e,c,d⟩:=hi
   exact ⟨o,e,fun v z=>by rw [d] at z; cases z⟩
 keep:=fun i h h' st k=>⟨let ⟨old,he⟩:=st.1; ⟨old,k e (by simp) _ he⟩,st.2.at fun o q=>k it (by simp) o q⟩
 item:=by
  intro X hP hw hK hc i pins s σ H E I hf st hg
  subst hP hw hK
  obtain ⟨xs,x,hq,hx⟩:=hg
  obtain ⟨its,rv,p,hz⟩:=I.tuple hq
  obtain ⟨u,hu,ru⟩:=rv.get hx
  obtain ⟨⟨old,he⟩,hi⟩:=st
  have hL:s.heap.IsTuple a its.toArray:=p
  have D:=Draws.tuple' (prog:=X.prog) (w:=X.w) (A:=X.A.in1) (I.ok.hd hc) it a hai its.toArray
  have hilt:i < its.length:=(List.getElem?_eq_some_iff.mp hu).1
  have hlt:∀ b ∈ [e,it],b < s.heap.objs.size:=fun b hb=>by
   have hb:b=e∨b=it:=by simpa using hb
   rcases hb with z | z
   ·subst z; exact Heap.lt_size he
   ·subst z; obtain ⟨o,q,_⟩:=hi; exact Heap.lt_size q
  refine wpAny_pyNext_enum_itemD D he ⟨hi,hL⟩ (by simpa using hilt) hei (by simp [hei,Ne.symm hae]) fun x' h' tk hP ho hs' hT hsz hk=>?_
  have ex:x'=u:=by
   have:its.toArray[i]? = some x':=hP
   rw [List.getElem?_toArray,hu] at this
   cases this
   rfl
  subst ex
  refine ⟨_,rfl,wpAny_letOwnedTupleGo_enum ho fun h2 he2 sb=>?_⟩
  have k2:∀ b o,b≠e→b≠it→s.heap.get? b=some o→h2.get? b=some o:=fun b o q1 q2 q=>(sb.2 b q1).trans (hk b o q1 q2 q)
  have hT2:h2.get? s.heap.objs.size=some { cls:=.type "tuple",data:=.seq #[.int i tk,x'] }:=(sb.2 _ (Nat.ne_of_gt (hlt e (by simp)))).trans hT
  have I2:Inv X pins σ (upd H s.heap.objs.size (.tup [.int i,x])) { s with heap:=h2,toks:=tk + 1 }:=Inv.pairLaid (t':=tk + 1) I hf hlt ru hT2 k2
  refine ⟨.ref s.heap.objs.size,_,I2,rfl,⟨s.heap.objs.size,x,I.hok.fresh (Nat.le_refl _),fun ys hy=>by rw [I.tuple_inj hy hq]; exact hx,rfl,rfl⟩,⟨⟨x',by simpa using he2⟩,hs'.1.at fun o q=>(sb.2 it (Ne.symm hei)).trans q⟩,fun b hb=>?_⟩
  rw [upd_ne (Nat.ne_of_lt (hlt b hb))]
  exact (hf b hb).1
 done:=by
  intro X hP hw hK hc i pins s σ H E I hf st hg
  subst hP hw hK
  obtain ⟨xs,hq,hx⟩:=hg
  obtain ⟨its,rv,p,hz⟩:=I.tuple hq
  obtain ⟨⟨old,he⟩,hi⟩:=st
  have hL:s.heap.IsTuple a its.toArray:=p
  have hl:=rv.length
  have D:=Draws.tuple' (prog:=X.prog) (w:=X.w) (A:=X.A.in1) (I.ok.hd hc) it a hai its.toArray
  have hn:its.toArray.size=i:=by simp; omega
  obtain ⟨f0,f1,f2,f3,f4,f5⟩:=hf it (by simp)
  exact wpAny_pyNext_enum_endD D he ⟨by rw [hn]; exact hi,hL⟩ fun h' eb=>⟨rfl,I.turned (t':=s.toks) (fun b o hb q=>eb b o hb q) f0 f1 f3 f4 f5⟩
 self:=fun _ _ _ _ _ st h=>by
  obtain ⟨⟨old,he⟩,_⟩:=st
  exact wpAny_pyIter_enum he h
end
end L2
set_option Elab.async false
set_option linter.all false
set_option maxRecDepth 100000
set_option maxHeartbeats 400000
namespace DV
open PySem PySem.Spec PyProof.Rows L2
section
variable {X:Cx} {c:Fc} {tg e:Expr} {fe:DE} {pos pp:Pos}
def iEnumV (K:PySem.W.Frag) (ta:TA):TI:=fun σ H R=>ta σ H fun vs H1=>(∃ a,vs=[.ref a]∧(∃ xs,SqL K H1 a xs)∧R (IteL K a) H1)∨(∃ a,vs=[.ref a]∧(∃ xs,SqT K H1 a xs)∧R (IteT K a) H1)
theorem pi_enum {a:Expr} {ta:TA} {elts:List Expr} {ctx} {tp:Pos} (hg:Gl X "enumerate") (hm:X.mg "enumerate" = none) (ha:PA X [a] ta) (hs:starEach [a] X.env=[(false,eval a X.env)]:=by rfl):PI X (.Tuple elts ctx tp) (.Call (.Name "enumerate" pp) [a] [] pos) (iEnumV X.K ta):=by
 intro pins s σ H R I h
 refine Call_ (ld_blt I hg hm boot_enumerate (PyProof.Rows.callWith_type1 (thn (ha pos pins s σ H _ I h) fun us s1 ⟨vs,H1,I1,r1,q1⟩=>?_) hs rfl))
 rcases q1 with ⟨a,ev,⟨xs,hq⟩,q⟩ | ⟨a,ev,⟨xs,hq⟩,q⟩
 ·subst ev
  cases r1 with
  | cons r rr =>
   cases rr
   cases r
   obtain ⟨its,rv,p,hz⟩:=I1.list hq
   have hL:s1.heap.IsList a its.toArray:=p.isList
   have hlt:a < s1.heap.objs.size:=by obtain ⟨o,q,_⟩:=hL; exact Heap.lt_size q
   refine call_enumerate_list hL fun h' he hi hsz kp=>wpAny_pyIter_enum he ?_
   refine ⟨s1.heap.objs.size + 1,[s1.heap.objs.size + 1,s1.heap.objs.size],_,_,H1,rfl,I1.kept (t':=s1.toks) kp,turn_enumL a _ _ (Nat.succ_ne_self _) (Nat.ne_of_lt (Nat.lt_succ_of_lt hlt)) (Nat.ne_of_lt hlt),⟨⟨_,he⟩,hi⟩,fun b hb=>?_,q⟩
   have hb:b=s1.heap.objs.size + 1∨b=s1.heap.objs.size:=by simpa using hb
   have hle:s1.heap.objs.size≤b:=by rcases hb with z | z <;> subst z <;> first | exact Nat.le_refl _ | exact Nat.le_succ _
   exact I1.fpOk hle (I1.hok.fresh hle)
 ·subst ev
  cases r1 with
  | cons r rr =>
   cases rr
   cases r
   obtain ⟨its,rv,p,hz⟩:=I1.tuple hq
   have hL:s1.heap.IsTuple a its.toArray:=p
   have hlt:a < s1.heap.objs.size:=by obtain ⟨o,q,_⟩:=hL; exact Heap.lt_size q
   refine call_enumerate_tuple' hL fun h' he hi hsz kp=>wpAny_pyIter_enum he ?_
   refine ⟨s1.heap.objs.size + 1,[s1.heap.objs.size + 1,s1.heap.objs.size],_,_,H1,rfl,I1.kept (t':=s1.toks) kp,turn_enumT a _ _ (Nat.succ_ne_self _) (Nat.ne_of_lt (Nat.lt_succ_of_lt hlt)) (Nat.ne_of_lt hlt),⟨⟨_,he⟩,hi⟩,fun b hb=>?_,q⟩
   have hb:b=s1.heap.objs.size + 1∨b=s1.heap.objs.size:=by simpa using hb
   have hle:s1.heap.objs.size≤b:=by rcases hb with z | z <;> subst z <;> first | exact Nat.le_refl _ | exact Nat.le_succ _
   exact I1.fpOk hle (I1.hok.fresh hle)
def enumD (ds:List D):List D:=ds.mapIdx fun i d=>D.tup [.int (i:Nat),d]
theorem enumD_get {ds:List D} {i:Nat} {d:D} (h:(enumD ds)[i]? = some d):∃ d',ds[i]? = some d'∧d = .tup [.int i,d']:=by
 unfold enumD at h
 rw [List.getElem?_mapIdx] at h
 cases e:ds[i]? with
 | none=>rw [e] at h; cases h
 | some d' =>
  rw [e] at h
  cases h
  exact ⟨d',rfl,rfl⟩
theorem Reps.pair {H:Hp} {O:Addr→Prop} {i:Int} {v:V} {d:D} (r:Rep H O v d):Reps H O [.int i,v] [.int i,d]:=by
 refine ⟨rfl,fun j v' d' e1 e2=>?_⟩
 match j with
 | 0=>simp at e1 e2; subst e1 e2; exact .int _
 | 1=>simp at e1 e2; subst e1 e2; exact r
 | j + 2=>simp at e1
def iEnum (f:DE):DI:=fun δ=>(f δ).bind fun r δ1=>match r.d with
 | .lst ds=>.ok (enumD ds) δ1
 | .tup ds=>.ok (enumD ds) δ1
 | _=>.stuck
theorem si_enum {elts:List Expr} {ctx} {tp:Pos} (hg:Gl X "enumerate") (hm:X.mg "enumerate" = none) (he:SE X c e fe) (hs:starEach [e] X.env=[(false,eval e X.env)]:=by rfl):SI X c (.Tuple elts ctx tp) (.Call (.Name "enumerate" pp) [e] [] pos) (iEnum fe) :=
 PI.weak (pi_enum hg hm (pa_cons he pa_nil hs) hs) fun σ H R ⟨δ,k,q⟩=>by
  unfold iEnum at q
  rw [post_bind] at q
  refine ⟨δ,k,post_mono q fun r δ1 q1 v H1 a1 r1=>?_⟩
  have rr:=r1.rep
  generalize r.d=d at q1 rr
  cases d <;> first | exact q1.elim | skip
  ·cases rr with
   | tup h1 h2 h3 h4 =>
    rename_i a vs
    refine .inr ⟨_,rfl,⟨_,.of h2⟩,q1 _ H1 a1 ?_⟩
    intro H2 kp
    have h5:=kp _ _ h2 fun z=>h1 (.inr z)
    have r':Reps H1 (Av c σ δ1) vs _:=⟨h3,h4⟩
    refine ⟨⟨vs,.of h5,by rw [r'.1]; simp [enumD]⟩,fun i d e=>?_⟩
    obtain ⟨d',e',rfl⟩:=enumD_get e
    obtain ⟨v,ev,rv⟩:=r'.get e'
    refine ⟨⟨vs,v,.of h5,ev⟩,fun x H3 ⟨p,y,hp,hy,e3,ex⟩=>.inr ⟨p,_,_,hp,e3,ex,rfl,?_⟩⟩
    have:=hy vs (.of h5)
    rw [ev] at this
    cases this
    exact Reps.pair rv
  ·cases rr with
   | lst h1 h2 h3 h4 =>
    rename_i a vs
    refine .inl ⟨_,rfl,⟨_,.inl h2⟩,q1 _ H1 a1 ?_⟩
    intro H2 kp
    have h5:Rd H2 a (.lst vs):=Rd.keep h2 fun o e=>kp a o e fun z=>h1 (.inr z)
    have r':Reps H1 (Av c σ δ1) vs _:=⟨h3,h4⟩
    refine ⟨⟨vs,.inl h5,by rw [r'.1]; simp [enumD]⟩,fun i d e=>?_⟩
    obtain ⟨d',e',rfl⟩:=enumD_get e
    obtain ⟨v,ev,rv⟩:=r'.get e'
    refine ⟨⟨vs,v,.inl h5,ev⟩,fun x H3 ⟨p,y,hp,hy,e3,ex⟩=>.inr ⟨p,_,_,hp,e3,ex,rfl,?_⟩⟩
    have:=hy vs (.inl h5)
    rw [ev] at this
    cases this
    exact Reps.pair rv
end
end DV
set_option Elab.async false
set_option linter.all false
set_option maxRecDepth 100000
set_option maxHeartbeats 400000
namespace HT
open PySem PySem.Spec PyProof.Rows
section
variable {prog:Program} {w:World} {A:Around} {E:Value→Shared→Prop} {s:Shared}
theorem adjust_rev (n:Nat):Builtin.Slice.sliceAdjust none none (-1) (n:Int)=((n:Int) - 1,-1):=by
 unfold Builtin.Slice.sliceAdjust
 simp
theorem places_rev (n:Nat):Builtin.Slice.slicePlaces ((n:Int) - 1) (-1) (-1)=n:=by
 unfold Builtin.Slice.slicePlaces
 simp
 try omega
theorem sliceApplied_rev {sl:Addr} {t:Tok} {n:Nat} {Q:Int×Int×Nat→Shared→Prop} (hs:s.heap.IsSliceOf sl .none .none (.int (-1) t))
  (h:Q ((n:Int) - 1,-1,n) s):wpAny (model prog w) A (Builtin.Slice.sliceApplied (.ref sl) (pure (n:Int))) Q E s:=by
 obtain ⟨os,hos,hcs,hds⟩:=id hs
 unfold Builtin.Slice.sliceApplied Builtin.Slice.sliceFields
 refine wpAny_bind (wpAny_bind (wpAny_field hos hds (x:=.none) rfl (wpAny_bind (wpAny_field hos hds (x:=.none) rfl (wpAny_bind (wpAny_field hos hds (x:=.int (-1) t) rfl (wpAny_pure ?_)))))))
 refine wpAny_bind (slicePart_int ?_)
 show wpAny _ _ (if ((-1:Int) == 0)=true then _ else _) _ _ s
 rw [if_neg (by decide)]
 refine wpAny_bind (slicePart_none (wpAny_bind (slicePart_none (wpAny_bind (wpAny_pure ?_)))))
 show wpAny _ _ (match Builtin.Slice.sliceAdjust none none (-1) (n:Int) with | (lo,hi)=>pure (lo,(-1:Int),Builtin.Slice.slicePlaces lo hi (-1))) _ _ s
 rw [adjust_rev n]
 show wpAny _ _ (pure ((n:Int) - 1,(-1:Int),Builtin.Slice.slicePlaces ((n:Int) - 1) (-1) (-1))) _ _ s
 rw [places_rev]
 exact wpAny_pure h
theorem fm_congr {α β:Type} {f g:α→Option β}:∀ {l:List α},(∀ x ∈ l,f x=g x)→l.filterMap f=l.filterMap g
 | [],_=>rfl
 | x :: l,h=>by
  rw [List.filterMap_cons,List.filterMap_cons,h x (by simp),fm_congr fun y hy=>h y (by simp [hy])]
theorem pick_rev (xs:Array Value):((List.range xs.size).filterMap fun (m:Nat)=>xs[(((xs.size:Int) - 1) + (m:Int) * -1).toNat]?).toArray=xs.toList.reverse.toArray:=by
 have e:((List.range xs.size).filterMap fun (m:Nat)=>xs[(((xs.size:Int) - 1) + (m:Int) * -1).toNat]?)=((List.range xs.size).map fun k=>xs.size - 1 - k).filterMap (xs[·]?):=by
  rw [List.filterMap_map]
  refine fm_congr fun m hm=>?_
  have:(((xs.size:Int) - 1) + (m:Int) * -1).toNat=xs.size - 1 - m:=by
   have:=List.mem_range.mp hm
   omega
  simp only [this,Function.comp]
 rw [e,PySem.W.krv_range,List.filterMap_reverse,PySem.W.krv_all]
theorem getItem_tuple_rev {t sl:Addr} {items:Array Value} {tk:Tok} {Q:Value→Shared→Prop} (ht:IsTup s.heap t items) (hs:s.heap.IsSliceOf sl .none .none (.int (-1) tk))
  (h:Q (.ref s.heap.objs.size) { s with heap:=s.heap.push { cls:=.type "tuple",data:=.seq items.toList.reverse.toArray } })
  (hsz:items.size≤sizeLine):wpAny (model prog w) A (getItem (.ref t) (.ref sl)) Q E s:=by
 have htake:sizeOk (.seq items.toList.reverse.toArray):=by
  show items.toList.reverse.toArray.size≤sizeLine
  simpa using hsz
 obtain ⟨os,hos,hcs,hds⟩:=id hs
 have hTs:s.TypeIs (.ref sl) "slice":=⟨os,hos,hcs⟩
 unfold getItem
 try with_reducible refine wpAny_holding ?_
 first | refine wpAny_bind (wpAny_pure ?_) | skip
 refine wpAny_bind (wpAny_sequenceKey ht.typeIs (by decide) ?_)
 refine wpAny_bind (wpAny_callSpecial?_slot (name:=Str.ofString "__getitem__") ht.typeIs PyProof.Rows.slot_tuple_getitem
  (wpAny_call_entry PyProof.Rows.slot_tuple_getitem ht.typeIs entry_tuple_getitem ?_ (args_tuple_getitem _ _)))
 show wpAny _ _ (Builtin.Tuple.tupleItemsOf (.ref t) >>= _) _ _ s
 refine wpAny_bind (tupleItemsOf_ ht ?_)
 refine wpAny_bind (wpAny_typeOf hTs ?_)
 rw [if_pos (by decide)]
 refine wpAny_bind (sliceApplied_rev hs ?_)
 have hno:¬ ((((items.size:Int) - 1) == 0 && (-1:Int) == 1 && items.size == items.size)=true):=by
  intro q
  rw [Bool.and_eq_true,Bool.and_eq_true] at q
  exact absurd q.1.2 (by decide)
 show wpAny _ _ (if (((items.size:Int) - 1) == 0 && (-1:Int) == 1 && items.size == items.size)=true then _ else _) _ _ s
 rw [if_neg hno,pick_rev]
 first
  | exact wpAny_bind (m:=Builtin.Tuple.tupleExact _) (wpAny_newObj_type (wpAny_pure ⟨_,rfl,wpAny_pure h⟩) htake)
  | exact wpAny_bind (m:=Builtin.Tuple.tupleExact _) (wpAny_newObj_type (wpAny_bind (wpAny_pure (wpAny_pure ⟨_,rfl,wpAny_pure h⟩))) htake)
  | exact wpAny_bind (wpAny_bind (m:=Builtin.Tuple.tupleExact _) (wpAny_newObj_type (wpAny_pure (wpAny_pure ⟨_,rfl,wpAny_pure h⟩)) htake))
  | exact wpAny_bind (wpAny_bind (m:=Builtin.Tuple.tupleExact _) (wpAny_newObj_type (wpAny_pure ⟨_,rfl,wpAny_pure h⟩) htake))
end
end HT
namespace DV
open PySem PySem.Spec PyProof.Rows L2
theorem rv_tup {X:Cx}:RvR X (fun x H Q=>∃ a xs,x = .ref a∧SqT X.K H a xs∧∀ p,H p=none→Q (.ref p) (upd H p (.tup xs.reverse))):=by
 intro pins s σ H x v t sl Q I rx hs h
 obtain ⟨a,xs,rfl,hx,q⟩:=h
 cases rx
 obtain ⟨its,r,ht,hz⟩:=I.tuple hx
 have hlen:=r.length
 refine ⟨"tuple",_,PyProof.Rows.slot_tuple_getitem.lookup,ht.typeIs,?_⟩
 refine HT.getItem_tuple_rev ht hs ?_ (by rw [List.size_toArray]; omega)
 refine ⟨.ref s.heap.objs.size,_,I.laid (t':=s.toks) (o:=.tup xs.reverse) (fun b ob q=>Heap.get?_push_of_some _ q) (Nat.le_refl _) ?_,rfl,q _ (I.hok.fresh (Nat.le_refl _))⟩
 exact ⟨by rw [List.length_reverse]; exact hz,_,r.reverse,IsTupN.new _ _⟩
open PySem PySem.Spec PyProof.Rows L2
section
variable {X:Cx} {c:Fc} {e:Expr} {fb:BE} {pos p2:Pos}
def pRevX:D→Option S
 | .tup ds=>some (.pure (.tup ds.reverse))
 | d=>pRev d
def rRevX (K:PySem.W.Frag):V→Hp→VK→Prop:=fun x H Q=>(∃ a xs,x = .ref a∧SqT K H a xs∧∀ p,H p=none→Q (.ref p) (upd H p (.tup xs.reverse)))∨rRev K x H Q
theorem se_revX {st:Expr} (he:SB X c e fb) (hst:PE X st (tC (.int (-1)))):SE X c (.Subscript e (.Slice none none (some st) p2) pos) (eC1 pRevX fb) :=
 PE.weak (pe_rev (r:=rRevX X.K) (rv_tup.or (rv_str.or rv_list)) he hst) fun σ H Q h=>un_weak (fun c σ δ H x d s Q k rx hp q=>by
  cases d with
  | tup ds =>
   simp only [pRevX,Option.some.injEq] at hp
   subst hp
   obtain ⟨a,vs,ea,ha,ra⟩:=rx.tup
   exact .inl ⟨a,vs,ea,.of ha,fun p hp=>q _ _ (.alloc k hp _) (RepS.newT k ra.reverse hp)⟩
  | str z =>
   simp only [pRevX,pRev] at hp
   split at hp
   ·rename_i hz
    simp only [Option.some.injEq] at hp
    subst hp
    exact .inr (.inl ⟨z,rx.str,hz,q _ H (.refl k) (.str _)⟩)
   ·cases hp
  | lst ds =>
   simp only [pRevX,pRev,Option.some.injEq] at hp
   subst hp
   obtain ⟨a,vs,ea,ha,ra⟩:=rx.lst
   exact .inr (.inr ⟨a,vs,ea,.inl ha,fun p hp=>q _ _ (.alloc k hp _) (RepS.newL k ra.reverse hp)⟩)
  | _=>simp [pRevX,pRev] at hp) h
def pNeg:D→Option S
 | .int i=>some (.pure (.int (-i)))
 | _=>none
theorem se_neg (he:SB X c e fb):SE X c (.UnaryOp .USub e pos) (eC1 pNeg fb) :=
 PE.weak (pe_un un_neg he) fun σ H Q h=>un_weak (fun c σ δ H x d s Q k rx hp q=>by
  cases d with
  | int i =>
   simp only [pNeg,Option.some.injEq] at hp
   subst hp
   exact ⟨i,rx.int,q _ H (.refl k) (.int _)⟩
  | _=>simp [pNeg] at hp) h
end
open PySem PySem.Spec PyProof.Rows L2
section
variable {c:Fc} {σ σ':St} {δ δ':Dl} {H H':Hp} {i:Nat} {a:Addr} {ds:List D}
theorem Own.unset {b:Addr} (h:Own σ (δ.set i none) b):Own σ δ b:=by
 obtain ⟨j,d',e1,e2⟩:=h
 by_cases hj:i=j
 ·subst hj
  rw [List.getElem?_set] at e1
  split at e1
  ·split at e1 <;> cases e1
  ·rename_i q; exact absurd rfl q
 ·rw [List.getElem?_set_ne hj] at e1
  exact ⟨j,d',e1,e2⟩
end
section
variable {X:Cx} {c:Fc} {tg iter:Expr} {body:List Stmt} {g:DG} {b:DS} {i:Nat} {pos:Pos}
end
theorem ix_X {X:Cx} (hu:X.A.units + 64 < cLine):IxR X (fun x y H Q=>rIxD x y H Q∨rIx X.K x y H Q):=(ix_dict hu).or ix_seq
end DV
set_option Elab.async false
set_option linter.all false
set_option maxRecDepth 100000
set_option maxHeartbeats 400000
namespace L2
open PySem PySem.Spec PyProof.Rows
section
variable {X:Cx}
end
end L2
namespace DV
open PySem PySem.Spec PyProof.Rows L2
section
variable {X:Cx} {c:Fc} {e:Expr} {fe:DE} {pos:Pos}
end
section
variable {c:Fc} {σ:St} {δ δ':Dl} {H H':Hp} {i:Nat} {a p:Addr} {ds:List D}
end
open Classical in
noncomputable def itAt (δ₀:Dl) (ds:List D):DI:=fun δ=>if δ=δ₀ then .ok ds δ else .stuck
section
variable {X:Cx} {c:Fc} {cs:List Nat} {tg iter elt:Expr} {ifs:List Expr} {scope:Scope} {pos:Pos} {g:DG} {t:DT} {el:DE} {i:Nat}
end
open PySem PySem.Spec PyProof.Rows L2
section
variable {X:Cx} {c:Fc} {e:Expr} {fe:DE} {pos pos':Pos}
end
open PySem PySem.Spec PyProof.Rows L2
section
variable {X:Cx} {c:Fc} {pp pos:Pos}
end
section
variable {c:Fc} {σ:St} {δ:Dl} {H:Hp} {a:Addr} {d:D}
theorem getA {α:Type} {xs:List α} {x y:α} {i:Nat} (h:(xs ++ [x])[i]? = some y):xs[i]? = some y∨(i=xs.length∧y=x):=by
 rw [List.getElem?_append] at h
 split at h
 ·exact .inl h
 ·rename_i hi
  right
  have:i - xs.length=0:=by
   cases hk:i - xs.length with
   | zero=>rfl
   | succ k=>rw [hk] at h; simp at h
  rw [this] at h
  simp at h
  exact ⟨by omega,h.symm⟩
theorem getL {α:Type} {xs:List α} {x y:α} {i:Nat} (h:xs[i]? = some y):(xs ++ [x])[i]? = some y:=by
 rw [List.getElem?_append_left (List.getElem?_eq_some_iff.mp h).1]; exact h
theorem Ok.cutl (hl:δ.length=σ.length) (k:Ok c (σ ++ [some (.ref a)]) (δ ++ [some (.own d)]) H) (hp:∀ p ∈ c.pin,p.1 < σ.length):Ok c σ δ H:=by
 have sub:∀ b,Av c σ δ b→Av c (σ ++ [some (.ref a)]) (δ ++ [some (.own d)]) b:=fun b z=>z.elim .inl fun ⟨i,d',e1,e2⟩=>.inr ⟨i,d',getL e1,getL e2⟩
 refine ⟨k.keep,k.bd,k.ith,hl,fun i d' e=>?_,fun i d' e=>?_,fun i j b d1 d2 e1 e2 s1 s2=>k.inj i j b d1 d2 (getL e1) (getL e2) (getL s1) (getL s2),fun p hm=>?_⟩
 ·obtain ⟨v,g1,g2⟩:=k.slot i d' (getL e)
  have hi:=(List.getElem?_eq_some_iff.mp e).1
  rcases getA g1 with g1 | ⟨z,_⟩
  ·exact ⟨v,g1,g2.anti fun b z=>.inl (sub b z)⟩
  ·omega
 ·obtain ⟨b,g1,g2,g3⟩:=k.own i d' (getL e)
  have hi:=(List.getElem?_eq_some_iff.mp e).1
  rcases getA g1 with g1 | ⟨z,_⟩
  ·exact ⟨b,g1,g2.anti fun b z=>.inl (sub b z),g3⟩
  ·omega
 ·rcases getA (k.pinned p hm) with g | ⟨z,_⟩
  ·exact g
  ·have:=hp p hm; omega
end
section
variable {X:Cx} {c:Fc} {e:Expr} {es:List Expr} {as:List Ak} {f0:DE} {k n:Nat} {x:Str} {G:DF} {pp pos:Pos}
end
open PySem PySem.Spec PyProof.Rows L2
section
variable {X:Cx} {c:Fc} {e:Expr} {fe:DE} {pos:Pos}
end
open PySem PySem.Spec PyProof.Rows L2
section
variable {X:Cx} {c:Fc} {o e f:Expr} {fe ff:DE} {i:Nat} {apos cpos:Pos}
end
open PySem PySem.Spec PyProof.Rows L2
section
variable {X:Cx}
end
end DV
namespace L2
open PySem PySem.Spec PyProof.Rows
section
variable {X:Cx} {tg:Expr}
end
end L2
namespace DV
open PySem PySem.Spec PyProof.Rows L2
variable {X:Cx} {c:Fc} {tg e:Expr} {fe:DE} {pp pos:Pos}
open PySem PySem.Spec PyProof.Rows L2
def rIsB (neg:Bool):R2:=fun x y H Q=>∃ c d:Bool,x = .bl c∧y = .bl d∧Q (.bl (if neg then c != d else c == d)) H
section
variable {X:Cx}
theorem op_notB:OpR X (compareOp .IsNot) (rIsB true):=by
 intro pins s σ H x y v u Q I rx ry h
 obtain ⟨c,d,rfl,rfl,q⟩:=h
 cases rx
 cases ry
 exact isnot_bool (fin_bl I q rfl)
end
def pIsB (neg:Bool):D→D→Option S
 | .bl c,.bl d=>some (.pure (.bl (if neg then c != d else c == d)))
 | _,_=>none
theorem o2_isB (neg:Bool):Op2 (rIsB neg) (pIsB neg):=by
 intro c σ δ H x y d e s Q k rx ry hp q
 cases d <;> cases e <;> first
  | (simp [pIsB] at hp; done)
  | skip
 rename_i i j
 simp only [pIsB,Option.some.injEq] at hp
 subst hp
 have ex:x = .bl i:=by
  rcases rx with r | ⟨a,e,o⟩
  ·cases r; rfl
  ·exact o.elim
 have ey:y = .bl j:=by
  rcases ry with r | ⟨a,e,o⟩
  ·cases r; rfl
  ·exact o.elim
 exact ⟨i,j,ex,ey,q _ H (.refl k) (.bl _)⟩
open PySem PySem.Spec PyProof.Rows L2
theorem vals_ints:∀ {ns:List Int} {us:List Value},Vals (ns.map V.int) us→∃ ys:List (Int×Tok),us=(ys.map fun p=>Value.int p.1 p.2)∧ns=ys.map (·.1)
 | [],us,r=>by cases r; exact ⟨[],rfl,rfl⟩
 | n :: ns,us,r=>by
  cases r with
  | cons r1 r2 =>
   obtain ⟨ys,e1,e2⟩:=vals_ints r2
   obtain ⟨t,rfl⟩:=r1
   exact ⟨(n,t) :: ys,by rw [e1]; rfl,by rw [e2]; rfl⟩
section
variable {X:Cx}
end
def intsD:List D→Option (List Int)
 | []=>some []
 | .int i :: r=>(intsD r).map (i :: ·)
 | _ :: _=>none
theorem ints_map (ns:List Int):intsD (ns.map D.int)=some ns:=by
 induction ns with
 | nil=>rfl
 | cons n r ih=>simp [intsD,ih]
section
variable {X:Cx} {c:Fc} {e:Expr} {fb:BE} {pos pp:Pos}
end
end DV
set_option Elab.async false
set_option linter.all false
namespace L2
open PySem PySem.Spec PyProof.Rows
section
variable {prog:Program} {w:World} {A:Around} {E:Value→Shared→Prop} {s:Shared}
end
section
variable {X:Cx} {pos:Pos}
end
end L2
namespace DV
open PySem PySem.Spec PyProof.Rows L2
section
variable {X:Cx} {c:Fc} {pos:Pos}
end
open PySem PySem.Builtin PySem.Builtin.Str PySem.StrLaws
open PySem PySem.Spec PyProof.Rows L2
section
variable {X:Cx}
end
section
variable {X:Cx} {c:Fc} {e:Expr} {fb:BE}
end
end DV
set_option Elab.async false
set_option linter.all false
set_option maxRecDepth 100000
set_option maxHeartbeats 1000000
namespace PySem
open Sem (wp)
open AutoSeq1 (wpAny_loadPart')
section
variable {prog:Program} {w:World} {A:Around} {E:Value→Shared→Prop} {s:Shared}
end
end PySem
namespace PyProof.Rows
open PySem
section
variable {M:Model} {A:Around} {E:Value→Shared→Prop} {s:Shared} {env:Env}
end
end PyProof.Rows
set_option Elab.async false
set_option linter.all false
set_option maxRecDepth 100000
set_option maxHeartbeats 400000
namespace L2
open PySem PySem.Spec PyProof.Rows
end L2
namespace DV
open PySem PySem.Spec PyProof.Rows L2
section
variable {X:Cx} {c:Fc} {tg e:Expr} {fe:DE} {pos pp:Pos}
end
end DV
set_option Elab.async false
set_option linter.all false
set_option maxRecDepth 100000
namespace L2
open PySem PySem.Spec PyProof.Rows
abbrev vErr:List Value:=[.type "ValueError",.type "Exception",.type "BaseException",.type "object"]
def ExcC (K:PySem.W.Frag) (C:Addr):Prop:=PySem.W.excIn K C vErr "ValueError.__new__" = true
theorem ExcC.obj {K:PySem.W.Frag} {C:Addr} {h:Heap} (q:ExcC K C) (X:K.In h):∃ (bm:List Value) (N:Addr) (nm qn:Str) (bs:List Value) (hdct:Bool) (sn:List Str) (sub:List Value) (ab:Bool) (col:Option Bool) (dd:Option Addr) (k0 k1 k2 k3 k5:Option Value) (mN:Str→Option Value),
  h.get? C=some (excClassObj nm qn C N bs bm hdct sn sub ab col dd k0 k1 k2 k3 k5 "ValueError.__new__")∧h.Ns N mN∧mN "__init__" = none∧OwnTail h vErr bm:=by
 unfold ExcC PySem.W.excIn at q
 split at q
 next dd cd sl lk =>
  split at q
  next C' bm k0 k1 k2 k3 n k5 e1 e2 =>
   simp only [Bool.and_eq_true,beq_iff_eq,Bool.not_eq_true'] at q
   obtain ⟨⟨⟨⟨⟨c1,c2⟩,c3⟩,c4⟩,c5⟩,c6⟩:=q
   subst c1; subst c2
   have e3:sl = #[k0,k1,k2,k3,some (.builtin "ValueError.__new__"),k5]:=by
    cases sl; simp only at e2; rw [e2]
   subst e3
   cases cd
   simp only at e1 c3 c4 c5 c6 lk
   subst e1; subst c3
   exact ⟨bm,_,_,_,_,_,_,_,_,_,dd,k0,k1,k2,k3,k5,_,X _ _ lk,.of_isNs (PySem.W.isNs_of_in X c5),PySem.W.nsMap_none_of_in X c5 c6,PySem.W.tail_of_in X c4⟩
  next=>cases q
 next=>cases q
def Fly (h:Heap) (a C T:Addr):Prop :=
 ∃ oe vs oT ts a0,h.get? a=some oe∧(oe.cls = .ref C∧vs[0]? = some a0)∧oe.data = .fields vs∧vs[1]? = some (.ref T)∧T≠a∧h.get? T=some oT∧oT.data = .fields ts∧ts[3]? = some .none
def CXe (P:Program) (w:World):CXT:=fun outer H s E v s' =>
 ∃ (a C T:Addr) (H':Hp),v = .ref a∧s'.os=s.os∧AllBare s'.gens∧Un (frs outer) [] H H' s.heap s'.heap∧HOk P w H' s'.heap∧Fly s'.heap a C T∧s.heap.get? a=none∧s.heap.get? T=none∧H' a=none∧H' T=none∧E (.ref C) none H'
section
variable {X:Cx} {x:Str} {C:Addr} {np cpos pos:Pos}
theorem ps_raise0 {W:St→Hp→Prop} (q:ExcC X.K C) (hc:X.calm=true) (hg:Gl X x) (hm:X.mg x=some (.ref C)) (hd:(x == ("__debug__" : Str))=false)
  (hxe:∀ pins σ H s h' e,Inv X pins σ H s→W σ H→Heap.MadeExcOf s.heap h' e (.ref C) []→X.xe (.ref e) { s with heap:=h' }) :
  PS X (.Raise (some (.Call (.Name x np) [] [] cpos)) none pos) (fun _ σ H=>W σ H):=by
 intro pins s σ H D I hw
 obtain ⟨bm,N,nm,qn,bs,hdct,sn,sub,ab,col,dd,k0,k1,k2,k3,k5,mN,hC,hN,hi,hT⟩:=q.obj I.kIn
 refine wpAny_Raise_call_subT (C:=C) (nm:=nm) (q:=qn) (N:=N) (bs:=bs) (bm:=bm) (hdct:=hdct) (sn:=sn) (sub:=sub) (ab:=ab) (col:=col) (dd:=dd) (k0:=k0) (k1:=k1) (k2:=k2) (k3:=k3) (k5:=k5) (mN:=mN)
  PySem.F.excBase_ValueError (hT.hasType rfl) (I.ok.hd hc) rfl hi (ld_glob I hg hm ⟨rfl,?_⟩ hd)
 exact evalArgs_empty ⟨rfl,Nat.zero_le _,hC,hN,hT,fun h' e hm=>hxe pins σ H s h' e I hw hm⟩
end
open PySem PySem.Spec PyProof.Rows
section
variable {X:Cx} {pins:List (Addr×Obj)} {σ:St} {H:Hp} {s:Shared} {h':Heap}
theorem Inv.noted (I:Inv X pins σ H s) (k1:∀ b o,s.heap.get? b=some o→b ∉ frs X.stack→h'.get? b=some o) (k2:∀ b o,s.heap.get? b=some o→b ∈ frs X.stack→∃ sl,h'.get? b=some { o with slots:=sl }) :
  Inv X pins σ H { s with heap:=h' }:=by
 refine I.call' (s':={ s with heap:=h' }) (ch:=[]) rfl ⟨fun b o e _ n _=>k1 b o e n,fun b o e _ n _=>k2 b o e n,fun _ _ _ n _=>n,fun b o e _=>?_,fun _ _ e=>e,fun _ _ _ e=>e,fun _ ps e=>⟨#[],by rw [Array.append_empty]; exact e⟩⟩ (fun a o e=>?_) I.bare (fun b z=>absurd z (by simp))
 ·by_cases hb:b ∈ frs X.stack
  ·obtain ⟨sl,q⟩:=k2 b o e hb
   exact ⟨_,q⟩
  ·exact ⟨o,k1 b o e hb⟩
 ·refine (I.hok a o e).stay (fun b u hb q=>k1 b u q fun z=>?_) (fun _ q=>q) fun _ _ q=>q
  have:=I.stkFree b z
  rcases hb with rfl | hb
  ·rw [e] at this; cases this
  ·rw [hb] at this; cases this
theorem Inv.gone {b:Addr} (I:Inv X pins σ H s) (hx:X.ex=[]) (e:s.heap.get? b=none):H b=none∧X.s₀.heap.get? b=none:=by
 constructor
 ·cases q:H b with
  | none=>rfl
  | some o =>
   exfalso
   have:∃ u,s.heap.get? b=some u:=by
    have z:=I.hok b o q
    clear q
    induction o with
    | lst xs=>obtain ⟨_,_,_,_,e⟩:=z; exact ⟨_,e⟩
    | tup xs=>obtain ⟨_,_,_,_,e⟩:=z; exact ⟨_,e⟩
    | dK kvs=>obtain ⟨_,_,_,_,_,_,_,e,_⟩:=z; exact ⟨_,e⟩
    | dT kvs=>obtain ⟨_,_,_,_,_,_,_,e,_⟩:=z; exact ⟨_,e⟩
    | set S n=>obtain ⟨_,_,_,_,e,_⟩:=z; exact ⟨_,e⟩
    | ins C dx fs=>obtain ⟨_,_,_,e,_⟩:=z; exact ⟨_,e⟩
    | own y=>exact z
    | xd fs=>obtain ⟨_,⟨_,_,_,e,_⟩,_⟩:=z; exact ⟨_,e⟩
    | rng lo hi=>obtain ⟨_,_,_,e⟩:=z; exact ⟨_,e⟩
    | frz ob u ih=>exact ⟨_,z.1⟩
    | tbl ps=>exact ⟨_,z⟩
    | met f y=>exact ⟨_,z⟩
    | ext φ=>exact z.2.1
   obtain ⟨u,q⟩:=this
   rw [e] at q; cases q
 ·cases q:X.s₀.heap.get? b with
  | none=>rfl
  | some o =>
   obtain ⟨o',q'⟩:=I.base.there b o q (by rw [hx]; simp)
   rw [e] at q'; cases q'
theorem left_out {B:Heap} {e C:Addr} {l:List Env} {h h':Heap} (hB:B=PySem.W.hideAll h (e :: frs l)) {a0:Value} (hL:Heap.LeftW B l e (.ref C) a0 h h') :
  (∀ b o,h.get? b=some o→b≠e→b ∉ frs l→h'.get? b=some o)∧(∀ b o,h.get? b=some o→(∀ vs,o.data≠.fields vs)→∃ sl,h'.get? b=some { o with slots:=sl })∧∃ T,Fly h' e C T∧h.get? T=none:=by
 obtain ⟨l1,l2,⟨oe,vs,T,oT,ts,t1,t2,t3,t4,t5,t6,t7,t8,t9⟩,l4⟩:=hL
 refine ⟨fun b o q ne nf=>l1 b o ?_,l4,T,⟨oe,vs,oT,ts,a0,t1,t2,t3,t4,t6,t7,t8,t9⟩,?_⟩
 ·rw [hB]; exact PySem.W.hideAll_get _ q (by simp [ne,nf])
 ·cases q:h.get? T with
  | none=>rfl
  | some o =>
   exfalso
   by_cases hf:T ∈ frs l
   ·obtain ⟨_,o',g1,g2⟩:=l2.mem hf
    rw [t7] at g1
    cases g1
    exact g2 ts t8
   ·rw [hB,PySem.W.hideAll_get _ q (by simp [t6,hf])] at t5
    cases t5
end
section
variable {P:Program} {w:World} {K:PySem.W.Frag} {mg:Str→Option Value} {base:Heap} {N:List Str} {qual:Str} {scope:Scope} {f:Addr} {cd:Value} {A:Around} {outer:List Env} {s₀:Shared} {H₀:Hp} {E:XK}
theorem xe_made {pins:List (Addr×Obj)} {σ:St} {H:Hp} {s:Shared} {h':Heap} {e C:Addr} (I:Inv (cxOf (CXe P w) P w K mg base N qual scope f cd A outer s₀ H₀ E) pins σ H s) (hm:Heap.MadeExcOf s.heap h' e (.ref C) []) (q:E (.ref C) none H) :
  (cxOf (CXe P w) P w K mg base N qual scope f cd A outer s₀ H₀ E).xe (.ref e) { s with heap:=h' }:=by
 obtain ⟨t,ht,htn,htt⟩:=hm.there
 have I1:Inv (cxOf (CXe P w) P w K mg base N qual scope f cd A outer s₀ H₀ E) pins σ H { s with heap:=h' }:=I.kept (t':=s.toks) hm.keeps
 have hstk:h'.FunFrames base (envOfC qual scope s₀.heap.objs.size f cd :: outer):=I1.stack
 refine wpAny_leaving_firstW (base:=PySem.W.hideAll h' (e :: frs (envOfC qual scope s₀.heap.objs.size f cd :: outer))) (outer:=outer) (L:=s₀.heap.objs.size) (oe:=_) I.ok.frames
  (PySem.W.funFrames_hide hstk fun env he a hf=>List.mem_cons_of_mem _ (List.mem_filterMap.mpr ⟨env,he,hf⟩)) rfl ht (fun b o z=>PySem.W.of_hideAll _ z) (PySem.W.hideAll_none _ (.head _)) rfl rfl rfl fun h'' hL=>?_
 obtain ⟨k1,k2,T,hT,nT⟩:=left_out rfl hL
 have ne:∀ b o,s.heap.get? b=some o→b≠e:=fun b o z y=>by rw [y,hm.new] at z; cases z
 have I2:Inv (cxOf (CXe P w) P w K mg base N qual scope f cd A outer s₀ H₀ E) pins σ H { s with heap:=h'' }:=I.noted (fun b o z n=>k1 b o (hm.keeps b o z) (ne b o z) n) (fun b o z n=>by
  obtain ⟨_,o',g1,g2⟩:=I.stack.mem n
  rw [z] at g1; cases g1
  exact k2 b o (hm.keeps b o z) g2)
 obtain ⟨g1,g2⟩:=I.gone rfl hm.new
 obtain ⟨g3,g4⟩:=I1.gone (b:=T) rfl nT
 exact ⟨e,C,T,H,rfl,I.os,I.bare,I2.base,I2.hok,hT,g2,g4,g1,g3,q⟩
end
open PySem PySem.Spec PyProof.Rows
structure Apart (X:Cx) (pins:List (Addr×Obj)) (H:Hp) (b:Addr):Prop where
 old:X.s₀.heap.get? b=none
 free:H b=none
 loc:b≠X.env.locals
 cel:∀ x c,X.env.cells.lookup x=some c→c≠b
 pin:∀ p ∈ X.pn ++ pins,p.1≠b
section
variable {X:Cx} {pins:List (Addr×Obj)} {σ:St} {H:Hp} {s:Shared} {h':Heap} {a T:Addr}
theorem Inv.neL (I:Inv X pins σ H s) {b:Addr} {o:Obj} (e:X.s₀.heap.get? b=some o):b≠X.env.locals:=Nat.ne_of_lt (Nat.lt_of_lt_of_le (Heap.lt_size e) I.ok.above)
theorem Inv.noted2 (I:Inv X pins σ H s) (ha:Apart X pins H a) (hT:Apart X pins H T) (k1:∀ b o,s.heap.get? b=some o→b ∉ frs X.stack→b≠a→b≠T→h'.get? b=some o)
  (k2:∀ b o,s.heap.get? b=some o→b ∈ frs X.stack→∃ sl,h'.get? b=some { o with slots:=sl }):Inv X pins σ H { s with heap:=h' }:=by
 have any:∀ b o,s.heap.get? b=some o→b≠a→b≠T→∃ sl,h'.get? b=some { o with slots:=sl }:=fun b o e n1 n2=>by
  by_cases hb:b ∈ frs X.stack
  ·exact k2 b o e hb
  ·exact ⟨o.slots,k1 b o e hb n1 n2⟩
 have ne:∀ b o,X.s₀.heap.get? b=some o→b≠a∧b≠T:=fun b o e=>⟨fun z=>(by rw [z,ha.old] at e; cases e),fun z=>(by rw [z,hT.old] at e; cases e)⟩
 have nst:∀ b,b≠X.env.locals→b ∉ X.fs→b ∉ frs X.stack:=fun b n1 n2 z=>(List.mem_cons.mp (I.stkSub b z)).elim n1 n2
 have cellK:∀ y c,X.env.cells.lookup y=some c→∀ v,s.heap.IsCell c v→h'.IsCell c v:=fun y c e v ⟨o,ho,hd⟩=>by
  obtain ⟨sl,q⟩:=any c o ho (ha.cel y c e) (hT.cel y c e)
  exact ⟨_,q,hd⟩
 refine ⟨I.ok,I.os,I.bare,⟨fun b o e n hb hx=>?_,fun b o e n hb hx=>?_,I.base.free,fun b o e hx=>?_,I.base.tups,I.base.frzs,I.base.tbls⟩,?_,fun y c e=>?_,I.free,I.freeC,fun p hp=>?_,fun b o e=>?_,I.len⟩
 ·exact k1 b o (I.base.keep b o e n hb hx) (nst b (I.neL e) hb) (ne b o e).1 (ne b o e).2
 ·obtain ⟨sl,q⟩:=I.base.slot b o e n hb hx
  obtain ⟨sl',q'⟩:=any b _ q (ne b o e).1 (ne b o e).2
  exact ⟨sl',q'⟩
 ·obtain ⟨o',q⟩:=I.base.there b o e hx
  obtain ⟨sl',q'⟩:=any b _ q (ne b o e).1 (ne b o e).2
  exact ⟨_,q'⟩
 ·obtain ⟨m,⟨o,es,ep,ho,hd,r⟩,hl⟩:=I.loc
  obtain ⟨sl,q⟩:=any _ o ho (fun z=>ha.loc z.symm) (fun z=>hT.loc z.symm)
  refine ⟨m,⟨_,es,ep,q,hd,r⟩,fun i y v e1 e2 e3=>?_⟩
  obtain ⟨u,ru,lk⟩:=hl i y v e1 e2 e3
  refine ⟨u,ru,lk.elim .inl fun ⟨k,c,e,z⟩=>.inr ⟨k,c,e,cellK y c e _ z⟩⟩
 ·obtain ⟨v,z⟩:=I.cell y c e
  exact ⟨v,cellK y c e v z⟩
 ·obtain ⟨e,n,nl,nf,d⟩:=I.pin p hp
  exact ⟨k1 p.1 p.2 e (nst _ nl nf) (ha.pin p hp) (hT.pin p hp),n,nl,nf,d⟩
 ·refine (I.hok b o e).stay (fun c u hc q=>k1 c u q (fun z=>?_) (fun z=>?_) (fun z=>?_)) (fun _ q=>q) fun _ _ q=>q
  ·have:=I.stkFree c z
   rcases hc with rfl | hc
   ·rw [e] at this; cases this
   ·rw [hc] at this; cases this
  ·subst z
   rcases hc with rfl | hc
   ·rw [ha.free] at e; cases e
   ·rw [ha.free] at hc; cases hc
  ·subst z
   rcases hc with rfl | hc
   ·rw [hT.free] at e; cases e
   ·rw [hT.free] at hc; cases hc
theorem Inv.track {o:HO} (I:Inv X pins σ H s) (ha:Apart X pins H a) (ob:ObjOk X.prog X.w (upd H a o) s.heap a o):Inv X pins σ (upd H a o) s:=by
 have ne:∀ {b:Addr} {u:HO},H b=some u→b≠a:=fun {b u} e z=>by rw [z,ha.free] at e; cases e
 have up:∀ {b:Addr} {u:HO},H b=some u→upd H a o b=some u:=fun {b u} e=>by rw [upd_ne (ne e)]; exact e
 have no:∀ {b:Addr},b≠a→H b=none→upd H a o b=none:=fun {b} n e=>by rw [upd_ne n]; exact e
 refine ⟨I.ok,I.os,I.bare,⟨I.base.keep,I.base.slot,fun b u e n hx=>no (fun z=>by rw [z,ha.old] at e; cases e) (I.base.free b u e n hx),I.base.there,fun b xs e=>up (I.base.tups b xs e),fun b u z e=>up (I.base.frzs b u z e),fun b ps e=>?_⟩,I.loc,I.cell,no (Ne.symm ha.loc) I.free,fun x c e=>no (ha.cel x c e) (I.freeC x c e),fun p hp=>?_,fun b u e=>?_,I.len⟩
 ·obtain ⟨m,q⟩:=I.base.tbls b ps e
  exact ⟨m,up q⟩
 ·obtain ⟨e,n,nl,nf,d⟩:=I.pin p hp
  exact ⟨e,no (ha.pin p hp) n,nl,nf,d⟩
 ·by_cases hb:b=a
  ·subst hb
   rw [upd_same] at e
   cases e
   exact ob
  ·rw [upd_ne hb] at e
   exact (I.hok b u e).stay (fun _ _ _ q=>q) (fun c q=>up q) fun c xs q=>up q
theorem unstore_ok {M:Model} {A:Around} {E:Value→Shared→Prop} {i:Nat} {x:Str} {pos:Pos} {Q:Unit→Shared→Prop} (I:Inv X pins σ H s) (hN:X.N.Nodup) (hi:X.N[i]? = some x) (hk:X.env.scope.names.lookup x=some .local)
  (h:∀ s',Inv X pins (σ.set i none) H s'→Q () s'):wpAny M A (do bindName X.env x .none; unbindBehindTheSuite X.env x pos) Q E s:=by
 have hiσ:i < σ.length:=by rw [I.len]; exact (List.getElem?_eq_some_iff.mp hi).1
 refine wpAny_bind (wpAny_bindName (store_ok2 (v:=.non) (u:=.none) I hN hi (.inl hk) rfl (fun s1 I1 _=>?_) (.inr hk)))
 obtain ⟨m,hn,hl⟩:=id I1.loc
 obtain ⟨u,ru,lk⟩:=hl i x .non hi (List.getElem?_set_self hiσ) (.inl hk)
 have hv:m x=some u:=by
  rcases lk with ⟨_,e⟩ | ⟨z,_⟩
  ·exact e
  ·have:X.env.kindOf x=some .local:=hk
   rw [this] at z
   rcases z with z | z <;> cases z
 refine wpAny_onRaise (wpAny_unbindName_local hk hn hv (by rw [I.ok.kind]; rfl) fun h' w' hn' hs=>h _ ?_)
 obtain ⟨oL,_,_,hoL,_⟩:=id hn
 have cne:=I1.cne
 refine ⟨I1.ok,I1.os,I1.bare,⟨fun b o e n hb hx=>?_,fun b o e n hb hx=>?_,I1.base.free,fun b o e hx=>?_,I1.base.tups,I1.base.frzs,I1.base.tbls⟩,⟨_,hn',fun j y v' e1 e2 e3=>?_⟩,fun y c e=>?_,I1.free,I1.freeC,fun p hp=>?_,fun b ob e=>?_,by simpa using I.len⟩
 ·exact (hs.2 b (I1.neL e)).trans (I1.base.keep b o e n hb hx)
 ·obtain ⟨sl,q⟩:=I1.base.slot b o e n hb hx
  exact ⟨sl,(hs.2 b (I1.neL e)).trans q⟩
 ·obtain ⟨o',q⟩:=I1.base.there b o e hx
  exact ⟨o',(hs.2 b (I1.neL e)).trans q⟩
 ·by_cases hj:j=i
  ·subst hj
   rw [List.getElem?_set_self hiσ] at e2
   cases e2
  ·rw [List.getElem?_set_ne (Ne.symm hj)] at e2
   obtain ⟨u',r',q⟩:=hl j y v' e1 (by rw [List.getElem?_set_ne (Ne.symm hj)]; exact e2) e3
   have hyx:y≠x:=fun z=>hj (nodup_ix hN e1 (z ▸ hi))
   refine ⟨u',r',?_⟩
   rcases q with ⟨k,e⟩ | ⟨k,c,e,z⟩
   ·exact .inl ⟨k,by simp [hyx,e]⟩
   ·exact .inr ⟨k,c,e,z.sameBut hs (cne y c e)⟩
 ·obtain ⟨w2,z⟩:=I1.cell y c e
  exact ⟨w2,z.sameBut hs (cne y c e)⟩
 ·obtain ⟨e,n,nl,nf,d⟩:=I1.pin p hp
  exact ⟨(hs.2 p.1 nl).trans e,n,nl,nf,d⟩
 ·refine (I1.hok b ob e).stay (fun c u' hc q=>(hs.2 c fun z=>?_).trans q) (fun _ q=>q) fun _ _ q=>q
  subst z
  have:=I1.free
  rcases hc with rfl | hc
  ·rw [e] at this; cases this
  ·rw [hc] at this; cases this
end
open PySem PySem.Spec PyProof.Rows
section
variable {prog:Program} {w:World} {A:Around} {E:Value→Shared→Prop} {K:PySem.W.Frag}
theorem exc_match {C B e:Addr} {oe:Obj} {h:Heap} {g:Array GenState} {d:Drawn} {t:Nat} {os:OsState} {Q:Bool→Shared→Prop} (X:K.In h) (qB:ExcC K B) (qm:PySem.W.mroIn K C (.ref B)=some true) (he:h.get? e=some oe) (hc:oe.cls = .ref C)
  (hq:Q true ⟨h,g,d,t,os⟩):wpAny (model prog w) A (excMatches (.ref e) (.ref B)) Q E ⟨h,g,d,t,os⟩:=by
 obtain ⟨bm,N,nm,qn,bs,hdct,sn,sub,ab,col,dd,k0,k1,k2,k3,k5,mN,hB,_,_,hT⟩:=qB.obj X
 have cB:(Value.ref B :: bm).contains (.type "BaseException")=true:=by rw [List.contains_cons,hT.hasType (X:="BaseException") (b:=true) rfl,Bool.or_true]
 have lk:=PySem.W.looks_mroIn (M:=model prog w) X qm
 have f:=tc_notTuple
 unfold excMatches
 repeat (first | with_reducible refine PySem.W.Looks.at lk ?_ | (with_reducible refine wpAny_loadPart_at he ?_; rw [hc]) | with_reducible refine wpAny_loadPart_at hB ?_ | (with_reducible refine wpAny_isSubtype_exc hB ?_; rw [cB]) | wp_step)
 exact hq
end
def Cx.wt (X:Cx) (pn:List (Addr×Obj)) (xe:Value→Shared→Prop):Cx:={ X with pn:=pn,xe:=xe }
def Cx.hand (X:Cx) (a:Addr):Cx:={ X with A:=X.A.mark (some (.ref a)),calm:=false,xe:=fun _ _=>False }
section
variable {X:Cx} {pins ps:List (Addr×Obj)} {σ:St} {H:Hp} {s:Shared} {a:Addr} {xe:Value→Shared→Prop} {pn:List (Addr×Obj)}
theorem Cx.Ok.wt (o:X.Ok):(X.wt pn xe).Ok:=⟨o.mod,o.kind,o.glob,o.blt,o.above,o.inj,o.has,o.cab,o.hd,o.frames,o.stk,o.exf,o.bs,o.bsz,o.noex,o.exfs,o.funs,o.frf⟩
theorem Cx.Ok.hand (o:X.Ok):(X.hand a).Ok:=⟨o.mod,o.kind,o.glob,o.blt,o.above,o.inj,o.has,o.cab,fun z=>(by cases z),o.frames,o.stk,o.exf,o.bs,o.bsz,o.noex,o.exfs,o.funs,o.frf⟩
theorem Inv.wt (I:Inv X pins σ H s):Inv (X.wt (X.pn ++ pins) xe) [] σ H s:=⟨I.ok.wt,I.os,I.bare,I.base,I.loc,I.cell,I.free,I.freeC,fun p hp=>I.pin p (by simpa [Cx.wt] using hp),I.hok,I.len⟩
theorem Inv.unwt (o:X.Ok) (J:Inv (X.wt (X.pn ++ pins) xe) ps σ H s):Inv X pins σ H s:=⟨o,J.os,J.bare,J.base,J.loc,J.cell,J.free,J.freeC,fun p hp=>J.pin p (List.mem_append_left _ hp),J.hok,J.len⟩
theorem Inv.hand (I:Inv X pins σ H s):Inv (X.hand a) pins σ H s:=⟨I.ok.hand,I.os,I.bare,I.base,I.loc,I.cell,I.free,I.freeC,I.pin,I.hok,I.len⟩
theorem Inv.unhand (o:X.Ok) (J:Inv (X.hand a) pins σ H s):Inv X pins σ H s:=⟨o,J.os,J.bare,J.base,J.loc,J.cell,J.free,J.freeC,J.pin,J.hok,J.len⟩
theorem Apart.unwt (h:Apart (X.wt (X.pn ++ pins) xe) ps H a):Apart X pins H a:=⟨h.old,h.free,h.loc,h.cel,fun p hp=>h.pin p (List.mem_append_left _ hp)⟩
theorem SP.unwt {D:Ends} {f:Flow} (o:X.Ok) (h:SP (X.wt (X.pn ++ pins) xe) ps D f s):SP X pins D f s:=by
 cases f with
 | next=>obtain ⟨σ',H',J,q⟩:=h; exact ⟨σ',H',Inv.unwt o J,q⟩
 | brk=>obtain ⟨σ',H',J,q⟩:=h; exact ⟨σ',H',Inv.unwt o J,q⟩
 | cont=>obtain ⟨σ',H',J,q⟩:=h; exact ⟨σ',H',Inv.unwt o J,q⟩
 | ret u=>obtain ⟨v,σ',H',J,r,q⟩:=h; exact ⟨v,σ',H',Inv.unwt o J,r,q⟩
def Comes (X:Cx) (pins:List (Addr×Obj)) (H:Hp) (s:Shared) (a C:Addr):Prop:=∃ T,Fly s.heap a C T∧Apart X pins H a∧Apart X pins H T
def Ends.hand (D:Ends) (i:Nat):Ends where
 nx:=fun σ H=>D.nx (σ.set i none) H
 rt:=D.rt
 bk:=fun σ H=>D.bk (σ.set i none) H
 ct:=fun σ H=>D.ct (σ.set i none) H
theorem ps_try_as {body:List Stmt} {x n:Str} {b₀:Stmt} {suite:List Stmt} {np hpos pos:Pos} {B:Addr} {i:Nat} {tb:(Addr→St→Hp→Prop)→TS} {th:Addr→Addr→TS} (hst:X.stack=X.env :: X.outer) (hf:X.env.frame=some X.env.locals)
  (hN:X.N.Nodup) (hi:X.N[i]? = some n) (hl:X.env.scope.names.lookup n=some .local) (hg:Gl X x) (hm:X.mg x=some (.ref B)) (qB:ExcC X.K B) (hdb:(x == ("__debug__" : Str))=false)
  (hbody:∀ (W:Addr→St→Hp→Prop) (pn:List (Addr×Obj)) (xe:Value→Shared→Prop),(∀ ps σ H s a C,Inv (X.wt pn xe) ps σ H s→Comes (X.wt pn xe) ps H s a C→W C σ H→xe (.ref a) s)→PSs (X.wt pn xe) body (tb W))
  (hhand:∀ C a,PSs (X.hand a) (b₀ :: suite) (th C a)) :
  PS X (.Try body [.ExceptHandler (some (.Name x np)) (some n) (b₀ :: suite) hpos] [] [] pos)
   (fun D σ H=>tb (fun C σ' H'=>PySem.W.mroIn X.K C (.ref B)=some true∧∀ a,H' a=none→th C a (D.hand i) (σ'.set i (some (.ref a))) (upd H' a (.ext (DV.excAt C a)))) D σ H):=by
 intro pins s σ H D I hw
 refine wpAny_Try_except (wpAny_mono (hbody _ (X.pn ++ pins) _ (fun ps σ1 H1 s1 a C J hc hW=>?_) [] s σ H D I.wt hw) (fun f s1 hs=>?_) fun e s1 he=>he)
 ·obtain ⟨T,⟨oe,vs,oT,ts,a0,t1,⟨t2,t2'⟩,t3,t4,t5,t6,t7,t8⟩,pa,pT⟩:=hc
  have J:Inv X pins σ1 H1 s1:=Inv.unwt I.ok J
  have pa:=pa.unwt
  have pT:=pT.unwt
  have hfr:X.A.frames=some (X.env :: X.outer):=by rw [← hst]; exact J.ok.frames
  have hB0:Heap.FlyingW (PySem.W.hideAll s1.heap (a :: T :: frs (X.env :: X.outer))) (X.env :: X.outer) a (.ref C) a0 s1.heap:=by
   refine ⟨fun b o z=>PySem.W.of_hideAll _ z,PySem.W.hideAll_none _ (.head _),?_,oe,vs,T,oT,ts,t1,⟨t2,t2'⟩,t3,t4,PySem.W.hideAll_none _ (.tail _ (.head _)),t5,t6,t7,t8⟩
   have:=J.stack
   rw [hst] at this
   exact PySem.W.funFrames_hide this fun env he b hb=>List.mem_cons_of_mem _ (List.mem_cons_of_mem _ (List.mem_filterMap.mpr ⟨env,he,hb⟩))
  -- whatever the notes do,ours is kept
  have keepI:∀ h2,Heap.FlyingW (PySem.W.hideAll s1.heap (a :: T :: frs (X.env :: X.outer))) (X.env :: X.outer) a (.ref C) a0 h2→s1.heap.UpToSlots h2→Inv X pins σ1 H1 { s1 with heap:=h2 }:=fun h2 hf2 up=>by
   refine J.noted2 pa pT (fun b o z n n1 n2=>hf2.1 b o (PySem.W.hideAll_get _ z ?_)) fun b o z n=>?_
   ·rw [hst] at n
    simp [n,n1,n2]
   ·obtain ⟨_,o',g1,g2⟩:=J.stack.mem n
    rw [z] at g1; cases g1
    exact up b o z g2
  refine wpAny_looks_onW hfr hf hB0 fun h2 held up2=>?_
  refine wpAny_landsW held fun h3 fly3 up3=>?_
  have I3:=keepI h3 fly3 (up2.trans up3)
  obtain ⟨ob,hob,hobc⟩:=fly3.there
  obtain ⟨qm,qh⟩:=hW
  refine wpAny_handleBy_cons (codeAny_handlers_test ?_) (by intro z; cases z)
  have I3h:Inv (X.hand a) pins σ1 H1 { s1 with heap:=h3 }:=I3.hand
  refine ld_glob (X:=X.hand a) I3h hg hm ?_ hdb
  refine exc_match I3.kIn qB qm hob hobc ?_
  refine codeAny_handlers_suite_as (lands_againW fly3 fun h4 fly4 up4=>?_)
  have I4:=keepI h4 fly4 ((up2.trans up3).trans up4)
  obtain ⟨oe4,vs4,_,_,_,u1,⟨u2,_⟩,u3,_⟩:=fly4.2.2.2
  have I5:Inv X pins σ1 (upd H1 a (.ext (DV.excAt C a))) { s1 with heap:=h4 }:=I4.track pa ⟨⟨oe4,u1,u2,vs4,u3⟩,⟨oe4,u1⟩,fun h1 h2 ⟨o,e1,e2⟩ k=>⟨o,k o e1,e2⟩⟩
  refine store_ok2 (v:=.ref a) (u:=.ref a) (X:=X.hand a) I5.hand hN hi (.inl hl) rfl (fun s6 I6 _=>?_) (.inr hl)
  refine wpAny_mono (hhand C a pins s6 _ _ (D.hand i) I6 (qh a pa.free)) (fun f s7 hs=>?_) (fun e s7 he=>he.elim)
  have un:∀ {σ':St} {H':Hp} {Q:Flow→Shared→Prop},Inv (X.hand a) pins σ' H' s7→(∀ s8,Inv X pins (σ'.set i none) H' s8→Q f s8)→wpAny (model X.prog X.w) X.A (do bindName X.env n .none; unbindBehindTheSuite X.env n hpos) (fun _ s8=>Q f s8) X.xe s7 :=
   fun {σ' H' Q} J7 k=>unstore_ok (Inv.unhand I.ok J7) hN hi hl fun s8 J8=>k s8 J8
  cases f with
  | next=>obtain ⟨σ',H',J7,q⟩:=hs; exact un J7 fun s8 J8=>⟨_,_,J8,q⟩
  | brk=>obtain ⟨σ',H',J7,q⟩:=hs; exact un J7 fun s8 J8=>⟨_,_,J8,q⟩
  | cont=>obtain ⟨σ',H',J7,q⟩:=hs; exact un J7 fun s8 J8=>⟨_,_,J8,q⟩
  | ret u=>obtain ⟨v,σ',H',J7,r,q⟩:=hs; exact un J7 fun s8 J8=>⟨v,_,_,J8,r,q⟩
 ·have hs:=SP.unwt I.ok hs
  cases f with
  | next=>exact wpAny_execs_nil hs
  | brk=>exact hs
  | cont=>exact hs
  | ret u=>exact hs
end
open PySem PySem.Spec PyProof.Rows
def XOk (X:Cx) (W:Addr→St→Hp→Prop):Prop:=∀ ps σ H s a C,Inv X ps σ H s→Comes X ps H s a C→W C σ H→X.xe (.ref a) s
def XOkR (X:Cx) (W:Addr→St→Hp→Prop):Prop:=∀ ps σ H s h' e C,Inv X ps σ H s→W C σ H→Heap.MadeExcOf s.heap h' e (.ref C) []→X.xe (.ref e) { s with heap:=h' }
section
variable {X:Cx} {pins:List (Addr×Obj)} {σ:St} {H:Hp} {s:Shared} {b:Addr}
theorem Inv.apart (I:Inv X pins σ H s) (hx:X.ex=[]) {H':Hp} (e:s.heap.get? b=none) (f:H' b=none):Apart X pins H' b:=by
 refine ⟨(I.gone hx e).2,f,fun z=>?_,fun x c hc z=>?_,fun p hp z=>?_⟩
 ·obtain ⟨m,⟨o,_,_,ho,_⟩,_⟩:=I.loc
  rw [← z,e] at ho; cases ho
 ·obtain ⟨v,o,ho,_⟩:=I.cell x c hc
  rw [z,e] at ho; cases ho
 ·have:=(I.pin p hp).1
  rw [z,e] at this; cases this
theorem Inv.afterX {E:XK} {v:Value} {s':Shared} (I:Inv X pins σ H s) (hx:X.ex=[]) (h:CXe X.prog X.w X.stack H s E v s'):∃ a C H',v = .ref a∧Inv X pins σ H' s'∧Comes X pins H' s' a C∧E (.ref C) none H':=by
 obtain ⟨a,C,T,H',rfl,ho,hb,un,hok,fl,na,nT,fa,fT,q⟩:=h
 exact ⟨a,C,H',rfl,I.call' (ch:=[]) ho un hok hb (fun b z=>absurd z (by simp)),⟨T,fl,I.apart hx na fa,I.apart hx nT fT⟩,q⟩
end
section
variable {X:Cx} {k:Nat} {f:Addr} {fd:FuncData} {ps:List Str} {sp:Sp} {x:Str} {p pos:Pos} {e:Expr} {es:List Expr} {t:TA} {W:Addr→St→Hp→Prop}
theorem pe_callX (F:FnOk X.prog X.w X.K X.mg X.base (CXe X.prog X.w) k f fd ps sp) (hr:Room k X.A) (hex:X.ex=[]) (hg:Gl X x) (hm:X.mg x=some (.ref f)) (hk:PySem.W.keepIn X.K (.ref f)=true) (hb:Binds X.K fd ps []) (hx:XOk X W)
  (ha:PA X (e :: es) t) (hdb:(x == ("__debug__" : Str))=false:=by decide) (he:starEach (e :: es) X.env=(false,eval e X.env) :: starEach es X.env:=by rfl) (hpl:(backTo pos (starEach es X.env)).any (·.1)=false:=by rfl) :
  PE X (.Call (.Name x p) (e :: es) [] pos) (fun σ H Q=>t σ H fun vs H1=>sp vs H1 Q (fun c _ H'=>∃ C,c = .ref C∧W C σ H')):=by
 intro pins s σ H Q I h
 refine wpAny_Call_Name_kw (ld_glob I hg hm ?_ hdb)
 refine PySem.W.callWith_K (h₀:=X.base) I.ok.mod.kin hk (thn (ha pos pins s σ H _ I h) fun us s1 ⟨vs,H1,I1,r,q⟩=>⟨I1.kIn,?_⟩) he hpl
 have hl:(us ++ []).length=ps.length:=by rw [List.append_nil,← r.length]; exact F.len _ _ _ _ q
 refine wpAny_call (codeAny_mono (F.run X.A X.stack s1 H1 ⟨us,[]⟩ us vs Q _ hr I1.env0 (by have:=hb s1 us I1.kIn hl; rwa [List.append_nil] at this) r q) fun r s' hq=>?_)
 cases r with
 | error e =>
  obtain ⟨a,C,H',ea,I2,co,C',hC,hW⟩:=I1.afterX (E:=fun c _ H'=>∃ C,c = .ref C∧W C σ H') (v:=e) (s':=s') hex hq
  cases hC
  subst ea
  exact hx pins σ H' s' a C I2 co hW
 | ok fl =>
  cases fl with
  | ret u=>exact I1.after hq
  | next=>exact False.elim hq
  | brk=>exact False.elim hq
  | cont=>exact False.elim hq
end
section
variable {P:Program} {w:World} {K:PySem.W.Frag} {mg:Str→Option Value} {base:Heap} {N:List Str} {qual:Str} {scope:Scope} {f:Addr} {cd:Value} {A:Around} {outer:List Env} {s₀:Shared} {H₀:Hp} {E:XK}
theorem xok_made {W:Addr→St→Hp→Prop} (hW:∀ C σ H,W C σ H→E (.ref C) none H):XOkR (cxOf (CXe P w) P w K mg base N qual scope f cd A outer s₀ H₀ E) W:=fun ps σ H s h' e C I q hm=>xe_made I hm (hW C σ H q)
theorem xok_comes {W:Addr→St→Hp→Prop} (hW:∀ C σ H,W C σ H→E (.ref C) none H):XOk (cxOf (CXe P w) P w K mg base N qual scope f cd A outer s₀ H₀ E) W:=fun ps σ H s a C I hc q=>by
 obtain ⟨T,⟨oe,vs,oT,ts,a0,t1,⟨t2,t2'⟩,t3,t4,t5,t6,t7,t8⟩,pa,pT⟩:=hc
 have hstk:s.heap.FunFrames base (envOfC qual scope s₀.heap.objs.size f cd :: outer):=I.stack
 refine wpAny_leaving_nextW (base:=PySem.W.hideAll s.heap (a :: T :: frs (envOfC qual scope s₀.heap.objs.size f cd :: outer))) (outer:=outer) (L:=s₀.heap.objs.size) (cls:=.ref C) (a0:=a0) I.ok.frames
  (PySem.W.funFrames_hide hstk fun env he b hf=>List.mem_cons_of_mem _ (List.mem_cons_of_mem _ (List.mem_filterMap.mpr ⟨env,he,hf⟩))) rfl
  ⟨oe,vs,T,oT,ts,t1,⟨t2,t2'⟩,t3,t4,PySem.W.hideAll_none _ (.tail _ (.head _)),t5,t6,t7,t8⟩ (fun b o z=>PySem.W.of_hideAll _ z) (PySem.W.hideAll_none _ (.head _)) fun h2 hL=>?_
 obtain ⟨l1,l2,⟨oe',vs',T',oT',ts',u1,u2,u3,u4,u5,u6,u7,u8,u9⟩,l4⟩:=hL
 have I2:Inv (cxOf (CXe P w) P w K mg base N qual scope f cd A outer s₀ H₀ E) ps σ H { s with heap:=h2 }:=I.noted2 pa pT (fun b o z n n1 n2=>l1 b o (PySem.W.hideAll_get _ z (by
   have n':b ∉ frs (envOfC qual scope s₀.heap.objs.size f cd :: outer):=n
   simp [n',n1,n2]))) fun b o z n=>by
  obtain ⟨_,o',g1,g2⟩:=I.stack.mem n
  rw [z] at g1; cases g1
  exact l4 b o z g2
 have hT':H T'=none∧s₀.heap.get? T'=none:=by
  by_cases hh:T'=T
  ·rw [hh]; exact ⟨pT.free,pT.old⟩
  ·cases z:s.heap.get? T' with
   | none=>exact I.gone rfl z
   | some o =>
    exfalso
    by_cases hf:T' ∈ frs (envOfC qual scope s₀.heap.objs.size f cd :: outer)
    ·obtain ⟨_,o',g1,g2⟩:=l2.mem hf
     rw [u7] at g1
     cases g1
     exact g2 ts' u8
    ·rw [PySem.W.hideAll_get _ z (by simp [hh,u6,hf])] at u5
     cases u5
 exact ⟨a,C,T',H,rfl,I.os,I.bare,I2.base,I2.hok,⟨oe',vs',oT',ts',a0,u1,u2,u3,u4,u6,u7,u8,u9⟩,pa.old,hT'.2,pa.free,hT'.1,hW C σ H q⟩
end
end L2
set_option Elab.async false
set_option linter.all false
set_option maxRecDepth 100000
namespace DV
open PySem PySem.Spec PyProof.Rows L2
section
variable {c:Fc} {σ σ':St} {δ δ':Dl} {H H':Hp} {g:Xc→Dl→Prop}
theorem Ok.xc (k:Ok c σ δ H):Ok { c with xc:=g } σ δ H:=⟨k.keep,k.bd,k.ith,k.len,k.slot,k.own,k.inj,k.pinned⟩
theorem Ok.unxc (k:Ok { c with xc:=g } σ δ H):Ok c σ δ H:=⟨k.keep,k.bd,k.ith,k.len,k.slot,k.own,k.inj,k.pinned⟩
theorem Ok.since (h0:c.H₀=H) (k:Ok c σ δ H) (hI:∀ a,c.I a→Own σ δ a) (k':Ok c σ' δ' H'):Aft c σ δ H σ' δ' H':=by
 refine ⟨k',fun a o e n=>k'.keep a o (by rw [h0]; exact e) fun z=>n (hI a z),fun a ⟨i,d,e1,e2⟩=>?_,fun a o e=>?_⟩
 ·obtain ⟨b,e3,_,q,_⟩:=k'.own i d e1
  rw [e2] at e3; cases e3
  rcases q with q | q
  ·exact .inl (hI a q)
  ·rw [h0] at q; exact .inr q
 ·by_cases z:c.I a
  ·exact k'.ith a z
  ·exact ⟨o,k'.keep a o (by rw [h0]; exact e) z⟩
end
def wD (mg:Str→Option Value) (c:Fc) (C:Addr) (σ:St) (H:Hp):Prop:=∃ (x:Tx) (δ:Dl),mg (toS x)=some (.ref C)∧Ok c σ δ H∧c.xc ⟨x,[]⟩ δ
def dRaise (x:Tx):DS:=fun δ=>.exc ⟨x,[]⟩ δ
theorem ss_raise {X:Cx} {c:Fc} {x:Str} {C:Addr} {np cpos pos:Pos} (y:Tx) (q:ExcC X.K C) (hc:X.calm=true) (hg:Gl X x) (hm:X.mg x=some (.ref C)) (hx:XOkR X (wD X.mg c)) (hy:x=toS y:=by decide +kernel) (hd:(x == ("__debug__" : Str))=false:=by decide) :
  SS X c (.Raise (some (.Call (.Name x np) [] [] cpos)) none pos) (dRaise y) :=
 PS.weak (ps_raise0 (W:=fun σ H=>wD X.mg c C σ H) q hc hg hm hd fun ps σ H s h' e I w hm=>hx ps σ H s h' e C I w hm) fun D σ H ⟨δ,k,w⟩=>⟨y,δ,by rw [← hy]; exact hm,k,w⟩
abbrev DX:=List S→Option ((S×List S) ⊕ (Tx×List S))
def runX (f:DS) (n:Nat) (ss:List S):Option ((S×List S) ⊕ (Tx×List S)):=match f (startD n ss) with
 | .ok fl δ=>(resOf fl).bind fun r=>(outsOf 0 ss δ).map fun outs=>.inl (r,outs)
 | .exc x δ=>if x.flds.isEmpty then (outsOf 0 ss δ).map fun outs=>.inr (x.cls,outs) else none
 | .stuck=>none
def spX (mg:Str→Option Value) (n:Nat) (G:DX):Sp:=fun vs H Q E=>∃ ss B,vs.length=n∧Ok ⟨H,B,pinsOf 0 ss vs,fun _ _=>False⟩ (some' vs) (someS ss) H∧∃ y,G ss=some y∧match y with
 | .inl (r,outs)=>∀ v H',Aft ⟨H,B,pinsOf 0 ss vs,fun _ _=>False⟩ (some' vs) (someS ss) H (some' vs) (someS outs) H'→RepS ⟨H,B,pinsOf 0 ss vs,fun _ _=>False⟩ (some' vs) (someS outs) H H' v r→Q v H'
 | .inr (x,outs)=>∀ C H',mg (toS x)=some (.ref C)→Aft ⟨H,B,pinsOf 0 ss vs,fun _ _=>False⟩ (some' vs) (someS ss) H (some' vs) (someS outs) H'→E (.ref C) none H'
def KFnX (P:Program) (w:World) (K:PySem.W.Frag) (mg:Str→Option Value) (base:Heap) (k:Nat) (x:Str) (n:Nat) (G:DX):Prop :=
 ∃ (f:Addr) (fd:FuncData) (ps:List Str),mg x=some (.ref f)∧PySem.W.keepIn K (.ref f)=true∧Binds K fd ps []∧FnOk P w K mg base (CXe P w) k f fd ps (spX mg n G)
theorem own_pins {ss:List S} {vs:List V} {B:Addr→Prop} {H:Hp} {g:Xc→Dl→Prop} {a:Addr} (h:(⟨H,B,pinsOf 0 ss vs,g⟩:Fc).I a):Own (some' vs) (someS ss) a:=by
 obtain ⟨i,hi⟩:=h
 obtain ⟨j,d,_,e1,e2⟩:=mem_pinsOf hi
 exact ⟨j,d,someS_get.mpr e1,some'_get.mpr e2⟩
section
variable {P:Program} {w:World} {K:PySem.W.Frag} {mg:Str→Option Value} {base:Heap}
theorem Aft.unxc {c:Fc} {g:Xc→Dl→Prop} {σ σ':St} {δ δ':Dl} {H H':Hp} (x:Aft { c with xc:=g } σ δ H σ' δ' H'):Aft c σ δ H σ' δ' H':=⟨x.ok.unxc,x.keep,x.own,x.there⟩
theorem RepS.unxc {c:Fc} {g:Xc→Dl→Prop} {σ:St} {δ:Dl} {Hs H:Hp} {v:V} {r:S} (h:RepS { c with xc:=g } σ δ Hs H v r):RepS c σ δ Hs H v r:=by
 cases r with
 | pure d=>exact h
 | own d =>
  obtain ⟨a,e,o,n,f,k,q⟩:=h
  exact ⟨a,e,o,n,f,⟨k.keep,k.bd,k.ith,k.len,k.slot,k.own,k.inj,k.pinned⟩,q⟩
theorem fn_okX {x qual:Str} {st:Stmt} {f:Addr} {fd:FuncData} {N ps:List Str} {k:Nat} {np:List Nat} {fb:DS} {G:DX} (F:Fun K x qual st f fd) (S:FnScope N ps (defScope st))
  (hbody:∀ (c:Fc) (cdv:Value) (A:Around) (outer:List Env) (s:Shared) (H:Hp) (E:XK),Room k (A.deeper (envOfC qual (defScope st) s.heap.objs.size f cdv))→Np c np →
   XOk (cxOf (CXe P w) P w K mg base N qual (defScope st) f cdv A outer s H E) (wD mg c)→XOkR (cxOf (CXe P w) P w K mg base N qual (defScope st) f cdv A outer s H E) (wD mg c)→SSs (cxOf (CXe P w) P w K mg base N qual (defScope st) f cdv A outer s H E) c (defBody st) fb)
  (hG:∀ ss y,G ss=some y→ioOk np 0 ss=true∧runX fb N.length ss=some y):FnOk P w K mg base (CXe P w) (k + 1) f fd ps (spX mg ps.length G):=by
 obtain ⟨oc,od,kV,doc,pm,an,cdv,ct,osl,rfl,lk,hcd⟩:=F.ex
 refine fn_of lk hcd S (fun vs H Q E h=>?_) fun A outer s H vs Q E hr h=>?_
 ·obtain ⟨ss,B,hl,_⟩:=h
  exact hl
 ·obtain ⟨ss,B,hl,ok,y,hg,q⟩:=h
  obtain ⟨hio,hrun⟩:=hG ss _ hg
  have hvs:ss.length=vs.length:=by have:=ok.len; simpa using this
  let g:Xc→Dl→Prop:=fun x δ'=>∃ outs,x.flds=[]∧outsOf 0 ss δ'=some outs∧y = .inr (x.cls,outs)
  have np':Np ⟨H,B,pinsOf 0 ss vs,g⟩ np:=fun p hp=>by
   obtain ⟨j,d,e,h1,_⟩:=mem_pinsOf (i:=p.1) (a:=p.2) hp
   rw [e]
   exact ioOk_at hio h1
  have hst:start N vs=some' vs ++ List.replicate (N.length - ss.length) none:=by rw [hvs]; rfl
  have ok0:Ok ⟨H,B,pinsOf 0 ss vs,fun _ _=>False⟩ (start N vs) (startD N.length ss) H:=by rw [hst]; exact ok.ext _
  have wish:∀ C σ' H',wD mg ⟨H,B,pinsOf 0 ss vs,g⟩ C σ' H'→E (.ref C) none H':=fun C σ' H' ⟨z,δ',hm,k',outs,_,ho,hy⟩=>by
   rw [hy] at q
   have k1:Ok ⟨H,B,pinsOf 0 ss vs,fun _ _=>False⟩ σ' δ' H':=⟨k'.keep,k'.bd,k'.ith,k'.len,k'.slot,k'.own,k'.inj,k'.pinned⟩
   have a:Aft ⟨H,B,pinsOf 0 ss vs,fun _ _=>False⟩ (some' vs ++ List.replicate (N.length - ss.length) none) (someS ss ++ List.replicate (N.length - ss.length) none) H σ' δ' H' :=
    Ok.since rfl (by rw [hst] at ok0; exact ok0) (fun a z=>Own.ext.mpr (own_pins z)) k1
   exact q C H' hm (leave rfl ok a ho).1
  refine ⟨tDS ⟨H,B,pinsOf 0 ss vs,g⟩ fb,hbody ⟨H,B,pinsOf 0 ss vs,g⟩ cdv A outer s H E hr np' (xok_comes wish) (xok_made wish),startD N.length ss,⟨ok0.keep,ok0.bd,ok0.ith,ok0.len,ok0.slot,ok0.own,ok0.inj,ok0.pinned⟩,?_⟩
  unfold runX at hrun
  unfold sPost
  cases e:fb (startD N.length ss) with
  | stuck=>rw [e] at hrun; cases hrun
  | exc x δx =>
   rw [e] at hrun
   simp only at hrun
   split at hrun
   ·rename_i hfl
    cases eo:outsOf 0 ss δx with
    | none=>rw [eo] at hrun; cases hrun
    | some os =>
     rw [eo] at hrun
     cases hrun
     exact ⟨os,List.isEmpty_iff.mp hfl,eo,rfl⟩
   ·cases hrun
  | ok fl δ' =>
   rw [e] at hrun
   show ∀ σ' H',Aft _ (start N vs) (startD N.length ss) H σ' δ' H'→fin _ _ σ' δ' H' fl
   intro σ' H' a
   rw [hst] at a
   have k1:=a.ok
   have a1:Aft ⟨H,B,pinsOf 0 ss vs,fun _ _=>False⟩ (some' vs ++ List.replicate (N.length - ss.length) none) (startD N.length ss) H σ' δ' H':=⟨⟨k1.keep,k1.bd,k1.ith,k1.len,k1.slot,k1.own,k1.inj,k1.pinned⟩,a.keep,a.own,a.there⟩
   simp only at hrun
   cases fl with
   | brk=>cases hrun
   | cont=>cases hrun
   | next =>
    simp only [resOf,Option.bind_some] at hrun
    cases eo:outsOf 0 ss δ' with
    | none=>rw [eo] at hrun; cases hrun
    | some os =>
     rw [eo] at hrun
     cases hrun
     obtain ⟨l1,l2⟩:=leave rfl ok a1 eo
     exact q .non H' l1 .non
   | ret r' =>
    simp only [resOf,Option.bind_some] at hrun
    cases eo:outsOf 0 ss δ' with
    | none=>rw [eo] at hrun; cases hrun
    | some os =>
     rw [eo] at hrun
     cases hrun
     obtain ⟨l1,l2⟩:=leave rfl ok a1 eo
     exact fun v rv=>q v H' l1 (l2 v _ (RepS.unxc (c:=⟨H,B,pinsOf 0 ss vs,fun _ _=>False⟩) (g:=g) rv))
theorem fn_defX {x qual:Str} {st:Stmt} {f:Addr} {fd:FuncData} {N ps:List Str} {k:Nat} {np:List Nat} {fb:DS} {G:DX} (F:Fun K x qual st f fd) (hm:mg x=some (.ref f)) (hb:Binds K fd ps []) (S:FnScope N ps (defScope st))
  (hbody:∀ (c:Fc) (cdv:Value) (A:Around) (outer:List Env) (s:Shared) (H:Hp) (E:XK),Room k (A.deeper (envOfC qual (defScope st) s.heap.objs.size f cdv))→Np c np →
   XOk (cxOf (CXe P w) P w K mg base N qual (defScope st) f cdv A outer s H E) (wD mg c)→XOkR (cxOf (CXe P w) P w K mg base N qual (defScope st) f cdv A outer s H E) (wD mg c)→SSs (cxOf (CXe P w) P w K mg base N qual (defScope st) f cdv A outer s H E) c (defBody st) fb)
  (hG:∀ ss y,G ss=some y→ioOk np 0 ss=true∧runX fb N.length ss=some y):KFnX P w K mg base (k + 1) x ps.length G:=⟨f,fd,ps,hm,F.kp,hb,fn_okX F S hbody hG⟩
end
open PySem PySem.Spec PyProof.Rows L2
def outsX:(S×List S) ⊕ (Tx×List S)→List S
 | .inl y=>y.2
 | .inr y=>y.2
def KeepsX (G:DX):Prop:=∀ ss y,G ss=some y→∀ (j:Nat),(∀ d,ss[j]? = some (.own d)→∃ d',(outsX y)[j]? = some (.own d'))∧∀ d,ss[j]? = some (.pure d)→∃ d',(outsX y)[j]? = some (.pure d')
theorem outs_kind {ss os:List S} {δ:Dl} (e:outsOf 0 ss δ=some os) (j:Nat):(∀ d,ss[j]? = some (.own d)→∃ d',os[j]? = some (.own d'))∧∀ d,ss[j]? = some (.pure d)→∃ d',os[j]? = some (.pure d'):=by
 obtain ⟨h1,h2⟩:=outs_at e
 refine ⟨fun d ed=>?_,fun d ed=>?_⟩
 ·rcases h2 j _ ed with ⟨d',z,_⟩ | ⟨d',d'',_,_,z⟩
  ·cases z
  ·exact ⟨d'',z⟩
 ·rcases h2 j _ ed with ⟨d',z,z'⟩ | ⟨d',d'',z,_⟩
  ·exact ⟨d',z'⟩
  ·cases z
theorem runX_outs {fb:DS} {n:Nat} {ss:List S} {y:(S×List S) ⊕ (Tx×List S)} (h:runX fb n ss=some y):∃ δ,outsOf 0 ss δ=some (outsX y):=by
 unfold runX at h
 cases e:fb (startD n ss) with
 | stuck=>rw [e] at h; cases h
 | exc x δ =>
  rw [e] at h
  simp only at h
  split at h
  ·cases e2:outsOf 0 ss δ with
   | none=>rw [e2] at h; cases h
   | some os=>rw [e2] at h; cases h; exact ⟨δ,e2⟩
  ·cases h
 | ok fl δ =>
  rw [e] at h
  simp only at h
  cases e1:resOf fl with
  | none=>rw [e1] at h; cases h
  | some r =>
   rw [e1] at h
   simp only [Option.bind_some] at h
   cases e2:outsOf 0 ss δ with
   | none=>rw [e2] at h; cases h
   | some os=>rw [e2] at h; cases h; exact ⟨δ,e2⟩
def gOfX (np:List Nat) (n:Nat) (b:DS):DX:=fun ss=>if ioOk np 0 ss then runX b n ss else none
theorem gOfX_run {np:List Nat} {n:Nat} {b:DS} {ss:List S} {y:(S×List S) ⊕ (Tx×List S)} (h:gOfX np n b ss=some y):ioOk np 0 ss=true∧runX b n ss=some y:=by
 unfold gOfX at h
 split at h
 ·exact ⟨by assumption,h⟩
 ·cases h
theorem gOfX_keeps {np:List Nat} {n:Nat} {b:DS}:KeepsX (gOfX np n b):=fun ss y h j=>by
 obtain ⟨δ,e⟩:=runX_outs (gOfX_run h).2
 exact outs_kind e j
def eCallX (G:DX) (as:List Ak):DE:=fun δ=>if (ios as).all (isOwn δ) && ndup (ios as) then (evX as δ).bind fun ds δ1=>match mkA as ds δ1 with
  | none=>.stuck
  | some ss=>match G ss with
   | none=>.stuck
   | some (.inl (r,outs))=>.ok r (putA as outs δ1)
   | some (.inr (x,outs))=>.exc ⟨x,[]⟩ (putA as outs δ1)
 else .stuck
section
variable {X:Cx} {c:Fc} {e:Expr} {es:List Expr} {as:List Ak} {k n:Nat} {x:Str} {G:DX} {pp pos:Pos}
theorem callX_weak (hK:KeepsX G) {σ:St} {H:Hp} {Q:VK} (hl:as.length=n) (h:tD c (eCallX G as) σ H Q):tX c as σ H fun vs H1=>spX X.mg n G vs H1 Q (fun c' _ H'=>∃ C,c' = .ref C∧wD X.mg c C σ H'):=by
 obtain ⟨δ,kk,q⟩:=h
 unfold eCallX at q
 split at q
 ·rename_i hc
  rw [Bool.and_eq_true] at hc
  have nd:=ndup_nodup hc.2
  rw [post_bind] at q
  refine ⟨δ,kk,fun i hi=>?_,post_mono q fun ds δ1 q1 vs H1 a1 r1=>?_⟩
  ·have:=List.all_eq_true.mp hc.1 i (ios_mem.mpr hi)
   unfold isOwn at this
   split at this
   ·rename_i d ed
    exact slot_there kk ed
   ·cases this
  ·cases em:mkA as ds δ1 with
   | none=>rw [em] at q1; exact q1.elim
   | some ss =>
    rw [em] at q1
    simp only at q1
    cases eg:G ss with
    | none=>rw [eg] at q1; exact q1.elim
    | some y =>
     rw [eg] at q1
     have hin:=call_in a1.ok r1 em nd
     obtain ⟨m1,m2,_⟩:=mkA_at r1 em
     have g2:=hK ss y eg
     refine ⟨ss,_,by rw [← m2]; exact hl,hin,y,eg,?_⟩
     cases y with
     | inl y =>
      obtain ⟨r,outs⟩:=y
      intro v H2 a2 r2
      obtain ⟨o1,o2⟩:=call_out a1.ok r1 em nd rfl a2 (fun j d ed=>(g2 j).1 d ed) fun j d ed=>(g2 j).2 d ed
      exact q1 v H2 (a1.trans o1) (RepS.back (o2 v r r2) a1)
     | inr y =>
      obtain ⟨z,outs⟩:=y
      intro C H2 hm a2
      obtain ⟨o1,o2⟩:=call_out a1.ok r1 em nd rfl a2 (fun j d ed=>(g2 j).1 d ed) fun j d ed=>(g2 j).2 d ed
      exact ⟨C,rfl,z,putA as outs δ1,hm,o1.ok,q1⟩
 ·exact q.elim
theorem se_callX (F:KFnX X.prog X.w X.K X.mg X.base k x n G) (hK:KeepsX G) (hr:Room k X.A) (hex:X.ex=[]) (hx:XOk X (wD X.mg c)) (hg:Gl X x) (ha:SX X c (e :: es) as) (hl:as.length=n) (hdb:(x == ("__debug__" : Str))=false:=by decide)
  (he:starEach (e :: es) X.env=(false,eval e X.env) :: starEach es X.env:=by rfl) (hpl:(backTo pos (starEach es X.env)).any (·.1)=false:=by rfl):SE X c (.Call (.Name x pp) (e :: es) [] pos) (eCallX G as):=by
 obtain ⟨f,fd,ps,hm,hk,hb,ok⟩:=F
 exact PE.weak (pe_callX ok hr hex hg hm hk hb hx ha hdb he hpl) fun σ H Q h=>callX_weak hK hl h
end
def noOwn (δ:Dl):Bool:=δ.all fun
 | some (.own _)=>false
 | _=>true
def unset (i:Nat):Rs Fl→Rs Fl
 | .ok fl δ=>.ok fl (δ.set i none)
 | r=>r
def dTry (ce:Tx→Nat) (ys:List Tx) (i:Nat) (fb fh:DS):DS:=fun δ=>if noOwn δ then match fb δ with
  | .exc x δ'=>if ys.contains x.cls && x.flds.isEmpty && decide (i < δ'.length) then unset i (fh (δ'.set i (some (.pure (.exc (ce x.cls)))))) else .stuck
  | r=>r
 else .stuck
section
variable {c:Fc} {σ σ':St} {δ δ':Dl} {H H':Hp}
theorem np_nil (h:Np c []):c.pin=[]:=by
 cases e:c.pin with
 | nil=>rfl
 | cons p r =>
  have:=h p (by rw [e]; exact List.mem_cons_self)
  simp at this
theorem Aft.unset {σ₀:St} {δ₀:Dl} {H₀:Hp} (x:Aft c σ₀ δ₀ H₀ σ δ H) (hp:c.pin=[]) (i:Nat):Aft c σ₀ δ₀ H₀ (σ.set i none) (δ.set i none) H:=by
 have k:=x.ok
 have back:∀ {α:Type} {l:List (Option α)} {j:Nat} {v:α},(l.set i none)[j]? = some (some v)→l[j]? = some (some v)∧i≠j:=fun {α l j v} e=>by
  by_cases hj:i=j
  ·subst hj
   rw [List.getElem?_set] at e
   simp at e
  ·rw [List.getElem?_set_ne hj] at e
   exact ⟨e,hj⟩
 have own:∀ a,Own (σ.set i none) (δ.set i none) a→Own σ δ a:=fun a ⟨j,d,e1,e2⟩=>⟨j,d,(back e1).1,(back e2).1⟩
 have av:∀ a,Av c (σ.set i none) (δ.set i none) a→Av c σ δ a:=fun a z=>z.elim .inl fun z=>.inr (own a z)
 refine ⟨⟨k.keep,k.bd,k.ith,by simp [k.len],fun j d e=>?_,fun j d e=>?_,fun j1 j2 a d d' e1 e2 e3 e4=>k.inj j1 j2 a d d' (back e1).1 (back e2).1 (back e3).1 (back e4).1,fun p hm=>by rw [hp] at hm; simp at hm⟩,x.keep,fun a z=>x.own a (own a z),x.there⟩
 ·obtain ⟨e',n⟩:=back e
  obtain ⟨v,e1,r⟩:=k.slot j d e'
  exact ⟨v,by rw [List.getElem?_set_ne n]; exact e1,r.anti fun a z=>.inl (av a z)⟩
 ·obtain ⟨e',n⟩:=back e
  obtain ⟨a,e1,r,q⟩:=k.own j d e'
  exact ⟨a,by rw [List.getElem?_set_ne n]; exact e1,r.anti fun a z=>.inl (av a z),q⟩
end
open PySem PySem.Spec PyProof.Rows L2
section
variable {c:Fc} {σ σ':St} {δ δ':Dl} {H H':Hp} {B':Addr→Prop} {g:Xc→Dl→Prop}
theorem Ok.inTry (k:Ok c σ δ H) (h:noOwn δ=true):Ok ⟨H,c.B,[],g⟩ σ δ H :=
 ⟨fun _ _ e _=>e,k.bd,fun a ⟨i,z⟩=>(by simp at z),k.len,k.slot,fun i d e=>((by have:=List.all_eq_true.mp h _ (List.mem_of_getElem? e); cases this)),k.inj,fun p z=>(by simp at z)⟩
theorem Ok.outTry (k:Ok c σ δ H) (hp:c.pin=[]) (k':Ok ⟨H,B',[],g⟩ σ' δ' H'):Ok { c with B:=B' } σ' δ' H':=by
 have nI:∀ a,¬ c.I a:=fun a ⟨i,z⟩=>by rw [hp] at z; simp at z
 have nI':∀ a,¬ (⟨H,B',[],g⟩:Fc).I a:=fun a ⟨i,z⟩=>by simp at z
 refine ⟨fun a o e n=>k'.keep a o (k.keep a o e n) (nI' a),k'.bd,fun a z=>absurd z (nI a),k'.len,k'.slot,fun i d e=>?_,k'.inj,fun p z=>by rw [show ({ c with B:=B' }:Fc).pin=c.pin from rfl,hp] at z; simp at z⟩
 obtain ⟨a,e1,r,q,nb⟩:=k'.own i d e
 refine ⟨a,e1,r,.inr ?_,nb⟩
 rcases q with q | q
 ·exact absurd q (nI' a)
 ·exact k.fresh₀ q
theorem Aft.outTry (k:Ok c σ δ H) (hp:c.pin=[]) (x:Aft ⟨H,c.B,[],g⟩ σ δ H σ' δ' H'):Aft c σ δ H σ' δ' H':=⟨k.outTry hp x.ok,x.keep,x.own,x.there⟩
theorem RepS.outTry {v:V} {r:S} (k:Ok c σ δ H) (hp:c.pin=[]) (h:RepS ⟨H,c.B,[],g⟩ σ' δ' H H' v r):RepS c σ' δ' c.H₀ H' v r:=by
 cases r with
 | pure d=>exact h
 | own d =>
  obtain ⟨a,e,o,n,f,k',q⟩:=h
  exact ⟨a,e,o,n,k.fresh₀ f,k.outTry hp k',k.fresh₀ f⟩
theorem RepS.unset {Hs:Hp} {v:V} {r:S} (hp:c.pin=[]) (i:Nat) (h:RepS c σ δ Hs H v r):RepS c (σ.set i none) (δ.set i none) Hs H v r:=by
 have own:∀ a,Own (σ.set i none) (δ.set i none) a→Own σ δ a:=fun a ⟨j,d,e1,e2⟩=>by
  have back:∀ {α:Type} {l:List (Option α)} {v:α},(l.set i none)[j]? = some (some v)→l[j]? = some (some v):=fun {α l v} e=>by
   by_cases hj:i=j
   ·subst hj; rw [List.getElem?_set] at e; simp at e
   ·rw [List.getElem?_set_ne hj] at e; exact e
  exact ⟨j,d,back e1,back e2⟩
 cases r with
 | pure d=>exact Rep.anti h fun a z=>.inl (z.elim .inl fun z=>.inr (own a z))
 | own d =>
  obtain ⟨a,e,o,n,f,k,q⟩:=h
  exact ⟨a,e,o.anti fun b z=>.inl (z.elim .inl fun z=>.inr (own b z)),n,f,(Aft.unset (Aft.refl k) hp i).ok,q⟩
end
theorem ss_try {X:Cx} {c:Fc} {body:List Stmt} {x n:Str} {b₀:Stmt} {suite:List Stmt} {np hpos pos:Pos} {B:Addr} {i:Nat} {ce:Tx→Nat} {ys:List Tx} {fb fh:DS} (hnp:Np c []) (hst:X.stack=X.env :: X.outer) (hf:X.env.frame=some X.env.locals)
  (hN:X.N.Nodup) (hi:X.N[i]? = some n) (hl:X.env.scope.names.lookup n=some .local) (hg:Gl X x) (hm:X.mg x=some (.ref B)) (qB:ExcC X.K B)
  (hys:∀ y ∈ ys,X.mg (toS y)=some (.ref (ce y))∧PySem.W.mroIn X.K (ce y) (.ref B)=some true)
  (hb:∀ (c':Fc) (pn:List (Addr×Obj)) (xe:Value→Shared→Prop),Np c' []→XOk (X.wt pn xe) (wD X.mg c')→SSs (X.wt pn xe) c' body fb) (hh:∀ a,SSs (X.hand a) c (b₀ :: suite) fh) (hdb:(x == ("__debug__" : Str))=false:=by decide) :
  SS X c (.Try body [.ExceptHandler (some (.Name x np)) (some n) (b₀ :: suite) hpos] [] [] pos) (dTry ce ys i fb fh):=by
 have hp:=np_nil hnp
 refine PS.weak (ps_try_as (i:=i) (B:=B) (th:=fun _ _=>tDS c fh)
  (tb:=fun W D σ H=>tDS ⟨H,c.B,[],fun z δ'=>∀ σ' H',Ok ⟨H,c.B,[],fun _ _=>False⟩ σ' δ' H'→∀ C,X.mg (toS z.cls)=some (.ref C)→z.flds=[]→W C σ' H'⟩ fb D σ H) hst hf hN hi hl hg hm qB hdb
  (fun W pn xe acc pins s σ H D I hw=>hb _ pn xe (fun p z=>(by simp at z)) (fun ps σ' H' s' a C J co ⟨y,δ',hy,k',w'⟩=>acc ps σ' H' s' a C J co (w' σ' H' ⟨k'.keep,k'.bd,k'.ith,k'.len,k'.slot,k'.own,k'.inj,k'.pinned⟩ C hy rfl)) pins s σ H D I hw)
  (fun _ a=>hh a)) fun D σ H ⟨δ,k,q⟩=>?_
 unfold dTry at q
 split at q
 ·rename_i hno
  refine ⟨δ,k.inTry hno,?_⟩
  unfold sPost at q ⊢
  cases e:fb δ with
  | stuck=>rw [e] at q; exact q.elim
  | ok fl δ' =>
   rw [e] at q
   intro σ' H' a
   have f0:=q σ' H' (Aft.outTry k hp a)
   cases fl with
   | next=>exact f0
   | brk=>exact f0
   | cont=>exact f0
   | ret r=>exact fun v rv=>f0 v (RepS.outTry k hp rv)
  | exc z δ' =>
   rw [e] at q
   simp only at q
   split at q
   ·rename_i hc
    simp only [Bool.and_eq_true,decide_eq_true_eq] at hc
    obtain ⟨⟨hy,hfl⟩,hlt⟩:=hc
    intro σ' H' k' C hC _
    obtain ⟨y1,y2⟩:=hys z.cls (by simpa using hy)
    rw [y1] at hC
    cases hC
    refine ⟨y2,fun a ha=>?_⟩
    have A1:Aft c σ δ H σ' δ' H':=Aft.outTry k hp (Ok.since (c:=⟨H,c.B,[],fun _ _=>False⟩) rfl (k.inTry hno) (fun a ⟨j,z⟩=>by simp at z) k')
    have A2:=A1.trans (Aft.alloc A1.ok ha (.ext (excAt (ce z.cls) a)))
    have A3:=Ok.set (i:=i) (v:=.ref a) (r:=.pure (.exc (ce z.cls))) A2 (.exc (A1.ok.nav ha) upd_same) (fun p zz=>by rw [hp] at zz; simp at zz)
    refine ⟨δ'.set i (some (.pure (.exc (ce z.cls)))),A3.ok,?_⟩
    unfold sPost
    generalize fh (δ'.set i (some (.pure (.exc (ce z.cls)))))=r at q
    cases r with
    | stuck=>exact q.elim
    | exc z' δ4=>exact q
    | ok fl δ4 =>
     intro σ4 H4 A4
     have f0:=q (σ4.set i none) H4 (Aft.unset (A3.trans A4) hp i)
     cases fl with
     | next=>exact f0
     | brk=>exact f0
     | cont=>exact f0
     | ret r=>exact fun v rv=>f0 v (RepS.unset hp i rv)
   ·exact q.elim
 ·exact q.elim
end DV
set_option Elab.async false
set_option linter.all false
set_option maxRecDepth 100000
namespace L2
open PySem PySem.Spec PyProof.Rows PySem.W Builtin Builtin.ObjectAttr Builtin.Getset_descriptor
section
variable {prog:Program} {w:World} {A:Around} {E:Value→Shared→Prop} {K:PySem.W.Frag} {C e:Addr} {oe:Obj} {h:Heap} {g:Array GenState} {d:Drawn} {t:Nat} {os:OsState}
structure ExcK (K:PySem.W.Frag) (C:Addr):Prop where
 ga:findIn K (.ref C) "__getattribute__" = some (some (.builtin "BaseException.__getattribute__"))
 gt:findIn K (.ref C) "__getattr__" = some none
 cl:findIn K (.ref C) "__class__" = some (some (.builtin "object.__class__"))
 sp:specialIn K (.builtin "object.__class__") "__get__" = some (some (.builtin "getset_descriptor.__get__"))
 tk:takesIn K (.builtin "object.__class__")=some true
 mo:mroIn K C (.type "object")=some true
 mb:mroIn K C (.type "BaseException")=some true
theorem exc_get {R:Result→Shared→Prop} {tp:Value} (X:K.In h) (k:ExcK K C) (he:h.get? e=some oe) (hc:oe.cls = .ref C) (q:R (.ok (.ret (.ref C))) ⟨h,g,d,t,os⟩) :
  codeAny (model prog w) A (.call (.builtin "getset_descriptor.__get__") ⟨[.builtin "object.__class__",.ref e,tp],[]⟩) R ⟨h,g,d,t,os⟩:=by
 have l1:Looks (model prog w) h (typeOf (.ref e)) (.ref C):=hc ▸ (Looks.ld he).andThen .now
 have l2:=looks_mroIn (M:=model prog w) X k.mo
 refine codeAny_call_builtin
  KF.slot_gs.plain KF.entry_gs
  (KF.slot_gs.check _ _ _ _ _ _ _ _
   KF.type_class (KF.args_gs _ _ _) ?_)
 unfold Builtin.«getset_descriptor.__get__» descrGet; rw [dga_obj]
 refine wpAny_bind (wpAny_pure ?_)
 unfold descrGetter descrCheckInstance descrNameAndClass isInstance; simp only [KF.owner_class]
 repeat lk
 refine ⟨Code.quiet_builtin _ (by decide +kernel),
  codeAny_builtin KF.entry_class ?_⟩
 unfold Builtin.«object.__class__» shownTypeOf; repeat lk
 exact q
theorem exc_entry {tk:Tok} {Q:Fin→Shared→Prop} (X:K.In h) (k:ExcK K C) (he:h.get? e=some oe) (hc:oe.cls = .ref C) (q:Q (.done (.ret (.ref C))) ⟨h,g,d,t,os⟩) :
  wpAny (model prog w) A (Builtin.«object.__getattribute__» ⟨[.ref e,.str "__class__" tk],[]⟩) Q E ⟨h,g,d,t,os⟩:=by
 have l0:Looks (model prog w) h (typeOf (.ref e)) (.ref C):=hc ▸ (Looks.ld he).andThen .now
 have l1:=looks_findIn (M:=model prog w) X k.cl
 have l2:=KF.type_class
 have l3:=F.slot_gs_get.lookup
 have l4:=F.slot_gs_set.lookup
 repeat (any_goals (first | assumption | with_reducible refine Looks.at l0 ?_ | with_reducible refine Looks.at l1 ?_ | (with_reducible refine wpAny_loadPart_at he ?_; rw [hc]) | wp_step))
 refine exc_get X k he hc ?_
 repeat (any_goals (first | assumption | wp_step))
theorem exc_check {Q:Unit→Shared→Prop} {nv:Value} (X:K.In h) (k:ExcK K C) (he:h.get? e=some oe) (hc:oe.cls = .ref C) (q:Q () ⟨h,g,d,t,os⟩) :
  wpAny (model prog w) A (checkBuiltinCall "BaseException.__getattribute__" ⟨[.ref e,nv],[]⟩) Q E ⟨h,g,d,t,os⟩:=by
 have l0:Looks (model prog w) h (typeOf (.ref e)) (.ref C):=hc ▸ (Looks.ld he).andThen .now
 have l1:=looks_mroIn (M:=model prog w) X k.mb
 have b1:builtinKind "BaseException.__getattribute__" = some .slot:=by decide +kernel
 have b2:splitId "BaseException.__getattribute__" = some ("BaseException","__getattribute__"):=by decide +kernel
 have b3:=F.args_bexc_ga (.ref e) nv
 simp only [checkBuiltinCall,b1,b2]
 refine wpAny_bind ?_
 unfold isInstance
 repeat (first | with_reducible refine Looks.at l0 ?_ | with_reducible refine Looks.at l1 ?_ | (with_reducible refine wpAny_loadPart_at he ?_; rw [hc]) | wp_step)
 exact q
theorem exc_class {Q:Option Value→Shared→Prop} (X:K.In h) (k:ExcK K C) (he:h.get? e=some oe) (hc:oe.cls = .ref C) (q:Q (some (.ref C)) ⟨h,g,d,t + 1,os⟩):wpAny (model prog w) A (getAttr? (.ref e) "__class__") Q E ⟨h,g,d,t,os⟩:=by
 have L0:Looks (model prog w) h (typeOf (.ref e)) (.ref C):=hc ▸ (Looks.ld he).andThen .now
 have L1:=looks_findIn (M:=model prog w) X k.ga
 have L2:=looks_findIn (M:=model prog w) X k.gt
 have L3:=looks_mroIn (M:=model prog w) X k.mb
 have hx0:(false && onTheHeap (Value.builtin "BaseException.__getattribute__"))=false:=rfl
 have hx2:(Value.builtin "BaseException.__getattribute__" == Value.builtin "object.__getattribute__")=false:=by decide +kernel
 have f3:=F.attrBase_ValueError.ga.bind (.ref e)
 unfold getAttr? getAttrBy? getAttrBy
 refine wpAny_bind (wpAny_mkText (wpAny_bind (wpAny_attempt (wpAny_holding (wpAny_bind (L0.at (wpAny_bind (L1.at ?_))))))))
 dsimp only
 rw [hx2,Bool.and_false]
 simp only [Bool.false_eq_true,if_false]
 unfold getAttrByItsOwn hookBefore
 repeat (any_goals (first | assumption | with_reducible refine Looks.at L2 ?_ | wp_step))
 refine codeAny_call_builtin F.attrBase_ValueError.ga.plain F.entry_bexc_ga (exc_check X k he hc (exc_entry X k he hc ?_))
 repeat (any_goals (first | assumption | wp_step))
theorem kitx_exc (k:ExcK K C) (hk:(clsIn K C).isSome=true):KitX K (.ref e) (.ref C) (DV.excAt C e) where
 ty:=fun M h X ⟨o,h1,h2,_⟩=>h2 ▸ (Looks.ld h1).andThen .now
 it:=fun M h X _=>by
  obtain ⟨cd,hcd⟩:=Option.isSome_iff_exists.mp hk
  unfold clsIn at hcd
  split at hcd
  next c' d' cd' sl' ho=>exact fun A' Q' E' s' kk q=>by unfold isType loadHead; exact wpAny_bind (wpAny_loadPart (kk _ _ (X _ _ ho)) (wpAny_pure q))
  next=>cases hcd
 ne:=fun h tp dd its n sl X htp=>by
  obtain ⟨cd,hcd⟩:=Option.isSome_iff_exists.mp hk
  refine Bool.eq_false_iff.mpr fun q=>?_
  obtain rfl:C=tp:=Value.ref.inj (beq_iff_eq.mp q)
  unfold clsIn at hcd
  split at hcd
  next c' d' cd' sl' ho=>have z:=(X _ _ ho).symm.trans htp; cases z
  next=>cases hcd
 ca:=fun {prog w A E Q s} X ⟨o,h1,h2,_⟩ q=>by
  obtain ⟨hh,gg,dd,tt,oo⟩:=s
  exact exc_class X k h1 h2 q
end
open PySem PySem.Spec PyProof.Rows
section
variable {X:Cx} {y:Str} {D:Addr} {pos:Pos}
theorem pe_cls (hg:Gl X y) (hm:X.mg y=some (.ref D)) (hd:(y == ("__debug__" : Str))=false:=by decide):PE X (.Name y pos) (fun σ H Q=>Q (.ref D) H):=fun pins s σ H Q I h=>ld_glob I hg hm ⟨.ref D,H,I,rfl,h⟩ hd
structure IsT (K:PySem.W.Frag) (ce:DV.Tx→Nat) (ys:List DV.Tx) (cv:Value) (tab:DV.Tx→Bool):Prop where
 k:∀ z ∈ ys,ExcK K (ce z)
 c:∀ z ∈ ys,(PySem.W.clsIn K (ce z)).isSome=true
 one:∀ z ∈ ys,PySem.W.kitOne K (.ref (ce z)) cv=some (tab z)
theorem call_isC {cv:Value} {cV:V} {ce:DV.Tx→Nat} {ys:List DV.Tx} {tab:DV.Tx→Bool} (hcv:∀ u,RelV cV u→u=cv) (T:IsT X.K ce ys cv tab) :
  CallR X (.builtin "isinstance") (fun xs H Q=>∃ (a:Addr) (z:DV.Tx),xs=[.ref a,cV]∧H a=some (.ext (DV.excAt (ce z) a))∧z ∈ ys∧Q (.bl (tab z)) H):=by
 intro pins s σ H xs us Q I r h
 obtain ⟨a,z,rfl,ha,hz,q⟩:=h
 obtain ⟨u,w',rfl,r1,r2⟩:=vals2 r
 cases r1
 have e:=hcv _ r2
 subst e
 obtain ⟨p,_,_⟩:=I.hok a _ ha
 exact PySem.W.kia_one (kitx_exc (T.k z hz) (T.c z hz)) I.kIn p (T.one z hz) (fun z=>nomatch z) fun tk=>⟨.bl (tab z),H,I.tok tk,rfl,q⟩
end
structure RoomH (k:Nat) (A:Around):Prop where
 dp:A.depth + 3 * k + 5 < recursionLimit
 un:A.units + 16 * k + 200 < cLine
theorem RoomH.deeper {k:Nat} {A:Around} (r:RoomH (k + 1) A) (env:Env):RoomH k (A.deeper env) :=
 ⟨by have:=r.dp; show A.depth + 1 + 3 * k + 5 < _; omega,by have:=r.un; show A.units + 3 + 16 * k + 200 < _; omega⟩
theorem Room.h {k:Nat} {A:Around} (r:Room k A):RoomH k A:=⟨r.dp,r.un⟩
theorem RoomH.mono {j k:Nat} {A:Around} (r:RoomH k A) (h:j≤k):RoomH j A:=⟨by have:=r.dp; omega,by have:=r.un; omega⟩
theorem RoomH.mark {k:Nat} {A:Around} (r:RoomH k A) (v:Option Value):RoomH k (A.mark v):=⟨r.dp,r.un⟩
def Cx.cold (X:Cx):Cx:={ X with calm:=false,xe:=fun _ _=>False }
structure FnOkH (P:Program) (w:World) (K:PySem.W.Frag) (mg:Str→Option Value) (base:Heap) (k:Nat) (f:Addr) (fd:FuncData) (ps:List Str) (sp:Sp):Prop where
 len:∀ vs H Q E,sp vs H Q E→vs.length=ps.length
 run:∀ (A:Around) (outer:List Env) (s:Shared) (H:Hp) (args:Args) (us:List Value) (vs:List V) (Q:VK),RoomH k A→Env0 P w K mg base A outer s H→BindsTo s fd args (ps.zip us)→Vals vs us→sp vs H Q E0 →
  codeAny (model P w) A (.call (.ref f) args) (CR CX0 outer P w H s Q E0) s
section
variable {P:Program} {w:World} {K:PySem.W.Frag} {mg:Str→Option Value} {base:Heap} {k:Nat} {f:Addr}
theorem fn_ofH {x qual:Str} {st:Stmt} {fd:FuncData} {N ps:List Str} {sp:Sp} (F:Fun K x qual st f fd) (S:FnScope N ps (defScope st)) (len:∀ vs H Q E,sp vs H Q E→vs.length=ps.length)
  (hbody:∀ (cdv:Value) (A:Around) (outer:List Env) (s:Shared) (H:Hp) (vs:List V) (Q:VK),RoomH k (A.deeper (envOfC qual (defScope st) s.heap.objs.size f cdv))→sp vs H Q E0 →
   ∃ t,PSs (cxOf CX0 P w K mg base N qual (defScope st) f cdv A outer s H E0).cold (defBody st) t∧t { nx:=fun _ H'=>Q .non H',rt:=Q } (start N vs) H):FnOkH P w K mg base (k + 1) f fd ps sp:=by
 obtain ⟨oc,od,kV,doc,pm,an,cdv,ct,osl,rfl,lk,hcd⟩:=F.ex
 refine ⟨len,fun A outer s H args us vs Q hr e0 hb r hsp=>?_⟩
 have hl:=len _ _ _ _ hsp
 have KX:K.In s.heap:=e0.mod.kin.keeps fun b o e=>(e0.bs b o e).1
 have lim:s.heap.NoLimit:=e0.mod.nolimit.keeps fun b o e=>(e0.bs b o e).1
 have hkind:∀ y ∈ ps.zip us,(defScope st).names.lookup y.1=some .local∨((defScope st).names.lookup y.1=some .cell∧((cellsFrom (s.heap.objs.size + 1) (defScope st).names []).lookup y.1).isSome=true):=fun ⟨n,v⟩ hy=>by
  rcases S.par n (List.of_mem_zip hy).1 with q | q
  ·exact .inl q
  ·exact .inr ⟨q,PySem.W.cellsFrom_some _ _ _ (.inl q)⟩
 have hdep:A.depth < recursionLimit:=by have:=hr.dp; omega
 refine codeAny_call_function hdep (KX _ _ lk) rfl S.co S.gen rfl (PySem.W.codeRec_of KX hcd) (hb _ _ _ _ ?_)
 refine wpAny_newFunctionEnv_cells S.kind hkind fun env he s1 x=>?_
 subst he
 refine ⟨lim.keeps x.toInCall.keep,codeAny_func ?_⟩
 obtain ⟨t,ht,hq⟩:=hbody cdv A outer s H vs Q (hr.deeper _) hsp
 have e1:Env0 P w K mg base { A with handled:=none } outer s H:=⟨e0.frames,e0.mod,e0.bs,e0.bsz,e0.funs,e0.frf,e0.hok,e0.bare⟩
 have J:=inv_start (CX:=CX0) (E:=E0) (qual:=qual) (f:=f) (cd:=cdv) (A:={ A with handled:=none }) S rfl e1 hl r x
 have I:Inv (cxOf CX0 P w K mg base N qual (defScope st) f cdv A outer s H E0).cold [] (start N vs) H s1:=by
  have o:=J.ok
  exact ⟨⟨o.mod,o.kind,o.glob,o.blt,o.above,o.inj,o.has,o.cab,fun z=>(by cases z),Around.frames_deeper e0.frames,o.stk,o.exf,o.bs,o.bsz,o.noex,o.exfs,o.funs,o.frf⟩,J.os,J.bare,J.base,J.loc,J.cell,J.free,J.freeC,J.pin,J.hok,J.len⟩
 refine wpAny_mono (ht [] s1 (start N vs) H _ I hq) (fun fl s' hs=>?_) fun e s' hs=>hs.elim
 cases fl with
 | ret u =>
  obtain ⟨v,σ',H',J2,rv,q⟩:=hs
  exact ⟨v,H',J2.os,J2.bare,J2.base,J2.hok,rv,q⟩
 | next =>
  obtain ⟨σ',H',J2,q⟩:=hs
  exact ⟨V.non,H',J2.os,J2.bare,J2.base,J2.hok,rfl,q⟩
 | brk =>
  obtain ⟨_,_,_,q⟩:=hs
  exact False.elim q
 | cont =>
  obtain ⟨_,_,_,q⟩:=hs
  exact False.elim q
end
section
variable {X:Cx} {k:Nat} {f:Addr} {fd:FuncData} {ps:List Str} {sp:Sp} {x:Str} {p pos:Pos} {e:Expr} {es:List Expr} {t:TA}
theorem pe_callH (F:FnOkH X.prog X.w X.K X.mg X.base k f fd ps sp) (hr:RoomH k X.A) (hg:Gl X x) (hm:X.mg x=some (.ref f)) (hk:PySem.W.keepIn X.K (.ref f)=true) (hb:Binds X.K fd ps [])
  (ha:PA X (e :: es) t) (hdb:(x == ("__debug__" : Str))=false:=by decide) (he:starEach (e :: es) X.env=(false,eval e X.env) :: starEach es X.env:=by rfl) (hpl:(backTo pos (starEach es X.env)).any (·.1)=false:=by rfl) :
  PE X (.Call (.Name x p) (e :: es) [] pos) (tCall sp [] E0 t):=by
 intro pins s σ H Q I h
 refine wpAny_Call_Name_kw (ld_glob I hg hm ?_ hdb)
 refine PySem.W.callWith_K (h₀:=X.base) I.ok.mod.kin hk (thn (ha pos pins s σ H _ I h) fun us s1 ⟨vs,H1,I1,r,q⟩=>⟨I1.kIn,?_⟩) he hpl
 have q:sp vs H1 Q E0:=by have q':sp (vs ++ []) H1 Q E0:=q; rwa [List.append_nil] at q'
 have hl:(us ++ []).length=ps.length:=by rw [List.append_nil,← r.length]; exact F.len _ _ _ _ q
 refine wpAny_call (codeAny_mono (F.run X.A X.stack s1 H1 ⟨us,[]⟩ us vs Q hr I1.env0 (by have:=hb s1 us I1.kIn hl; rwa [List.append_nil] at this) r q) fun r s' hq=>?_)
 cases r with
 | error e=>exact False.elim hq
 | ok fl =>
  cases fl with
  | ret u=>exact I1.after hq
  | next=>exact False.elim hq
  | brk=>exact False.elim hq
  | cont=>exact False.elim hq
end
end L2
set_option Elab.async false
set_option linter.all false
set_option maxRecDepth 100000
namespace DV
open PySem PySem.Spec PyProof.Rows L2
def eIsC (ce:Tx→Nat) (ys:List Tx) (tab:Tx→Bool) (fb:BE):DE:=fun δ=>(fb δ).bind fun d δ'=>match d with
 | .exc n=>match ys.find? fun z=>ce z == n with
  | some z=>.ok (.pure (.bl (tab z))) δ'
  | none=>.stuck
 | _=>.stuck
section
variable {X:Cx} {c:Fc} {e:Expr} {fb:BE} {pp py pos:Pos} {y:Str} {ce:Tx→Nat} {ys:List Tx} {tab:Tx→Bool}
theorem isC_weak {σ:St} {H:Hp} {Q:VK} {cV:V} (h:tD c (eIsC ce ys tab fb) σ H Q):tB c fb σ H fun v H1=>∃ (a:Addr) (z:Tx),[v,cV]=[.ref a,cV]∧H1 a=some (.ext (excAt (ce z) a))∧z ∈ ys∧Q (.bl (tab z)) H1:=by
 obtain ⟨δ,k,q⟩:=h
 unfold eIsC at q
 rw [post_bind] at q
 refine ⟨δ,k,post_mono q fun d δ1 q1 v H1 a1 r1=>?_⟩
 cases d <;> first | exact q1.elim | skip
 rename_i n
 simp only at q1
 split at q1
 ·rename_i z hz
  have h1:=List.find?_some hz
  have h2:=List.mem_of_find?_eq_some hz
  have e:ce z=n:=by simpa using h1
  subst e
  rcases r1 with r1 | ⟨a,_,o⟩
  ·cases r1 with
   | exc _ ha=>exact ⟨_,z,rfl,ha,h2,q1 _ H1 a1 (.bl _)⟩
  ·exact o.elim
 ·exact q1.elim
theorem se_isC {D:Addr} (T:IsT X.K ce ys (.ref D) tab) (hg:Gl X "isinstance") (hm:X.mg "isinstance" = none) (hgy:Gl X y) (hmy:X.mg y=some (.ref D)) (he:SB X c e fb) (hdy:(y == ("__debug__" : Str))=false:=by decide)
  (hs:starEach [e,.Name y py] X.env=(false,eval e X.env) :: starEach [.Name y py] X.env:=by rfl) (hpl:(backTo pos (starEach [.Name y py] X.env)).any (·.1)=false:=by rfl) :
  SE X c (.Call (.Name "isinstance" pp) [e,.Name y py] [] pos) (eIsC ce ys tab fb) :=
 PE.weak (pe_callB (call_isC (cV:=.ref D) (fun u r=>by cases r; rfl) T) hg hm PyProof.Rows.boot_isinstance (pa_cons he (pa_cons (pe_cls hgy hmy hdy) pa_nil) hs) (by decide) (by decide) hs hpl) fun σ H Q h=>isC_weak h
theorem se_isB {T':String} (T:IsT X.K ce ys (.type T') tab) (hg:Gl X "isinstance") (hm:X.mg "isinstance" = none) (hgy:Gl X y) (hmy:X.mg y=none) (hvy:bootBuiltins y=some (.type T')) (he:SB X c e fb)
  (hny:y≠"__name__":=by decide) (hdy:(y == ("__debug__" : Str))=false:=by decide)
  (hs:starEach [e,.Name y py] X.env=(false,eval e X.env) :: starEach [.Name y py] X.env:=by rfl) (hpl:(backTo pos (starEach [.Name y py] X.env)).any (·.1)=false:=by rfl) :
  SE X c (.Call (.Name "isinstance" pp) [e,.Name y py] [] pos) (eIsC ce ys tab fb) :=
 PE.weak (pe_callB (call_isC (cV:=.ty T') (fun u r=>by cases r; rfl) T) hg hm PyProof.Rows.boot_isinstance (pa_cons he (pa_cons (pe_bltn (v:=.ty T') hgy hmy hvy rfl hny hdy) pa_nil) hs) (by decide) (by decide) hs hpl) fun σ H Q h=>isC_weak h
end
def KFnH (P:Program) (w:World) (K:PySem.W.Frag) (mg:Str→Option Value) (base:Heap) (k:Nat) (x:Str) (n:Nat) (G:DF):Prop :=
 ∃ (f:Addr) (fd:FuncData) (ps:List Str),mg x=some (.ref f)∧PySem.W.keepIn K (.ref f)=true∧Binds K fd ps []∧FnOkH P w K mg base k f fd ps (spD n G)
theorem hqH_of {k:Nat} {A:Around} (r:RoomH k A):A.units + 64 < cLine:=by have:=r.un; omega
section
variable {P:Program} {w:World} {K:PySem.W.Frag} {mg:Str→Option Value} {base:Heap}
theorem fn_defH {x qual:Str} {st:Stmt} {f:Addr} {fd:FuncData} {N ps:List Str} {k:Nat} {np:List Nat} {fb:DS} {G:DF} (F:Fun K x qual st f fd) (hm:mg x=some (.ref f)) (hb:Binds K fd ps []) (S:FnScope N ps (defScope st))
  (hbody:∀ (c:Fc) (cdv:Value) (A:Around) (outer:List Env) (s:Shared) (H:Hp) (E:XK),RoomH k (A.deeper (envOfC qual (defScope st) s.heap.objs.size f cdv))→Np c np→SSs (cxOf CX0 P w K mg base N qual (defScope st) f cdv A outer s H E).cold c (defBody st) fb)
  (hG:∀ ss y,G ss=some y→ioOk np 0 ss=true∧runD fb N.length ss=some y):KFnH P w K mg base (k + 1) x ps.length G:=by
 refine ⟨f,fd,ps,hm,F.kp,hb,fn_ofH F S (fun vs H Q E h=>?_) fun cdv A outer s H vs Q hr h=>?_⟩
 ·obtain ⟨ss,B,hl,_⟩:=h
  exact hl
 ·obtain ⟨ss,B,hl,ok,r,outs,hg,q⟩:=h
  obtain ⟨hio,hrun⟩:=hG ss _ hg
  have hvs:ss.length=vs.length:=by have:=ok.len; simpa using this
  have np':Np ⟨H,B,pinsOf 0 ss vs,fun _ _=>False⟩ np:=fun p hp=>by
   obtain ⟨j,d,e,h1,_⟩:=mem_pinsOf (i:=p.1) (a:=p.2) hp
   rw [e]
   exact ioOk_at hio h1
  refine ⟨tDS ⟨H,B,pinsOf 0 ss vs,fun _ _=>False⟩ fb,hbody ⟨H,B,pinsOf 0 ss vs,fun _ _=>False⟩ cdv A outer s H E0 hr np',?_⟩
  have hst:start N vs=some' vs ++ List.replicate (N.length - ss.length) none:=by rw [hvs]; rfl
  refine ⟨startD N.length ss,by rw [hst]; exact ok.ext _,?_⟩
  unfold runD at hrun
  unfold sPost
  cases e:fb (startD N.length ss) with
  | exc x δx=>rw [e] at hrun; cases hrun
  | stuck=>rw [e] at hrun; cases hrun
  | ok fl δ' =>
   rw [e] at hrun
   show ∀ σ' H',Aft _ (start N vs) (startD N.length ss) H σ' δ' H'→fin _ _ σ' δ' H' fl
   intro σ' H' a
   rw [hst] at a
   simp only at hrun
   cases fl with
   | brk=>cases hrun
   | cont=>cases hrun
   | next =>
    simp only [resOf,Option.bind_some] at hrun
    cases eo:outsOf 0 ss δ' with
    | none=>rw [eo] at hrun; cases hrun
    | some os =>
     rw [eo] at hrun
     cases hrun
     obtain ⟨l1,l2⟩:=leave rfl ok a eo
     exact q .non H' l1 .non
   | ret r' =>
    simp only [resOf,Option.bind_some] at hrun
    cases eo:outsOf 0 ss δ' with
    | none=>rw [eo] at hrun; cases hrun
    | some os =>
     rw [eo] at hrun
     cases hrun
     obtain ⟨l1,l2⟩:=leave rfl ok a eo
     exact fun v rv=>q v H' l1 (l2 v _ rv)
end
section
variable {X:Cx} {c:Fc} {e:Expr} {es:List Expr} {as:List Ak} {k n:Nat} {x:Str} {G:DF} {pp pos:Pos}
theorem se_callH (F:KFnH X.prog X.w X.K X.mg X.base k x n G) (hK:Keeps G) (hr:RoomH k X.A) (hg:Gl X x) (ha:SX X c (e :: es) as) (hl:as.length=n) (hdb:(x == ("__debug__" : Str))=false:=by decide)
  (he:starEach (e :: es) X.env=(false,eval e X.env) :: starEach es X.env:=by rfl) (hpl:(backTo pos (starEach es X.env)).any (·.1)=false:=by rfl):SE X c (.Call (.Name x pp) (e :: es) [] pos) (eCall G as):=by
 obtain ⟨f,fd,ps,hm,hk,hb,ok⟩:=F
 exact PE.weak (pe_callH ok hr hg hm hk hb ha hdb he hpl) fun σ H Q h=>call_weak (ps:=ps) hK hl h
end
end DV
set_option Elab.async false
set_option linter.all false
set_option maxRecDepth 100000
namespace L2
open PySem PySem.Spec PyProof.Rows PySem.SeqAt
theorem vals_bls:∀ {bs:List Bool} {us:List Value},Vals (bs.map V.bl) us→us=bs.map Value.bool
 | [],us,r=>by cases r; rfl
 | b :: bs,us,r=>by
  cases r with
  | cons r1 r2 =>
   cases r1
   rw [vals_bls r2]
   rfl
def isTrueV:Value→Bool
 | .bool b=>b
 | _=>false
theorem countP_true:∀ bs:List Bool,(bs.map Value.bool).countP isTrueV=bs.count true
 | []=>rfl
 | b :: bs=>by
  rw [List.map_cons,List.countP_cons,countP_true bs,List.count_cons]
  cases b <;> rfl
def rCount (K:PySem.W.Frag):V→List V→Hp→VK→Prop:=fun x xs H Q=>∃ (a:Addr) (bs:List Bool),x = .ref a∧xs=[.bl true]∧SqL K H a (bs.map V.bl)∧Q (.int (bs.count true:Nat)) H
def rIndex (K:PySem.W.Frag):V→List V→Hp→VK→Prop:=fun x xs H Q=>∃ (a:Addr) (bs:List Bool),x = .ref a∧xs=[.bl true]∧SqL K H a (bs.map V.bl)∧true ∈ bs∧bs.length≤1000∧Q (.int (bs.idxOf true:Nat)) H
section
variable {X:Cx}
theorem mt_count:MtR X "list.count" (rCount X.K):=by
 intro pins s σ H x xs v us Q I rx rs h
 obtain ⟨a,bs,rfl,rfl,hq,q⟩:=h
 obtain ⟨u,rfl,ru⟩:=vals1 rs
 cases ru
 cases rx
 obtain ⟨its,r',p,_⟩:=I.list hq
 obtain rfl:=vals_bls r'
 obtain ⟨⟨cls,dd,data,sl⟩,ho,hc,n,hd⟩:=p.isList
 simp only at hc hd
 subst hc; subst hd
 refine call_meets PySem.F.slot_list_count ⟨_,ho,rfl⟩ PySem.F.entry_list_count (PySem.F.args_list_count_2 _ _) (list_countAt a _ n dd sl (.bool true) isTrueV) ⟨ho,fun y hy=>?_,?_⟩
 ·have hy':y ∈ bs.map Value.bool:=by simpa using hy
  obtain ⟨b,_,rfl⟩:=List.mem_map.mp hy'
  have:=EqAt.bool_bool (A:=X.A.in1) (s:=s) b true
  cases b <;> exact this
 ·rw [show (bs.map Value.bool).toArray.toList=bs.map Value.bool from rfl,countP_true]
  exact ⟨.int (bs.count true:Nat),H,I.tok _,⟨_,rfl⟩,q⟩
theorem mt_index:MtR X "list.index" (rIndex X.K):=by
 intro pins s σ H x xs v us Q I rx rs h
 obtain ⟨a,bs,rfl,rfl,hq,hm,hl,q⟩:=h
 obtain ⟨u,rfl,ru⟩:=vals1 rs
 cases ru
 cases rx
 obtain ⟨its,r',p,_⟩:=I.list hq
 obtain rfl:=vals_bls r'
 obtain ⟨⟨cls,dd,data,sl⟩,ho,hc,n,hd⟩:=p.isList
 simp only at hc hd
 subst hc; subst hd
 have hj:bs.idxOf true < bs.length:=List.idxOf_lt_length_iff.mpr hm
 refine call_meets PySem.F.slot_list_index ⟨_,ho,rfl⟩ PySem.F.entry_list_index (PySem.F.args_list_index_2 _ _) (list_indexAt a _ n dd sl (.bool true) isTrueV (bs.idxOf true) (by simpa using hj) (by omega) ?_ ?_) ⟨ho,fun y hy=>?_,⟨.int (bs.idxOf true:Nat),H,I.tok _,⟨_,rfl⟩,q⟩⟩
 ·have:=List.getElem_idxOf hj
  simp [isTrueV,this]
 ·intro m hm' hlt
  have hm2:m < bs.length:=by simpa using hm'
  have:bs[m]≠true:=fun z=>by
   have z2:=List.not_of_lt_findIdx (p:=(· == true)) (xs:=bs) (i:=m) hlt
   rw [z] at z2
   cases z2
  simp [isTrueV,this]
 ·have hy':y ∈ bs.map Value.bool:=by simpa using hy
  obtain ⟨b,_,rfl⟩:=List.mem_map.mp hy'
  have:=EqAt.bool_bool (A:=X.A.in1) (s:=s) b true
  cases b <;> exact this
end
end L2
namespace DV
open PySem PySem.Spec PyProof.Rows L2
def pCount:D→Option S
 | .lst ds=>(bools ds).map fun bs=>.pure (.int (bs.count true:Nat))
 | _=>none
def pIndexT:D→Option S
 | .lst ds=>match bools ds with
  | some bs=>if true ∈ bs∧bs.length≤1000 then some (.pure (.int (bs.idxOf true:Nat))) else none
  | none=>none
 | _=>none
section
variable {X:Cx} {c:Fc} {e:Expr} {fb:BE}
theorem o1_count {K:PySem.W.Frag}:Op1 (fun x H Q=>tyV K "list" x H∧rCount K x [.bl true] H Q) pCount:=by
 intro c σ δ H x d s Q k rx hp q
 cases d with
 | lst ds =>
  simp only [pCount] at hp
  cases e:bools ds with
  | none=>rw [e] at hp; cases hp
  | some bs =>
   rw [e] at hp
   cases hp
   obtain ⟨a,vs,ea,ha,ra⟩:=rx.lst
   obtain rfl:=reps_bools e ra
   subst ea
   exact ⟨.inl ⟨rfl,_,.inl ha⟩,a,bs,rfl,rfl,.inl ha,q _ H (.refl k) (.int _)⟩
 | _=>simp [pCount] at hp
theorem o1_index {K:PySem.W.Frag}:Op1 (fun x H Q=>tyV K "list" x H∧rIndex K x [.bl true] H Q) pIndexT:=by
 intro c σ δ H x d s Q k rx hp q
 cases d with
 | lst ds =>
  simp only [pIndexT] at hp
  cases e:bools ds with
  | none=>rw [e] at hp; cases hp
  | some bs =>
   rw [e] at hp
   simp only at hp
   split at hp
   ·rename_i hz
    cases hp
    obtain ⟨a,vs,ea,ha,ra⟩:=rx.lst
    obtain rfl:=reps_bools e ra
    subst ea
    exact ⟨.inl ⟨rfl,_,.inl ha⟩,a,bs,rfl,rfl,.inl ha,hz.1,hz.2,q _ H (.refl k) (.int _)⟩
   ·cases hp
 | _=>simp [pIndexT] at hp
theorem se_count {j} {p0 apos cpos:Pos} (he:SB X c e fb)
  (hbase:attributeBase e "count" X.env (eval e X.env)=eval e X.env:=by rfl)
  (hfew:((backTo cpos (starEach [.Constant (.bool true) j p0] X.env)).all (fun x=>!x.1) && (backToKw cpos (keywordEach [] X.env)).all (fun x=>x.1.isSome)
   && decide ([Expr.Constant (.bool true) j p0].length + ([]:List Keyword).length + (if ([]:List Keyword).isEmpty then 0 else 1) < 30))=true:=by rfl)
  (hline:(apos.endLine == cpos.line)=true:=by rfl) (hs:starEach [.Constant (.bool true) j p0] X.env=(false,eval (.Constant (.bool true) j p0) X.env) :: starEach [] X.env:=by rfl) :
  SE X c (.Call (.Attribute e "count" apos) [.Constant (.bool true) j p0] [] cpos) (eC1 pCount fb):=by
 refine PE.weak (pe_bm PySem.F.plainAttrs_list PySem.F.slot_list_count PySem.F.type_list_count mt_count he (pa_cons pe_bl pa_nil hs) hbase hfew hline hs rfl) fun σ H Q h=>?_
 obtain ⟨δ,k,q⟩:=un_weak (o1_count (K:=X.K)) h
 exact ⟨δ,k,post_mono q fun y δ1 q1 v H1 a1 r1=>q1 v H1 a1 r1⟩
theorem se_index {j} {p0 apos cpos:Pos} (he:SB X c e fb)
  (hbase:attributeBase e "index" X.env (eval e X.env)=eval e X.env:=by rfl)
  (hfew:((backTo cpos (starEach [.Constant (.bool true) j p0] X.env)).all (fun x=>!x.1) && (backToKw cpos (keywordEach [] X.env)).all (fun x=>x.1.isSome)
   && decide ([Expr.Constant (.bool true) j p0].length + ([]:List Keyword).length + (if ([]:List Keyword).isEmpty then 0 else 1) < 30))=true:=by rfl)
  (hline:(apos.endLine == cpos.line)=true:=by rfl) (hs:starEach [.Constant (.bool true) j p0] X.env=(false,eval (.Constant (.bool true) j p0) X.env) :: starEach [] X.env:=by rfl) :
  SE X c (.Call (.Attribute e "index" apos) [.Constant (.bool true) j p0] [] cpos) (eC1 pIndexT fb):=by
 refine PE.weak (pe_bm PySem.F.plainAttrs_list PySem.F.slot_list_index PySem.F.type_list_index mt_index he (pa_cons pe_bl pa_nil hs) hbase hfew hline hs rfl) fun σ H Q h=>?_
 obtain ⟨δ,k,q⟩:=un_weak (o1_index (K:=X.K)) h
 exact ⟨δ,k,post_mono q fun y δ1 q1 v H1 a1 r1=>q1 v H1 a1 r1⟩
end
open PySem PySem.Spec PyProof.Rows L2
theorem SS.nox {X:Cx} {c:Fc} {st:Stmt} {f:DS} (h:SS X.nox c st f):SS X c st f:=fun pins s σ H D I hw =>
 wpAny_mono (h pins s σ H D (I.wish _) hw) (fun _ _ q=>q.unwish) fun _ _ z=>False.elim z
open PySem
theorem boot_ValueError:bootBuiltins "ValueError" = some (.type "ValueError"):=by decide +kernel
def ceOf:List (Tx×Nat)→Tx→Nat
 | [],_=>0
 | p :: r,x=>bif p.1 == x then p.2 else ceOf r x
end DV
set_option Elab.async false
set_option linter.all false
set_option maxRecDepth 100000
namespace L2
open PySem PySem.Spec PyProof.Rows
section
variable {X:Cx}
def rRepL (K:PySem.W.Frag):R2:=fun x y H Q=>∃ l k xs,x = .ref l∧y = .int k∧SqL K H l xs∧xs≠[]∧2≤k∧k≤1000∧xs.length≤1000∧∀ p,H p=none→Q (.ref p) (upd H p (.lst (List.replicate k.toNat xs).flatten))
theorem op_repL:OpR X (binaryOp .Mult) (rRepL X.K):=by
 intro pins s σ H x y v u Q I rx ry h
 obtain ⟨l,k,xs,rfl,rfl,hH,hne,h1,h2,hz,q⟩:=h
 cases rx
 obtain ⟨t,rfl⟩:=ry
 obtain ⟨its,r,pl,hl⟩:=I.list hH
 obtain ⟨⟨cls,dd,data,sl⟩,ho,hc,n,hd⟩:=pl.isList
 simp only at hc hd
 subst hc hd
 have hlen:its.toArray.size=xs.length:=by rw [List.size_toArray]; exact r.length.symm
 have hem:its.toArray.isEmpty=false:=by
  cases its with
  | nil=>exact absurd (r.nil_iff.mp rfl) hne
  | cons a b=>rfl
 have hline:sizeLine=16777216:=rfl
 have hp1:xs.length * k.toNat≤1000000:=by
  have:xs.length * k.toNat≤1000 * 1000:=Nat.mul_le_mul hz (by omega)
  omega
 have hfold:List.foldl (fun x1 x2=>x1 ++ x2) #[] (List.replicate k.toNat its.toArray)=(List.replicate k.toNat its).flatten.toArray:=by
  have:=foldl_rep its k.toNat []
  rw [List.nil_append] at this
  exact this
 refine wpAny_binaryOp_repeat_ref (T:="list") (U:="int") (by decide) ⟨_,ho,rfl⟩ (fun s'=>typeIs_int s' k t) noFill_list_mul F.fills_int_mul F.slot_int_rmul repeat_list F.slot_int_index.lookup
  (call_meets F.slot_int_rmul (typeIs_int s k t) F.entry_int_rmul (F.args_int_rmul_2 _ _) (lm_int_rmul_list_any k t l its.toArray n dd sl)
   ⟨ho,rfl,⟨_,ho,rfl⟩,call_meets F.slot_list_mul ⟨_,ho,rfl⟩ F.entry_list_mul (F.args_list_mul_2 _ _) (lm_list_mul_any l its.toArray n dd sl k t ?_ ?_ ?_) ⟨ho,?_⟩⟩)
 ·unfold Builtin.List.listFitsIndex
  simp
  omega
 ·rw [hlen]; omega
 ·rw [hlen]
  unfold Builtin.List.listTooLong
  simp only [hline,decide_eq_true_eq]
  omega
 ·rw [if_neg (by rw [hem]; exact Bool.false_ne_true),hfold]
  have I1:Inv X pins σ (upd H s.heap.objs.size (.lst (List.replicate k.toNat xs).flatten)) { s with heap:=s.heap.push { cls:=.type "list",data:=.seq (List.replicate k.toNat its).flatten.toArray } } :=
   I.laid (t':=s.toks) (fun b o e=>Heap.get?_push_of_some _ e) (Nat.le_refl _) (show ObjOk X.prog X.w _ _ _ (.lst (List.replicate k.toNat xs).flatten) from ⟨by rw [len_rep,Nat.mul_comm]; omega,(List.replicate k.toNat its).flatten,0,r.rep k.toNat,Heap.get?_push_size _ rfl⟩)
  exact ⟨.ref _,_,I1,rfl,q _ (I.hok.fresh (Nat.le_refl _))⟩
end
end L2
namespace DV
open PySem PySem.Spec PyProof.Rows L2
def pMulL:D→D→Option S
 | .lst xs,.int k=>if 2≤k∧k≤1000∧0 < xs.length∧xs.length≤1000 then some (.own (.lst (List.replicate k.toNat xs).flatten)) else none
 | _,_=>none
theorem o2_mulL {K:PySem.W.Frag}:Op2 (rRepL K) pMulL:=by
 intro c σ δ H x y d e s Q k rx ry hp q
 cases d <;> cases e <;> first | (simp [pMulL] at hp; done) | skip
 rename_i ds n
 simp only [pMulL] at hp
 split at hp
 ·rename_i h
  cases hp
  obtain ⟨a,vs,ex,ha,r⟩:=rx.lst
  refine ⟨a,n,vs,ex,ry.int,.inl ha,?_,h.1,h.2.1,by rw [r.1]; exact h.2.2.2,fun p hp'=>?_⟩
  ·intro z
   rw [z] at r
   have:=r.1
   simp at this
   omega
  ·exact q _ _ (.alloc k hp' _) (RepS.newL k (Reps.rep r _) hp')
 ·cases hp
open PySem (sizeLine)
open L2
open PySem (sizeLine)
section
variable {α β:Type}
@[simp] theorem ev_bind_ok (a:α) (δ:Dl) (f:α→Dl→Rs β):(Rs.ok a δ).bind f=f a δ:=id rfl
@[simp] theorem ev_bind_stuck (f:α→Dl→Rs β):(Rs.stuck:Rs α).bind f = .stuck:=id rfl
@[simp] theorem ev_d1 (d:D):(S.pure d).d=d:=id rfl
@[simp] theorem ev_d2 (d:D):(S.own d).d=d:=id rfl
end
section
variable (δ:Dl) (i:Nat) (d e:D) (f g:DE) (fb:BE) (t u:DT) (p:D→D→Option S)
@[simp] theorem ev_eD:eD d δ = .ok (.pure d) δ:=id rfl
@[simp] theorem ev_bOf:bOf f δ=(f δ).bind fun r δ'=>.ok r.d δ':=id rfl
@[simp] theorem ev_eOp:eOp p f fb δ=(f δ).bind fun x δ1=>(fb δ1).bind fun y δ2=>p2 p x.d y δ2:=id rfl
@[simp] theorem ev_dAnd:dAnd t u δ=(t δ).bind fun b δ1=>if b then u δ1 else .ok false δ1:=id rfl
@[simp] theorem ev_dOr:dOr t u δ=(t δ).bind fun b δ1=>if b then .ok true δ1 else u δ1:=id rfl
@[simp] theorem ev_dNot:dNot t δ=(t δ).bind fun b δ1=>.ok (!b) δ1:=id rfl
@[simp] theorem ev_eIf:eIf t f g δ=(t δ).bind fun b δ1=>if b then f δ1 else g δ1:=id rfl
@[simp] theorem ev_dNext:dNext δ = .ok .next δ:=id rfl
@[simp] theorem ev_dYes:dYes δ = .ok true δ:=id rfl
@[simp] theorem ev_dDrop:dDrop f δ=(f δ).bind fun _ δ1=>.ok .next δ1:=id rfl
@[simp] theorem ev_dRet:dRet f δ=(f δ).bind fun r δ1=>.ok (.ret r) δ1:=id rfl
@[simp] theorem ev_dIf (a b:DS):dIf t a b δ=(t δ).bind fun x δ1=>if x then a δ1 else b δ1:=id rfl
@[simp] theorem ev_dFor (it:DI) (gg:DG) (b:DS):dFor it gg b δ=(it δ).bind fun ds δ1=>forL gg b ds δ1:=id rfl
@[simp] theorem ev_eTup (a:DA):eTup a δ=(a δ).bind fun ds δ'=>.ok (.pure (.tup ds)) δ':=id rfl
@[simp] theorem ev_eLst (a:DA):eLst a δ=(a δ).bind fun ds δ'=>.ok (.own (.lst ds)) δ':=id rfl
@[simp] theorem ev_eLstC (ds:List D):eLstC ds δ = .ok (.own (.lst ds)) δ:=id rfl
@[simp] theorem ev_aNil:aNil δ = .ok [] δ:=id rfl
@[simp] theorem ev_aCons (a:DA):aCons f a δ=(f δ).bind fun x δ1=>(a δ1).bind fun xs δ2=>.ok (x.d :: xs) δ2:=id rfl
@[simp] theorem ev_eC1 (q:D→Option S):eC1 q fb δ=(fb δ).bind fun x δ1=>p1 q x δ1:=id rfl
@[simp] theorem ev_eMax:eMax f g δ=(f δ).bind fun x δ1=>(g δ1).bind fun y δ2=>p2 pMax x.d y.d δ2:=id rfl
@[simp] theorem ev_eSl (fl fh:DOp):eSl f fl fh δ=(f δ).bind fun x δ1=>(fl δ1).bind fun l δ2=>(fh δ2).bind fun h δ3=>p1 (pSl l h) x.d δ3:=id rfl
@[simp] theorem ev_oNone:oNone δ = .ok none δ:=id rfl
@[simp] theorem ev_eComp (cs:List Nat) (it:DI) (gg:DG) (el:DE):eComp cs it gg t el δ=(it δ).bind fun ds δ1=>if cs.any (isOwn δ1) then .stuck else
 (compL cs gg t el ds (clrD cs δ1) []).bind fun acc δ2=>.ok (.own (.lst acc)) (backD cs δ1 δ2):=id rfl
@[simp] theorem ev_gNm (np:List Nat) (r:S):gNm np i r δ=if np.contains i then none else some (δ.set i (some r)):=id rfl
@[simp] theorem ev_forL_nil (gg:DG) (b:DS):forL gg b [] δ = .ok .next δ:=id rfl
end
section
variable (δ:Dl) (i:Nat) (d e:D) (f g:DE) (fb:BE) (p:D→D→Option S) (s:S)
@[simp] theorem ev_p2 (x y:D):p2 p x y δ=match p x y with | some s=>.ok s δ | none=>.stuck:=id rfl
@[simp] theorem ev_p1 (q:D→Option S) (x:D):p1 q x δ=match q x with | some s=>.ok s δ | none=>.stuck:=id rfl
@[simp] theorem ev_dSeq (a b:DS):dSeq a b δ=(a δ).bind fun fl δ1=>match fl with | .next=>b δ1 | .ret r=>.ok (.ret r) δ1 | .brk=>.ok .brk δ1 | .cont=>.ok .cont δ1:=id rfl
@[simp] theorem ev_bind_if {α β:Type} (c:Prop) [Decidable c] (x y:Rs α) (k:α→Dl→Rs β):(if c then x else y).bind k=if c then x.bind k else y.bind k:=by split <;> rfl
end
theorem line_eq:sizeLine=16777216:=rfl
theorem atI_nat' {α:Type} (xs:List α) (i:Nat):atI xs (i:Int)=xs[i]?:=by
 unfold atI ixN
 by_cases h:i < xs.length
 ·rw [if_pos (by omega),if_pos (by omega)]
  simp
 ·rw [if_pos (by omega),if_neg (by omega)]
  simp [List.getElem?_eq_none (Nat.le_of_not_lt h)]
theorem atI_two {α:Type} (xs:List α):atI xs 2=xs[2]?:=atI_nat' xs 2
theorem atI_zero {α:Type} (xs:List α):atI xs 0=xs[0]?:=atI_nat' xs 0
theorem atI_one {α:Type} (xs:List α):atI xs 1=xs[1]?:=atI_nat' xs 1
theorem compL_inv {cs:List Nat} {g:DG} {t:DT} {el:DE} (I:Dl→Prop) (R:D→D→Prop) :
  ∀ (ds:List D) (δ:Dl) (acc:List D),I δ→acc.length + ds.length≤sizeLine →
   (∀ d ∈ ds,∀ δ,I δ→∃ δ1 δ2 x δ3,g (.pure d) δ=some δ1∧t δ1 = .ok true δ2∧el δ2 = .ok x δ3∧I (clrD cs δ3)∧R d x.d) →
   ∃ xs δ',compL cs g t el ds δ acc = .ok (acc ++ xs) δ'∧I δ'∧xs.length=ds.length∧∀ (i:Nat) d x,ds[i]? = some d→xs[i]? = some x→R d x
 | [],δ,acc,h,_,_=>⟨[],δ,by simp [compL],h,rfl,fun i d x e=>by simp at e⟩
 | d :: r,δ,acc,h,hl,hs=>by
  obtain ⟨δ1,δ2,x,δ3,e1,e2,e3,h3,hr⟩:=hs d List.mem_cons_self δ h
  have hl':acc.length < sizeLine:=by simp at hl; omega
  obtain ⟨xs,δ',e4,h4,hn,hf⟩:=compL_inv (g:=g) (t:=t) (el:=el) I R r (clrD cs δ3) (acc ++ [x.d]) h3 (by simp at hl ⊢; omega) (fun d hd=>hs d (List.mem_cons_of_mem _ hd))
  refine ⟨x.d :: xs,δ',?_,h4,by simp [hn],fun i d' x' f1 f2=>?_⟩
  ·unfold compL
   rw [e1]
   simp only [e2,ev_bind_ok,if_true,e3,if_pos hl',e4]
   simp
  ·cases i with
   | zero=>simp at f1 f2; subst f1 f2; exact hr
   | succ i=>exact hf i d' x' (by simpa using f1) (by simpa using f2)
theorem forL_inv {g:DG} {b:DS} (I:Nat→Dl→Prop) :
  ∀ (ds:List D) (n:Nat) (δ:Dl),I n δ →
   (∀ (i:Nat) d δ,ds[i]? = some d→I (n + i) δ→∃ δ1 δ2,g (.pure d) δ=some δ1∧b δ1 = .ok .next δ2∧I (n + i + 1) δ2) →
   ∃ δ',forL g b ds δ = .ok .next δ'∧I (n + ds.length) δ'
 | [],n,δ,h,_=>⟨δ,rfl,h⟩
 | d :: r,n,δ,h,hs=>by
  obtain ⟨δ1,δ2,e1,e2,h2⟩:=hs 0 d δ rfl h
  obtain ⟨δ',e3,h3⟩:=forL_inv (g:=g) (b:=b) I r (n + 1) δ2 h2 (fun i d' δ' e hi=>by
   have:=hs (i + 1) d' δ' (by simpa using e) (by rw [show n + (i + 1)=n + 1 + i by omega]; exact hi)
   rw [show n + (i + 1) + 1=n + 1 + i + 1 by omega] at this
   exact this)
  refine ⟨δ',?_,by rw [List.length_cons,show n + (r.length + 1)=n + 1 + r.length by omega]; exact h3⟩
  unfold forL
  rw [e1]
  simp only [e2,ev_bind_ok,e3]
open PySem (sizeLine)
open L2
open PySem (sizeLine)
theorem ev_texts (xs:List Tx):texts (xs.map .str)=some xs:=by
 induction xs with
 | nil=>rfl
 | cons x r ih=>simp [texts,ih]
theorem ev_joinT_nil:∀ ts:List Tx,joinT [] ts=ts.flatten
 | []=>rfl
 | [x]=>by simp [joinT]
 | x :: y :: r=>by rw [joinT,ev_joinT_nil (y :: r)]; simp
theorem ev_lensum1 (xs:List Nat):lensum (xs.map fun n=>[n])=xs.length:=by
 unfold lensum
 induction xs with
 | nil=>rfl
 | cons x r ih=>simp at ih ⊢; omega
theorem ev_flat1 (xs:List Nat):(xs.map fun n=>[n]).flatten=xs:=by
 induction xs with
 | nil=>rfl
 | cons x r ih=>simp [ih]
theorem ev_join1 (xs:List Nat) (h:xs.length≤16777216):pJoin [] (.lst (xs.map fun n=>.str [n]))=some (.pure (.str xs)):=by
 have e:(xs.map fun n=>D.str [n])=(xs.map fun n=>[n]).map D.str:=by simp
 unfold pJoin
 simp only [e,ev_texts,ev_lensum1,ev_joinT_nil,ev_flat1]
 rw [if_pos (by simpa using h)]
theorem ev_bools (bs:List Bool):bools (bs.map .bl)=some bs:=by
 induction bs with
 | nil=>rfl
 | cons x r ih=>simp [bools,ih]
theorem ev_ix_str (r:Tx) (c:Nat) (h:c < r.length) (hl:r.length≤64):pIx (.str r) (.int c)=some (.pure (.str [r.getD c 0])):=by
 unfold pIx
 have:sizeLine=16777216:=rfl
 simp only
 rw [if_pos (by omega),atI_nat']
 simp [h]
theorem ev_len_str (r:Tx) (hl:r.length≤64):pLen (.str r)=some (.pure (.int r.length)):=by
 unfold pLen
 have:sizeLine=16777216:=rfl
 simp only
 rw [if_pos (by omega)]
abbrev flD (fl:List Tx):D:=.tup (fl.map .str)
structure Rect (w:Nat) (fl:List Tx):Prop where
 h0:0 < fl.length
 h1:fl.length≤64
 w0:0 < w
 w1:w≤64
 all:∀ r ∈ fl,r.length=w
def turn (w:Nat) (fl:List Tx):List Tx:=(List.range w).map fun c=>fl.map fun r=>r.getD c 0
def back (fl:List Tx):List Tx:=fl.map List.reverse
open PySem (sizeLine)
open L2
open PySem (sizeLine)
def rng (r:S) (δ1:Dl):Rs (List D):=match r with
 | .pure (.int j)=>if smallI j then .ok (rangeD 0 j.toNat) δ1 else .stuck
 | _=>.stuck
@[simp] theorem ev_range1 (f:DE) (δ:Dl):iRange1 f δ=(f δ).bind fun r δ1=>rng r δ1:=id rfl
theorem small_nat (w:Nat) (hw:w≤1000000):smallI (w:Int)=true:=by
 have h1 : -(4611686018427387904:Int)≤(w:Int):=by omega
 have h2:(w:Int) < 4611686018427387904:=by omega
 unfold smallI
 rw [Bool.and_eq_true]
 exact ⟨decide_eq_true h1,decide_eq_true h2⟩
theorem rng_of (j:Int) (hs:smallI j=true) (δ:Dl):rng (.pure (.int j)) δ = .ok (rangeD 0 j.toNat) δ:=by unfold rng; simp only [hs,if_true]
theorem rng_ok (w:Nat) (hw:w≤1000000) (δ:Dl):rng (.pure (.int w)) δ = .ok (rangeD 0 w) δ:=by
 have:=rng_of (w:Int) (small_nat w hw) δ
 rwa [Int.toNat_natCast] at this
open PySem (sizeLine)
theorem ev_range_get {n i:Nat} {d:D} (h:(rangeD 0 n)[i]? = some d):i < n∧d = .int (i:Int):=by
 unfold rangeD at h
 rw [List.getElem?_map] at h
 by_cases hi:i < n
 ·rw [List.getElem?_range hi] at h
  simp at h
  exact ⟨hi,h.symm⟩
 ·rw [List.getElem?_eq_none (by simpa using hi)] at h
  cases h
theorem ev_range_mem {n:Nat} {d:D} (h:d ∈ rangeD 0 n):∃ i:Nat,i < n∧d = .int (i:Int):=by
 obtain ⟨i,hi⟩:=List.getElem?_of_mem h
 exact ⟨i,ev_range_get hi⟩
@[simp] theorem ev_range_len (lo:Int) (n:Nat):(rangeD lo n).length=n:=by simp [rangeD]
open PySem (sizeLine)
open L2
open PySem (sizeLine)
theorem singles {P:Nat→Prop}:∀ {xs:List D},(∀ x ∈ xs,∃ n,P n∧x = .str [n])→∃ row:List Nat,xs=row.map (fun n=>.str [n])∧∀ n ∈ row,P n
 | [],_=>⟨[],rfl,by simp⟩
 | x :: r,h=>by
  obtain ⟨n,hn,rfl⟩:=h x List.mem_cons_self
  obtain ⟨row,rfl,hr⟩:=singles (xs:=r) fun y hy=>h y (List.mem_cons_of_mem _ hy)
  exact ⟨n :: row,rfl,by simpa using ⟨hn,hr⟩⟩
theorem rel_mem {R:D→D→Prop} {ds xs:List D} {Q:D→Prop} (hn:xs.length=ds.length) (hf:∀ (i:Nat) d x,ds[i]? = some d→xs[i]? = some x→R d x) (hq:∀ d x,d ∈ ds→R d x→Q x):∀ x ∈ xs,Q x:=fun x hx=>by
 obtain ⟨i,hi⟩:=List.getElem?_of_mem hx
 have h1:=(List.getElem?_eq_some_iff.mp hi).1
 have h2:ds[i]? = some (ds[i]'(by omega)):=by simp [show i < ds.length by omega]
 exact hq _ x (List.getElem_mem _) (hf i _ x h2 hi)
open PySem (sizeLine)
open L2
open PySem (sizeLine)
abbrev blD (b:Nat×List Tx):D:=.tup [.str [b.1],flD b.2]
abbrev ruD (h w:Nat) (bs:List (Nat×List Tx)):D:=.tup [.int h,.int w,.tup (bs.map blD)]
structure Rul (h w:Nat) (bs:List (Nat×List Tx)):Prop where
 h0:0 < h
 h1:h≤4
 w0:0 < w
 w1:w≤4
 hw:2 < h + w
 n0:0 < bs.length
 n1:bs.length≤26
 up:(bs.map (·.1)).Pairwise (· < ·)
 let':∀ b ∈ bs,97≤b.1∧b.1≤122
 blk:∀ b ∈ bs,b.2.length=h∧∀ r ∈ b.2,r.length=w∧∀ n ∈ r,n ∈ bs.map (·.1)
open PySem (sizeLine)
theorem compL_mapA {A:Type} {cs:List Nat} {g:DG} {t:DT} {el:DE} (f F:A→D) (δ:Dl):∀ (as:List A) (acc:List D),acc.length + as.length≤sizeLine →
  (∀ a ∈ as,∃ δ1 δ2 x δ3,g (.pure (f a)) δ=some δ1∧t δ1 = .ok true δ2∧el δ2 = .ok x δ3∧clrD cs δ3=δ∧x.d=F a)→compL cs g t el (as.map f) δ acc = .ok (acc ++ as.map F) δ
 | [],acc,_,_=>by simp [compL]
 | a :: r,acc,hl,hs=>by
  obtain ⟨δ1,δ2,x,δ3,e1,e2,e3,e4,e5⟩:=hs a List.mem_cons_self
  have hl':acc.length < sizeLine:=by simp at hl; omega
  have ih:=compL_mapA (cs:=cs) (g:=g) (t:=t) (el:=el) f F δ r (acc ++ [x.d]) (by simp at hl ⊢; omega) (fun a ha=>hs a (List.mem_cons_of_mem _ ha))
  rw [List.map_cons]
  unfold compL
  rw [e1]
  rw [e5] at ih
  simp only [e2,ev_bind_ok,if_true,e3,if_pos hl',e4,e5,ih]
  simp
end DV
set_option Elab.async false
set_option linter.all false
set_option maxRecDepth 100000
set_option maxHeartbeats 400000
namespace K13
open PySem PySem.Spec PyProof.Rows L2 DV
def top (i:Nat):Stmt:=PySem.Challenge.pw_tilegrow_k13_lines_by_anybody.main.body.getD i (.Pass ⟨0,0,0,0⟩)
abbrev s__law_cell_at:Stmt:=top 22
abbrev s__law_pen_of:Stmt:=top 24
abbrev s__law_next:Stmt:=top 23
abbrev s__law_draw:Stmt:=top 25
abbrev s__law_rule_by:Stmt:=top 28
abbrev s__law_tiles_of:Stmt:=top 29
abbrev s__law_line_of:Stmt:=top 32
abbrev s_whole_from:Stmt:=top 12
abbrev s_whole_within:Stmt:=top 13
abbrev s_digit_good:Stmt:=top 16
abbrev s_digits_good:Stmt:=top 17
abbrev s_tiles_good:Stmt:=top 19
abbrev s_line_holds:Stmt:=top 20
abbrev s__law_whole:Stmt:=top 26
abbrev s__law_digits_good:Stmt:=top 30
abbrev s__law_due_of:Stmt:=top 31
abbrev s__law_right:Stmt:=top 36
abbrev s__law_odd_digits:Stmt:=top 33
abbrev s__law_odd_of:Stmt:=top 34
abbrev s_place_far:Stmt:=top 18
abbrev s__law_kind_of:Stmt:=top 27
abbrev s__law_refused:Stmt:=top 35
abbrev s_law:Stmt:=top 37
/-- the classes that are raised -/
abbrev ys:List Tx:=[[78,111,80,108,97,99,101]]
section
variable (ce:Tx→Nat)
/-- what the readings ask of the program's top -/
structure Txt (K:PySem.W.Frag) (mg:Str→Option Value):Prop where
 z_ValueError:mg "ValueError" = none
 z_all:mg "all" = none
 z_bool:mg "bool" = none
 z_dict:mg "dict" = none
 z_enumerate:mg "enumerate" = none
 z_int:mg "int" = none
 z_isinstance:mg "isinstance" = none
 z_len:mg "len" = none
 z_list:mg "list" = none
 z_max:mg "max" = none
 z_range:mg "range" = none
 z_str:mg "str" = none
 z_tuple:mg "tuple" = none
 ty_bool:TyK K "bool"
 ty_int:TyK K "int"
 ty_list:TyK K "list"
 ty_str:TyK K "str"
 ty_tuple:TyK K "tuple"
 g_MOST_GROWINGS:∃ t,mg "MOST_GROWINGS" = some (.int 60 t)
 c_FloorError:mg "FloorError" = some (.ref (ce [70,108,111,111,114,69,114,114,111,114]))
 c_NoFloor:mg "NoFloor" = some (.ref (ce [78,111,70,108,111,111,114]))
 c_NoPlace:mg "NoPlace" = some (.ref (ce [78,111,80,108,97,99,101]))
 c_NoNumber:mg "NoNumber" = some (.ref (ce [78,111,78,117,109,98,101,114]))
 c_NoRow:mg "NoRow" = some (.ref (ce [78,111,82,111,119]))
 c_Unlike:mg "Unlike" = some (.ref (ce [85,110,108,105,107,101]))
 c_NoTile:mg "NoTile" = some (.ref (ce [78,111,84,105,108,101]))
 c_NoRule:mg "NoRule" = some (.ref (ce [78,111,82,117,108,101]))
 c_NoText:mg "NoText" = some (.ref (ce [78,111,84,101,120,116]))
 c_TooGreat:mg "TooGreat" = some (.ref (ce [84,111,111,71,114,101,97,116]))
 q_FloorError:ExcC K (ce [70,108,111,111,114,69,114,114,111,114])
 q_NoPlace:ExcC K (ce [78,111,80,108,97,99,101])
 i_NoFloor:IsT K ce ys (.ref (ce [78,111,70,108,111,111,114])) (fun z=>z == [78,111,70,108,111,111,114])
 i_NoPlace:IsT K ce ys (.ref (ce [78,111,80,108,97,99,101])) (fun z=>z == [78,111,80,108,97,99,101])
 i_NoNumber:IsT K ce ys (.ref (ce [78,111,78,117,109,98,101,114])) (fun z=>z == [78,111,78,117,109,98,101,114])
 i_NoRow:IsT K ce ys (.ref (ce [78,111,82,111,119])) (fun z=>z == [78,111,82,111,119])
 i_Unlike:IsT K ce ys (.ref (ce [85,110,108,105,107,101])) (fun z=>z == [85,110,108,105,107,101])
 i_NoTile:IsT K ce ys (.ref (ce [78,111,84,105,108,101])) (fun z=>z == [78,111,84,105,108,101])
 i_NoRule:IsT K ce ys (.ref (ce [78,111,82,117,108,101])) (fun z=>z == [78,111,82,117,108,101])
 i_NoText:IsT K ce ys (.ref (ce [78,111,84,101,120,116])) (fun z=>z == [78,111,84,101,120,116])
 i_TooGreat:IsT K ce ys (.ref (ce [84,111,111,71,114,101,97,116])) (fun z=>z == [84,111,111,71,114,101,97,116])
 i_ValueError:IsT K ce ys (.type "ValueError") (fun _=>true)
 m_FloorError:∀ y ∈ ys,mg (toS y)=some (.ref (ce y))∧PySem.W.mroIn K (ce y) (.ref (ce [70,108,111,111,114,69,114,114,111,114]))=some true
end
/-! ### _law_cell_at -/
def b__law_cell_at:DS:=(dSeq (dIf (dTr (eOpF pLt 1 (bOf (eC1 pLen (bVar 0))))) (dRet (eOpF pIx 0 (bVar 1))) dNext) (dRet (eD (.int 0))))
def G__law_cell_at:DF:=gOf [] 2 b__law_cell_at
theorem keeps__law_cell_at:Keeps G__law_cell_at:=gOf_keeps
theorem sc__law_cell_at:FnScope ["script","k"] ["script","k"] (defScope s__law_cell_at):=⟨rfl,rfl,rfl,by decide +kernel,rfl,by decide +kernel,by decide +kernel⟩
theorem ok__law_cell_at {P:Program} {w:World} {K:PySem.W.Frag} {mg:Str→Option Value} {base:Heap} {f:Addr} {fd:FuncData} {ce:Tx→Nat} (F:Fun K "_law_cell_at" "_law_cell_at" s__law_cell_at f fd) (hm:mg "_law_cell_at" = some (.ref f)) (hb:Binds K fd ["script","k"] []) (T:Txt ce K mg):KFn P w K mg base 1 "_law_cell_at" 2 G__law_cell_at :=
 fn_def (np:=[]) (fb:=b__law_cell_at) F hm hb sc__law_cell_at (fun c cdv A outer s H E hr hnp=>by
  have hq:=hq_of hr
  refine (@ss_cons _ _ _ _ _ _ ?_ ?_)
  ·refine (@ss_if _ _ _ _ _ _ _ _ _ ?_ ?_ ?_)
   ·exact (@st_cmpN _ _ _ _ _ _ _ _ _ _ op_ltD o2_lt (pv 1) (@sb_of _ _ _ _ (@se_len _ _ _ _ _ _ rfl T.z_len (@sb_var _ _ _ _ (pv 0)) (by rfl))) (nomark _))
   ·refine (@ss_one _ _ _ _ ?_)
    refine (@ss_ret _ _ _ _ _ ?_)
    exact (@se_ixN _ _ _ _ _ _ _ _ _ ix_seq o2_ix (pv 0) (@sb_var _ _ _ _ (pv 1)) (fun _ _=>rfl))
   ·exact ss_nil
  refine (@ss_one _ _ _ _ ?_)
  refine (@ss_ret _ _ _ _ _ ?_)
  exact (@se_int _ _ _ _ _)) fun ss y h=>gOf_run h
/-! ### _law_pen_of -/
def b__law_pen_of:DS:=(dSeq (dAsg (eMax (eVar 0) (eOp pSub (eD (.int 0)) (bVar 0))) (gNm [] 1)) (dRet (eLst (aCons (eVar 1) (aCons (eC1 pInt (bOf (eOpF pGe 1 (bOf (eOp pPow (eD (.int 10)) (bOf (eD (.int 18)))))))) (aCons (eOpF pMod 1 (bOf (eD (.int 1000003)))) aNil))))))
def G__law_pen_of:DF:=gOf [] 2 b__law_pen_of
theorem keeps__law_pen_of:Keeps G__law_pen_of:=gOf_keeps
theorem sc__law_pen_of:FnScope ["cell","left"] ["cell"] (defScope s__law_pen_of):=⟨rfl,rfl,rfl,by decide +kernel,rfl,by decide +kernel,by decide +kernel⟩
theorem ok__law_pen_of {P:Program} {w:World} {K:PySem.W.Frag} {mg:Str→Option Value} {base:Heap} {f:Addr} {fd:FuncData} {ce:Tx→Nat} (F:Fun K "_law_pen_of" "_law_pen_of" s__law_pen_of f fd) (hm:mg "_law_pen_of" = some (.ref f)) (hb:Binds K fd ["cell"] []) (T:Txt ce K mg):KFn P w K mg base 1 "_law_pen_of" 1 G__law_pen_of :=
 fn_def (np:=[]) (fb:=b__law_pen_of) F hm hb sc__law_pen_of (fun c cdv A outer s H E hr hnp=>by
  have hq:=hq_of hr
  refine (@ss_cons _ _ _ _ _ _ ?_ ?_)
  ·exact (@ss_set _ _ _ _ _ _ ([]) (1) _ hnp sc__law_pen_of.nd rfl (by first | exact Or.inl rfl | exact Or.inr rfl) (@se_max _ _ _ _ _ _ _ _ rfl rfl T.z_max (@se_var _ _ _ _ (pv 0)) (@se_op _ _ _ _ _ _ _ _ _ _ op_sub o2_sub (@se_int _ _ _ _ _) (@sb_var _ _ _ _ (pv 0))) (by rfl) (by rfl) (by rfl)) rfl (Or.inl rfl))
  refine (@ss_one _ _ _ _ ?_)
  refine (@ss_ret _ _ _ _ _ ?_)
  exact (@se_lst _ _ _ _ _ (@sa_consN _ _ _ _ _ _ (@se_var _ _ _ _ (pv 1)) (@sa_consN _ _ _ _ _ _ (@se_intc _ _ _ _ _ _ rfl T.z_int (@sb_of _ _ _ _ (@se_cmpN _ _ _ _ _ _ _ _ _ _ op_geD o2_cmp (pv 1) (@sb_of _ _ _ _ (@se_op _ _ _ _ _ _ _ _ _ _ op_pow o2_pow (@se_int _ _ _ _ _) (@sb_of _ _ _ _ (@se_int _ _ _ _ _)))) (nomark _))) (by rfl)) (@sa_consN _ _ _ _ _ _ (@se_opN _ _ _ _ _ _ _ _ _ _ op_mod o2_mod (pv 1) (@sb_of _ _ _ _ (@se_int _ _ _ _ _))) (@sa_nil _ _) (by rfl)) (by rfl)) (by rfl)) (by decide))) fun ss y h=>gOf_run h
/-! ### _law_next -/
def b__law_next:DS:=(dSeq (dAsg (eOp pMod (eOpF pAdd 0 (bOf (eD (.int 7919)))) (bOf (eD (.int 2147483647)))) (gNm [] 0)) (dRet (eOp pMod (eOp pAdd (eOp pAdd (eOpF pMulX 0 (bVar 0)) (bOf (eOp pMulX (eD (.int 48271)) (bVar 0)))) (bOf (eD (.int 12345)))) (bOf (eD (.int 2147483629))))))
def G__law_next:DF:=gOf [] 1 b__law_next
theorem keeps__law_next:Keeps G__law_next:=gOf_keeps
theorem sc__law_next:FnScope ["seed"] ["seed"] (defScope s__law_next):=⟨rfl,rfl,rfl,by decide +kernel,rfl,by decide +kernel,by decide +kernel⟩
theorem ok__law_next {P:Program} {w:World} {K:PySem.W.Frag} {mg:Str→Option Value} {base:Heap} {f:Addr} {fd:FuncData} {ce:Tx→Nat} (F:Fun K "_law_next" "_law_next" s__law_next f fd) (hm:mg "_law_next" = some (.ref f)) (hb:Binds K fd ["seed"] []) (T:Txt ce K mg):KFn P w K mg base 1 "_law_next" 1 G__law_next :=
 fn_def (np:=[]) (fb:=b__law_next) F hm hb sc__law_next (fun c cdv A outer s H E hr hnp=>by
  have hq:=hq_of hr
  refine (@ss_cons _ _ _ _ _ _ ?_ ?_)
  ·exact (@ss_set _ _ _ _ _ _ ([]) (0) _ hnp sc__law_next.nd rfl (by first | exact Or.inl rfl | exact Or.inr rfl) (@se_op _ _ _ _ _ _ _ _ _ _ op_mod o2_mod (@se_opN _ _ _ _ _ _ _ _ _ _ op_addD o2_add (pv 0) (@sb_of _ _ _ _ (@se_int _ _ _ _ _))) (@sb_of _ _ _ _ (@se_int _ _ _ _ _))) rfl (Or.inl rfl))
  refine (@ss_one _ _ _ _ ?_)
  refine (@ss_ret _ _ _ _ _ ?_)
  exact (@se_op _ _ _ _ _ _ _ _ _ _ op_mod o2_mod (@se_op _ _ _ _ _ _ _ _ _ _ op_addD o2_add (@se_op _ _ _ _ _ _ _ _ _ _ op_addD o2_add (@se_opN _ _ _ _ _ _ _ _ _ _ op_mulX o2_mulX (pv 0) (@sb_var _ _ _ _ (pv 0))) (@sb_of _ _ _ _ (@se_op _ _ _ _ _ _ _ _ _ _ op_mulX o2_mulX (@se_int _ _ _ _ _) (@sb_var _ _ _ _ (pv 0))))) (@sb_of _ _ _ _ (@se_int _ _ _ _ _))) (@sb_of _ _ _ _ (@se_int _ _ _ _ _)))) fun ss y h=>gOf_run h
/-! ### _law_draw -/
def b__law_draw:DS:=(dSeq (dIf (dTr (eOp pEq (eOpF pIx 0 (bOf (eD (.int 1)))) (bOf (eD (.int 1))))) (dSeq (dAsg (eOp pMod (eOpF pIx 0 (bOf (eD (.int 0)))) (bVar 1)) (gNm [0] 2)) (dSeq (dSetI 0 (eD (.int 0)) (eOp pDiv (eOpF pIx 0 (bOf (eD (.int 0)))) (bVar 1))) (dRet (eVar 2)))) dNext) (dSeq (dSetI 0 (eD (.int 2)) (eCall G__law_next [.val (eOp pAdd (eCall G__law_next [.val (eOpF pIx 0 (bOf (eD (.int 2))))]) (bOf (eD (.int 7))))])) (dRet (eOp pMod (eOp pDiv (eOpF pIx 0 (bOf (eD (.int 2)))) (bOf (eD (.int 64)))) (bVar 1)))))
def G__law_draw:DF:=gOf [0] 3 b__law_draw
theorem keeps__law_draw:Keeps G__law_draw:=gOf_keeps
theorem sc__law_draw:FnScope ["pen","many","found"] ["pen","many"] (defScope s__law_draw):=⟨rfl,rfl,rfl,by decide +kernel,rfl,by decide +kernel,by decide +kernel⟩
theorem ok__law_draw {P:Program} {w:World} {K:PySem.W.Frag} {mg:Str→Option Value} {base:Heap} {f:Addr} {fd:FuncData} {ce:Tx→Nat} (F:Fun K "_law_draw" "_law_draw" s__law_draw f fd) (hm:mg "_law_draw" = some (.ref f)) (hb:Binds K fd ["pen","many"] []) (T:Txt ce K mg) (k__law_next:KFn P w K mg base 1 "_law_next" 1 G__law_next):KFn P w K mg base 2 "_law_draw" 2 G__law_draw :=
 fn_def (np:=[0]) (fb:=b__law_draw) F hm hb sc__law_draw (fun c cdv A outer s H E hr hnp=>by
  have hq:=hq_of hr
  refine (@ss_cons _ _ _ _ _ _ ?_ ?_)
  ·refine (@ss_if _ _ _ _ _ _ _ _ _ ?_ ?_ ?_)
   ·exact (@st_cmp _ _ _ _ _ _ _ _ _ _ (op_eqD hq) o2_eq (@se_ixN _ _ _ _ _ _ _ _ _ ix_seq o2_ix (pv 0) (@sb_of _ _ _ _ (@se_int _ _ _ _ _)) (fun _ _=>rfl)) (@sb_of _ _ _ _ (@se_int _ _ _ _ _)) (nomark _))
   ·refine (@ss_cons _ _ _ _ _ _ ?_ ?_)
    ·exact (@ss_set _ _ _ _ _ _ ([0]) (2) _ hnp sc__law_draw.nd rfl (by first | exact Or.inl rfl | exact Or.inr rfl) (@se_op _ _ _ _ _ _ _ _ _ _ op_mod o2_mod (@se_ixN _ _ _ _ _ _ _ _ _ ix_seq o2_ix (pv 0) (@sb_of _ _ _ _ (@se_int _ _ _ _ _)) (fun _ _=>rfl)) (@sb_var _ _ _ _ (pv 1))) rfl (Or.inl rfl))
    refine (@ss_cons _ _ _ _ _ _ ?_ ?_)
    ·exact (@ss_setI _ _ _ _ _ _ _ _ _ _ (pv 0) (@se_int _ _ _ _ _) (@se_op _ _ _ _ _ _ _ _ _ _ op_fdiv o2_div (@se_ixN _ _ _ _ _ _ _ _ _ ix_seq o2_ix (pv 0) (@sb_of _ _ _ _ (@se_int _ _ _ _ _)) (fun _ _=>rfl)) (@sb_var _ _ _ _ (pv 1))) (by intro _; rfl) (by rfl) (by rfl) (by rfl))
    refine (@ss_one _ _ _ _ ?_)
    refine (@ss_ret _ _ _ _ _ ?_)
    exact (@se_var _ _ _ _ (pv 2))
   ·exact ss_nil
  refine (@ss_cons _ _ _ _ _ _ ?_ ?_)
  ·exact (@ss_setI _ _ _ _ _ _ _ _ _ _ (pv 0) (@se_int _ _ _ _ _) (@se_call _ _ _ _ _ (1) _ _ _ _ _ k__law_next keeps__law_next (hr.mono (by decide)) rfl (@sx_valN _ _ _ _ _ _ (@se_op _ _ _ _ _ _ _ _ _ _ op_addD o2_add (@se_call _ _ _ _ _ (1) _ _ _ _ _ k__law_next keeps__law_next (hr.mono (by decide)) rfl (@sx_valN _ _ _ _ _ _ (@se_ixN _ _ _ _ _ _ _ _ _ ix_seq o2_ix (pv 0) (@sb_of _ _ _ _ (@se_int _ _ _ _ _)) (fun _ _=>rfl)) (@sx_nil _ _) (by rfl)) rfl (by decide) (by rfl) (by rfl)) (@sb_of _ _ _ _ (@se_int _ _ _ _ _))) (@sx_nil _ _) (by rfl)) rfl (by decide) (by rfl) (by rfl)) (by intro _; rfl) (by rfl) (by rfl) (by rfl))
  refine (@ss_one _ _ _ _ ?_)
  refine (@ss_ret _ _ _ _ _ ?_)
  exact (@se_op _ _ _ _ _ _ _ _ _ _ op_mod o2_mod (@se_op _ _ _ _ _ _ _ _ _ _ op_fdiv o2_div (@se_ixN _ _ _ _ _ _ _ _ _ ix_seq o2_ix (pv 0) (@sb_of _ _ _ _ (@se_int _ _ _ _ _)) (fun _ _=>rfl)) (@sb_of _ _ _ _ (@se_int _ _ _ _ _))) (@sb_var _ _ _ _ (pv 1)))) fun ss y h=>gOf_run h
/-! ### _law_rule_by -/
def b__law_rule_by:DS:=(dSeq (dAsg (eD (.str [97,98,99,100,101,102,103,104,105,106,107,108,109,110,111,112,113,114,115,116,117,118,119,120,121,122])) (gNm [0] 2)) (dSeq (dAsg (eOp pIx (eLstC [.tup [.int 2,.int 2],.tup [.int 1,.int 2],.tup [.int 2,.int 1],.tup [.int 2,.int 2],.tup [.int 1,.int 3],.tup [.int 2,.int 3],.tup [.int 3,.int 1],.tup [.int 3,.int 2],.tup [.int 4,.int 4],.tup [.int 2,.int 2]]) (bOf (eCall G__law_draw [.io 0,.val (eD (.int 10))]))) (gTp 2 (gsCons (gNm [0] 3) (gsCons (gNm [0] 4) gsNil)))) (dSeq (dAsg (eCall G__law_draw [.io 0,.val (eOp pSub (eD (.int 27)) (bVar 1))]) (gNm [0] 5)) (dSeq (dAsg (eSlN 2 (oSome (eVar 5)) (oSome (eOp pAdd (eOpF pAdd 5 (bOf (eD (.int 1)))) (bOf (eCall G__law_draw [.io 0,.val (eVar 1)]))))) (gNm [0] 6)) (dSeq (dAsg (eOp pAdd (eD (.int 1)) (bOf (eCall G__law_draw [.io 0,.val (eD (.int 3))]))) (gNm [0] 7)) (dSeq (dAsg (eLst aNil) (gNm [0] 8)) (dSeq (dFor (iSq (eVar 6)) (gNm [0] 9) (dSeq (dAsg (eLst aNil) (gNm [0] 10)) (dSeq (dFor (iRange1 (eVar 3)) (gNm [0] 11) (dSeq (dAsg (eComp [14] (iRange1 (eVar 4)) (gNm [0] 14) dYes (eOpF pIx 6 (bOf (eOp pDiv (eCall G__law_draw [.io 0,.val (eC1 pLen (bVar 6))]) (bVar 7))))) (gNm [0] 12)) (dAppend 10 (eC1 (pJoin []) (bVar 12))))) (dAppend 8 (eTup (aCons (eVar 9) (aCons (eC1 pTuple (bVar 10)) aNil))))))) (dSeq (dIf (dTr (eOp pEq (eCall G__law_draw [.io 0,.val (eD (.int 2))]) (bOf (eD (.int 0))))) (dSeq (dAsg (eOpF pIx 8 (bOf (eD (.int 0)))) (gTp 2 (gsCons (gNm [0] 9) (gsCons (gNm [0] 13) gsNil)))) (dSetI 8 (eD (.int 0)) (eTup (aCons (eVar 9) (aCons (eOp pAdd (eTup (aCons (eOpF pAdd 9 (bOf (eSl (eOpF pIx 13 (bOf (eD (.int 0)))) (oSome (eD (.int 1))) oNone))) aNil)) (bOf (eSlN 13 (oSome (eD (.int 1))) oNone))) aNil))))) dNext) (dRet (eTup (aCons (eVar 3) (aCons (eVar 4) (aCons (eC1 pTuple (bVar 8)) aNil)))))))))))))
def G__law_rule_by:DF:=gOf [0] 15 b__law_rule_by
theorem keeps__law_rule_by:Keeps G__law_rule_by:=gOf_keeps
theorem sc__law_rule_by:FnScope ["pen","most","letters","high","wide","start","tiles","alike","blocks","tile","rows","row","signs","block","column"] ["pen","most"] (defScope s__law_rule_by):=⟨rfl,rfl,rfl,by decide +kernel,rfl,by decide +kernel,by decide +kernel⟩
theorem ok__law_rule_by {P:Program} {w:World} {K:PySem.W.Frag} {mg:Str→Option Value} {base:Heap} {f:Addr} {fd:FuncData} {ce:Tx→Nat} (F:Fun K "_law_rule_by" "_law_rule_by" s__law_rule_by f fd) (hm:mg "_law_rule_by" = some (.ref f)) (hb:Binds K fd ["pen","most"] []) (T:Txt ce K mg) (k__law_draw:KFn P w K mg base 2 "_law_draw" 2 G__law_draw):KFn P w K mg base 3 "_law_rule_by" 2 G__law_rule_by :=
 fn_def (np:=[0]) (fb:=b__law_rule_by) F hm hb sc__law_rule_by (fun c cdv A outer s H E hr hnp=>by
  have hq:=hq_of hr
  refine (@ss_cons _ _ _ _ _ _ ?_ ?_)
  ·exact (@ss_set _ _ _ _ _ _ ([0]) (2) _ hnp sc__law_rule_by.nd rfl (by first | exact Or.inl rfl | exact Or.inr rfl) (@se_str _ _ _ _ _ [97,98,99,100,101,102,103,104,105,106,107,108,109,110,111,112,113,114,115,116,117,118,119,120,121,122] (by decide +kernel)) rfl (Or.inl rfl))
  refine (@ss_cons _ _ _ _ _ _ ?_ ?_)
  ·refine (@ss_asg _ _ _ _ _ _ _ ?_ ?_ (by rfl) (by rfl) (by rfl))
   ·exact (@se_ix _ _ _ _ _ _ _ _ _ ix_seq o2_ix (@se_constL _ _ _ _ _ (by rfl) (by decide)) (@sb_of _ _ _ _ (@se_call _ _ _ _ _ (2) _ _ _ _ _ k__law_draw keeps__law_draw (hr.mono (by decide)) rfl (@sx_ioN _ _ _ _ _ _ (pv 0) (@sx_valN _ _ _ _ _ _ (@se_int _ _ _ _ _) (@sx_nil _ _) (by rfl)) (by rfl)) rfl (by decide) (by rfl) (by rfl))) (fun _ _=>rfl))
   ·exact (@sg_tup _ _ _ _ _ _ _ rfl (@sgs_cons _ _ _ _ _ _ (@sg_name _ _ _ ([0]) (3) _ hnp sc__law_rule_by.nd rfl (by first | exact Or.inl rfl | exact Or.inr rfl) (Or.inl rfl)) (@sgs_cons _ _ _ _ _ _ (@sg_name _ _ _ ([0]) (4) _ hnp sc__law_rule_by.nd rfl (by first | exact Or.inl rfl | exact Or.inr rfl) (Or.inl rfl)) (@sgs_nil _ _) (by rfl)) (by rfl)) (by rfl) (by rfl))
  refine (@ss_cons _ _ _ _ _ _ ?_ ?_)
  ·exact (@ss_set _ _ _ _ _ _ ([0]) (5) _ hnp sc__law_rule_by.nd rfl (by first | exact Or.inl rfl | exact Or.inr rfl) (@se_call _ _ _ _ _ (2) _ _ _ _ _ k__law_draw keeps__law_draw (hr.mono (by decide)) rfl (@sx_ioN _ _ _ _ _ _ (pv 0) (@sx_valN _ _ _ _ _ _ (@se_op _ _ _ _ _ _ _ _ _ _ op_sub o2_sub (@se_int _ _ _ _ _) (@sb_var _ _ _ _ (pv 1))) (@sx_nil _ _) (by rfl)) (by rfl)) rfl (by decide) (by rfl) (by rfl)) rfl (Or.inl rfl))
  refine (@ss_cons _ _ _ _ _ _ ?_ ?_)
  ·exact (@ss_set _ _ _ _ _ _ ([0]) (6) _ hnp sc__law_rule_by.nd rfl (by first | exact Or.inl rfl | exact Or.inr rfl) (@se_slN _ _ _ _ _ _ _ _ _ _ (pv 2) (@so_some _ _ _ _ (@se_var _ _ _ _ (pv 5))) (@so_some _ _ _ _ (@se_op _ _ _ _ _ _ _ _ _ _ op_addD o2_add (@se_opN _ _ _ _ _ _ _ _ _ _ op_addD o2_add (pv 5) (@sb_of _ _ _ _ (@se_int _ _ _ _ _))) (@sb_of _ _ _ _ (@se_call _ _ _ _ _ (2) _ _ _ _ _ k__law_draw keeps__law_draw (hr.mono (by decide)) rfl (@sx_ioN _ _ _ _ _ _ (pv 0) (@sx_valN _ _ _ _ _ _ (@se_var _ _ _ _ (pv 1)) (@sx_nil _ _) (by rfl)) (by rfl)) rfl (by decide) (by rfl) (by rfl)))))) rfl (Or.inl rfl))
  refine (@ss_cons _ _ _ _ _ _ ?_ ?_)
  ·exact (@ss_set _ _ _ _ _ _ ([0]) (7) _ hnp sc__law_rule_by.nd rfl (by first | exact Or.inl rfl | exact Or.inr rfl) (@se_op _ _ _ _ _ _ _ _ _ _ op_addD o2_add (@se_int _ _ _ _ _) (@sb_of _ _ _ _ (@se_call _ _ _ _ _ (2) _ _ _ _ _ k__law_draw keeps__law_draw (hr.mono (by decide)) rfl (@sx_ioN _ _ _ _ _ _ (pv 0) (@sx_valN _ _ _ _ _ _ (@se_int _ _ _ _ _) (@sx_nil _ _) (by rfl)) (by rfl)) rfl (by decide) (by rfl) (by rfl)))) rfl (Or.inl rfl))
  refine (@ss_cons _ _ _ _ _ _ ?_ ?_)
  ·exact (@ss_set _ _ _ _ _ _ ([0]) (8) _ hnp sc__law_rule_by.nd rfl (by first | exact Or.inl rfl | exact Or.inr rfl) (@se_lst _ _ _ _ _ (@sa_nil _ _) (by decide)) rfl (Or.inl rfl))
  refine (@ss_cons _ _ _ _ _ _ ?_ ?_)
  ·refine (@ss_for _ _ _ _ _ _ _ _ _ PassesOwn.never rfl ?_ ?_ ?_ (by intro _; rfl))
   ·exact (@si_sq _ _ _ _ _ (@se_var _ _ _ _ (pv 6)))
   ·exact (@sg_name _ _ _ ([0]) (9) _ hnp sc__law_rule_by.nd rfl (by first | exact Or.inl rfl | exact Or.inr rfl) (Or.inl rfl))
   ·refine (@ss_cons _ _ _ _ _ _ ?_ ?_)
    ·exact (@ss_set _ _ _ _ _ _ ([0]) (10) _ hnp sc__law_rule_by.nd rfl (by first | exact Or.inl rfl | exact Or.inr rfl) (@se_lst _ _ _ _ _ (@sa_nil _ _) (by decide)) rfl (Or.inl rfl))
    refine (@ss_cons _ _ _ _ _ _ ?_ ?_)
    ·refine (@ss_for _ _ _ _ _ _ _ _ _ PassesOwn.never rfl ?_ ?_ ?_ (by intro _; rfl))
     ·exact (@si_range1 _ _ _ _ _ _ _ rfl T.z_range (@se_var _ _ _ _ (pv 3)) (by rfl))
     ·exact (@sg_name _ _ _ ([0]) (11) _ hnp sc__law_rule_by.nd rfl (by first | exact Or.inl rfl | exact Or.inr rfl) (Or.inl rfl))
     ·refine (@ss_cons _ _ _ _ _ _ ?_ ?_)
      ·exact (@ss_setComp _ _ ([14]) _ _ _ _ _ _ _ _ _ _ ([0]) (12) _ _ _ hnp rfl (@cscope_mk _ _ _ rfl rfl) sc__law_rule_by.nd rfl rfl (@si_range1 _ _ _ _ _ _ _ rfl T.z_range (@se_var _ _ _ _ (pv 4)) (by rfl)) (fun l s0 H0 ex=>(@sgc_name _ _ _ _ ([0]) (14) _ hnp sc__law_rule_by.nd rfl (by first | exact Or.inl rfl | exact Or.inr rfl) (by first | exact Or.inl rfl | exact Or.inr rfl) (by decide))) (fun l s0 H0 ex=>(@sts_nil _ _)) (fun l s0 H0 ex=>(@se_ixN _ _ _ _ _ _ _ _ _ ix_seq o2_ix (pv 6) (@sb_of _ _ _ _ (@se_op _ _ _ _ _ _ _ _ _ _ op_fdiv o2_div (@se_call _ _ _ _ _ (2) _ _ _ _ _ k__law_draw keeps__law_draw (hr.mono (by decide)) rfl (@sx_ioN _ _ _ _ _ _ (pv 0) (@sx_valN _ _ _ _ _ _ (@se_len _ _ _ _ _ _ rfl T.z_len (@sb_var _ _ _ _ (pv 6)) (by rfl)) (@sx_nil _ _) (by rfl)) (by rfl)) rfl (by decide) (by rfl) (by rfl)) (@sb_var _ _ _ _ (pv 7)))) (fun _ _=>rfl))) (np_out hnp rfl) (by rfl) (by intro _; rfl))
      refine (@ss_one _ _ _ _ ?_)
      exact (@ss_appendN _ _ _ _ _ _ _ _ _ (pv 10) (@se_join _ _ _ _ _ _ _ _ _ [] (@sb_var _ _ _ _ (pv 12)) (by decide +kernel) (by rfl) (by rfl) (by rfl) (by rfl)) (by rfl) (by rfl) (by rfl) (by rfl) (by rfl))
    refine (@ss_one _ _ _ _ ?_)
    exact (@ss_appendN _ _ _ _ _ _ _ _ _ (pv 8) (@se_tup _ _ _ _ _ _ (@sa_consN _ _ _ _ _ _ (@se_var _ _ _ _ (pv 9)) (@sa_consN _ _ _ _ _ _ (@se_tuple _ _ _ _ _ _ rfl T.z_tuple (@sb_var _ _ _ _ (pv 10)) (by rfl)) (@sa_nil _ _) (by rfl)) (by rfl)) (by decide)) (by rfl) (by rfl) (by rfl) (by rfl) (by rfl))
  refine (@ss_cons _ _ _ _ _ _ ?_ ?_)
  ·refine (@ss_if _ _ _ _ _ _ _ _ _ ?_ ?_ ?_)
   ·exact (@st_cmp _ _ _ _ _ _ _ _ _ _ (op_eqD hq) o2_eq (@se_call _ _ _ _ _ (2) _ _ _ _ _ k__law_draw keeps__law_draw (hr.mono (by decide)) rfl (@sx_ioN _ _ _ _ _ _ (pv 0) (@sx_valN _ _ _ _ _ _ (@se_int _ _ _ _ _) (@sx_nil _ _) (by rfl)) (by rfl)) rfl (by decide) (by rfl) (by rfl)) (@sb_of _ _ _ _ (@se_int _ _ _ _ _)) (nomark _))
   ·refine (@ss_cons _ _ _ _ _ _ ?_ ?_)
    ·refine (@ss_asg _ _ _ _ _ _ _ ?_ ?_ (by rfl) (by rfl) (by rfl))
     ·exact (@se_ixN _ _ _ _ _ _ _ _ _ ix_seq o2_ix (pv 8) (@sb_of _ _ _ _ (@se_int _ _ _ _ _)) (fun _ _=>rfl))
     ·exact (@sg_tup _ _ _ _ _ _ _ rfl (@sgs_cons _ _ _ _ _ _ (@sg_name _ _ _ ([0]) (9) _ hnp sc__law_rule_by.nd rfl (by first | exact Or.inl rfl | exact Or.inr rfl) (Or.inl rfl)) (@sgs_cons _ _ _ _ _ _ (@sg_name _ _ _ ([0]) (13) _ hnp sc__law_rule_by.nd rfl (by first | exact Or.inl rfl | exact Or.inr rfl) (Or.inl rfl)) (@sgs_nil _ _) (by rfl)) (by rfl)) (by rfl) (by rfl))
    refine (@ss_one _ _ _ _ ?_)
    exact (@ss_setI _ _ _ _ _ _ _ _ _ _ (pv 8) (@se_int _ _ _ _ _) (@se_tup _ _ _ _ _ _ (@sa_consN _ _ _ _ _ _ (@se_var _ _ _ _ (pv 9)) (@sa_consN _ _ _ _ _ _ (@se_op _ _ _ _ _ _ _ _ _ _ op_addD o2_add (@se_tup _ _ _ _ _ _ (@sa_consN _ _ _ _ _ _ (@se_opN _ _ _ _ _ _ _ _ _ _ op_addD o2_add (pv 9) (@sb_of _ _ _ _ (@se_sl _ _ _ _ _ _ _ _ _ _ (@se_ixN _ _ _ _ _ _ _ _ _ ix_seq o2_ix (pv 13) (@sb_of _ _ _ _ (@se_int _ _ _ _ _)) (fun _ _=>rfl)) (@so_some _ _ _ _ (@se_int _ _ _ _ _)) (@so_none _ _)))) (@sa_nil _ _) (by rfl)) (by decide)) (@sb_of _ _ _ _ (@se_slN _ _ _ _ _ _ _ _ _ _ (pv 13) (@so_some _ _ _ _ (@se_int _ _ _ _ _)) (@so_none _ _)))) (@sa_nil _ _) (by rfl)) (by rfl)) (by decide)) (by intro _; rfl) (by rfl) (by rfl) (by rfl))
   ·exact ss_nil
  refine (@ss_one _ _ _ _ ?_)
  refine (@ss_ret _ _ _ _ _ ?_)
  exact (@se_tup _ _ _ _ _ _ (@sa_consN _ _ _ _ _ _ (@se_var _ _ _ _ (pv 3)) (@sa_consN _ _ _ _ _ _ (@se_var _ _ _ _ (pv 4)) (@sa_consN _ _ _ _ _ _ (@se_tuple _ _ _ _ _ _ rfl T.z_tuple (@sb_var _ _ _ _ (pv 8)) (by rfl)) (@sa_nil _ _) (by rfl)) (by rfl)) (by rfl)) (by decide))) fun ss y h=>gOf_run h
/-! ### _law_tiles_of -/
def b__law_tiles_of:DS:=(dRet (eComp [1,2] (iSq (eOpF pIx 0 (bOf (eD (.int 2))))) (gTp 2 (gsCons (gNm [] 1) (gsCons (gNm [] 2) gsNil))) dYes (eVar 1)))
def G__law_tiles_of:DF:=gOf [] 3 b__law_tiles_of
theorem keeps__law_tiles_of:Keeps G__law_tiles_of:=gOf_keeps
theorem sc__law_tiles_of:FnScope ["rule","tile","block"] ["rule"] (defScope s__law_tiles_of):=⟨rfl,rfl,rfl,by decide +kernel,rfl,by decide +kernel,by decide +kernel⟩
theorem ok__law_tiles_of {P:Program} {w:World} {K:PySem.W.Frag} {mg:Str→Option Value} {base:Heap} {f:Addr} {fd:FuncData} {ce:Tx→Nat} (F:Fun K "_law_tiles_of" "_law_tiles_of" s__law_tiles_of f fd) (hm:mg "_law_tiles_of" = some (.ref f)) (hb:Binds K fd ["rule"] []) (T:Txt ce K mg):KFn P w K mg base 1 "_law_tiles_of" 1 G__law_tiles_of :=
 fn_def (np:=[]) (fb:=b__law_tiles_of) F hm hb sc__law_tiles_of (fun c cdv A outer s H E hr hnp=>by
  have hq:=hq_of hr
  refine (@ss_one _ _ _ _ ?_)
  refine (@ss_ret _ _ _ _ _ ?_)
  exact (@se_comp _ _ ([1,2]) _ _ _ _ _ _ _ _ _ _ rfl (@cscope_mk _ _ _ rfl rfl) (@si_sq _ _ _ _ _ (@se_ixN _ _ _ _ _ _ _ _ _ ix_seq o2_ix (pv 0) (@sb_of _ _ _ _ (@se_int _ _ _ _ _)) (fun _ _=>rfl))) (fun l s0 H0 ex=>(@sgc_tup _ _ _ _ _ _ _ _ rfl (@sgcs_cons _ _ _ _ _ _ _ (@sgc_name _ _ _ _ ([]) (1) _ hnp sc__law_tiles_of.nd rfl (by first | exact Or.inl rfl | exact Or.inr rfl) (by first | exact Or.inl rfl | exact Or.inr rfl) (by decide)) (@sgcs_cons _ _ _ _ _ _ _ (@sgc_name _ _ _ _ ([]) (2) _ hnp sc__law_tiles_of.nd rfl (by first | exact Or.inl rfl | exact Or.inr rfl) (by first | exact Or.inl rfl | exact Or.inr rfl) (by decide)) (@sgcs_nil _ _ _) (by rfl)) (by rfl)) (by rfl) (by rfl))) (fun l s0 H0 ex=>(@sts_nil _ _)) (fun l s0 H0 ex=>(@se_var _ _ _ _ (pv 1))) (np_out hnp rfl) (by intro _; rfl))) fun ss y h=>gOf_run h
/-! ### _law_line_of -/
def b__law_line_of:DS:=(dSeq (dAsg (eC1 pDictOf (bOf (eOpF pIx 1 (bOf (eD (.int 2)))))) (gNm [0] 2)) (dSeq (dAsg (eLst (aCons (eOp pIx (eCall G__law_tiles_of [.val (eVar 1)]) (bOf (eCall G__law_draw [.io 0,.val (eC1 pLen (bOf (eOpF pIx 1 (bOf (eD (.int 2))))))]))) aNil)) (gNm [0] 3)) (dSeq (dAsg (eLst aNil) (gNm [0] 4)) (dSeq (dFor (iRange1 (eOp pIx (eLst (aCons (eCall G__law_draw [.io 0,.val (eD (.int 7))]) (aCons (eD (.int 60)) aNil))) (bOf (eC1 pInt (bOf (eOp pEq (eCall G__law_draw [.io 0,.val (eD (.int 8))]) (bOf (eD (.int 0))))))))) (gNm [0] 5) (dSeq (dAppend 4 (eTup (aCons (eCall G__law_draw [.io 0,.val (eOpF pIx 1 (bOf (eD (.int 0))))]) (aCons (eCall G__law_draw [.io 0,.val (eOpF pIx 1 (bOf (eD (.int 1))))]) aNil)))) (dAppend 3 (eOp pIx (eOp pIx (eOpF pIxX 2 (bOf (eOpF pIx 3 (bOf (eC1 pNeg (bOf (eD (.int 1)))))))) (bOf (eOp pIx (eOpF pIx 4 (bOf (eC1 pNeg (bOf (eD (.int 1)))))) (bOf (eD (.int 0)))))) (bOf (eOp pIx (eOpF pIx 4 (bOf (eC1 pNeg (bOf (eD (.int 1)))))) (bOf (eD (.int 1))))))))) (dRet (eTup (aCons (eVar 3) (aCons (eVar 4) aNil))))))))
def G__law_line_of:DF:=gOf [0] 6 b__law_line_of
theorem keeps__law_line_of:Keeps G__law_line_of:=gOf_keeps
theorem sc__law_line_of:FnScope ["pen","rule","blocks","tiles","digits","turn"] ["pen","rule"] (defScope s__law_line_of):=⟨rfl,rfl,rfl,by decide +kernel,rfl,by decide +kernel,by decide +kernel⟩
theorem ok__law_line_of {P:Program} {w:World} {K:PySem.W.Frag} {mg:Str→Option Value} {base:Heap} {f:Addr} {fd:FuncData} {ce:Tx→Nat} (F:Fun K "_law_line_of" "_law_line_of" s__law_line_of f fd) (hm:mg "_law_line_of" = some (.ref f)) (hb:Binds K fd ["pen","rule"] []) (T:Txt ce K mg) (k__law_draw:KFn P w K mg base 2 "_law_draw" 2 G__law_draw) (k__law_tiles_of:KFn P w K mg base 1 "_law_tiles_of" 1 G__law_tiles_of):KFn P w K mg base 3 "_law_line_of" 2 G__law_line_of :=
 fn_def (np:=[0]) (fb:=b__law_line_of) F hm hb sc__law_line_of (fun c cdv A outer s H E hr hnp=>by
  have hq:=hq_of hr
  refine (@ss_cons _ _ _ _ _ _ ?_ ?_)
  ·exact (@ss_set _ _ _ _ _ _ ([0]) (2) _ hnp sc__law_line_of.nd rfl (by first | exact Or.inl rfl | exact Or.inr rfl) (@se_dictOf _ _ _ _ _ _ rfl rfl T.z_dict (@sb_of _ _ _ _ (@se_ixN _ _ _ _ _ _ _ _ _ ix_seq o2_ix (pv 1) (@sb_of _ _ _ _ (@se_int _ _ _ _ _)) (fun _ _=>rfl))) (by rfl)) rfl (Or.inl rfl))
  refine (@ss_cons _ _ _ _ _ _ ?_ ?_)
  ·exact (@ss_set _ _ _ _ _ _ ([0]) (3) _ hnp sc__law_line_of.nd rfl (by first | exact Or.inl rfl | exact Or.inr rfl) (@se_lst _ _ _ _ _ (@sa_consN _ _ _ _ _ _ (@se_ix _ _ _ _ _ _ _ _ _ ix_seq o2_ix (@se_call _ _ _ _ _ (1) _ _ _ _ _ k__law_tiles_of keeps__law_tiles_of (hr.mono (by decide)) rfl (@sx_valN _ _ _ _ _ _ (@se_var _ _ _ _ (pv 1)) (@sx_nil _ _) (by rfl)) rfl (by decide) (by rfl) (by rfl)) (@sb_of _ _ _ _ (@se_call _ _ _ _ _ (2) _ _ _ _ _ k__law_draw keeps__law_draw (hr.mono (by decide)) rfl (@sx_ioN _ _ _ _ _ _ (pv 0) (@sx_valN _ _ _ _ _ _ (@se_len _ _ _ _ _ _ rfl T.z_len (@sb_of _ _ _ _ (@se_ixN _ _ _ _ _ _ _ _ _ ix_seq o2_ix (pv 1) (@sb_of _ _ _ _ (@se_int _ _ _ _ _)) (fun _ _=>rfl))) (by rfl)) (@sx_nil _ _) (by rfl)) (by rfl)) rfl (by decide) (by rfl) (by rfl))) (fun _ _=>rfl)) (@sa_nil _ _) (by rfl)) (by decide)) rfl (Or.inl rfl))
  refine (@ss_cons _ _ _ _ _ _ ?_ ?_)
  ·exact (@ss_set _ _ _ _ _ _ ([0]) (4) _ hnp sc__law_line_of.nd rfl (by first | exact Or.inl rfl | exact Or.inr rfl) (@se_lst _ _ _ _ _ (@sa_nil _ _) (by decide)) rfl (Or.inl rfl))
  refine (@ss_cons _ _ _ _ _ _ ?_ ?_)
  ·refine (@ss_for _ _ _ _ _ _ _ _ _ PassesOwn.never rfl ?_ ?_ ?_ (by intro _; rfl))
   ·exact (@si_range1 _ _ _ _ _ _ _ rfl T.z_range (@se_ix _ _ _ _ _ _ _ _ _ ix_seq o2_ix (@se_lst _ _ _ _ _ (@sa_consN _ _ _ _ _ _ (@se_call _ _ _ _ _ (2) _ _ _ _ _ k__law_draw keeps__law_draw (hr.mono (by decide)) rfl (@sx_ioN _ _ _ _ _ _ (pv 0) (@sx_valN _ _ _ _ _ _ (@se_int _ _ _ _ _) (@sx_nil _ _) (by rfl)) (by rfl)) rfl (by decide) (by rfl) (by rfl)) (@sa_consN _ _ _ _ _ _ (@se_int _ _ _ _ _) (@sa_nil _ _) (by rfl)) (by rfl)) (by decide)) (@sb_of _ _ _ _ (@se_intc _ _ _ _ _ _ rfl T.z_int (@sb_of _ _ _ _ (@se_cmp _ _ _ _ _ _ _ _ _ _ (op_eqD hq) o2_eq (@se_call _ _ _ _ _ (2) _ _ _ _ _ k__law_draw keeps__law_draw (hr.mono (by decide)) rfl (@sx_ioN _ _ _ _ _ _ (pv 0) (@sx_valN _ _ _ _ _ _ (@se_int _ _ _ _ _) (@sx_nil _ _) (by rfl)) (by rfl)) rfl (by decide) (by rfl) (by rfl)) (@sb_of _ _ _ _ (@se_int _ _ _ _ _)) (nomark _))) (by rfl))) (fun _ _=>rfl)) (by rfl))
   ·exact (@sg_name _ _ _ ([0]) (5) _ hnp sc__law_line_of.nd rfl (by first | exact Or.inl rfl | exact Or.inr rfl) (Or.inl rfl))
   ·refine (@ss_cons _ _ _ _ _ _ ?_ ?_)
    ·exact (@ss_appendN _ _ _ _ _ _ _ _ _ (pv 4) (@se_tup _ _ _ _ _ _ (@sa_consN _ _ _ _ _ _ (@se_call _ _ _ _ _ (2) _ _ _ _ _ k__law_draw keeps__law_draw (hr.mono (by decide)) rfl (@sx_ioN _ _ _ _ _ _ (pv 0) (@sx_valN _ _ _ _ _ _ (@se_ixN _ _ _ _ _ _ _ _ _ ix_seq o2_ix (pv 1) (@sb_of _ _ _ _ (@se_int _ _ _ _ _)) (fun _ _=>rfl)) (@sx_nil _ _) (by rfl)) (by rfl)) rfl (by decide) (by rfl) (by rfl)) (@sa_consN _ _ _ _ _ _ (@se_call _ _ _ _ _ (2) _ _ _ _ _ k__law_draw keeps__law_draw (hr.mono (by decide)) rfl (@sx_ioN _ _ _ _ _ _ (pv 0) (@sx_valN _ _ _ _ _ _ (@se_ixN _ _ _ _ _ _ _ _ _ ix_seq o2_ix (pv 1) (@sb_of _ _ _ _ (@se_int _ _ _ _ _)) (fun _ _=>rfl)) (@sx_nil _ _) (by rfl)) (by rfl)) rfl (by decide) (by rfl) (by rfl)) (@sa_nil _ _) (by rfl)) (by rfl)) (by decide)) (by rfl) (by rfl) (by rfl) (by rfl) (by rfl))
    refine (@ss_one _ _ _ _ ?_)
    exact (@ss_appendN _ _ _ _ _ _ _ _ _ (pv 3) (@se_ix _ _ _ _ _ _ _ _ _ ix_seq o2_ix (@se_ix _ _ _ _ _ _ _ _ _ ix_seq o2_ix (@se_ixN _ _ _ _ _ _ _ _ _ (ix_X hq) o2_ixX (pv 2) (@sb_of _ _ _ _ (@se_ixN _ _ _ _ _ _ _ _ _ ix_seq o2_ix (pv 3) (@sb_of _ _ _ _ (@se_neg _ _ _ _ _ (@sb_of _ _ _ _ (@se_int _ _ _ _ _)))) (fun _ _=>rfl))) (fun _ _=>rfl)) (@sb_of _ _ _ _ (@se_ix _ _ _ _ _ _ _ _ _ ix_seq o2_ix (@se_ixN _ _ _ _ _ _ _ _ _ ix_seq o2_ix (pv 4) (@sb_of _ _ _ _ (@se_neg _ _ _ _ _ (@sb_of _ _ _ _ (@se_int _ _ _ _ _)))) (fun _ _=>rfl)) (@sb_of _ _ _ _ (@se_int _ _ _ _ _)) (fun _ _=>rfl))) (fun _ _=>rfl)) (@sb_of _ _ _ _ (@se_ix _ _ _ _ _ _ _ _ _ ix_seq o2_ix (@se_ixN _ _ _ _ _ _ _ _ _ ix_seq o2_ix (pv 4) (@sb_of _ _ _ _ (@se_neg _ _ _ _ _ (@sb_of _ _ _ _ (@se_int _ _ _ _ _)))) (fun _ _=>rfl)) (@sb_of _ _ _ _ (@se_int _ _ _ _ _)) (fun _ _=>rfl))) (fun _ _=>rfl)) (by rfl) (by rfl) (by rfl) (by rfl) (by rfl))
  refine (@ss_one _ _ _ _ ?_)
  refine (@ss_ret _ _ _ _ _ ?_)
  exact (@se_tup _ _ _ _ _ _ (@sa_consN _ _ _ _ _ _ (@se_var _ _ _ _ (pv 3)) (@sa_consN _ _ _ _ _ _ (@se_var _ _ _ _ (pv 4)) (@sa_nil _ _) (by rfl)) (by rfl)) (by decide))) fun ss y h=>gOf_run h
/-! ### whole_from -/
def b_whole_from:DS:=(dRet (eAnd (eIsi "int" (bVar 0)) (eAnd (eNot (eIsi "bool" (bVar 0))) (eOpF pLe 1 (bVar 0)))))
def G_whole_from:DF:=gOf [] 2 b_whole_from
theorem keeps_whole_from:Keeps G_whole_from:=gOf_keeps
theorem sc_whole_from:FnScope ["thing","least"] ["thing","least"] (defScope s_whole_from):=⟨rfl,rfl,rfl,by decide +kernel,rfl,by decide +kernel,by decide +kernel⟩
theorem ok_whole_from {P:Program} {w:World} {K:PySem.W.Frag} {mg:Str→Option Value} {base:Heap} {f:Addr} {fd:FuncData} {ce:Tx→Nat} (F:Fun K "whole_from" "whole_from" s_whole_from f fd) (hm:mg "whole_from" = some (.ref f)) (hb:Binds K fd ["thing","least"] []) (T:Txt ce K mg):KFn P w K mg base 1 "whole_from" 2 G_whole_from :=
 fn_def (np:=[]) (fb:=b_whole_from) F hm hb sc_whole_from (fun c cdv A outer s H E hr hnp=>by
  have hq:=hq_of hr
  refine (@ss_one _ _ _ _ ?_)
  refine (@ss_ret _ _ _ _ _ ?_)
  exact (@se_and _ _ _ _ _ _ _ _ (@se_isi _ _ _ _ _ _ _ _ _ T.ty_int rfl T.z_isinstance rfl T.z_int boot_int (@sb_var _ _ _ _ (pv 0)) (by decide) (by decide) (by rfl) (by rfl)) (@se_and _ _ _ _ _ _ _ _ (@se_not _ _ _ _ _ (@se_isi _ _ _ _ _ _ _ _ _ T.ty_bool rfl T.z_isinstance rfl T.z_bool boot_bool (@sb_var _ _ _ _ (pv 0)) (by decide) (by decide) (by rfl) (by rfl))) (@se_one _ _ _ _ _ _ (@se_cmpN _ _ _ _ _ _ _ _ _ _ op_leD o2_cmp (pv 1) (@sb_var _ _ _ _ (pv 0)) (nomark _)))))) fun ss y h=>gOf_run h
/-! ### whole_within -/
def b_whole_within:DS:=(dRet (eAnd (eCall G_whole_from [.val (eVar 0),.val (eVar 1)]) (eOpF pLe 0 (bVar 2))))
def G_whole_within:DF:=gOf [] 3 b_whole_within
theorem keeps_whole_within:Keeps G_whole_within:=gOf_keeps
theorem sc_whole_within:FnScope ["thing","least","most"] ["thing","least","most"] (defScope s_whole_within):=⟨rfl,rfl,rfl,by decide +kernel,rfl,by decide +kernel,by decide +kernel⟩
theorem ok_whole_within {P:Program} {w:World} {K:PySem.W.Frag} {mg:Str→Option Value} {base:Heap} {f:Addr} {fd:FuncData} {ce:Tx→Nat} (F:Fun K "whole_within" "whole_within" s_whole_within f fd) (hm:mg "whole_within" = some (.ref f)) (hb:Binds K fd ["thing","least","most"] []) (T:Txt ce K mg) (k_whole_from:KFn P w K mg base 1 "whole_from" 2 G_whole_from):KFn P w K mg base 2 "whole_within" 3 G_whole_within :=
 fn_def (np:=[]) (fb:=b_whole_within) F hm hb sc_whole_within (fun c cdv A outer s H E hr hnp=>by
  have hq:=hq_of hr
  refine (@ss_one _ _ _ _ ?_)
  refine (@ss_ret _ _ _ _ _ ?_)
  exact (@se_and _ _ _ _ _ _ _ _ (@se_call _ _ _ _ _ (1) _ _ _ _ _ k_whole_from keeps_whole_from (hr.mono (by decide)) rfl (@sx_valN _ _ _ _ _ _ (@se_var _ _ _ _ (pv 0)) (@sx_valN _ _ _ _ _ _ (@se_var _ _ _ _ (pv 1)) (@sx_nil _ _) (by rfl)) (by rfl)) rfl (by decide) (by rfl) (by rfl)) (@se_one _ _ _ _ _ _ (@se_cmpN _ _ _ _ _ _ _ _ _ _ op_leD o2_cmp (pv 0) (@sb_var _ _ _ _ (pv 2)) (nomark _))))) fun ss y h=>gOf_run h
/-! ### digit_good -/
def b_digit_good:DS:=(dSeq (dIf (dOr (dNot (dTr (eIsi "tuple" (bVar 1)))) (dTr (eOp pNe (eC1 pLen (bVar 1)) (bOf (eD (.int 2)))))) (dRet (eD (.bl false))) dNext) (dRet (eAnd (eCall G_whole_within [.val (eOpF pIx 1 (bOf (eD (.int 0)))),.val (eD (.int 0)),.val (eOp pSub (eOpF pIx 0 (bOf (eD (.int 0)))) (bOf (eD (.int 1))))]) (eCall G_whole_within [.val (eOpF pIx 1 (bOf (eD (.int 1)))),.val (eD (.int 0)),.val (eOp pSub (eOpF pIx 0 (bOf (eD (.int 1)))) (bOf (eD (.int 1))))]))))
def G_digit_good:DF:=gOf [] 2 b_digit_good
theorem keeps_digit_good:Keeps G_digit_good:=gOf_keeps
theorem sc_digit_good:FnScope ["rule","thing"] ["rule","thing"] (defScope s_digit_good):=⟨rfl,rfl,rfl,by decide +kernel,rfl,by decide +kernel,by decide +kernel⟩
theorem ok_digit_good {P:Program} {w:World} {K:PySem.W.Frag} {mg:Str→Option Value} {base:Heap} {f:Addr} {fd:FuncData} {ce:Tx→Nat} (F:Fun K "digit_good" "digit_good" s_digit_good f fd) (hm:mg "digit_good" = some (.ref f)) (hb:Binds K fd ["rule","thing"] []) (T:Txt ce K mg) (k_whole_within:KFn P w K mg base 2 "whole_within" 3 G_whole_within):KFn P w K mg base 3 "digit_good" 2 G_digit_good :=
 fn_def (np:=[]) (fb:=b_digit_good) F hm hb sc_digit_good (fun c cdv A outer s H E hr hnp=>by
  have hq:=hq_of hr
  refine (@ss_cons _ _ _ _ _ _ ?_ ?_)
  ·refine (@ss_if _ _ _ _ _ _ _ _ _ ?_ ?_ ?_)
   ·exact (@st_of _ _ _ _ (@sw_or _ _ _ _ _ _ _ _ (@st_not _ _ _ _ _ (@st_val _ _ _ _ (@se_isi _ _ _ _ _ _ _ _ _ T.ty_tuple rfl T.z_isinstance rfl T.z_tuple boot_tuple (@sb_var _ _ _ _ (pv 1)) (by decide) (by decide) (by rfl) (by rfl)) (by intro _; rfl))) (@sw_or1 _ _ _ _ _ (@st_cmp _ _ _ _ _ _ _ _ _ _ (op_neD hq) o2_ne (@se_len _ _ _ _ _ _ rfl T.z_len (@sb_var _ _ _ _ (pv 1)) (by rfl)) (@sb_of _ _ _ _ (@se_int _ _ _ _ _)) (nomark _)))))
   ·refine (@ss_one _ _ _ _ ?_)
    refine (@ss_ret _ _ _ _ _ ?_)
    exact (@se_bl _ _ _ _ _)
   ·exact ss_nil
  refine (@ss_one _ _ _ _ ?_)
  refine (@ss_ret _ _ _ _ _ ?_)
  exact (@se_and _ _ _ _ _ _ _ _ (@se_call _ _ _ _ _ (2) _ _ _ _ _ k_whole_within keeps_whole_within (hr.mono (by decide)) rfl (@sx_valN _ _ _ _ _ _ (@se_ixN _ _ _ _ _ _ _ _ _ ix_seq o2_ix (pv 1) (@sb_of _ _ _ _ (@se_int _ _ _ _ _)) (fun _ _=>rfl)) (@sx_valN _ _ _ _ _ _ (@se_int _ _ _ _ _) (@sx_valN _ _ _ _ _ _ (@se_op _ _ _ _ _ _ _ _ _ _ op_sub o2_sub (@se_ixN _ _ _ _ _ _ _ _ _ ix_seq o2_ix (pv 0) (@sb_of _ _ _ _ (@se_int _ _ _ _ _)) (fun _ _=>rfl)) (@sb_of _ _ _ _ (@se_int _ _ _ _ _))) (@sx_nil _ _) (by rfl)) (by rfl)) (by rfl)) rfl (by decide) (by rfl) (by rfl)) (@se_one _ _ _ _ _ _ (@se_call _ _ _ _ _ (2) _ _ _ _ _ k_whole_within keeps_whole_within (hr.mono (by decide)) rfl (@sx_valN _ _ _ _ _ _ (@se_ixN _ _ _ _ _ _ _ _ _ ix_seq o2_ix (pv 1) (@sb_of _ _ _ _ (@se_int _ _ _ _ _)) (fun _ _=>rfl)) (@sx_valN _ _ _ _ _ _ (@se_int _ _ _ _ _) (@sx_valN _ _ _ _ _ _ (@se_op _ _ _ _ _ _ _ _ _ _ op_sub o2_sub (@se_ixN _ _ _ _ _ _ _ _ _ ix_seq o2_ix (pv 0) (@sb_of _ _ _ _ (@se_int _ _ _ _ _)) (fun _ _=>rfl)) (@sb_of _ _ _ _ (@se_int _ _ _ _ _))) (@sx_nil _ _) (by rfl)) (by rfl)) (by rfl)) rfl (by decide) (by rfl) (by rfl))))) fun ss y h=>gOf_run h
/-! ### digits_good -/
def b_digits_good:DS:=(dRet (eAnd (eIsi "list" (bVar 1)) (eC1 pAll (bOf (eComp [2] (iSq (eVar 1)) (gNm [] 2) dYes (eCall G_digit_good [.val (eVar 0),.val (eVar 2)]))))))
def G_digits_good:DF:=gOf [] 3 b_digits_good
theorem keeps_digits_good:Keeps G_digits_good:=gOf_keeps
theorem sc_digits_good:FnScope ["rule","thing","digit"] ["rule","thing"] (defScope s_digits_good):=⟨rfl,rfl,rfl,by decide +kernel,rfl,by decide +kernel,by decide +kernel⟩
theorem ok_digits_good {P:Program} {w:World} {K:PySem.W.Frag} {mg:Str→Option Value} {base:Heap} {f:Addr} {fd:FuncData} {ce:Tx→Nat} (F:Fun K "digits_good" "digits_good" s_digits_good f fd) (hm:mg "digits_good" = some (.ref f)) (hb:Binds K fd ["rule","thing"] []) (T:Txt ce K mg) (k_digit_good:KFn P w K mg base 3 "digit_good" 2 G_digit_good):KFn P w K mg base 4 "digits_good" 2 G_digits_good :=
 fn_def (np:=[]) (fb:=b_digits_good) F hm hb sc_digits_good (fun c cdv A outer s H E hr hnp=>by
  have hq:=hq_of hr
  refine (@ss_one _ _ _ _ ?_)
  refine (@ss_ret _ _ _ _ _ ?_)
  exact (@se_and _ _ _ _ _ _ _ _ (@se_isi _ _ _ _ _ _ _ _ _ T.ty_list rfl T.z_isinstance rfl T.z_list boot_list (@sb_var _ _ _ _ (pv 1)) (by decide) (by decide) (by rfl) (by rfl)) (@se_one _ _ _ _ _ _ (@se_all _ _ _ _ _ _ rfl rfl T.z_all (@sb_of _ _ _ _ (@se_comp _ _ ([2]) _ _ _ _ _ _ _ _ _ _ rfl (@cscope_mk _ _ _ rfl rfl) (@si_sq _ _ _ _ _ (@se_var _ _ _ _ (pv 1))) (fun l s0 H0 ex=>(@sgc_name _ _ _ _ ([]) (2) _ hnp sc_digits_good.nd rfl (by first | exact Or.inl rfl | exact Or.inr rfl) (by first | exact Or.inl rfl | exact Or.inr rfl) (by decide))) (fun l s0 H0 ex=>(@sts_nil _ _)) (fun l s0 H0 ex=>(@se_call _ _ _ _ _ (3) _ _ _ _ _ k_digit_good keeps_digit_good (hr.mono (by decide)) rfl (@sx_valN _ _ _ _ _ _ (@se_var _ _ _ _ (pv 0)) (@sx_valN _ _ _ _ _ _ (@se_var _ _ _ _ (pv 2)) (@sx_nil _ _) (by rfl)) (by rfl)) rfl (by decide) (by rfl) (by rfl))) (np_out hnp rfl) (by intro _; rfl))) (by rfl))))) fun ss y h=>gOf_run h
/-! ### tiles_good -/
def b_tiles_good:DS:=(dSeq (dIf (dNot (dTr (eIsi "list" (bVar 1)))) (dRet (eD (.bl false))) dNext) (dRet (eC1 pAll (bOf (eComp [2] (iSq (eVar 1)) (gNm [] 2) dYes (eAnd (eIsi "str" (bVar 2)) (eOp (pIn false) (eVar 2) (bVar 0))))))))
def G_tiles_good:DF:=gOf [] 3 b_tiles_good
theorem keeps_tiles_good:Keeps G_tiles_good:=gOf_keeps
theorem sc_tiles_good:FnScope ["block_of","thing","tile"] ["block_of","thing"] (defScope s_tiles_good):=⟨rfl,rfl,rfl,by decide +kernel,rfl,by decide +kernel,by decide +kernel⟩
theorem ok_tiles_good {P:Program} {w:World} {K:PySem.W.Frag} {mg:Str→Option Value} {base:Heap} {f:Addr} {fd:FuncData} {ce:Tx→Nat} (F:Fun K "tiles_good" "tiles_good" s_tiles_good f fd) (hm:mg "tiles_good" = some (.ref f)) (hb:Binds K fd ["block_of","thing"] []) (T:Txt ce K mg):KFn P w K mg base 1 "tiles_good" 2 G_tiles_good :=
 fn_def (np:=[]) (fb:=b_tiles_good) F hm hb sc_tiles_good (fun c cdv A outer s H E hr hnp=>by
  have hq:=hq_of hr
  refine (@ss_cons _ _ _ _ _ _ ?_ ?_)
  ·refine (@ss_if _ _ _ _ _ _ _ _ _ ?_ ?_ ?_)
   ·exact (@st_not _ _ _ _ _ (@st_val _ _ _ _ (@se_isi _ _ _ _ _ _ _ _ _ T.ty_list rfl T.z_isinstance rfl T.z_list boot_list (@sb_var _ _ _ _ (pv 1)) (by decide) (by decide) (by rfl) (by rfl)) (by intro _; rfl)))
   ·refine (@ss_one _ _ _ _ ?_)
    refine (@ss_ret _ _ _ _ _ ?_)
    exact (@se_bl _ _ _ _ _)
   ·exact ss_nil
  refine (@ss_one _ _ _ _ ?_)
  refine (@ss_ret _ _ _ _ _ ?_)
  exact (@se_all _ _ _ _ _ _ rfl rfl T.z_all (@sb_of _ _ _ _ (@se_comp _ _ ([2]) _ _ _ _ _ _ _ _ _ _ rfl (@cscope_mk _ _ _ rfl rfl) (@si_sq _ _ _ _ _ (@se_var _ _ _ _ (pv 1))) (fun l s0 H0 ex=>(@sgc_name _ _ _ _ ([]) (2) _ hnp sc_tiles_good.nd rfl (by first | exact Or.inl rfl | exact Or.inr rfl) (by first | exact Or.inl rfl | exact Or.inr rfl) (by decide))) (fun l s0 H0 ex=>(@sts_nil _ _)) (fun l s0 H0 ex=>(@se_and _ _ _ _ _ _ _ _ (@se_isi _ _ _ _ _ _ _ _ _ T.ty_str rfl T.z_isinstance rfl T.z_str boot_str (@sb_var _ _ _ _ (pv 2)) (by decide) (by decide) (by rfl) (by rfl)) (@se_one _ _ _ _ _ _ (@se_cmp _ _ _ _ _ _ _ _ _ _ (@op_inAll _ hq) (@o2_inAll _ false) (@se_var _ _ _ _ (pv 2)) (@sb_var _ _ _ _ (pv 0)) rfl)))) (np_out hnp rfl) (by intro _; rfl))) (by rfl))) fun ss y h=>gOf_run h
/-! ### line_holds -/
def b_line_holds:DS:=(dSeq (dIf (dOr (dNot (dTr (eIsi "tuple" (bVar 1)))) (dTr (eOp pNe (eC1 pLen (bVar 1)) (bOf (eD (.int 2)))))) (dRet (eD (.bl false))) dNext) (dSeq (dAsg (eVar 1) (gTp 2 (gsCons (gNm [] 2) (gsCons (gNm [] 3) gsNil)))) (dSeq (dAsg (eC1 pDictOf (bOf (eOpF pIx 0 (bOf (eD (.int 2)))))) (gNm [] 4)) (dSeq (dIf (dOr (dNot (dTr (eCall G_tiles_good [.val (eVar 4),.val (eVar 2)]))) (dOr (dNot (dTr (eCall G_digits_good [.val (eVar 0),.val (eVar 3)]))) (dTr (eOp pNe (eC1 pLen (bVar 3)) (bOf (eOp pSub (eC1 pLen (bVar 2)) (bOf (eD (.int 1))))))))) (dRet (eD (.bl false))) dNext) (dSeq (dFor (iEnum (eVar 3)) (gTp 2 (gsCons (gNm [] 5) (gsCons (gNm [] 6) gsNil))) (dIf (dTr (eOp pNe (eOp pIx (eOp pIx (eOpF pIxX 4 (bOf (eOpF pIx 2 (bVar 5)))) (bOf (eOpF pIx 6 (bOf (eD (.int 0)))))) (bOf (eOpF pIx 6 (bOf (eD (.int 1)))))) (bOf (eOpF pIx 2 (bOf (eOpF pAdd 5 (bOf (eD (.int 1))))))))) (dRet (eD (.bl false))) dNext)) (dRet (eD (.bl true))))))))
def G_line_holds:DF:=gOf [] 7 b_line_holds
theorem keeps_line_holds:Keeps G_line_holds:=gOf_keeps
theorem sc_line_holds:FnScope ["rule","thing","tiles","digits","block_of","number","digit"] ["rule","thing"] (defScope s_line_holds):=⟨rfl,rfl,rfl,by decide +kernel,rfl,by decide +kernel,by decide +kernel⟩
theorem ok_line_holds {P:Program} {w:World} {K:PySem.W.Frag} {mg:Str→Option Value} {base:Heap} {f:Addr} {fd:FuncData} {ce:Tx→Nat} (F:Fun K "line_holds" "line_holds" s_line_holds f fd) (hm:mg "line_holds" = some (.ref f)) (hb:Binds K fd ["rule","thing"] []) (T:Txt ce K mg) (k_digits_good:KFn P w K mg base 4 "digits_good" 2 G_digits_good) (k_tiles_good:KFn P w K mg base 1 "tiles_good" 2 G_tiles_good):KFn P w K mg base 5 "line_holds" 2 G_line_holds :=
 fn_def (np:=[]) (fb:=b_line_holds) F hm hb sc_line_holds (fun c cdv A outer s H E hr hnp=>by
  have hq:=hq_of hr
  refine (@ss_cons _ _ _ _ _ _ ?_ ?_)
  ·refine (@ss_if _ _ _ _ _ _ _ _ _ ?_ ?_ ?_)
   ·exact (@st_of _ _ _ _ (@sw_or _ _ _ _ _ _ _ _ (@st_not _ _ _ _ _ (@st_val _ _ _ _ (@se_isi _ _ _ _ _ _ _ _ _ T.ty_tuple rfl T.z_isinstance rfl T.z_tuple boot_tuple (@sb_var _ _ _ _ (pv 1)) (by decide) (by decide) (by rfl) (by rfl)) (by intro _; rfl))) (@sw_or1 _ _ _ _ _ (@st_cmp _ _ _ _ _ _ _ _ _ _ (op_neD hq) o2_ne (@se_len _ _ _ _ _ _ rfl T.z_len (@sb_var _ _ _ _ (pv 1)) (by rfl)) (@sb_of _ _ _ _ (@se_int _ _ _ _ _)) (nomark _)))))
   ·refine (@ss_one _ _ _ _ ?_)
    refine (@ss_ret _ _ _ _ _ ?_)
    exact (@se_bl _ _ _ _ _)
   ·exact ss_nil
  refine (@ss_cons _ _ _ _ _ _ ?_ ?_)
  ·refine (@ss_asg _ _ _ _ _ _ _ ?_ ?_ (by rfl) (by rfl) (by rfl))
   ·exact (@se_var _ _ _ _ (pv 1))
   ·exact (@sg_tup _ _ _ _ _ _ _ rfl (@sgs_cons _ _ _ _ _ _ (@sg_name _ _ _ ([]) (2) _ hnp sc_line_holds.nd rfl (by first | exact Or.inl rfl | exact Or.inr rfl) (Or.inl rfl)) (@sgs_cons _ _ _ _ _ _ (@sg_name _ _ _ ([]) (3) _ hnp sc_line_holds.nd rfl (by first | exact Or.inl rfl | exact Or.inr rfl) (Or.inl rfl)) (@sgs_nil _ _) (by rfl)) (by rfl)) (by rfl) (by rfl))
  refine (@ss_cons _ _ _ _ _ _ ?_ ?_)
  ·exact (@ss_set _ _ _ _ _ _ ([]) (4) _ hnp sc_line_holds.nd rfl (by first | exact Or.inl rfl | exact Or.inr rfl) (@se_dictOf _ _ _ _ _ _ rfl rfl T.z_dict (@sb_of _ _ _ _ (@se_ixN _ _ _ _ _ _ _ _ _ ix_seq o2_ix (pv 0) (@sb_of _ _ _ _ (@se_int _ _ _ _ _)) (fun _ _=>rfl))) (by rfl)) rfl (Or.inl rfl))
  refine (@ss_cons _ _ _ _ _ _ ?_ ?_)
  ·refine (@ss_if _ _ _ _ _ _ _ _ _ ?_ ?_ ?_)
   ·exact (@st_of _ _ _ _ (@sw_or _ _ _ _ _ _ _ _ (@st_not _ _ _ _ _ (@st_val _ _ _ _ (@se_call _ _ _ _ _ (1) _ _ _ _ _ k_tiles_good keeps_tiles_good (hr.mono (by decide)) rfl (@sx_valN _ _ _ _ _ _ (@se_var _ _ _ _ (pv 4)) (@sx_valN _ _ _ _ _ _ (@se_var _ _ _ _ (pv 2)) (@sx_nil _ _) (by rfl)) (by rfl)) rfl (by decide) (by rfl) (by rfl)) (by intro _; rfl))) (@sw_or _ _ _ _ _ _ _ _ (@st_not _ _ _ _ _ (@st_val _ _ _ _ (@se_call _ _ _ _ _ (4) _ _ _ _ _ k_digits_good keeps_digits_good (hr.mono (by decide)) rfl (@sx_valN _ _ _ _ _ _ (@se_var _ _ _ _ (pv 0)) (@sx_valN _ _ _ _ _ _ (@se_var _ _ _ _ (pv 3)) (@sx_nil _ _) (by rfl)) (by rfl)) rfl (by decide) (by rfl) (by rfl)) (by intro _; rfl))) (@sw_or1 _ _ _ _ _ (@st_cmp _ _ _ _ _ _ _ _ _ _ (op_neD hq) o2_ne (@se_len _ _ _ _ _ _ rfl T.z_len (@sb_var _ _ _ _ (pv 3)) (by rfl)) (@sb_of _ _ _ _ (@se_op _ _ _ _ _ _ _ _ _ _ op_sub o2_sub (@se_len _ _ _ _ _ _ rfl T.z_len (@sb_var _ _ _ _ (pv 2)) (by rfl)) (@sb_of _ _ _ _ (@se_int _ _ _ _ _)))) (nomark _))))))
   ·refine (@ss_one _ _ _ _ ?_)
    refine (@ss_ret _ _ _ _ _ ?_)
    exact (@se_bl _ _ _ _ _)
   ·exact ss_nil
  refine (@ss_cons _ _ _ _ _ _ ?_ ?_)
  ·refine (@ss_for _ _ _ _ _ _ _ _ _ PassesOwn.never rfl ?_ ?_ ?_ (by intro _; rfl))
   ·exact (@si_enum _ _ _ _ _ _ _ _ _ rfl T.z_enumerate (@se_var _ _ _ _ (pv 3)) (by rfl))
   ·exact (@sg_tup _ _ _ _ _ _ _ rfl (@sgs_cons _ _ _ _ _ _ (@sg_name _ _ _ ([]) (5) _ hnp sc_line_holds.nd rfl (by first | exact Or.inl rfl | exact Or.inr rfl) (Or.inl rfl)) (@sgs_cons _ _ _ _ _ _ (@sg_name _ _ _ ([]) (6) _ hnp sc_line_holds.nd rfl (by first | exact Or.inl rfl | exact Or.inr rfl) (Or.inl rfl)) (@sgs_nil _ _) (by rfl)) (by rfl)) (by rfl) (by rfl))
   ·refine (@ss_one _ _ _ _ ?_)
    refine (@ss_if _ _ _ _ _ _ _ _ _ ?_ ?_ ?_)
    ·exact (@st_cmp _ _ _ _ _ _ _ _ _ _ (op_neD hq) o2_ne (@se_ix _ _ _ _ _ _ _ _ _ ix_seq o2_ix (@se_ix _ _ _ _ _ _ _ _ _ ix_seq o2_ix (@se_ixN _ _ _ _ _ _ _ _ _ (ix_X hq) o2_ixX (pv 4) (@sb_of _ _ _ _ (@se_ixN _ _ _ _ _ _ _ _ _ ix_seq o2_ix (pv 2) (@sb_var _ _ _ _ (pv 5)) (fun _ _=>rfl))) (fun _ _=>rfl)) (@sb_of _ _ _ _ (@se_ixN _ _ _ _ _ _ _ _ _ ix_seq o2_ix (pv 6) (@sb_of _ _ _ _ (@se_int _ _ _ _ _)) (fun _ _=>rfl))) (fun _ _=>rfl)) (@sb_of _ _ _ _ (@se_ixN _ _ _ _ _ _ _ _ _ ix_seq o2_ix (pv 6) (@sb_of _ _ _ _ (@se_int _ _ _ _ _)) (fun _ _=>rfl))) (fun _ _=>rfl)) (@sb_of _ _ _ _ (@se_ixN _ _ _ _ _ _ _ _ _ ix_seq o2_ix (pv 2) (@sb_of _ _ _ _ (@se_opN _ _ _ _ _ _ _ _ _ _ op_addD o2_add (pv 5) (@sb_of _ _ _ _ (@se_int _ _ _ _ _)))) (fun _ _=>rfl))) (nomark _))
    ·refine (@ss_one _ _ _ _ ?_)
     refine (@ss_ret _ _ _ _ _ ?_)
     exact (@se_bl _ _ _ _ _)
    ·exact ss_nil
  refine (@ss_one _ _ _ _ ?_)
  refine (@ss_ret _ _ _ _ _ ?_)
  exact (@se_bl _ _ _ _ _)) fun ss y h=>gOf_run h
/-! ### _law_whole -/
def b__law_whole:DS:=(dRet (eAnd (eIsi "int" (bVar 0)) (eNot (eIsi "bool" (bVar 0)))))
def G__law_whole:DF:=gOf [] 1 b__law_whole
theorem keeps__law_whole:Keeps G__law_whole:=gOf_keeps
theorem sc__law_whole:FnScope ["found"] ["found"] (defScope s__law_whole):=⟨rfl,rfl,rfl,by decide +kernel,rfl,by decide +kernel,by decide +kernel⟩
theorem ok__law_whole {P:Program} {w:World} {K:PySem.W.Frag} {mg:Str→Option Value} {base:Heap} {f:Addr} {fd:FuncData} {ce:Tx→Nat} (F:Fun K "_law_whole" "_law_whole" s__law_whole f fd) (hm:mg "_law_whole" = some (.ref f)) (hb:Binds K fd ["found"] []) (T:Txt ce K mg):KFn P w K mg base 1 "_law_whole" 1 G__law_whole :=
 fn_def (np:=[]) (fb:=b__law_whole) F hm hb sc__law_whole (fun c cdv A outer s H E hr hnp=>by
  have hq:=hq_of hr
  refine (@ss_one _ _ _ _ ?_)
  refine (@ss_ret _ _ _ _ _ ?_)
  exact (@se_and _ _ _ _ _ _ _ _ (@se_isi _ _ _ _ _ _ _ _ _ T.ty_int rfl T.z_isinstance rfl T.z_int boot_int (@sb_var _ _ _ _ (pv 0)) (by decide) (by decide) (by rfl) (by rfl)) (@se_one _ _ _ _ _ _ (@se_not _ _ _ _ _ (@se_isi _ _ _ _ _ _ _ _ _ T.ty_bool rfl T.z_isinstance rfl T.z_bool boot_bool (@sb_var _ _ _ _ (pv 0)) (by decide) (by decide) (by rfl) (by rfl)))))) fun ss y h=>gOf_run h
/-! ### _law_digits_good -/
def b__law_digits_good:DS:=(dSeq (dIf (dNot (dTr (eIsi "list" (bVar 1)))) (dRet (eD (.bl false))) dNext) (dSeq (dFor (iSq (eVar 1)) (gNm [] 2) (dSeq (dIf (dOr (dNot (dTr (eIsi "tuple" (bVar 2)))) (dOr (dTr (eOp pNe (eC1 pLen (bVar 2)) (bOf (eD (.int 2))))) (dNot (dTr (eC1 pAll (bOf (eComp [3] (iSq (eVar 2)) (gNm [] 3) dYes (eCall G__law_whole [.val (eVar 3)])))))))) (dRet (eD (.bl false))) dNext) (dIf (dOr (dNot (dTr (eChain pLe pLt (eD (.int 0)) (eOpF pIx 2 (bOf (eD (.int 0)))) (bOf (eOpF pIx 0 (bOf (eD (.int 0)))))))) (dNot (dTr (eChain pLe pLt (eD (.int 0)) (eOpF pIx 2 (bOf (eD (.int 1)))) (bOf (eOpF pIx 0 (bOf (eD (.int 1))))))))) (dRet (eD (.bl false))) dNext))) (dRet (eD (.bl true)))))
def G__law_digits_good:DF:=gOf [] 4 b__law_digits_good
theorem keeps__law_digits_good:Keeps G__law_digits_good:=gOf_keeps
theorem sc__law_digits_good:FnScope ["rule","thing","pair","one"] ["rule","thing"] (defScope s__law_digits_good):=⟨rfl,rfl,rfl,by decide +kernel,rfl,by decide +kernel,by decide +kernel⟩
theorem ok__law_digits_good {P:Program} {w:World} {K:PySem.W.Frag} {mg:Str→Option Value} {base:Heap} {f:Addr} {fd:FuncData} {ce:Tx→Nat} (F:Fun K "_law_digits_good" "_law_digits_good" s__law_digits_good f fd) (hm:mg "_law_digits_good" = some (.ref f)) (hb:Binds K fd ["rule","thing"] []) (T:Txt ce K mg) (k__law_whole:KFn P w K mg base 1 "_law_whole" 1 G__law_whole):KFn P w K mg base 2 "_law_digits_good" 2 G__law_digits_good :=
 fn_def (np:=[]) (fb:=b__law_digits_good) F hm hb sc__law_digits_good (fun c cdv A outer s H E hr hnp=>by
  have hq:=hq_of hr
  refine (@ss_cons _ _ _ _ _ _ ?_ ?_)
  ·refine (@ss_if _ _ _ _ _ _ _ _ _ ?_ ?_ ?_)
   ·exact (@st_not _ _ _ _ _ (@st_val _ _ _ _ (@se_isi _ _ _ _ _ _ _ _ _ T.ty_list rfl T.z_isinstance rfl T.z_list boot_list (@sb_var _ _ _ _ (pv 1)) (by decide) (by decide) (by rfl) (by rfl)) (by intro _; rfl)))
   ·refine (@ss_one _ _ _ _ ?_)
    refine (@ss_ret _ _ _ _ _ ?_)
    exact (@se_bl _ _ _ _ _)
   ·exact ss_nil
  refine (@ss_cons _ _ _ _ _ _ ?_ ?_)
  ·refine (@ss_for _ _ _ _ _ _ _ _ _ PassesOwn.never rfl ?_ ?_ ?_ (by intro _; rfl))
   ·exact (@si_sq _ _ _ _ _ (@se_var _ _ _ _ (pv 1)))
   ·exact (@sg_name _ _ _ ([]) (2) _ hnp sc__law_digits_good.nd rfl (by first | exact Or.inl rfl | exact Or.inr rfl) (Or.inl rfl))
   ·refine (@ss_cons _ _ _ _ _ _ ?_ ?_)
    ·refine (@ss_if _ _ _ _ _ _ _ _ _ ?_ ?_ ?_)
     ·exact (@st_of _ _ _ _ (@sw_or _ _ _ _ _ _ _ _ (@st_not _ _ _ _ _ (@st_val _ _ _ _ (@se_isi _ _ _ _ _ _ _ _ _ T.ty_tuple rfl T.z_isinstance rfl T.z_tuple boot_tuple (@sb_var _ _ _ _ (pv 2)) (by decide) (by decide) (by rfl) (by rfl)) (by intro _; rfl))) (@sw_or _ _ _ _ _ _ _ _ (@st_cmp _ _ _ _ _ _ _ _ _ _ (op_neD hq) o2_ne (@se_len _ _ _ _ _ _ rfl T.z_len (@sb_var _ _ _ _ (pv 2)) (by rfl)) (@sb_of _ _ _ _ (@se_int _ _ _ _ _)) (nomark _)) (@sw_or1 _ _ _ _ _ (@st_not _ _ _ _ _ (@st_val _ _ _ _ (@se_all _ _ _ _ _ _ rfl rfl T.z_all (@sb_of _ _ _ _ (@se_comp _ _ ([3]) _ _ _ _ _ _ _ _ _ _ rfl (@cscope_mk _ _ _ rfl rfl) (@si_sq _ _ _ _ _ (@se_var _ _ _ _ (pv 2))) (fun l s0 H0 ex=>(@sgc_name _ _ _ _ ([]) (3) _ hnp sc__law_digits_good.nd rfl (by first | exact Or.inl rfl | exact Or.inr rfl) (by first | exact Or.inl rfl | exact Or.inr rfl) (by decide))) (fun l s0 H0 ex=>(@sts_nil _ _)) (fun l s0 H0 ex=>(@se_call _ _ _ _ _ (1) _ _ _ _ _ k__law_whole keeps__law_whole (hr.mono (by decide)) rfl (@sx_valN _ _ _ _ _ _ (@se_var _ _ _ _ (pv 3)) (@sx_nil _ _) (by rfl)) rfl (by decide) (by rfl) (by rfl))) (np_out hnp rfl) (by intro _; rfl))) (by rfl)) (by intro _; rfl)))))))
     ·refine (@ss_one _ _ _ _ ?_)
      refine (@ss_ret _ _ _ _ _ ?_)
      exact (@se_bl _ _ _ _ _)
     ·exact ss_nil
    refine (@ss_one _ _ _ _ ?_)
    refine (@ss_if _ _ _ _ _ _ _ _ _ ?_ ?_ ?_)
    ·exact (@st_of _ _ _ _ (@sw_or _ _ _ _ _ _ _ _ (@st_not _ _ _ _ _ (@st_chain _ _ _ _ _ _ _ _ _ _ _ _ _ _ _ op_leD op_ltD o2_cmp o2_lt (@se_int _ _ _ _ _) (@se_ixN _ _ _ _ _ _ _ _ _ ix_seq o2_ix (pv 2) (@sb_of _ _ _ _ (@se_int _ _ _ _ _)) (fun _ _=>rfl)) (@sb_of _ _ _ _ (@se_ixN _ _ _ _ _ _ _ _ _ ix_seq o2_ix (pv 0) (@sb_of _ _ _ _ (@se_int _ _ _ _ _)) (fun _ _=>rfl))) (by with_unfolding_all rfl))) (@sw_or1 _ _ _ _ _ (@st_not _ _ _ _ _ (@st_chain _ _ _ _ _ _ _ _ _ _ _ _ _ _ _ op_leD op_ltD o2_cmp o2_lt (@se_int _ _ _ _ _) (@se_ixN _ _ _ _ _ _ _ _ _ ix_seq o2_ix (pv 2) (@sb_of _ _ _ _ (@se_int _ _ _ _ _)) (fun _ _=>rfl)) (@sb_of _ _ _ _ (@se_ixN _ _ _ _ _ _ _ _ _ ix_seq o2_ix (pv 0) (@sb_of _ _ _ _ (@se_int _ _ _ _ _)) (fun _ _=>rfl))) (by with_unfolding_all rfl))))))
    ·refine (@ss_one _ _ _ _ ?_)
     refine (@ss_ret _ _ _ _ _ ?_)
     exact (@se_bl _ _ _ _ _)
    ·exact ss_nil
  refine (@ss_one _ _ _ _ ?_)
  refine (@ss_ret _ _ _ _ _ ?_)
  exact (@se_bl _ _ _ _ _)) fun ss y h=>gOf_run h
/-! ### _law_due_of -/
def b__law_due_of:DS:=(dSeq (dIf (dOr (dNot (dTr (eIsi "tuple" (bVar 1)))) (dOr (dTr (eOp pNe (eC1 pLen (bVar 1)) (bOf (eD (.int 2))))) (dNot (dTr (eIsi "list" (bOf (eOpF pIx 1 (bOf (eD (.int 0)))))))))) (dRet (eD (.bl false))) dNext) (dSeq (dIf (dOr (dNot (dTr (eCall G__law_digits_good [.val (eVar 0),.val (eOpF pIx 1 (bOf (eD (.int 1))))]))) (dTr (eOp pNe (eC1 pLen (bOf (eOpF pIx 1 (bOf (eD (.int 0)))))) (bOf (eOp pAdd (eC1 pLen (bOf (eOpF pIx 1 (bOf (eD (.int 1)))))) (bOf (eD (.int 1)))))))) (dRet (eD (.bl false))) dNext) (dSeq (dAsg (eC1 pDictOf (bOf (eOpF pIx 0 (bOf (eD (.int 2)))))) (gNm [] 2)) (dSeq (dIf (dNot (dTr (eC1 pAll (bOf (eComp [5] (iSq (eOpF pIx 1 (bOf (eD (.int 0))))) (gNm [] 5) dYes (eAnd (eIsi "str" (bVar 5)) (eOp (pIn false) (eVar 5) (bVar 2)))))))) (dRet (eD (.bl false))) dNext) (dSeq (dFor (iEnum (eOpF pIx 1 (bOf (eD (.int 1))))) (gTp 2 (gsCons (gNm [] 3) (gsCons (gNm [] 4) gsNil))) (dIf (dTr (eOp pNe (eOp pIx (eOp pIx (eOpF pIxX 2 (bOf (eOp pIx (eOpF pIx 1 (bOf (eD (.int 0)))) (bVar 3)))) (bOf (eOpF pIx 4 (bOf (eD (.int 0)))))) (bOf (eOpF pIx 4 (bOf (eD (.int 1)))))) (bOf (eOp pIx (eOpF pIx 1 (bOf (eD (.int 0)))) (bOf (eOpF pAdd 3 (bOf (eD (.int 1))))))))) (dRet (eD (.bl false))) dNext)) (dRet (eD (.bl true))))))))
def G__law_due_of:DF:=gOf [] 6 b__law_due_of
theorem keeps__law_due_of:Keeps G__law_due_of:=gOf_keeps
theorem sc__law_due_of:FnScope ["rule","thing","blocks","k","pair","tile"] ["rule","thing"] (defScope s__law_due_of):=⟨rfl,rfl,rfl,by decide +kernel,rfl,by decide +kernel,by decide +kernel⟩
theorem ok__law_due_of {P:Program} {w:World} {K:PySem.W.Frag} {mg:Str→Option Value} {base:Heap} {f:Addr} {fd:FuncData} {ce:Tx→Nat} (F:Fun K "_law_due_of" "_law_due_of" s__law_due_of f fd) (hm:mg "_law_due_of" = some (.ref f)) (hb:Binds K fd ["rule","thing"] []) (T:Txt ce K mg) (k__law_digits_good:KFn P w K mg base 2 "_law_digits_good" 2 G__law_digits_good):KFn P w K mg base 3 "_law_due_of" 2 G__law_due_of :=
 fn_def (np:=[]) (fb:=b__law_due_of) F hm hb sc__law_due_of (fun c cdv A outer s H E hr hnp=>by
  have hq:=hq_of hr
  refine (@ss_cons _ _ _ _ _ _ ?_ ?_)
  ·refine (@ss_if _ _ _ _ _ _ _ _ _ ?_ ?_ ?_)
   ·exact (@st_of _ _ _ _ (@sw_or _ _ _ _ _ _ _ _ (@st_not _ _ _ _ _ (@st_val _ _ _ _ (@se_isi _ _ _ _ _ _ _ _ _ T.ty_tuple rfl T.z_isinstance rfl T.z_tuple boot_tuple (@sb_var _ _ _ _ (pv 1)) (by decide) (by decide) (by rfl) (by rfl)) (by intro _; rfl))) (@sw_or _ _ _ _ _ _ _ _ (@st_cmp _ _ _ _ _ _ _ _ _ _ (op_neD hq) o2_ne (@se_len _ _ _ _ _ _ rfl T.z_len (@sb_var _ _ _ _ (pv 1)) (by rfl)) (@sb_of _ _ _ _ (@se_int _ _ _ _ _)) (nomark _)) (@sw_or1 _ _ _ _ _ (@st_not _ _ _ _ _ (@st_val _ _ _ _ (@se_isi _ _ _ _ _ _ _ _ _ T.ty_list rfl T.z_isinstance rfl T.z_list boot_list (@sb_of _ _ _ _ (@se_ixN _ _ _ _ _ _ _ _ _ ix_seq o2_ix (pv 1) (@sb_of _ _ _ _ (@se_int _ _ _ _ _)) (fun _ _=>rfl))) (by decide) (by decide) (by rfl) (by rfl)) (by intro _; rfl)))))))
   ·refine (@ss_one _ _ _ _ ?_)
    refine (@ss_ret _ _ _ _ _ ?_)
    exact (@se_bl _ _ _ _ _)
   ·exact ss_nil
  refine (@ss_cons _ _ _ _ _ _ ?_ ?_)
  ·refine (@ss_if _ _ _ _ _ _ _ _ _ ?_ ?_ ?_)
   ·exact (@st_of _ _ _ _ (@sw_or _ _ _ _ _ _ _ _ (@st_not _ _ _ _ _ (@st_val _ _ _ _ (@se_call _ _ _ _ _ (2) _ _ _ _ _ k__law_digits_good keeps__law_digits_good (hr.mono (by decide)) rfl (@sx_valN _ _ _ _ _ _ (@se_var _ _ _ _ (pv 0)) (@sx_valN _ _ _ _ _ _ (@se_ixN _ _ _ _ _ _ _ _ _ ix_seq o2_ix (pv 1) (@sb_of _ _ _ _ (@se_int _ _ _ _ _)) (fun _ _=>rfl)) (@sx_nil _ _) (by rfl)) (by rfl)) rfl (by decide) (by rfl) (by rfl)) (by intro _; rfl))) (@sw_or1 _ _ _ _ _ (@st_cmp _ _ _ _ _ _ _ _ _ _ (op_neD hq) o2_ne (@se_len _ _ _ _ _ _ rfl T.z_len (@sb_of _ _ _ _ (@se_ixN _ _ _ _ _ _ _ _ _ ix_seq o2_ix (pv 1) (@sb_of _ _ _ _ (@se_int _ _ _ _ _)) (fun _ _=>rfl))) (by rfl)) (@sb_of _ _ _ _ (@se_op _ _ _ _ _ _ _ _ _ _ op_addD o2_add (@se_len _ _ _ _ _ _ rfl T.z_len (@sb_of _ _ _ _ (@se_ixN _ _ _ _ _ _ _ _ _ ix_seq o2_ix (pv 1) (@sb_of _ _ _ _ (@se_int _ _ _ _ _)) (fun _ _=>rfl))) (by rfl)) (@sb_of _ _ _ _ (@se_int _ _ _ _ _)))) (nomark _)))))
   ·refine (@ss_one _ _ _ _ ?_)
    refine (@ss_ret _ _ _ _ _ ?_)
    exact (@se_bl _ _ _ _ _)
   ·exact ss_nil
  refine (@ss_cons _ _ _ _ _ _ ?_ ?_)
  ·exact (@ss_set _ _ _ _ _ _ ([]) (2) _ hnp sc__law_due_of.nd rfl (by first | exact Or.inl rfl | exact Or.inr rfl) (@se_dictOf _ _ _ _ _ _ rfl rfl T.z_dict (@sb_of _ _ _ _ (@se_ixN _ _ _ _ _ _ _ _ _ ix_seq o2_ix (pv 0) (@sb_of _ _ _ _ (@se_int _ _ _ _ _)) (fun _ _=>rfl))) (by rfl)) rfl (Or.inl rfl))
  refine (@ss_cons _ _ _ _ _ _ ?_ ?_)
  ·refine (@ss_if _ _ _ _ _ _ _ _ _ ?_ ?_ ?_)
   ·exact (@st_not _ _ _ _ _ (@st_val _ _ _ _ (@se_all _ _ _ _ _ _ rfl rfl T.z_all (@sb_of _ _ _ _ (@se_comp _ _ ([5]) _ _ _ _ _ _ _ _ _ _ rfl (@cscope_mk _ _ _ rfl rfl) (@si_sq _ _ _ _ _ (@se_ixN _ _ _ _ _ _ _ _ _ ix_seq o2_ix (pv 1) (@sb_of _ _ _ _ (@se_int _ _ _ _ _)) (fun _ _=>rfl))) (fun l s0 H0 ex=>(@sgc_name _ _ _ _ ([]) (5) _ hnp sc__law_due_of.nd rfl (by first | exact Or.inl rfl | exact Or.inr rfl) (by first | exact Or.inl rfl | exact Or.inr rfl) (by decide))) (fun l s0 H0 ex=>(@sts_nil _ _)) (fun l s0 H0 ex=>(@se_and _ _ _ _ _ _ _ _ (@se_isi _ _ _ _ _ _ _ _ _ T.ty_str rfl T.z_isinstance rfl T.z_str boot_str (@sb_var _ _ _ _ (pv 5)) (by decide) (by decide) (by rfl) (by rfl)) (@se_one _ _ _ _ _ _ (@se_cmp _ _ _ _ _ _ _ _ _ _ (@op_inAll _ hq) (@o2_inAll _ false) (@se_var _ _ _ _ (pv 5)) (@sb_var _ _ _ _ (pv 2)) rfl)))) (np_out hnp rfl) (by intro _; rfl))) (by rfl)) (by intro _; rfl)))
   ·refine (@ss_one _ _ _ _ ?_)
    refine (@ss_ret _ _ _ _ _ ?_)
    exact (@se_bl _ _ _ _ _)
   ·exact ss_nil
  refine (@ss_cons _ _ _ _ _ _ ?_ ?_)
  ·refine (@ss_for _ _ _ _ _ _ _ _ _ PassesOwn.never rfl ?_ ?_ ?_ (by intro _; rfl))
   ·exact (@si_enum _ _ _ _ _ _ _ _ _ rfl T.z_enumerate (@se_ixN _ _ _ _ _ _ _ _ _ ix_seq o2_ix (pv 1) (@sb_of _ _ _ _ (@se_int _ _ _ _ _)) (fun _ _=>rfl)) (by rfl))
   ·exact (@sg_tup _ _ _ _ _ _ _ rfl (@sgs_cons _ _ _ _ _ _ (@sg_name _ _ _ ([]) (3) _ hnp sc__law_due_of.nd rfl (by first | exact Or.inl rfl | exact Or.inr rfl) (Or.inl rfl)) (@sgs_cons _ _ _ _ _ _ (@sg_name _ _ _ ([]) (4) _ hnp sc__law_due_of.nd rfl (by first | exact Or.inl rfl | exact Or.inr rfl) (Or.inl rfl)) (@sgs_nil _ _) (by rfl)) (by rfl)) (by rfl) (by rfl))
   ·refine (@ss_one _ _ _ _ ?_)
    refine (@ss_if _ _ _ _ _ _ _ _ _ ?_ ?_ ?_)
    ·exact (@st_cmp _ _ _ _ _ _ _ _ _ _ (op_neD hq) o2_ne (@se_ix _ _ _ _ _ _ _ _ _ ix_seq o2_ix (@se_ix _ _ _ _ _ _ _ _ _ ix_seq o2_ix (@se_ixN _ _ _ _ _ _ _ _ _ (ix_X hq) o2_ixX (pv 2) (@sb_of _ _ _ _ (@se_ix _ _ _ _ _ _ _ _ _ ix_seq o2_ix (@se_ixN _ _ _ _ _ _ _ _ _ ix_seq o2_ix (pv 1) (@sb_of _ _ _ _ (@se_int _ _ _ _ _)) (fun _ _=>rfl)) (@sb_var _ _ _ _ (pv 3)) (fun _ _=>rfl))) (fun _ _=>rfl)) (@sb_of _ _ _ _ (@se_ixN _ _ _ _ _ _ _ _ _ ix_seq o2_ix (pv 4) (@sb_of _ _ _ _ (@se_int _ _ _ _ _)) (fun _ _=>rfl))) (fun _ _=>rfl)) (@sb_of _ _ _ _ (@se_ixN _ _ _ _ _ _ _ _ _ ix_seq o2_ix (pv 4) (@sb_of _ _ _ _ (@se_int _ _ _ _ _)) (fun _ _=>rfl))) (fun _ _=>rfl)) (@sb_of _ _ _ _ (@se_ix _ _ _ _ _ _ _ _ _ ix_seq o2_ix (@se_ixN _ _ _ _ _ _ _ _ _ ix_seq o2_ix (pv 1) (@sb_of _ _ _ _ (@se_int _ _ _ _ _)) (fun _ _=>rfl)) (@sb_of _ _ _ _ (@se_opN _ _ _ _ _ _ _ _ _ _ op_addD o2_add (pv 3) (@sb_of _ _ _ _ (@se_int _ _ _ _ _)))) (fun _ _=>rfl))) (nomark _))
    ·refine (@ss_one _ _ _ _ ?_)
     refine (@ss_ret _ _ _ _ _ ?_)
     exact (@se_bl _ _ _ _ _)
    ·exact ss_nil
  refine (@ss_one _ _ _ _ ?_)
  refine (@ss_ret _ _ _ _ _ ?_)
  exact (@se_bl _ _ _ _ _)) fun ss y h=>gOf_run h
/-! ### _law_right -/
def b__law_right:DS:=(dSeq (dAsg (eCall G__law_due_of [.val (eVar 0),.val (eVar 1)]) (gNm [] 2)) (dSeq (dAsg (eCall G_line_holds [.val (eVar 0),.val (eVar 1)]) (gNm [] 3)) (dRet (eAnd (eIsi "bool" (bVar 3)) (eAnd (eOpF pEq 3 (bVar 2)) (eOp pEq (eCall G_line_holds [.val (eVar 0),.val (eVar 1)]) (bVar 2)))))))
def G__law_right:DF:=gOf [] 4 b__law_right
theorem keeps__law_right:Keeps G__law_right:=gOf_keeps
theorem sc__law_right:FnScope ["rule","thing","due","found"] ["rule","thing"] (defScope s__law_right):=⟨rfl,rfl,rfl,by decide +kernel,rfl,by decide +kernel,by decide +kernel⟩
theorem ok__law_right {P:Program} {w:World} {K:PySem.W.Frag} {mg:Str→Option Value} {base:Heap} {f:Addr} {fd:FuncData} {ce:Tx→Nat} (F:Fun K "_law_right" "_law_right" s__law_right f fd) (hm:mg "_law_right" = some (.ref f)) (hb:Binds K fd ["rule","thing"] []) (T:Txt ce K mg) (k_line_holds:KFn P w K mg base 5 "line_holds" 2 G_line_holds) (k__law_due_of:KFn P w K mg base 3 "_law_due_of" 2 G__law_due_of):KFn P w K mg base 6 "_law_right" 2 G__law_right :=
 fn_def (np:=[]) (fb:=b__law_right) F hm hb sc__law_right (fun c cdv A outer s H E hr hnp=>by
  have hq:=hq_of hr
  refine (@ss_cons _ _ _ _ _ _ ?_ ?_)
  ·exact (@ss_set _ _ _ _ _ _ ([]) (2) _ hnp sc__law_right.nd rfl (by first | exact Or.inl rfl | exact Or.inr rfl) (@se_call _ _ _ _ _ (3) _ _ _ _ _ k__law_due_of keeps__law_due_of (hr.mono (by decide)) rfl (@sx_valN _ _ _ _ _ _ (@se_var _ _ _ _ (pv 0)) (@sx_valN _ _ _ _ _ _ (@se_var _ _ _ _ (pv 1)) (@sx_nil _ _) (by rfl)) (by rfl)) rfl (by decide) (by rfl) (by rfl)) rfl (Or.inl rfl))
  refine (@ss_cons _ _ _ _ _ _ ?_ ?_)
  ·exact (@ss_set _ _ _ _ _ _ ([]) (3) _ hnp sc__law_right.nd rfl (by first | exact Or.inl rfl | exact Or.inr rfl) (@se_call _ _ _ _ _ (5) _ _ _ _ _ k_line_holds keeps_line_holds (hr.mono (by decide)) rfl (@sx_valN _ _ _ _ _ _ (@se_var _ _ _ _ (pv 0)) (@sx_valN _ _ _ _ _ _ (@se_var _ _ _ _ (pv 1)) (@sx_nil _ _) (by rfl)) (by rfl)) rfl (by decide) (by rfl) (by rfl)) rfl (Or.inl rfl))
  refine (@ss_one _ _ _ _ ?_)
  refine (@ss_ret _ _ _ _ _ ?_)
  exact (@se_and _ _ _ _ _ _ _ _ (@se_isi _ _ _ _ _ _ _ _ _ T.ty_bool rfl T.z_isinstance rfl T.z_bool boot_bool (@sb_var _ _ _ _ (pv 3)) (by decide) (by decide) (by rfl) (by rfl)) (@se_and _ _ _ _ _ _ _ _ (@se_cmpN _ _ _ _ _ _ _ _ _ _ (op_eqD hq) o2_eq (pv 3) (@sb_var _ _ _ _ (pv 2)) (nomark _)) (@se_one _ _ _ _ _ _ (@se_cmp _ _ _ _ _ _ _ _ _ _ (op_eqD hq) o2_eq (@se_call _ _ _ _ _ (5) _ _ _ _ _ k_line_holds keeps_line_holds (hr.mono (by decide)) rfl (@sx_valN _ _ _ _ _ _ (@se_var _ _ _ _ (pv 0)) (@sx_valN _ _ _ _ _ _ (@se_var _ _ _ _ (pv 1)) (@sx_nil _ _) (by rfl)) (by rfl)) rfl (by decide) (by rfl) (by rfl)) (@sb_var _ _ _ _ (pv 2)) (nomark _)))))) fun ss y h=>gOf_run h
/-! ### _law_odd_digits -/
def b__law_odd_digits:DS:=(dSeq (dAsg (eCall G__law_draw [.io 0,.val (eOp pAdd (eC1 pLen (bVar 2)) (bOf (eD (.int 1))))]) (gNm [0] 3)) (dSeq (dAsg (eD (.tup [.int 0,.int 0])) (gNm [0] 4)) (dSeq (dIf (dTr (eOpF pLt 3 (bOf (eC1 pLen (bVar 2))))) (dAsg (eOpF pIx 2 (bVar 3)) (gNm [0] 4)) dNext) (dSeq (dAsg (eLst (aCons (eTup (aCons (eOp pAdd (eOpF pIx 4 (bOf (eD (.int 0)))) (bOf (eD (.int 1)))) (aCons (eOpF pIx 4 (bOf (eD (.int 1)))) aNil))) (aCons (eTup (aCons (eOpF pIx 4 (bOf (eD (.int 0)))) (aCons (eOp pAdd (eOpF pIx 4 (bOf (eD (.int 1)))) (bOf (eD (.int 1)))) aNil))) (aCons (eTup (aCons (eOpF pIx 1 (bOf (eD (.int 0)))) (aCons (eD (.int 0)) aNil))) aNil)))) (gNm [0] 5)) (dSeq (dAsg (eOpF pAdd 5 (bOf (eLst (aCons (eTup (aCons (eD (.int 0)) (aCons (eOpF pIx 1 (bOf (eD (.int 1)))) aNil))) (aCons (eTup (aCons (eC1 pNeg (bOf (eD (.int 1)))) (aCons (eD (.int 0)) aNil))) (aCons (eTup (aCons (eD (.int 0)) (aCons (eC1 pNeg (bOf (eD (.int 1)))) aNil))) aNil)))))) (gNm [0] 5)) (dSeq (dAsg (eOpF pAdd 5 (bOf (eLst (aCons (eD (.tup [.bl false,.int 0])) (aCons (eD (.tup [.int 0,.bl false])) (aCons (eD (.tup [.non,.int 0])) (aCons (eD (.tup [.str [48],.int 0])) (aCons (eOpF pAdd 4 (bOf (eD (.tup [.int 0])))) aNil)))))))) (gNm [0] 5)) (dSeq (dAsg (eOpF pAdd 5 (bOf (eLst (aCons (eSlN 4 oNone (oSome (eD (.int 1)))) (aCons (eC1 pListX (bVar 4)) (aCons (eD .non) (aCons (eD (.int 0)) (aCons (eD (.str [48,48])) aNil)))))))) (gNm [0] 5)) (dRet (eOp pAdd (eOp pAdd (eSlN 2 oNone (oSome (eVar 3))) (bOf (eLst (aCons (eOp pIx (eOpF pAdd 5 (bOf (eLst (aCons (eTup (aCons (eVar 4) (aCons (eVar 4) aNil))) aNil)))) (bOf (eCall G__law_draw [.io 0,.val (eD (.int 17))]))) aNil)))) (bOf (eSlN 2 (oSome (eOpF pAdd 3 (bOf (eD (.int 1))))) oNone)))))))))))
def G__law_odd_digits:DF:=gOf [0] 6 b__law_odd_digits
theorem keeps__law_odd_digits:Keeps G__law_odd_digits:=gOf_keeps
theorem sc__law_odd_digits:FnScope ["pen","rule","digits","spot","pair","some"] ["pen","rule","digits"] (defScope s__law_odd_digits):=⟨rfl,rfl,rfl,by decide +kernel,rfl,by decide +kernel,by decide +kernel⟩
theorem ok__law_odd_digits {P:Program} {w:World} {K:PySem.W.Frag} {mg:Str→Option Value} {base:Heap} {f:Addr} {fd:FuncData} {ce:Tx→Nat} (F:Fun K "_law_odd_digits" "_law_odd_digits" s__law_odd_digits f fd) (hm:mg "_law_odd_digits" = some (.ref f)) (hb:Binds K fd ["pen","rule","digits"] []) (T:Txt ce K mg) (k__law_draw:KFn P w K mg base 2 "_law_draw" 2 G__law_draw):KFn P w K mg base 3 "_law_odd_digits" 3 G__law_odd_digits :=
 fn_def (np:=[0]) (fb:=b__law_odd_digits) F hm hb sc__law_odd_digits (fun c cdv A outer s H E hr hnp=>by
  have hq:=hq_of hr
  refine (@ss_cons _ _ _ _ _ _ ?_ ?_)
  ·exact (@ss_set _ _ _ _ _ _ ([0]) (3) _ hnp sc__law_odd_digits.nd rfl (by first | exact Or.inl rfl | exact Or.inr rfl) (@se_call _ _ _ _ _ (2) _ _ _ _ _ k__law_draw keeps__law_draw (hr.mono (by decide)) rfl (@sx_ioN _ _ _ _ _ _ (pv 0) (@sx_valN _ _ _ _ _ _ (@se_op _ _ _ _ _ _ _ _ _ _ op_addD o2_add (@se_len _ _ _ _ _ _ rfl T.z_len (@sb_var _ _ _ _ (pv 2)) (by rfl)) (@sb_of _ _ _ _ (@se_int _ _ _ _ _))) (@sx_nil _ _) (by rfl)) (by rfl)) rfl (by decide) (by rfl) (by rfl)) rfl (Or.inl rfl))
  refine (@ss_cons _ _ _ _ _ _ ?_ ?_)
  ·exact (@ss_set _ _ _ _ _ _ ([0]) (4) _ hnp sc__law_odd_digits.nd rfl (by first | exact Or.inl rfl | exact Or.inr rfl) (@se_const _ _ _ _ (by rfl)) rfl (Or.inl rfl))
  refine (@ss_cons _ _ _ _ _ _ ?_ ?_)
  ·refine (@ss_if _ _ _ _ _ _ _ _ _ ?_ ?_ ?_)
   ·exact (@st_cmpN _ _ _ _ _ _ _ _ _ _ op_ltD o2_lt (pv 3) (@sb_of _ _ _ _ (@se_len _ _ _ _ _ _ rfl T.z_len (@sb_var _ _ _ _ (pv 2)) (by rfl))) (nomark _))
   ·refine (@ss_one _ _ _ _ ?_)
    exact (@ss_set _ _ _ _ _ _ ([0]) (4) _ hnp sc__law_odd_digits.nd rfl (by first | exact Or.inl rfl | exact Or.inr rfl) (@se_ixN _ _ _ _ _ _ _ _ _ ix_seq o2_ix (pv 2) (@sb_var _ _ _ _ (pv 3)) (fun _ _=>rfl)) rfl (Or.inl rfl))
   ·exact ss_nil
  refine (@ss_cons _ _ _ _ _ _ ?_ ?_)
  ·exact (@ss_set _ _ _ _ _ _ ([0]) (5) _ hnp sc__law_odd_digits.nd rfl (by first | exact Or.inl rfl | exact Or.inr rfl) (@se_lst _ _ _ _ _ (@sa_consN _ _ _ _ _ _ (@se_tup _ _ _ _ _ _ (@sa_consN _ _ _ _ _ _ (@se_op _ _ _ _ _ _ _ _ _ _ op_addD o2_add (@se_ixN _ _ _ _ _ _ _ _ _ ix_seq o2_ix (pv 4) (@sb_of _ _ _ _ (@se_int _ _ _ _ _)) (fun _ _=>rfl)) (@sb_of _ _ _ _ (@se_int _ _ _ _ _))) (@sa_consN _ _ _ _ _ _ (@se_ixN _ _ _ _ _ _ _ _ _ ix_seq o2_ix (pv 4) (@sb_of _ _ _ _ (@se_int _ _ _ _ _)) (fun _ _=>rfl)) (@sa_nil _ _) (by rfl)) (by rfl)) (by decide)) (@sa_consN _ _ _ _ _ _ (@se_tup _ _ _ _ _ _ (@sa_consN _ _ _ _ _ _ (@se_ixN _ _ _ _ _ _ _ _ _ ix_seq o2_ix (pv 4) (@sb_of _ _ _ _ (@se_int _ _ _ _ _)) (fun _ _=>rfl)) (@sa_consN _ _ _ _ _ _ (@se_op _ _ _ _ _ _ _ _ _ _ op_addD o2_add (@se_ixN _ _ _ _ _ _ _ _ _ ix_seq o2_ix (pv 4) (@sb_of _ _ _ _ (@se_int _ _ _ _ _)) (fun _ _=>rfl)) (@sb_of _ _ _ _ (@se_int _ _ _ _ _))) (@sa_nil _ _) (by rfl)) (by rfl)) (by decide)) (@sa_consN _ _ _ _ _ _ (@se_tup _ _ _ _ _ _ (@sa_consN _ _ _ _ _ _ (@se_ixN _ _ _ _ _ _ _ _ _ ix_seq o2_ix (pv 1) (@sb_of _ _ _ _ (@se_int _ _ _ _ _)) (fun _ _=>rfl)) (@sa_consN _ _ _ _ _ _ (@se_int _ _ _ _ _) (@sa_nil _ _) (by rfl)) (by rfl)) (by decide)) (@sa_nil _ _) (by rfl)) (by rfl)) (by rfl)) (by decide)) rfl (Or.inl rfl))
  refine (@ss_cons _ _ _ _ _ _ ?_ ?_)
  ·exact (@ss_set _ _ _ _ _ _ ([0]) (5) _ hnp sc__law_odd_digits.nd rfl (by first | exact Or.inl rfl | exact Or.inr rfl) (@se_opN _ _ _ _ _ _ _ _ _ _ op_addD o2_add (pv 5) (@sb_of _ _ _ _ (@se_lst _ _ _ _ _ (@sa_consN _ _ _ _ _ _ (@se_tup _ _ _ _ _ _ (@sa_consN _ _ _ _ _ _ (@se_int _ _ _ _ _) (@sa_consN _ _ _ _ _ _ (@se_ixN _ _ _ _ _ _ _ _ _ ix_seq o2_ix (pv 1) (@sb_of _ _ _ _ (@se_int _ _ _ _ _)) (fun _ _=>rfl)) (@sa_nil _ _) (by rfl)) (by rfl)) (by decide)) (@sa_consN _ _ _ _ _ _ (@se_tup _ _ _ _ _ _ (@sa_consN _ _ _ _ _ _ (@se_neg _ _ _ _ _ (@sb_of _ _ _ _ (@se_int _ _ _ _ _))) (@sa_consN _ _ _ _ _ _ (@se_int _ _ _ _ _) (@sa_nil _ _) (by rfl)) (by rfl)) (by decide)) (@sa_consN _ _ _ _ _ _ (@se_tup _ _ _ _ _ _ (@sa_consN _ _ _ _ _ _ (@se_int _ _ _ _ _) (@sa_consN _ _ _ _ _ _ (@se_neg _ _ _ _ _ (@sb_of _ _ _ _ (@se_int _ _ _ _ _))) (@sa_nil _ _) (by rfl)) (by rfl)) (by decide)) (@sa_nil _ _) (by rfl)) (by rfl)) (by rfl)) (by decide)))) rfl (Or.inl rfl))
  refine (@ss_cons _ _ _ _ _ _ ?_ ?_)
  ·exact (@ss_set _ _ _ _ _ _ ([0]) (5) _ hnp sc__law_odd_digits.nd rfl (by first | exact Or.inl rfl | exact Or.inr rfl) (@se_opN _ _ _ _ _ _ _ _ _ _ op_addD o2_add (pv 5) (@sb_of _ _ _ _ (@se_lst _ _ _ _ _ (@sa_consN _ _ _ _ _ _ (@se_const _ _ _ _ (by rfl)) (@sa_consN _ _ _ _ _ _ (@se_const _ _ _ _ (by rfl)) (@sa_consN _ _ _ _ _ _ (@se_const _ _ _ _ (by rfl)) (@sa_consN _ _ _ _ _ _ (@se_const _ _ _ _ (by rfl)) (@sa_consN _ _ _ _ _ _ (@se_opN _ _ _ _ _ _ _ _ _ _ op_addD o2_add (pv 4) (@sb_of _ _ _ _ (@se_const _ _ _ _ (by rfl)))) (@sa_nil _ _) (by rfl)) (by rfl)) (by rfl)) (by rfl)) (by rfl)) (by decide)))) rfl (Or.inl rfl))
  refine (@ss_cons _ _ _ _ _ _ ?_ ?_)
  ·exact (@ss_set _ _ _ _ _ _ ([0]) (5) _ hnp sc__law_odd_digits.nd rfl (by first | exact Or.inl rfl | exact Or.inr rfl) (@se_opN _ _ _ _ _ _ _ _ _ _ op_addD o2_add (pv 5) (@sb_of _ _ _ _ (@se_lst _ _ _ _ _ (@sa_consN _ _ _ _ _ _ (@se_slN _ _ _ _ _ _ _ _ _ _ (pv 4) (@so_none _ _) (@so_some _ _ _ _ (@se_int _ _ _ _ _))) (@sa_consN _ _ _ _ _ _ (@se_listX _ _ _ _ _ _ rfl rfl T.z_list (@sb_var _ _ _ _ (pv 4)) (by rfl)) (@sa_consN _ _ _ _ _ _ (@se_non _ _ _ _) (@sa_consN _ _ _ _ _ _ (@se_int _ _ _ _ _) (@sa_consN _ _ _ _ _ _ (@se_str _ _ _ _ _ [48,48] (by decide +kernel)) (@sa_nil _ _) (by rfl)) (by rfl)) (by rfl)) (by rfl)) (by rfl)) (by decide)))) rfl (Or.inl rfl))
  refine (@ss_one _ _ _ _ ?_)
  refine (@ss_ret _ _ _ _ _ ?_)
  exact (@se_op _ _ _ _ _ _ _ _ _ _ op_addD o2_add (@se_op _ _ _ _ _ _ _ _ _ _ op_addD o2_add (@se_slN _ _ _ _ _ _ _ _ _ _ (pv 2) (@so_none _ _) (@so_some _ _ _ _ (@se_var _ _ _ _ (pv 3)))) (@sb_of _ _ _ _ (@se_lst _ _ _ _ _ (@sa_consN _ _ _ _ _ _ (@se_ix _ _ _ _ _ _ _ _ _ ix_seq o2_ix (@se_opN _ _ _ _ _ _ _ _ _ _ op_addD o2_add (pv 5) (@sb_of _ _ _ _ (@se_lst _ _ _ _ _ (@sa_consN _ _ _ _ _ _ (@se_tup _ _ _ _ _ _ (@sa_consN _ _ _ _ _ _ (@se_var _ _ _ _ (pv 4)) (@sa_consN _ _ _ _ _ _ (@se_var _ _ _ _ (pv 4)) (@sa_nil _ _) (by rfl)) (by rfl)) (by decide)) (@sa_nil _ _) (by rfl)) (by decide)))) (@sb_of _ _ _ _ (@se_call _ _ _ _ _ (2) _ _ _ _ _ k__law_draw keeps__law_draw (hr.mono (by decide)) rfl (@sx_ioN _ _ _ _ _ _ (pv 0) (@sx_valN _ _ _ _ _ _ (@se_int _ _ _ _ _) (@sx_nil _ _) (by rfl)) (by rfl)) rfl (by decide) (by rfl) (by rfl))) (fun _ _=>rfl)) (@sa_nil _ _) (by rfl)) (by decide)))) (@sb_of _ _ _ _ (@se_slN _ _ _ _ _ _ _ _ _ _ (pv 2) (@so_some _ _ _ _ (@se_opN _ _ _ _ _ _ _ _ _ _ op_addD o2_add (pv 3) (@sb_of _ _ _ _ (@se_int _ _ _ _ _)))) (@so_none _ _))))) fun ss y h=>gOf_run h
/-! ### _law_odd_of -/
def b__law_odd_of:DS:=(dSeq (dAsg (eVar 2) (gTp 2 (gsCons (gNm [0] 3) (gsCons (gNm [0] 4) gsNil)))) (dSeq (dAsg (eCall G__law_draw [.io 0,.val (eC1 pLen (bVar 3))]) (gNm [0] 5)) (dSeq (dAsg (eOp pIx (eCall G__law_tiles_of [.val (eVar 1)]) (bOf (eCall G__law_draw [.io 0,.val (eC1 pLen (bOf (eOpF pIx 1 (bOf (eD (.int 2))))))]))) (gNm [0] 6)) (dSeq (dAsg (eLst aNil) (gNm [0] 7)) (dSeq (dFor (iSq (eLst (aCons (eVar 6) (aCons (eVar 6) (aCons (eD (.str [65])) (aCons (eD (.str [])) (aCons (eD (.str [97,98])) (aCons (eD .non) (aCons (eD (.int 0)) (aCons (eLst (aCons (eVar 6) aNil)) aNil)))))))))) (gNm [0] 8) (dAppend 7 (eTup (aCons (eOp pAdd (eOp pAdd (eSlN 3 oNone (oSome (eVar 5))) (bOf (eLst (aCons (eVar 8) aNil)))) (bOf (eSlN 3 (oSome (eOpF pAdd 5 (bOf (eD (.int 1))))) oNone))) (aCons (eVar 4) aNil))))) (dSeq (dAsg (eOpF pAdd 7 (bOf (eLst (aCons (eTup (aCons (eC1 pTuple (bVar 3)) (aCons (eVar 4) aNil))) (aCons (eTup (aCons (eVar 3) (aCons (eC1 pTuple (bVar 4)) aNil))) (aCons (eLst (aCons (eVar 3) (aCons (eVar 4) aNil))) aNil)))))) (gNm [0] 7)) (dSeq (dAsg (eOpF pAdd 7 (bOf (eLst (aCons (eTup (aCons (eVar 3) aNil)) (aCons (eTup (aCons (eVar 3) (aCons (eVar 4) (aCons (eD (.int 0)) aNil)))) aNil))))) (gNm [0] 7)) (dSeq (dAsg (eOpF pAdd 7 (bOf (eLst (aCons (eTup (aCons (eSlN 3 oNone (oSome (eC1 pNeg (bOf (eD (.int 1)))))) (aCons (eVar 4) aNil))) (aCons (eTup (aCons (eOpF pAdd 3 (bOf (eLst (aCons (eVar 6) aNil)))) (aCons (eVar 4) aNil))) (aCons (eTup (aCons (eVar 3) (aCons (eSlN 4 (oSome (eD (.int 1))) oNone) aNil))) aNil)))))) (gNm [0] 7)) (dSeq (dAsg (eOpF pAdd 7 (bOf (eLst (aCons (eTup (aCons (eVar 4) (aCons (eVar 3) aNil))) (aCons (eD .non) aNil))))) (gNm [0] 7)) (dSeq (dAsg (eOp pAdd (eOpF pAdd 7 (bOf (eOp pMulL (eLst (aCons (eTup (aCons (eVar 3) (aCons (eCall G__law_odd_digits [.io 0,.val (eVar 1),.val (eVar 4)]) aNil))) aNil)) (bOf (eD (.int 9)))))) (bOf (eLst (aCons (eTup (aCons (eD (.str [])) (aCons (eVar 4) aNil))) (aCons (eTup (aCons (eC1 pRevX (bVar 3)) (aCons (eVar 4) aNil))) aNil))))) (gNm [0] 7)) (dRet (eOp pIx (eOpF pAdd 7 (bOf (eLst (aCons (eD (.tup [.tup [],.tup []])) (aCons (eTup (aCons (eLst aNil) (aCons (eLst aNil) aNil))) (aCons (eD (.int 7)) (aCons eDict0 aNil))))))) (bOf (eCall G__law_draw [.io 0,.val (eOp pAdd (eC1 pLen (bVar 7)) (bOf (eD (.int 4))))]))))))))))))))
def G__law_odd_of:DF:=gOf [0] 9 b__law_odd_of
theorem keeps__law_odd_of:Keeps G__law_odd_of:=gOf_keeps
theorem sc__law_odd_of:FnScope ["pen","rule","line","tiles","digits","spot","other","some","one"] ["pen","rule","line"] (defScope s__law_odd_of):=⟨rfl,rfl,rfl,by decide +kernel,rfl,by decide +kernel,by decide +kernel⟩
theorem ok__law_odd_of {P:Program} {w:World} {K:PySem.W.Frag} {mg:Str→Option Value} {base:Heap} {f:Addr} {fd:FuncData} {ce:Tx→Nat} (F:Fun K "_law_odd_of" "_law_odd_of" s__law_odd_of f fd) (hm:mg "_law_odd_of" = some (.ref f)) (hb:Binds K fd ["pen","rule","line"] []) (T:Txt ce K mg) (k__law_draw:KFn P w K mg base 2 "_law_draw" 2 G__law_draw) (k__law_tiles_of:KFn P w K mg base 1 "_law_tiles_of" 1 G__law_tiles_of) (k__law_odd_digits:KFn P w K mg base 3 "_law_odd_digits" 3 G__law_odd_digits):KFn P w K mg base 4 "_law_odd_of" 3 G__law_odd_of :=
 fn_def (np:=[0]) (fb:=b__law_odd_of) F hm hb sc__law_odd_of (fun c cdv A outer s H E hr hnp=>by
  have hq:=hq_of hr
  refine (@ss_cons _ _ _ _ _ _ ?_ ?_)
  ·refine (@ss_asg _ _ _ _ _ _ _ ?_ ?_ (by rfl) (by rfl) (by rfl))
   ·exact (@se_var _ _ _ _ (pv 2))
   ·exact (@sg_tup _ _ _ _ _ _ _ rfl (@sgs_cons _ _ _ _ _ _ (@sg_name _ _ _ ([0]) (3) _ hnp sc__law_odd_of.nd rfl (by first | exact Or.inl rfl | exact Or.inr rfl) (Or.inl rfl)) (@sgs_cons _ _ _ _ _ _ (@sg_name _ _ _ ([0]) (4) _ hnp sc__law_odd_of.nd rfl (by first | exact Or.inl rfl | exact Or.inr rfl) (Or.inl rfl)) (@sgs_nil _ _) (by rfl)) (by rfl)) (by rfl) (by rfl))
  refine (@ss_cons _ _ _ _ _ _ ?_ ?_)
  ·exact (@ss_set _ _ _ _ _ _ ([0]) (5) _ hnp sc__law_odd_of.nd rfl (by first | exact Or.inl rfl | exact Or.inr rfl) (@se_call _ _ _ _ _ (2) _ _ _ _ _ k__law_draw keeps__law_draw (hr.mono (by decide)) rfl (@sx_ioN _ _ _ _ _ _ (pv 0) (@sx_valN _ _ _ _ _ _ (@se_len _ _ _ _ _ _ rfl T.z_len (@sb_var _ _ _ _ (pv 3)) (by rfl)) (@sx_nil _ _) (by rfl)) (by rfl)) rfl (by decide) (by rfl) (by rfl)) rfl (Or.inl rfl))
  refine (@ss_cons _ _ _ _ _ _ ?_ ?_)
  ·exact (@ss_set _ _ _ _ _ _ ([0]) (6) _ hnp sc__law_odd_of.nd rfl (by first | exact Or.inl rfl | exact Or.inr rfl) (@se_ix _ _ _ _ _ _ _ _ _ ix_seq o2_ix (@se_call _ _ _ _ _ (1) _ _ _ _ _ k__law_tiles_of keeps__law_tiles_of (hr.mono (by decide)) rfl (@sx_valN _ _ _ _ _ _ (@se_var _ _ _ _ (pv 1)) (@sx_nil _ _) (by rfl)) rfl (by decide) (by rfl) (by rfl)) (@sb_of _ _ _ _ (@se_call _ _ _ _ _ (2) _ _ _ _ _ k__law_draw keeps__law_draw (hr.mono (by decide)) rfl (@sx_ioN _ _ _ _ _ _ (pv 0) (@sx_valN _ _ _ _ _ _ (@se_len _ _ _ _ _ _ rfl T.z_len (@sb_of _ _ _ _ (@se_ixN _ _ _ _ _ _ _ _ _ ix_seq o2_ix (pv 1) (@sb_of _ _ _ _ (@se_int _ _ _ _ _)) (fun _ _=>rfl))) (by rfl)) (@sx_nil _ _) (by rfl)) (by rfl)) rfl (by decide) (by rfl) (by rfl))) (fun _ _=>rfl)) rfl (Or.inl rfl))
  refine (@ss_cons _ _ _ _ _ _ ?_ ?_)
  ·exact (@ss_set _ _ _ _ _ _ ([0]) (7) _ hnp sc__law_odd_of.nd rfl (by first | exact Or.inl rfl | exact Or.inr rfl) (@se_lst _ _ _ _ _ (@sa_nil _ _) (by decide)) rfl (Or.inl rfl))
  refine (@ss_cons _ _ _ _ _ _ ?_ ?_)
  ·refine (@ss_for _ _ _ _ _ _ _ _ _ PassesOwn.never rfl ?_ ?_ ?_ (by intro _; rfl))
   ·exact (@si_sq _ _ _ _ _ (@se_lst _ _ _ _ _ (@sa_consN _ _ _ _ _ _ (@se_var _ _ _ _ (pv 6)) (@sa_consN _ _ _ _ _ _ (@se_var _ _ _ _ (pv 6)) (@sa_consN _ _ _ _ _ _ (@se_str _ _ _ _ _ [65] (by decide +kernel)) (@sa_consN _ _ _ _ _ _ (@se_str _ _ _ _ _ [] (by decide +kernel)) (@sa_consN _ _ _ _ _ _ (@se_str _ _ _ _ _ [97,98] (by decide +kernel)) (@sa_consN _ _ _ _ _ _ (@se_non _ _ _ _) (@sa_consN _ _ _ _ _ _ (@se_int _ _ _ _ _) (@sa_consN _ _ _ _ _ _ (@se_lst _ _ _ _ _ (@sa_consN _ _ _ _ _ _ (@se_var _ _ _ _ (pv 6)) (@sa_nil _ _) (by rfl)) (by decide)) (@sa_nil _ _) (by rfl)) (by rfl)) (by rfl)) (by rfl)) (by rfl)) (by rfl)) (by rfl)) (by rfl)) (by decide)))
   ·exact (@sg_name _ _ _ ([0]) (8) _ hnp sc__law_odd_of.nd rfl (by first | exact Or.inl rfl | exact Or.inr rfl) (Or.inl rfl))
   ·refine (@ss_one _ _ _ _ ?_)
    exact (@ss_appendN _ _ _ _ _ _ _ _ _ (pv 7) (@se_tup _ _ _ _ _ _ (@sa_consN _ _ _ _ _ _ (@se_op _ _ _ _ _ _ _ _ _ _ op_addD o2_add (@se_op _ _ _ _ _ _ _ _ _ _ op_addD o2_add (@se_slN _ _ _ _ _ _ _ _ _ _ (pv 3) (@so_none _ _) (@so_some _ _ _ _ (@se_var _ _ _ _ (pv 5)))) (@sb_of _ _ _ _ (@se_lst _ _ _ _ _ (@sa_consN _ _ _ _ _ _ (@se_var _ _ _ _ (pv 8)) (@sa_nil _ _) (by rfl)) (by decide)))) (@sb_of _ _ _ _ (@se_slN _ _ _ _ _ _ _ _ _ _ (pv 3) (@so_some _ _ _ _ (@se_opN _ _ _ _ _ _ _ _ _ _ op_addD o2_add (pv 5) (@sb_of _ _ _ _ (@se_int _ _ _ _ _)))) (@so_none _ _)))) (@sa_consN _ _ _ _ _ _ (@se_var _ _ _ _ (pv 4)) (@sa_nil _ _) (by rfl)) (by rfl)) (by decide)) (by rfl) (by rfl) (by rfl) (by rfl) (by rfl))
  refine (@ss_cons _ _ _ _ _ _ ?_ ?_)
  ·exact (@ss_set _ _ _ _ _ _ ([0]) (7) _ hnp sc__law_odd_of.nd rfl (by first | exact Or.inl rfl | exact Or.inr rfl) (@se_opN _ _ _ _ _ _ _ _ _ _ op_addD o2_add (pv 7) (@sb_of _ _ _ _ (@se_lst _ _ _ _ _ (@sa_consN _ _ _ _ _ _ (@se_tup _ _ _ _ _ _ (@sa_consN _ _ _ _ _ _ (@se_tuple _ _ _ _ _ _ rfl T.z_tuple (@sb_var _ _ _ _ (pv 3)) (by rfl)) (@sa_consN _ _ _ _ _ _ (@se_var _ _ _ _ (pv 4)) (@sa_nil _ _) (by rfl)) (by rfl)) (by decide)) (@sa_consN _ _ _ _ _ _ (@se_tup _ _ _ _ _ _ (@sa_consN _ _ _ _ _ _ (@se_var _ _ _ _ (pv 3)) (@sa_consN _ _ _ _ _ _ (@se_tuple _ _ _ _ _ _ rfl T.z_tuple (@sb_var _ _ _ _ (pv 4)) (by rfl)) (@sa_nil _ _) (by rfl)) (by rfl)) (by decide)) (@sa_consN _ _ _ _ _ _ (@se_lst _ _ _ _ _ (@sa_consN _ _ _ _ _ _ (@se_var _ _ _ _ (pv 3)) (@sa_consN _ _ _ _ _ _ (@se_var _ _ _ _ (pv 4)) (@sa_nil _ _) (by rfl)) (by rfl)) (by decide)) (@sa_nil _ _) (by rfl)) (by rfl)) (by rfl)) (by decide)))) rfl (Or.inl rfl))
  refine (@ss_cons _ _ _ _ _ _ ?_ ?_)
  ·exact (@ss_set _ _ _ _ _ _ ([0]) (7) _ hnp sc__law_odd_of.nd rfl (by first | exact Or.inl rfl | exact Or.inr rfl) (@se_opN _ _ _ _ _ _ _ _ _ _ op_addD o2_add (pv 7) (@sb_of _ _ _ _ (@se_lst _ _ _ _ _ (@sa_consN _ _ _ _ _ _ (@se_tup _ _ _ _ _ _ (@sa_consN _ _ _ _ _ _ (@se_var _ _ _ _ (pv 3)) (@sa_nil _ _) (by rfl)) (by decide)) (@sa_consN _ _ _ _ _ _ (@se_tup _ _ _ _ _ _ (@sa_consN _ _ _ _ _ _ (@se_var _ _ _ _ (pv 3)) (@sa_consN _ _ _ _ _ _ (@se_var _ _ _ _ (pv 4)) (@sa_consN _ _ _ _ _ _ (@se_int _ _ _ _ _) (@sa_nil _ _) (by rfl)) (by rfl)) (by rfl)) (by decide)) (@sa_nil _ _) (by rfl)) (by rfl)) (by decide)))) rfl (Or.inl rfl))
  refine (@ss_cons _ _ _ _ _ _ ?_ ?_)
  ·exact (@ss_set _ _ _ _ _ _ ([0]) (7) _ hnp sc__law_odd_of.nd rfl (by first | exact Or.inl rfl | exact Or.inr rfl) (@se_opN _ _ _ _ _ _ _ _ _ _ op_addD o2_add (pv 7) (@sb_of _ _ _ _ (@se_lst _ _ _ _ _ (@sa_consN _ _ _ _ _ _ (@se_tup _ _ _ _ _ _ (@sa_consN _ _ _ _ _ _ (@se_slN _ _ _ _ _ _ _ _ _ _ (pv 3) (@so_none _ _) (@so_some _ _ _ _ (@se_neg _ _ _ _ _ (@sb_of _ _ _ _ (@se_int _ _ _ _ _))))) (@sa_consN _ _ _ _ _ _ (@se_var _ _ _ _ (pv 4)) (@sa_nil _ _) (by rfl)) (by rfl)) (by decide)) (@sa_consN _ _ _ _ _ _ (@se_tup _ _ _ _ _ _ (@sa_consN _ _ _ _ _ _ (@se_opN _ _ _ _ _ _ _ _ _ _ op_addD o2_add (pv 3) (@sb_of _ _ _ _ (@se_lst _ _ _ _ _ (@sa_consN _ _ _ _ _ _ (@se_var _ _ _ _ (pv 6)) (@sa_nil _ _) (by rfl)) (by decide)))) (@sa_consN _ _ _ _ _ _ (@se_var _ _ _ _ (pv 4)) (@sa_nil _ _) (by rfl)) (by rfl)) (by decide)) (@sa_consN _ _ _ _ _ _ (@se_tup _ _ _ _ _ _ (@sa_consN _ _ _ _ _ _ (@se_var _ _ _ _ (pv 3)) (@sa_consN _ _ _ _ _ _ (@se_slN _ _ _ _ _ _ _ _ _ _ (pv 4) (@so_some _ _ _ _ (@se_int _ _ _ _ _)) (@so_none _ _)) (@sa_nil _ _) (by rfl)) (by rfl)) (by decide)) (@sa_nil _ _) (by rfl)) (by rfl)) (by rfl)) (by decide)))) rfl (Or.inl rfl))
  refine (@ss_cons _ _ _ _ _ _ ?_ ?_)
  ·exact (@ss_set _ _ _ _ _ _ ([0]) (7) _ hnp sc__law_odd_of.nd rfl (by first | exact Or.inl rfl | exact Or.inr rfl) (@se_opN _ _ _ _ _ _ _ _ _ _ op_addD o2_add (pv 7) (@sb_of _ _ _ _ (@se_lst _ _ _ _ _ (@sa_consN _ _ _ _ _ _ (@se_tup _ _ _ _ _ _ (@sa_consN _ _ _ _ _ _ (@se_var _ _ _ _ (pv 4)) (@sa_consN _ _ _ _ _ _ (@se_var _ _ _ _ (pv 3)) (@sa_nil _ _) (by rfl)) (by rfl)) (by decide)) (@sa_consN _ _ _ _ _ _ (@se_non _ _ _ _) (@sa_nil _ _) (by rfl)) (by rfl)) (by decide)))) rfl (Or.inl rfl))
  refine (@ss_cons _ _ _ _ _ _ ?_ ?_)
  ·exact (@ss_set _ _ _ _ _ _ ([0]) (7) _ hnp sc__law_odd_of.nd rfl (by first | exact Or.inl rfl | exact Or.inr rfl) (@se_op _ _ _ _ _ _ _ _ _ _ op_addD o2_add (@se_opN _ _ _ _ _ _ _ _ _ _ op_addD o2_add (pv 7) (@sb_of _ _ _ _ (@se_op _ _ _ _ _ _ _ _ _ _ op_repL o2_mulL (@se_lst _ _ _ _ _ (@sa_consN _ _ _ _ _ _ (@se_tup _ _ _ _ _ _ (@sa_consN _ _ _ _ _ _ (@se_var _ _ _ _ (pv 3)) (@sa_consN _ _ _ _ _ _ (@se_call _ _ _ _ _ (3) _ _ _ _ _ k__law_odd_digits keeps__law_odd_digits (hr.mono (by decide)) rfl (@sx_ioN _ _ _ _ _ _ (pv 0) (@sx_valN _ _ _ _ _ _ (@se_var _ _ _ _ (pv 1)) (@sx_valN _ _ _ _ _ _ (@se_var _ _ _ _ (pv 4)) (@sx_nil _ _) (by rfl)) (by rfl)) (by rfl)) rfl (by decide) (by rfl) (by rfl)) (@sa_nil _ _) (by rfl)) (by rfl)) (by decide)) (@sa_nil _ _) (by rfl)) (by decide)) (@sb_of _ _ _ _ (@se_int _ _ _ _ _))))) (@sb_of _ _ _ _ (@se_lst _ _ _ _ _ (@sa_consN _ _ _ _ _ _ (@se_tup _ _ _ _ _ _ (@sa_consN _ _ _ _ _ _ (@se_str _ _ _ _ _ [] (by decide +kernel)) (@sa_consN _ _ _ _ _ _ (@se_var _ _ _ _ (pv 4)) (@sa_nil _ _) (by rfl)) (by rfl)) (by decide)) (@sa_consN _ _ _ _ _ _ (@se_tup _ _ _ _ _ _ (@sa_consN _ _ _ _ _ _ (@se_revX _ _ _ _ _ _ _ (@sb_var _ _ _ _ (pv 3)) (@minus_one _ _ _ _)) (@sa_consN _ _ _ _ _ _ (@se_var _ _ _ _ (pv 4)) (@sa_nil _ _) (by rfl)) (by rfl)) (by decide)) (@sa_nil _ _) (by rfl)) (by rfl)) (by decide)))) rfl (Or.inl rfl))
  refine (@ss_one _ _ _ _ ?_)
  refine (@ss_ret _ _ _ _ _ ?_)
  exact (@se_ix _ _ _ _ _ _ _ _ _ ix_seq o2_ix (@se_opN _ _ _ _ _ _ _ _ _ _ op_addD o2_add (pv 7) (@sb_of _ _ _ _ (@se_lst _ _ _ _ _ (@sa_consN _ _ _ _ _ _ (@se_const _ _ _ _ (by rfl)) (@sa_consN _ _ _ _ _ _ (@se_tup _ _ _ _ _ _ (@sa_consN _ _ _ _ _ _ (@se_lst _ _ _ _ _ (@sa_nil _ _) (by decide)) (@sa_consN _ _ _ _ _ _ (@se_lst _ _ _ _ _ (@sa_nil _ _) (by decide)) (@sa_nil _ _) (by rfl)) (by rfl)) (by decide)) (@sa_consN _ _ _ _ _ _ (@se_int _ _ _ _ _) (@sa_consN _ _ _ _ _ _ (@se_dict0 _ _ _) (@sa_nil _ _) (by rfl)) (by rfl)) (by rfl)) (by rfl)) (by decide)))) (@sb_of _ _ _ _ (@se_call _ _ _ _ _ (2) _ _ _ _ _ k__law_draw keeps__law_draw (hr.mono (by decide)) rfl (@sx_ioN _ _ _ _ _ _ (pv 0) (@sx_valN _ _ _ _ _ _ (@se_op _ _ _ _ _ _ _ _ _ _ op_addD o2_add (@se_len _ _ _ _ _ _ rfl T.z_len (@sb_var _ _ _ _ (pv 7)) (by rfl)) (@sb_of _ _ _ _ (@se_int _ _ _ _ _))) (@sx_nil _ _) (by rfl)) (by rfl)) rfl (by decide) (by rfl) (by rfl))) (fun _ _=>rfl))) fun ss y h=>gOf_run h
/-! ### place_far -/
def b_place_far:DS:=(dSeq (dIf (dOr (dNot (dTr (eCall G_digits_good [.val (eVar 0),.val (eVar 1)]))) (dTr (eOp pGt (eC1 pLen (bVar 1)) (bOf (eD (.int 60)))))) (dRaise [78,111,80,108,97,99,101]) dNext) (dSeq (dAsg (eD (.int 0)) (gNm [] 2)) (dSeq (dAsg (eD (.int 0)) (gNm [] 3)) (dSeq (dFor (iSq (eVar 1)) (gTp 2 (gsCons (gNm [] 4) (gsCons (gNm [] 5) gsNil))) (dSeq (dAsg (eOp pAdd (eOpF pMulX 2 (bOf (eOpF pIx 0 (bOf (eD (.int 0)))))) (bVar 4)) (gNm [] 2)) (dAsg (eOp pAdd (eOpF pMulX 3 (bOf (eOpF pIx 0 (bOf (eD (.int 1)))))) (bVar 5)) (gNm [] 3)))) (dRet (eTup (aCons (eVar 2) (aCons (eVar 3) aNil))))))))
def G_place_far:DX:=gOfX [] 6 b_place_far
theorem keeps_place_far:KeepsX G_place_far:=gOfX_keeps
theorem sc_place_far:FnScope ["rule","digits","row","column","i","j"] ["rule","digits"] (defScope s_place_far):=⟨rfl,rfl,rfl,by decide +kernel,rfl,by decide +kernel,by decide +kernel⟩
theorem ok_place_far {P:Program} {w:World} {K:PySem.W.Frag} {mg:Str→Option Value} {base:Heap} {f:Addr} {fd:FuncData} {ce:Tx→Nat} (F:Fun K "place_far" "place_far" s_place_far f fd) (hm:mg "place_far" = some (.ref f)) (hb:Binds K fd ["rule","digits"] []) (T:Txt ce K mg) (k_digits_good:KFn P w K mg base 4 "digits_good" 2 G_digits_good):KFnX P w K mg base 5 "place_far" 2 G_place_far :=
 fn_defX (np:=[]) (fb:=b_place_far) F hm hb sc_place_far (fun c cdv A outer s H E hr hnp hxo hxr=>by
  have hq:=hq_of hr
  refine (@ss_cons _ _ _ _ _ _ ?_ ?_)
  ·refine (@ss_if _ _ _ _ _ _ _ _ _ ?_ ?_ ?_)
   ·exact (@st_of _ _ _ _ (@sw_or _ _ _ _ _ _ _ _ (@st_not _ _ _ _ _ (@st_val _ _ _ _ (@se_call _ _ _ _ _ (4) _ _ _ _ _ k_digits_good keeps_digits_good (hr.mono (by decide)) rfl (@sx_valN _ _ _ _ _ _ (@se_var _ _ _ _ (pv 0)) (@sx_valN _ _ _ _ _ _ (@se_var _ _ _ _ (pv 1)) (@sx_nil _ _) (by rfl)) (by rfl)) rfl (by decide) (by rfl) (by rfl)) (by intro _; rfl))) (@sw_or1 _ _ _ _ _ (@st_cmp _ _ _ _ _ _ _ _ _ _ op_gtD o2_cmp (@se_len _ _ _ _ _ _ rfl T.z_len (@sb_var _ _ _ _ (pv 1)) (by rfl)) (@sb_of _ _ _ _ (@se_globIntE _ _ _ _ _ rfl T.g_MOST_GROWINGS (by decide))) (nomark _)))))
   ·refine (@ss_one _ _ _ _ ?_)
    exact (@ss_raise _ _ _ _ _ _ _ [78,111,80,108,97,99,101] T.q_NoPlace rfl rfl T.c_NoPlace hxr (by decide +kernel) (by decide))
   ·exact ss_nil
  refine (@ss_cons _ _ _ _ _ _ ?_ ?_)
  ·exact (@ss_set _ _ _ _ _ _ ([]) (2) _ hnp sc_place_far.nd rfl (by first | exact Or.inl rfl | exact Or.inr rfl) (@se_int _ _ _ _ _) rfl (Or.inl rfl))
  refine (@ss_cons _ _ _ _ _ _ ?_ ?_)
  ·exact (@ss_set _ _ _ _ _ _ ([]) (3) _ hnp sc_place_far.nd rfl (by first | exact Or.inl rfl | exact Or.inr rfl) (@se_int _ _ _ _ _) rfl (Or.inl rfl))
  refine (@ss_cons _ _ _ _ _ _ ?_ ?_)
  ·refine SS.nox ?_
   refine (@ss_for _ _ _ _ _ _ _ _ _ PassesOwn.never rfl ?_ ?_ ?_ (by intro _; rfl))
   ·exact (@si_sq _ _ _ _ _ (@se_var _ _ _ _ (pv 1)))
   ·exact (@sg_tup _ _ _ _ _ _ _ rfl (@sgs_cons _ _ _ _ _ _ (@sg_name _ _ _ ([]) (4) _ hnp sc_place_far.nd rfl (by first | exact Or.inl rfl | exact Or.inr rfl) (Or.inl rfl)) (@sgs_cons _ _ _ _ _ _ (@sg_name _ _ _ ([]) (5) _ hnp sc_place_far.nd rfl (by first | exact Or.inl rfl | exact Or.inr rfl) (Or.inl rfl)) (@sgs_nil _ _) (by rfl)) (by rfl)) (by rfl) (by rfl))
   ·refine (@ss_cons _ _ _ _ _ _ ?_ ?_)
    ·exact (@ss_set _ _ _ _ _ _ ([]) (2) _ hnp sc_place_far.nd rfl (by first | exact Or.inl rfl | exact Or.inr rfl) (@se_op _ _ _ _ _ _ _ _ _ _ op_addD o2_add (@se_opN _ _ _ _ _ _ _ _ _ _ op_mulX o2_mulX (pv 2) (@sb_of _ _ _ _ (@se_ixN _ _ _ _ _ _ _ _ _ ix_seq o2_ix (pv 0) (@sb_of _ _ _ _ (@se_int _ _ _ _ _)) (fun _ _=>rfl)))) (@sb_var _ _ _ _ (pv 4))) rfl (Or.inl rfl))
    refine (@ss_one _ _ _ _ ?_)
    exact (@ss_set _ _ _ _ _ _ ([]) (3) _ hnp sc_place_far.nd rfl (by first | exact Or.inl rfl | exact Or.inr rfl) (@se_op _ _ _ _ _ _ _ _ _ _ op_addD o2_add (@se_opN _ _ _ _ _ _ _ _ _ _ op_mulX o2_mulX (pv 3) (@sb_of _ _ _ _ (@se_ixN _ _ _ _ _ _ _ _ _ ix_seq o2_ix (pv 0) (@sb_of _ _ _ _ (@se_int _ _ _ _ _)) (fun _ _=>rfl)))) (@sb_var _ _ _ _ (pv 5))) rfl (Or.inl rfl))
  refine (@ss_one _ _ _ _ ?_)
  refine (@ss_ret _ _ _ _ _ ?_)
  exact (@se_tup _ _ _ _ _ _ (@sa_consN _ _ _ _ _ _ (@se_var _ _ _ _ (pv 2)) (@sa_consN _ _ _ _ _ _ (@se_var _ _ _ _ (pv 3)) (@sa_nil _ _) (by rfl)) (by rfl)) (by decide))) fun ss y h=>gOfX_run h
/-! ### _law_kind_of -/
def b__law_kind_of (ce:Tx→Nat):DS:=(dSeq (dAsg (eLst (aCons (eIsC ce ys (fun z=>z == [78,111,70,108,111,111,114]) (bVar 0)) (aCons (eIsC ce ys (fun z=>z == [78,111,80,108,97,99,101]) (bVar 0)) aNil))) (gNm [] 1)) (dSeq (dAsg (eOpF pAdd 1 (bOf (eLst (aCons (eIsC ce ys (fun z=>z == [78,111,78,117,109,98,101,114]) (bVar 0)) (aCons (eIsC ce ys (fun z=>z == [78,111,82,111,119]) (bVar 0)) aNil))))) (gNm [] 1)) (dSeq (dAsg (eOpF pAdd 1 (bOf (eLst (aCons (eIsC ce ys (fun z=>z == [85,110,108,105,107,101]) (bVar 0)) (aCons (eIsC ce ys (fun z=>z == [78,111,84,105,108,101]) (bVar 0)) aNil))))) (gNm [] 1)) (dSeq (dAsg (eOpF pAdd 1 (bOf (eLst (aCons (eIsC ce ys (fun z=>z == [78,111,82,117,108,101]) (bVar 0)) (aCons (eIsC ce ys (fun z=>z == [78,111,84,101,120,116]) (bVar 0)) aNil))))) (gNm [] 1)) (dSeq (dAppend 1 (eIsC ce ys (fun z=>z == [84,111,111,71,114,101,97,116]) (bVar 0))) (dSeq (dIf (dOr (dNot (dTr (eIsC ce ys (fun _=>true) (bVar 0)))) (dTr (eOp pNe (eC1 pCount (bVar 1)) (bOf (eD (.int 1)))))) (dRet (eD (.str [111,116,104,101,114]))) dNext) (dSeq (dAsg (eLstC [.str [102,108,111,111,114],.str [112,108,97,99,101],.str [110,117,109,98,101,114],.str [114,111,119],.str [117,110,108,105,107,101],.str [116,105,108,101],.str [114,117,108,101],.str [116,101,120,116],.str [103,114,101,97,116]]) (gNm [] 2)) (dRet (eOpF pIx 2 (bOf (eC1 pIndexT (bVar 1))))))))))))
def G__law_kind_of (ce:Tx→Nat):DF:=gOf [] 3 (b__law_kind_of ce)
theorem keeps__law_kind_of {ce:Tx→Nat}:Keeps (G__law_kind_of ce):=gOf_keeps
theorem sc__law_kind_of:FnScope ["e","marks","words"] ["e"] (defScope s__law_kind_of):=⟨rfl,rfl,rfl,by decide +kernel,rfl,by decide +kernel,by decide +kernel⟩
theorem okh__law_kind_of {P:Program} {w:World} {K:PySem.W.Frag} {mg:Str→Option Value} {base:Heap} {f:Addr} {fd:FuncData} {ce:Tx→Nat} (F:Fun K "_law_kind_of" "_law_kind_of" s__law_kind_of f fd) (hm:mg "_law_kind_of" = some (.ref f)) (hb:Binds K fd ["e"] []) (T:Txt ce K mg):KFnH P w K mg base 1 "_law_kind_of" 1 (G__law_kind_of ce) :=
 fn_defH (np:=[]) (fb:=(b__law_kind_of ce)) F hm hb sc__law_kind_of (fun c cdv A outer s H E hr hnp=>by
  have hq:=hqH_of hr
  refine (@ss_cons _ _ _ _ _ _ ?_ ?_)
  ·exact (@ss_set _ _ _ _ _ _ ([]) (1) _ hnp sc__law_kind_of.nd rfl (by first | exact Or.inl rfl | exact Or.inr rfl) (@se_lst _ _ _ _ _ (@sa_consN _ _ _ _ _ _ (@se_isC _ _ _ _ _ _ _ _ _ _ _ _ T.i_NoFloor rfl T.z_isinstance rfl T.c_NoFloor (@sb_var _ _ _ _ (pv 0)) (by decide) (by rfl) (by rfl)) (@sa_consN _ _ _ _ _ _ (@se_isC _ _ _ _ _ _ _ _ _ _ _ _ T.i_NoPlace rfl T.z_isinstance rfl T.c_NoPlace (@sb_var _ _ _ _ (pv 0)) (by decide) (by rfl) (by rfl)) (@sa_nil _ _) (by rfl)) (by rfl)) (by decide)) rfl (Or.inl rfl))
  refine (@ss_cons _ _ _ _ _ _ ?_ ?_)
  ·exact (@ss_set _ _ _ _ _ _ ([]) (1) _ hnp sc__law_kind_of.nd rfl (by first | exact Or.inl rfl | exact Or.inr rfl) (@se_opN _ _ _ _ _ _ _ _ _ _ op_addD o2_add (pv 1) (@sb_of _ _ _ _ (@se_lst _ _ _ _ _ (@sa_consN _ _ _ _ _ _ (@se_isC _ _ _ _ _ _ _ _ _ _ _ _ T.i_NoNumber rfl T.z_isinstance rfl T.c_NoNumber (@sb_var _ _ _ _ (pv 0)) (by decide) (by rfl) (by rfl)) (@sa_consN _ _ _ _ _ _ (@se_isC _ _ _ _ _ _ _ _ _ _ _ _ T.i_NoRow rfl T.z_isinstance rfl T.c_NoRow (@sb_var _ _ _ _ (pv 0)) (by decide) (by rfl) (by rfl)) (@sa_nil _ _) (by rfl)) (by rfl)) (by decide)))) rfl (Or.inl rfl))
  refine (@ss_cons _ _ _ _ _ _ ?_ ?_)
  ·exact (@ss_set _ _ _ _ _ _ ([]) (1) _ hnp sc__law_kind_of.nd rfl (by first | exact Or.inl rfl | exact Or.inr rfl) (@se_opN _ _ _ _ _ _ _ _ _ _ op_addD o2_add (pv 1) (@sb_of _ _ _ _ (@se_lst _ _ _ _ _ (@sa_consN _ _ _ _ _ _ (@se_isC _ _ _ _ _ _ _ _ _ _ _ _ T.i_Unlike rfl T.z_isinstance rfl T.c_Unlike (@sb_var _ _ _ _ (pv 0)) (by decide) (by rfl) (by rfl)) (@sa_consN _ _ _ _ _ _ (@se_isC _ _ _ _ _ _ _ _ _ _ _ _ T.i_NoTile rfl T.z_isinstance rfl T.c_NoTile (@sb_var _ _ _ _ (pv 0)) (by decide) (by rfl) (by rfl)) (@sa_nil _ _) (by rfl)) (by rfl)) (by decide)))) rfl (Or.inl rfl))
  refine (@ss_cons _ _ _ _ _ _ ?_ ?_)
  ·exact (@ss_set _ _ _ _ _ _ ([]) (1) _ hnp sc__law_kind_of.nd rfl (by first | exact Or.inl rfl | exact Or.inr rfl) (@se_opN _ _ _ _ _ _ _ _ _ _ op_addD o2_add (pv 1) (@sb_of _ _ _ _ (@se_lst _ _ _ _ _ (@sa_consN _ _ _ _ _ _ (@se_isC _ _ _ _ _ _ _ _ _ _ _ _ T.i_NoRule rfl T.z_isinstance rfl T.c_NoRule (@sb_var _ _ _ _ (pv 0)) (by decide) (by rfl) (by rfl)) (@sa_consN _ _ _ _ _ _ (@se_isC _ _ _ _ _ _ _ _ _ _ _ _ T.i_NoText rfl T.z_isinstance rfl T.c_NoText (@sb_var _ _ _ _ (pv 0)) (by decide) (by rfl) (by rfl)) (@sa_nil _ _) (by rfl)) (by rfl)) (by decide)))) rfl (Or.inl rfl))
  refine (@ss_cons _ _ _ _ _ _ ?_ ?_)
  ·exact (@ss_appendN _ _ _ _ _ _ _ _ _ (pv 1) (@se_isC _ _ _ _ _ _ _ _ _ _ _ _ T.i_TooGreat rfl T.z_isinstance rfl T.c_TooGreat (@sb_var _ _ _ _ (pv 0)) (by decide) (by rfl) (by rfl)) (by rfl) (by rfl) (by rfl) (by rfl) (by rfl))
  refine (@ss_cons _ _ _ _ _ _ ?_ ?_)
  ·refine (@ss_if _ _ _ _ _ _ _ _ _ ?_ ?_ ?_)
   ·exact (@st_of _ _ _ _ (@sw_or _ _ _ _ _ _ _ _ (@st_not _ _ _ _ _ (@st_val _ _ _ _ (@se_isB _ _ _ _ _ _ _ _ _ _ _ _ T.i_ValueError rfl T.z_isinstance rfl T.z_ValueError boot_ValueError (@sb_var _ _ _ _ (pv 0)) (by decide) (by decide) (by rfl) (by rfl)) (by intro _; rfl))) (@sw_or1 _ _ _ _ _ (@st_cmp _ _ _ _ _ _ _ _ _ _ (op_neD hq) o2_ne (@se_count _ _ _ _ _ _ _ _ (@sb_var _ _ _ _ (pv 1)) (by rfl) (by rfl) (by rfl) (by rfl)) (@sb_of _ _ _ _ (@se_int _ _ _ _ _)) (nomark _)))))
   ·refine (@ss_one _ _ _ _ ?_)
    refine (@ss_ret _ _ _ _ _ ?_)
    exact (@se_str _ _ _ _ _ [111,116,104,101,114] (by decide +kernel))
   ·exact ss_nil
  refine (@ss_cons _ _ _ _ _ _ ?_ ?_)
  ·exact (@ss_set _ _ _ _ _ _ ([]) (2) _ hnp sc__law_kind_of.nd rfl (by first | exact Or.inl rfl | exact Or.inr rfl) (@se_constL _ _ _ _ _ (by rfl) (by decide)) rfl (Or.inl rfl))
  refine (@ss_one _ _ _ _ ?_)
  refine (@ss_ret _ _ _ _ _ ?_)
  exact (@se_ixN _ _ _ _ _ _ _ _ _ ix_seq o2_ix (pv 2) (@sb_of _ _ _ _ (@se_index _ _ _ _ _ _ _ _ (@sb_var _ _ _ _ (pv 1)) (by rfl) (by rfl) (by rfl) (by rfl))) (fun _ _=>rfl))) fun ss y h=>gOf_run h
/-! ### _law_refused -/
def b__law_refused (ce:Tx→Nat):DS:=(dSeq (dTry ce ys 2 (dDrop (eCallX G_place_far [.val (eVar 0),.val (eVar 1)])) (dRet (eOp pEq (eCall (G__law_kind_of ce) [.val (eVar 2)]) (bOf (eD (.str [112,108,97,99,101])))))) (dRet (eD (.bl false))))
def G__law_refused (ce:Tx→Nat):DF:=gOf [] 3 (b__law_refused ce)
theorem keeps__law_refused {ce:Tx→Nat}:Keeps (G__law_refused ce):=gOf_keeps
theorem sc__law_refused:FnScope ["rule","thing","e"] ["rule","thing"] (defScope s__law_refused):=⟨rfl,rfl,rfl,by decide +kernel,rfl,by decide +kernel,by decide +kernel⟩
theorem ok__law_refused {P:Program} {w:World} {K:PySem.W.Frag} {mg:Str→Option Value} {base:Heap} {f:Addr} {fd:FuncData} {ce:Tx→Nat} (F:Fun K "_law_refused" "_law_refused" s__law_refused f fd) (hm:mg "_law_refused" = some (.ref f)) (hb:Binds K fd ["rule","thing"] []) (T:Txt ce K mg) (k_place_far:KFnX P w K mg base 5 "place_far" 2 G_place_far) (h__law_kind_of:KFnH P w K mg base 1 "_law_kind_of" 1 (G__law_kind_of ce)):KFn P w K mg base 6 "_law_refused" 2 (G__law_refused ce) :=
 fn_def (np:=[]) (fb:=(b__law_refused ce)) F hm hb sc__law_refused (fun c cdv A outer s H E hr hnp=>by
  have hq:=hq_of hr
  refine (@ss_cons _ _ _ _ _ _ ?_ ?_)
  ·refine ss_try (ce:=ce) (ys:=ys) (i:=2) hnp rfl rfl sc__law_refused.nd rfl rfl rfl T.c_FloorError T.q_FloorError (fun y hy=>T.m_FloorError y hy) ?_ ?_
   ·intro c pn xe hnp hxo
    refine (@ss_one _ _ _ _ ?_)
    exact (@ss_exprN _ _ _ _ _ (@se_callX _ _ _ _ _ (5) _ _ _ _ _ k_place_far keeps_place_far (hr.mono (by decide)) rfl hxo rfl (@sx_valN _ _ _ _ _ _ (@se_var _ _ _ _ (pv 0)) (@sx_valN _ _ _ _ _ _ (@se_var _ _ _ _ (pv 1)) (@sx_nil _ _) (by rfl)) (by rfl)) rfl (by decide) (by rfl) (by rfl)) (by rfl))
   ·intro ea
    refine (@ss_one _ _ _ _ ?_)
    refine (@ss_ret _ _ _ _ _ ?_)
    exact (@se_cmp _ _ _ _ _ _ _ _ _ _ (op_eqD hq) o2_eq (@se_callH _ _ _ _ _ (1) _ _ _ _ _ h__law_kind_of keeps__law_kind_of ((hr.h.mono (by decide)).mark _) rfl (@sx_valN _ _ _ _ _ _ (@se_var _ _ _ _ (pv 2)) (@sx_nil _ _) (by rfl)) rfl (by decide) (by rfl) (by rfl)) (@sb_of _ _ _ _ (@se_str _ _ _ _ _ [112,108,97,99,101] (by decide +kernel))) (nomark _))
  refine (@ss_one _ _ _ _ ?_)
  refine (@ss_ret _ _ _ _ _ ?_)
  exact (@se_bl _ _ _ _ _)) fun ss y h=>gOf_run h
/-! ### law -/
def b_law (ce:Tx→Nat):DS:=(dSeq (dFor (iSq (eOp pAdd (eLst (aCons (eCall G__law_cell_at [.val (eVar 0),.val (eD (.int 0))]) aNil)) (bOf (eSlN 0 (oSome (eD (.int 1))) (oSome (eD (.int 6))))))) (gNm [] 1) (dSeq (dAsg (eCall G__law_pen_of [.val (eVar 1)]) (gNm [] 2)) (dSeq (dAsg (eCall G__law_rule_by [.io 2,.val (eD (.int 6))]) (gNm [] 3)) (dSeq (dAsg (eCall G__law_line_of [.io 2,.val (eVar 3)]) (gNm [] 4)) (dSeq (dIf (dTr (eOp (pIsB true) (eCall G_line_holds [.val (eVar 3),.val (eVar 4)]) (bOf (eD (.bl true))))) (dRet (eD (.bl false))) dNext) (dSeq (dFor (iRange1 (eD (.int 5))) (gNm [] 5) (dIf (dNot (dTr (eCall G__law_right [.val (eVar 3),.val (eCall G__law_odd_of [.io 2,.val (eVar 3),.val (eVar 4)])]))) (dRet (eD (.bl false))) dNext)) (dFor (iSq (eLst (aCons (eCall G__law_odd_digits [.io 2,.val (eVar 3),.val (eOpF pIx 4 (bOf (eD (.int 1))))]) (aCons (eC1 pTuple (bOf (eOpF pIx 4 (bOf (eD (.int 1)))))) (aCons (eD .non) (aCons (eOp pMulL (eLstC [.tup [.int 0,.int 0]]) (bOf (eD (.int 61)))) (aCons (eD (.str [])) (aCons eDict0 (aCons (eD (.int 0)) aNil))))))))) (gNm [] 6) (dIf (dOr (dNot (dTr (eCall G__law_digits_good [.val (eVar 3),.val (eVar 6)]))) (dTr (eOp pGt (eC1 pLen (bVar 6)) (bOf (eD (.int 60)))))) (dIf (dNot (dTr (eCall (G__law_refused ce) [.val (eVar 3),.val (eVar 6)]))) (dRet (eD (.bl false))) dNext) dNext)))))))) (dRet (eD (.bl true))))
def G_law (ce:Tx→Nat):DF:=gOf [] 7 (b_law ce)
theorem keeps_law {ce:Tx→Nat}:Keeps (G_law ce):=gOf_keeps
theorem sc_law:FnScope ["script","cell","pen","rule","line","turn","odd"] ["script"] (defScope s_law):=⟨rfl,rfl,rfl,by decide +kernel,rfl,by decide +kernel,by decide +kernel⟩
theorem ok_law {P:Program} {w:World} {K:PySem.W.Frag} {mg:Str→Option Value} {base:Heap} {f:Addr} {fd:FuncData} {ce:Tx→Nat} (F:Fun K "law" "law" s_law f fd) (T:Txt ce K mg) (k__law_cell_at:KFn P w K mg base 1 "_law_cell_at" 2 G__law_cell_at) (k__law_pen_of:KFn P w K mg base 1 "_law_pen_of" 1 G__law_pen_of) (k__law_rule_by:KFn P w K mg base 3 "_law_rule_by" 2 G__law_rule_by) (k__law_line_of:KFn P w K mg base 3 "_law_line_of" 2 G__law_line_of) (k_line_holds:KFn P w K mg base 5 "line_holds" 2 G_line_holds) (k__law_digits_good:KFn P w K mg base 2 "_law_digits_good" 2 G__law_digits_good) (k__law_right:KFn P w K mg base 6 "_law_right" 2 G__law_right) (k__law_odd_digits:KFn P w K mg base 3 "_law_odd_digits" 3 G__law_odd_digits) (k__law_odd_of:KFn P w K mg base 4 "_law_odd_of" 3 G__law_odd_of) (k__law_refused:KFn P w K mg base 6 "_law_refused" 2 (G__law_refused ce)) {Gt:DF} (hGt:∀ ss y,Gt ss=some y→G_law ce ss=some y):FnOk P w K mg base CX0 7 f fd ["script"] (spD 1 Gt) :=
 fn_ok (np:=[]) (fb:=(b_law ce)) F sc_law (fun c cdv A outer s H E hr hnp=>by
  have hq:=hq_of hr
  refine (@ss_cons _ _ _ _ _ _ ?_ ?_)
  ·refine (@ss_for _ _ _ _ _ _ _ _ _ PassesOwn.never rfl ?_ ?_ ?_ (by intro _; rfl))
   ·exact (@si_sq _ _ _ _ _ (@se_op _ _ _ _ _ _ _ _ _ _ op_addD o2_add (@se_lst _ _ _ _ _ (@sa_consN _ _ _ _ _ _ (@se_call _ _ _ _ _ (1) _ _ _ _ _ k__law_cell_at keeps__law_cell_at (hr.mono (by decide)) rfl (@sx_valN _ _ _ _ _ _ (@se_var _ _ _ _ (pv 0)) (@sx_valN _ _ _ _ _ _ (@se_int _ _ _ _ _) (@sx_nil _ _) (by rfl)) (by rfl)) rfl (by decide) (by rfl) (by rfl)) (@sa_nil _ _) (by rfl)) (by decide)) (@sb_of _ _ _ _ (@se_slN _ _ _ _ _ _ _ _ _ _ (pv 0) (@so_some _ _ _ _ (@se_int _ _ _ _ _)) (@so_some _ _ _ _ (@se_int _ _ _ _ _))))))
   ·exact (@sg_name _ _ _ ([]) (1) _ hnp sc_law.nd rfl (by first | exact Or.inl rfl | exact Or.inr rfl) (Or.inl rfl))
   ·refine (@ss_cons _ _ _ _ _ _ ?_ ?_)
    ·exact (@ss_set _ _ _ _ _ _ ([]) (2) _ hnp sc_law.nd rfl (by first | exact Or.inl rfl | exact Or.inr rfl) (@se_call _ _ _ _ _ (1) _ _ _ _ _ k__law_pen_of keeps__law_pen_of (hr.mono (by decide)) rfl (@sx_valN _ _ _ _ _ _ (@se_var _ _ _ _ (pv 1)) (@sx_nil _ _) (by rfl)) rfl (by decide) (by rfl) (by rfl)) rfl (Or.inl rfl))
    refine (@ss_cons _ _ _ _ _ _ ?_ ?_)
    ·exact (@ss_set _ _ _ _ _ _ ([]) (3) _ hnp sc_law.nd rfl (by first | exact Or.inl rfl | exact Or.inr rfl) (@se_call _ _ _ _ _ (3) _ _ _ _ _ k__law_rule_by keeps__law_rule_by (hr.mono (by decide)) rfl (@sx_ioN _ _ _ _ _ _ (pv 2) (@sx_valN _ _ _ _ _ _ (@se_int _ _ _ _ _) (@sx_nil _ _) (by rfl)) (by rfl)) rfl (by decide) (by rfl) (by rfl)) rfl (Or.inl rfl))
    refine (@ss_cons _ _ _ _ _ _ ?_ ?_)
    ·exact (@ss_set _ _ _ _ _ _ ([]) (4) _ hnp sc_law.nd rfl (by first | exact Or.inl rfl | exact Or.inr rfl) (@se_call _ _ _ _ _ (3) _ _ _ _ _ k__law_line_of keeps__law_line_of (hr.mono (by decide)) rfl (@sx_ioN _ _ _ _ _ _ (pv 2) (@sx_valN _ _ _ _ _ _ (@se_var _ _ _ _ (pv 3)) (@sx_nil _ _) (by rfl)) (by rfl)) rfl (by decide) (by rfl) (by rfl)) rfl (Or.inl rfl))
    refine (@ss_cons _ _ _ _ _ _ ?_ ?_)
    ·refine (@ss_if _ _ _ _ _ _ _ _ _ ?_ ?_ ?_)
     ·exact (@st_cmp _ _ _ _ _ _ _ _ _ _ op_notB (o2_isB true) (@se_call _ _ _ _ _ (5) _ _ _ _ _ k_line_holds keeps_line_holds (hr.mono (by decide)) rfl (@sx_valN _ _ _ _ _ _ (@se_var _ _ _ _ (pv 3)) (@sx_valN _ _ _ _ _ _ (@se_var _ _ _ _ (pv 4)) (@sx_nil _ _) (by rfl)) (by rfl)) rfl (by decide) (by rfl) (by rfl)) (@sb_of _ _ _ _ (@se_bl _ _ _ _ _)) rfl)
     ·refine (@ss_one _ _ _ _ ?_)
      refine (@ss_ret _ _ _ _ _ ?_)
      exact (@se_bl _ _ _ _ _)
     ·exact ss_nil
    refine (@ss_cons _ _ _ _ _ _ ?_ ?_)
    ·refine (@ss_for _ _ _ _ _ _ _ _ _ PassesOwn.never rfl ?_ ?_ ?_ (by intro _; rfl))
     ·exact (@si_range1 _ _ _ _ _ _ _ rfl T.z_range (@se_int _ _ _ _ _) (by rfl))
     ·exact (@sg_name _ _ _ ([]) (5) _ hnp sc_law.nd rfl (by first | exact Or.inl rfl | exact Or.inr rfl) (Or.inl rfl))
     ·refine (@ss_one _ _ _ _ ?_)
      refine (@ss_if _ _ _ _ _ _ _ _ _ ?_ ?_ ?_)
      ·exact (@st_not _ _ _ _ _ (@st_val _ _ _ _ (@se_call _ _ _ _ _ (6) _ _ _ _ _ k__law_right keeps__law_right (hr.mono (by decide)) rfl (@sx_valN _ _ _ _ _ _ (@se_var _ _ _ _ (pv 3)) (@sx_valN _ _ _ _ _ _ (@se_call _ _ _ _ _ (4) _ _ _ _ _ k__law_odd_of keeps__law_odd_of (hr.mono (by decide)) rfl (@sx_ioN _ _ _ _ _ _ (pv 2) (@sx_valN _ _ _ _ _ _ (@se_var _ _ _ _ (pv 3)) (@sx_valN _ _ _ _ _ _ (@se_var _ _ _ _ (pv 4)) (@sx_nil _ _) (by rfl)) (by rfl)) (by rfl)) rfl (by decide) (by rfl) (by rfl)) (@sx_nil _ _) (by rfl)) (by rfl)) rfl (by decide) (by rfl) (by rfl)) (by intro _; rfl)))
      ·refine (@ss_one _ _ _ _ ?_)
       refine (@ss_ret _ _ _ _ _ ?_)
       exact (@se_bl _ _ _ _ _)
      ·exact ss_nil
    refine (@ss_one _ _ _ _ ?_)
    refine (@ss_for _ _ _ _ _ _ _ _ _ PassesOwn.never rfl ?_ ?_ ?_ (by intro _; rfl))
    ·exact (@si_sq _ _ _ _ _ (@se_lst _ _ _ _ _ (@sa_consN _ _ _ _ _ _ (@se_call _ _ _ _ _ (3) _ _ _ _ _ k__law_odd_digits keeps__law_odd_digits (hr.mono (by decide)) rfl (@sx_ioN _ _ _ _ _ _ (pv 2) (@sx_valN _ _ _ _ _ _ (@se_var _ _ _ _ (pv 3)) (@sx_valN _ _ _ _ _ _ (@se_ixN _ _ _ _ _ _ _ _ _ ix_seq o2_ix (pv 4) (@sb_of _ _ _ _ (@se_int _ _ _ _ _)) (fun _ _=>rfl)) (@sx_nil _ _) (by rfl)) (by rfl)) (by rfl)) rfl (by decide) (by rfl) (by rfl)) (@sa_consN _ _ _ _ _ _ (@se_tuple _ _ _ _ _ _ rfl T.z_tuple (@sb_of _ _ _ _ (@se_ixN _ _ _ _ _ _ _ _ _ ix_seq o2_ix (pv 4) (@sb_of _ _ _ _ (@se_int _ _ _ _ _)) (fun _ _=>rfl))) (by rfl)) (@sa_consN _ _ _ _ _ _ (@se_non _ _ _ _) (@sa_consN _ _ _ _ _ _ (@se_op _ _ _ _ _ _ _ _ _ _ op_repL o2_mulL (@se_constL _ _ _ _ _ (by rfl) (by decide)) (@sb_of _ _ _ _ (@se_int _ _ _ _ _))) (@sa_consN _ _ _ _ _ _ (@se_str _ _ _ _ _ [] (by decide +kernel)) (@sa_consN _ _ _ _ _ _ (@se_dict0 _ _ _) (@sa_consN _ _ _ _ _ _ (@se_int _ _ _ _ _) (@sa_nil _ _) (by rfl)) (by rfl)) (by rfl)) (by rfl)) (by rfl)) (by rfl)) (by rfl)) (by decide)))
    ·exact (@sg_name _ _ _ ([]) (6) _ hnp sc_law.nd rfl (by first | exact Or.inl rfl | exact Or.inr rfl) (Or.inl rfl))
    ·refine (@ss_one _ _ _ _ ?_)
     refine (@ss_if _ _ _ _ _ _ _ _ _ ?_ ?_ ?_)
     ·exact (@st_of _ _ _ _ (@sw_or _ _ _ _ _ _ _ _ (@st_not _ _ _ _ _ (@st_val _ _ _ _ (@se_call _ _ _ _ _ (2) _ _ _ _ _ k__law_digits_good keeps__law_digits_good (hr.mono (by decide)) rfl (@sx_valN _ _ _ _ _ _ (@se_var _ _ _ _ (pv 3)) (@sx_valN _ _ _ _ _ _ (@se_var _ _ _ _ (pv 6)) (@sx_nil _ _) (by rfl)) (by rfl)) rfl (by decide) (by rfl) (by rfl)) (by intro _; rfl))) (@sw_or1 _ _ _ _ _ (@st_cmp _ _ _ _ _ _ _ _ _ _ op_gtD o2_cmp (@se_len _ _ _ _ _ _ rfl T.z_len (@sb_var _ _ _ _ (pv 6)) (by rfl)) (@sb_of _ _ _ _ (@se_int _ _ _ _ _)) (nomark _)))))
     ·refine (@ss_one _ _ _ _ ?_)
      refine (@ss_if _ _ _ _ _ _ _ _ _ ?_ ?_ ?_)
      ·exact (@st_not _ _ _ _ _ (@st_val _ _ _ _ (@se_call _ _ _ _ _ (6) _ _ _ _ _ k__law_refused keeps__law_refused (hr.mono (by decide)) rfl (@sx_valN _ _ _ _ _ _ (@se_var _ _ _ _ (pv 3)) (@sx_valN _ _ _ _ _ _ (@se_var _ _ _ _ (pv 6)) (@sx_nil _ _) (by rfl)) (by rfl)) rfl (by decide) (by rfl) (by rfl)) (by intro _; rfl)))
      ·refine (@ss_one _ _ _ _ ?_)
       refine (@ss_ret _ _ _ _ _ ?_)
       exact (@se_bl _ _ _ _ _)
      ·exact ss_nil
     ·exact ss_nil
  refine (@ss_one _ _ _ _ ?_)
  refine (@ss_ret _ _ _ _ _ ?_)
  exact (@se_bl _ _ _ _ _)) fun ss y h=>gOf_run (hGt ss y h)
theorem all_mk {l:PySem.W.OpenLaw} {w:World} {K:PySem.W.Frag} {h:Heap} {mg:Str→Option Value} {fa:Addr} {Gt:DF} (hGt:∀ ce ss y,Gt ss=some y→G_law ce ss=some y) (X:K.In h) (G:h.Ns mainGlobals mg) (hfa:mg "law" = some (.ref fa))
  {f0:Addr} {od0 an0:Option Addr} {sl0:Array (Option Value)} {oc0 kV0 dc0 pm0 cd0 ct0:Value}
  {f1:Addr} {od1 an1:Option Addr} {sl1:Array (Option Value)} {oc1 kV1 dc1 pm1 cd1 ct1:Value}
  {f2:Addr} {od2 an2:Option Addr} {sl2:Array (Option Value)} {oc2 kV2 dc2 pm2 cd2 ct2:Value}
  {f3:Addr} {od3 an3:Option Addr} {sl3:Array (Option Value)} {oc3 kV3 dc3 pm3 cd3 ct3:Value}
  {f4:Addr} {od4 an4:Option Addr} {sl4:Array (Option Value)} {oc4 kV4 dc4 pm4 cd4 ct4:Value}
  {f5:Addr} {od5 an5:Option Addr} {sl5:Array (Option Value)} {oc5 kV5 dc5 pm5 cd5 ct5:Value}
  {f6:Addr} {od6 an6:Option Addr} {sl6:Array (Option Value)} {oc6 kV6 dc6 pm6 cd6 ct6:Value}
  {f7:Addr} {od7 an7:Option Addr} {sl7:Array (Option Value)} {oc7 kV7 dc7 pm7 cd7 ct7:Value}
  {f8:Addr} {od8 an8:Option Addr} {sl8:Array (Option Value)} {oc8 kV8 dc8 pm8 cd8 ct8:Value}
  {f9:Addr} {od9 an9:Option Addr} {sl9:Array (Option Value)} {oc9 kV9 dc9 pm9 cd9 ct9:Value}
  {f10:Addr} {od10 an10:Option Addr} {sl10:Array (Option Value)} {oc10 kV10 dc10 pm10 cd10 ct10:Value}
  {f11:Addr} {od11 an11:Option Addr} {sl11:Array (Option Value)} {oc11 kV11 dc11 pm11 cd11 ct11:Value}
  {f12:Addr} {od12 an12:Option Addr} {sl12:Array (Option Value)} {oc12 kV12 dc12 pm12 cd12 ct12:Value}
  {f13:Addr} {od13 an13:Option Addr} {sl13:Array (Option Value)} {oc13 kV13 dc13 pm13 cd13 ct13:Value}
  {f14:Addr} {od14 an14:Option Addr} {sl14:Array (Option Value)} {oc14 kV14 dc14 pm14 cd14 ct14:Value}
  {f15:Addr} {od15 an15:Option Addr} {sl15:Array (Option Value)} {oc15 kV15 dc15 pm15 cd15 ct15:Value}
  {f16:Addr} {od16 an16:Option Addr} {sl16:Array (Option Value)} {oc16 kV16 dc16 pm16 cd16 ct16:Value}
  {f17:Addr} {od17 an17:Option Addr} {sl17:Array (Option Value)} {oc17 kV17 dc17 pm17 cd17 ct17:Value}
  {f18:Addr} {od18 an18:Option Addr} {sl18:Array (Option Value)} {oc18 kV18 dc18 pm18 cd18 ct18:Value}
  {f19:Addr} {od19 an19:Option Addr} {sl19:Array (Option Value)} {oc19 kV19 dc19 pm19 cd19 ct19:Value}
  {f20:Addr} {od20 an20:Option Addr} {sl20:Array (Option Value)} {oc20 kV20 dc20 pm20 cd20 ct20:Value}
  {f21:Addr} {od21 an21:Option Addr} {sl21:Array (Option Value)} {oc21 kV21 dc21 pm21 cd21 ct21:Value}
  {f22:Addr} {od22 an22:Option Addr} {sl22:Array (Option Value)} {oc22 kV22 dc22 pm22 cd22 ct22:Value}
  {t_MOST_GROWINGS:Tok}
  {C_FloorError:Addr}
  {C_NoFloor:Addr}
  {C_NoPlace:Addr}
  {C_NoNumber:Addr}
  {C_NoRow:Addr}
  {C_Unlike:Addr}
  {C_NoTile:Addr}
  {C_NoRule:Addr}
  {C_NoText:Addr}
  {C_TooGreat:Addr}
  (a0:PySem.W.nsIn K mainGlobals "_law_cell_at" = some (some (.ref f0)))
  (l0:K.lookup f0=some ⟨oc0,od0,.func (PySem.W.fnOf "_law_cell_at" "_law_cell_at" (defArgs s__law_cell_at) (defBody s__law_cell_at) (defScope s__law_cell_at) .none kV0 dc0 pm0 an0 cd0 ct0),sl0⟩)
  (c0:PySem.W.codeIn K cd0 "_law_cell_at" = true)
  (k0:PySem.W.keepIn K (.ref f0)=true)
  (a1:PySem.W.nsIn K mainGlobals "_law_pen_of" = some (some (.ref f1)))
  (l1:K.lookup f1=some ⟨oc1,od1,.func (PySem.W.fnOf "_law_pen_of" "_law_pen_of" (defArgs s__law_pen_of) (defBody s__law_pen_of) (defScope s__law_pen_of) .none kV1 dc1 pm1 an1 cd1 ct1),sl1⟩)
  (c1:PySem.W.codeIn K cd1 "_law_pen_of" = true)
  (k1:PySem.W.keepIn K (.ref f1)=true)
  (a2:PySem.W.nsIn K mainGlobals "_law_next" = some (some (.ref f2)))
  (l2:K.lookup f2=some ⟨oc2,od2,.func (PySem.W.fnOf "_law_next" "_law_next" (defArgs s__law_next) (defBody s__law_next) (defScope s__law_next) .none kV2 dc2 pm2 an2 cd2 ct2),sl2⟩)
  (c2:PySem.W.codeIn K cd2 "_law_next" = true)
  (k2:PySem.W.keepIn K (.ref f2)=true)
  (a3:PySem.W.nsIn K mainGlobals "_law_draw" = some (some (.ref f3)))
  (l3:K.lookup f3=some ⟨oc3,od3,.func (PySem.W.fnOf "_law_draw" "_law_draw" (defArgs s__law_draw) (defBody s__law_draw) (defScope s__law_draw) .none kV3 dc3 pm3 an3 cd3 ct3),sl3⟩)
  (c3:PySem.W.codeIn K cd3 "_law_draw" = true)
  (k3:PySem.W.keepIn K (.ref f3)=true)
  (a4:PySem.W.nsIn K mainGlobals "_law_rule_by" = some (some (.ref f4)))
  (l4:K.lookup f4=some ⟨oc4,od4,.func (PySem.W.fnOf "_law_rule_by" "_law_rule_by" (defArgs s__law_rule_by) (defBody s__law_rule_by) (defScope s__law_rule_by) .none kV4 dc4 pm4 an4 cd4 ct4),sl4⟩)
  (c4:PySem.W.codeIn K cd4 "_law_rule_by" = true)
  (k4:PySem.W.keepIn K (.ref f4)=true)
  (a5:PySem.W.nsIn K mainGlobals "_law_tiles_of" = some (some (.ref f5)))
  (l5:K.lookup f5=some ⟨oc5,od5,.func (PySem.W.fnOf "_law_tiles_of" "_law_tiles_of" (defArgs s__law_tiles_of) (defBody s__law_tiles_of) (defScope s__law_tiles_of) .none kV5 dc5 pm5 an5 cd5 ct5),sl5⟩)
  (c5:PySem.W.codeIn K cd5 "_law_tiles_of" = true)
  (k5:PySem.W.keepIn K (.ref f5)=true)
  (a6:PySem.W.nsIn K mainGlobals "_law_line_of" = some (some (.ref f6)))
  (l6:K.lookup f6=some ⟨oc6,od6,.func (PySem.W.fnOf "_law_line_of" "_law_line_of" (defArgs s__law_line_of) (defBody s__law_line_of) (defScope s__law_line_of) .none kV6 dc6 pm6 an6 cd6 ct6),sl6⟩)
  (c6:PySem.W.codeIn K cd6 "_law_line_of" = true)
  (k6:PySem.W.keepIn K (.ref f6)=true)
  (a7:PySem.W.nsIn K mainGlobals "whole_from" = some (some (.ref f7)))
  (l7:K.lookup f7=some ⟨oc7,od7,.func (PySem.W.fnOf "whole_from" "whole_from" (defArgs s_whole_from) (defBody s_whole_from) (defScope s_whole_from) .none kV7 dc7 pm7 an7 cd7 ct7),sl7⟩)
  (c7:PySem.W.codeIn K cd7 "whole_from" = true)
  (k7:PySem.W.keepIn K (.ref f7)=true)
  (a8:PySem.W.nsIn K mainGlobals "whole_within" = some (some (.ref f8)))
  (l8:K.lookup f8=some ⟨oc8,od8,.func (PySem.W.fnOf "whole_within" "whole_within" (defArgs s_whole_within) (defBody s_whole_within) (defScope s_whole_within) .none kV8 dc8 pm8 an8 cd8 ct8),sl8⟩)
  (c8:PySem.W.codeIn K cd8 "whole_within" = true)
  (k8:PySem.W.keepIn K (.ref f8)=true)
  (a9:PySem.W.nsIn K mainGlobals "digit_good" = some (some (.ref f9)))
  (l9:K.lookup f9=some ⟨oc9,od9,.func (PySem.W.fnOf "digit_good" "digit_good" (defArgs s_digit_good) (defBody s_digit_good) (defScope s_digit_good) .none kV9 dc9 pm9 an9 cd9 ct9),sl9⟩)
  (c9:PySem.W.codeIn K cd9 "digit_good" = true)
  (k9:PySem.W.keepIn K (.ref f9)=true)
  (a10:PySem.W.nsIn K mainGlobals "digits_good" = some (some (.ref f10)))
  (l10:K.lookup f10=some ⟨oc10,od10,.func (PySem.W.fnOf "digits_good" "digits_good" (defArgs s_digits_good) (defBody s_digits_good) (defScope s_digits_good) .none kV10 dc10 pm10 an10 cd10 ct10),sl10⟩)
  (c10:PySem.W.codeIn K cd10 "digits_good" = true)
  (k10:PySem.W.keepIn K (.ref f10)=true)
  (a11:PySem.W.nsIn K mainGlobals "tiles_good" = some (some (.ref f11)))
  (l11:K.lookup f11=some ⟨oc11,od11,.func (PySem.W.fnOf "tiles_good" "tiles_good" (defArgs s_tiles_good) (defBody s_tiles_good) (defScope s_tiles_good) .none kV11 dc11 pm11 an11 cd11 ct11),sl11⟩)
  (c11:PySem.W.codeIn K cd11 "tiles_good" = true)
  (k11:PySem.W.keepIn K (.ref f11)=true)
  (a12:PySem.W.nsIn K mainGlobals "line_holds" = some (some (.ref f12)))
  (l12:K.lookup f12=some ⟨oc12,od12,.func (PySem.W.fnOf "line_holds" "line_holds" (defArgs s_line_holds) (defBody s_line_holds) (defScope s_line_holds) .none kV12 dc12 pm12 an12 cd12 ct12),sl12⟩)
  (c12:PySem.W.codeIn K cd12 "line_holds" = true)
  (k12:PySem.W.keepIn K (.ref f12)=true)
  (a13:PySem.W.nsIn K mainGlobals "_law_whole" = some (some (.ref f13)))
  (l13:K.lookup f13=some ⟨oc13,od13,.func (PySem.W.fnOf "_law_whole" "_law_whole" (defArgs s__law_whole) (defBody s__law_whole) (defScope s__law_whole) .none kV13 dc13 pm13 an13 cd13 ct13),sl13⟩)
  (c13:PySem.W.codeIn K cd13 "_law_whole" = true)
  (k13:PySem.W.keepIn K (.ref f13)=true)
  (a14:PySem.W.nsIn K mainGlobals "_law_digits_good" = some (some (.ref f14)))
  (l14:K.lookup f14=some ⟨oc14,od14,.func (PySem.W.fnOf "_law_digits_good" "_law_digits_good" (defArgs s__law_digits_good) (defBody s__law_digits_good) (defScope s__law_digits_good) .none kV14 dc14 pm14 an14 cd14 ct14),sl14⟩)
  (c14:PySem.W.codeIn K cd14 "_law_digits_good" = true)
  (k14:PySem.W.keepIn K (.ref f14)=true)
  (a15:PySem.W.nsIn K mainGlobals "_law_due_of" = some (some (.ref f15)))
  (l15:K.lookup f15=some ⟨oc15,od15,.func (PySem.W.fnOf "_law_due_of" "_law_due_of" (defArgs s__law_due_of) (defBody s__law_due_of) (defScope s__law_due_of) .none kV15 dc15 pm15 an15 cd15 ct15),sl15⟩)
  (c15:PySem.W.codeIn K cd15 "_law_due_of" = true)
  (k15:PySem.W.keepIn K (.ref f15)=true)
  (a16:PySem.W.nsIn K mainGlobals "_law_right" = some (some (.ref f16)))
  (l16:K.lookup f16=some ⟨oc16,od16,.func (PySem.W.fnOf "_law_right" "_law_right" (defArgs s__law_right) (defBody s__law_right) (defScope s__law_right) .none kV16 dc16 pm16 an16 cd16 ct16),sl16⟩)
  (c16:PySem.W.codeIn K cd16 "_law_right" = true)
  (k16:PySem.W.keepIn K (.ref f16)=true)
  (a17:PySem.W.nsIn K mainGlobals "_law_odd_digits" = some (some (.ref f17)))
  (l17:K.lookup f17=some ⟨oc17,od17,.func (PySem.W.fnOf "_law_odd_digits" "_law_odd_digits" (defArgs s__law_odd_digits) (defBody s__law_odd_digits) (defScope s__law_odd_digits) .none kV17 dc17 pm17 an17 cd17 ct17),sl17⟩)
  (c17:PySem.W.codeIn K cd17 "_law_odd_digits" = true)
  (k17:PySem.W.keepIn K (.ref f17)=true)
  (a18:PySem.W.nsIn K mainGlobals "_law_odd_of" = some (some (.ref f18)))
  (l18:K.lookup f18=some ⟨oc18,od18,.func (PySem.W.fnOf "_law_odd_of" "_law_odd_of" (defArgs s__law_odd_of) (defBody s__law_odd_of) (defScope s__law_odd_of) .none kV18 dc18 pm18 an18 cd18 ct18),sl18⟩)
  (c18:PySem.W.codeIn K cd18 "_law_odd_of" = true)
  (k18:PySem.W.keepIn K (.ref f18)=true)
  (a19:PySem.W.nsIn K mainGlobals "place_far" = some (some (.ref f19)))
  (l19:K.lookup f19=some ⟨oc19,od19,.func (PySem.W.fnOf "place_far" "place_far" (defArgs s_place_far) (defBody s_place_far) (defScope s_place_far) .none kV19 dc19 pm19 an19 cd19 ct19),sl19⟩)
  (c19:PySem.W.codeIn K cd19 "place_far" = true)
  (k19:PySem.W.keepIn K (.ref f19)=true)
  (a20:PySem.W.nsIn K mainGlobals "_law_kind_of" = some (some (.ref f20)))
  (l20:K.lookup f20=some ⟨oc20,od20,.func (PySem.W.fnOf "_law_kind_of" "_law_kind_of" (defArgs s__law_kind_of) (defBody s__law_kind_of) (defScope s__law_kind_of) .none kV20 dc20 pm20 an20 cd20 ct20),sl20⟩)
  (c20:PySem.W.codeIn K cd20 "_law_kind_of" = true)
  (k20:PySem.W.keepIn K (.ref f20)=true)
  (a21:PySem.W.nsIn K mainGlobals "_law_refused" = some (some (.ref f21)))
  (l21:K.lookup f21=some ⟨oc21,od21,.func (PySem.W.fnOf "_law_refused" "_law_refused" (defArgs s__law_refused) (defBody s__law_refused) (defScope s__law_refused) .none kV21 dc21 pm21 an21 cd21 ct21),sl21⟩)
  (c21:PySem.W.codeIn K cd21 "_law_refused" = true)
  (k21:PySem.W.keepIn K (.ref f21)=true)
  (a22:PySem.W.nsIn K mainGlobals "law" = some (some (.ref f22)))
  (l22:K.lookup f22=some ⟨oc22,od22,.func (PySem.W.fnOf "law" "law" (defArgs s_law) (defBody s_law) (defScope s_law) .none kV22 dc22 pm22 an22 cd22 ct22),sl22⟩)
  (c22:PySem.W.codeIn K cd22 "law" = true)
  (k22:PySem.W.keepIn K (.ref f22)=true)
  (z_ValueError:PySem.W.nsIn K mainGlobals "ValueError" = some none)
  (z_all:PySem.W.nsIn K mainGlobals "all" = some none)
  (z_bool:PySem.W.nsIn K mainGlobals "bool" = some none)
  (z_dict:PySem.W.nsIn K mainGlobals "dict" = some none)
  (z_enumerate:PySem.W.nsIn K mainGlobals "enumerate" = some none)
  (z_int:PySem.W.nsIn K mainGlobals "int" = some none)
  (z_isinstance:PySem.W.nsIn K mainGlobals "isinstance" = some none)
  (z_len:PySem.W.nsIn K mainGlobals "len" = some none)
  (z_list:PySem.W.nsIn K mainGlobals "list" = some none)
  (z_max:PySem.W.nsIn K mainGlobals "max" = some none)
  (z_range:PySem.W.nsIn K mainGlobals "range" = some none)
  (z_str:PySem.W.nsIn K mainGlobals "str" = some none)
  (z_tuple:PySem.W.nsIn K mainGlobals "tuple" = some none)
  (g_MOST_GROWINGS:PySem.W.nsIn K mainGlobals "MOST_GROWINGS" = some (some (.int 60 t_MOST_GROWINGS)))
  (ac_FloorError:PySem.W.nsIn K mainGlobals "FloorError" = some (some (.ref C_FloorError)))
  (ac_NoFloor:PySem.W.nsIn K mainGlobals "NoFloor" = some (some (.ref C_NoFloor)))
  (ac_NoPlace:PySem.W.nsIn K mainGlobals "NoPlace" = some (some (.ref C_NoPlace)))
  (ac_NoNumber:PySem.W.nsIn K mainGlobals "NoNumber" = some (some (.ref C_NoNumber)))
  (ac_NoRow:PySem.W.nsIn K mainGlobals "NoRow" = some (some (.ref C_NoRow)))
  (ac_Unlike:PySem.W.nsIn K mainGlobals "Unlike" = some (some (.ref C_Unlike)))
  (ac_NoTile:PySem.W.nsIn K mainGlobals "NoTile" = some (some (.ref C_NoTile)))
  (ac_NoRule:PySem.W.nsIn K mainGlobals "NoRule" = some (some (.ref C_NoRule)))
  (ac_NoText:PySem.W.nsIn K mainGlobals "NoText" = some (some (.ref C_NoText)))
  (ac_TooGreat:PySem.W.nsIn K mainGlobals "TooGreat" = some (some (.ref C_TooGreat)))
  (qc_FloorError:PySem.W.excIn K C_FloorError vErr "ValueError.__new__" = true)
  (qc_NoPlace:PySem.W.excIn K C_NoPlace vErr "ValueError.__new__" = true)
  (spc:PySem.W.specialIn K (.builtin "object.__class__") "__get__" = some (some (.builtin "getset_descriptor.__get__")))
  (tkc:PySem.W.takesIn K (.builtin "object.__class__")=some true)
  (ga_NoPlace:PySem.W.findIn K (.ref C_NoPlace) "__getattribute__" = some (some (.builtin "BaseException.__getattribute__")))
  (gt_NoPlace:PySem.W.findIn K (.ref C_NoPlace) "__getattr__" = some none)
  (cl_NoPlace:PySem.W.findIn K (.ref C_NoPlace) "__class__" = some (some (.builtin "object.__class__")))
  (mo_NoPlace:PySem.W.mroIn K C_NoPlace (.type "object")=some true)
  (mb_NoPlace:PySem.W.mroIn K C_NoPlace (.type "BaseException")=some true)
  (ci_NoPlace:PySem.W.isClsIn K C_NoPlace=true)
  (kv_NoPlace:PySem.W.kitOne K (.ref C_NoPlace) (.type "ValueError")=some true)
  (ki_NoPlace_NoFloor:PySem.W.kitOne K (.ref C_NoPlace) (.ref C_NoFloor)=some false)
  (ki_NoPlace_NoPlace:PySem.W.kitOne K (.ref C_NoPlace) (.ref C_NoPlace)=some true)
  (ki_NoPlace_NoNumber:PySem.W.kitOne K (.ref C_NoPlace) (.ref C_NoNumber)=some false)
  (ki_NoPlace_NoRow:PySem.W.kitOne K (.ref C_NoPlace) (.ref C_NoRow)=some false)
  (ki_NoPlace_Unlike:PySem.W.kitOne K (.ref C_NoPlace) (.ref C_Unlike)=some false)
  (ki_NoPlace_NoTile:PySem.W.kitOne K (.ref C_NoPlace) (.ref C_NoTile)=some false)
  (ki_NoPlace_NoRule:PySem.W.kitOne K (.ref C_NoPlace) (.ref C_NoRule)=some false)
  (ki_NoPlace_NoText:PySem.W.kitOne K (.ref C_NoPlace) (.ref C_NoText)=some false)
  (ki_NoPlace_TooGreat:PySem.W.kitOne K (.ref C_NoPlace) (.ref C_TooGreat)=some false)
  (mr_NoPlace_FloorError:PySem.W.mroIn K C_NoPlace (.ref C_FloorError)=some true)
  : ∃ fd:FuncData,(∀ (s:Shared) (v:Value),BindsTo s fd ⟨[v],[]⟩ [("script",v)])∧∀ base:Heap,K.In base→base.Ns mainGlobals mg→FnOk l.prog w K mg base CX0 7 fa fd ["script"] (spD 1 Gt):=by
 have e:=hfa.symm.trans (PySem.W.mg_of X G a22)
 cases e
 have T:Txt (ceOf [([70,108,111,111,114,69,114,114,111,114],C_FloorError),([78,111,70,108,111,111,114],C_NoFloor),([78,111,80,108,97,99,101],C_NoPlace),([78,111,78,117,109,98,101,114],C_NoNumber),([78,111,82,111,119],C_NoRow),([85,110,108,105,107,101],C_Unlike),([78,111,84,105,108,101],C_NoTile),([78,111,82,117,108,101],C_NoRule),([78,111,84,101,120,116],C_NoText),([84,111,111,71,114,101,97,116],C_TooGreat)]) K mg:=⟨PySem.W.mg_none_of X G z_ValueError,PySem.W.mg_none_of X G z_all,PySem.W.mg_none_of X G z_bool,PySem.W.mg_none_of X G z_dict,PySem.W.mg_none_of X G z_enumerate,PySem.W.mg_none_of X G z_int,PySem.W.mg_none_of X G z_isinstance,PySem.W.mg_none_of X G z_len,PySem.W.mg_none_of X G z_list,PySem.W.mg_none_of X G z_max,PySem.W.mg_none_of X G z_range,PySem.W.mg_none_of X G z_str,PySem.W.mg_none_of X G z_tuple,tyk_bool,tyk_int,tyk_list,tyk_str,tyk_tuple,⟨_,PySem.W.mg_of X G g_MOST_GROWINGS⟩,PySem.W.mg_of X G ac_FloorError,PySem.W.mg_of X G ac_NoFloor,PySem.W.mg_of X G ac_NoPlace,PySem.W.mg_of X G ac_NoNumber,PySem.W.mg_of X G ac_NoRow,PySem.W.mg_of X G ac_Unlike,PySem.W.mg_of X G ac_NoTile,PySem.W.mg_of X G ac_NoRule,PySem.W.mg_of X G ac_NoText,PySem.W.mg_of X G ac_TooGreat,qc_FloorError,qc_NoPlace,⟨(List.forall_mem_cons.mpr ⟨(⟨ga_NoPlace,gt_NoPlace,cl_NoPlace,spc,tkc,mo_NoPlace,mb_NoPlace⟩:ExcK K C_NoPlace),(fun _ h=>nomatch h)⟩),(List.forall_mem_cons.mpr ⟨ci_NoPlace,(fun _ h=>nomatch h)⟩),(List.forall_mem_cons.mpr ⟨ki_NoPlace_NoFloor,(fun _ h=>nomatch h)⟩)⟩,⟨(List.forall_mem_cons.mpr ⟨(⟨ga_NoPlace,gt_NoPlace,cl_NoPlace,spc,tkc,mo_NoPlace,mb_NoPlace⟩:ExcK K C_NoPlace),(fun _ h=>nomatch h)⟩),(List.forall_mem_cons.mpr ⟨ci_NoPlace,(fun _ h=>nomatch h)⟩),(List.forall_mem_cons.mpr ⟨ki_NoPlace_NoPlace,(fun _ h=>nomatch h)⟩)⟩,⟨(List.forall_mem_cons.mpr ⟨(⟨ga_NoPlace,gt_NoPlace,cl_NoPlace,spc,tkc,mo_NoPlace,mb_NoPlace⟩:ExcK K C_NoPlace),(fun _ h=>nomatch h)⟩),(List.forall_mem_cons.mpr ⟨ci_NoPlace,(fun _ h=>nomatch h)⟩),(List.forall_mem_cons.mpr ⟨ki_NoPlace_NoNumber,(fun _ h=>nomatch h)⟩)⟩,⟨(List.forall_mem_cons.mpr ⟨(⟨ga_NoPlace,gt_NoPlace,cl_NoPlace,spc,tkc,mo_NoPlace,mb_NoPlace⟩:ExcK K C_NoPlace),(fun _ h=>nomatch h)⟩),(List.forall_mem_cons.mpr ⟨ci_NoPlace,(fun _ h=>nomatch h)⟩),(List.forall_mem_cons.mpr ⟨ki_NoPlace_NoRow,(fun _ h=>nomatch h)⟩)⟩,⟨(List.forall_mem_cons.mpr ⟨(⟨ga_NoPlace,gt_NoPlace,cl_NoPlace,spc,tkc,mo_NoPlace,mb_NoPlace⟩:ExcK K C_NoPlace),(fun _ h=>nomatch h)⟩),(List.forall_mem_cons.mpr ⟨ci_NoPlace,(fun _ h=>nomatch h)⟩),(List.forall_mem_cons.mpr ⟨ki_NoPlace_Unlike,(fun _ h=>nomatch h)⟩)⟩,⟨(List.forall_mem_cons.mpr ⟨(⟨ga_NoPlace,gt_NoPlace,cl_NoPlace,spc,tkc,mo_NoPlace,mb_NoPlace⟩:ExcK K C_NoPlace),(fun _ h=>nomatch h)⟩),(List.forall_mem_cons.mpr ⟨ci_NoPlace,(fun _ h=>nomatch h)⟩),(List.forall_mem_cons.mpr ⟨ki_NoPlace_NoTile,(fun _ h=>nomatch h)⟩)⟩,⟨(List.forall_mem_cons.mpr ⟨(⟨ga_NoPlace,gt_NoPlace,cl_NoPlace,spc,tkc,mo_NoPlace,mb_NoPlace⟩:ExcK K C_NoPlace),(fun _ h=>nomatch h)⟩),(List.forall_mem_cons.mpr ⟨ci_NoPlace,(fun _ h=>nomatch h)⟩),(List.forall_mem_cons.mpr ⟨ki_NoPlace_NoRule,(fun _ h=>nomatch h)⟩)⟩,⟨(List.forall_mem_cons.mpr ⟨(⟨ga_NoPlace,gt_NoPlace,cl_NoPlace,spc,tkc,mo_NoPlace,mb_NoPlace⟩:ExcK K C_NoPlace),(fun _ h=>nomatch h)⟩),(List.forall_mem_cons.mpr ⟨ci_NoPlace,(fun _ h=>nomatch h)⟩),(List.forall_mem_cons.mpr ⟨ki_NoPlace_NoText,(fun _ h=>nomatch h)⟩)⟩,⟨(List.forall_mem_cons.mpr ⟨(⟨ga_NoPlace,gt_NoPlace,cl_NoPlace,spc,tkc,mo_NoPlace,mb_NoPlace⟩:ExcK K C_NoPlace),(fun _ h=>nomatch h)⟩),(List.forall_mem_cons.mpr ⟨ci_NoPlace,(fun _ h=>nomatch h)⟩),(List.forall_mem_cons.mpr ⟨ki_NoPlace_TooGreat,(fun _ h=>nomatch h)⟩)⟩,⟨(List.forall_mem_cons.mpr ⟨(⟨ga_NoPlace,gt_NoPlace,cl_NoPlace,spc,tkc,mo_NoPlace,mb_NoPlace⟩:ExcK K C_NoPlace),(fun _ h=>nomatch h)⟩),(List.forall_mem_cons.mpr ⟨ci_NoPlace,(fun _ h=>nomatch h)⟩),(List.forall_mem_cons.mpr ⟨kv_NoPlace,(fun _ h=>nomatch h)⟩)⟩,(List.forall_mem_cons.mpr ⟨⟨(by rw [show toS [78,111,80,108,97,99,101]=("NoPlace" : Str) from by decide +kernel]; exact PySem.W.mg_of X G ac_NoPlace),mr_NoPlace_FloorError⟩,(fun _ h=>nomatch h)⟩)⟩
 have F0:=fun_mk (st:=s__law_cell_at) l0 c0 k0
 have b0:=F0.binds (ps:=["script","k"]) fun _ _ _ _ _ _ us hl=>by rcases us with _ | ⟨_,_ | ⟨_,_ | ⟨_,_⟩⟩⟩ <;> first | rfl | cases hl
 have F1:=fun_mk (st:=s__law_pen_of) l1 c1 k1
 have b1:=F1.binds (ps:=["cell"]) fun _ _ _ _ _ _ us hl=>by rcases us with _ | ⟨_,_ | ⟨_,_⟩⟩ <;> first | rfl | cases hl
 have F2:=fun_mk (st:=s__law_next) l2 c2 k2
 have b2:=F2.binds (ps:=["seed"]) fun _ _ _ _ _ _ us hl=>by rcases us with _ | ⟨_,_ | ⟨_,_⟩⟩ <;> first | rfl | cases hl
 have F3:=fun_mk (st:=s__law_draw) l3 c3 k3
 have b3:=F3.binds (ps:=["pen","many"]) fun _ _ _ _ _ _ us hl=>by rcases us with _ | ⟨_,_ | ⟨_,_ | ⟨_,_⟩⟩⟩ <;> first | rfl | cases hl
 have F4:=fun_mk (st:=s__law_rule_by) l4 c4 k4
 have b4:=F4.binds (ps:=["pen","most"]) fun _ _ _ _ _ _ us hl=>by rcases us with _ | ⟨_,_ | ⟨_,_ | ⟨_,_⟩⟩⟩ <;> first | rfl | cases hl
 have F5:=fun_mk (st:=s__law_tiles_of) l5 c5 k5
 have b5:=F5.binds (ps:=["rule"]) fun _ _ _ _ _ _ us hl=>by rcases us with _ | ⟨_,_ | ⟨_,_⟩⟩ <;> first | rfl | cases hl
 have F6:=fun_mk (st:=s__law_line_of) l6 c6 k6
 have b6:=F6.binds (ps:=["pen","rule"]) fun _ _ _ _ _ _ us hl=>by rcases us with _ | ⟨_,_ | ⟨_,_ | ⟨_,_⟩⟩⟩ <;> first | rfl | cases hl
 have F7:=fun_mk (st:=s_whole_from) l7 c7 k7
 have b7:=F7.binds (ps:=["thing","least"]) fun _ _ _ _ _ _ us hl=>by rcases us with _ | ⟨_,_ | ⟨_,_ | ⟨_,_⟩⟩⟩ <;> first | rfl | cases hl
 have F8:=fun_mk (st:=s_whole_within) l8 c8 k8
 have b8:=F8.binds (ps:=["thing","least","most"]) fun _ _ _ _ _ _ us hl=>by rcases us with _ | ⟨_,_ | ⟨_,_ | ⟨_,_ | ⟨_,_⟩⟩⟩⟩ <;> first | rfl | cases hl
 have F9:=fun_mk (st:=s_digit_good) l9 c9 k9
 have b9:=F9.binds (ps:=["rule","thing"]) fun _ _ _ _ _ _ us hl=>by rcases us with _ | ⟨_,_ | ⟨_,_ | ⟨_,_⟩⟩⟩ <;> first | rfl | cases hl
 have F10:=fun_mk (st:=s_digits_good) l10 c10 k10
 have b10:=F10.binds (ps:=["rule","thing"]) fun _ _ _ _ _ _ us hl=>by rcases us with _ | ⟨_,_ | ⟨_,_ | ⟨_,_⟩⟩⟩ <;> first | rfl | cases hl
 have F11:=fun_mk (st:=s_tiles_good) l11 c11 k11
 have b11:=F11.binds (ps:=["block_of","thing"]) fun _ _ _ _ _ _ us hl=>by rcases us with _ | ⟨_,_ | ⟨_,_ | ⟨_,_⟩⟩⟩ <;> first | rfl | cases hl
 have F12:=fun_mk (st:=s_line_holds) l12 c12 k12
 have b12:=F12.binds (ps:=["rule","thing"]) fun _ _ _ _ _ _ us hl=>by rcases us with _ | ⟨_,_ | ⟨_,_ | ⟨_,_⟩⟩⟩ <;> first | rfl | cases hl
 have F13:=fun_mk (st:=s__law_whole) l13 c13 k13
 have b13:=F13.binds (ps:=["found"]) fun _ _ _ _ _ _ us hl=>by rcases us with _ | ⟨_,_ | ⟨_,_⟩⟩ <;> first | rfl | cases hl
 have F14:=fun_mk (st:=s__law_digits_good) l14 c14 k14
 have b14:=F14.binds (ps:=["rule","thing"]) fun _ _ _ _ _ _ us hl=>by rcases us with _ | ⟨_,_ | ⟨_,_ | ⟨_,_⟩⟩⟩ <;> first | rfl | cases hl
 have F15:=fun_mk (st:=s__law_due_of) l15 c15 k15
 have b15:=F15.binds (ps:=["rule","thing"]) fun _ _ _ _ _ _ us hl=>by rcases us with _ | ⟨_,_ | ⟨_,_ | ⟨_,_⟩⟩⟩ <;> first | rfl | cases hl
 have F16:=fun_mk (st:=s__law_right) l16 c16 k16
 have b16:=F16.binds (ps:=["rule","thing"]) fun _ _ _ _ _ _ us hl=>by rcases us with _ | ⟨_,_ | ⟨_,_ | ⟨_,_⟩⟩⟩ <;> first | rfl | cases hl
 have F17:=fun_mk (st:=s__law_odd_digits) l17 c17 k17
 have b17:=F17.binds (ps:=["pen","rule","digits"]) fun _ _ _ _ _ _ us hl=>by rcases us with _ | ⟨_,_ | ⟨_,_ | ⟨_,_ | ⟨_,_⟩⟩⟩⟩ <;> first | rfl | cases hl
 have F18:=fun_mk (st:=s__law_odd_of) l18 c18 k18
 have b18:=F18.binds (ps:=["pen","rule","line"]) fun _ _ _ _ _ _ us hl=>by rcases us with _ | ⟨_,_ | ⟨_,_ | ⟨_,_ | ⟨_,_⟩⟩⟩⟩ <;> first | rfl | cases hl
 have F19:=fun_mk (st:=s_place_far) l19 c19 k19
 have b19:=F19.binds (ps:=["rule","digits"]) fun _ _ _ _ _ _ us hl=>by rcases us with _ | ⟨_,_ | ⟨_,_ | ⟨_,_⟩⟩⟩ <;> first | rfl | cases hl
 have F20:=fun_mk (st:=s__law_kind_of) l20 c20 k20
 have b20:=F20.binds (ps:=["e"]) fun _ _ _ _ _ _ us hl=>by rcases us with _ | ⟨_,_ | ⟨_,_⟩⟩ <;> first | rfl | cases hl
 have F21:=fun_mk (st:=s__law_refused) l21 c21 k21
 have b21:=F21.binds (ps:=["rule","thing"]) fun _ _ _ _ _ _ us hl=>by rcases us with _ | ⟨_,_ | ⟨_,_ | ⟨_,_⟩⟩⟩ <;> first | rfl | cases hl
 have F22:=fun_mk (st:=s_law) l22 c22 k22
 have b22:=F22.binds (ps:=["script"]) fun _ _ _ _ _ _ us hl=>by rcases us with _ | ⟨_,_ | ⟨_,_⟩⟩ <;> first | rfl | cases hl
 refine ⟨PySem.W.fnOf "law" "law" (defArgs s_law) (defBody s_law) (defScope s_law) .none kV22 dc22 pm22 an22 cd22 ct22,fun s v=>.of_eq rfl,fun base _ _=>?_⟩
 have k__law_cell_at:KFn l.prog w K mg base 1 "_law_cell_at" 2 G__law_cell_at:=ok__law_cell_at F0 (PySem.W.mg_of X G a0) b0 T
 have k__law_pen_of:KFn l.prog w K mg base 1 "_law_pen_of" 1 G__law_pen_of:=ok__law_pen_of F1 (PySem.W.mg_of X G a1) b1 T
 have k__law_next:KFn l.prog w K mg base 1 "_law_next" 1 G__law_next:=ok__law_next F2 (PySem.W.mg_of X G a2) b2 T
 have k__law_draw:KFn l.prog w K mg base 2 "_law_draw" 2 G__law_draw:=ok__law_draw F3 (PySem.W.mg_of X G a3) b3 T k__law_next
 have k__law_rule_by:KFn l.prog w K mg base 3 "_law_rule_by" 2 G__law_rule_by:=ok__law_rule_by F4 (PySem.W.mg_of X G a4) b4 T k__law_draw
 have k__law_tiles_of:KFn l.prog w K mg base 1 "_law_tiles_of" 1 G__law_tiles_of:=ok__law_tiles_of F5 (PySem.W.mg_of X G a5) b5 T
 have k__law_line_of:KFn l.prog w K mg base 3 "_law_line_of" 2 G__law_line_of:=ok__law_line_of F6 (PySem.W.mg_of X G a6) b6 T k__law_draw k__law_tiles_of
 have k_whole_from:KFn l.prog w K mg base 1 "whole_from" 2 G_whole_from:=ok_whole_from F7 (PySem.W.mg_of X G a7) b7 T
 have k_whole_within:KFn l.prog w K mg base 2 "whole_within" 3 G_whole_within:=ok_whole_within F8 (PySem.W.mg_of X G a8) b8 T k_whole_from
 have k_digit_good:KFn l.prog w K mg base 3 "digit_good" 2 G_digit_good:=ok_digit_good F9 (PySem.W.mg_of X G a9) b9 T k_whole_within
 have k_digits_good:KFn l.prog w K mg base 4 "digits_good" 2 G_digits_good:=ok_digits_good F10 (PySem.W.mg_of X G a10) b10 T k_digit_good
 have k_tiles_good:KFn l.prog w K mg base 1 "tiles_good" 2 G_tiles_good:=ok_tiles_good F11 (PySem.W.mg_of X G a11) b11 T
 have k_line_holds:KFn l.prog w K mg base 5 "line_holds" 2 G_line_holds:=ok_line_holds F12 (PySem.W.mg_of X G a12) b12 T k_digits_good k_tiles_good
 have k__law_whole:KFn l.prog w K mg base 1 "_law_whole" 1 G__law_whole:=ok__law_whole F13 (PySem.W.mg_of X G a13) b13 T
 have k__law_digits_good:KFn l.prog w K mg base 2 "_law_digits_good" 2 G__law_digits_good:=ok__law_digits_good F14 (PySem.W.mg_of X G a14) b14 T k__law_whole
 have k__law_due_of:KFn l.prog w K mg base 3 "_law_due_of" 2 G__law_due_of:=ok__law_due_of F15 (PySem.W.mg_of X G a15) b15 T k__law_digits_good
 have k__law_right:KFn l.prog w K mg base 6 "_law_right" 2 G__law_right:=ok__law_right F16 (PySem.W.mg_of X G a16) b16 T k_line_holds k__law_due_of
 have k__law_odd_digits:KFn l.prog w K mg base 3 "_law_odd_digits" 3 G__law_odd_digits:=ok__law_odd_digits F17 (PySem.W.mg_of X G a17) b17 T k__law_draw
 have k__law_odd_of:KFn l.prog w K mg base 4 "_law_odd_of" 3 G__law_odd_of:=ok__law_odd_of F18 (PySem.W.mg_of X G a18) b18 T k__law_draw k__law_tiles_of k__law_odd_digits
 have k_place_far:KFnX l.prog w K mg base 5 "place_far" 2 G_place_far:=ok_place_far F19 (PySem.W.mg_of X G a19) b19 T k_digits_good
 have h__law_kind_of:KFnH l.prog w K mg base 1 "_law_kind_of" 1 (G__law_kind_of _):=okh__law_kind_of F20 (PySem.W.mg_of X G a20) b20 T
 have k__law_refused:KFn l.prog w K mg base 6 "_law_refused" 2 (G__law_refused _):=ok__law_refused F21 (PySem.W.mg_of X G a21) b21 T k_place_far h__law_kind_of
 exact ok_law F22 T k__law_cell_at k__law_pen_of k__law_rule_by k__law_line_of k_line_holds k__law_digits_good k__law_right k__law_odd_digits k__law_odd_of k__law_refused (hGt _)
open L2 DV
open PySem (sizeLine)
theorem ev_sq (f:DE) (δ:Dl):iSq f δ=(f δ).bind fun r δ1=>match r.d with
 | .lst ds=>.ok ds δ1
 | .tup ds=>.ok ds δ1
 | .str x=>.ok (x.map fun n=>.str [n]) δ1
 | _=>.stuck:=id rfl
theorem ev_chain (p p':D→D→Option S) (fa fb:DE) (fc:BE) (δ:Dl):eChain p p' fa fb fc δ=(fa δ).bind fun x δ1=>(fb δ1).bind fun y δ2=>(p2 p x.d y.d δ2).bind fun z δ3=>match z with
 | .pure (.bl true)=>(fc δ3).bind fun w δ4=>p2 p' y.d w δ4
 | .pure (.bl false)=>.ok (.pure (.bl false)) δ3
 | _=>.stuck:=id rfl
def nx (s:Int):Int:=(((s + 7919) % 2147483647) * ((s + 7919) % 2147483647) + 48271 * ((s + 7919) % 2147483647) + 12345) % 2147483629
theorem r_next (s:Int):G__law_next [.pure (.int s)]=some (.pure (.int (nx s)),[.pure (.int s)]):=by
 unfold G__law_next gOf b__law_next runD
 have h1:=Int.emod_nonneg (s + 7919) (b:=2147483647) (by decide)
 have h2:=Int.emod_lt_of_pos (s + 7919) (b:=2147483647) (by decide)
 have c1:cMul ((s + 7919) % 2147483647) ((s + 7919) % 2147483647)=true:=by unfold cMul; simp; omega
 have c2:cMul 48271 ((s + 7919) % 2147483647)=true:=by unfold cMul; simp
 simp [ioOk,startD,dAsg,eOpF,eOpN,bVar,pAdd,pMod,pII,pMulX,pMul,c1,c2,resOf,outsOf]
 rfl
def Pen (d:D):Prop:=∃ l f s:Int,d = .lst [.int l,.int f,.int s]∧0≤l
theorem r_draw {d:D} (hp:Pen d) (m:Nat) (h0:0 < m) (h1:m < 1073741824):∃ (r:Nat) (d':D),G__law_draw [.own d,.pure (.int m)]=some (.pure (.int r),[.own d',.pure (.int m)])∧r < m∧Pen d':=by
 obtain ⟨l,f,s,rfl,hl⟩:=hp
 have hm:(0:Int) < (m:Int):=by omega
 have hd:cDiv l m=true:=by unfold cDiv; simp; omega
 unfold G__law_draw gOf b__law_draw runD
 by_cases hf:f=1
 ·subst hf
  have e1:=Int.emod_nonneg l (b:=(m:Int)) (by omega)
  have e2:=Int.emod_lt_of_pos l hm
  refine ⟨(l % (m:Int)).toNat,.lst [.int (l / m),.int 1,.int s],?_,by omega,⟨_,_,_,rfl,Int.ediv_nonneg hl (by omega)⟩⟩
  simp [ioOk,startD,dAsg,eOpF,eOpN,bVar,eVar,pIx,pEq,eqD,flat,atI_zero,atI_one,atI_two,dTr,pMod,pDiv,pII,h0,hd,dSetI,isOwnL,putL,resOf,outsOf,ixN]
  omega
 ·have e1:=Int.emod_nonneg (nx (nx s + 7) / 64) (b:=(m:Int)) (by omega)
  have e2:=Int.emod_lt_of_pos (nx (nx s + 7) / 64) hm
  refine ⟨(nx (nx s + 7) / 64 % (m:Int)).toNat,.lst [.int l,.int f,.int (nx (nx s + 7))],?_,by omega,⟨_,_,_,rfl,hl⟩⟩
  simp [ioOk,startD,dAsg,eOpF,eOpN,bVar,eVar,pIx,pEq,eqD,flat,atI_zero,atI_one,atI_two,dTr,pMod,pDiv,pII,h0,hd,dSetI,isOwnL,putL,resOf,outsOf,ixN,hf,eCall,ios,isOwn,ndup,evX,mkA,r_next,pAdd,putA,cDiv]
  omega
theorem r_pen (c:Int):∃ d,G__law_pen_of [.pure (.int c)]=some (.own d,[.pure (.int c)])∧Pen d:=by
 unfold G__law_pen_of gOf b__law_pen_of runD
 refine ⟨.lst [.int (if 0 - c > c then 0 - c else c),.int (if decide (1000000000000000000≤(if 0 - c > c then 0 - c else c)) then 1 else 0),.int ((if 0 - c > c then 0 - c else c) % 1000003)],?_,⟨_,_,_,rfl,by split <;> omega⟩⟩
 simp [ioOk,startD,dAsg,eOpF,eOpN,bVar,eVar,pMax,pSub,pII,pInt,pGe,pCmp,pPow,cPow,pMod,resOf,outsOf]
theorem r_cell_zero (ns:List Int):∃ c:Int,G__law_cell_at [.pure (.lst (ns.map .int)),.pure (.int 0)]=some (.pure (.int c),[.pure (.lst (ns.map .int)),.pure (.int 0)]):=by
 unfold G__law_cell_at gOf b__law_cell_at runD
 cases ns with
 | nil=>exact ⟨0,by simp [ioOk,startD,eOpF,eOpN,bVar,pLt,pCmp,dTr,pLen,resOf,outsOf]⟩
 | cons n r=>exact ⟨n,by
   have:(0:Int) < (r.length:Int) + 1:=by omega
   simp [ioOk,startD,eOpF,eOpN,bVar,pLt,pCmp,dTr,pLen,resOf,outsOf,pIx,atI_zero,this]⟩
theorem r_drawI {d:D} (hp:Pen d) (m:Nat) (i:Int) (hi:i=m) (h0:0 < m) (h1:m < 1073741824):∃ (r:Nat) (d':D),G__law_draw [.own d,.pure (.int i)]=some (.pure (.int r),[.own d',.pure (.int i)])∧r < m∧Pen d':=by
 subst hi
 exact r_draw hp m h0 h1
open L2 DV
open PySem (sizeLine)
def lettersT:Tx:=[97,98,99,100,101,102,103,104,105,106,107,108,109,110,111,112,113,114,115,116,117,118,119,120,121,122]
def tsOf (s n:Nat):Tx:=(List.range n).map fun k=>97 + s + k
theorem letters_cut:∀ s,s < 26→∀ r,r < 26→s + 1 + r≤26→(lettersT.drop s).take (1 + r)=tsOf s (1 + r):=by decide
theorem letters_cutL {s r:Nat} (h:s + 1 + r≤26):cutL lettersT (some (s:Int)) (some ((s:Int) + 1 + (r:Int)))=tsOf s (1 + r):=by
 rw [← letters_cut s (by omega) r (by omega) h]
 have h1:¬ (s:Int) < 0:=by omega
 have h2:¬ (s:Int) + 1 + (r:Int) < 0:=by omega
 have h3:((s:Int) + 1 + (r:Int)).toNat=s + 1 + r:=by omega
 have hl:lettersT.length=26:=rfl
 unfold cutL HT.sIx
 simp only [h1,h2,if_false,h3,hl]
 have e1:min ((s:Int).toNat) 26=s:=by omega
 have e2:min (s + 1 + r) 26 - min ((s:Int).toNat) 26=1 + r:=by omega
 rw [e1] at e2 ⊢
 rw [e2]
theorem ts_len (s n:Nat):(tsOf s n).length=n:=by simp [tsOf]
theorem ts_up (s n:Nat):(tsOf s n).Pairwise (· < ·):=by
 unfold tsOf
 rw [List.pairwise_map]
 exact (List.pairwise_lt_range (n:=n)).imp fun h=>by omega
theorem ts_let {s n t:Nat} (h:s + n≤26) (ht:t ∈ tsOf s n):97≤t∧t≤122:=by
 simp [tsOf] at ht
 obtain ⟨k,hk,rfl⟩:=ht
 omega
def rb2 (pd:D) (m h w s:Nat) (ts:Tx) (al:Nat) (blocks:List D) (o9 o10 o11 o12 o13:Option S):Dl :=
 [some (.own pd),some (.pure (.int m)),some (.pure (.str lettersT)),some (.pure (.int h)),some (.pure (.int w)),some (.pure (.int s)),some (.pure (.str ts)),some (.pure (.int (1 + (al:Int)))),some (.own (.lst blocks)),o9,o10,o11,o12,o13,none]
abbrev elSign:DE:=eOpF pIx 6 (bOf (eOp pDiv (eCall G__law_draw [.io 0,.val (eC1 pLen (bVar 6))]) (bVar 7)))
theorem r_signs {m h w s:Nat} {ts:Tx} {al:Nat} (hts0:0 < ts.length) (hts:ts.length≤26) (hal:al < 3) (hw:w≤4) {pd:D} (hpd:Pen pd) (blocks:List D) (o9 o10 o11 o12 o13:Option S) :
  ∃ (x:Tx) (pd':D),compL [14] (gNm [0] 14) dYes elSign (rangeD 0 w) (rb2 pd m h w s ts al blocks o9 o10 o11 o12 o13) [] = .ok (x.map fun n=>.str [n]) (rb2 pd' m h w s ts al blocks o9 o10 o11 o12 o13)∧x.length=w∧(∀ n ∈ x,n ∈ ts)∧Pen pd':=by
 obtain ⟨xs,δ',e,⟨pd',hpd',rfl⟩,hn,hf⟩:=compL_inv (cs:=[14]) (g:=gNm [0] 14) (t:=dYes) (el:=elSign) (fun δ=>∃ pd,Pen pd∧δ=rb2 pd m h w s ts al blocks o9 o10 o11 o12 o13)
  (fun _ x=>∃ n,n ∈ ts∧x = .str [n]) (rangeD 0 w) _ [] ⟨pd,hpd,rfl⟩ (by rw [line_eq]; simp; omega) (fun d hd δ ⟨pd,hpd,e⟩=>by
   subst e
   obtain ⟨i,hi,rfl⟩:=ev_range_mem hd
   obtain ⟨r,d',e,l,p⟩:=r_draw hpd ts.length hts0 (by omega)
   have hd:pDiv (.int r) (.int (1 + (al:Int)))=some (.pure (.int ((r / (1 + al):Nat):Int))):=by
    have hc:cDiv (r:Int) (1 + (al:Int))=true:=by unfold cDiv; simp; omega
    show (if cDiv (r:Int) (1 + (al:Int)) then _ else _)=_
    rw [if_pos hc]
    simp
   have hlt:r / (1 + al) < ts.length:=Nat.lt_of_le_of_lt (Nat.div_le_self _ _) l
   refine ⟨_,_,.pure (.str [ts.getD (r / (1 + al)) 0]),(rb2 d' m h w s ts al blocks o9 o10 o11 o12 o13).set 14 (some (.pure (.int i))),rfl,rfl,?_,⟨d',p,rfl⟩,⟨_,?_,rfl⟩⟩
   ·have hx:=ev_ix_str ts (r / (1 + al)) hlt (by omega)
    simp only [rb2,elSign,eOpF,eOpN,ev_bOf,ev_eOp,List.set_cons_succ,List.set_cons_zero,List.getElem?_cons_succ,List.getElem?_cons_zero,eCall,ios,ndup,List.all_cons,List.all_nil,isOwn,Bool.and_true,if_true,evX,ev_eC1,bVar,ev_bind_ok,ev_p1,ev_d1,ev_len_str ts (by omega),List.contains_nil,Bool.not_false,mkA,Option.map_some,e,putA,ev_p2,hd,hx]
   ·simp [hlt])
 obtain ⟨x,rfl,hx⟩:=singles (P:=fun n=>n ∈ ts) (rel_mem hn hf fun d x _ h=>h)
 exact ⟨x,pd',by simpa using e,by simpa using hn,hx,hpd'⟩
abbrev bRow:DS:=(dSeq (dAsg (eComp [14] (iRange1 (eVar 4)) (gNm [0] 14) dYes elSign) (gNm [0] 12)) (dAppend 10 (eC1 (pJoin []) (bVar 12))))
theorem r_rows {m h w s:Nat} {ts:Tx} {al:Nat} (hts0:0 < ts.length) (hts:ts.length≤26) (hal:al < 3) (hw:w≤4) (hh:h≤4) {pd:D} (hpd:Pen pd) (blocks:List D) (o9 o11 o12 o13:Option S) :
  ∃ (fl:List Tx) (pd':D) (o11' o12':Option S),forL (gNm [0] 11) bRow (rangeD 0 h) (rb2 pd m h w s ts al blocks o9 (some (.own (.lst []))) o11 o12 o13) = .ok .next (rb2 pd' m h w s ts al blocks o9 (some (.own (.lst (fl.map .str)))) o11' o12' o13)∧fl.length=h∧(∀ r ∈ fl,r.length=w∧∀ n ∈ r,n ∈ ts)∧Pen pd':=by
 obtain ⟨δ',e3,pd',fl,o11',o12',hpd',hfl,hall,rfl⟩:=forL_inv (g:=gNm [0] 11) (b:=bRow) (fun k δ=>∃ (pd:D) (fl:List Tx) (o11 o12:Option S),Pen pd∧fl.length=k∧(∀ r ∈ fl,r.length=w∧∀ n ∈ r,n ∈ ts)∧δ=rb2 pd m h w s ts al blocks o9 (some (.own (.lst (fl.map .str)))) o11 o12 o13)
  (rangeD 0 h) 0 _ ⟨pd,[],o11,o12,hpd,rfl,by simp,rfl⟩ (fun i d δ hd ⟨pd,fl,o11,o12,hpd,hfl,hall,e⟩=>by
   subst e
   obtain ⟨hi,rfl⟩:=ev_range_get hd
   obtain ⟨x,pd',e,hx,hxt,hpd'⟩:=r_signs (m:=m) (h:=h) (s:=s) hts0 hts hal hw hpd blocks o9 (some (.own (.lst (fl.map .str)))) (some (.pure (.int i))) o12 o13
   have hz:fl.length < sizeLine:=by rw [line_eq]; omega
   have ej:=ev_join1 x (by omega)
   refine ⟨_,rb2 pd' m h w s ts al blocks o9 (some (.own (.lst ((fl ++ [x]).map .str)))) (some (.pure (.int i))) (some (.own (.lst (x.map fun n=>.str [n])))) o13,rfl,?_,⟨pd',fl ++ [x],_,_,hpd',by simp [hfl],?_,rfl⟩⟩
   ·unfold rb2 at e ⊢
    simp [bRow,dAsg,eVar,rng_ok w (by omega),isOwn,clrD]
    rw [e]
    simp [backD,dAppend,isOwnL,bVar,ej,putL,hz]
   ·intro r hr
    rcases List.mem_append.mp hr with hr | hr
    ·exact hall r hr
    ·simp at hr; subst hr; exact ⟨hx,hxt⟩)
 exact ⟨fl,pd',o11',o12',e3,by simpa using hfl,hall,hpd'⟩
open L2 DV
open PySem (sizeLine)
abbrev bTile:DS:=(dSeq (dAsg (eLst aNil) (gNm [0] 10)) (dSeq (dFor (iRange1 (eVar 3)) (gNm [0] 11) bRow) (dAppend 8 (eTup (aCons (eVar 9) (aCons (eC1 pTuple (bVar 10)) aNil))))))
theorem r_blocks {m h w s:Nat} {ts:Tx} {al:Nat} (hts0:0 < ts.length) (hts:ts.length≤26) (hal:al < 3) (hw:w≤4) (hh:h≤4) {pd:D} (hpd:Pen pd) :
  ∃ (bs:List (Nat×List Tx)) (pd':D) (o9 o10 o11 o12:Option S),forL (gNm [0] 9) bTile (ts.map fun n=>.str [n]) (rb2 pd m h w s ts al [] none none none none none) = .ok .next (rb2 pd' m h w s ts al (bs.map blD) o9 o10 o11 o12 none)∧bs.map (·.1)=ts∧(∀ b ∈ bs,b.2.length=h∧∀ r ∈ b.2,r.length=w∧∀ n ∈ r,n ∈ ts)∧Pen pd':=by
 obtain ⟨δ',e3,pd',bs,o9,o10,o11,o12,hpd',hbs,hall,rfl⟩:=forL_inv (g:=gNm [0] 9) (b:=bTile) (fun k δ=>∃ (pd:D) (bs:List (Nat×List Tx)) (o9 o10 o11 o12:Option S),Pen pd∧bs.map (·.1)=ts.take k∧(∀ b ∈ bs,b.2.length=h∧∀ r ∈ b.2,r.length=w∧∀ n ∈ r,n ∈ ts)∧δ=rb2 pd m h w s ts al (bs.map blD) o9 o10 o11 o12 none)
  (ts.map fun n=>D.str [n]) 0 _ ⟨pd,[],none,none,none,none,hpd,rfl,by simp,rfl⟩ (fun i d δ hd ⟨pd,bs,o9,o10,o11,o12,hpd,hbs,hall,e⟩=>by
   subst e
   rw [List.getElem?_map,Option.map_eq_some_iff] at hd
   obtain ⟨n,hn,rfl⟩:=hd
   have hi:i < ts.length:=(List.getElem?_eq_some_iff.mp hn).1
   rw [Nat.zero_add] at hbs
   have hbl:bs.length=i:=by have:=congrArg List.length hbs; simp at this; omega
   obtain ⟨fl,pd',o11',o12',e,hfl,hflt,hpd'⟩:=r_rows (m:=m) (h:=h) (s:=s) hts0 hts hal hw hh hpd (bs.map blD) (some (.pure (.str [n]))) o11 o12 none
   have hz:bs.length < sizeLine:=by rw [line_eq]; omega
   refine ⟨_,rb2 pd' m h w s ts al ((bs ++ [(n,fl)]).map blD) (some (.pure (.str [n]))) (some (.own (.lst (fl.map .str)))) o11' o12' none,rfl,?_,⟨pd',bs ++ [(n,fl)],_,_,_,_,hpd',?_,?_,rfl⟩⟩
   ·unfold rb2 at e ⊢
    simp [bTile,dAsg,eVar,rng_ok h (by omega)]
    rw [e]
    simp [dAppend,isOwnL,eVar,bVar,pTuple,putL,hz,blD]
   ·rw [Nat.zero_add,List.map_append,hbs,List.take_add_one,hn]
    simp
   ·intro b hb
    rcases List.mem_append.mp hb with hb | hb
    ·exact hall b hb
    ·simp at hb; subst hb; exact ⟨hfl,hflt⟩)
 refine ⟨bs,pd',o9,o10,o11,o12,e3,?_,hall,hpd'⟩
 rw [hbs,List.take_of_length_le]
 simp
theorem sizes_at:∀ r:Nat,r < 10→∃ h w:Nat,pIx (.lst [.tup [.int 2,.int 2],.tup [.int 1,.int 2],.tup [.int 2,.int 1],.tup [.int 2,.int 2],.tup [.int 1,.int 3],.tup [.int 2,.int 3],.tup [.int 3,.int 1],.tup [.int 3,.int 2],.tup [.int 4,.int 4],.tup [.int 2,.int 2]]) (.int r)=some (.pure (.tup [.int h,.int w]))∧0 < h∧h≤4∧0 < w∧w≤4∧2 < h + w:=by
 intro r hr
 have:r=0∨r=1∨r=2∨r=3∨r=4∨r=5∨r=6∨r=7∨r=8∨r=9:=by omega
 rcases this with rfl | rfl | rfl | rfl | rfl | rfl | rfl | rfl | rfl | rfl
 ·exact ⟨2,2,rfl,by decide⟩
 ·exact ⟨1,2,rfl,by decide⟩
 ·exact ⟨2,1,rfl,by decide⟩
 ·exact ⟨2,2,rfl,by decide⟩
 ·exact ⟨1,3,rfl,by decide⟩
 ·exact ⟨2,3,rfl,by decide⟩
 ·exact ⟨3,1,rfl,by decide⟩
 ·exact ⟨3,2,rfl,by decide⟩
 ·exact ⟨4,4,rfl,by decide⟩
 ·exact ⟨2,2,rfl,by decide⟩
theorem sub_int (i j:Int):pSub (.int i) (.int j)=some (.pure (.int (i - j))):=rfl
theorem sl1_str (x:Tx) (h:x.length≤1000):pSl (some 1) none (.str x)=some (.pure (.str x.tail)):=by
 unfold pSl
 have hz:sizeLine=16777216:=rfl
 simp only
 rw [if_pos (by omega)]
 have:cutL x (some 1) none=x.tail:=by
  unfold cutL HT.sIx
  simp
  cases x with
  | nil=>simp
  | cons a r=>simp
 rw [this]
theorem sl1_tup (ds:List D):pSl (some 1) none (.tup ds)=some (.pure (.tup ds.tail)):=by
 have:cutL ds (some 1) none=ds.tail:=by
  unfold cutL HT.sIx
  simp
  cases ds with
  | nil=>simp
  | cons a r=>simp
 show some (S.pure (.tup (cutL ds (some 1) none)))=_
 rw [this]
theorem add_str (x y:Tx) (h:x.length + y.length≤1000):pAdd (.str x) (.str y)=some (.pure (.str (x ++ y))):=by
 have hz:sizeLine=16777216:=rfl
 simp only [pAdd]
 rw [if_pos (by omega)]
theorem add_tup (x y:List D) (h:x.length + y.length≤1000):pAdd (.tup x) (.tup y)=some (.pure (.tup (x ++ y))):=by
 have hz:sizeLine=16777216:=rfl
 simp only [pAdd]
 rw [if_pos (by omega)]
def fixB:List (Nat×List Tx)→List (Nat×List Tx)
 | (n,r :: q) :: bs=>(n,(n :: r.tail) :: q) :: bs
 | bs=>bs
theorem fix_fst (bs:List (Nat×List Tx)):(fixB bs).map (·.1)=bs.map (·.1):=by
 match bs with
 | []=>rfl
 | (n,[]) :: bs=>rfl
 | (n,r :: q) :: bs=>rfl
theorem fix_rul {h w:Nat} {bs:List (Nat×List Tx)} (R:Rul h w bs):Rul h w (fixB bs):=by
 have hf:=fix_fst bs
 have hl:(fixB bs).length=bs.length:=by have:=congrArg List.length hf; simpa using this
 refine ⟨R.h0,R.h1,R.w0,R.w1,R.hw,by rw [hl]; exact R.n0,by rw [hl]; exact R.n1,by rw [hf]; exact R.up,fun b hb=>?_,fun b hb=>?_⟩
 ·have:b.1 ∈ (fixB bs).map (·.1):=List.mem_map_of_mem hb
  rw [hf] at this
  obtain ⟨b',hb',e⟩:=List.mem_map.mp this
  rw [← e]; exact R.let' b' hb'
 ·rw [hf]
  match bs,R,hb with
  | [],R,hb=>have:=R.n0; simp at this
  | (n,[]) :: bs,R,hb=>exact R.blk b hb
  | (n,r :: q) :: bs,R,hb =>
   rcases List.mem_cons.mp hb with e | hb
   ·subst e
    have:=R.blk _ List.mem_cons_self
    refine ⟨this.1,fun x hx=>?_⟩
    rcases List.mem_cons.mp hx with e | hx
    ·subst e
     have h1:=this.2 r List.mem_cons_self
     refine ⟨by have:=R.w0; simp; omega,fun k hk=>?_⟩
     rcases List.mem_cons.mp hk with e | hk
     ·subst e; simp
     ·exact h1.2 k (List.mem_of_mem_tail hk)
    ·exact this.2 x (List.mem_cons_of_mem _ hx)
   ·exact R.blk b (List.mem_cons_of_mem _ hb)
theorem r_rule_by {d:D} (hp:Pen d) (m:Nat) (hm0:0 < m) (hm1:m≤26):∃ (h w:Nat) (bs:List (Nat×List Tx)) (d':D),
  G__law_rule_by [.own d,.pure (.int m)]=some (.pure (ruD h w bs),[.own d',.pure (.int m)])∧Rul h w bs∧bs.length≤m∧Pen d':=by
 obtain ⟨r1,d1,e1,l1,p1⟩:=r_drawI hp 10 10 rfl (by decide) (by decide)
 obtain ⟨h,w,hx,h0,h1,w0,w1,hw⟩:=sizes_at r1 l1
 obtain ⟨s,d2,e2,l2,p2⟩:=r_drawI p1 (27 - m) (27 - (m:Int)) (by omega) (by omega) (by omega)
 obtain ⟨r3,d3,e3,l3,p3⟩:=r_draw p2 m hm0 (by omega)
 obtain ⟨al,d4,e4,l4,p4⟩:=r_drawI p3 3 3 rfl (by decide) (by decide)
 have hc:=letters_cutL (s:=s) (r:=r3) (by omega)
 have hlen:=ts_len s (1 + r3)
 have hup:=ts_up s (1 + r3)
 have hlet:∀ t ∈ tsOf s (1 + r3),97≤t∧t≤122:=fun t ht=>ts_let (by omega) ht
 generalize tsOf s (1 + r3)=ts at hc hlen hup hlet
 obtain ⟨bs,d5,o9,o10,o11,o12,e5,hfst,hall,p5⟩:=r_blocks (m:=m) (h:=h) (w:=w) (s:=s) (ts:=ts) (al:=al) (by omega) (by omega) l4 w1 h1 p4
 obtain ⟨r6,d6,e6,l6,p6⟩:=r_drawI p5 2 2 rfl (by decide) (by decide)
 have hbl:bs.length=1 + r3:=by have:=congrArg List.length hfst; simp at this; omega
 have R:Rul h w bs:=⟨h0,h1,w0,w1,hw,by omega,by omega,by rw [hfst]; exact hup,fun b hb=>hlet _ (by rw [← hfst]; exact List.mem_map_of_mem hb),fun b hb=>by rw [hfst]; exact hall b hb⟩
 have hsl:pSl (some (s:Int)) (some ((s:Int) + 1 + (r3:Int))) (.str lettersT)=some (.pure (.str ts)):=by rw [← hc]; rfl
 have hsz:[some (S.own d4),some (.pure (.int m)),some (.pure (.str lettersT)),some (.pure (.int h)),some (.pure (.int w)),some (.pure (.int s)),some (.pure (.str ts)),some (.pure (.int (1 + (al:Int)))),some (.own (.lst [])),none,none,none,none,none,none]=rb2 d4 m h w s ts al [] none none none none none:=rfl
 have hlT:D.str [97,98,99,100,101,102,103,104,105,106,107,108,109,110,111,112,113,114,115,116,117,118,119,120,121,122] = .str lettersT:=rfl
 by_cases hr6:r6=0
 ·-- the first block is changed
  match bs,R,hbl,e5,hall with
  | [],R,hbl,e5,hall=>simp at hbl; omega
  | (n,[]) :: q,R,hbl,e5,hall=>have:=(R.blk _ List.mem_cons_self).1; simp at this; omega
  | (n,x :: fl) :: q,R,hbl,e5,hall =>
   have hxl:=(R.blk _ List.mem_cons_self).2 x List.mem_cons_self
   have hfl:=(R.blk _ List.mem_cons_self).1
   simp only at hxl hfl
   refine ⟨h,w,fixB ((n,x :: fl) :: q),d6,?_,fix_rul R,?_,p6⟩
   ·have a1:pAdd (.str [n]) (.str x.tail)=some (.pure (.str (n :: x.tail))):=add_str [n] x.tail (by simp; omega)
    have a2:pAdd (.tup [.str (n :: x.tail)]) (.tup (fl.map .str))=some (.pure (.tup (.str (n :: x.tail) :: fl.map .str))):=add_tup [.str (n :: x.tail)] (fl.map .str) (by simp at hfl ⊢; omega)
    have s1:=sl1_str x (by omega)
    have s2:pSl (some 1) none (flD (x :: fl))=some (.pure (.tup (fl.map .str))):=sl1_tup ((x :: fl).map D.str)
    unfold G__law_rule_by gOf b__law_rule_by runD
    rw [hlT]
    generalize lettersT=LT at *
    generalize [D.tup [.int 2,.int 2],.tup [.int 1,.int 2],.tup [.int 2,.int 1],.tup [.int 2,.int 2],.tup [.int 1,.int 3],.tup [.int 2,.int 3],.tup [.int 3,.int 1],.tup [.int 3,.int 2],.tup [.int 4,.int 4],.tup [.int 2,.int 2]]=SZ at *
    simp [ioOk,startD,dAsg,eCall,ios,ndup,isOwn,evX,mkA,e1,putA,hx,gTp,gsCons,gsNil,sub_int,bVar,e2,eSlN,oSome,eVar,eOpF,eOpN,pAdd,e3,hsl,e4,ev_sq]
    simp only [hsz]
    rw [e5]
    simp [rb2,dTr,eCall,ios,ndup,isOwn,evX,mkA,e6,putA,hr6,pEq,flat,eqD,eOpF,eOpN,bVar,pIx,atI_zero,gTp,gsCons,gsNil,dSetI,isOwnL,eVar,eSlN,oSome,s1,a1,s2,a2,ixN,putL,blD,pTuple,resOf,outsOf,fixB]
   ·have:=congrArg List.length (fix_fst ((n,x :: fl) :: q))
    simp at this hbl ⊢
    omega
 ·refine ⟨h,w,bs,d6,?_,R,by omega,p6⟩
  unfold G__law_rule_by gOf b__law_rule_by runD
  rw [hlT]
  generalize lettersT=LT at *
  generalize [D.tup [.int 2,.int 2],.tup [.int 1,.int 2],.tup [.int 2,.int 1],.tup [.int 2,.int 2],.tup [.int 1,.int 3],.tup [.int 2,.int 3],.tup [.int 3,.int 1],.tup [.int 3,.int 2],.tup [.int 4,.int 4],.tup [.int 2,.int 2]]=SZ at *
  simp [ioOk,startD,dAsg,eCall,ios,ndup,isOwn,evX,mkA,e1,putA,hx,gTp,gsCons,gsNil,sub_int,bVar,e2,eSlN,oSome,eVar,eOpF,eOpN,pAdd,e3,hsl,e4,ev_sq]
  simp only [hsz]
  rw [e5]
  simp [rb2,dTr,eCall,ios,ndup,isOwn,evX,mkA,e6,putA,hr6,pEq,flat,eqD,bVar,pTuple,resOf,outsOf,eVar]
open L2 DV
open PySem (sizeLine)
theorem mul_int (i j:Int) (h0:0≤j) (h1:j≤1000):pMulX (.int i) (.int j)=some (.pure (.int (i * j))):=by
 unfold pMulX pMul pII
 have:cMul i j=true:=by unfold cMul; simp; omega
 simp only [this,if_true]
theorem le_int (i j:Int):pLe (.int i) (.int j)=some (.pure (.bl (decide (i≤j)))):=rfl
theorem gt_int (i j:Int):pGt (.int i) (.int j)=some (.pure (.bl (decide (j < i)))):=rfl
theorem eq_int (i j:Int):pEq (.int i) (.int j)=some (.pure (.bl (i == j))):=rfl
theorem ne_int (i j:Int):pNe (.int i) (.int j)=some (.pure (.bl (!(i == j)))):=rfl
theorem add_int (i j:Int):pAdd (.int i) (.int j)=some (.pure (.int (i + j))):=rfl
theorem gOf_def (np:List Nat) (n:Nat) (b:DS) (ss:List S):gOf np n b ss=if ioOk np 0 ss then (match b (startD n ss) with
 | .ok fl δ=>(resOf fl).bind fun r=>(outsOf 0 ss δ).map fun outs=>(r,outs)
 | _=>none) else none:=rfl
def dcD (bs:List (Nat×List Tx)):D:=.dct (bs.map fun b=>(Sum.inr [b.1],flD b.2))
theorem pairs_bl:∀ bs:List (Nat×List Tx),pairsD (bs.map blD)=some (bs.map fun b=>(Sum.inr [b.1],flD b.2))
 | []=>rfl
 | b :: r=>by
  have:=pairs_bl r
  simp only [List.map_cons]
  simp [pairsD,keyD,this]
theorem putDs_new:∀ (kps acc:List (DKey×D)),((acc ++ kps).map (·.1)).Nodup→putDs kps acc=acc ++ kps
 | [],acc,_=>by simp [putDs]
 | p :: r,acc,h=>by
  have hn:(acc.any fun kv=>decide (kv.1=p.1))=false:=by
   rw [List.any_eq_false]
   intro kv hkv
   simp only [decide_eq_true_eq]
   intro e
   rw [List.map_append,List.nodup_append] at h
   exact h.2.2 kv.1 (List.mem_map_of_mem hkv) p.1 (List.mem_map_of_mem List.mem_cons_self) e
  have hp:putD acc p.1 p.2=acc ++ [p]:=by
   unfold putD
   rw [hn]
   simp
  show putDs r (putD acc p.1 p.2)=_
  rw [hp,putDs_new r (acc ++ [p]) (by simpa using h)]
  simp
theorem dict_bl {h w:Nat} {bs:List (Nat×List Tx)} (R:Rul h w bs):pDictOf (.tup (bs.map blD))=some (.own (dcD bs)):=by
 unfold pDictOf
 simp only [pairs_bl,Option.bind_some,List.length_map]
 have hz:sizeLine=16777216:=rfl
 rw [if_pos (by have:=R.n1; omega),putDs_new]
 ·rfl
 ·simp only [List.nil_append,List.map_map]
  rw [List.nodup_iff_pairwise_ne,List.pairwise_map]
  have:=R.up
  rw [List.pairwise_map] at this
  exact this.imp fun {a b} hab=>by simp; omega
def blk (bs:List (Nat×List Tx)) (n:Nat):List Tx:=((bs.find? fun b=>decide (b.1=n)).map (·.2)).getD []
theorem blk_mem {bs:List (Nat×List Tx)} {n:Nat} (h:n ∈ bs.map (·.1)):∃ b ∈ bs,b.1=n∧(bs.find? fun b=>decide (b.1=n))=some b∧blk bs n=b.2:=by
 cases e:bs.find? fun b=>decide (b.1=n) with
 | none =>
  obtain ⟨b,hb,rfl⟩:=List.mem_map.mp h
  have:=List.find?_eq_none.mp e b hb
  simp at this
 | some b =>
  have h1:=List.mem_of_find?_eq_some e
  have h2:=List.find?_some e
  refine ⟨b,h1,by simpa using h2,rfl,?_⟩
  unfold blk
  rw [e]
  rfl
theorem val_bl (bs:List (Nat×List Tx)) (n:Nat):valD (bs.map fun b=>((Sum.inr [b.1]:DKey),flD b.2)) (.inr [n])=(bs.find? fun b=>decide (b.1=n)).map fun b=>flD b.2:=by
 unfold valD
 rw [List.find?_map]
 simp [Function.comp_def]
theorem ix_dc {bs:List (Nat×List Tx)} {n:Nat} (h:n ∈ bs.map (·.1)):pIxX (dcD bs) (.str [n])=some (.pure (flD (blk bs n))):=by
 obtain ⟨b,hb,_,e,e2⟩:=blk_mem h
 show ((keyD (.str [n])).bind fun k=>(valD (bs.map fun b=>((Sum.inr [b.1]:DKey),flD b.2)) k).map S.pure)=_
 simp only [keyD,Option.bind_some,val_bl,e,Option.map_some,e2]
def NX:D→Prop
 | .exc _=>False
 | _=>True
def isI:D→Bool
 | .int _=>true
 | _=>false
theorem r_whole (d:D) (hd:NX d):G__law_whole [.pure d]=some (.pure (.bl (isI d)),[.pure d]):=by
 unfold G__law_whole gOf b__law_whole runD
 cases d <;> first | exact hd.elim | simp [ioOk,startD,eAnd,eNot,eIsi,isTy,bVar,resOf,outsOf,isI]
def wi (m:Int):D→Bool
 | .int i=>decide (0≤i) && decide (i≤m)
 | _=>false
theorem r_fromA (d:D) (hd:NX d):G_whole_from [.pure d,.pure (.int 0)]=some (.pure (.bl (match d with | .int i=>decide (0≤i) | _=>false)),[.pure d,.pure (.int 0)]):=by
 rw [G_whole_from,gOf_def,b_whole_from]
 cases d <;> first | exact hd.elim | simp [ioOk,startD,eAnd,eNot,eIsi,isTy,bVar,eVar,eOpF,eOpN,le_int,resOf,outsOf]
theorem r_withinA (d:D) (m:Int) (hd:NX d):G_whole_within [.pure d,.pure (.int 0),.pure (.int m)]=some (.pure (.bl (wi m d)),[.pure d,.pure (.int 0),.pure (.int m)]):=by
 have e:=r_fromA d hd
 rw [G_whole_within,gOf_def,b_whole_within]
 cases d with
 | int i =>
  simp only at e
  by_cases h:0≤i
  ·simp [h] at e
   simp [ioOk,startD,eAnd,eCall,ios,ndup,isOwn,evX,mkA,e,putA,bVar,eVar,eOpF,eOpN,le_int,resOf,outsOf,wi,h]
  ·simp [h] at e
   simp [ioOk,startD,eAnd,eCall,ios,ndup,isOwn,evX,mkA,e,putA,bVar,eVar,eOpF,eOpN,le_int,resOf,outsOf,wi,h]
 | exc n=>exact hd.elim
 | _ =>
  simp only at e
  simp [ioOk,startD,eAnd,eCall,ios,ndup,isOwn,evX,mkA,e,putA,bVar,eVar,eOpF,eOpN,le_int,resOf,outsOf,wi]
open L2 DV
open PySem (sizeLine)
theorem ru_ix (h w:Nat) (bs:List (Nat×List Tx)):pIx (ruD h w bs) (.int 0)=some (.pure (.int h))∧pIx (ruD h w bs) (.int 1)=some (.pure (.int w))∧pIx (ruD h w bs) (.int 2)=some (.pure (.tup (bs.map blD))):=by
 refine ⟨?_,?_,?_⟩
 ·simp [pIx,atI_zero]
 ·simp [pIx,atI_one]
 ·simp [pIx,atI_two]
abbrev Pr:=Nat×Nat
abbrev prD (p:Pr):D:=.tup [.int p.1,.int p.2]
abbrev t1D (n:Nat):D:=.str [n]
def DrawOk (GD:DF):Prop:=∀ (d:D) (m:Nat),Pen d→0 < m→m < 1073741824→∃ (r:Nat) (d':D),GD [.own d,.pure (.int m)]=some (.pure (.int r),[.own d',.pure (.int m)])∧r < m∧Pen d'
theorem draw_ok:DrawOk G__law_draw:=fun d m hp h0 h1=>r_draw hp m h0 h1
theorem r_tiles_of {h w:Nat} {bs:List (Nat×List Tx)} (R:Rul h w bs):G__law_tiles_of [.pure (ruD h w bs)]=some (.own (.lst ((bs.map (·.1)).map t1D)),[.pure (ruD h w bs)]):=by
 have x2:=(ru_ix h w bs).2.2
 have hn:=R.n1
 generalize ruD h w bs=ru at *
 have e:=compL_mapA (cs:=[1,2]) (g:=(gTp 2 (gsCons (gNm [] 1) (gsCons (gNm [] 2) gsNil)))) (t:=dYes) (el:=eVar 1) blD (fun b:Nat×List Tx=>t1D b.1) [some (.pure ru),none,none] bs [] (by rw [line_eq]; simp; omega) (fun b hb=>⟨_,_,.pure (t1D b.1),[some (.pure ru),some (.pure (t1D b.1)),some (.pure (flD b.2))],rfl,rfl,rfl,rfl,rfl⟩)
 rw [G__law_tiles_of,gOf_def,b__law_tiles_of]
 simp [ioOk,startD,eOpF,eOpN,bVar,x2,ev_sq,isOwn,clrD]
 rw [e]
 simp [backD,resOf,outsOf,Function.comp_def]
open L2 DV
open PySem (sizeLine)
def dg (h w:Nat):D→Bool
 | .tup [x,y]=>wi ((h:Int) - 1) x && wi ((w:Int) - 1) y
 | _=>false
def NX1:D→Prop
 | .tup ds=>ds.length≤1000∧∀ d ∈ ds,NX d
 | .exc _=>False
 | _=>True
theorem NX1.nx {d:D} (h:NX1 d):NX d:=by cases d <;> first | exact h | trivial
theorem dg_len {h w:Nat} {ds:List D} (hl:ds.length≠2):dg h w (.tup ds)=false:=by
 match ds,hl with
 | [],_=>rfl
 | [_],_=>rfl
 | [_,_],hl=>exact absurd rfl hl
 | _ :: _ :: _ :: _,_=>rfl
theorem two {ds:List D} (h:ds.length=2):∃ x y,ds=[x,y]:=by
 match ds,h with
 | [x,y],_=>exact ⟨x,y,rfl⟩
theorem len_tp (ds:List D):pLen (.tup ds)=some (.pure (.int ds.length)):=rfl
theorem ix20 (a b:D):pIx (.tup [a,b]) (.int 0)=some (.pure a):=by simp [pIx,atI_zero]
theorem ix21 (a b:D):pIx (.tup [a,b]) (.int 1)=some (.pure b):=by simp [pIx,atI_one]
theorem r_digit {h w:Nat} (ru:D) (x0:pIx ru (.int 0)=some (.pure (.int h))) (x1:pIx ru (.int 1)=some (.pure (.int w))) (d:D) (hd:NX1 d):G_digit_good [.pure ru,.pure d]=some (.pure (.bl (dg h w d)),[.pure ru,.pure d]):=by
 rw [G_digit_good,gOf_def,b_digit_good]
 cases d with
 | exc n=>exact hd.elim
 | tup ds =>
  by_cases h2:ds.length=2
  ·obtain ⟨x,y,rfl⟩:=two h2
   have w0:=r_withinA x ((h:Int) - 1) (hd.2 x (by simp))
   have w1:=r_withinA y ((w:Int) - 1) (hd.2 y (by simp))
   have e2:pNe (.int (([x,y]:List D).length:Nat)) (.int 2)=some (.pure (.bl false)):=rfl
   have s0:=sub_int h 1
   have s1:=sub_int w 1
   have i0:=ix20 x y
   have i1:=ix21 x y
   have l2:=len_tp [x,y]
   have ty:isTy "tuple" (.tup [x,y])=some true:=rfl
   have edg:dg h w (.tup [x,y])=(wi ((h:Int) - 1) x && wi ((w:Int) - 1) y):=rfl
   rw [edg]
   clear edg
   generalize D.tup [x,y]=dd at *
   generalize D.int (([x,y]:List D).length:Nat)=ll at *
   generalize wi ((h:Int) - 1) x=a0 at *
   generalize wi ((w:Int) - 1) y=a1 at *
   generalize D.int ((h:Int) - 1)=hh at *
   generalize D.int ((w:Int) - 1)=ww at *
   generalize D.int (h:Int)=h' at *
   generalize D.int (w:Int)=w' at *
   cases a0 <;> simp [ioOk,startD,eIsi,ty,bVar,eVar,dTr,l2,e2,eAnd,eCall,ios,ndup,isOwn,evX,mkA,putA,eOpF,eOpN,x0,x1,i0,i1,s0,s1,w0,w1,resOf,outsOf]
  ·have e2:pNe (.int (ds.length:Nat)) (.int 2)=some (.pure (.bl true)):=by
    rw [ne_int]
    have:((ds.length:Int) == 2)=false:=by simp; omega
    rw [this]; rfl
   have l2:=len_tp ds
   rw [dg_len h2]
   have ty:isTy "tuple" (.tup ds)=some true:=rfl
   generalize D.tup ds=dd at *
   generalize D.int (ds.length:Nat)=ll at *
   simp [ioOk,startD,eIsi,ty,bVar,eVar,dTr,l2,e2,eOpF,eOpN,resOf,outsOf]
 | _=>simp [ioOk,startD,eIsi,isTy,bVar,dTr,resOf,outsOf,dg]
def isL:D→Bool
 | .lst _=>true
 | _=>false
def dgs (h w:Nat):D→Bool
 | .lst ds=>ds.all (dg h w)
 | _=>false
def NX2:D→Prop
 | .lst ds=>ds.length≤1000∧∀ d ∈ ds,NX1 d
 | .exc _=>False
 | _=>True
theorem NX2.nx {d:D} (h:NX2 d):NX d:=by cases d <;> first | exact h | trivial
theorem all_D (ds:List D) (p:D→Bool):pAll (.lst (ds.map fun n=>.bl (p n)))=some (.pure (.bl (ds.all p))):=by
 have e:(ds.map fun n=>D.bl (p n))=(ds.map p).map D.bl:=by simp
 unfold pAll
 simp only [e,ev_bools,Option.map_some]
 simp [List.all_map,Function.comp_def]
theorem q_digits (GD:DF) {h w:Nat} (ru d:D) (hd:NX2 d) (gd:∀ d,NX1 d→GD [.pure ru,.pure d]=some (.pure (.bl (dg h w d)),[.pure ru,.pure d])) :
  gOf [] 3 (dRet (eAnd (eIsi "list" (bVar 1)) (eC1 pAll (bOf (eComp [2] (iSq (eVar 1)) (gNm [] 2) dYes (eCall GD [.val (eVar 0),.val (eVar 2)])))))) [.pure ru,.pure d]=some (.pure (.bl (dgs h w d)),[.pure ru,.pure d]):=by
 cases d with
 | exc n=>exact hd.elim
 | lst ds =>
  have e:=compL_mapA (cs:=[2]) (g:=gNm [] 2) (t:=dYes) (el:=(eCall GD [.val (eVar 0),.val (eVar 2)])) (fun d:D=>d) (fun d=>.bl (dg h w d)) [some (.pure ru),some (.pure (.lst ds)),none] ds [] (by rw [line_eq]; simp only [List.length_nil]; have:=hd.1; omega) (fun d hm=>by
   refine ⟨_,_,.pure (.bl (dg h w d)),[some (.pure ru),some (.pure (.lst ds)),some (.pure d)],rfl,rfl,?_,rfl,rfl⟩
   have hi:=gd d (hd.2 d hm)
   generalize dg h w d=b at *
   generalize D.lst ds=dd at *
   simp [eVar,eCall,ios,ndup,isOwn,evX,mkA,putA,hi])
  have ha:=all_D ds (dg h w)
  rw [List.nil_append,List.map_id'] at e
  have hs:iSq (eVar 1) [some (.pure ru),some (.pure (.lst ds)),none] = .ok ds [some (.pure ru),some (.pure (.lst ds)),none]:=by simp [ev_sq,eVar]
  have ty:isTy "list" (.lst ds)=some true:=rfl
  show _=some (S.pure (.bl (ds.all (dg h w))),_)
  rw [gOf_def]
  generalize ds.all (dg h w)=rb at *
  generalize ds.map (fun d=>D.bl (dg h w d))=rl at *
  generalize D.lst ds=dd at *
  simp [ioOk,startD,eAnd,eIsi,ty,bVar,hs,isOwn,clrD]
  rw [e]
  simp [backD,ha,resOf,outsOf]
 | _ =>
  rw [gOf_def]
  simp [ioOk,startD,eAnd,eIsi,isTy,bVar,resOf,outsOf,dgs]
theorem r_digits {h w:Nat} (ru:D) (x0:pIx ru (.int 0)=some (.pure (.int h))) (x1:pIx ru (.int 1)=some (.pure (.int w))) (d:D) (hd:NX2 d):G_digits_good [.pure ru,.pure d]=some (.pure (.bl (dgs h w d)),[.pure ru,.pure d]):=by
 rw [G_digits_good,b_digits_good]
 exact q_digits G_digit_good ru d hd fun d h=>r_digit ru x0 x1 d h
open L2 DV
open PySem (sizeLine)
theorem forL_all {J:Type} {g:DG} {b:DS} (mk:J→Dl) (p:D→Bool):∀ (ds:List D) (j:J),(∀ d ∈ ds,∀ j,∃ δ1,g (.pure d) (mk j)=some δ1∧if p d then ∃ j',b δ1 = .ok .next (mk j') else ∃ δ2,b δ1 = .ok (.ret (.pure (.bl false))) δ2) →
  if ds.all p then ∃ j',forL g b ds (mk j) = .ok .next (mk j') else ∃ δ2,forL g b ds (mk j) = .ok (.ret (.pure (.bl false))) δ2
 | [],j,_=>⟨j,rfl⟩
 | d :: r,j,h=>by
  obtain ⟨δ1,e1,e2⟩:=h d List.mem_cons_self j
  cases hp:p d with
  | true =>
   rw [hp] at e2
   obtain ⟨j',e2⟩:=e2
   have ih:=forL_all mk p r j' fun d hd=>h d (List.mem_cons_of_mem _ hd)
   rw [List.all_cons,hp,Bool.true_and]
   cases ha:r.all p with
   | true =>
    rw [ha] at ih
    obtain ⟨j'',e3⟩:=ih
    exact ⟨j'',by unfold forL; rw [e1]; simp only [e2,ev_bind_ok]; exact e3⟩
   | false =>
    rw [ha] at ih
    obtain ⟨δ2,e3⟩:=ih
    exact ⟨δ2,by unfold forL; rw [e1]; simp only [e2,ev_bind_ok]; exact e3⟩
  | false =>
   rw [hp] at e2
   obtain ⟨δ2,e2⟩:=e2
   rw [List.all_cons,hp,Bool.false_and]
   exact ⟨δ2,by unfold forL; rw [e1]; simp only [e2,ev_bind_ok]⟩
theorem whole_two (GW:DF) (gw:∀ d,NX d→GW [.pure d]=some (.pure (.bl (isI d)),[.pure d])) (ru th dd x y:D) (hx:NX x) (hy:NX y) (hs:iSq (eVar 2) [some (.pure ru),some (.pure th),some (.pure dd),none] = .ok [x,y] [some (.pure ru),some (.pure th),some (.pure dd),none]) :
  eC1 pAll (bOf (eComp [3] (iSq (eVar 2)) (gNm [] 3) dYes (eCall GW [.val (eVar 3)]))) [some (.pure ru),some (.pure th),some (.pure dd),none] = .ok (.pure (.bl (isI x && isI y))) [some (.pure ru),some (.pure th),some (.pure dd),none]:=by
 have e:=compL_mapA (cs:=[3]) (g:=gNm [] 3) (t:=dYes) (el:=(eCall GW [.val (eVar 3)])) (fun d:D=>d) (fun d=>.bl (isI d)) [some (.pure ru),some (.pure th),some (.pure dd),none] [x,y] [] (by rw [line_eq]; simp) (fun d hm=>by
  refine ⟨_,_,.pure (.bl (isI d)),[some (.pure ru),some (.pure th),some (.pure dd),some (.pure d)],rfl,rfl,?_,rfl,rfl⟩
  have hd:NX d:=by
   simp at hm
   rcases hm with rfl | rfl
   ·exact hx
   ·exact hy
  have hi:=gw d hd
  generalize isI d=b at *
  simp [eVar,eCall,ios,ndup,isOwn,evX,mkA,putA,hi])
 have ha:=all_D [x,y] isI
 rw [List.nil_append,List.map_id'] at e
 have hb:[x,y].all isI=(isI x && isI y):=by simp
 rw [hb] at ha
 simp only [List.map_cons,List.map_nil] at e ha
 generalize (isI x && isI y)=rb at *
 simp [hs,isOwn,clrD]
 rw [e]
 simp [backD,ha]
theorem dg_two (h w:Nat) (x y:D):dg h w (.tup [x,y])=(isI x && isI y && (match x with | .int i=>decide (0≤i) && decide (i < (h:Int)) | _=>false) && (match y with | .int i=>decide (0≤i) && decide (i < (w:Int)) | _=>false)):=by
 show (wi ((h:Int) - 1) x && wi ((w:Int) - 1) y)=_
 cases x <;> cases y <;> simp [wi,isI]
 rename_i i j
 have a:decide (i≤(h:Int) - 1)=decide (i < (h:Int)):=by congr 1; simp; omega
 have b:decide (j≤(w:Int) - 1)=decide (j < (w:Int)):=by congr 1; simp; omega
 rw [a,b]
open L2 DV
open PySem (sizeLine)
theorem lt_i (i j:Int):pLt (.int i) (.int j)=some (.pure (.bl (decide (i < j)))):=rfl
theorem step_digits (GW:DF) (gw:∀ d,NX d→GW [.pure d]=some (.pure (.bl (isI d)),[.pure d])) {h w:Nat} (ru th d:D) (x0:pIx ru (.int 0)=some (.pure (.int h))) (x1:pIx ru (.int 1)=some (.pure (.int w))) (hd:NX1 d) :
  ((dSeq (dIf (dOr (dNot (dTr (eIsi "tuple" (bVar 2)))) (dOr (dTr (eOp pNe (eC1 pLen (bVar 2)) (bOf (eD (.int 2))))) (dNot (dTr (eC1 pAll (bOf (eComp [3] (iSq (eVar 2)) (gNm [] 3) dYes (eCall GW [.val (eVar 3)])))))))) (dRet (eD (.bl false))) dNext) (dIf (dOr (dNot (dTr (eChain pLe pLt (eD (.int 0)) (eOpF pIx 2 (bOf (eD (.int 0)))) (bOf (eOpF pIx 0 (bOf (eD (.int 0)))))))) (dNot (dTr (eChain pLe pLt (eD (.int 0)) (eOpF pIx 2 (bOf (eD (.int 1)))) (bOf (eOpF pIx 0 (bOf (eD (.int 1))))))))) (dRet (eD (.bl false))) dNext)):DS) [some (.pure ru),some (.pure th),some (.pure d),none] = .ok (bif dg h w d then Fl.next else Fl.ret (.pure (.bl false))) [some (.pure ru),some (.pure th),some (.pure d),none]:=by
 cases d with
 | exc n=>exact hd.elim
 | tup ds =>
  by_cases h2:ds.length=2
  ·obtain ⟨x,y,rfl⟩:=two h2
   have wt:=whole_two GW gw ru th (.tup [x,y]) x y (hd.2 x (by simp)) (hd.2 y (by simp)) (by simp [ev_sq,eVar])
   have e2:pNe (.int 2) (.int 2)=some (.pure (.bl false)):=rfl
   have l2:pLen (.tup [x,y])=some (.pure (.int 2)):=rfl
   have ty:isTy "tuple" (.tup [x,y])=some true:=rfl
   have i0:=ix20 x y
   have i1:=ix21 x y
   rw [dg_two]
   generalize eC1 pAll (bOf (eComp [3] (iSq (eVar 2)) (gNm [] 3) dYes (eCall GW [.val (eVar 3)])))=fe at wt ⊢
   cases hi:(isI x && isI y) with
   | false =>
    rw [hi] at wt
    generalize D.tup [x,y]=dd at *
    simp [eIsi,ty,bVar,dTr,l2,e2,wt]
   | true =>
    rw [hi] at wt
    generalize hdd:D.tup [x,y]=dd at *
    cases x <;> first | (simp [isI] at hi; done) | skip
    cases y <;> first | (simp [isI] at hi; done) | skip
    rename_i i j
    show _=Rs.ok (bif (true && (decide (0≤i) && decide (i < (h:Int))) && (decide (0≤j) && decide (j < (w:Int)))) then Fl.next else Fl.ret (.pure (.bl false))) _
    have l0:=le_int 0 i
    have l1:=lt_i i h
    have m0:=le_int 0 j
    have m1:=lt_i j w
    by_cases a0:0≤i <;> by_cases a1:i < (h:Int) <;> by_cases b0:0≤j <;> by_cases b1:j < (w:Int) <;>
     (simp only [a0,a1,b0,b1,decide_true,decide_false] at l0 l1 m0 m1) <;>
     (generalize D.int i=di at *) <;> (generalize D.int j=dj at *) <;> (generalize D.int (h:Int)=dh at *) <;> (generalize D.int (w:Int)=dw at *) <;>
     simp [eIsi,ty,bVar,dTr,l2,e2,wt,ev_chain,eOpF,eOpN,i0,i1,x0,x1,l0,l1,m0,m1,a0,a1,b0,b1]
  ·have e2:pNe (.int (ds.length:Nat)) (.int 2)=some (.pure (.bl true)):=by
    rw [ne_int]
    have:((ds.length:Int) == 2)=false:=by simp; omega
    rw [this]; rfl
   have l2:=len_tp ds
   rw [dg_len h2]
   have ty:isTy "tuple" (.tup ds)=some true:=rfl
   generalize D.tup ds=dd at *
   generalize D.int (ds.length:Nat)=ll at *
   simp [eIsi,ty,bVar,dTr,l2,e2]
 | _=>simp [eIsi,isTy,bVar,dTr,dg]
open L2 DV
open PySem (sizeLine)
theorem q_lawdigits (GW:DF) (gw:∀ d,NX d→GW [.pure d]=some (.pure (.bl (isI d)),[.pure d])) {h w:Nat} (ru d:D) (x0:pIx ru (.int 0)=some (.pure (.int h))) (x1:pIx ru (.int 1)=some (.pure (.int w))) (hd:NX2 d) :
  gOf [] 4 (dSeq (dIf (dNot (dTr (eIsi "list" (bVar 1)))) (dRet (eD (.bl false))) dNext) (dSeq (dFor (iSq (eVar 1)) (gNm [] 2) (dSeq (dIf (dOr (dNot (dTr (eIsi "tuple" (bVar 2)))) (dOr (dTr (eOp pNe (eC1 pLen (bVar 2)) (bOf (eD (.int 2))))) (dNot (dTr (eC1 pAll (bOf (eComp [3] (iSq (eVar 2)) (gNm [] 3) dYes (eCall GW [.val (eVar 3)])))))))) (dRet (eD (.bl false))) dNext) (dIf (dOr (dNot (dTr (eChain pLe pLt (eD (.int 0)) (eOpF pIx 2 (bOf (eD (.int 0)))) (bOf (eOpF pIx 0 (bOf (eD (.int 0)))))))) (dNot (dTr (eChain pLe pLt (eD (.int 0)) (eOpF pIx 2 (bOf (eD (.int 1)))) (bOf (eOpF pIx 0 (bOf (eD (.int 1))))))))) (dRet (eD (.bl false))) dNext))) (dRet (eD (.bl true))))) [.pure ru,.pure d]=some (.pure (.bl (dgs h w d)),[.pure ru,.pure d]):=by
 cases d with
 | exc n=>exact hd.elim
 | lst ds =>
  have L:=forL_all (g:=gNm [] 2) (b:=(dSeq (dIf (dOr (dNot (dTr (eIsi "tuple" (bVar 2)))) (dOr (dTr (eOp pNe (eC1 pLen (bVar 2)) (bOf (eD (.int 2))))) (dNot (dTr (eC1 pAll (bOf (eComp [3] (iSq (eVar 2)) (gNm [] 3) dYes (eCall GW [.val (eVar 3)])))))))) (dRet (eD (.bl false))) dNext) (dIf (dOr (dNot (dTr (eChain pLe pLt (eD (.int 0)) (eOpF pIx 2 (bOf (eD (.int 0)))) (bOf (eOpF pIx 0 (bOf (eD (.int 0)))))))) (dNot (dTr (eChain pLe pLt (eD (.int 0)) (eOpF pIx 2 (bOf (eD (.int 1)))) (bOf (eOpF pIx 0 (bOf (eD (.int 1))))))))) (dRet (eD (.bl false))) dNext))) (fun j:Option S=>[some (.pure ru),some (.pure (.lst ds)),j,none]) (dg h w) ds none (fun d hm j=>by
   refine ⟨[some (.pure ru),some (.pure (.lst ds)),some (.pure d),none],rfl,?_⟩
   have st:=step_digits GW gw ru (.lst ds) d x0 x1 (hd.2 d hm)
   cases hp:dg h w d with
   | true=>rw [hp] at st; exact ⟨_,st⟩
   | false=>rw [hp] at st; exact ⟨_,st⟩)
  have ty:isTy "list" (.lst ds)=some true:=rfl
  have hs:iSq (eVar 1) [some (.pure ru),some (.pure (.lst ds)),none,none] = .ok ds [some (.pure ru),some (.pure (.lst ds)),none,none]:=by simp [ev_sq,eVar]
  have ed:dgs h w (.lst ds)=ds.all (dg h w):=rfl
  rw [ed,gOf_def]
  cases ha:ds.all (dg h w) with
  | true =>
   rw [ha] at L
   obtain ⟨j',e⟩:=L
   generalize D.lst ds=dd at *
   simp [ioOk,startD,eIsi,ty,bVar,dTr,hs]
   rw [e]
   simp [resOf,outsOf]
  | false =>
   rw [ha] at L
   obtain ⟨δ2,e⟩:=L
   generalize D.lst ds=dd at *
   simp [ioOk,startD,eIsi,ty,bVar,dTr,hs]
   rw [e]
   simp [resOf,outsOf]
 | _ =>
  rw [gOf_def]
  simp [ioOk,startD,eIsi,isTy,bVar,dTr,resOf,outsOf,dgs]
theorem r_lawdigits {h w:Nat} (ru d:D) (x0:pIx ru (.int 0)=some (.pure (.int h))) (x1:pIx ru (.int 1)=some (.pure (.int w))) (hd:NX2 d):G__law_digits_good [.pure ru,.pure d]=some (.pure (.bl (dgs h w d)),[.pure ru,.pure d]):=by
 rw [G__law_digits_good,b__law_digits_good]
 exact q_lawdigits G__law_whole (fun d h=>r_whole d h) ru d x0 x1 hd
def tg (bs:List (Nat×List Tx)):D→Bool
 | .str x=>bs.any fun b=>decide ([b.1]=x)
 | _=>false
def tgs (bs:List (Nat×List Tx)):D→Bool
 | .lst ds=>ds.all (tg bs)
 | _=>false
theorem in_dcA (bs:List (Nat×List Tx)) (x:Tx):pIn false (.str x) (dcD bs)=some (.pure (.bl (tg bs (.str x)))):=by
 show ((keyD (.str x)).map fun k=>S.pure (.bl (if false then !(valD (bs.map fun b=>((Sum.inr [b.1]:DKey),flD b.2)) k).isSome else (valD (bs.map fun b=>((Sum.inr [b.1]:DKey),flD b.2)) k).isSome)))=_
 have e:(valD (bs.map fun b=>((Sum.inr [b.1]:DKey),flD b.2)) (.inr x)).isSome=bs.any fun b=>decide ([b.1]=x):=by
  unfold valD
  rw [List.find?_map]
  induction bs with
  | nil=>rfl
  | cons b r ih =>
   by_cases hb:[b.1]=x
   ·simp [List.find?_cons,hb]
   ·simp only [Function.comp_def] at ih ⊢
    rw [List.find?_cons,List.any_cons,← ih]
    simp [hb]
 simp only [keyD,Option.map_some,e]
 rfl
theorem el_tiles (bs:List (Nat×List Tx)) (d th:D) (hd:NX d):(eAnd (eIsi "str" (bVar 2)) (eOp (pIn false) (eVar 2) (bVar 0)):DE) [some (.pure (dcD bs)),some (.pure th),some (.pure d)] = .ok (.pure (.bl (tg bs d))) [some (.pure (dcD bs)),some (.pure th),some (.pure d)]:=by
 cases d with
 | exc n=>exact hd.elim
 | str x =>
  have e:=in_dcA bs x
  have ty:isTy "str" (.str x)=some true:=rfl
  generalize tg bs (.str x)=b at *
  generalize dcD bs=dc at *
  generalize D.str x=dx at *
  simp [eAnd,eIsi,ty,bVar,eVar,e]
 | _=>simp [eAnd,eIsi,isTy,bVar,tg]
theorem q_tiles (bs:List (Nat×List Tx)) (d:D) (hd:NX2 d):gOf [] 3 (dSeq (dIf (dNot (dTr (eIsi "list" (bVar 1)))) (dRet (eD (.bl false))) dNext) (dRet (eC1 pAll (bOf (eComp [2] (iSq (eVar 1)) (gNm [] 2) dYes (eAnd (eIsi "str" (bVar 2)) (eOp (pIn false) (eVar 2) (bVar 0)))))))) [.pure (dcD bs),.pure d]=some (.pure (.bl (tgs bs d)),[.pure (dcD bs),.pure d]):=by
 cases d with
 | exc n=>exact hd.elim
 | lst ds =>
  have e:=compL_mapA (cs:=[2]) (g:=gNm [] 2) (t:=dYes) (el:=(eAnd (eIsi "str" (bVar 2)) (eOp (pIn false) (eVar 2) (bVar 0)))) (fun d:D=>d) (fun d=>.bl (tg bs d)) [some (.pure (dcD bs)),some (.pure (.lst ds)),none] ds [] (by rw [line_eq]; simp only [List.length_nil]; have:=hd.1; omega) (fun d hm=>by
   refine ⟨_,_,.pure (.bl (tg bs d)),[some (.pure (dcD bs)),some (.pure (.lst ds)),some (.pure d)],rfl,rfl,el_tiles bs d (.lst ds) (hd.2 d hm).nx,rfl,rfl⟩)
  have ha:=all_D ds (tg bs)
  rw [List.nil_append,List.map_id'] at e
  have hs:iSq (eVar 1) [some (.pure (dcD bs)),some (.pure (.lst ds)),none] = .ok ds [some (.pure (dcD bs)),some (.pure (.lst ds)),none]:=by simp [ev_sq,eVar]
  have ty:isTy "list" (.lst ds)=some true:=rfl
  have ed:tgs bs (.lst ds)=ds.all (tg bs):=rfl
  rw [ed,gOf_def]
  generalize ds.all (tg bs)=rb at *
  generalize ds.map (fun d=>D.bl (tg bs d))=rl at *
  generalize D.lst ds=dd at *
  generalize dcD bs=dc at *
  simp [ioOk,startD,eIsi,ty,bVar,dTr,hs,isOwn,clrD]
  rw [e]
  simp [backD,ha,resOf,outsOf]
 | _ =>
  rw [gOf_def]
  generalize dcD bs=dc at *
  simp [ioOk,startD,eIsi,isTy,bVar,dTr,resOf,outsOf,tgs]
theorem r_tiles (bs:List (Nat×List Tx)) (d:D) (hd:NX2 d):G_tiles_good [.pure (dcD bs),.pure d]=some (.pure (.bl (tgs bs d)),[.pure (dcD bs),.pure d]):=by
 rw [G_tiles_good,b_tiles_good]
 exact q_tiles bs d hd
open L2 DV
open PySem (sizeLine)
def nt (bs:List (Nat×List Tx)) (n i j:Nat):Nat:=((blk bs n).getD i []).getD j 0
theorem nt_ok {h w n i j:Nat} {bs:List (Nat×List Tx)} (R:Rul h w bs) (hn:n ∈ bs.map (·.1)) (hi:i < h) (hj:j < w) :
  nt bs n i j ∈ bs.map (·.1)∧pIx (flD (blk bs n)) (.int i)=some (.pure (.str ((blk bs n).getD i [])))∧pIx (.str ((blk bs n).getD i [])) (.int j)=some (.pure (.str [nt bs n i j])):=by
 obtain ⟨b,hb,_,_,e2⟩:=blk_mem hn
 have hB:=R.blk b hb
 have h1:=R.h1
 have w1:=R.w1
 have hi':i < b.2.length:=by omega
 have hm:b.2.getD i [] ∈ b.2:=by
  rw [List.getD_eq_getElem?_getD,List.getElem?_eq_getElem hi']
  exact List.getElem_mem hi'
 have hr:=hB.2 _ hm
 unfold nt
 rw [e2]
 refine ⟨hr.2 _ ?_,?_,?_⟩
 ·have hj':j < (b.2.getD i []).length:=by omega
  generalize b.2.getD i []=row at hj'
  rw [List.getD_eq_getElem?_getD,List.getElem?_eq_getElem hj']
  exact List.getElem_mem hj'
 ·simp [pIx,atI_nat',hi']
 ·exact ev_ix_str _ j (by omega) (by omega)
theorem ix_t1 (LN:List Nat) (k a:Nat) (h:LN[k]? = some a):pIx (.lst (LN.map t1D)) (.int k)=some (.pure (.str [a])):=by
 simp [pIx,atI_nat',h]
theorem ix_t1' (LN:List Nat) (k a:Nat) (h:LN[k + 1]? = some a):pIx (.lst (LN.map t1D)) (.int ((k:Int) + 1))=some (.pure (.str [a])):=ix_t1 LN (k + 1) a h
theorem ne_s (a b:Nat):pNe (.str [a]) (.str [b])=some (.pure (.bl (!(a == b)))):=by
 have e:eqD (.str [a]) (.str [b])=(a == b):=by simp [eqD]
 unfold pNe
 simp [flat,e]
def ck (bs:List (Nat×List Tx)) (ts:List D):D→Bool
 | .tup [.int k,.tup [.int i,.int j]]=>match ts[k.toNat]?,ts[k.toNat + 1]? with
  | some (.str [n]),some (.str [m])=>nt bs n i.toNat j.toNat == m
  | _,_=>false
 | _=>false
def lh (h w:Nat) (bs:List (Nat×List Tx)):D→Bool
 | .tup [.lst ts,.lst gs]=>ts.all (tg bs) && gs.all (dg h w) && decide (gs.length + 1=ts.length) && (enumD gs).all (ck bs ts)
 | _=>false
def NX3:D→Prop
 | .tup ds=>ds.length≤1000∧∀ d ∈ ds,NX2 d
 | .exc _=>False
 | _=>True
theorem tg_of {bs:List (Nat×List Tx)} {ts:List D} (h:ts.all (tg bs)=true):∃ ns:List Nat,ts=ns.map t1D∧∀ n ∈ ns,n ∈ bs.map (·.1):=by
 induction ts with
 | nil=>exact ⟨[],rfl,by simp⟩
 | cons d r ih =>
  rw [List.all_cons,Bool.and_eq_true] at h
  obtain ⟨ns,e,hn⟩:=ih h.2
  have h1:=h.1
  cases d with
  | str x =>
   simp only [tg,List.any_eq_true,decide_eq_true_eq] at h1
   obtain ⟨b,hb,rfl⟩:=h1
   refine ⟨b.1 :: ns,by rw [e]; rfl,fun n hm=>?_⟩
   rcases List.mem_cons.mp hm with rfl | hm
   ·exact List.mem_map_of_mem hb
   ·exact hn n hm
  | _=>simp [tg] at h1
theorem dg_of {h w:Nat} {gs:List D} (hh:gs.all (dg h w)=true):∃ ps:List Pr,gs=ps.map prD∧∀ p ∈ ps,p.1 < h∧p.2 < w:=by
 induction gs with
 | nil=>exact ⟨[],rfl,by simp⟩
 | cons d r ih =>
  rw [List.all_cons,Bool.and_eq_true] at hh
  obtain ⟨ps,e,hn⟩:=ih hh.2
  have h1:=hh.1
  cases d with
  | tup ds =>
   by_cases h2:ds.length=2
   ·obtain ⟨x,y,rfl⟩:=two h2
    rw [dg_two] at h1
    cases x <;> first | (simp [isI] at h1; done) | skip
    cases y <;> first | (simp [isI] at h1; done) | skip
    rename_i i j
    simp [isI] at h1
    refine ⟨(i.toNat,j.toNat) :: ps,?_,fun p hm=>?_⟩
    ·rw [e,List.map_cons]
     show _=D.tup [.int (i.toNat:Int),.int (j.toNat:Int)] :: _
     rw [show (i.toNat:Int)=i by omega,show (j.toNat:Int)=j by omega]
    ·rcases List.mem_cons.mp hm with rfl | hm
     ·exact ⟨by show i.toNat < h; omega,by show j.toNat < w; omega⟩
     ·exact hn p hm
   ·rw [dg_len h2] at h1; cases h1
  | _=>simp [dg] at h1
theorem ck_at (bs:List (Nat×List Tx)) (ns:List Nat) (k a m:Nat) (p:Pr) (ha:ns[k]? = some a) (hm:ns[k + 1]? = some m):ck bs (ns.map t1D) (.tup [.int k,prD p])=(nt bs a p.1 p.2 == m):=by
 simp [ck,ha,hm]
theorem loop_line {h w:Nat} {bs:List (Nat×List Tx)} (R:Rul h w bs) (ru th:D) (ns:List Nat) (ps:List Pr) (hl:ps.length + 1=ns.length) (hn:∀ n ∈ ns,n ∈ bs.map (·.1)) (hp:∀ p ∈ ps,p.1 < h∧p.2 < w) (o:Option S×Option S) :
  if (enumD (ps.map prD)).all (ck bs (ns.map t1D)) then ∃ j':Option S×Option S,forL (gTp 2 (gsCons (gNm [] 5) (gsCons (gNm [] 6) gsNil))) (dIf (dTr (eOp pNe (eOp pIx (eOp pIx (eOpF pIxX 4 (bOf (eOpF pIx 2 (bVar 5)))) (bOf (eOpF pIx 6 (bOf (eD (.int 0)))))) (bOf (eOpF pIx 6 (bOf (eD (.int 1)))))) (bOf (eOpF pIx 2 (bOf (eOpF pAdd 5 (bOf (eD (.int 1))))))))) (dRet (eD (.bl false))) dNext) (enumD (ps.map prD)) [some (.pure ru),some (.pure th),some (.pure (.lst (ns.map t1D))),some (.pure (.lst (ps.map prD))),some (.pure (dcD bs)),o.1,o.2] = .ok .next [some (.pure ru),some (.pure th),some (.pure (.lst (ns.map t1D))),some (.pure (.lst (ps.map prD))),some (.pure (dcD bs)),j'.1,j'.2]
  else ∃ δ2,forL (gTp 2 (gsCons (gNm [] 5) (gsCons (gNm [] 6) gsNil))) (dIf (dTr (eOp pNe (eOp pIx (eOp pIx (eOpF pIxX 4 (bOf (eOpF pIx 2 (bVar 5)))) (bOf (eOpF pIx 6 (bOf (eD (.int 0)))))) (bOf (eOpF pIx 6 (bOf (eD (.int 1)))))) (bOf (eOpF pIx 2 (bOf (eOpF pAdd 5 (bOf (eD (.int 1))))))))) (dRet (eD (.bl false))) dNext) (enumD (ps.map prD)) [some (.pure ru),some (.pure th),some (.pure (.lst (ns.map t1D))),some (.pure (.lst (ps.map prD))),some (.pure (dcD bs)),o.1,o.2] = .ok (.ret (.pure (.bl false))) δ2:=by
 refine forL_all (fun o:Option S×Option S=>[some (.pure ru),some (.pure th),some (.pure (.lst (ns.map t1D))),some (.pure (.lst (ps.map prD))),some (.pure (dcD bs)),o.1,o.2]) (ck bs (ns.map t1D)) (enumD (ps.map prD)) o fun d hd j=>?_
 obtain ⟨k,hk,rfl⟩:=List.getElem_of_mem hd
 obtain ⟨d',hd',e⟩:=enumD_get (List.getElem?_eq_getElem hk)
 rw [e]
 rw [List.getElem?_map,Option.map_eq_some_iff] at hd'
 obtain ⟨p,hpk,rfl⟩:=hd'
 have hkl:k < ps.length:=(List.getElem?_eq_some_iff.mp hpk).1
 obtain ⟨a,ha⟩:∃ a,ns[k]? = some a:=⟨ns[k],by simp⟩
 obtain ⟨m,hm⟩:∃ m,ns[k + 1]? = some m:=⟨ns[k + 1],by simp⟩
 rw [ck_at bs ns k a m p ha hm]
 have hpd:=hp p (List.mem_of_getElem? hpk)
 have y0:=ix_t1 ns k a ha
 have y1:=ix_t1' ns k m hm
 have y2:=ix_dc (hn a (List.mem_of_getElem? ha))
 obtain ⟨_,y3,y4⟩:=nt_ok R (hn a (List.mem_of_getElem? ha)) hpd.1 hpd.2
 have y5:=ne_s (nt bs a p.1 p.2) m
 have i0:=ix20 (.int p.1) (.int p.2)
 have i1:=ix21 (.int p.1) (.int p.2)
 refine ⟨[some (.pure ru),some (.pure th),some (.pure (.lst (ns.map t1D))),some (.pure (.lst (ps.map prD))),some (.pure (dcD bs)),some (.pure (.int k)),some (.pure (prD p))],rfl,?_⟩
 cases hb:(nt bs a p.1 p.2 == m) with
 | true =>
  rw [hb] at y5
  refine ⟨(some (.pure (.int k)),some (.pure (prD p))),?_⟩
  generalize nt bs a p.1 p.2=nx at *
  generalize D.str ((blk bs a).getD p.1 [])=dr at *
  generalize flD (blk bs a)=db at *
  generalize dcD bs=dd at *
  generalize ns.map t1D=LD at *
  generalize ps.map prD=DD at *
  simp [dTr,eOpF,eOpN,bVar,y0,y2,i0,i1,y3,y4,add_int,y1,y5]
 | false =>
  rw [hb] at y5
  refine ⟨[some (.pure ru),some (.pure th),some (.pure (.lst (ns.map t1D))),some (.pure (.lst (ps.map prD))),some (.pure (dcD bs)),some (.pure (.int k)),some (.pure (prD p))],?_⟩
  generalize nt bs a p.1 p.2=nx at *
  generalize D.str ((blk bs a).getD p.1 [])=dr at *
  generalize flD (blk bs a)=db at *
  generalize dcD bs=dd at *
  generalize ns.map t1D=LD at *
  generalize ps.map prD=DD at *
  simp [dTr,eOpF,eOpN,bVar,y0,y2,i0,i1,y3,y4,add_int,y1,y5]
open L2 DV
open PySem (sizeLine)
theorem lh_len {h w:Nat} {bs:List (Nat×List Tx)} {ds:List D} (hl:ds.length≠2):lh h w bs (.tup ds)=false:=by
 match ds,hl with
 | [],_=>rfl
 | [_],_=>simp [lh]
 | [_,_],hl=>exact absurd rfl hl
 | _ :: _ :: _ :: _,_=>simp [lh]
theorem lh_two {h w:Nat} {bs:List (Nat×List Tx)} (t g:D):lh h w bs (.tup [t,g])=(tgs bs t && dgs h w g && (match t,g with | .lst ts,.lst gs=>decide (gs.length + 1=ts.length) && (enumD gs).all (ck bs ts) | _,_=>false)):=by
 cases t <;> cases g <;> simp [lh,tgs,dgs,Bool.and_assoc]
theorem q_line (GT GD:DF) {h w:Nat} {bs:List (Nat×List Tx)} (R:Rul h w bs) (ru d:D) (x2:pIx ru (.int 2)=some (.pure (.tup (bs.map blD)))) (hd:NX3 d)
  (gt:∀ d,NX2 d→GT [.pure (dcD bs),.pure d]=some (.pure (.bl (tgs bs d)),[.pure (dcD bs),.pure d])) (gd:∀ d,NX2 d→GD [.pure ru,.pure d]=some (.pure (.bl (dgs h w d)),[.pure ru,.pure d])) :
  gOf [] 7 (dSeq (dIf (dOr (dNot (dTr (eIsi "tuple" (bVar 1)))) (dTr (eOp pNe (eC1 pLen (bVar 1)) (bOf (eD (.int 2)))))) (dRet (eD (.bl false))) dNext) (dSeq (dAsg (eVar 1) (gTp 2 (gsCons (gNm [] 2) (gsCons (gNm [] 3) gsNil)))) (dSeq (dAsg (eC1 pDictOf (bOf (eOpF pIx 0 (bOf (eD (.int 2)))))) (gNm [] 4)) (dSeq (dIf (dOr (dNot (dTr (eCall GT [.val (eVar 4),.val (eVar 2)]))) (dOr (dNot (dTr (eCall GD [.val (eVar 0),.val (eVar 3)]))) (dTr (eOp pNe (eC1 pLen (bVar 3)) (bOf (eOp pSub (eC1 pLen (bVar 2)) (bOf (eD (.int 1))))))))) (dRet (eD (.bl false))) dNext) (dSeq (dFor (iEnum (eVar 3)) (gTp 2 (gsCons (gNm [] 5) (gsCons (gNm [] 6) gsNil))) (dIf (dTr (eOp pNe (eOp pIx (eOp pIx (eOpF pIxX 4 (bOf (eOpF pIx 2 (bVar 5)))) (bOf (eOpF pIx 6 (bOf (eD (.int 0)))))) (bOf (eOpF pIx 6 (bOf (eD (.int 1)))))) (bOf (eOpF pIx 2 (bOf (eOpF pAdd 5 (bOf (eD (.int 1))))))))) (dRet (eD (.bl false))) dNext)) (dRet (eD (.bl true)))))))) [.pure ru,.pure d]=some (.pure (.bl (lh h w bs d)),[.pure ru,.pure d]):=by
 have hdc:=dict_bl R
 cases d with
 | exc n=>exact hd.elim
 | tup ds =>
  by_cases h2:ds.length=2
  ·obtain ⟨t,g,rfl⟩:=two h2
   have g1:=gt t (hd.2 t (by simp))
   have g2:=gd g (hd.2 g (by simp))
   rw [lh_two]
   have e2:pNe (.int 2) (.int 2)=some (.pure (.bl false)):=rfl
   have l2:pLen (.tup [t,g])=some (.pure (.int 2)):=rfl
   have ty:isTy "tuple" (.tup [t,g])=some true:=rfl
   cases a1:tgs bs t with
   | false =>
    rw [a1] at g1
    rw [gOf_def]
    generalize hdd:dcD bs=dd at *
    simp [ioOk,startD,dTr,eIsi,ty,bVar,l2,e2,dAsg,eVar,gTp,gsCons,gsNil,eOpF,eOpN,x2,hdc,eCall,ios,ndup,isOwn,evX,mkA,g1,putA,resOf,outsOf]
   | true =>
    cases a2:dgs h w g with
    | false =>
     rw [a1] at g1
     rw [a2] at g2
     rw [gOf_def]
     generalize hdd:dcD bs=dd at *
     simp [ioOk,startD,dTr,eIsi,ty,bVar,l2,e2,dAsg,eVar,gTp,gsCons,gsNil,eOpF,eOpN,x2,hdc,eCall,ios,ndup,isOwn,evX,mkA,g1,g2,putA,resOf,outsOf]
    | true =>
     rw [a1] at g1
     rw [a2] at g2
     cases t <;> first | (simp [tgs] at a1; done) | skip
     cases g <;> first | (simp [dgs] at a2; done) | skip
     rename_i ts gs
     obtain ⟨ns,rfl,hn⟩:=tg_of a1
     obtain ⟨ps,rfl,hp⟩:=dg_of a2
     have l3:pLen (.lst (ns.map t1D))=some (.pure (.int ns.length)):=by simp [pLen]
     have l4:pLen (.lst (ps.map prD))=some (.pure (.int ps.length)):=by simp [pLen]
     have s1:=sub_int ns.length 1
     have n1:=ne_int ps.length ((ns.length:Int) - 1)
     show _=some (S.pure (.bl (true && true && (decide ((ps.map prD).length + 1=(ns.map t1D).length) && (enumD (ps.map prD)).all (ck bs (ns.map t1D))))),_)
     rw [List.length_map,List.length_map]
     by_cases hl:ps.length + 1=ns.length
     ·have q1:((ps.length:Int) == (ns.length:Int) - 1)=true:=by simp; omega
      rw [q1] at n1
      have L:=loop_line R ru (.tup [.lst (ns.map t1D),.lst (ps.map prD)]) ns ps hl hn hp (none,none)
      have hen:iEnum (eVar 3) [some (.pure ru),some (.pure (.tup [.lst (ns.map t1D),.lst (ps.map prD)])),some (.pure (.lst (ns.map t1D))),some (.pure (.lst (ps.map prD))),some (.pure (dcD bs)),none,none] = .ok (enumD (ps.map prD)) [some (.pure ru),some (.pure (.tup [.lst (ns.map t1D),.lst (ps.map prD)])),some (.pure (.lst (ns.map t1D))),some (.pure (.lst (ps.map prD))),some (.pure (dcD bs)),none,none]:=by simp [iEnum,eVar]
      cases ha:(enumD (ps.map prD)).all (ck bs (ns.map t1D)) with
      | true =>
       rw [ha] at L
       obtain ⟨j',e⟩:=L
       rw [gOf_def]
       generalize hdd:dcD bs=dd at *
       generalize enumD (ps.map prD)=EE at *
       generalize D.lst (ns.map t1D)=LD at *
       generalize D.lst (ps.map prD)=DD at *
       generalize D.int ((ns.length:Int) - 1)=i1 at *
       generalize D.int (ns.length:Int)=i2 at *
       generalize D.int (ps.length:Int)=i3 at *
       simp [ioOk,startD,dTr,eIsi,ty,bVar,l2,e2,dAsg,eVar,gTp,gsCons,gsNil,eOpF,eOpN,x2,hdc,eCall,ios,ndup,isOwn,evX,mkA,g1,g2,putA,l3,l4,s1,n1,hen]
       rw [e]
       simp [resOf,outsOf,hl]
      | false =>
       rw [ha] at L
       obtain ⟨δ2,e⟩:=L
       rw [gOf_def]
       generalize hdd:dcD bs=dd at *
       generalize enumD (ps.map prD)=EE at *
       generalize D.lst (ns.map t1D)=LD at *
       generalize D.lst (ps.map prD)=DD at *
       generalize D.int ((ns.length:Int) - 1)=i1 at *
       generalize D.int (ns.length:Int)=i2 at *
       generalize D.int (ps.length:Int)=i3 at *
       simp [ioOk,startD,dTr,eIsi,ty,bVar,l2,e2,dAsg,eVar,gTp,gsCons,gsNil,eOpF,eOpN,x2,hdc,eCall,ios,ndup,isOwn,evX,mkA,g1,g2,putA,l3,l4,s1,n1,hen]
       rw [e]
       simp [resOf,outsOf]
     ·have q1:((ps.length:Int) == (ns.length:Int) - 1)=false:=by simp; omega
      rw [q1] at n1
      rw [decide_eq_false hl,gOf_def]
      generalize hdd:dcD bs=dd at *
      generalize D.lst (ns.map t1D)=LD at *
      generalize D.lst (ps.map prD)=DD at *
      generalize D.int ((ns.length:Int) - 1)=i1 at *
      generalize D.int (ns.length:Int)=i2 at *
      generalize D.int (ps.length:Int)=i3 at *
      simp [ioOk,startD,dTr,eIsi,ty,bVar,l2,e2,dAsg,eVar,gTp,gsCons,gsNil,eOpF,eOpN,x2,hdc,eCall,ios,ndup,isOwn,evX,mkA,g1,g2,putA,l3,l4,s1,n1,resOf,outsOf]
  ·have e2:pNe (.int (ds.length:Nat)) (.int 2)=some (.pure (.bl true)):=by
    rw [ne_int]
    have:((ds.length:Int) == 2)=false:=by simp; omega
    rw [this]; rfl
   have l2:=len_tp ds
   rw [lh_len h2,gOf_def]
   have ty:isTy "tuple" (.tup ds)=some true:=rfl
   generalize D.tup ds=dd at *
   generalize D.int (ds.length:Nat)=ll at *
   simp [ioOk,startD,eIsi,ty,bVar,dTr,l2,e2,resOf,outsOf]
 | _ =>
  rw [gOf_def]
  simp [ioOk,startD,eIsi,isTy,bVar,dTr,resOf,outsOf,lh]
theorem r_line {h w:Nat} {bs:List (Nat×List Tx)} (R:Rul h w bs) (d:D) (hd:NX3 d):G_line_holds [.pure (ruD h w bs),.pure d]=some (.pure (.bl (lh h w bs d)),[.pure (ruD h w bs),.pure d]):=by
 obtain ⟨x0,x1,x2⟩:=ru_ix h w bs
 rw [G_line_holds,b_line_holds]
 exact q_line G_tiles_good G_digits_good R (ruD h w bs) d x2 hd (fun d h=>r_tiles bs d h) fun d h=>r_digits _ x0 x1 d h
open L2 DV
open PySem (sizeLine)
theorem loop_due {h w:Nat} {bs:List (Nat×List Tx)} (R:Rul h w bs) (ru th:D) (ns:List Nat) (ps:List Pr) (t0:pIx th (.int 0)=some (.pure (.lst (ns.map t1D)))) (hl:ps.length + 1=ns.length) (hn:∀ n ∈ ns,n ∈ bs.map (·.1)) (hp:∀ p ∈ ps,p.1 < h∧p.2 < w) (o:Option S×Option S) :
  if (enumD (ps.map prD)).all (ck bs (ns.map t1D)) then ∃ j':Option S×Option S,forL (gTp 2 (gsCons (gNm [] 3) (gsCons (gNm [] 4) gsNil))) (dIf (dTr (eOp pNe (eOp pIx (eOp pIx (eOpF pIxX 2 (bOf (eOp pIx (eOpF pIx 1 (bOf (eD (.int 0)))) (bVar 3)))) (bOf (eOpF pIx 4 (bOf (eD (.int 0)))))) (bOf (eOpF pIx 4 (bOf (eD (.int 1)))))) (bOf (eOp pIx (eOpF pIx 1 (bOf (eD (.int 0)))) (bOf (eOpF pAdd 3 (bOf (eD (.int 1))))))))) (dRet (eD (.bl false))) dNext) (enumD (ps.map prD)) [some (.pure ru),some (.pure th),some (.own (dcD bs)),o.1,o.2,none] = .ok .next [some (.pure ru),some (.pure th),some (.own (dcD bs)),j'.1,j'.2,none]
  else ∃ δ2,forL (gTp 2 (gsCons (gNm [] 3) (gsCons (gNm [] 4) gsNil))) (dIf (dTr (eOp pNe (eOp pIx (eOp pIx (eOpF pIxX 2 (bOf (eOp pIx (eOpF pIx 1 (bOf (eD (.int 0)))) (bVar 3)))) (bOf (eOpF pIx 4 (bOf (eD (.int 0)))))) (bOf (eOpF pIx 4 (bOf (eD (.int 1)))))) (bOf (eOp pIx (eOpF pIx 1 (bOf (eD (.int 0)))) (bOf (eOpF pAdd 3 (bOf (eD (.int 1))))))))) (dRet (eD (.bl false))) dNext) (enumD (ps.map prD)) [some (.pure ru),some (.pure th),some (.own (dcD bs)),o.1,o.2,none] = .ok (.ret (.pure (.bl false))) δ2:=by
 refine forL_all (fun o:Option S×Option S=>[some (.pure ru),some (.pure th),some (.own (dcD bs)),o.1,o.2,none]) (ck bs (ns.map t1D)) (enumD (ps.map prD)) o fun d hd j=>?_
 obtain ⟨k,hk,rfl⟩:=List.getElem_of_mem hd
 obtain ⟨d',hd',e⟩:=enumD_get (List.getElem?_eq_getElem hk)
 rw [e]
 rw [List.getElem?_map,Option.map_eq_some_iff] at hd'
 obtain ⟨p,hpk,rfl⟩:=hd'
 have hkl:k < ps.length:=(List.getElem?_eq_some_iff.mp hpk).1
 obtain ⟨a,ha⟩:∃ a,ns[k]? = some a:=⟨ns[k],by simp⟩
 obtain ⟨m,hm⟩:∃ m,ns[k + 1]? = some m:=⟨ns[k + 1],by simp⟩
 rw [ck_at bs ns k a m p ha hm]
 have hpd:=hp p (List.mem_of_getElem? hpk)
 have y0:=ix_t1 ns k a ha
 have y1:=ix_t1' ns k m hm
 have y2:=ix_dc (hn a (List.mem_of_getElem? ha))
 obtain ⟨_,y3,y4⟩:=nt_ok R (hn a (List.mem_of_getElem? ha)) hpd.1 hpd.2
 have y5:=ne_s (nt bs a p.1 p.2) m
 have i0:=ix20 (.int p.1) (.int p.2)
 have i1:=ix21 (.int p.1) (.int p.2)
 refine ⟨[some (.pure ru),some (.pure th),some (.own (dcD bs)),some (.pure (.int k)),some (.pure (prD p)),none],rfl,?_⟩
 cases hb:(nt bs a p.1 p.2 == m) with
 | true =>
  rw [hb] at y5
  refine ⟨(some (.pure (.int k)),some (.pure (prD p))),?_⟩
  generalize nt bs a p.1 p.2=nx at *
  generalize D.str ((blk bs a).getD p.1 [])=dr at *
  generalize flD (blk bs a)=db at *
  generalize dcD bs=dd at *
  generalize ns.map t1D=LD at *
  simp [dTr,eOpF,eOpN,bVar,t0,y0,y2,i0,i1,y3,y4,add_int,y1,y5]
 | false =>
  rw [hb] at y5
  refine ⟨[some (.pure ru),some (.pure th),some (.own (dcD bs)),some (.pure (.int k)),some (.pure (prD p)),none],?_⟩
  generalize nt bs a p.1 p.2=nx at *
  generalize D.str ((blk bs a).getD p.1 [])=dr at *
  generalize flD (blk bs a)=db at *
  generalize dcD bs=dd at *
  generalize ns.map t1D=LD at *
  simp [dTr,eOpF,eOpN,bVar,t0,y0,y2,i0,i1,y3,y4,add_int,y1,y5]
theorem el_due (bs:List (Nat×List Tx)) (ru d th:D) (hd:NX d):(eAnd (eIsi "str" (bVar 5)) (eOp (pIn false) (eVar 5) (bVar 2)):DE) [some (.pure ru),some (.pure th),some (.own (dcD bs)),none,none,some (.pure d)] = .ok (.pure (.bl (tg bs d))) [some (.pure ru),some (.pure th),some (.own (dcD bs)),none,none,some (.pure d)]:=by
 cases d with
 | exc n=>exact hd.elim
 | str x =>
  have e:=in_dcA bs x
  have ty:isTy "str" (.str x)=some true:=rfl
  generalize tg bs (.str x)=b at *
  generalize dcD bs=dc at *
  generalize D.str x=dx at *
  simp [eAnd,eIsi,ty,bVar,eVar,e]
 | _=>simp [eAnd,eIsi,isTy,bVar,tg]
theorem all_due (bs:List (Nat×List Tx)) (ru th:D) (ts:List D) (t0:pIx th (.int 0)=some (.pure (.lst ts))) (hd:NX2 (.lst ts)) :
  eC1 pAll (bOf (eComp [5] (iSq (eOpF pIx 1 (bOf (eD (.int 0))))) (gNm [] 5) dYes (eAnd (eIsi "str" (bVar 5)) (eOp (pIn false) (eVar 5) (bVar 2))))) [some (.pure ru),some (.pure th),some (.own (dcD bs)),none,none,none] = .ok (.pure (.bl (ts.all (tg bs)))) [some (.pure ru),some (.pure th),some (.own (dcD bs)),none,none,none]:=by
 have e:=compL_mapA (cs:=[5]) (g:=gNm [] 5) (t:=dYes) (el:=(eAnd (eIsi "str" (bVar 5)) (eOp (pIn false) (eVar 5) (bVar 2)))) (fun d:D=>d) (fun d=>.bl (tg bs d)) [some (.pure ru),some (.pure th),some (.own (dcD bs)),none,none,none] ts [] (by rw [line_eq]; simp only [List.length_nil]; have:=hd.1; omega) (fun d hm=>by
  exact ⟨_,_,.pure (.bl (tg bs d)),[some (.pure ru),some (.pure th),some (.own (dcD bs)),none,none,some (.pure d)],rfl,rfl,el_due bs ru d th (hd.2 d hm).nx,rfl,rfl⟩)
 have ha:=all_D ts (tg bs)
 rw [List.nil_append,List.map_id'] at e
 have hs:iSq (eOpF pIx 1 (bOf (eD (.int 0)))) [some (.pure ru),some (.pure th),some (.own (dcD bs)),none,none,none] = .ok ts [some (.pure ru),some (.pure th),some (.own (dcD bs)),none,none,none]:=by simp [ev_sq,eOpF,eOpN,bVar,t0]
 generalize ts.all (tg bs)=rb at *
 generalize ts.map (fun d=>D.bl (tg bs d))=rl at *
 generalize dcD bs=dc at *
 simp [hs,isOwn,clrD]
 rw [e]
 simp [backD,ha]
theorem q_due (GD:DF) {h w:Nat} {bs:List (Nat×List Tx)} (R:Rul h w bs) (ru d:D) (x2:pIx ru (.int 2)=some (.pure (.tup (bs.map blD)))) (hd:NX3 d)
  (gd:∀ d,NX2 d→GD [.pure ru,.pure d]=some (.pure (.bl (dgs h w d)),[.pure ru,.pure d])) :
  gOf [] 6 (dSeq (dIf (dOr (dNot (dTr (eIsi "tuple" (bVar 1)))) (dOr (dTr (eOp pNe (eC1 pLen (bVar 1)) (bOf (eD (.int 2))))) (dNot (dTr (eIsi "list" (bOf (eOpF pIx 1 (bOf (eD (.int 0)))))))))) (dRet (eD (.bl false))) dNext) (dSeq (dIf (dOr (dNot (dTr (eCall GD [.val (eVar 0),.val (eOpF pIx 1 (bOf (eD (.int 1))))]))) (dTr (eOp pNe (eC1 pLen (bOf (eOpF pIx 1 (bOf (eD (.int 0)))))) (bOf (eOp pAdd (eC1 pLen (bOf (eOpF pIx 1 (bOf (eD (.int 1)))))) (bOf (eD (.int 1)))))))) (dRet (eD (.bl false))) dNext) (dSeq (dAsg (eC1 pDictOf (bOf (eOpF pIx 0 (bOf (eD (.int 2)))))) (gNm [] 2)) (dSeq (dIf (dNot (dTr (eC1 pAll (bOf (eComp [5] (iSq (eOpF pIx 1 (bOf (eD (.int 0))))) (gNm [] 5) dYes (eAnd (eIsi "str" (bVar 5)) (eOp (pIn false) (eVar 5) (bVar 2)))))))) (dRet (eD (.bl false))) dNext) (dSeq (dFor (iEnum (eOpF pIx 1 (bOf (eD (.int 1))))) (gTp 2 (gsCons (gNm [] 3) (gsCons (gNm [] 4) gsNil))) (dIf (dTr (eOp pNe (eOp pIx (eOp pIx (eOpF pIxX 2 (bOf (eOp pIx (eOpF pIx 1 (bOf (eD (.int 0)))) (bVar 3)))) (bOf (eOpF pIx 4 (bOf (eD (.int 0)))))) (bOf (eOpF pIx 4 (bOf (eD (.int 1)))))) (bOf (eOp pIx (eOpF pIx 1 (bOf (eD (.int 0)))) (bOf (eOpF pAdd 3 (bOf (eD (.int 1))))))))) (dRet (eD (.bl false))) dNext)) (dRet (eD (.bl true)))))))) [.pure ru,.pure d]=some (.pure (.bl (lh h w bs d)),[.pure ru,.pure d]):=by
 have hdc:=dict_bl R
 cases d with
 | exc n=>exact hd.elim
 | tup ds =>
  by_cases h2:ds.length=2
  ·obtain ⟨t,g,rfl⟩:=two h2
   have hdt:=hd.2 t (by simp)
   have g2:=gd g (hd.2 g (by simp))
   rw [lh_two]
   have e2:pNe (.int 2) (.int 2)=some (.pure (.bl false)):=rfl
   have l2:pLen (.tup [t,g])=some (.pure (.int 2)):=rfl
   have ty:isTy "tuple" (.tup [t,g])=some true:=rfl
   have i0:=ix20 t g
   have i1:=ix21 t g
   cases t with
   | exc n=>exact hdt.elim
   | lst ts =>
    have tl:isTy "list" (.lst ts)=some true:=rfl
    cases a2:dgs h w g with
    | false =>
     rw [a2] at g2
     rw [gOf_def]
     generalize D.tup [.lst ts,g]=dd at *
     generalize tgs bs (.lst ts)=b1 at *
     generalize D.lst ts=LD at *
     simp [ioOk,startD,dTr,eIsi,ty,tl,bVar,l2,e2,eVar,eOpF,eOpN,i0,i1,eCall,ios,ndup,isOwn,evX,mkA,g2,putA,resOf,outsOf]
    | true =>
     rw [a2] at g2
     cases g <;> first | (simp [dgs] at a2; done) | skip
     rename_i gs
     have l3:pLen (.lst ts)=some (.pure (.int ts.length)):=by simp [pLen]
     have l4:pLen (.lst gs)=some (.pure (.int gs.length)):=by simp [pLen]
     have s1:=add_int gs.length 1
     have n1:=ne_int ts.length ((gs.length:Int) + 1)
     show _=some (S.pure (.bl (tgs bs (.lst ts) && true && (decide (gs.length + 1=ts.length) && (enumD gs).all (ck bs ts)))),_)
     by_cases hl:gs.length + 1=ts.length
     ·have q1:((ts.length:Int) == (gs.length:Int) + 1)=true:=by simp; omega
      rw [q1] at n1
      have AL:=all_due bs ru (.tup [.lst ts,.lst gs]) ts i0 hdt
      rw [decide_eq_true hl]
      have et:tgs bs (.lst ts)=ts.all (tg bs):=rfl
      rw [et]
      generalize hfe:eC1 pAll (bOf (eComp [5] (iSq (eOpF pIx 1 (bOf (eD (.int 0))))) (gNm [] 5) dYes (eAnd (eIsi "str" (bVar 5)) (eOp (pIn false) (eVar 5) (bVar 2)))))=fe at AL ⊢
      cases a1:ts.all (tg bs) with
      | false =>
       rw [a1] at AL
       rw [gOf_def]
       generalize hdd:dcD bs=dd at *
       generalize (enumD gs).all (ck bs ts)=b2 at *
       generalize D.tup [.lst ts,.lst gs]=TD at *
       generalize D.lst ts=LD at *
       generalize D.lst gs=DD at *
       generalize D.int ((gs.length:Int) + 1)=i5 at *
       generalize D.int (ts.length:Int)=i6 at *
       generalize D.int (gs.length:Int)=i7 at *
       simp [ioOk,startD,dTr,eIsi,ty,tl,bVar,l2,e2,dAsg,eVar,eOpF,eOpN,i0,i1,x2,hdc,eCall,ios,ndup,isOwn,evX,mkA,g2,putA,l3,l4,s1,n1,AL,resOf,outsOf]
      | true =>
       rw [a1] at AL
       obtain ⟨ns,rfl,hn⟩:=tg_of a1
       obtain ⟨ps,rfl,hp⟩:=dg_of a2
       simp only [List.length_map] at hl
       have L:=loop_due R ru (.tup [.lst (ns.map t1D),.lst (ps.map prD)]) ns ps i0 hl hn hp (none,none)
       have hen:iEnum (eOpF pIx 1 (bOf (eD (.int 1)))) [some (.pure ru),some (.pure (.tup [.lst (ns.map t1D),.lst (ps.map prD)])),some (.own (dcD bs)),none,none,none] = .ok (enumD (ps.map prD)) [some (.pure ru),some (.pure (.tup [.lst (ns.map t1D),.lst (ps.map prD)])),some (.own (dcD bs)),none,none,none]:=by simp [iEnum,eOpF,eOpN,bVar,i1]
       cases ha:(enumD (ps.map prD)).all (ck bs (ns.map t1D)) with
       | true =>
        rw [ha] at L
        obtain ⟨j',e⟩:=L
        rw [gOf_def]
        generalize hdd:dcD bs=dd at *
        generalize enumD (ps.map prD)=EE at *
        generalize D.tup [.lst (ns.map t1D),.lst (ps.map prD)]=TD at *
        generalize D.lst (ns.map t1D)=LD at *
        generalize D.lst (ps.map prD)=DD at *
        generalize D.int (((ps.map prD).length:Int) + 1)=i5 at *
        generalize D.int ((ns.map t1D).length:Int)=i6 at *
        generalize D.int ((ps.map prD).length:Int)=i7 at *
        simp [ioOk,startD,dTr,eIsi,ty,tl,bVar,l2,e2,dAsg,eVar,eOpF,eOpN,i0,i1,x2,hdc,eCall,ios,ndup,isOwn,evX,mkA,g2,putA,l3,l4,s1,n1,AL,hen]
        rw [e]
        simp [resOf,outsOf]
       | false =>
        rw [ha] at L
        obtain ⟨δ2,e⟩:=L
        rw [gOf_def]
        generalize hdd:dcD bs=dd at *
        generalize enumD (ps.map prD)=EE at *
        generalize D.tup [.lst (ns.map t1D),.lst (ps.map prD)]=TD at *
        generalize D.lst (ns.map t1D)=LD at *
        generalize D.lst (ps.map prD)=DD at *
        generalize D.int (((ps.map prD).length:Int) + 1)=i5 at *
        generalize D.int ((ns.map t1D).length:Int)=i6 at *
        generalize D.int ((ps.map prD).length:Int)=i7 at *
        simp [ioOk,startD,dTr,eIsi,ty,tl,bVar,l2,e2,dAsg,eVar,eOpF,eOpN,i0,i1,x2,hdc,eCall,ios,ndup,isOwn,evX,mkA,g2,putA,l3,l4,s1,n1,AL,hen]
        rw [e]
        simp [resOf,outsOf]
     ·have q1:((ts.length:Int) == (gs.length:Int) + 1)=false:=by simp; omega
      rw [q1] at n1
      rw [decide_eq_false hl,gOf_def]
      generalize tgs bs (.lst ts)=b1 at *
      generalize D.tup [.lst ts,.lst gs]=TD at *
      generalize D.lst ts=LD at *
      generalize D.lst gs=DD at *
      generalize D.int ((gs.length:Int) + 1)=i5 at *
      generalize D.int (ts.length:Int)=i6 at *
      generalize D.int (gs.length:Int)=i7 at *
      simp [ioOk,startD,dTr,eIsi,ty,tl,bVar,l2,e2,eVar,eOpF,eOpN,i0,i1,eCall,ios,ndup,isOwn,evX,mkA,g2,putA,l3,l4,s1,n1,resOf,outsOf]
   | _ =>
    rw [gOf_def]
    simp [ioOk,startD,dTr,eIsi,isTy,bVar,l2,e2,eVar,eOpF,eOpN,i0,i1,resOf,outsOf,tgs]
  ·have e2:pNe (.int (ds.length:Nat)) (.int 2)=some (.pure (.bl true)):=by
    rw [ne_int]
    have:((ds.length:Int) == 2)=false:=by simp; omega
    rw [this]; rfl
   have l2:=len_tp ds
   rw [lh_len h2,gOf_def]
   have ty:isTy "tuple" (.tup ds)=some true:=rfl
   generalize D.tup ds=dd at *
   generalize D.int (ds.length:Nat)=ll at *
   simp [ioOk,startD,eIsi,ty,bVar,dTr,l2,e2,resOf,outsOf]
 | _ =>
  rw [gOf_def]
  simp [ioOk,startD,eIsi,isTy,bVar,dTr,resOf,outsOf,lh]
theorem r_due {h w:Nat} {bs:List (Nat×List Tx)} (R:Rul h w bs) (d:D) (hd:NX3 d):G__law_due_of [.pure (ruD h w bs),.pure d]=some (.pure (.bl (lh h w bs d)),[.pure (ruD h w bs),.pure d]):=by
 obtain ⟨x0,x1,x2⟩:=ru_ix h w bs
 rw [G__law_due_of,b__law_due_of]
 exact q_due G__law_digits_good R (ruD h w bs) d x2 hd fun d h=>r_lawdigits _ d x0 x1 h
open L2 DV
open PySem (sizeLine)
theorem eq_bl (a:Bool):pEq (.bl a) (.bl a)=some (.pure (.bl true)):=by cases a <;> rfl
theorem r_right {h w:Nat} {bs:List (Nat×List Tx)} (R:Rul h w bs) (d:D) (hd:NX3 d):G__law_right [.pure (ruD h w bs),.pure d]=some (.pure (.bl true),[.pure (ruD h w bs),.pure d]):=by
 have e1:=r_line R d hd
 have e2:=r_due R d hd
 have e3:=eq_bl (lh h w bs d)
 have ty:isTy "bool" (.bl (lh h w bs d))=some true:=rfl
 rw [G__law_right,gOf_def,b__law_right]
 generalize D.bl (lh h w bs d)=lb at *
 generalize ruD h w bs=ru at *
 simp [ioOk,startD,eCall,ios,ndup,isOwn,evX,mkA,e1,e2,putA,dAsg,eVar,bVar,eAnd,eIsi,ty,eOpF,eOpN,e3,resOf,outsOf]
theorem gOfX_def (np:List Nat) (n:Nat) (b:DS) (ss:List S):gOfX np n b ss=if ioOk np 0 ss then (match b (startD n ss) with
 | .ok fl δ=>(resOf fl).bind fun r=>(outsOf 0 ss δ).map fun outs=>.inl (r,outs)
 | .exc x δ=>if x.flds.isEmpty then (outsOf 0 ss δ).map fun outs=>.inr (x.cls,outs) else none
 | .stuck=>none) else none:=rfl
def far (h w:Nat):D→Bool
 | .lst ds=>ds.all (dg h w) && decide (ds.length≤60)
 | _=>false
theorem r_place {h w:Nat} (ru d:D) (x0:pIx ru (.int 0)=some (.pure (.int h))) (x1:pIx ru (.int 1)=some (.pure (.int w))) (hd:NX2 d) (hf:far h w d=false):G_place_far [.pure ru,.pure d]=some (.inr ([78,111,80,108,97,99,101],[.pure ru,.pure d])):=by
 have e1:=r_digits ru x0 x1 d hd
 rw [G_place_far,gOfX_def,b_place_far]
 cases a:dgs h w d with
 | false =>
  rw [a] at e1
  simp [ioOk,startD,dTr,eCall,ios,ndup,isOwn,evX,mkA,e1,putA,eVar,dRaise,Rs.bind,outsOf]
 | true =>
  rw [a] at e1
  cases d <;> first | (simp [dgs] at a; done) | skip
  rename_i ds
  have hl:¬ ds.length≤60:=fun z=>by
   have:far h w (.lst ds)=(ds.all (dg h w) && decide (ds.length≤60)):=rfl
   rw [this,show ds.all (dg h w)=true from a,decide_eq_true z] at hf
   cases hf
  have l1:pLen (.lst ds)=some (.pure (.int ds.length)):=by simp [pLen]
  have g1:pGt (.int ds.length) (.int 60)=some (.pure (.bl true)):=by
   rw [gt_int,decide_eq_true (by omega)]
  generalize D.lst ds=dd at *
  generalize D.int (ds.length:Int)=i1 at *
  simp [ioOk,startD,dTr,eCall,ios,ndup,isOwn,evX,mkA,e1,putA,eVar,bVar,l1,g1,dRaise,Rs.bind,outsOf]
theorem isC_place (ce:Tx→Nat) (tab:Tx→Bool) (o1 o2:Option S):eIsC ce ys tab (bVar 0) [some (.pure (.exc (ce [78,111,80,108,97,99,101]))),o1,o2] = .ok (.pure (.bl (tab [78,111,80,108,97,99,101]))) [some (.pure (.exc (ce [78,111,80,108,97,99,101]))),o1,o2]:=by
 simp [eIsC,bVar,ys]
theorem r_kind (ce:Tx→Nat):G__law_kind_of ce [.pure (.exc (ce [78,111,80,108,97,99,101]))]=some (.pure (.str [112,108,97,99,101]),[.pure (.exc (ce [78,111,80,108,97,99,101]))]):=by
 have p1:pAdd (.lst [.bl false,.bl true]) (.lst [.bl false,.bl false])=some (.own (.lst [.bl false,.bl true,.bl false,.bl false])):=rfl
 have p2:pAdd (.lst [.bl false,.bl true,.bl false,.bl false]) (.lst [.bl false,.bl false])=some (.own (.lst [.bl false,.bl true,.bl false,.bl false,.bl false,.bl false])):=rfl
 have p3:pAdd (.lst [.bl false,.bl true,.bl false,.bl false,.bl false,.bl false]) (.lst [.bl false,.bl false])=some (.own (.lst [.bl false,.bl true,.bl false,.bl false,.bl false,.bl false,.bl false,.bl false])):=rfl
 have p4:pCount (.lst [.bl false,.bl true,.bl false,.bl false,.bl false,.bl false,.bl false,.bl false,.bl false])=some (.pure (.int 1)):=rfl
 have p5:pIndexT (.lst [.bl false,.bl true,.bl false,.bl false,.bl false,.bl false,.bl false,.bl false,.bl false])=some (.pure (.int 1)):=rfl
 have p6:pNe (.int 1) (.int 1)=some (.pure (.bl false)):=rfl
 have p7:pIx (.lst [.str [102,108,111,111,114],.str [112,108,97,99,101],.str [110,117,109,98,101,114],.str [114,111,119],.str [117,110,108,105,107,101],.str [116,105,108,101],.str [114,117,108,101],.str [116,101,120,116],.str [103,114,101,97,116]]) (.int 1)=some (.pure (.str [112,108,97,99,101])):=by simp [pIx,atI_one]
 have hz:sizeLine=16777216:=rfl
 rw [G__law_kind_of,gOf_def,b__law_kind_of]
 simp [ioOk,startD,dAsg,isC_place,eOpF,eOpN,bVar,dTr,p1,p2,p3,dAppend,isOwnL,putL,hz,p4,p5,p6,eLstC,p7,resOf,outsOf]
theorem bind_exc {α β:Type} (x:Xc) (δ:Dl) (f:α→Dl→Rs β):(Rs.exc x δ:Rs α).bind f = .exc x δ:=rfl
theorem r_refused (ce:Tx→Nat) {h w:Nat} (ru d:D) (x0:pIx ru (.int 0)=some (.pure (.int h))) (x1:pIx ru (.int 1)=some (.pure (.int w))) (hd:NX2 d) (hf:far h w d=false):G__law_refused ce [.pure ru,.pure d]=some (.pure (.bl true),[.pure ru,.pure d]):=by
 have e1:=r_place ru d x0 x1 hd hf
 have e2:=r_kind ce
 have e3:pEq (.str [112,108,97,99,101]) (.str [112,108,97,99,101])=some (.pure (.bl true)):=rfl
 rw [G__law_refused,gOf_def,b__law_refused]
 simp [ioOk,startD,dTry,noOwn,dDrop,eCallX,eCall,ios,ndup,isOwn,evX,mkA,e1,putA,eVar,unset,ys,bind_exc,e2,e3,resOf,outsOf]
open L2 DV
open PySem (sizeLine)
theorem ix_lastD (ds:List D) (d:D):pIx (.lst (ds ++ [d])) (.int (-1))=some (.pure d):=by
 have:atI (ds ++ [d]) (-1)=some d:=by
  unfold atI ixN
  rw [if_neg (by omega),if_pos (by simp; omega)]
  have e:(-1 + ((ds ++ [d]).length:Int)).toNat=ds.length:=by simp; omega
  simp only [Option.bind_some,e]
  simp
 simp [pIx,this]
theorem neg_one:pNeg (.int 1)=some (.pure (.int (-1))):=rfl
structure Ln (h w:Nat) (bs:List (Nat×List Tx)) (k:Nat) (ns:List Nat) (ps:List Pr):Prop where
 l1:ns.length=k + 1
 l2:ps.length=k
 hn:∀ n ∈ ns,n ∈ bs.map (·.1)
 hp:∀ p ∈ ps,p.1 < h∧p.2 < w
 at':∀ (i:Nat) a m p,ns[i]? = some a→ns[i + 1]? = some m→ps[i]? = some p→nt bs a p.1 p.2=m
theorem Ln.more {h w:Nat} {bs:List (Nat×List Tx)} (R:Rul h w bs) {k:Nat} {ns:List Nat} {a:Nat} {ps:List Pr} (L:Ln h w bs k (ns ++ [a]) ps) {p:Pr} (hp:p.1 < h∧p.2 < w):Ln h w bs (k + 1) (ns ++ [a] ++ [nt bs a p.1 p.2]) (ps ++ [p]):=by
 have l1:=L.l1
 have l2:=L.l2
 simp at l1
 refine ⟨by simp; omega,by simp; omega,fun n hm=>?_,fun q hm=>?_,fun i b m q e1 e2 e3=>?_⟩
 ·rcases List.mem_append.mp hm with hm | hm
  ·exact L.hn n hm
  ·simp at hm
   subst hm
   exact (nt_ok R (L.hn a (by simp)) hp.1 hp.2).1
 ·rcases List.mem_append.mp hm with hm | hm
  ·exact L.hp q hm
  ·simp at hm; subst hm; exact hp
 ·by_cases hi:i < ps.length
  ·rw [List.getElem?_append_left hi] at e3
   rw [List.getElem?_append_left (by simp; omega)] at e1 e2
   exact L.at' i b m q e1 e2 e3
  ·have hik:i=ps.length:=by
    have:=(List.getElem?_eq_some_iff.mp e3).1
    simp at this; omega
   subst hik
   simp at e3
   subst e3
   have z1:(ns ++ [a] ++ [nt bs a p.1 p.2])[ps.length]? = some a:=by
    rw [List.getElem?_append_left (by simp; omega),List.getElem?_append_right (by omega)]
    simp [show ps.length - ns.length=0 by omega]
   have z2:(ns ++ [a] ++ [nt bs a p.1 p.2])[ps.length + 1]? = some (nt bs a p.1 p.2):=by
    rw [List.getElem?_append_right (by simp; omega)]
    simp [show ps.length + 1 - (ns.length + 1)=0 by omega]
   rw [z1] at e1; cases e1
   rw [z2] at e2; cases e2
   rfl
theorem Ln.lh {h w:Nat} {bs:List (Nat×List Tx)} {k:Nat} {ns:List Nat} {ps:List Pr} (L:Ln h w bs k ns ps):K13.lh h w bs (.tup [.lst (ns.map t1D),.lst (ps.map prD)])=true:=by
 have a1:(ns.map t1D).all (tg bs)=true:=by
  rw [List.all_map,List.all_eq_true]
  intro n hn
  obtain ⟨b,hb,rfl⟩:=List.mem_map.mp (L.hn n hn)
  simp only [Function.comp,tg,List.any_eq_true,decide_eq_true_eq]
  exact ⟨b,hb,rfl⟩
 have a2:(ps.map prD).all (dg h w)=true:=by
  rw [List.all_map,List.all_eq_true]
  intro p hp
  have:=L.hp p hp
  show (wi ((h:Int) - 1) (.int p.1) && wi ((w:Int) - 1) (.int p.2))=true
  simp [wi]
  omega
 have a3:(enumD (ps.map prD)).all (ck bs (ns.map t1D))=true:=by
  rw [List.all_eq_true]
  intro d hd
  obtain ⟨i,hi,rfl⟩:=List.getElem_of_mem hd
  obtain ⟨d',hd',e⟩:=enumD_get (List.getElem?_eq_getElem hi)
  rw [e]
  rw [List.getElem?_map,Option.map_eq_some_iff] at hd'
  obtain ⟨p,hpk,rfl⟩:=hd'
  have hkl:i < ps.length:=(List.getElem?_eq_some_iff.mp hpk).1
  have l1:=L.l1
  have l2:=L.l2
  obtain ⟨a,ha⟩:∃ a,ns[i]? = some a:=⟨ns[i]'(by omega),by simp⟩
  obtain ⟨m,hm⟩:∃ m,ns[i + 1]? = some m:=⟨ns[i + 1]'(by omega),by simp⟩
  rw [ck_at bs ns i a m p ha hm,L.at' i a m p ha hm hpk]
  simp
 show ((ns.map t1D).all (tg bs) && (ps.map prD).all (dg h w) && decide ((ps.map prD).length + 1=(ns.map t1D).length) && (enumD (ps.map prD)).all (ck bs (ns.map t1D)))=true
 rw [a1,a2,a3]
 have l1:=L.l1
 have l2:=L.l2
 simp
 omega
open L2 DV
open PySem (sizeLine)
abbrev lnSt (ru:D) (dc:D) (pd:D) (ts gs:List D) (o:Option S):Dl:=[some (.own pd),some (.pure ru),some (.own dc),some (.own (.lst ts)),some (.own (.lst gs)),o]
theorem step_ln (GD:DF) (hd:DrawOk GD) {h w:Nat} {bs:List (Nat×List Tx)} (R:Rul h w bs) (ru:D) (x0:pIx ru (.int 0)=some (.pure (.int h))) (x1:pIx ru (.int 1)=some (.pure (.int w))) (ns:List Nat) (a:Nat) (ps:List Pr) (ha:a ∈ bs.map (·.1)) (l1:ns.length≤1000) (l2:ps.length≤1000) {pd:D} (hpd:Pen pd) (o:Option S) :
  ∃ (p:Pr) (pd':D),p.1 < h∧p.2 < w∧Pen pd'∧((dSeq (dAppend 4 (eTup (aCons (eCall GD [.io 0,.val (eOpF pIx 1 (bOf (eD (.int 0))))]) (aCons (eCall GD [.io 0,.val (eOpF pIx 1 (bOf (eD (.int 1))))]) aNil)))) (dAppend 3 (eOp pIx (eOp pIx (eOpF pIxX 2 (bOf (eOpF pIx 3 (bOf (eC1 pNeg (bOf (eD (.int 1)))))))) (bOf (eOp pIx (eOpF pIx 4 (bOf (eC1 pNeg (bOf (eD (.int 1)))))) (bOf (eD (.int 0)))))) (bOf (eOp pIx (eOpF pIx 4 (bOf (eC1 pNeg (bOf (eD (.int 1)))))) (bOf (eD (.int 1)))))))):DS) (lnSt ru (dcD bs) pd ((ns ++ [a]).map t1D) (ps.map prD) o) = .ok .next (lnSt ru (dcD bs) pd' ((ns ++ [a] ++ [nt bs a p.1 p.2]).map t1D) ((ps ++ [p]).map prD) o):=by
 obtain ⟨i,pd1,e1,h1,p1⟩:=hd pd h hpd R.h0 (by have:=R.h1; omega)
 obtain ⟨j,pd2,e2,h2,p2⟩:=hd pd1 w p1 R.w0 (by have:=R.w1; omega)
 refine ⟨(i,j),pd2,h1,h2,p2,?_⟩
 obtain ⟨_,y3,y4⟩:=nt_ok R ha h1 h2
 have y2:=ix_dc ha
 have z1:=ix_lastD (ns.map t1D) (t1D a)
 have z2:=ix_lastD (ps.map prD) (prD (i,j))
 have i0:=ix20 (.int i) (.int j)
 have i1:=ix21 (.int i) (.int j)
 have hz:sizeLine=16777216:=rfl
 have b1:(ps.map prD).length < sizeLine:=by rw [List.length_map]; omega
 have b2:(ns.map t1D ++ [t1D a]).length < sizeLine:=by simp; omega
 have m1:(ns ++ [a]).map t1D=ns.map t1D ++ [t1D a]:=by simp
 have m2:(ns ++ [a] ++ [nt bs a i j]).map t1D=ns.map t1D ++ [t1D a] ++ [t1D (nt bs a i j)]:=by simp
 have m3:(ps ++ [(i,j)]).map prD=ps.map prD ++ [prD (i,j)]:=by simp
 rw [m1,m2,m3]
 clear hz m1 m2 m3
 generalize hnx:nt bs a i j=nx at *
 generalize D.str ((blk bs a).getD i [])=dr at *
 generalize flD (blk bs a)=db at *
 generalize dcD bs=dd at *
 generalize ns.map t1D=NS at *
 generalize ps.map prD=PS at *
 generalize D.int (h:Int)=dh at *
 generalize D.int (w:Int)=dw at *
 have b3:NS.length + 1 < sizeLine:=by simpa using b2
 simp only [lnSt]
 simp [dAppend,isOwnL,putL,eCall,ios,ndup,isOwn,evX,mkA,putA,eOpF,eOpN,bVar,x0,x1,e1,e2,b1,b3,neg_one,z1,z2,i0,i1,y2,y3,y4]
theorem q_line_of (GT GD:DF) (hd:DrawOk GD) {h w:Nat} {bs:List (Nat×List Tx)} (R:Rul h w bs) (ru:D) (x0:pIx ru (.int 0)=some (.pure (.int h))) (x1:pIx ru (.int 1)=some (.pure (.int w))) (x2:pIx ru (.int 2)=some (.pure (.tup (bs.map blD)))) (gt:GT [.pure ru]=some (.own (.lst ((bs.map (·.1)).map t1D)),[.pure ru])) {pd:D} (hpd:Pen pd) :
  ∃ (k:Nat) (ns:List Nat) (ps:List Pr) (pd':D),k≤60∧Ln h w bs k ns ps∧Pen pd'∧gOf [0] 6 (dSeq (dAsg (eC1 pDictOf (bOf (eOpF pIx 1 (bOf (eD (.int 2)))))) (gNm [0] 2)) (dSeq (dAsg (eLst (aCons (eOp pIx (eCall GT [.val (eVar 1)]) (bOf (eCall GD [.io 0,.val (eC1 pLen (bOf (eOpF pIx 1 (bOf (eD (.int 2))))))]))) aNil)) (gNm [0] 3)) (dSeq (dAsg (eLst aNil) (gNm [0] 4)) (dSeq (dFor (iRange1 (eOp pIx (eLst (aCons (eCall GD [.io 0,.val (eD (.int 7))]) (aCons (eD (.int 60)) aNil))) (bOf (eC1 pInt (bOf (eOp pEq (eCall GD [.io 0,.val (eD (.int 8))]) (bOf (eD (.int 0))))))))) (gNm [0] 5) (dSeq (dAppend 4 (eTup (aCons (eCall GD [.io 0,.val (eOpF pIx 1 (bOf (eD (.int 0))))]) (aCons (eCall GD [.io 0,.val (eOpF pIx 1 (bOf (eD (.int 1))))]) aNil)))) (dAppend 3 (eOp pIx (eOp pIx (eOpF pIxX 2 (bOf (eOpF pIx 3 (bOf (eC1 pNeg (bOf (eD (.int 1)))))))) (bOf (eOp pIx (eOpF pIx 4 (bOf (eC1 pNeg (bOf (eD (.int 1)))))) (bOf (eD (.int 0)))))) (bOf (eOp pIx (eOpF pIx 4 (bOf (eC1 pNeg (bOf (eD (.int 1)))))) (bOf (eD (.int 1))))))))) (dRet (eTup (aCons (eVar 3) (aCons (eVar 4) aNil)))))))) [.own pd,.pure ru]=some (.pure (.tup [.lst (ns.map t1D),.lst (ps.map prD)]),[.own pd',.pure ru]):=by
 have n0:=R.n0
 have n1:=R.n1
 have hdc:=dict_bl R
 obtain ⟨r,pd1,e1,l1,p1⟩:=hd pd bs.length hpd n0 (by omega)
 obtain ⟨s,pd2,e2,l2,p2⟩:=hd pd1 7 p1 (by omega) (by omega)
 obtain ⟨u,pd3,e3,l3,p3⟩:=hd pd2 8 p2 (by omega) (by omega)
 have e2':GD [.own pd1,.pure (.int 7)]=some (.pure (.int s),[.own pd2,.pure (.int 7)]):=e2
 have e3':GD [.own pd2,.pure (.int 8)]=some (.pure (.int u),[.own pd3,.pure (.int 8)]):=e3
 obtain ⟨a,ha⟩:∃ a,(bs.map (·.1))[r]? = some a:=⟨(bs.map (·.1))[r]'(by simpa using l1),List.getElem?_eq_getElem _⟩
 have y0:=ix_t1 (bs.map (·.1)) r a ha
 have lb:pLen (.tup (bs.map blD))=some (.pure (.int bs.length)):=by simp [pLen]
 -- how often
 obtain ⟨N,hN,yN⟩:∃ N:Nat,N≤60∧∃ b:Bool,pEq (.int u) (.int 0)=some (.pure (.bl b))∧∃ v:Int,pInt (.bl b)=some (.pure (.int v))∧pIx (.lst [.int s,.int 60]) (.int v)=some (.pure (.int N)):=by
  by_cases hu:u=0
  ·subst hu
   exact ⟨60,by omega,true,rfl,1,rfl,by simp [pIx,atI_one]⟩
  ·refine ⟨s,by omega,false,?_,0,rfl,by simp [pIx,atI_zero]⟩
   rw [eq_int]
   have:((u:Int) == 0)=false:=by simp; omega
   rw [this]
 obtain ⟨b,yb,v,yv,yi⟩:=yN
 have haN:=List.mem_of_getElem? ha
 obtain ⟨δ',e,pd4,ns,c,ps,o,hp4,L,rfl⟩:=forL_inv (g:=gNm [0] 5) (b:=(dSeq (dAppend 4 (eTup (aCons (eCall GD [.io 0,.val (eOpF pIx 1 (bOf (eD (.int 0))))]) (aCons (eCall GD [.io 0,.val (eOpF pIx 1 (bOf (eD (.int 1))))]) aNil)))) (dAppend 3 (eOp pIx (eOp pIx (eOpF pIxX 2 (bOf (eOpF pIx 3 (bOf (eC1 pNeg (bOf (eD (.int 1)))))))) (bOf (eOp pIx (eOpF pIx 4 (bOf (eC1 pNeg (bOf (eD (.int 1)))))) (bOf (eD (.int 0)))))) (bOf (eOp pIx (eOpF pIx 4 (bOf (eC1 pNeg (bOf (eD (.int 1)))))) (bOf (eD (.int 1)))))))))
  (fun k δ=>∃ (pd:D) (ns:List Nat) (c:Nat) (ps:List Pr) (o:Option S),Pen pd∧Ln h w bs k (ns ++ [c]) ps∧δ=lnSt ru (dcD bs) pd ((ns ++ [c]).map t1D) (ps.map prD) o) (rangeD 0 N) 0 (lnSt ru (dcD bs) pd3 [t1D a] [] none)
  ⟨pd3,[],a,[],none,p3,⟨rfl,rfl,fun n hn=>by simp at hn; subst hn; exact haN,fun p hp=>by simp at hp,fun i a m p _ e _=>by simp at e⟩,rfl⟩ (fun i d δ hdd ⟨pd,ns,c,ps,o,hpd,L,e⟩=>by
   subst e
   obtain ⟨hk,rfl⟩:=ev_range_get hdd
   rw [Nat.zero_add] at L ⊢
   have q1:=L.l1
   have q2:=L.l2
   simp at q1
   obtain ⟨p,pd',a1,a2,a3,a4⟩:=step_ln GD hd R ru x0 x1 ns c ps (L.hn c (by simp)) (by omega) (by omega) hpd (some (.pure (.int i)))
   exact ⟨_,_,rfl,a4,pd',ns ++ [c],_,ps ++ [p],_,a3,L.more R ⟨a1,a2⟩,rfl⟩)
 rw [Nat.zero_add] at L
 have hlen:(rangeD 0 N).length=N:=by simp [rangeD]
 rw [hlen] at L
 refine ⟨N,ns ++ [c],ps,pd4,hN,L,hp4,?_⟩
 simp only [lnSt] at e
 rw [gOf_def]
 clear L haN
 generalize hdd:dcD bs=dd at *
 generalize D.lst ((bs.map (·.1)).map t1D)=TL at *
 generalize D.tup (bs.map blD)=BL at *
 generalize (ns ++ [c]).map t1D=NS at *
 generalize ps.map prD=PS at *
 have hr:=rng_ok N (by omega)
 simp [ioOk,startD,dAsg,eOpF,eOpN,bVar,x2,hdc,eCall,ios,ndup,isOwn,evX,mkA,putA,eVar,gt,lb,e1,y0,e2',e3',yb,yv,yi,hr]
 rw [e]
 simp [eVar,resOf,outsOf]
theorem r_line_of {h w:Nat} {bs:List (Nat×List Tx)} (R:Rul h w bs) {pd:D} (hpd:Pen pd):∃ (k:Nat) (ns:List Nat) (ps:List Pr) (pd':D),k≤60∧Ln h w bs k ns ps∧Pen pd'∧G__law_line_of [.own pd,.pure (ruD h w bs)]=some (.pure (.tup [.lst (ns.map t1D),.lst (ps.map prD)]),[.own pd',.pure (ruD h w bs)]):=by
 obtain ⟨x0,x1,x2⟩:=ru_ix h w bs
 rw [G__law_line_of,b__law_line_of]
 exact q_line_of G__law_tiles_of G__law_draw draw_ok R (ruD h w bs) x0 x1 x2 (r_tiles_of R) hpd
open L2 DV
open PySem (sizeLine)
theorem sl_lst (ds:List D) (lo hi:Option Int):pSl lo hi (.lst ds)=some (.own (.lst (cutL ds lo hi))):=rfl
theorem sl_tup (ds:List D) (lo hi:Option Int):pSl lo hi (.tup ds)=some (.pure (.tup (cutL ds lo hi))):=rfl
theorem cutm {α:Type} {xs:List α} {lo hi:Option Int} {x:α} (h:x ∈ cutL xs lo hi):x ∈ xs:=List.mem_of_mem_drop (List.mem_of_mem_take h)
theorem cutl {α:Type} (xs:List α) (lo hi:Option Int):(cutL xs lo hi).length≤xs.length:=by
 unfold cutL
 simp
 omega
theorem ix_any (L:List D) (r:Nat) (h:r < L.length):∃ e ∈ L,pIx (.lst L) (.int r)=some (.pure e):=⟨L[r],List.getElem_mem h,by simp [pIx,atI_nat',h]⟩
theorem add_lst (xs ys:List D) (h:xs.length + ys.length≤100000):pAdd (.lst xs) (.lst ys)=some (.own (.lst (xs ++ ys))):=by
 have hz:sizeLine=16777216:=rfl
 show (if xs.length + ys.length≤sizeLine then some (S.own (.lst (xs ++ ys))) else none)=_
 rw [if_pos (by omega)]
theorem add3_3 (a b c d e f:D):pAdd (.lst [a,b,c]) (.lst [d,e,f])=some (.own (.lst [a,b,c,d,e,f])):=rfl
theorem add6_5 (a b c d e f g h i j k:D):pAdd (.lst [a,b,c,d,e,f]) (.lst [g,h,i,j,k])=some (.own (.lst [a,b,c,d,e,f,g,h,i,j,k])):=rfl
theorem add11_5 (a b c d e f g h i j k l m n o p:D):pAdd (.lst [a,b,c,d,e,f,g,h,i,j,k]) (.lst [l,m,n,o,p])=some (.own (.lst [a,b,c,d,e,f,g,h,i,j,k,l,m,n,o,p])):=rfl
theorem add16_1 (a b c d e f g h i j k l m n o p q:D):pAdd (.lst [a,b,c,d,e,f,g,h,i,j,k,l,m,n,o,p]) (.lst [q])=some (.own (.lst [a,b,c,d,e,f,g,h,i,j,k,l,m,n,o,p,q])):=rfl
theorem q_odd_digits (GD:DF) (hd:DrawOk GD) (ru:D) {h w:Nat} (x0:pIx ru (.int 0)=some (.pure (.int h))) (x1:pIx ru (.int 1)=some (.pure (.int w))) (ps:List Pr) (hk:ps.length≤60) {pd:D} (hpd:Pen pd) :
  ∃ (ds:List D) (pd':D),ds.length≤200∧(∀ d ∈ ds,NX1 d)∧Pen pd'∧gOf [0] 6 (dSeq (dAsg (eCall GD [.io 0,.val (eOp pAdd (eC1 pLen (bVar 2)) (bOf (eD (.int 1))))]) (gNm [0] 3)) (dSeq (dAsg (eD (.tup [.int 0,.int 0])) (gNm [0] 4)) (dSeq (dIf (dTr (eOpF pLt 3 (bOf (eC1 pLen (bVar 2))))) (dAsg (eOpF pIx 2 (bVar 3)) (gNm [0] 4)) dNext) (dSeq (dAsg (eLst (aCons (eTup (aCons (eOp pAdd (eOpF pIx 4 (bOf (eD (.int 0)))) (bOf (eD (.int 1)))) (aCons (eOpF pIx 4 (bOf (eD (.int 1)))) aNil))) (aCons (eTup (aCons (eOpF pIx 4 (bOf (eD (.int 0)))) (aCons (eOp pAdd (eOpF pIx 4 (bOf (eD (.int 1)))) (bOf (eD (.int 1)))) aNil))) (aCons (eTup (aCons (eOpF pIx 1 (bOf (eD (.int 0)))) (aCons (eD (.int 0)) aNil))) aNil)))) (gNm [0] 5)) (dSeq (dAsg (eOpF pAdd 5 (bOf (eLst (aCons (eTup (aCons (eD (.int 0)) (aCons (eOpF pIx 1 (bOf (eD (.int 1)))) aNil))) (aCons (eTup (aCons (eC1 pNeg (bOf (eD (.int 1)))) (aCons (eD (.int 0)) aNil))) (aCons (eTup (aCons (eD (.int 0)) (aCons (eC1 pNeg (bOf (eD (.int 1)))) aNil))) aNil)))))) (gNm [0] 5)) (dSeq (dAsg (eOpF pAdd 5 (bOf (eLst (aCons (eD (.tup [.bl false,.int 0])) (aCons (eD (.tup [.int 0,.bl false])) (aCons (eD (.tup [.non,.int 0])) (aCons (eD (.tup [.str [48],.int 0])) (aCons (eOpF pAdd 4 (bOf (eD (.tup [.int 0])))) aNil)))))))) (gNm [0] 5)) (dSeq (dAsg (eOpF pAdd 5 (bOf (eLst (aCons (eSlN 4 oNone (oSome (eD (.int 1)))) (aCons (eC1 pListX (bVar 4)) (aCons (eD .non) (aCons (eD (.int 0)) (aCons (eD (.str [48,48])) aNil)))))))) (gNm [0] 5)) (dRet (eOp pAdd (eOp pAdd (eSlN 2 oNone (oSome (eVar 3))) (bOf (eLst (aCons (eOp pIx (eOpF pAdd 5 (bOf (eLst (aCons (eTup (aCons (eVar 4) (aCons (eVar 4) aNil))) aNil)))) (bOf (eCall GD [.io 0,.val (eD (.int 17))]))) aNil)))) (bOf (eSlN 2 (oSome (eOpF pAdd 3 (bOf (eD (.int 1))))) oNone))))))))))) [.own pd,.pure ru,.pure (.lst (ps.map prD))]=some (.own (.lst ds),[.own pd',.pure ru,.pure (.lst (ps.map prD))]):=by
 obtain ⟨r,pd1,e1,l1,p1⟩:=hd pd (ps.length + 1) hpd (by omega) (by omega)
 obtain ⟨s,pd2,e2,l2,p2⟩:=hd pd1 17 p1 (by omega) (by omega)
 have e2':GD [.own pd1,.pure (.int 17)]=some (.pure (.int s),[.own pd2,.pure (.int 17)]):=e2
 have len:pLen (.lst (ps.map prD))=some (.pure (.int ps.length)):=by simp [pLen]
 have a1:pAdd (.int ps.length) (.int 1)=some (.pure (.int ((ps.length + 1:Nat):Int))):=rfl
 -- the pair
 obtain ⟨p,hpair⟩:∃ p:Pr,(dIf (dTr (eOpF pLt 3 (bOf (eC1 pLen (bVar 2))))) (dAsg (eOpF pIx 2 (bVar 3)) (gNm [0] 4)) dNext:DS) [some (.own pd1),some (.pure ru),some (.pure (.lst (ps.map prD))),some (.pure (.int r)),some (.pure (.tup [.int 0,.int 0])),none] = .ok .next [some (.own pd1),some (.pure ru),some (.pure (.lst (ps.map prD))),some (.pure (.int r)),some (.pure (prD p)),none]:=by
  have lt:=lt_i r ps.length
  by_cases hr:r < ps.length
  ·refine ⟨ps[r],?_⟩
   have ix:pIx (.lst (ps.map prD)) (.int r)=some (.pure (prD ps[r])):=by simp [pIx,atI_nat',hr]
   rw [decide_eq_true (by omega)] at lt
   generalize prD ps[r]=pp at *
   generalize D.lst (ps.map prD)=DD at *
   generalize D.int (ps.length:Int)=i1 at *
   simp [dAsg,dTr,eOpF,eOpN,bVar,len,lt,ix]
  ·refine ⟨(0,0),?_⟩
   rw [decide_eq_false (by omega)] at lt
   generalize D.lst (ps.map prD)=DD at *
   generalize D.int (ps.length:Int)=i1 at *
   simp [dAsg,dTr,eOpF,eOpN,bVar,len,lt]
 generalize (dIf (dTr (eOpF pLt 3 (bOf (eC1 pLen (bVar 2))))) (dAsg (eOpF pIx 2 (bVar 3)) (gNm [0] 4)) dNext:DS)=fC at hpair ⊢
 obtain ⟨x,y⟩:=p
 have i0:=ix20 (.int x) (.int y)
 have i1:=ix21 (.int x) (.int y)
 have q1:pAdd (.int x) (.int 1)=some (.pure (.int ((x:Int) + 1))):=rfl
 have q2:pAdd (.int y) (.int 1)=some (.pure (.int ((y:Int) + 1))):=rfl
 have t3:pAdd (.tup [.int x,.int y]) (.tup [.int 0])=some (.pure (.tup [.int x,.int y,.int 0])):=rfl
 have s4:=sl_tup [.int x,.int y] none (some 1)
 have l4:pListX (.tup [.int x,.int y])=some (.own (.lst [.int x,.int y])):=rfl
 have c1:∀ d ∈ cutL [D.int x,D.int y] none (some 1),NX d:=fun d hm=>by
  have:=cutm hm
  simp at this
  rcases this with rfl | rfl <;> trivial
 have c2:=cutl [D.int x,D.int y] none (some 1)
 obtain ⟨e,he,ye⟩:=ix_any [.tup [.int ((x:Int) + 1),.int y],.tup [.int x,.int ((y:Int) + 1)],.tup [.int h,.int 0],.tup [.int 0,.int w],.tup [.int (-1),.int 0],.tup [.int 0,.int (-1)],.tup [.bl false,.int 0],.tup [.int 0,.bl false],.tup [.non,.int 0],.tup [.str [48],.int 0],.tup [.int x,.int y,.int 0],.tup (cutL [.int x,.int y] none (some 1)),.lst [.int x,.int y],.non,.int 0,.str [48,48],.tup [.tup [.int x,.int y],.tup [.int x,.int y]]] s (by simpa using l2)
 have hne:NX1 e:=by
  simp only [List.mem_cons,List.not_mem_nil,or_false] at he
  rcases he with rfl | rfl | rfl | rfl | rfl | rfl | rfl | rfl | rfl | rfl | rfl | rfl | rfl | rfl | rfl | rfl | rfl <;> first
   | trivial
   | exact ⟨by simp at c2 ⊢; omega,c1⟩
   | exact ⟨by simp,fun d hm=>by
     simp at hm
     first
      | (rcases hm with rfl | rfl | rfl <;> trivial)
      | (rcases hm with rfl | rfl <;> trivial)
      | (subst hm; trivial)⟩
 have hr1:pAdd (.int r) (.int 1)=some (.pure (.int ((r:Int) + 1))):=rfl
 have sA:=sl_lst (ps.map prD) none (some (r:Int))
 have sB:=sl_lst (ps.map prD) (some ((r:Int) + 1)) none
 have kA:=cutl (ps.map prD) none (some (r:Int))
 have kB:=cutl (ps.map prD) (some ((r:Int) + 1)) none
 rw [List.length_map] at kA kB
 have mA:∀ d ∈ cutL (ps.map prD) none (some (r:Int)),NX1 d:=fun d hm=>by
  obtain ⟨p,_,rfl⟩:=List.mem_map.mp (cutm hm)
  exact ⟨by simp,fun d hm=>by simp at hm; rcases hm with rfl | rfl <;> trivial⟩
 have mB:∀ d ∈ cutL (ps.map prD) (some ((r:Int) + 1)) none,NX1 d:=fun d hm=>by
  obtain ⟨p,_,rfl⟩:=List.mem_map.mp (cutm hm)
  exact ⟨by simp,fun d hm=>by simp at hm; rcases hm with rfl | rfl <;> trivial⟩
 generalize cutL (ps.map prD) none (some (r:Int))=cA at *
 generalize cutL (ps.map prD) (some ((r:Int) + 1)) none=cB at *
 have g1:=add_lst cA [e] (by simp; omega)
 have g2:=add_lst (cA ++ [e]) cB (by simp; omega)
 refine ⟨cA ++ [e] ++ cB,pd2,by simp; omega,fun d hm=>?_,p2,?_⟩
 ·rcases List.mem_append.mp hm with hm | hm
  ·rcases List.mem_append.mp hm with hm | hm
   ·exact mA d hm
   ·simp at hm; subst hm; exact hne
  ·exact mB d hm
 ·clear mA mB hne he c1 c2 kA kB
  rw [gOf_def]
  generalize D.tup (cutL [.int x,.int y] none (some 1))=cT at *
  generalize hL:cA ++ [e] ++ cB=LL at *
  generalize hM:cA ++ [e]=MM at *
  generalize D.lst (ps.map prD)=DD at *
  generalize D.int ((ps.length + 1:Nat):Int)=k1 at *
  generalize D.int (ps.length:Int)=k0 at *
  simp [ioOk,startD,eCall,ios,ndup,isOwn,evX,mkA,putA,bVar,len,a1,e1,dAsg,hpair,eOpF,eOpN,i0,i1,q1,q2,x0,x1,neg_one,add3_3,add6_5,add11_5,add16_1,t3,s4,l4,eSlN,oSome,oNone,eVar,e2',ye,hr1,sA,sB,g1,g2,resOf,outsOf]
theorem r_odd_digits {h w:Nat} {bs:List (Nat×List Tx)} (ps:List Pr) (hk:ps.length≤60) {pd:D} (hpd:Pen pd) :
  ∃ (ds:List D) (pd':D),ds.length≤200∧(∀ d ∈ ds,NX1 d)∧Pen pd'∧G__law_odd_digits [.own pd,.pure (ruD h w bs),.pure (.lst (ps.map prD))]=some (.own (.lst ds),[.own pd',.pure (ruD h w bs),.pure (.lst (ps.map prD))]):=by
 obtain ⟨x0,x1,x2⟩:=ru_ix h w bs
 rw [G__law_odd_digits,b__law_odd_digits]
 exact q_odd_digits G__law_draw draw_ok (ruD h w bs) x0 x1 ps hk hpd
open L2 DV
open PySem (sizeLine)
abbrev ooSt (pd ru ln:D) (TS GS:List D) (r:Nat) (oth:D) (L:List D) (o:Option S):Dl:=[some (.own pd),some (.pure ru),some (.pure ln),some (.pure (.lst TS)),some (.pure (.lst GS)),some (.pure (.int r)),some (.pure oth),some (.own (.lst L)),o]
theorem step_oo (pd ru ln:D) (TS GS:List D) (r:Nat) (oth:D) (L:List D) (x:D) (hT:TS.length≤61) (hTn:∀ d ∈ TS,NX1 d) (hG:NX2 (.lst GS)) (hx:NX1 x) (hL:L.length≤1000) :
  ∃ y:D,NX3 y∧((dAppend 7 (eTup (aCons (eOp pAdd (eOp pAdd (eSlN 3 oNone (oSome (eVar 5))) (bOf (eLst (aCons (eVar 8) aNil)))) (bOf (eSlN 3 (oSome (eOpF pAdd 5 (bOf (eD (.int 1))))) oNone))) (aCons (eVar 4) aNil)))):DS) (ooSt pd ru ln TS GS r oth L (some (.pure x))) = .ok .next (ooSt pd ru ln TS GS r oth (L ++ [y]) (some (.pure x))):=by
 have hr1:pAdd (.int r) (.int 1)=some (.pure (.int ((r:Int) + 1))):=rfl
 have sA:=sl_lst TS none (some (r:Int))
 have sB:=sl_lst TS (some ((r:Int) + 1)) none
 have kA:=cutl TS none (some (r:Int))
 have kB:=cutl TS (some ((r:Int) + 1)) none
 have mA:∀ d ∈ cutL TS none (some (r:Int)),NX1 d:=fun d hm=>hTn d (cutm hm)
 have mB:∀ d ∈ cutL TS (some ((r:Int) + 1)) none,NX1 d:=fun d hm=>hTn d (cutm hm)
 generalize cutL TS none (some (r:Int))=cA at *
 generalize cutL TS (some ((r:Int) + 1)) none=cB at *
 have g1:=add_lst cA [x] (by simp; omega)
 have g2:=add_lst (cA ++ [x]) cB (by simp; omega)
 have hz:sizeLine=16777216:=rfl
 have b1:L.length < sizeLine:=by omega
 refine ⟨.tup [.lst (cA ++ [x] ++ cB),.lst GS],⟨by simp,fun d hm=>?_⟩,?_⟩
 ·simp only [List.mem_cons,List.not_mem_nil,or_false] at hm
  rcases hm with rfl | rfl
  ·refine ⟨by simp; omega,fun d hm=>?_⟩
   rcases List.mem_append.mp hm with hm | hm
   ·rcases List.mem_append.mp hm with hm | hm
    ·exact mA d hm
    ·simp at hm; subst hm; exact hx
   ·exact mB d hm
  ·exact hG
 ·clear mA mB kA kB hz
  generalize cA ++ [x] ++ cB=LL at *
  generalize hM:cA ++ [x]=MM at *
  simp only [ooSt]
  simp [dAppend,isOwnL,putL,eSlN,oSome,oNone,eVar,eOpF,eOpN,bVar,hr1,sA,sB,g1,g2,b1,hM]
open L2 DV
open PySem (sizeLine)
theorem dSeq_step {a b:DS} {δ δ1:Dl} {x:Rs Fl} (h:a δ = .ok .next δ1) (h2:b δ1=x):dSeq a b δ=x:=by
 rw [ev_dSeq,h]
 simpa using h2
theorem asg7 {AS:DA} {M L:List D} {pd pd' ru ln:D} {TS GS:List D} {r:Nat} {oth:D} {o:Option S} (h:AS (ooSt pd ru ln TS GS r oth L o) = .ok M (ooSt pd' ru ln TS GS r oth L o)) (hl:L.length + M.length≤100000) :
  (dAsg (eOpF pAdd 7 (bOf (eLst AS))) (gNm [0] 7):DS) (ooSt pd ru ln TS GS r oth L o) = .ok .next (ooSt pd' ru ln TS GS r oth (L ++ M) o):=by
 have g:=add_lst L M hl
 simp only [ooSt] at h ⊢
 simp [dAsg,eOpF,eOpN,h,bVar,g]
theorem oo1 (pd ru ln:D) (TS GS:List D) (r:Nat) (oth:D) (L:List D) (o:Option S) (hT:TS.length≤61) (hTn:∀ d ∈ TS,NX1 d) (hG:NX2 (.lst GS)) (hL:L.length≤100) :
  ∃ M:List D,M.length=3∧(∀ d ∈ M,NX3 d)∧((dAsg (eOpF pAdd 7 (bOf (eLst (aCons (eTup (aCons (eC1 pTuple (bVar 3)) (aCons (eVar 4) aNil))) (aCons (eTup (aCons (eVar 3) (aCons (eC1 pTuple (bVar 4)) aNil))) (aCons (eLst (aCons (eVar 3) (aCons (eVar 4) aNil))) aNil)))))) (gNm [0] 7)):DS) (ooSt pd ru ln TS GS r oth L o) = .ok .next (ooSt pd ru ln TS GS r oth (L ++ M) o):=by
 have hTS:NX2 (.lst TS):=⟨by omega,hTn⟩
 have ta:pTuple (.lst TS)=some (.pure (.tup TS)):=rfl
 have tb:pTuple (.lst GS)=some (.pure (.tup GS)):=rfl
 refine ⟨[.tup [.tup TS,.lst GS],.tup [.lst TS,.tup GS],.lst [.lst TS,.lst GS]],rfl,fun d hm=>?_,asg7 ?_ (by simp; omega)⟩
 ·simp only [List.mem_cons,List.not_mem_nil,or_false] at hm
  rcases hm with rfl | rfl | rfl
  ·exact ⟨by simp,fun d hm=>by simp at hm; rcases hm with rfl | rfl <;> first | exact hG | exact hTS | trivial⟩
  ·exact ⟨by simp,fun d hm=>by simp at hm; rcases hm with rfl | rfl <;> first | exact hG | exact hTS | trivial⟩
  ·trivial
 ·simp [ooSt,eVar,bVar,ta,tb]
theorem oo2 (pd ru ln:D) (TS GS:List D) (r:Nat) (oth:D) (L:List D) (o:Option S) (hT:TS.length≤61) (hTn:∀ d ∈ TS,NX1 d) (hG:NX2 (.lst GS)) (hL:L.length≤100) :
  ∃ M:List D,M.length=2∧(∀ d ∈ M,NX3 d)∧((dAsg (eOpF pAdd 7 (bOf (eLst (aCons (eTup (aCons (eVar 3) aNil)) (aCons (eTup (aCons (eVar 3) (aCons (eVar 4) (aCons (eD (.int 0)) aNil)))) aNil))))) (gNm [0] 7)):DS) (ooSt pd ru ln TS GS r oth L o) = .ok .next (ooSt pd ru ln TS GS r oth (L ++ M) o):=by
 have hTS:NX2 (.lst TS):=⟨by omega,hTn⟩
 refine ⟨[.tup [.lst TS],.tup [.lst TS,.lst GS,.int 0]],rfl,fun d hm=>?_,asg7 ?_ (by simp; omega)⟩
 ·simp only [List.mem_cons,List.not_mem_nil,or_false] at hm
  rcases hm with rfl | rfl
  ·exact ⟨by simp,fun d hm=>by simp at hm; subst hm; exact hTS⟩
  ·exact ⟨by simp,fun d hm=>by simp at hm; rcases hm with rfl | rfl | rfl <;> first | exact hG | exact hTS | trivial⟩
 ·simp [ooSt,eVar,bVar]
theorem oo3 (pd ru ln:D) (TS GS:List D) (r:Nat) (oth:D) (L:List D) (o:Option S) (hT:TS.length≤61) (hTn:∀ d ∈ TS,NX1 d) (hG:NX2 (.lst GS)) (ho:NX1 oth) (hL:L.length≤100) :
  ∃ M:List D,M.length=3∧(∀ d ∈ M,NX3 d)∧((dAsg (eOpF pAdd 7 (bOf (eLst (aCons (eTup (aCons (eSlN 3 oNone (oSome (eC1 pNeg (bOf (eD (.int 1)))))) (aCons (eVar 4) aNil))) (aCons (eTup (aCons (eOpF pAdd 3 (bOf (eLst (aCons (eVar 6) aNil)))) (aCons (eVar 4) aNil))) (aCons (eTup (aCons (eVar 3) (aCons (eSlN 4 (oSome (eD (.int 1))) oNone) aNil))) aNil)))))) (gNm [0] 7)):DS) (ooSt pd ru ln TS GS r oth L o) = .ok .next (ooSt pd ru ln TS GS r oth (L ++ M) o):=by
 have hTS:NX2 (.lst TS):=⟨by omega,hTn⟩
 have sA:=sl_lst TS none (some (-1))
 have sB:=sl_lst GS (some 1) none
 have kA:=cutl TS none (some (-1))
 have kB:=cutl GS (some 1) none
 have g1:=add_lst TS [oth] (by simp; omega)
 refine ⟨[.tup [.lst (cutL TS none (some (-1))),.lst GS],.tup [.lst (TS ++ [oth]),.lst GS],.tup [.lst TS,.lst (cutL GS (some 1) none)]],rfl,fun d hm=>?_,asg7 ?_ (by simp; omega)⟩
 ·simp only [List.mem_cons,List.not_mem_nil,or_false] at hm
  rcases hm with rfl | rfl | rfl
  ·exact ⟨by simp,fun d hm=>by
    simp only [List.mem_cons,List.not_mem_nil,or_false] at hm
    rcases hm with rfl | rfl
    ·exact ⟨by omega,fun d hm=>hTn d (cutm hm)⟩
    ·exact hG⟩
  ·exact ⟨by simp,fun d hm=>by
    simp only [List.mem_cons,List.not_mem_nil,or_false] at hm
    rcases hm with rfl | rfl
    ·exact ⟨by simp; omega,fun d hm=>by
      rcases List.mem_append.mp hm with hm | hm
      ·exact hTn d hm
      ·simp at hm; subst hm; exact ho⟩
    ·exact hG⟩
  ·exact ⟨by simp,fun d hm=>by
    simp only [List.mem_cons,List.not_mem_nil,or_false] at hm
    rcases hm with rfl | rfl
    ·exact hTS
    ·exact ⟨by have:=hG.1; omega,fun d hm=>hG.2 d (cutm hm)⟩⟩
 ·generalize cutL TS none (some (-1))=cA at *
  generalize cutL GS (some 1) none=cB at *
  generalize hM:TS ++ [oth]=MM at *
  simp [ooSt,eVar,bVar,eSlN,oSome,oNone,neg_one,sA,sB,eOpF,eOpN,g1]
theorem oo4 (pd ru ln:D) (TS GS:List D) (r:Nat) (oth:D) (L:List D) (o:Option S) (hT:TS.length≤61) (hTn:∀ d ∈ TS,NX1 d) (hG:NX2 (.lst GS)) (hL:L.length≤100) :
  ∃ M:List D,M.length=2∧(∀ d ∈ M,NX3 d)∧((dAsg (eOpF pAdd 7 (bOf (eLst (aCons (eTup (aCons (eVar 4) (aCons (eVar 3) aNil))) (aCons (eD .non) aNil))))) (gNm [0] 7)):DS) (ooSt pd ru ln TS GS r oth L o) = .ok .next (ooSt pd ru ln TS GS r oth (L ++ M) o):=by
 have hTS:NX2 (.lst TS):=⟨by omega,hTn⟩
 refine ⟨[.tup [.lst GS,.lst TS],.non],rfl,fun d hm=>?_,asg7 ?_ (by simp; omega)⟩
 ·simp only [List.mem_cons,List.not_mem_nil,or_false] at hm
  rcases hm with rfl | rfl
  ·exact ⟨by simp,fun d hm=>by simp at hm; rcases hm with rfl | rfl <;> first | exact hG | exact hTS | trivial⟩
  ·trivial
 ·simp [ooSt,eVar,bVar]
open L2 DV
open PySem (sizeLine)
theorem oo5 (GO:DF) (pd pd' ru ln:D) (TS GS ods:List D) (go:GO [.own pd,.pure ru,.pure (.lst GS)]=some (.own (.lst ods),[.own pd',.pure ru,.pure (.lst GS)])) (r:Nat) (oth:D) (L:List D) (o:Option S) (hT:TS.length≤61) (hTn:∀ d ∈ TS,NX1 d) (hG:NX2 (.lst GS)) (hO:NX2 (.lst ods)) (hL:L.length≤100) :
  ∃ M:List D,M.length=11∧(∀ d ∈ M,NX3 d)∧((dAsg (eOp pAdd (eOpF pAdd 7 (bOf (eOp pMulL (eLst (aCons (eTup (aCons (eVar 3) (aCons (eCall GO [.io 0,.val (eVar 1),.val (eVar 4)]) aNil))) aNil)) (bOf (eD (.int 9)))))) (bOf (eLst (aCons (eTup (aCons (eD (.str [])) (aCons (eVar 4) aNil))) (aCons (eTup (aCons (eC1 pRevX (bVar 3)) (aCons (eVar 4) aNil))) aNil))))) (gNm [0] 7)):DS) (ooSt pd ru ln TS GS r oth L o) = .ok .next (ooSt pd' ru ln TS GS r oth (L ++ M) o):=by
 have hTS:NX2 (.lst TS):=⟨by omega,hTn⟩
 have rv:pRevX (.lst TS)=some (.own (.lst TS.reverse)):=rfl
 have mu:pMulL (.lst [.tup [.lst TS,.lst ods]]) (.int 9)=some (.own (.lst (List.replicate 9 (.tup [.lst TS,.lst ods])))):=rfl
 have g1:=add_lst L (List.replicate 9 (.tup [.lst TS,.lst ods])) (by simp; omega)
 have g2:=add_lst (L ++ List.replicate 9 (.tup [.lst TS,.lst ods])) [.tup [.str [],.lst GS],.tup [.lst TS.reverse,.lst GS]] (by simp; omega)
 refine ⟨List.replicate 9 (.tup [.lst TS,.lst ods]) ++ [.tup [.str [],.lst GS],.tup [.lst TS.reverse,.lst GS]],by simp,fun d hm=>?_,?_⟩
 ·rcases List.mem_append.mp hm with hm | hm
  ·rw [List.eq_of_mem_replicate hm]
   exact ⟨by simp,fun d hm=>by simp at hm; rcases hm with rfl | rfl <;> first | exact hTS | exact hO⟩
  ·simp only [List.mem_cons,List.not_mem_nil,or_false] at hm
   rcases hm with rfl | rfl
   ·exact ⟨by simp,fun d hm=>by simp at hm; rcases hm with rfl | rfl <;> first | exact hG | trivial⟩
   ·exact ⟨by simp,fun d hm=>by
     simp only [List.mem_cons,List.not_mem_nil,or_false] at hm
     rcases hm with rfl | rfl
     ·exact ⟨by simp; omega,fun d hm=>hTn d (List.mem_reverse.mp hm)⟩
     ·exact hG⟩
 ·rw [← List.append_assoc]
  generalize hA:L ++ List.replicate 9 (D.tup [.lst TS,.lst ods])=LA at *
  generalize List.replicate 9 (D.tup [.lst TS,.lst ods])=RR at *
  generalize hB:LA ++ [.tup [.str [],.lst GS],.tup [.lst TS.reverse,.lst GS]]=LB at *
  generalize TS.reverse=TR at *
  simp only [ooSt]
  simp [dAsg,eOpF,eOpN,eVar,bVar,eCall,ios,ndup,isOwn,evX,mkA,putA,go,mu,g1,rv,g2]
theorem oo_loop (pd ru ln:D) (TS GS:List D) (r:Nat) (oth:D) (hT:TS.length≤61) (hTn:∀ d ∈ TS,NX1 d) (hG:NX2 (.lst GS)) (ho:NX1 oth) :
  ∃ (L:List D) (o:Option S),L.length=8∧(∀ d ∈ L,NX3 d)∧((dFor (iSq (eLst (aCons (eVar 6) (aCons (eVar 6) (aCons (eD (.str [65])) (aCons (eD (.str [])) (aCons (eD (.str [97,98])) (aCons (eD .non) (aCons (eD (.int 0)) (aCons (eLst (aCons (eVar 6) aNil)) aNil)))))))))) (gNm [0] 8) (dAppend 7 (eTup (aCons (eOp pAdd (eOp pAdd (eSlN 3 oNone (oSome (eVar 5))) (bOf (eLst (aCons (eVar 8) aNil)))) (bOf (eSlN 3 (oSome (eOpF pAdd 5 (bOf (eD (.int 1))))) oNone))) (aCons (eVar 4) aNil))))):DS) (ooSt pd ru ln TS GS r oth [] none) = .ok .next (ooSt pd ru ln TS GS r oth L o):=by
 obtain ⟨δ',e,L,o,h1,h2,rfl⟩:=forL_inv (g:=gNm [0] 8) (b:=(dAppend 7 (eTup (aCons (eOp pAdd (eOp pAdd (eSlN 3 oNone (oSome (eVar 5))) (bOf (eLst (aCons (eVar 8) aNil)))) (bOf (eSlN 3 (oSome (eOpF pAdd 5 (bOf (eD (.int 1))))) oNone))) (aCons (eVar 4) aNil))))) (fun k δ=>∃ (L:List D) (o:Option S),L.length=k∧(∀ d ∈ L,NX3 d)∧δ=ooSt pd ru ln TS GS r oth L o) [oth,oth,.str [65],.str [],.str [97,98],.non,.int 0,.lst [oth]] 0 (ooSt pd ru ln TS GS r oth [] none) ⟨[],none,rfl,by simp,rfl⟩ (fun i d δ hdd ⟨L,o,h1,h2,e⟩=>by
  subst e
  have hi:i < 8:=(List.getElem?_eq_some_iff.mp hdd).1
  have hm:=List.mem_of_getElem? hdd
  have hx:NX1 d:=by
   simp only [List.mem_cons,List.not_mem_nil,or_false] at hm
   rcases hm with rfl | rfl | rfl | rfl | rfl | rfl | rfl | rfl <;> first | exact ho | trivial
  obtain ⟨y,hy,e⟩:=step_oo pd ru ln TS GS r oth L d hT hTn hG hx (by omega)
  refine ⟨_,_,rfl,e,L ++ [y],_,by simp; omega,fun d hm=>?_,rfl⟩
  rcases List.mem_append.mp hm with hm | hm
  ·exact h2 d hm
  ·simp at hm; subst hm; exact hy)
 refine ⟨L,o,by simpa using h1,h2,?_⟩
 have hs:(iSq (eLst (aCons (eVar 6) (aCons (eVar 6) (aCons (eD (.str [65])) (aCons (eD (.str [])) (aCons (eD (.str [97,98])) (aCons (eD .non) (aCons (eD (.int 0)) (aCons (eLst (aCons (eVar 6) aNil)) aNil)))))))))) (ooSt pd ru ln TS GS r oth [] none) = .ok [oth,oth,.str [65],.str [],.str [97,98],.non,.int 0,.lst [oth]] (ooSt pd ru ln TS GS r oth [] none):=by simp [ooSt,ev_sq,eVar]
 show ((iSq (eLst (aCons (eVar 6) (aCons (eVar 6) (aCons (eD (.str [65])) (aCons (eD (.str [])) (aCons (eD (.str [97,98])) (aCons (eD .non) (aCons (eD (.int 0)) (aCons (eLst (aCons (eVar 6) aNil)) aNil)))))))))) (ooSt pd ru ln TS GS r oth [] none)).bind _=_
 rw [hs]
 exact e
open L2 DV
open PySem (sizeLine)
theorem q_odd_of (GD GT GO:DF) (hd:DrawOk GD) {h w:Nat} {bs:List (Nat×List Tx)} (R:Rul h w bs) (ru:D) (x2:pIx ru (.int 2)=some (.pure (.tup (bs.map blD)))) (gt:GT [.pure ru]=some (.own (.lst ((bs.map (·.1)).map t1D)),[.pure ru])) {k:Nat} {ns:List Nat} {ps:List Pr} (hk:k≤60) (L:Ln h w bs k ns ps)
  (go:∀ pd,Pen pd→∃ (ds:List D) (pd':D),ds.length≤200∧(∀ d ∈ ds,NX1 d)∧Pen pd'∧GO [.own pd,.pure ru,.pure (.lst (ps.map prD))]=some (.own (.lst ds),[.own pd',.pure ru,.pure (.lst (ps.map prD))])) {pd:D} (hpd:Pen pd) :
  ∃ (x pd':D),NX3 x∧Pen pd'∧gOf [0] 9 (dSeq (dAsg (eVar 2) (gTp 2 (gsCons (gNm [0] 3) (gsCons (gNm [0] 4) gsNil)))) (dSeq (dAsg (eCall GD [.io 0,.val (eC1 pLen (bVar 3))]) (gNm [0] 5)) (dSeq (dAsg (eOp pIx (eCall GT [.val (eVar 1)]) (bOf (eCall GD [.io 0,.val (eC1 pLen (bOf (eOpF pIx 1 (bOf (eD (.int 2))))))]))) (gNm [0] 6)) (dSeq (dAsg (eLst aNil) (gNm [0] 7)) (dSeq (dFor (iSq (eLst (aCons (eVar 6) (aCons (eVar 6) (aCons (eD (.str [65])) (aCons (eD (.str [])) (aCons (eD (.str [97,98])) (aCons (eD .non) (aCons (eD (.int 0)) (aCons (eLst (aCons (eVar 6) aNil)) aNil)))))))))) (gNm [0] 8) (dAppend 7 (eTup (aCons (eOp pAdd (eOp pAdd (eSlN 3 oNone (oSome (eVar 5))) (bOf (eLst (aCons (eVar 8) aNil)))) (bOf (eSlN 3 (oSome (eOpF pAdd 5 (bOf (eD (.int 1))))) oNone))) (aCons (eVar 4) aNil))))) (dSeq (dAsg (eOpF pAdd 7 (bOf (eLst (aCons (eTup (aCons (eC1 pTuple (bVar 3)) (aCons (eVar 4) aNil))) (aCons (eTup (aCons (eVar 3) (aCons (eC1 pTuple (bVar 4)) aNil))) (aCons (eLst (aCons (eVar 3) (aCons (eVar 4) aNil))) aNil)))))) (gNm [0] 7)) (dSeq (dAsg (eOpF pAdd 7 (bOf (eLst (aCons (eTup (aCons (eVar 3) aNil)) (aCons (eTup (aCons (eVar 3) (aCons (eVar 4) (aCons (eD (.int 0)) aNil)))) aNil))))) (gNm [0] 7)) (dSeq (dAsg (eOpF pAdd 7 (bOf (eLst (aCons (eTup (aCons (eSlN 3 oNone (oSome (eC1 pNeg (bOf (eD (.int 1)))))) (aCons (eVar 4) aNil))) (aCons (eTup (aCons (eOpF pAdd 3 (bOf (eLst (aCons (eVar 6) aNil)))) (aCons (eVar 4) aNil))) (aCons (eTup (aCons (eVar 3) (aCons (eSlN 4 (oSome (eD (.int 1))) oNone) aNil))) aNil)))))) (gNm [0] 7)) (dSeq (dAsg (eOpF pAdd 7 (bOf (eLst (aCons (eTup (aCons (eVar 4) (aCons (eVar 3) aNil))) (aCons (eD .non) aNil))))) (gNm [0] 7)) (dSeq (dAsg (eOp pAdd (eOpF pAdd 7 (bOf (eOp pMulL (eLst (aCons (eTup (aCons (eVar 3) (aCons (eCall GO [.io 0,.val (eVar 1),.val (eVar 4)]) aNil))) aNil)) (bOf (eD (.int 9)))))) (bOf (eLst (aCons (eTup (aCons (eD (.str [])) (aCons (eVar 4) aNil))) (aCons (eTup (aCons (eC1 pRevX (bVar 3)) (aCons (eVar 4) aNil))) aNil))))) (gNm [0] 7)) (dRet (eOp pIx (eOpF pAdd 7 (bOf (eLst (aCons (eD (.tup [.tup [],.tup []])) (aCons (eTup (aCons (eLst aNil) (aCons (eLst aNil) aNil))) (aCons (eD (.int 7)) (aCons eDict0 aNil))))))) (bOf (eCall GD [.io 0,.val (eOp pAdd (eC1 pLen (bVar 7)) (bOf (eD (.int 4))))])))))))))))))) [.own pd,.pure ru,.pure (.tup [.lst (ns.map t1D),.lst (ps.map prD)])]=some (.pure x,[.own pd',.pure ru,.pure (.tup [.lst (ns.map t1D),.lst (ps.map prD)])]):=by
 have l1:=L.l1
 have l2:=L.l2
 have n0:=R.n0
 have n1:=R.n1
 have hT:(ns.map t1D).length≤61:=by rw [List.length_map]; omega
 have hTn:∀ d ∈ ns.map t1D,NX1 d:=fun d hm=>by
  obtain ⟨n,_,rfl⟩:=List.mem_map.mp hm
  trivial
 have hG:NX2 (.lst (ps.map prD)):=⟨by rw [List.length_map]; omega,fun d hm=>by
  obtain ⟨p,_,rfl⟩:=List.mem_map.mp hm
  exact ⟨by simp,fun d hm=>by simp at hm; rcases hm with rfl | rfl <;> trivial⟩⟩
 have lenT:pLen (.lst (ns.map t1D))=some (.pure (.int ns.length)):=by simp [pLen]
 obtain ⟨r,pd1,e1,h1,p1⟩:=hd pd ns.length hpd (by omega) (by omega)
 obtain ⟨s,pd2,e2,h2,p2⟩:=hd pd1 bs.length p1 n0 (by omega)
 obtain ⟨a,ha⟩:∃ a,(bs.map (·.1))[s]? = some a:=⟨(bs.map (·.1))[s]'(by simpa using h2),List.getElem?_eq_getElem _⟩
 have y0:=ix_t1 (bs.map (·.1)) s a ha
 have lb:pLen (.tup (bs.map blD))=some (.pure (.int bs.length)):=by simp [pLen]
 generalize hTS:ns.map t1D=TS at *
 generalize hGS:ps.map prD=GS at *
 have ho:NX1 (t1D a):=trivial
 obtain ⟨ods,pd3,ho1,ho2,p3,eo⟩:=go pd2 p2
 have hO:NX2 (.lst ods):=⟨by omega,ho2⟩
 obtain ⟨r3,pd4,e4,h4,p4⟩:=hd pd3 33 p3 (by omega) (by omega)
 have e4':GD [.own pd3,.pure (.int 33)]=some (.pure (.int r3),[.own pd4,.pure (.int 33)]):=e4
 obtain ⟨L0,o,c0,m0,E0⟩:=oo_loop pd2 ru (.tup [.lst TS,.lst GS]) TS GS r (t1D a) hT hTn hG ho
 obtain ⟨M1,c1,m1,E1⟩:=oo1 pd2 ru (.tup [.lst TS,.lst GS]) TS GS r (t1D a) L0 o hT hTn hG (by omega)
 obtain ⟨M2,c2,m2,E2⟩:=oo2 pd2 ru (.tup [.lst TS,.lst GS]) TS GS r (t1D a) (L0 ++ M1) o hT hTn hG (by simp; omega)
 obtain ⟨M3,c3,m3,E3⟩:=oo3 pd2 ru (.tup [.lst TS,.lst GS]) TS GS r (t1D a) (L0 ++ M1 ++ M2) o hT hTn hG ho (by simp; omega)
 obtain ⟨M4,c4,m4,E4⟩:=oo4 pd2 ru (.tup [.lst TS,.lst GS]) TS GS r (t1D a) (L0 ++ M1 ++ M2 ++ M3) o hT hTn hG (by simp; omega)
 obtain ⟨M5,c5,m5,E5⟩:=oo5 GO pd2 pd3 ru (.tup [.lst TS,.lst GS]) TS GS ods eo r (t1D a) (L0 ++ M1 ++ M2 ++ M3 ++ M4) o hT hTn hG hO (by simp; omega)
 have mL:∀ d ∈ L0 ++ M1 ++ M2 ++ M3 ++ M4 ++ M5,NX3 d:=fun d hm=>by
  simp only [List.mem_append] at hm
  rcases hm with ((((hm | hm) | hm) | hm) | hm) | hm
  ·exact m0 d hm
  ·exact m1 d hm
  ·exact m2 d hm
  ·exact m3 d hm
  ·exact m4 d hm
  ·exact m5 d hm
 have cL:(L0 ++ M1 ++ M2 ++ M3 ++ M4 ++ M5).length=29:=by simp; omega
 have g9:=add_lst (L0 ++ M1 ++ M2 ++ M3 ++ M4 ++ M5) [.tup [.tup [],.tup []],.tup [.lst [],.lst []],.int 7,.dct []] (by rw [cL]; simp)
 have l9:pLen (.lst (L0 ++ M1 ++ M2 ++ M3 ++ M4 ++ M5))=some (.pure (.int 29)):=by rw [show pLen (.lst (L0 ++ M1 ++ M2 ++ M3 ++ M4 ++ M5))=some (.pure (.int ((L0 ++ M1 ++ M2 ++ M3 ++ M4 ++ M5).length))) from rfl,cL]; rfl
 have a9:pAdd (.int 29) (.int 4)=some (.pure (.int 33)):=rfl
 obtain ⟨x,hx,yx⟩:=ix_any (L0 ++ M1 ++ M2 ++ M3 ++ M4 ++ M5 ++ [.tup [.tup [],.tup []],.tup [.lst [],.lst []],.int 7,.dct []]) r3 (by rw [List.length_append,cL]; simpa using h4)
 have nx:NX3 x:=by
  rcases List.mem_append.mp hx with hx | hx
  ·exact mL x hx
  ·simp only [List.mem_cons,List.not_mem_nil,or_false] at hx
   rcases hx with rfl | rfl | rfl | rfl
   ·exact ⟨by simp,fun d hm=>by simp at hm; subst hm; trivial⟩
   ·exact ⟨by simp,fun d hm=>by simp at hm; subst hm; exact ⟨by simp,fun d hm=>by simp at hm⟩⟩
   ·trivial
   ·trivial
 refine ⟨x,pd4,nx,p4,?_⟩
 clear mL nx hx m0 m1 m2 m3 m4 m5 hTn hG hO
 generalize hLL:L0 ++ M1 ++ M2 ++ M3 ++ M4 ++ M5=LL at *
 generalize hL4:L0 ++ M1 ++ M2 ++ M3 ++ M4=L4 at *
 generalize hL3:L0 ++ M1 ++ M2 ++ M3=L3 at *
 generalize hL2:L0 ++ M1 ++ M2=L2' at *
 generalize hL1:L0 ++ M1=L1' at *
 have K:(dSeq (dAsg (eVar 2) (gTp 2 (gsCons (gNm [0] 3) (gsCons (gNm [0] 4) gsNil)))) (dSeq (dAsg (eCall GD [.io 0,.val (eC1 pLen (bVar 3))]) (gNm [0] 5)) (dSeq (dAsg (eOp pIx (eCall GT [.val (eVar 1)]) (bOf (eCall GD [.io 0,.val (eC1 pLen (bOf (eOpF pIx 1 (bOf (eD (.int 2))))))]))) (gNm [0] 6)) (dSeq (dAsg (eLst aNil) (gNm [0] 7)) (dSeq (dFor (iSq (eLst (aCons (eVar 6) (aCons (eVar 6) (aCons (eD (.str [65])) (aCons (eD (.str [])) (aCons (eD (.str [97,98])) (aCons (eD .non) (aCons (eD (.int 0)) (aCons (eLst (aCons (eVar 6) aNil)) aNil)))))))))) (gNm [0] 8) (dAppend 7 (eTup (aCons (eOp pAdd (eOp pAdd (eSlN 3 oNone (oSome (eVar 5))) (bOf (eLst (aCons (eVar 8) aNil)))) (bOf (eSlN 3 (oSome (eOpF pAdd 5 (bOf (eD (.int 1))))) oNone))) (aCons (eVar 4) aNil))))) (dSeq (dAsg (eOpF pAdd 7 (bOf (eLst (aCons (eTup (aCons (eC1 pTuple (bVar 3)) (aCons (eVar 4) aNil))) (aCons (eTup (aCons (eVar 3) (aCons (eC1 pTuple (bVar 4)) aNil))) (aCons (eLst (aCons (eVar 3) (aCons (eVar 4) aNil))) aNil)))))) (gNm [0] 7)) (dSeq (dAsg (eOpF pAdd 7 (bOf (eLst (aCons (eTup (aCons (eVar 3) aNil)) (aCons (eTup (aCons (eVar 3) (aCons (eVar 4) (aCons (eD (.int 0)) aNil)))) aNil))))) (gNm [0] 7)) (dSeq (dAsg (eOpF pAdd 7 (bOf (eLst (aCons (eTup (aCons (eSlN 3 oNone (oSome (eC1 pNeg (bOf (eD (.int 1)))))) (aCons (eVar 4) aNil))) (aCons (eTup (aCons (eOpF pAdd 3 (bOf (eLst (aCons (eVar 6) aNil)))) (aCons (eVar 4) aNil))) (aCons (eTup (aCons (eVar 3) (aCons (eSlN 4 (oSome (eD (.int 1))) oNone) aNil))) aNil)))))) (gNm [0] 7)) (dSeq (dAsg (eOpF pAdd 7 (bOf (eLst (aCons (eTup (aCons (eVar 4) (aCons (eVar 3) aNil))) (aCons (eD .non) aNil))))) (gNm [0] 7)) (dSeq (dAsg (eOp pAdd (eOpF pAdd 7 (bOf (eOp pMulL (eLst (aCons (eTup (aCons (eVar 3) (aCons (eCall GO [.io 0,.val (eVar 1),.val (eVar 4)]) aNil))) aNil)) (bOf (eD (.int 9)))))) (bOf (eLst (aCons (eTup (aCons (eD (.str [])) (aCons (eVar 4) aNil))) (aCons (eTup (aCons (eC1 pRevX (bVar 3)) (aCons (eVar 4) aNil))) aNil))))) (gNm [0] 7)) (dRet (eOp pIx (eOpF pAdd 7 (bOf (eLst (aCons (eD (.tup [.tup [],.tup []])) (aCons (eTup (aCons (eLst aNil) (aCons (eLst aNil) aNil))) (aCons (eD (.int 7)) (aCons eDict0 aNil))))))) (bOf (eCall GD [.io 0,.val (eOp pAdd (eC1 pLen (bVar 7)) (bOf (eD (.int 4))))])))))))))))))) (startD 9 [.own pd,.pure ru,.pure (.tup [.lst TS,.lst GS])]) = .ok (.ret (.pure x)) (ooSt pd4 ru (.tup [.lst TS,.lst GS]) TS GS r (t1D a) LL o):=by
  refine dSeq_step (δ1:=[some (.own pd),some (.pure ru),some (.pure (.tup [.lst TS,.lst GS])),some (.pure (.lst TS)),some (.pure (.lst GS)),none,none,none,none]) ?_ ?_
  ·simp [startD,dAsg,eVar,gTp,gsCons,gsNil]
  refine dSeq_step (δ1:=[some (.own pd1),some (.pure ru),some (.pure (.tup [.lst TS,.lst GS])),some (.pure (.lst TS)),some (.pure (.lst GS)),some (.pure (.int r)),none,none,none]) ?_ ?_
  ·simp [dAsg,eCall,ios,ndup,isOwn,evX,mkA,putA,bVar,lenT,e1]
  refine dSeq_step (δ1:=[some (.own pd2),some (.pure ru),some (.pure (.tup [.lst TS,.lst GS])),some (.pure (.lst TS)),some (.pure (.lst GS)),some (.pure (.int r)),some (.pure (t1D a)),none,none]) ?_ ?_
  ·generalize D.lst ((bs.map (·.1)).map t1D)=TL at *
   generalize D.tup (bs.map blD)=BL at *
   simp [dAsg,eCall,ios,ndup,isOwn,evX,mkA,putA,eVar,bVar,gt,eOpF,eOpN,x2,lb,e2,y0]
  refine dSeq_step (δ1:=ooSt pd2 ru (.tup [.lst TS,.lst GS]) TS GS r (t1D a) [] none) ?_ ?_
  ·simp [dAsg,ooSt]
  refine dSeq_step E0 ?_
  refine dSeq_step E1 ?_
  refine dSeq_step E2 ?_
  refine dSeq_step E3 ?_
  refine dSeq_step E4 ?_
  refine dSeq_step E5 ?_
  simp [ooSt,eDict0,eOpF,eOpN,bVar,g9,eCall,ios,ndup,isOwn,evX,mkA,putA,l9,a9,e4',yx]
 rw [gOf_def,K]
 simp [ioOk,ooSt,resOf,outsOf]
theorem r_odd_of {h w:Nat} {bs:List (Nat×List Tx)} (R:Rul h w bs) {k:Nat} {ns:List Nat} {ps:List Pr} (hk:k≤60) (L:Ln h w bs k ns ps) {pd:D} (hpd:Pen pd) :
  ∃ (x pd':D),NX3 x∧Pen pd'∧G__law_odd_of [.own pd,.pure (ruD h w bs),.pure (.tup [.lst (ns.map t1D),.lst (ps.map prD)])]=some (.pure x,[.own pd',.pure (ruD h w bs),.pure (.tup [.lst (ns.map t1D),.lst (ps.map prD)])]):=by
 obtain ⟨x0,x1,x2⟩:=ru_ix h w bs
 rw [G__law_odd_of,b__law_odd_of]
 exact q_odd_of G__law_draw G__law_tiles_of G__law_odd_digits draw_ok R (ruD h w bs) x2 (r_tiles_of R) hk L (fun pd hp=>r_odd_digits ps (by rw [L.l2]; omega) hp) hpd
open L2 DV
open PySem (sizeLine)
theorem cutL_map {α β:Type} (f:α→β) (xs:List α) (lo hi:Option Int):cutL (xs.map f) lo hi=(cutL xs lo hi).map f:=by
 unfold cutL
 simp [List.map_drop,List.map_take]
abbrev lwSt (scr:D) (o1:Option S) (pd ru ln:D) (o5 o6:Option S):Dl:=[some (.pure scr),o1,some (.own pd),some (.pure ru),some (.pure ln),o5,o6]
theorem lw1 (GR GO:DF) (scr:D) (o1:Option S) (ru ln:D) (o6:Option S)
  (go:∀ pd,Pen pd→∃ (x pd':D),NX3 x∧Pen pd'∧GO [.own pd,.pure ru,.pure ln]=some (.pure x,[.own pd',.pure ru,.pure ln]))
  (gr:∀ x,NX3 x→GR [.pure ru,.pure x]=some (.pure (.bl true),[.pure ru,.pure x])) {pd:D} (hpd:Pen pd) (o5:Option S) :
  ∃ (pd':D) (o5':Option S),Pen pd'∧(dFor (iRange1 (eD (.int 5))) (gNm [] 5) (dIf (dNot (dTr (eCall GR [.val (eVar 3),.val (eCall GO [.io 2,.val (eVar 3),.val (eVar 4)])]))) (dRet (eD (.bl false))) dNext)) (lwSt scr o1 pd ru ln o5 o6) = .ok .next (lwSt scr o1 pd' ru ln o5' o6):=by
 obtain ⟨δ',e,pd',o5',hp,rfl⟩:=forL_inv (g:=gNm [] 5) (b:=(dIf (dNot (dTr (eCall GR [.val (eVar 3),.val (eCall GO [.io 2,.val (eVar 3),.val (eVar 4)])]))) (dRet (eD (.bl false))) dNext)) (fun _ δ=>∃ (pd:D) (o5:Option S),Pen pd∧δ=lwSt scr o1 pd ru ln o5 o6) (rangeD 0 5) 0 (lwSt scr o1 pd ru ln o5 o6) ⟨pd,o5,hpd,rfl⟩ (fun i d δ hdd ⟨pd,o5,hpd,e⟩=>by
  subst e
  obtain ⟨x,pd',hx,hp',e1⟩:=go pd hpd
  have e2:=gr x hx
  refine ⟨lwSt scr o1 pd ru ln (some (.pure d)) o6,lwSt scr o1 pd' ru ln (some (.pure d)) o6,rfl,?_,pd',_,hp',rfl⟩
  simp [lwSt,dTr,eCall,ios,ndup,isOwn,evX,mkA,putA,eVar,e1,e2])
 refine ⟨pd',o5',hp,?_⟩
 have hr:=rng_ok 5 (by omega)
 have hr':(iRange1 (eD (.int 5)):DI) (lwSt scr o1 pd ru ln o5 o6) = .ok (rangeD 0 5) (lwSt scr o1 pd ru ln o5 o6):=by simpa using hr _
 rw [ev_dFor,hr']
 exact e
theorem far_of {h w:Nat} {d:D} (hd:dgs h w d=false):far h w d=false:=by
 cases d <;> first | rfl | skip
 rename_i ds
 show (ds.all (dg h w) && _)=false
 rw [show ds.all (dg h w)=false from hd]
 rfl
theorem step_lw2 (GD GX:DF) {h w:Nat} (scr:D) (o1:Option S) (ru ln pd:D) (o5:Option S) (d:D) (hd:NX2 d)
  (gd:GD [.pure ru,.pure d]=some (.pure (.bl (dgs h w d)),[.pure ru,.pure d]))
  (gx:far h w d=false→GX [.pure ru,.pure d]=some (.pure (.bl true),[.pure ru,.pure d])) :
  (dIf (dOr (dNot (dTr (eCall GD [.val (eVar 3),.val (eVar 6)]))) (dTr (eOp pGt (eC1 pLen (bVar 6)) (bOf (eD (.int 60)))))) (dIf (dNot (dTr (eCall GX [.val (eVar 3),.val (eVar 6)]))) (dRet (eD (.bl false))) dNext) dNext) (lwSt scr o1 pd ru ln o5 (some (.pure d))) = .ok .next (lwSt scr o1 pd ru ln o5 (some (.pure d))):=by
 cases a:dgs h w d with
 | false =>
  have e1:=gx (far_of a)
  rw [a] at gd
  simp [lwSt,dTr,eCall,ios,ndup,isOwn,evX,mkA,putA,eVar,gd,e1]
 | true =>
  rw [a] at gd
  cases d <;> first | (simp [dgs] at a; done) | skip
  rename_i ds
  have l1:pLen (.lst ds)=some (.pure (.int ds.length)):=by simp [pLen]
  have g1:=gt_int ds.length 60
  by_cases hl:ds.length≤60
  ·rw [decide_eq_false (by omega)] at g1
   generalize D.lst ds=dd at *
   generalize D.int (ds.length:Int)=i1 at *
   simp [lwSt,dTr,eCall,ios,ndup,isOwn,evX,mkA,putA,eVar,bVar,gd,l1,g1]
  ·rw [decide_eq_true (by omega)] at g1
   have e1:=gx (by
    show (ds.all (dg h w) && decide (ds.length≤60))=false
    rw [decide_eq_false hl]; simp)
   generalize D.lst ds=dd at *
   generalize D.int (ds.length:Int)=i1 at *
   simp [lwSt,dTr,eCall,ios,ndup,isOwn,evX,mkA,putA,eVar,bVar,gd,l1,g1,e1]
theorem lw2 (GD GX GK:DF) {h w:Nat} (scr:D) (o1:Option S) (ru TS:D) (GS:List D) (hG:GS.length≤60)
  (gk:∀ pd,Pen pd→∃ (ds:List D) (pd':D),ds.length≤200∧(∀ d ∈ ds,NX1 d)∧Pen pd'∧GK [.own pd,.pure ru,.pure (.lst GS)]=some (.own (.lst ds),[.own pd',.pure ru,.pure (.lst GS)]))
  (gd:∀ d,NX2 d→GD [.pure ru,.pure d]=some (.pure (.bl (dgs h w d)),[.pure ru,.pure d]))
  (gx:∀ d,NX2 d→far h w d=false→GX [.pure ru,.pure d]=some (.pure (.bl true),[.pure ru,.pure d])) {pd:D} (hpd:Pen pd) (o5 o6:Option S) :
  ∃ (pd':D) (o6':Option S),Pen pd'∧(dFor (iSq (eLst (aCons (eCall GK [.io 2,.val (eVar 3),.val (eOpF pIx 4 (bOf (eD (.int 1))))]) (aCons (eC1 pTuple (bOf (eOpF pIx 4 (bOf (eD (.int 1)))))) (aCons (eD .non) (aCons (eOp pMulL (eLstC [.tup [.int 0,.int 0]]) (bOf (eD (.int 61)))) (aCons (eD (.str [])) (aCons eDict0 (aCons (eD (.int 0)) aNil))))))))) (gNm [] 6) (dIf (dOr (dNot (dTr (eCall GD [.val (eVar 3),.val (eVar 6)]))) (dTr (eOp pGt (eC1 pLen (bVar 6)) (bOf (eD (.int 60)))))) (dIf (dNot (dTr (eCall GX [.val (eVar 3),.val (eVar 6)]))) (dRet (eD (.bl false))) dNext) dNext)) (lwSt scr o1 pd ru (.tup [TS,.lst GS]) o5 o6) = .ok .next (lwSt scr o1 pd' ru (.tup [TS,.lst GS]) o5 o6'):=by
 obtain ⟨ods,pd',h1,h2,hp',e1⟩:=gk pd hpd
 obtain ⟨δ',e,o6',rfl⟩:=forL_inv (g:=gNm [] 6) (b:=(dIf (dOr (dNot (dTr (eCall GD [.val (eVar 3),.val (eVar 6)]))) (dTr (eOp pGt (eC1 pLen (bVar 6)) (bOf (eD (.int 60)))))) (dIf (dNot (dTr (eCall GX [.val (eVar 3),.val (eVar 6)]))) (dRet (eD (.bl false))) dNext) dNext)) (fun _ δ=>∃ (o6:Option S),δ=lwSt scr o1 pd' ru (.tup [TS,.lst GS]) o5 o6) [.lst ods,.tup GS,.non,.lst (List.replicate 61 (.tup [.int 0,.int 0])),.str [],.dct [],.int 0] 0 (lwSt scr o1 pd' ru (.tup [TS,.lst GS]) o5 o6) ⟨o6,rfl⟩ (fun i d δ hdd ⟨o6,e⟩=>by
  subst e
  have hm:=List.mem_of_getElem? hdd
  have hd:NX2 d:=by
   simp only [List.mem_cons,List.not_mem_nil,or_false] at hm
   rcases hm with rfl | rfl | rfl | rfl | rfl | rfl | rfl <;> first
    | trivial
    | exact ⟨by omega,h2⟩
    | exact ⟨by simp,fun d hm=>by
      rw [List.eq_of_mem_replicate hm]
      exact ⟨by simp,fun d hm=>by simp at hm; subst hm; trivial⟩⟩
  exact ⟨_,_,rfl,step_lw2 GD GX scr o1 ru (.tup [TS,.lst GS]) pd' o5 d hd (gd d hd) (gx d hd),_,rfl⟩)
 refine ⟨pd',o6',hp',?_⟩
 have i1:=ix21 TS (.lst GS)
 have mu:pMulL (.lst [.tup [.int 0,.int 0]]) (.int 61)=some (.own (.lst (List.replicate 61 (.tup [.int 0,.int 0])))):=rfl
 have tu:pTuple (.lst GS)=some (.pure (.tup GS)):=rfl
 have hs:(iSq (eLst (aCons (eCall GK [.io 2,.val (eVar 3),.val (eOpF pIx 4 (bOf (eD (.int 1))))]) (aCons (eC1 pTuple (bOf (eOpF pIx 4 (bOf (eD (.int 1)))))) (aCons (eD .non) (aCons (eOp pMulL (eLstC [.tup [.int 0,.int 0]]) (bOf (eD (.int 61)))) (aCons (eD (.str [])) (aCons eDict0 (aCons (eD (.int 0)) aNil))))))))) (lwSt scr o1 pd ru (.tup [TS,.lst GS]) o5 o6) = .ok [.lst ods,.tup GS,.non,.lst (List.replicate 61 (.tup [.int 0,.int 0])),.str [],.dct [],.int 0] (lwSt scr o1 pd' ru (.tup [TS,.lst GS]) o5 o6):=by
  generalize List.replicate 61 (D.tup [.int 0,.int 0])=RR at *
  generalize hLL:D.tup [TS,.lst GS]=LL at *
  simp [lwSt,ev_sq,eDict0,eCall,ios,ndup,isOwn,evX,mkA,putA,eVar,bVar,eOpF,eOpN,i1,e1,tu,mu]
 rw [ev_dFor,hs]
 exact e
theorem q_law (GC GP GB GL GH GR GO GK GD GX:DF) (gp:∀ c:Int,∃ d,GP [.pure (.int c)]=some (.own d,[.pure (.int c)])∧Pen d)
  (gb:∀ d,Pen d→∃ (h w:Nat) (bs:List (Nat×List Tx)) (d':D),GB [.own d,.pure (.int 6)]=some (.pure (ruD h w bs),[.own d',.pure (.int 6)])∧Rul h w bs∧Pen d')
  (gl:∀ h w bs d,Rul h w bs→Pen d→∃ (k:Nat) (ns:List Nat) (ps:List Pr) (pd':D),k≤60∧Ln h w bs k ns ps∧Pen pd'∧GL [.own d,.pure (ruD h w bs)]=some (.pure (.tup [.lst (ns.map t1D),.lst (ps.map prD)]),[.own pd',.pure (ruD h w bs)]))
  (gh:∀ h w bs d,Rul h w bs→NX3 d→GH [.pure (ruD h w bs),.pure d]=some (.pure (.bl (lh h w bs d)),[.pure (ruD h w bs),.pure d]))
  (gr:∀ h w bs d,Rul h w bs→NX3 d→GR [.pure (ruD h w bs),.pure d]=some (.pure (.bl true),[.pure (ruD h w bs),.pure d]))
  (go:∀ h w bs k ns ps d,Rul h w bs→k≤60→Ln h w bs k ns ps→Pen d→∃ (x pd':D),NX3 x∧Pen pd'∧GO [.own d,.pure (ruD h w bs),.pure (.tup [.lst (ns.map t1D),.lst (ps.map prD)])]=some (.pure x,[.own pd',.pure (ruD h w bs),.pure (.tup [.lst (ns.map t1D),.lst (ps.map prD)])]))
  (gk:∀ h w bs (ps:List Pr) pd,ps.length≤60→Pen pd→∃ (ds:List D) (pd':D),ds.length≤200∧(∀ d ∈ ds,NX1 d)∧Pen pd'∧GK [.own pd,.pure (ruD h w bs),.pure (.lst (ps.map prD))]=some (.own (.lst ds),[.own pd',.pure (ruD h w bs),.pure (.lst (ps.map prD))]))
  (gd:∀ h w bs d,NX2 d→GD [.pure (ruD h w bs),.pure d]=some (.pure (.bl (dgs h w d)),[.pure (ruD h w bs),.pure d]))
  (gx:∀ h w bs d,NX2 d→far h w d=false→GX [.pure (ruD h w bs),.pure d]=some (.pure (.bl true),[.pure (ruD h w bs),.pure d]))
  (ns:List Int) (hn:ns.length≤63) (gc:∃ c:Int,GC [.pure (.lst (ns.map .int)),.pure (.int 0)]=some (.pure (.int c),[.pure (.lst (ns.map .int)),.pure (.int 0)])) :
  gOf [] 7 (dSeq (dFor (iSq (eOp pAdd (eLst (aCons (eCall GC [.val (eVar 0),.val (eD (.int 0))]) aNil)) (bOf (eSlN 0 (oSome (eD (.int 1))) (oSome (eD (.int 6))))))) (gNm [] 1) (dSeq (dAsg (eCall GP [.val (eVar 1)]) (gNm [] 2)) (dSeq (dAsg (eCall GB [.io 2,.val (eD (.int 6))]) (gNm [] 3)) (dSeq (dAsg (eCall GL [.io 2,.val (eVar 3)]) (gNm [] 4)) (dSeq (dIf (dTr (eOp (pIsB true) (eCall GH [.val (eVar 3),.val (eVar 4)]) (bOf (eD (.bl true))))) (dRet (eD (.bl false))) dNext) (dSeq (dFor (iRange1 (eD (.int 5))) (gNm [] 5) (dIf (dNot (dTr (eCall GR [.val (eVar 3),.val (eCall GO [.io 2,.val (eVar 3),.val (eVar 4)])]))) (dRet (eD (.bl false))) dNext)) (dFor (iSq (eLst (aCons (eCall GK [.io 2,.val (eVar 3),.val (eOpF pIx 4 (bOf (eD (.int 1))))]) (aCons (eC1 pTuple (bOf (eOpF pIx 4 (bOf (eD (.int 1)))))) (aCons (eD .non) (aCons (eOp pMulL (eLstC [.tup [.int 0,.int 0]]) (bOf (eD (.int 61)))) (aCons (eD (.str [])) (aCons eDict0 (aCons (eD (.int 0)) aNil))))))))) (gNm [] 6) (dIf (dOr (dNot (dTr (eCall GD [.val (eVar 3),.val (eVar 6)]))) (dTr (eOp pGt (eC1 pLen (bVar 6)) (bOf (eD (.int 60)))))) (dIf (dNot (dTr (eCall GX [.val (eVar 3),.val (eVar 6)]))) (dRet (eD (.bl false))) dNext) dNext)))))))) (dRet (eD (.bl true)))) [.pure (.lst (ns.map .int))]=some (.pure (.bl true),[.pure (.lst (ns.map .int))]):=by
 obtain ⟨c0,e0⟩:=gc
 have hcut:cutL (ns.map D.int) (some 1) (some 6)=(cutL ns (some 1) (some 6)).map .int:=cutL_map _ _ _ _
 have hsl:=sl_lst (ns.map D.int) (some 1) (some 6)
 rw [hcut] at hsl
 have hle:=cutl ns (some 1) (some 6)
 have ha:=add_lst [.int c0] ((cutL ns (some 1) (some 6)).map .int) (by simp; omega)
 generalize hscr:D.lst (ns.map .int)=scr at *
 have hcells:∀ d ∈ [D.int c0] ++ (cutL ns (some 1) (some 6)).map .int,∃ c:Int,d = .int c:=fun d hm=>by
  rcases List.mem_append.mp hm with hm | hm
  ·simp at hm; exact ⟨_,hm⟩
  ·obtain ⟨c,_,rfl⟩:=List.mem_map.mp hm
   exact ⟨_,rfl⟩
 generalize [D.int c0] ++ (cutL ns (some 1) (some 6)).map .int=CS at *
 obtain ⟨δ',e,o1,o2,o3,o4,o5,o6,rfl⟩:=forL_inv (g:=gNm [] 1) (b:=(dSeq (dAsg (eCall GP [.val (eVar 1)]) (gNm [] 2)) (dSeq (dAsg (eCall GB [.io 2,.val (eD (.int 6))]) (gNm [] 3)) (dSeq (dAsg (eCall GL [.io 2,.val (eVar 3)]) (gNm [] 4)) (dSeq (dIf (dTr (eOp (pIsB true) (eCall GH [.val (eVar 3),.val (eVar 4)]) (bOf (eD (.bl true))))) (dRet (eD (.bl false))) dNext) (dSeq (dFor (iRange1 (eD (.int 5))) (gNm [] 5) (dIf (dNot (dTr (eCall GR [.val (eVar 3),.val (eCall GO [.io 2,.val (eVar 3),.val (eVar 4)])]))) (dRet (eD (.bl false))) dNext)) (dFor (iSq (eLst (aCons (eCall GK [.io 2,.val (eVar 3),.val (eOpF pIx 4 (bOf (eD (.int 1))))]) (aCons (eC1 pTuple (bOf (eOpF pIx 4 (bOf (eD (.int 1)))))) (aCons (eD .non) (aCons (eOp pMulL (eLstC [.tup [.int 0,.int 0]]) (bOf (eD (.int 61)))) (aCons (eD (.str [])) (aCons eDict0 (aCons (eD (.int 0)) aNil))))))))) (gNm [] 6) (dIf (dOr (dNot (dTr (eCall GD [.val (eVar 3),.val (eVar 6)]))) (dTr (eOp pGt (eC1 pLen (bVar 6)) (bOf (eD (.int 60)))))) (dIf (dNot (dTr (eCall GX [.val (eVar 3),.val (eVar 6)]))) (dRet (eD (.bl false))) dNext) dNext)))))))) (fun _ δ=>∃ (o1 o2 o3 o4 o5 o6:Option S),δ=[some (.pure scr),o1,o2,o3,o4,o5,o6]) CS 0 [some (.pure scr),none,none,none,none,none,none] ⟨_,_,_,_,_,_,rfl⟩ (fun i d δ hdd ⟨o1,o2,o3,o4,o5,o6,e⟩=>by
  subst e
  obtain ⟨c,rfl⟩:=hcells d (List.mem_of_getElem? hdd)
  obtain ⟨pd1,e1,p1⟩:=gp c
  obtain ⟨h,w,bs,pd2,e2,R,p2⟩:=gb pd1 p1
  obtain ⟨k,ns',ps,pd3,hk,L,p3,e3⟩:=gl h w bs pd2 R p2
  have nx:NX3 (.tup [.lst (ns'.map t1D),.lst (ps.map prD)]):=by
   have l1:=L.l1
   have l2:=L.l2
   refine ⟨by simp,fun d hm=>?_⟩
   simp only [List.mem_cons,List.not_mem_nil,or_false] at hm
   rcases hm with rfl | rfl
   ·exact ⟨by rw [List.length_map]; omega,fun d hm=>by
     obtain ⟨n,_,rfl⟩:=List.mem_map.mp hm
     trivial⟩
   ·exact ⟨by rw [List.length_map]; omega,fun d hm=>by
     obtain ⟨p,_,rfl⟩:=List.mem_map.mp hm
     exact ⟨by simp,fun d hm=>by simp at hm; rcases hm with rfl | rfl <;> trivial⟩⟩
  have e4:=gh h w bs _ R nx
  rw [L.lh] at e4
  have isb:pIsB true (.bl true) (.bl true)=some (.pure (.bl false)):=rfl
  obtain ⟨pd4,o5',p4,e5⟩:=lw1 GR GO scr (some (.pure (.int c))) (ruD h w bs) (.tup [.lst (ns'.map t1D),.lst (ps.map prD)]) o6 (fun pd hp=>go h w bs k ns' ps pd R hk L hp) (fun x hx=>gr h w bs x R hx) p3 o5
  obtain ⟨pd5,o6',p5,e6⟩:=lw2 GD GX GK scr (some (.pure (.int c))) (ruD h w bs) (.lst (ns'.map t1D)) (ps.map prD) (by rw [List.length_map,L.l2]; exact hk) (fun pd hp=>gk h w bs ps pd (by rw [L.l2]; exact hk) hp) (fun d hd=>gd h w bs d hd) (fun d hd hf=>gx h w bs d hd hf) p4 o5' o6
  refine ⟨_,lwSt scr (some (.pure (.int c))) pd5 (ruD h w bs) (.tup [.lst (ns'.map t1D),.lst (ps.map prD)]) o5' o6',rfl,?_,_,_,_,_,_,_,rfl⟩
  generalize D.tup [.lst (ns'.map t1D),.lst (ps.map prD)]=LN at *
  generalize ruD h w bs=ru at *
  refine dSeq_step (δ1:=[some (.pure scr),some (.pure (.int c)),some (.own pd1),o3,o4,o5,o6]) ?_ ?_
  ·simp [dAsg,eCall,ios,ndup,isOwn,evX,mkA,putA,eVar,e1]
  refine dSeq_step (δ1:=[some (.pure scr),some (.pure (.int c)),some (.own pd2),some (.pure ru),o4,o5,o6]) ?_ ?_
  ·simp [dAsg,eCall,ios,ndup,isOwn,evX,mkA,putA,eVar,e2]
  refine dSeq_step (δ1:=lwSt scr (some (.pure (.int c))) pd3 ru LN o5 o6) ?_ ?_
  ·simp [lwSt,dAsg,eCall,ios,ndup,isOwn,evX,mkA,putA,eVar,e3]
  refine dSeq_step (δ1:=lwSt scr (some (.pure (.int c))) pd3 ru LN o5 o6) ?_ ?_
  ·simp [lwSt,dTr,eCall,ios,ndup,isOwn,evX,mkA,putA,eVar,e4,isb]
  refine dSeq_step e5 ?_
  exact e6)
 have K:(dSeq (dFor (iSq (eOp pAdd (eLst (aCons (eCall GC [.val (eVar 0),.val (eD (.int 0))]) aNil)) (bOf (eSlN 0 (oSome (eD (.int 1))) (oSome (eD (.int 6))))))) (gNm [] 1) (dSeq (dAsg (eCall GP [.val (eVar 1)]) (gNm [] 2)) (dSeq (dAsg (eCall GB [.io 2,.val (eD (.int 6))]) (gNm [] 3)) (dSeq (dAsg (eCall GL [.io 2,.val (eVar 3)]) (gNm [] 4)) (dSeq (dIf (dTr (eOp (pIsB true) (eCall GH [.val (eVar 3),.val (eVar 4)]) (bOf (eD (.bl true))))) (dRet (eD (.bl false))) dNext) (dSeq (dFor (iRange1 (eD (.int 5))) (gNm [] 5) (dIf (dNot (dTr (eCall GR [.val (eVar 3),.val (eCall GO [.io 2,.val (eVar 3),.val (eVar 4)])]))) (dRet (eD (.bl false))) dNext)) (dFor (iSq (eLst (aCons (eCall GK [.io 2,.val (eVar 3),.val (eOpF pIx 4 (bOf (eD (.int 1))))]) (aCons (eC1 pTuple (bOf (eOpF pIx 4 (bOf (eD (.int 1)))))) (aCons (eD .non) (aCons (eOp pMulL (eLstC [.tup [.int 0,.int 0]]) (bOf (eD (.int 61)))) (aCons (eD (.str [])) (aCons eDict0 (aCons (eD (.int 0)) aNil))))))))) (gNm [] 6) (dIf (dOr (dNot (dTr (eCall GD [.val (eVar 3),.val (eVar 6)]))) (dTr (eOp pGt (eC1 pLen (bVar 6)) (bOf (eD (.int 60)))))) (dIf (dNot (dTr (eCall GX [.val (eVar 3),.val (eVar 6)]))) (dRet (eD (.bl false))) dNext) dNext)))))))) (dRet (eD (.bl true)))) (startD 7 [.pure scr]) = .ok (.ret (.pure (.bl true))) [some (.pure scr),o1,o2,o3,o4,o5,o6]:=by
  refine dSeq_step (δ1:=[some (.pure scr),o1,o2,o3,o4,o5,o6]) ?_ ?_
  ·have hs:(iSq (eOp pAdd (eLst (aCons (eCall GC [.val (eVar 0),.val (eD (.int 0))]) aNil)) (bOf (eSlN 0 (oSome (eD (.int 1))) (oSome (eD (.int 6))))))) (startD 7 [.pure scr]) = .ok CS [some (.pure scr),none,none,none,none,none,none]:=by
    simp [startD,ev_sq,eCall,ios,ndup,isOwn,evX,mkA,putA,eVar,bVar,e0,eSlN,oSome,hsl,ha]
   rw [ev_dFor,hs]
   exact e
  ·simp
 rw [gOf_def,K]
 simp [ioOk,resOf,outsOf]
theorem r_law13 (ce:Tx→Nat) (ns:List Int) (hn:ns.length≤63):G_law ce [.pure (.lst (ns.map .int))]=some (.pure (.bl true),[.pure (.lst (ns.map .int))]):=by
 rw [G_law,b_law]
 exact q_law G__law_cell_at G__law_pen_of G__law_rule_by G__law_line_of G_line_holds G__law_right G__law_odd_of G__law_odd_digits G__law_digits_good (G__law_refused ce) r_pen
  (fun d hp=>by obtain ⟨h,w,bs,d',e,R,_,p⟩:=r_rule_by hp 6 (by decide) (by decide); exact ⟨h,w,bs,d',e,R,p⟩)
  (fun h w bs d R hp=>r_line_of R hp) (fun h w bs d R hd=>r_line R d hd) (fun h w bs d R hd=>r_right R d hd) (fun h w bs k ns ps d R hk L hp=>r_odd_of R hk L hp)
  (fun h w bs ps pd hk hp=>r_odd_digits ps hk hp) (fun h w bs d hd=>by obtain ⟨x0,x1,x2⟩:=ru_ix h w bs; exact r_lawdigits _ d x0 x1 hd)
  (fun h w bs d hd hf=>by obtain ⟨x0,x1,x2⟩:=ru_ix h w bs; exact r_refused ce _ d x0 x1 hd hf) ns hn (r_cell_zero ns)
def Gt:DF:=fun ss=>match ss with
 | [.pure (.lst ds)]=>match intsD ds with
  | some ns=>if ns.length≤63 then some (.pure (.bl true),ss) else none
  | none=>none
 | _=>none
theorem r_law (ns:List Int) (h:ns.length≤63):∃ outs,Gt [.pure (.lst (ns.map .int))]=some (.pure (.bl true),outs):=by
 unfold Gt
 simp only [DV.ints_map,h,if_true]
 exact ⟨_,rfl⟩
theorem ints_eq:∀ {ds:List D} {ns:List Int},intsD ds=some ns→ds=ns.map .int
 | [],ns,h=>by simp [intsD] at h; subst h; rfl
 | d :: r,ns,h=>by
  cases d with
  | int i =>
   simp only [intsD] at h
   cases e:intsD r with
   | none=>rw [e] at h; cases h
   | some m =>
    rw [e] at h
    cases h
    rw [ints_eq e]
    rfl
  | _=>simp [intsD] at h
theorem law_all:∀ ce ss y,Gt ss=some y→G_law ce ss=some y:=by
 intro ce ss y h
 unfold Gt at h
 split at h
 ·rename_i ds
  cases hi:intsD ds with
  | none=>rw [hi] at h; cases h
  | some ns =>
   rw [hi] at h
   by_cases hn:ns.length≤63
   ·simp only [hn,if_true] at h
    cases h
    have e:=ints_eq hi
    subst e
    exact r_law13 ce ns hn
   ·simp only [hn,if_false] at h
    cases h
 ·cases h
end K13
open PySem PySem.W PyProof.Rows
set_option Elab.async false
def PySem.W.Fast.tw12801405265597263903:Nat:=0
def PySem.W.Fast.tw508806876964336054:Nat:=0
def PySem.W.Fast.tw8989126469966236102:Nat:=0
def PySem.W.Fast.tw6988371146176626075:Nat:=0
def PySem.W.Fast.tw258908470217384206:Nat:=0
def PySem.W.Fast.tw17086101404118812192:Nat:=0
def PySem.W.Fast.tw15612007757121669339:Nat:=0
def PySem.W.Fast.tw1152258962751543006:Nat:=0
def PySem.W.Fast.tw14908178060600286067:Nat:=0
def PySem.W.Fast.tw11762150908785366253:Nat:=0
def PySem.W.Fast.tw11084602116378395979:Nat:=0
set_option maxRecDepth 100000 in
set_option maxHeartbeats 0 in
theorem PySem.Challenge.cw_tilegrow_k13_lines_by_anybody_holds : PySem.Challenge.rw_tilegrow_k13_lines_by_anybody.Holds := by
 w_on; o_law; k_head; (case hw=>w_witness2)
 k_fill
 refine DV.walkD (l:=PySem.Challenge.rw_tilegrow_k13_lines_by_anybody) (k:=7) (G:=K13.Gt) rfl rfl ⟨rfl,by decide,by decide⟩ (fun w h Y=>PySem.W.kIn_of Y) ?L K13.r_law ?F
 case L=>intro p; exact Eq.refl true
 case F =>
  intro w mg fa h KX G hmg
  refine' K13.all_mk K13.law_all KX G hmg ?a0 ?l0 ?c0 ?k0 ?a1 ?l1 ?c1 ?k1 ?a2 ?l2 ?c2 ?k2 ?a3 ?l3 ?c3 ?k3 ?a4 ?l4 ?c4 ?k4 ?a5 ?l5 ?c5 ?k5 ?a6 ?l6 ?c6 ?k6 ?a7 ?l7 ?c7 ?k7 ?a8 ?l8 ?c8 ?k8 ?a9 ?l9 ?c9 ?k9 ?a10 ?l10 ?c10 ?k10 ?a11 ?l11 ?c11 ?k11 ?a12 ?l12 ?c12 ?k12 ?a13 ?l13 ?c13 ?k13 ?a14 ?l14 ?c14 ?k14 ?a15 ?l15 ?c15 ?k15 ?a16 ?l16 ?c16 ?k16 ?a17 ?l17 ?c17 ?k17 ?a18 ?l18 ?c18 ?k18 ?a19 ?l19 ?c19 ?k19 ?a20 ?l20 ?c20 ?k20 ?a21 ?l21 ?c21 ?k21 ?a22 ?l22 ?c22 ?k22 ?z_ValueError ?z_all ?z_bool ?z_dict ?z_enumerate ?z_int ?z_isinstance ?z_len ?z_list ?z_max ?z_range ?z_str ?z_tuple ?g_MOST_GROWINGS ?ac_FloorError ?ac_NoFloor ?ac_NoPlace ?ac_NoNumber ?ac_NoRow ?ac_Unlike ?ac_NoTile ?ac_NoRule ?ac_NoText ?ac_TooGreat ?qc_FloorError ?qc_NoPlace ?spc ?tkc ?ga_NoPlace ?gt_NoPlace ?cl_NoPlace ?mo_NoPlace ?mb_NoPlace ?ci_NoPlace ?kv_NoPlace ?ki_NoPlace_NoFloor ?ki_NoPlace_NoPlace ?ki_NoPlace_NoNumber ?ki_NoPlace_NoRow ?ki_NoPlace_Unlike ?ki_NoPlace_NoTile ?ki_NoPlace_NoRule ?ki_NoPlace_NoText ?ki_NoPlace_TooGreat ?mr_NoPlace_FloorError
  (case a0=>k_is); (case l0=>k_is); (case c0=>k_is); (case k0=>k_is); (case a1=>k_is); (case l1=>k_is); (case c1=>k_is); (case k1=>k_is)
  (case a2=>k_is); (case l2=>k_is); (case c2=>k_is); (case k2=>k_is); (case a3=>k_is); (case l3=>k_is); (case c3=>k_is); (case k3=>k_is)
  (case a4=>k_is); (case l4=>k_is); (case c4=>k_is); (case k4=>k_is); (case a5=>k_is); (case l5=>k_is); (case c5=>k_is); (case k5=>k_is)
  (case a6=>k_is); (case l6=>k_is); (case c6=>k_is); (case k6=>k_is); (case a7=>k_is); (case l7=>k_is); (case c7=>k_is); (case k7=>k_is)
  (case a8=>k_is); (case l8=>k_is); (case c8=>k_is); (case k8=>k_is); (case a9=>k_is); (case l9=>k_is); (case c9=>k_is); (case k9=>k_is)
  (case a10=>k_is); (case l10=>k_is); (case c10=>k_is); (case k10=>k_is); (case a11=>k_is); (case l11=>k_is); (case c11=>k_is); (case k11=>k_is)
  (case a12=>k_is); (case l12=>k_is); (case c12=>k_is); (case k12=>k_is); (case a13=>k_is); (case l13=>k_is); (case c13=>k_is); (case k13=>k_is)
  (case a14=>k_is); (case l14=>k_is); (case c14=>k_is); (case k14=>k_is); (case a15=>k_is); (case l15=>k_is); (case c15=>k_is); (case k15=>k_is)
  (case a16=>k_is); (case l16=>k_is); (case c16=>k_is); (case k16=>k_is); (case a17=>k_is); (case l17=>k_is); (case c17=>k_is); (case k17=>k_is)
  (case a18=>k_is); (case l18=>k_is); (case c18=>k_is); (case k18=>k_is); (case a19=>k_is); (case l19=>k_is); (case c19=>k_is); (case k19=>k_is)
  (case a20=>k_is); (case l20=>k_is); (case c20=>k_is); (case k20=>k_is); (case a21=>k_is); (case l21=>k_is); (case c21=>k_is); (case k21=>k_is)
  (case a22=>k_is); (case l22=>k_is); (case c22=>k_is); (case k22=>k_is); (case z_ValueError=>k_is); (case z_all=>k_is); (case z_bool=>k_is); (case z_dict=>k_is)
  (case z_enumerate=>k_is); (case z_int=>k_is); (case z_isinstance=>k_is); (case z_len=>k_is); (case z_list=>k_is); (case z_max=>k_is); (case z_range=>k_is); (case z_str=>k_is)
  (case z_tuple=>k_is); (case g_MOST_GROWINGS=>k_is); (case ac_FloorError=>k_is); (case ac_NoFloor=>k_is); (case ac_NoPlace=>k_is); (case ac_NoNumber=>k_is); (case ac_NoRow=>k_is); (case ac_Unlike=>k_is)
  (case ac_NoTile=>k_is); (case ac_NoRule=>k_is); (case ac_NoText=>k_is); (case ac_TooGreat=>k_is); (case qc_FloorError=>kernel_rfl); (case qc_NoPlace=>kernel_rfl); (case spc=>k_is); (case tkc=>k_is)
  (case ga_NoPlace=>k_is); (case gt_NoPlace=>k_is); (case cl_NoPlace=>k_is); (case mo_NoPlace=>k_is); (case mb_NoPlace=>k_is); (case ci_NoPlace=>k_is); (case kv_NoPlace=>kit_is); (case ki_NoPlace_NoFloor=>kit_is)
  (case ki_NoPlace_NoPlace=>kit_is); (case ki_NoPlace_NoNumber=>kit_is); (case ki_NoPlace_NoRow=>kit_is); (case ki_NoPlace_Unlike=>kit_is); (case ki_NoPlace_NoTile=>kit_is); (case ki_NoPlace_NoRule=>kit_is); (case ki_NoPlace_NoText=>kit_is); (case ki_NoPlace_TooGreat=>kit_is)
  (case mr_NoPlace_FloorError=>k_is)
